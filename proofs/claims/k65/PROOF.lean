import PyProof.Rows.All
import KE.RegKTryMore
import KE.KDictOf
import KE.KItem
import KE.KxText
import PySem.Challenge.RW_holdback_k65_whole_deeds_behind_a_coming
set_option linter.all false
set_option maxRecDepth 100000
set_option maxHeartbeats 8000000
set_option tactic.hygienic false
set_option compiler.extract_closed false
open PySem PySem.Spec PyProof.Rows
def pT (s:Lean.Syntax):Lean.Syntax:=
 let N:=Lean.Syntax.node .none;let T s:=`Lean.Parser.Tactic++.mkSimple s;let R s:=T "rcasesPat"++.mkSimple s
 s.rewriteBottomUp fun
  |s@(.ident _ _ _ _)=>N (R "one") #[s]
  |s@(.node _ k a)=>if k== `«term[_]» then N (R "tuple") #[a[0]!,N `null (a[1]!.getArgs.mapIdx fun i x=>if i%2==0 then N (T "rcasesPatLo") #[N (T "rcasesPatMed") #[N `null #[x]],N `null #[]] else x),a[2]!] else if k== `Lean.Parser.Term.hole then N (R "ignore") a else if k== `«term_||_» then N `u (if a[0]!.isOfKind `u then a[0]!.getArgs++a[1:] else a) else s
  |s=>s
theorem A'2{z:Prop}(k:A->B->z)(h:A/\B):z:=k h.1 h.2
theorem A'3{z:Prop}(k:A->B->C->z)(h:A/\B/\C):z:=A'2 (λx=>A'2 (k x)) h
theorem A'4{z:Prop}(k:A->B->C->D->z)(h:A/\B/\C/\D):z:=A'2 (λx=>A'3 (k x)) h
theorem A'5{z:Prop}(k:A->B->C->D->F->z)(h:A/\B/\C/\D/\F):z:=A'2 (λx=>A'4 (k x)) h
theorem A'6{z:Prop}(k:A->B->C->D->F->G->z)(h:A/\B/\C/\D/\F/\G):z:=A'2 (λx=>A'5 (k x)) h
theorem A'7{z:Prop}(k:A->B->C->D->F->G->I->z)(h:A/\B/\C/\D/\F/\G/\I):z:=A'2 (λx=>A'6 (k x)) h
theorem A'8{z:Prop}(k:A->B->C->D->F->G->I->J->z)(h:A/\B/\C/\D/\F/\G/\I/\J):z:=A'2 (λx=>A'7 (k x)) h
theorem A'9{z:Prop}(k:A->B->C->D->F->G->I->J->L->z)(h:A/\B/\C/\D/\F/\G/\I/\J/\L):z:=A'2 (λx=>A'8 (k x)) h
theorem A'10{z:Prop}(k:A->B->C->D->F->G->I->J->L->M->z)(h:A/\B/\C/\D/\F/\G/\I/\J/\L/\M):z:=A'2 (λx=>A'9 (k x)) h
theorem A'1{p:α->Prop}{z:Prop}(k:∀ x,p x->z)(h:∃ x,p x):z:=h.elim k
local macro_rules
 |`(tactic|let [$p,$ps,*]:=$e)=>do
  let q:=pT (<-`([$p,$ps,*]));let o<-`(tactic|obtain $(⟨.node .none `Lean.Parser.Tactic.rcasesPatMed #[.node .none `null (if q.isOfKind `u then q.getArgs else #[q])]⟩):rcasesPatMed:=$e)
  let s:=ps.getElems
  if s.isEmpty then return o
  let c<-`(tactic|try clear $(⟨e⟩))
  let c:=if e.raw.isIdent then #[c] else #[]
  let g f (x:Lean.Term) (s:Array Lean.Term):Lean.MacroM (Lean.TSyntax `tactic):=do
   let f:=Lean.mkIdent f
   let r<-if c.isEmpty&&(s.push x).all fun t=>t.raw.isOfKind `Lean.Parser.Term.hole||t.raw.isIdent&&t.raw.getId≠`rfl then pure #[<-`(tactic|refine $f (fun $x $s*=>?_) $e)] else pure (#[<-`(tactic|refine $f ?_ $e)]++c++#[<-`(tactic|intro $x $s*)])
   `(tactic|($[$r];*))
  let r<-if s.size==1 then pure s else pure #[<-`([$ps,*])]
  `(tactic|first|$(<-g (.mkSimple s!"A'{s.size+1}") p s):tactic|$(<-g `A'2 p r):tactic|$(<-g `A'1 p r):tactic|$o:tactic)
 |`(tactic|let $p:term:=$e)=>if p.raw.isOfKind `«term_||_» then let q:=pT p;`(tactic|obtain $(⟨.node .none `Lean.Parser.Tactic.rcasesPatMed #[.node .none `null (if q.isOfKind `u then q.getArgs else #[q])]⟩):rcasesPatMed:=$e) else Lean.Macro.throwUnsupported
local macro_rules|`(tactic|intro $ts*)=>do
  let f:=(·.raw.isOfKind `«term[_]»)
  let h (t:Lean.Term):=t.raw.isIdent&&t.raw.getId== `rfl
  unless ts.any f||ts.any h do Lean.Macro.throwUnsupported
  let v:=Lean.mkIdent `v9
  let mut r:=#[]
  let mut a:Array Lean.Term:=#[]
  for t in ts do
   if f t then
    a:=a.push v
    r:=(r.push (<-`(tactic|intro $a*))).push (<-`(tactic|let $t:term:=$v));a:=#[]
   else if h t then
    unless a.isEmpty do r:=r.push (<-`(tactic|intro $a*))
    r:=r.push (<-`(tactic|rintro $(⟨.node .none `Lean.Parser.Tactic.rintroPat.one #[pT t]⟩)));a:=#[]
   else a:=a.push t
  unless a.isEmpty do r:=r.push (<-`(tactic|intro $a*))
  `(tactic|($[$r];*))
local macro_rules|`({$xs:term,*})=>`(⟨$xs,*⟩)
open _root_.Array renaming length_toList->dk,getElem?_eq_getElem->dt,getElem?_eq_some_iff->ik,getElem?_toList->jy,getElem?_eq_none->yh,mem_toList_iff->y_,append_assoc->Ao,size_append->Bu,toList_push->Cs,isEmpty_iff->Di,all_toList->Fs,all_append->Gf,toList->Ju
open _root_.Bool renaming false_ne_true->ax,and_eq_true->cb,or_false->fi,eq_iff_iff->mj,or_eq_false_iff->oa,false_eq_true->rq,or_assoc->um,or_eq_true->uv,true_or->vb,not_eq_true'->xc,eq_false_iff->B_,not_eq_true->Fi,and_false->Iv,false_or->Iz
open _root_.False renaming elim->jr
open _root_.ForInStep renaming yield->ji
open _root_.Function renaming comp_def->xg
open _root_.Iff renaming rfl->Ki
open _root_.Int renaming toNat_natCast->bv,ofNat_lt->ck,toNat_of_nonneg->di,zero_add->il,ofNat_le->i_,natCast_nonneg->jq,not_lt->rf,emod_lt_of_pos->vh,eq_ofNat_of_zero_le->xr,emod_nonneg->ym,lt_succ->zo,le_of_lt->Be,natCast_ediv->Fu,natCast_emod->F_,min_eq_left->Gu,natCast_add->Hn,le_trans->Js,ne_of_gt->Kn
open _root_.Int.ofNat renaming inj->bh
open _root_.List renaming getElem?_eq_some_iff->ε,getElem?_eq_getElem->ζ,length_map->η,mem_of_getElem?->ι,range->μ,getElem?_map->ρ,mem_singleton->τ,length_append->ψ,mem_cons_of_mem->ω,mem_cons_self->aa,getElem?_append_left->ae,mem_cons->af,lookup_cons->ai,mem_range->ao,map_append->au,mem_map->az,size_toArray->a_,getElem?_append_right->ba,replicate->bd,mem_append->bg,range_succ->bq,getElem?_eq_none->bt,length_reverse->bz,not_mem_nil->ca,take_length->ce,mem_append_right->cu,length_range->cz,length_take->de,map_cons->df,length_filter_le->dg,length_eq_zero_iff->dr,getElem?_set_self->fb,mem_filter->fe,length_cons->fj,any_eq_true->fk,append_assoc->fu,getElem?_set_ne->fz,length_set->f_,lookup->gj,take_add_one->gk,pairwise_cons->h_,filter_append->ia,flatten_cons->ii,foldl_append->io,map_map->ip,reverse_cons->iq,nodup_cons->ir,eraseIdx_eq_take_drop_succ->iu,length_drop->iy,length_filterMap_le->jb,mem_append_left->jc,foldl_cons->jh,getElem_of_mem->jk,take_of_length_le->jn,all_eq_true->jp,find?_eq_none->jw,length_singleton->jx,append_nil->jz,length_nil->kd,replicate_succ->kz,nodup_nil->lb,find?_eq_some_iff_append->lw,pairwise_lt_range->ma,any_cons->mq,take_append_drop->mw,cons_lt_cons_iff->mx,mem_iff_getElem?->my,nodup_append->m_,length->nq,cons_append->om,Perm->oq,drop_eq_getElem_cons->oz,mem_or_eq_of_mem_set->o_,getElem?_range->ph,take_append_getElem->pi,eq_of_mem_replicate->pq,nil_append->pz,mem_filterMap->qy,map_inj_right->r_,append_eq_nil_iff->tz,length_replicate->t9,getElem_mem->ud,mem_flatMap->uh,all_cons->uk,reverse_reverse->uq,filterMap_cons->ux,countP_pos_iff->u_,getD_eq_getElem?_getD->vo,getElem?_drop->vp,length_eraseIdx_of_lt->vq,getElem?_take->wa,range_add->wb,nodup_iff_pairwise_ne->wc,pairwise_iff_getElem->wk,mem_of_find?_eq_some->wn,getElem?_eq_none_iff->wo,any_eq_false->wq,ext_getElem?->xb,not_lt->xf,pairwise_map->xh,map_drop->xq,getElem?_replicate->xu,filter_cons_of_neg->xy,filter_cons_of_pos->xz,range_succ_eq_map->yf,map_nil->yg,filter_eq_nil_iff->yl,of_mem_zip->yo,forIn_cons->yp,getElem?_toArray->yv,filterMap_append->yx,length_take_le'->ze,nodup_iff_count->zm,mem_of_mem_drop->zp,mem_of_mem_take->zq,map_eq_nil_iff->zw,map_congr_left->zy,map_take->Ae,foldl->Ar,countP_append->As,count_pos_iff->At,take_sublist->Bf,all_map->Ce,getElem_take->Cn,filter_congr->Do,getElem?_set->Dr,head?_filter->Ds,getElem_inj->Du,filter_cons->Ei,perm_middle->Et,range'_succ->Fe,countP_cons->Fn,mem_reverse->Fo,filter_map->Ha,find?_cons->He,find?_some->Hf,any_append->Hi,drop_zero->Iw,map_set->Kf,range'->Ks,map->Kt
open _root_.List.Nodup renaming length_le_of_subset->ug
open _root_.List.Pairwise renaming nil->Bt
open _root_.List.cons renaming injEq->uw
open _root_.Nat renaming le_refl->ο,le_trans->υ,lt_of_lt_of_le->χ,zero_le->aw,le_of_eq->ay,ne_of_lt->bm,le_of_not_lt->bx,le_succ_of_le->b_,lt_of_le_of_lt->cf,mul_comm->cm,le_of_lt_succ->cy,add_mul->dn,mul_le_mul->dq,add_assoc->dv,lt_or_ge->dz,lt_succ_self->d_,le_of_ble_eq_true->gq,lt_of_le_of_ne->g_,le_succ->ic,exists_eq_add_of_le->ie,le_of_lt->ig,lt_of_lt_of_eq->iz,ne_of_gt->ja,lt_irrefl->jo,min_eq_left->j_,le_antisymm->ka,mul_add_mod->ke,mul_add_div->kf,lt_succ_of_lt->ki,sub_self->kj,div_lt_of_lt_mul->ko,reduceEqDiff->lq,eq_zero_or_pos->me,not_lt_zero->mf,mod_lt->nv,mul_le_mul_right->og,succ_lt_succ->oy,div_add_mod->qx,pos_of_ne_zero->rn,lt_succ_of_le->sv,succ_mul->sy,add_comm->s_,add_le_add->tm,zero_add->tq,div_lt_iff_lt_mul->ua,succ_le_succ->uf,le_add_left->ut,add_le_add_left->uy,zero_mul->vd,reduceAdd->xp,le_add_right->xw,lt_trans->ye,le_of_succ_le_succ->yk,sub_eq_zero_of_le->yu,add_le_add_right->yy,ble->zr,min_eq_right->Ee,div_add_mod'->Ft,div_eq_of_lt->Ga,mod_eq_of_lt->Ge,not_lt->Hu
open _root_.Nat.succ renaming inj->Ke
open _root_.Ne renaming symm->eh
open _root_.Option renaming map_eq_some_iff->bc,isSome_iff_exists->c_,map_some->p_,bind_eq_some_iff->si,isNone_iff_eq_none->wm,isSome_map->ww,none->wx,map_map->zj,filter->Aa
open _root_.Option.some renaming inj->θ,injEq->wz
open _root_.Or renaming inr->zg,inl->Eo
open _root_.PyProof.Rows renaming slot_tuple_getitem->jj,callWith_type1->jm,IntsAre->qu,AllBare->sr,size_push'->ue,step_dedup->vt,firstMet->vx,firstMet_length_le->vy,envOfC->xi,subscriptTail_builtinR->yc,sortedS->Ht,Subscript_->Ij
open _root_.PyProof.Rows.F renaming entry_set_update_loop->pd,plain_set_update_loop->zv
open _root_.PyProof.Rows.IntsAre renaming length->zl
open _root_.PyProof.Rows.IsTup renaming new->Ji
open _root_.PySem renaming wpAny_bind->δ,Shared->ν,wpAny_pure->π,starEach->av,Program->bu,mainGlobals->bw,Around->dh,compareOp->du,wpAny_callSpecial?_slot->ee,wpAny_holding->ff,wpAny_call_entry->fg,wpAny_newObj_type->fq,FuncData->gi,tupleKind_room_in1->gy,binaryOp->iw,sysModules->ix,backTo->jd,wpAny_field->je,tupleKind->jf,wpAny_truthy_bool->jg,wpAny_setField_rec->jv,wpAny_setState_of->kg,wpAny_attempt->kx,intKind->ky,wpAny_setEntries_of->k_,wpAny_askSetting->lg,wpAny_isInstance->lj,keywordEach->lu,codeAny_mono->l8,codeAny_builtin->mh,behindInMarks->mo,rawInt->mv,foldedSetIterable->mz,wpAny_dictEntries->na,wpAny_mono->ni,wpAny_passesOwn->py,wpAny_specialOf->qt,wpAny_ite_false->qw,wpAny_Call_Name_kw->q_,call_meets->rg,wpAny_rule->rk,bootBuiltins->sq,holding->ss,wpAny_setField->tf,getMethod->uc,codeAny->ui,attributeBase->uj,Builtin->ul,backToKw->uo,wpAny_execs_nil->uu,wpAny_typeOf->va,call_meetsIn->vc,swapsWith->ve,scanBound->vg,entryOfKey->vj,assignEach->vm,PyData->vn,wpAny_fieldsOf->vz,wpAny_binaryOp_repeat_ref->wg,sizeLine_eq->wp,BindsTo->wu,storedH->wv,wpAny_pyIter_list->wy,fits_of_scanBound->w_,wpAny_comprehension_free->xj,ExceptHandler->xl,plainId_quiet->xm,NameKind->xt,noFill_tuple_add->xv,standAt->x_,wpAny_call->ya,getItem->yb,typeIs_int->yd,letOwnedTupleGo->yn,wpAny_updateSeq->yr,wpAny_isTrue_Compare1->yt,wpAny_notOrdered_dict->yw,pyNext->yz,callWith->zb,IsPart->zd,subscripted->zf,codeAny_call_builtin->zh,wpAny_seqItems->zi,isSubtype_stop->zk,Keyword->zt,ElemsOf->zu,isSubtype_dict_dict->zx,wpAny_standAt->zz,seq_tuple_add->z_,GenState->A_,wpAny_assign_Name->Ba,concat_meets->Bi,seqIndex_neg->Bn,slot_list_getitem->Bo,valueAt->Br,wpAny_Call_method->Bs,relayAll->Co,wpAny_storeSet_of->Ct,setNext->Cu,wpAny_pyIter_slot->C_,wpAny_setEpoch_of->De,wpAny_pyIter_enum->Df,wpAny_execs_cons->D_,pyIter->Ea,wpAny_Dict_empty->En,setFlight->Er,checkBuiltinCall->Es,DictEntry->Eu,wpAny_forIn_list->Fa,wpAny_items_cons->Ff,seqIndex_of->Go,sliceBounds->Gr,wpAny_of_eq->Gs,callerA->Hr,builtinsNs->Ic,wpAny_Name->Ie,typeLookup->Ii,typeIs_str->Il,isInstance->Io,intKind_is->Iq,cellsFrom->Jf,noteFrame->Jo,pickOrder->Jr,isTrue->Jt,assign->J_,setItem->Ka
open _root_.PySem.AutoSeq1 renaming wpAny_loadPart'->xo
open _root_.PySem.Builtin.Dict renaming updateFrom->xx,mergeDict->yj
open _root_.PySem.Builtin.Frozenset renaming updateFrom->G_
open _root_.PySem.Builtin.List renaming listTooLong->ku,listSameRef->xn
open _root_.PySem.Builtin.Range renaming rangeSize->Ja
open _root_.PySem.Builtin.Slice renaming sliceAdjust->we,slicePlaces->wf,slicePartIndex->G6,sliceApplied->Ig
open _root_.PySem.Builtin.SmallTypes renaming nextOf->wj
open _root_.PySem.Builtin.Tuple renaming tupleItemsOf->Ih,tupleTooMany->Im,tupleHashOf->Ix
open _root_.PySem.Calls renaming evalArgs_plain->nr,spliced_cons->qz,callWith_builtin->sx,Name_function_global->vk,spliced_nil->wt
open _root_.PySem.CmpOp renaming NotIn->Kr
open _root_.PySem.Heap renaming get?_push_of_some->ξ,lt_size->aj,get?_push_size->ak,get?_update_other->da,get?_update_self->dw,SameBut->gr,ExtBut->nu,size_push->za
open _root_.PySem.Heap.IsSliceOf renaming new->Ku
open _root_.PySem.Heap.SameBut renaming update->fm,refl->xa
open _root_.PySem.NameKind renaming free->gb,cell->gg
open _root_.PySem.Obj renaming data_mapFields->jt,mapSeq->l_,data_mapDictKeys->n_,isFreed_of_fields->t_,isFreed_of_dict->uz,mapFields->xk,data_mapDict->E_,putSet->Ir
open _root_.PySem.PyData renaming strOk->gu,eqv->gz,eqvAll->pr,canLayAll0->tj,int->v_,depthAll->yq,depth->Ca,tuple->Ko
open _root_.PySem.SeqAt renaming in_tupleAt->Ef,EqAt->K_
open _root_.PySem.SeqAt.EqAt renaming int_str->Ai,str_int->An
open _root_.PySem.SetTable renaming below->ju,grown->nz,Probe->Ip,slot->I_
open _root_.PySem.SetTable.below renaming go->Cf
open _root_.PySem.SetTable.probe renaming go->Ci
open _root_.PySem.Str renaming ofString->cj,length->Ik,empty->Je
open _root_.PySem.Value renaming ref->e_,none->kq,type->nc,isInt_shape->sj,int->ub,str->Dt,isInt->Gi,bool->H_,isStrOf->Iy
open _root_.PySem.Walks renaming list->La
open _root_.PySem.pickOrder renaming go->Cr
open _root_.Std.Legacy.Range renaming forIn_eq_forIn_range'->zn
open _root_.Sum renaming inl->Au,inr->Ho
open _root_.Sum.inl renaming injEq->Af
open _root_.Sum.inr renaming inj->Gn
open _root_.True renaming intro->nj
namespace L2
def md(y:Int)(k:Nat)(h:0<k):∃ n:Nat,1+y%(k:Int)=n/\1<=n/\n<=k:=by
 let[b,e]:=xr (ym y (show(k:Int)≠0 by omega))
 have:=vh y (show 0<(k:Int) by omega);exact{1+b,by omega,by omega,by omega}
def mn(y:Int)(k:Nat)(h:0<k):∃ n:Nat,y%(k:Int)=n/\n<k:=by
 let[b,e]:=xr (ym y (show(k:Int)≠0 by omega))
 have:=vh y (show 0<(k:Int) by omega);exact{b,e,by omega}
section
variable{a b c k:Nat}{z:Int}
def c3(h:a<3):a=0\/a=1\/a=2:=by
 let _||_||_||n:=a
 exact .inl rfl;exact .inr<|.inl rfl;exact .inr<|.inr rfl;exact absurd h<|Hu.mpr<|ut 3 n
def c5{a:Nat}(h:a<5):a=0\/a=1\/a=2\/a=3\/a=4:=by revert a;decide
def cq{n i:Nat}(h:i<n):n-(i+1)<n-i:=Nat.sub_lt_sub_left h<|d_ i
def oA(h:a<=b)(d:zr b c=true):a<=c:=υ h<|gq d
def oB(h:a<b)(d:zr b (c+1)=true):a<=c:=cy<|χ h<|gq d
def oC(h:a<=b)(d:zr (b+1) c=true):a<c:=cf h<|gq d
def oD(h:a<b)(d:zr b c=true):a<c:=χ h<|gq d
def oE(h:a<=b)(d:zr (b+k) c=true):a+k<=c:=υ (yy h k) (gq d)
def oG(h:a<=b)(d:zr (b+k+1) c=true):a+k<c:=cf (yy h k) (gq d)
def oH(h:a<b)(d:zr (b+k) c=true):a+k<c:=χ (Nat.add_lt_add_right h k) (gq d)
def iA(h:a<=b)(d:decide ((b:Int)<z)=true):(a:Int)<z:=Int.lt_of_le_of_lt (i_.mpr h) (of_decide_eq_true d)
def iB(h:a<b)(d:decide ((b:Int)<=z)=true):(a:Int)<z:=Int.lt_of_lt_of_le (ck.mpr h) (of_decide_eq_true d)
def iM(d:decide (z<=0)=true):z<=(a:Int):=Js (of_decide_eq_true d) (jq a)
def i0:(0:Int)<=(a:Int):=jq a
def nE{P:Prop}(d:Nat.beq a b=false):¬(a=b/\P):=λh=>by rw[h.1,Nat.beq_refl]at d;cases d
def nL{α :Prop}(h:a<b)(g:b<=a): α :=absurd h<|Hu.mpr g
def nZ{α :Prop}(h:a<0): α :=absurd h<|mf a
end
def x2{p:A->B->Prop}(a b)(h:p a b):∃ a b,p a b:=⟨_,_,h⟩
def x3{p:A->B->C->Prop}(a b c)(h:p a b c):∃ a b c,p a b c:=⟨_,_,_,h⟩
def x4{p:A->B->C->D->Prop}(a b c d)(h:p a b c d):∃ a b c d,p a b c d:=⟨_,_,_,_,h⟩
def x5{p:A->B->C->D->F->Prop}(a b c d e)(h:p a b c d e):∃ a b c d e,p a b c d e:=⟨_,_,_,_,_,h⟩
def x6{p:A->B->C->D->F->G->Prop}(a b c d e f)(h:p a b c d e f):∃ a b c d e f,p a b c d e f:=⟨_,_,_,_,_,_,h⟩
def x7{p:A->B->C->D->F->G->I->Prop}(a b c d e f g)(h:p a b c d e f g):∃ a b c d e f g,p a b c d e f g:=⟨_,_,_,_,_,_,_,h⟩
def x8{p:A->B->C->D->F->G->I->J->Prop}(a b c d e f g i)(h:p a b c d e f g i):∃ a b c d e f g i,p a b c d e f g i:=⟨_,_,_,_,_,_,_,_,h⟩
def x9{p:A->B->C->D->F->G->I->J->L->Prop}(a b c d e f g i j)(h:p a b c d e f g i j):∃ a b c d e f g i j,p a b c d e f g i j:=⟨_,_,_,_,_,_,_,_,_,h⟩
def U8{p:A->B->C->D->F->G->I->J->L->M->Prop}(a b c d e f g i j l)(h:p a b c d e f g i j l):∃ a b c d e f g i j l,p a b c d e f g i j l:=⟨_,_,_,_,_,_,_,_,_,_,h⟩
def HS{p:A->B->C->D->F->G->I->J->L->M->N->Prop}(a b c d e f g i j l m)(h:p a b c d e f g i j l m):∃ a b c d e f g i j l m,p a b c d e f g i j l m:=⟨_,_,_,_,_,_,_,_,_,_,_,h⟩
def M9{p:A->B->C->D->F->G->I->J->L->M->N->O->Prop}(a b c d e f g i j l m n)(h:p a b c d e f g i j l m n):∃ a b c d e f g i j l m n,p a b c d e f g i j l m n:=⟨_,_,_,_,_,_,_,_,_,_,_,_,h⟩
def OS{p:A->B->C->D->F->G->I->J->L->M->N->O->P->R->Prop}(a b c d e f g i j l m n o q)(h:p a b c d e f g i j l m n o q):∃ a b c d e f g i j l m n o q,p a b c d e f g i j l m n o q:=⟨_,_,_,_,_,_,_,_,_,_,_,_,_,_,h⟩
def y2{p:A->B->Prop}(h:p a b):∃ a b,p a b:=⟨_,_,h⟩
def y3{p:A->B->C->Prop}(h:p a b c):∃ a b c,p a b c:=⟨_,_,_,h⟩
def y4{p:A->B->C->D->Prop}(h:p a b c d):∃ a b c d,p a b c d:=⟨_,_,_,_,h⟩
def y5{p:A->B->C->D->F->Prop}(h:p a b c d e):∃ a b c d e,p a b c d e:=⟨_,_,_,_,_,h⟩
def u2{p:A->B->Prop}{z:Prop}(k:∀ a b,p a b->z):(∃ a b,p a b)->z:=λh=>by let[y,y,h]:=h;exact k _ _ h
def u3{p:A->B->C->Prop}{z:Prop}(k:∀ a b c,p a b c->z):(∃ a b c,p a b c)->z:=λh=>by let[y,y,y,h]:=h;exact k _ _ _ h
def u4{p:A->B->C->D->Prop}{z:Prop}(k:∀ a b c d,p a b c d->z):(∃ a b c d,p a b c d)->z:=λh=>by let[y,y,y,y,h]:=h;exact k _ _ _ _ h
def u5{p:A->B->C->D->F->Prop}{z:Prop}(k:∀ a b c d e,p a b c d e->z):(∃ a b c d e,p a b c d e)->z:=λh=>by let[y,y,y,y,y,h]:=h;exact k _ _ _ _ _ h
def u6{p:A->B->C->D->F->G->Prop}{z:Prop}(k:∀ a b c d e f,p a b c d e f->z):(∃ a b c d e f,p a b c d e f)->z:=λh=>by let[y,y,y,y,y,y,h]:=h;exact k _ _ _ _ _ _ h
def u7{p:A->B->C->D->F->G->I->Prop}{z:Prop}(k:∀ a b c d e f g,p a b c d e f g->z):(∃ a b c d e f g,p a b c d e f g)->z:=λh=>by let[y,y,y,y,y,y,y,h]:=h;exact k _ _ _ _ _ _ _ h
def u8{p:A->B->C->D->F->G->I->J->Prop}{z:Prop}(k:∀ a b c d e f g i,p a b c d e f g i->z):(∃ a b c d e f g i,p a b c d e f g i)->z:=λh=>by let[y,y,y,y,y,y,y,y,h]:=h;exact k _ _ _ _ _ _ _ _ h
def u9{p:A->B->C->D->F->G->I->J->L->Prop}{z:Prop}(k:∀ a b c d e f g i j,p a b c d e f g i j->z):(∃ a b c d e f g i j,p a b c d e f g i j)->z:=λh=>by let[y,y,y,y,y,y,y,y,y,h]:=h;exact k _ _ _ _ _ _ _ _ _ h
def U9{p:A->B->C->D->F->G->I->J->L->M->Prop}{z:Prop}(k:∀ a b c d e f g i j l,p a b c d e f g i j l->z):(∃ a b c d e f g i j l,p a b c d e f g i j l)->z:=λh=>by let[y,y,y,y,y,y,y,y,y,y,h]:=h;exact k _ _ _ _ _ _ _ _ _ _ h
def OT{p:A->B->C->D->F->G->I->J->L->M->N->Prop}{z:Prop}(k:∀ a b c d e f g i j l m,p a b c d e f g i j l m->z):(∃ a b c d e f g i j l m,p a b c d e f g i j l m)->z:=λh=>by let[y,y,y,y,y,y,y,y,y,y,y,h]:=h;exact k _ _ _ _ _ _ _ _ _ _ _ h
def NA{p:A->B->C->D->F->G->I->J->L->M->N->O->Prop}{z:Prop}(k:∀ a b c d e f g i j l m n,p a b c d e f g i j l m n->z):(∃ a b c d e f g i j l m n,p a b c d e f g i j l m n)->z:=λh=>by let[y,y,y,y,y,y,y,y,y,y,y,y,h]:=h;exact k _ _ _ _ _ _ _ _ _ _ _ _ h
def NB{p:A->B->C->D->F->G->I->J->L->M->N->O->P->R->Prop}{z:Prop}(k:∀ a b c d e f g i j l m n o q,p a b c d e f g i j l m n o q->z):(∃ a b c d e f g i j l m n o q,p a b c d e f g i j l m n o q)->z:=λh=>by let[y,y,y,y,y,y,y,y,y,y,y,y,y,y,h]:=h;exact k _ _ _ _ _ _ _ _ _ _ _ _ _ _ h
end L2
set_option Elab.async false
namespace L2
abbrev AN:=Sum Int Str
def NC:AN->Value->Bool
 |.inl k,v=>Gi k v
 |.inr x,v=>Iy x v
def Qg(w:World):AN->Int
 |.inl k=>hashInt k
 |.inr x=>hashStr w x
def JT:∀ {k:AN} {v:Value},NC k v=true->(∃ i t,k=Au i/\v=ub i t)\/(∃ x t,k=Ho x/\v=Dt x t)
 |.inl i,v,h=>by
  let[t,e]:=sj   h;exact .inl<|x2 i t ⟨rfl,e⟩
 |.inr x,v,h=>by
  let[t,e]:=Value.isStrOf_shape   h;exact .inr<|x2 x t ⟨rfl,e⟩
def Qh(i:Int)(t:Tok):NC (.inl i) (.int i t)=true:=by simp[NC,Gi]
def Qj(x:Str)(t:Tok):NC (.inr x) (.str x t)=true:=by simp[NC,Iy]
def Qk(a b:Int):decide ((Au a:AN)=Au b)=(a==b):=by
 by_cases e:a=b;subst e;simp;rw[decide_eq_false (λq=>e<|Sum.inl.inj q)];exact(beq_eq_false_iff_ne.mpr e).symm
def Ql(a b:Str):decide ((Ho a:AN)=Ho b)=decide (a=b):=by
 by_cases e:a=b;simp;rw[decide_eq_false (λq=>e<|Gn q),decide_eq_false e]
def Qm(a:Int)(b:Str):decide ((Au a:AN)=Ho b)=false:=decide_eq_false (λq=>nomatch q)
def Qp(a:Str)(b:Int):decide ((Ho a:AN)=Au b)=false:=decide_eq_false (λq=>nomatch q)
def D0(prog:bu)(w:World):PySem.KeyKind prog w AN where
 is:=NC
 hash:=Qg w
 inj:=λv a b l g=>by
  let[i,t,rfl,rfl]||[x,t,rfl,rfl]:=JT l
  ·let[j,u,rfl,e]||[y,u,rfl,e]:=JT g
   ·injection e with c _;rw[c]
   ·exact nomatch e
  ·let[j,u,rfl,e]||[y,u,rfl,e]:=JT g
   ·exact nomatch e
   ·injection e with c _;rw[c]
 byValue:=λk v h=>by
  let[i,t,rfl,rfl]||[x,t,rfl,rfl]:=JT h<;>rfl
 pyHash:=λd h=>by
  let[i,t,rfl,rfl]||[x,t,rfl,rfl]:=JT d
  ·exact wpAny_pyHash_int h
  ·exact wpAny_pyHash_str h
 eqBool:=λn d h=>by
  let[i,t,rfl,rfl]||[x,t,rfl,rfl]:=JT n
  ·let[j,u,rfl,rfl]||[y,u,rfl,rfl]:=JT d
   ·rw[Qk]at h;exact wpAny_eqBool_int h
   ·rw[Qm]at h;exact Ai i t y u _ _ _ _ h
  ·let[j,u,rfl,rfl]||[y,u,rfl,rfl]:=JT d
   ·rw[Qp]at h;exact An x t j u _ _ _ _ h
   ·rw[Ql]at h;exact wpAny_eqBool_str h
 «strs» :=λk x t v h=>by
  let[i,u,rfl,e]||[y,u,rfl,e]:=JT h
  ·exact nomatch e
  ·injection e with c _
   subst c;cases v<;>rfl
def Qq(prog:bu)(w:World)(i:Int)(t:Tok):(D0 prog w).is (.inl i) (.int i t)=true:=Qh i t
def Qv(prog:bu)(w:World)(x:Str)(t:Tok):(D0 prog w).is (.inr x) (.str x t)=true:=Qj x t
inductive V where
 |non|bl (b:Bool)|int (i:Int)|str (x:Str)|byt (b:Array UInt8)|flt (b:UInt64)|ref (a:Addr)|ty (n:String)
 deriving DecidableEq
def RelV:V->Value->Prop
 |.non,u=>u=kq
 |.bl b,u=>u=H_ b
 |.int i,u=>∃ t,u=ub i t
 |.str x,u=>∃ t,u=Dt x t
 |.byt b,u=>∃ t,u=Value.bytes b t
 |.flt b,u=>∃ t,u=Value.float b t
 |.ref a,u=>u=e_ a
 |.ty n,u=>u=nc n
abbrev _root_.tF:=List V
abbrev _root_.yC:=List Value
abbrev Vals:tF->yC->Prop:=Paired RelV
def Vals.length{xs:tF}{us:yC}(r:Vals xs us):xs.length=us.length:=Paired.length r
def Qw{α a :Type}{F: α -> a ->Prop}{l:List α}{m:List a}{i:Nat}{x: α}(h:Paired F l m)(e:l[i]? =some x):∃ y,m[i]? =some y/\F x y:=by
 induction h generalizing i with
 |nil=>cases e
 |cons h t b=>cases i with
  |zero=>cases e;exact⟨_,rfl,h⟩
  |succ i=>exact b e
def Vals.get:∀ {xs:tF} {us:yC} {i:Nat} {x:V},Vals xs us->xs[i]? =some x->∃ u,us[i]? =some u/\RelV x u:=λh e=>Qw h e
theorem Vals.set{x:V}{u:Value}(r:RelV x u):∀ {xs:tF} {us:yC} (i:Nat),Vals xs us->Vals (xs.set i x) (us.set i u)
 |_,_,_,.nil=>.nil
 |_,_,0,.cons _ t=>.cons r t
 |_,_,i+1,.cons q t=>.cons q<|Vals.set r i t
def Vals.append:∀ {xs ys:tF} {us a:yC},Vals xs us->Vals ys a->Vals (xs++ys) (us++a):=λh s=>by
 induction h with
 |nil=>exact s
 |cons r t b=>exact .cons r b
theorem Vals.take:∀ {xs:tF} {us:yC} (n:Nat),Vals xs us->Vals (xs.take n) (us.take n)
 |_,_,0,_=>.nil
 |_,_,_+1,.nil=>.nil
 |_,_,n+1,.cons r t=>.cons r<|Vals.take n t
theorem Vals.drop:∀ {xs:tF} {us:yC} (n:Nat),Vals xs us->Vals (xs.drop n) (us.drop n)
 |_,_,0,r=>r
 |_,_,_+1,.nil=>.nil
 |_,_,n+1,.cons _ t=>Vals.drop n t
def RelO:Option V->Option Value->Prop
 |some v,some u=>RelV v u
 |none,none=>True
 |_,_=>False
def KV{a :Type}:List (a × V)->List (a × Value)->Prop:=Paired λ(p: a × V) (q: a × Value)=>p.1=q.1/\RelV p.2 q.2
def kV:AN->V
 |.inl i=>.int i
 |.inr x=>.str x
abbrev _root_.vC:=List (AN × V)
abbrev _root_.xA:=List (List AN × V)
abbrev _root_.tD:=Int->Bool
abbrev _root_.xB:=List (Str × V)
inductive HO where
 /-- a list -/
 |lst (xs:tF)
 /-- a tuple (never changes) -/
 |tup (xs:tF)
 /-- a dict whose keys are ints and texts;one whose keys are tuples of ints and texts (the empty one is both) -/
 |dK (kvs:vC)|dT (kvs:xA)
 /-- a set of ints: AL members,AL size -/
 |set (S:tD) (n:Nat)
 /-- an instance of the class at C,AL dict at dx,AL attributes -/
 |ins (C dx:Addr) (fs:xB)
 /-- the dict of the instance at x -/
 |own (x:Addr)
 /-- the dict of an exception -/
 |xd (fs:xB)
 /-- a bound method,f of x -/
 |met (f x:Addr)
 /-- a range object lo,lo+1,.. below hi -/
 |rng (lo hi:Int)
 /-- a thing that is known to the object (the script;a dict while a loop walks it): read,never written while it is so -/
 |frz (o:Obj) (u:HO)
 /-- a code object's table -/
 |tbl (ps:Array Value)
 /-- any other thing,by what is true of AL one object (a def of one's own: SetO a S n:=HO.ext λh=>..) -/
 |ext (φ :Heap->Prop)
abbrev Hp:=Addr->Option HO
def upd(H:Hp)(a:Addr)(o:HO):Hp:=λb=>if b=a then some o else H b
def AD{H:Hp}{a:Addr}{o:HO}:upd H a o a=some o:=by unfold upd;rw[if_pos rfl]
def AK{H:Hp}{a b:Addr}{o:HO}(h:b≠a):upd H a o b=H b:=by unfold upd;rw[if_neg h]
def HU:upd (upd H a o) a u=upd H a u:=by
 funext b;unfold upd;split<;>rfl
def AZ{H:Hp}{a b:Addr}{o u:HO}(h:H a=some o)(h':H b=some u)(d:o≠u):a≠b:=by
 rintro rfl;rw[h]at h';exact d<|θ h'
def BG{H:Hp}{a b:Addr}{o:HO}(h:H a=some o)(h':H b=none):a≠b:=by
 rintro rfl;rw[h]at h';cases h'
section
variable(P:bu)(w:World)
abbrev _root_.vA:=List (List AN × Addr × Value)
def ObjOk(H:Hp)(h:Heap)(a:Addr):HO->Prop
 |.lst xs=>xs.length<=sizeLine/\∃ (c:yC) (n:Nat),Vals xs c/\h.get? a=some { cls:=.type "list",data:=.seq c.toArray n }
 |.tup xs=>xs.length<=sizeLine/\∃ c:yC,Vals xs c/\IsTup h a c.toArray
 |.dK kvs=>kvs.length<=sizeLine/\(a==ix)=false/\∃ vs,KV kvs vs/\h.DictOf (D0 P w) a vs
 |.dT kvs=>kvs.length<=sizeLine/\(a==ix)=false/\∃ xs:vA,
   Paired (λ(p:List AN × V) (q:List AN × Addr × Value)=>p.1=q.1/\H q.2.1=some (.tup<|p.1.map kV)/\RelV p.2 q.2.2) kvs xs /\
   ∃ o g i,h.get? a=some o/\o.ExactDict/\o.data=.dict g i/\g.toList=xs.map (vj<|jf<|D0 P w)/\(xs.map (·.1)).Nodup
 |.set S n=>h.SetOf (ky P w) a S n
 |.ins C d fs=>H d=some (.own a)/\fs.length<=1000/\d≠a/\h.get? a=some (W.instObj C d) /\
   ∃ b,h.Ns1 d b/\(∀ f,RelO (fs.lookup f) (b f))/\PySem.Within b (fs.map (·.1))
 |.own _=>∃ o,h.get? a=some o
 |.xd fs=>∃ b,h.Ns1 a b/\∀ f,RelO (fs.lookup f) (b f)
 |.rng lo j=>∃ t u v,h.get? a=some { cls:=.type "range",data:=.fields #[.int lo t,.int j u,.int 1 v] }
 |.frz o u=>h.get? a=some o/\ObjOk H h a u
 |.tbl ps=>h.get? a=some { cls:=.none,data:=.fields ps }
 |.met f x=>h.get? a=some (W.methodObj (.ref f) (.ref x))
 |.ext e => e h/\(∃ o,h.get? a=some o)/\∀ h1 h2:Heap,e h1->(∀ o,h1.get? a=some o->h2.get? a=some o)-> e h2
def HOk(H:Hp)(h:Heap):Prop:=∀ a o,H a=some o->ObjOk P w H h a o
end
section
variable{P:bu}{w:World}{H H':Hp}{h h':Heap}{a:Addr}{o:HO}
theorem ObjOk.lt(x:ObjOk P w H h a o):a<h.objs.size:=by
 cases o with
 |lst xs=>let[z,z,z,z,e]:=x;exact aj e
 |tup xs=>let[z,z,z,p]:=x;exact p.lt
 |dK kvs=>let[z,z,z,z,o,z,z,e,z]:=x;exact aj e
 |dT kvs=>let[z,z,z,z,o,z,z,e,z]:=x;exact aj e
 |set S n=>revert x;apply u4;intro o z z z [e,z];exact aj e
 |ins C b fs=>let[z,z,z,e,z]:=x;exact aj e
 |own y=>let[z,e]:=x;exact aj e
 |xd fs=>let[z,[z,z,z,e,z],z]:=x;exact aj e
 |rng lo c=>revert x;apply u3;rintro z z z e;exact aj e
 |frz ob u=>let[e,z]:=x;exact aj e
 |tbl ps=>exact aj<|x
 |met f y=>exact aj<|x
 |ext d =>let[z,[z,e],z]:=x;exact aj e
def LZ{α b :Type}{F: α -> b ->Prop}{x: α}{l:List α}{m:List b}(h:Paired F (x::l) m):∃ y c,m=y::c/\F x y/\Paired F l c:=by
 cases h;exact{_,_,rfl,‹_›,‹_›}
def ND{α b :Type}{F: α -> b ->Prop}{m:List b}(h:Paired F [] m):m=[]:=by cases h;rfl
def Paired.mapP{α e :Type}{F G: α -> e ->Prop}:∀ {c:List α} {d:List e},Paired F c d->(∀ a b,F a b->G a b)->Paired G c d:=λh k=>by
 induction h with
 |nil=>exact .nil
 |cons h t g=>exact .cons (k _ _ h) g
def ObjOk.stay(x:ObjOk P w H h a o)(k:∀ b u,(b=a\/H b=some (.own a))->h.get? b=some u->h'.get? b=some u)
  (l:∀ b,H b=some (.own a)->H' b=some (.own a)) (s:∀ b xs,H b=some (.tup xs)->H' b=some (.tup xs)):ObjOk P w H' h' a o:=by
 induction o with
 |lst xs=>let[z,A,n,r,e]:=x;exact{z,x2 _ n {r,k _ _ (.inl rfl) e}}
 |tup xs=>let[z,A,r,ob,e,c]:=x;exact{z,_,r,ob,k _ _ (.inl rfl) e,c}
 |dK kvs=>let[z,y,vs,r,ob,g,i,e,c]:=x;exact{z,y,vs,r,x3 ob g i {k _ _ (.inl rfl) e,c}}
 |dT kvs =>
  let[z,y,xs,r,ob,g,i,e,c]:=x;exact{z,y,xs,Paired.mapP r λp q z=>{z.1,s _ _ z.2.1,z.2.2},x3 ob g i {k _ _ (.inl rfl) e,c}}
 |set S n=>revert x;apply u4;intro ob g i t [e,c];exact x4 ob g i t {k _ _ (.inl rfl) e,c}
 |ins C E fs =>
  let[d,z,ne,e,j,[od,g,i,B,c],r]:=x;exact{l _ d,z,ne,k _ _ (.inl rfl) e,j,x3 od g i {k _ _ (.inr d) B,c},r}
 |own y=>let[ob,e]:=x;exact{ob,k _ _ (.inl rfl) e}
 |xd fs=>let[j,[od,g,i,e,c],r]:=x;exact{j,x3 od g i {k _ _ (.inl rfl) e,c},r}
 |rng lo I=>revert x;apply u3;rintro t u v e;exact x3 t u v<|k _ _ (.inl rfl) e
 |frz ob u D=>let[e,q]:=x;exact{k _ _ (.inl rfl) e,D q}
 |tbl ps =>
  have e:h.get? a=some _:=x;exact k a _ (.inl rfl) e
 |met f y =>
  exact k a _ (.inl rfl) x
 |ext J =>let[p,[o,e],st]:=x;exact{st _ _ p λo q=>k _ _ (.inl rfl) q,{o,k _ _ (.inl rfl) e},st}
def HOk.lt(x:HOk P w H h)(e:H a=some o):a<h.objs.size:=(x a o e).lt
def HOk.fresh(x:HOk P w H h)(e:h.objs.size<=a):H a=none:=by
 cases q:H a with
 |none=>rfl
 |some u=>exact absurd (χ (x.lt q) e) (jo _)
def HOk.kept(x:HOk P w H h)(k:∀ b u,h.get? b=some u->h'.get? b=some u):HOk P w H h':=λa o e =>
 (x a o e).stay (λb u z q=>k b u q) (λz q=>q) λz z q=>q
def HOk.laid(x:HOk P w H h)(k:∀ b u,h.get? b=some u->h'.get? b=some u)(i:h.objs.size<=a)(new:ObjOk P w (upd H a o) h' a o):HOk P w (upd H a o) h':=λb u e=>by
 have d:=x.fresh i;by_cases g:b=a;subst g;rw[AD]at e;obtain rfl:=θ e;exact new;rw[AK g]at e;exact(x b u e).stay (λc v z q=>k c v q) (λc q=>by rw[AK (BG q d)];exact q) λc xs q=>by rw[AK (BG q d)];exact q
end
def Rd(H:Hp)(a:Addr)(u:HO):Prop:=H a=some u\/∃ o,H a=some (.frz o u)
def Rd.ok(r:Rd H a u)(x:HOk P w H h):ObjOk P w H h a u:=by
 let r||[o,r]:=r
 exact x a u r;let[z,q]:=x a _ r;exact q
def OU:Option HO->Prop
 |some (.lst _)=>True
 |some (.dK _)=>True
 |some (.dT _)=>True
 |some (.set _ _)=>True
 |some (.ins _ _ _)=>True
 |some (.ext _)=>True
 |_=>False
section
variable{P:bu}{w:World}{H:Hp}{h h':Heap}{x e:Addr}{o':HO}
def HOk.write(ok:HOk P w H h)(g:OU (H x))(he:e=x\/H e=some (.own x))(k:∀ b u,b≠e->h.get? b=some u->h'.get? b=some u)(l:∃ u,h'.get? e=some u)
  (new:ObjOk P w (upd H x o') h' x o'):HOk P w (upd H x o') h':=λb u q=>by
 have d:∀ c y,H c=some (.own y)->c≠x:=λc y r z=>by subst z;rw[r]at g;exact g
 by_cases i:b=x;subst i;rw[AD]at q;obtain rfl:=θ q;exact new;rw[AK i]at q;by_cases a:b=e
 have n:H b=some (.own x):=by
  let z||z:=he
  exact absurd (a.trans z) i;rw[a];exact z
 rw[q]at n;let[v,o]:=l;obtain rfl:=θ n;exact{v,by rw[a];exact o};refine(ok b u q).stay (λc v j r=>k c v ?_ r) (λc r=>by rw[AK (d c b r)];exact r) λc xs r=>by rw[AK ((λc xs r z=>by subst z;rw[r]at g;exact g) c xs r)];exact r
 let rfl||j:=j
 exact a;rintro rfl;let z||z:=he
 exact d c b j z;rw[j]at z;cases z;exact i rfl
end
abbrev _root_.uD:=List Addr
structure Un(fs ex:uD)(H H':Hp)(h h':Heap):Prop where
 keep:∀ b o,h.get? b=some o->H b=none->b∉fs->b∉ex->h'.get? b=some o
 slot:∀ b o,h.get? b=some o->H b=none->b∈fs->b∉ex->∃ sl,h'.get? b=some { o with slots:=sl }
 free:∀ b o,h.get? b=some o->H b=none->b∉ex->H' b=none
 there:∀ b o,h.get? b=some o->b∉ex->∃ o',h'.get? b=some o'
 tups:∀ b xs,H b=some (.tup xs)->H' b=some (.tup xs)
 frzs:∀ b o u,H b=some (.frz o u)->H' b=some (.frz o u)
 tbls:∀ b ps,H b=some (.tbl ps)->∃ more,H' b=some (.tbl<|ps++more)
section
variable{fs fs' ex lR:uD}{H H1 H2:Hp}{h h1 h2 h':Heap}{a x e:Addr}{o:HO}
def Un.any(u:Un fs ex H H1 h h1)(q:h.get? b=some ob)(n:H b=none)(c:b∉ex):∃ g,h1.get? b=some { ob with slots:=g }:=by
 by_cases d:b∈fs;exact u.slot b ob q n d c;exact{_,u.keep b ob q n d c}
def Un.kept(k:∀ b u,h.get? b=some u->h'.get? b=some u):Un fs ex H H h h' :=
 {λb ob q z z z=>k b ob q,λb ob q z z z=>{_,k b ob q},λz z z n z=>n,λb ob q z=>{ob,k b ob q},λz z q=>q,λz z z q=>q,λz ps q=>{#[],by rw[q];simp}}
def Un.refl:Un fs ex H H h h:=Un.kept λz z q=>q
def Un.laid(k:∀ b u,h.get? b=some u->h'.get? b=some u)(d:h.objs.size<=a)(c:H a=none):Un fs ex H (upd H a o) h h' where
 keep:=λb u q z z z=>k b u q
 slot:=λb u q z z z=>{_,k b u q}
 free:=λb u q n z=>by rw[AK (bm<|χ (aj q) d)];exact n
 there:=λb u q z=>{u,k b u q}
 tups:=λb xs q=>by rw[AK (BG q c)];exact q
 frzs:=λb u xs q=>by rw[AK (BG q c)];exact q
 tbls:=λb ps q=>{#[],by rw[AK (BG q c),q];simp}
def Un.write(d:OU (H x))(he:e=x\/H e=some (.own x))(k:∀ b u,b≠e->h.get? b=some u->h'.get? b=some u)(g:∃ u,h'.get? e=some u):Un fs ex H (upd H x o) h h':=by
 have j:∀ b,H b=none->b≠x:=λb n z=>by subst z;rw[n]at d;exact d
 have i:∀ b u,H b=some u->¬ OU (some u)->b≠x:=λb u q nm z=>by subst z;rw[q]at d;exact nm d
 have l:∀ b,H b=none->b≠e:=λb n z=>by
  subst z;let r||r:=he
  exact j b n r;rw[n]at r;cases r
 refine⟨λb u q n y y=>k b u (l b n) q,λb u q n y y=>{_,k b u (l b n) q},λb u q n y=>by rw[AK (j b n)];exact n,λb u q y=>?_,
  λb xs q=>by rw[AK (i b _ q λz=>z)];exact q,λb u xs q=>by rw[AK (i b _ q λz=>z)];exact q,λb ps q=>{#[],by rw[AK (i b _ q λz=>z),q];simp}⟩
 by_cases c:b=e;subst c;exact g;exact{u,k b u c q}
end
def Qx(h:Heap)(H:Hp):uD:=(μ h.objs.size).filter λa=>(H a).isSome
def NE(h:Heap)(H:Hp):Heap:=W.hideAll h<|Qx h H
def Qy(h:Heap)(H:Hp):(NE h H).objs.size=h.objs.size:=W.hideAll_size _ _
def Qz(e:h.get? b=some o)(n:H b=none):(NE h H).get? b=some o :=
 W.hideAll_get _ e λa=>by
  have q:=(fe.mp a).2;rw[n]at q;simp at q
def Rb(e:(NE h H).get? b=some o):h.get? b=some o/\H b=none:=by
 have a:=W.of_hideAll _ e;refine{a,?_};cases q:H b with
 |none=>rfl
 |some x =>
  have z:(NE h H).get? b=none:=W.hideAll_none _ (fe.mpr {ao.mpr<|aj a,by simp[q]});rw[z]at e;cases e
abbrev _root_.zA:=List (Addr × Obj)
def Rc(g h:Heap)(L:Addr):zA:=(μ h.objs.size).filterMap λa=>if a=L\/(g.get? a).isSome=true then none else(h.get? a).map λo=>(a,o)
def rest(g h:Heap)(L d:Addr):zA:=(Rc g h L).filter λp=>decide<|p.1≠d
abbrev _root_.vB:=Str->Option Value
structure Mod(K:W.Frag)(mg:vB)(base:Heap):Prop where
 kin:K.In base
 glob:base.Ns bw mg
 blt:∃ mb,base.Ns Ic mb/\∀ x:Str,x≠"__name__"->mb x=sq x
 nolimit:base.NoLimit
abbrev _root_.yD:=List Str
abbrev _root_.zD:=List Env
structure Cx where
 prog:bu
 w:World
 K:W.Frag
 mg:Str->Option Value
 base:Heap
 A:dh
 N:yD
 s₀:ν
 H₀:Hp
 env:Env
 outer:zD
 stack:zD
 ex:uD
 fn:Str->Bool
 calm:Bool
 pn:zA
 xe:Value->ν->Prop
def EC(l:zD):uD:=l.filterMap (·.frame)
abbrev Cx.fs(X:Cx):uD:=EC X.outer
def RX(a:Scope)(x:Str):Prop:=a.names.lookup x=some .local\/a.names.lookup x=some .cell\/a.names.lookup x=some .free
def NF(a:Scope)(x:Str):Prop:=a.names.lookup x=some .local\/a.names.lookup x=some .cell
def Rg(env:Env)(h:Heap)(m:vB)(x:Str)(u:Value):Prop :=
 (env.kindOf x=some .local/\m x=some u)\/((env.kindOf x=some .cell\/env.kindOf x=some .free)/\∃ c,env.cells.lookup x=some c/\h.IsCell c (some u))
structure Cx.Ok(X:Cx):Prop where
 mod:Mod X.K X.mg X.base
 kind:X.env.scope.kind=.function
 glob:X.env.globals=bw
 blt:X.env.builtins=Ic
 above:X.s₀.heap.objs.size<=X.env.locals
 inj:∀ x y c,X.env.cells.lookup x=some c->X.env.cells.lookup y=some c->x=y
 has:∀ x,(X.env.kindOf x=some .cell\/X.env.kindOf x=some .free)->∃ c,X.env.cells.lookup x=some c
 cab:∀ x c,X.fn x=true->X.env.cells.lookup x=some c->X.s₀.heap.objs.size<=c
 hd:X.calm=true->X.A.handled=none
 frames:X.A.frames=some X.stack
 stk:X.stack=X.outer\/(X.stack=X.env::X.outer/\X.env.frame=some X.env.locals)
 exf:∀ b∈X.ex,b≠X.env.locals/\∀ x c,X.env.cells.lookup x=some c->c≠b
 bs:∀ b o,X.base.get? b=some o->X.s₀.heap.get? b=some o/\X.H₀ b=none
 bsz:X.base.objs.size<=X.s₀.heap.objs.size
 noex:∀ b o,X.base.get? b=some o->b∉X.ex
 exfs:∀ b∈X.ex,b∉X.fs
 funs:X.s₀.heap.FunFrames X.base X.outer
 frf:∀ b∈X.fs,X.H₀ b=none
structure Inv(X:Cx)(AA:zA)(σ:List (Option V))(H:Hp)(s:ν):Prop where
 ok:X.Ok
 os:s.os=X.s₀.os
 bare:sr s.gens
 base:Un X.fs X.ex X.H₀ H X.s₀.heap s.heap
 loc:∃ m,s.heap.Ns X.env.locals m/\∀ (i:Nat) (x:Str) (v:V),X.N[i]? =some x->σ[i]? =some (some v)->RX X.env.scope x->∃ u,RelV v u/\Rg X.env s.heap m x u
 cell:∀ x c,X.env.cells.lookup x=some c->∃ v,s.heap.IsCell c v
 free:H X.env.locals=none
 freeC:∀ x c,X.env.cells.lookup x=some c->H c=none
 pin:∀ p∈X.pn++AA,s.heap.get? p.1=some p.2/\H p.1=none/\p.1≠X.env.locals/\p.1∉X.fs/\∀ v,p.2.data≠.cell v
 hok:HOk X.prog X.w H s.heap
 len:σ.length=X.N.length
section
variable{X:Cx}{AA:zA}{σ:List (Option V)}{H H':Hp}{s:ν}{h':Heap}
def Cx.Ok.nofr(ok:X.Ok)(e:X.base.get? b=some o):b∉X.fs:=λa=>by
 have:=(ok.funs.mem a).1;rw[e]at this;cases this
def Inv.bs(I:Inv X AA σ H s):∀ b o,X.base.get? b=some o->s.heap.get? b=some o/\H b=none:=λb o e =>
 {I.base.keep b o (I.ok.bs b o e).1 (I.ok.bs b o e).2 (I.ok.nofr e) (I.ok.noex b o e),I.base.free b o (I.ok.bs b o e).1 (I.ok.bs b o e).2 (I.ok.noex b o e)}
def Inv.bk(I:Inv X AA σ H s):∀ b o,X.base.get? b=some o->s.heap.get? b=some o:=λb o e=>(I.bs b o e).1
def Inv.mod(I:Inv X AA σ H s):Mod X.K X.mg X.base:=I.ok.mod
def Inv.kIn(I:Inv X AA σ H s):X.K.In s.heap:=I.ok.mod.kin.keeps I.bk
def Inv.lt(I:Inv X AA σ H s):X.env.locals<s.heap.objs.size:=let ⟨_,a,_⟩:=I.loc;a.lt
def Inv.sz(I:Inv X AA σ H s):X.s₀.heap.objs.size<=s.heap.objs.size:=υ I.ok.above<|ig I.lt
def Inv.nofs(I:Inv X AA σ H s)(h:s.heap.objs.size<=a):a∉X.fs:=λb=>by
 let[z,o,c,z]:=I.ok.funs.mem b;exact absurd (χ (aj c) (υ I.sz h)) (jo _)
def Inv.cne(I:Inv X AA σ H s):∀ x c,X.env.cells.lookup x=some c->c≠X.env.locals:=λx c e z=>by
 let[m,[g,i,j,a,b,y],y]:=I.loc;let[v,o,d,hd]:=I.cell x c e;rw[z,a]at d;obtain rfl:=θ d;rw[b]at hd;cases hd
def Inv.funs(I:Inv X AA σ H s):s.heap.FunFrames X.base X.outer:=by
 have all:∀ (l:List _),(∀ b∈EC l,b∈X.fs)->X.s₀.heap.FunFrames X.base l->s.heap.FunFrames X.base l:=by
  intro l
  induction l with
  |nil=>intro y y;trivial
  |cons env r i =>
   intro g [j,[L,o,a,n,q,hd],u]
   have c:=g L (by unfold EC;rw[ux,a];exact aa);let[v,e]:=I.base.slot L o q (I.ok.frf L c) c λz=>I.ok.exfs L z c;exact{j,x2 L _ ⟨a,n,e,hd⟩,i (λb d=>g b (by unfold EC;rw[ux,a];exact ω _ d)) u}
 exact all _ (λy d=>d) I.ok.funs
def Inv.stack(I:Inv X AA σ H s):s.heap.FunFrames X.base X.stack:=by
 let e||[e,a]:=I.ok.stk
 rw[e];exact I.funs;let[m,b,z]:=I.loc;rw[e];exact .cons (by rw[I.ok.kind];decide) a b (Heap.get?_none_of_le<|υ I.ok.bsz I.ok.above) I.funs
def Inv.stkSub(I:Inv X AA σ H s):∀ b∈EC X.stack,b∈X.env.locals::X.fs:=λb a=>by
 let e||[e,c]:=I.ok.stk
 rw[e]at a;exact ω _ a;rw[e]at a;unfold EC at a;rw[ux,c]at a;exact a
def Inv.stkFree(I:Inv X AA σ H s):∀ b∈EC X.stack,H b=none:=λb a=>by
 rcases af.mp (I.stkSub b a)with e|a
 rw[e];exact I.free;let[y,o,c,y]:=I.ok.funs.mem a;exact I.base.free b o c (I.ok.frf b a) λz=>I.ok.exfs b z a
def Inv.step{O:Array A_}{t':Nat}{Y:Drawn}{ch:uD}(I:Inv X AA σ H s)
  (E:∀ b∈ch,(b∈X.ex\/X.s₀.heap.objs.size<=b)/\b≠X.env.locals/\(∀ x c,X.env.cells.lookup x=some c->c≠b)/\∀ p∈X.pn++AA,p.1≠b)
  (keep:∀ b o,b≠X.env.locals->b∉X.fs->b∉ch->s.heap.get? b=some o->H b=none->h'.get? b=some o)
  (slot:∀ b o,b≠X.env.locals->b∈X.fs->b∉ch->s.heap.get? b=some o->H b=none->∃ N,h'.get? b=some { o with slots:=N }) (free:∀ b o,b∉ch->s.heap.get? b=some o->H b=none->H' b=none)
  (there:∀ b o,b∉ch->s.heap.get? b=some o->∃ J,h'.get? b=some J)
  (tups:∀ b xs,H b=some (.tup xs)->H' b=some (.tup xs)) (frzs:∀ b o u,H b=some (.frz o u)->H' b=some (.frz o u)) (tbls:∀ b ps,H b=some (.tbl ps)->∃ more,H' b=some (.tbl<|ps++more))
  (ns:∀ m,s.heap.Ns X.env.locals m->h'.Ns X.env.locals m) (hok:HOk X.prog X.w H' h') (hg:sr O) :
  Inv X AA σ H' { s with heap:=h',gens:=O,drawn:=Y,toks:=t' }:=by
 have L:∀ b o,X.s₀.heap.get? b=some o->b≠X.env.locals:=λb o e=>bm<|χ (aj e) I.ok.above
 have w:∀ b o,X.s₀.heap.get? b=some o->b∉X.ex->b∉ch:=λb o e a B=>by
  let z||z:=(E b B).1
  exact a z;exact absurd (χ (aj e) z) (jo _)
 have g:∀ x c,X.env.cells.lookup x=some c->∀ v,s.heap.IsCell c v->h'.IsCell c v:=λx c e v ⟨o,D,hd⟩=>by
  have j:=λz=>(E c z).2.2.1 x c e rfl;by_cases Q:c∈X.fs;let[N,q]:=slot c o (I.cne x c e) Q j D (I.freeC x c e);exact⟨_,q,hd⟩;exact{o,keep c o (I.cne x c e) Q j D (I.freeC x c e),hd}
 refine{I.ok,I.os,hg,{λb o e n B a=>(keep b o (L b o e) B (w b o e a) (I.base.keep b o e n B a) (I.base.free b o e n a)),λb o e n B a=>?_,λb o e n a=>?_,λb o e a=>?_,λb xs e=>tups b xs<|I.base.tups b xs e,λb o xs e=>frzs b o xs<|I.base.frzs b o xs e,λb ps e=>?_},?_,λx c e=>?_,?_,λx c e=>?_,λp T=>?_,hok,I.len};let[N,A]:=I.base.slot b o e n B a;let[sl',M]:=slot b _ (L b o e) B (w b o e a) A (I.base.free b o e n a);exact⟨_,M⟩;let[J,A]:=I.base.there b o e a;exact free b J (w b o e a) A (I.base.free b o e n a);let[J,A]:=I.base.there b o e a;exact there b J (w b o e a) A;let[m1,A]:=I.base.tbls b ps e;let[m2,M]:=tbls b _ A;exact{_,by rw[M,Ao]};let[m,hn,hl]:=I.loc;refine{m,ns m hn,λi x v A M e3=>?_};let[u,r,l]:=hl i x v A M e3;refine{u,r,?_};let l||[k,c,e,z]:=l
 exact .inl l;exact .inr {k,c,e,g x c e _ z};let[v,z]:=I.cell x c e;exact{v,g x c e v z};let[m,[o,y,y,D,y],y]:=I.loc;exact free _ o (λz=>(E _ z).2.1 rfl) D I.free;let[v,o,D,hd]:=I.cell x c e;exact free c o (λz=>(E c z).2.2.1 x c e rfl) D (I.freeC x c e)
 have j:=λz=>(E _ z).2.2.2 p T rfl;let[e,n,ne,U,d]:=I.pin p T;exact{keep _ _ ne U j e n,free _ _ j e n,ne,U,d}
def Inv.un{t':Nat}(I:Inv X AA σ H s)(u:Un X.fs [] H H' s.heap h')(hok:HOk X.prog X.w H' h'):Inv X AA σ H' { s with heap:=h',toks:=t' }:=by
 let[m,[o,v,w,d,r],_]:=id I.loc;let[x,g]:=u.any d I.free (by simp);exact I.step   (ch:=[]) (λ_ z=>nomatch z) (λb o _ c _ e n=>u.keep b o e n c (by simp)) (λb o _ c _ e n=>u.slot b o e n c (by simp)) (λb o _ e n=>u.free b o e n (by simp)) (λb o _ e=>u.there b o e (by simp)) u.tups u.frzs u.tbls (λy i=>by
  revert i;apply u3;intro A j l [a,q];rw[d]at a;obtain rfl:=θ a;exact x3 _ _ _ ⟨g,q⟩) hok I.bare
def Inv.call{i:Array A_}{t':Nat}{q:Drawn}{ch:uD}(I:Inv X AA σ H s)(u:Un (EC X.stack) ch H H' s.heap h')(hok:HOk X.prog X.w H' h')(v:sr i)
  (j:∀ b∈ch,(b∈X.ex\/X.s₀.heap.objs.size<=b)/\b≠X.env.locals/\(∀ x c,X.env.cells.lookup x=some c->c≠b)/\∀ p∈X.pn++AA,p.1≠b) :
  Inv X AA σ H' { s with heap:=h',gens:=i,drawn:=q,toks:=t' }:=by
 let[m,[o,J,L,l,r],y]:=id I.loc;let[M,g]:=u.any l I.free λz=>(j _ z).2.1 rfl;exact I.step  j (λb o g w a e n=>u.keep b o e n (λz=>(af.mp<|I.stkSub b z).elim g w) a) (λb o y y a e n=>u.any e n a) (λb o a e n=>u.free b o e n a) (λb o a e=>u.there b o e a) u.tups u.frzs u.tbls (λN A=>by
  revert A;apply u3;intro O B D [d,E];rw[l]at d;obtain rfl:=θ d;exact x3 _ _ _ ⟨g,E⟩) hok v
def Inv.turned{t':Nat}{it:Addr}(I:Inv X AA σ H s)(k:∀ b o,b≠it->s.heap.get? b=some o->h'.get? b=some o)(i:H it=none)(g:it≠X.env.locals)
  (h1:it∈X.ex\/X.s₀.heap.objs.size<=it) (h2:∀ x c,X.env.cells.lookup x=some c->c≠it) (h3:∀ p∈X.pn++AA,p.1≠it):Inv X AA σ H { s with heap:=h',toks:=t' }:=by
 have d:∀ b u,H b=some u->b≠it:=λb u e z=>by rw[z,i]at e;cases e
 refine I.step   (ch:=[it]) (λb j=>?_) (λb o y y a e y=>k b o (λz=>a (by simp[z])) e) (λb o y y a e y=>{_,k b o (λz=>a (by simp[z])) e}) (λy y y y n=>n)
  (λb o a e=>{o,k b o (λz=>a (by simp[z])) e}) (λy y e=>e) (λy y y e=>e) (λb ps e=>{#[],by rw[e];simp}) (λm l=>?_) (λb u e=>?_) I.bare
 have e:b=it:=by simpa using j
 subst e;exact⟨h1,g,h2,h3⟩;revert l;apply u3;intro o w A [B,r];exact x3 o w A {k _ o (eh g) B,r};refine(I.hok b u e).stay (λc v a q=>k c v ?_ q) (λy q=>q) λy y q=>q;let z||z:=a
 rw[z];exact d b u e;exact d c _ z
def Inv.tok(I:Inv X AA σ H s)(t:Nat):Inv X AA σ H { s with toks:=t }:=I.un   Un.refl I.hok
def Inv.kept(I:Inv X AA σ H s)(k:∀ b u,s.heap.get? b=some u->h'.get? b=some u):Inv X AA σ H { s with heap:=h',toks:=t' }:=I.un (Un.kept k) (I.hok.kept k)
def Inv.laid{a:Addr}{o:HO}{t':Nat}(I:Inv X AA σ H s)(k:∀ b u,s.heap.get? b=some u->h'.get? b=some u)(c:s.heap.objs.size<=a)(new:ObjOk X.prog X.w (upd H a o) h' a o) :
  Inv X AA σ (upd H a o) { s with heap:=h',toks:=t' }:=I.un (Un.laid k c<|I.hok.fresh c) (I.hok.laid k c new)
def Inv.write(I:Inv X AA σ H s)(c:OU (H x))(he:e=x\/H e=some (.own x))(k:∀ b u,b≠e->s.heap.get? b=some u->h'.get? b=some u)(a:∃ u,h'.get? e=some u)
  (new:ObjOk X.prog X.w (upd H x o) h' x o):Inv X AA σ (upd H x o) { s with heap:=h',toks:=t' }:=I.un (Un.write c he k a) (I.hok.write c he k a new)
def Inv.pins_of(I:Inv X AA σ H s)(h:∀ p∈a,s.heap.get? p.1=some p.2/\H p.1=none/\p.1≠X.env.locals/\p.1∉X.fs/\∀ v,p.2.data≠.cell v):Inv X a σ H s :=
 {I.ok,I.os,I.bare,I.base,I.loc,I.cell,I.free,I.freeC,λp b=>(bg.mp b).elim (λz=>I.pin p<|jc _ z) (h p),I.hok,I.len}
def lS{N:yD}(c:N.Nodup){i j:Nat}{x:Str}(a:N[i]? =some x)(b:N[j]? =some x):i=j:=by
 let[h1,d]:=ε.mp a;let[h2,e]:=ε.mp b;exact(Du c).mp (d.trans e.symm)
abbrev _root_.yB:=Value->ν->Prop
def lT{M:Model}{A:dh}{E:yB}{i:Nat}{x:Str}{v:V}{u:Value}{Q:Unit->ν->Prop}(I:Inv X AA σ H s)(hN:X.N.Nodup)(hi:X.N[i]? =some x)(B:NF X.env.scope x)(r:RelV v u)
  (h:∀ s',Inv X AA (σ.set i<|some v) H s'->(∃ a,gr a s.heap s'.heap/\(a=X.env.locals\/X.env.cells.lookup x=some a))->Q () s') (hf:X.fn x=true\/X.env.scope.names.lookup x=some .local:=by first|exact .inl rfl|exact .inr rfl|assumption):wpAny M A (storeName X.env x u) Q E s:=by
 let[m,hn,hl]:=id I.loc
 have L:i<σ.length:=by rw[I.len];exact(ε.mp hi).1
 have cne:=I.cne
 have tracked:∀ {a:Addr} {h':Heap},(∃ o,s.heap.get? a=some o/\H a=none)->gr a _ h'->HOk _ _ H h':=λ{a h'} ha g b ob e=>by
  let[t,t,D]:=ha;refine(I.hok b ob e).stay (λc w' w q=>(g.2 c ?_).trans q) (λt q=>q) λt t q=>q;rintro rfl;let rfl||w:=w
  rw[D]at e;cases e;rw[D]at w;cases w
 let O||O:=B
 refine wpAny_storeName_local O hn (λh' hn' g=>(u3 ?_<|id hn)) (by rw[I.ok.kind];rfl);intro oL t t [hoL,t];refine h _ {I.ok,I.os,I.bare,{λb o e n T B=>((g.2 b<|bm<|χ (aj e) I.ok.above).trans (I.base.keep b o e n T B)),λb o e n T B=>?_,I.base.free,λb o e B=>?_,I.base.tups,I.base.frzs,I.base.tbls},{_,hn',λj y v' l J e3=>?_},λy c e=>?_,I.free,I.freeC,λp hp=>?_,tracked ⟨oL,hoL,I.free⟩ g,by simpa using I.len} {_,g,.inl rfl};let[sl,l]:=I.base.slot b o e n T B;exact{sl,(g.2 b<|bm<|χ (aj e) I.ok.above).trans l};let[o',l]:=I.base.there b o e B;exact{o',(g.2 b<|bm<|χ (aj e) I.ok.above).trans l};by_cases U:j=i;subst U;rw[hi]at l;obtain rfl:=θ l;rw[fb L]at J;cases J;exact{u,r,.inl {O,by simp}};rw[fz (eh U)]at J;let[u',r',q]:=hl j y v' l J e3;refine{u',r',?_};let[k,e]||[k,c,e,z]:=q
 have:y≠x:=λe=>U<|lS hN l<|e ▸ hi;refine .inl {k,?_};simp[this,e];exact .inr {k,c,e,z.sameBut g<|cne y c e};let[w',z]:=I.cell y c e;exact{w',z.sameBut g<|cne y c e};let[e,n,ne,nf,d]:=I.pin p hp;exact{(g.2 _ ne).trans e,n,ne,nf,d};let[c,w]:=I.ok.has x<|.inl O
 have Y:X.fn x=true:=by
  let z||z:=hf
  exact z;rw[z]at O;cases O
 let[w',z]:=I.cell x c w;refine wpAny_storeName_cell I.ok.kind O w z<|λh' hc' g=>?_;let[oc,hoc,hocd]:=id z;refine h _ {I.ok,I.os,I.bare,{λb o e n T B=>((g.2 b<|bm<|χ (aj e) (I.ok.cab x c Y w)).trans (I.base.keep b o e n T B)),λb o e n T B=>?_,I.base.free,λb o e B=>?_,I.base.tups,I.base.frzs,I.base.tbls},{m,hn.sameBut g<|eh<|cne x c w,λj y v' l J e3=>?_},λy c' e=>?_,I.free,I.freeC,λp hp=>?_,tracked {oc,hoc,I.freeC x c w} g,by simpa using I.len} {c,g,.inr w};let[sl,l]:=I.base.slot b o e n T B;exact{sl,(g.2 b<|bm<|χ (aj e) (I.ok.cab x c Y w)).trans l};let[o',l]:=I.base.there b o e B;exact{o',(g.2 b<|bm<|χ (aj e) (I.ok.cab x c Y w)).trans l};by_cases U:j=i;subst U;rw[hi]at l;obtain rfl:=θ l;rw[fb L]at J;cases J;exact{u,r,.inr {.inl O,c,w,hc'}};rw[fz (eh U)]at J;let[u',r',q]:=hl j y v' l J e3;refine{u',r',?_};let q||[k,c',e,z']:=q
 exact .inl q;refine .inr {k,c',e,z'.sameBut g ?_};rintro rfl;exact U<|lS hN l<|I.ok.inj _ _ _ e w ▸ hi;by_cases hcc:c'=c;subst hcc;exact⟨_,hc'⟩;let[w2,z2]:=I.cell y c' e;exact{w2,z2.sameBut g hcc};let[e,n,ne,nf,d]:=I.pin p hp;refine{(g.2 _ ?_).trans e,n,ne,nf,d};intro q;rw[q,hoc]at e;exact d w' (by rw[<-(θ e)];exact hocd)
def lU(I:Inv X AA σ H s)(b:X.N.Nodup)(c:X.N[i]? =some x)(d:NF X.env.scope x)(r:RelV v u)
  (h:∀ a,Inv X AA (σ.set i<|some v) H a->Q () a) (e:X.fn x=true\/X.env.scope.names.lookup x=some .local:=by first|exact .inl rfl|exact .inr rfl|assumption):wpAny M A (storeName X.env x u) Q E s :=
 lT I b c d r (λa g z=>h a g) e
def Inv.call'(I:Inv X AA σ H s)(d:a.os=s.os)(u:Un (EC X.stack) ch H H' s.heap a.heap)(hok:HOk X.prog X.w H' a.heap)(e:sr a.gens)
  (g:∀ b∈ch,(b∈X.ex\/X.s₀.heap.objs.size<=b)/\b≠X.env.locals/\(∀ x c,X.env.cells.lookup x=some c->c≠b)/\∀ p∈X.pn++AA,p.1≠b):Inv X AA σ H' a:=by
 let[h',i,j,t',l]:=a;subst d;exact I.call    u hok e g
end
abbrev XK:=Value->Option Addr->Hp->Prop
abbrev St:=List<|Option V
abbrev VK:=V->Hp->Prop
abbrev TE:=St->Hp->VK->Prop
abbrev TT:=St->Hp->(Bool->Hp->Prop)->Prop
abbrev TA:=St->Hp->(tF->Hp->Prop)->Prop
structure Ends where
 nx:St->Hp->Prop
 rt:VK
 bk:St->Hp->Prop:=λ_ _=>False
 ct:St->Hp->Prop:=λ_ _=>False
abbrev TS:=Ends->St->Hp->Prop
def EP(X:Cx)(b:zA)(c:St)(Q:VK)(u:Value)(d:ν):Prop:=∃ v a,Inv X b c a d/\RelV v u/\Q v a
abbrev _root_.zB:=Bool->Hp->Prop
def TP(X:Cx)(c:zA)(d:St)(Q:zB)(b:Bool)(e:ν):Prop:=∃ a,Inv X c d a e/\Q b a
def AP(X:Cx)(b:zA)(c:St)(Q:tF->Hp->Prop)(us:yC)(d:ν):Prop:=∃ vs a,Inv X b c a d/\Vals vs us/\Q vs a
def SP(X:Cx)(c:zA)(D:Ends)(f:Flow)(d:ν):Prop :=
 match f with
 |.next=>∃ a b,Inv X c a b d/\D.nx a b
 |.brk=>∃ a b,Inv X c a b d/\D.bk a b
 |.cont=>∃ a b,Inv X c a b d/\D.ct a b
 |.ret u=>∃ v a b,Inv X c a b d/\RelV v u/\D.rt v b
def PE(X:Cx)(e:Expr)(t:TE):Prop :=
 ∀ (b:zA) (s:ν) (a:St) (H:Hp) (Q:VK),Inv X b a H s->t a H Q->wpAny (model X.prog X.w) X.A (eval e X.env) (EP X b a Q) X.xe s
def PT(X:Cx)(e:Expr)(t:TT):Prop :=
 ∀ (b:zA) (s:ν) (a:St) (H:Hp) (Q:zB),Inv X b a H s->t a H Q->wpAny (model X.prog X.w) X.A (Jt e X.env<|eval e X.env) (TP X b a Q) X.xe s
def PW(X:Cx)(e:Expr)(t:TT):Prop :=
 ∀ (whole:Sem Value) (b:zA) (s:ν) (a:St) (H:Hp) (Q:zB),Inv X b a H s->t a H Q->wpAny (model X.prog X.w) X.A (Jt e X.env whole) (TP X b a Q) X.xe s
def PW.pt(h:PW X e t):PT X e t:=h _
abbrev _root_.wD:=List Expr
def PA(X:Cx)(c:wD)(t:TA):Prop :=
 ∀ (pos:Pos) (b:zA) (s:ν) (a:St) (H:Hp) (Q:tF->Hp->Prop),Inv X b a H s->t a H Q->wpAny (model X.prog X.w) X.A (spliced<|jd pos<|av c X.env) (AP X b a Q) X.xe s
def PS(X:Cx)(st:Stmt)(t:TS):Prop :=
 ∀ (a:zA) (s:ν) (b:St) (H:Hp) (D:Ends),Inv X a b H s->t D b H->wpAny (model X.prog X.w) X.A (exec st X.env) (SP X a D) X.xe s
def FS(X:Cx)(st:List Stmt)(t:TS):Prop :=
 ∀ (a:zA) (s:ν) (b:St) (H:Hp) (D:Ends),Inv X a b H s->t D b H->wpAny (model X.prog X.w) X.A (execs st X.env) (SP X a D) X.xe s
def AU{α :Type}{t:Sem α}{Q b: α ->ν->Prop}{M:Model}{A:dh}{E:yB}{s:ν}(h:wpAny M A t Q E s)(c:∀ a s,Q a s->b a s):wpAny M A t b E s:=ni h c λz z x=>x
section
variable{X:Cx}
def RY(i:Nat):TE:=λa H Q=>∃ v,a[i]? =some (some v)/\Q v H
def tC(v:V):TE:=λ_ H Q=>Q v H
def lV(g:X.N[i]? =some x)(j:RX X.env.scope x)(hd:(x ==("__debug__":Str))=false:=by decide)(GT:(x ==("__classdict__":Str))=false:=by decide):PE X (.Name x pos) (RY i):=by
 intro y s n H Q I [v,e,h];let[m,o,q]:=I.loc;let[u,r,l]:=q i x v g e j
 have fin:EP X _ n Q u s:=x2 v H ⟨I,r,h⟩;let[b,w]||[b,c,d,a]:=l
 exact Ie (wpAny_loadName_local I.ok.kind b o w fin) hd;let b||b:=b
 exact Ie (wpAny_loadName_cell I.ok.kind b d a fin) hd;exact Ie (wpAny_loadName_free I.ok.kind b d a fin GT) hd
def lW{i j pos}:PE X (.Constant (.int i) j pos) (tC<|.int i):=λz z z H z I h=>wpAny_Constant_int<|x2 (.int i) H {I.tok _,⟨_,rfl⟩,h}
def Rh{b j pos}:PE X (.Constant (.bool b) j pos) (tC<|.bl b):=λz z z H z I h=>Constant_bool<|x2 (.bl b) H ⟨I,rfl,h⟩
def Rj{j pos}:PE X (.Constant .none j pos) (tC .non):=λz z z H z I h=>Constant_none<|x2 (.non) H ⟨I,rfl,h⟩
def Rk{x j pos}:PE X (.Constant (.str x) j pos) (tC<|.str x):=λz z z H z I h=>Calls.Constant_str<|x2 (.str x) H {I.tok _,⟨_,rfl⟩,h}
def Gl(X:Cx)(x:Str):Prop:=X.env.kindOf x=some .globalImplicit
def NG(I:Inv X c d H s)(a:Gl X x)(b:X.mg x=some u)(h:Q u s)
  (hd:(x ==("__debug__":Str))=false:=by decide):wpAny (model X.prog X.w) X.A (eval (.Name x pos) X.env) Q E s :=
 vk I.ok.kind a (Calls.loadGlobal_global (by rw[I.ok.glob];exact I.mod.glob.keeps I.bk) b h) hd
def NH{E:yB}{a:zA}{s:ν}{b:St}{H:Hp}{x:Str}{u:Value}{pos:Pos}{Q:yB}(I:Inv X a b H s)(c:Gl X x)(d:X.mg x=none)(e:sq x=some u)(h:Q u s)
  (g:x≠"__name__":=by decide) (hd:(x ==("__debug__":Str))=false:=by decide):wpAny (model X.prog X.w) X.A (eval (.Name x pos) X.env) Q E s:=by
 let[i,h1,h2]:=I.mod.blt;exact vk I.ok.kind c (Calls.loadGlobal_builtin (by rw[I.ok.glob];exact I.mod.glob.keeps I.bk) d (by rw[I.ok.blt];exact h1.keeps I.bk) ((h2 x g).trans e) h) hd
def Rl(a:Gl X x)(b:X.mg x=some u)(r:RelV v u)(hd:(x ==("__debug__":Str))=false:=by decide):PE X (.Name x pos) (tC v) :=
 λz z z H z I h=>NG I a b (x2 v H ⟨I,r,h⟩) hd
def VB(a:Gl X x)(b:X.mg x=none)(c:sq x=some u)(r:RelV v u)(d:x≠"__name__":=by decide)(hd:(x ==("__debug__":Str))=false:=by decide):PE X (.Name x pos) (tC v) :=
 λz z z H z I h=>NH I a b c (x2 v H ⟨I,r,h⟩) d hd
variable{a b:Expr}{ta tb:TE}{pos:Pos}
def PC(X:Cx)(op:CmpOp)(a b:Expr)(t:TE):Prop :=
 ∀ (g:zA) (s:ν) (e:St) (H:Hp) (Q:VK),Inv X g e H s->t e H Q ->
  wpAny (model X.prog X.w) X.A (eval a X.env) (λv c=>wpAny (model X.prog X.w) X.A (eval b X.env) (λu d=>wpAny (model X.prog X.w) X.A (du op v u) (EP X g e Q) X.xe d) X.xe c) X.xe s
def Rm(b:Expr)(h:op≠.In)(h2:op≠.NotIn):mo op b=false:=by
 have c:(op==CmpOp.In)=false:=by cases op<;>first|rfl|exact absurd rfl h
 have d:(op==Kr)=false:=by cases op<;>first|rfl|exact absurd rfl h2
 cases b<;>simp[mo,c,d]
def tB(t:TE):TT:=λd H Q=>t d H λx e=>∃ c,x=.bl c/\Q c e
def Rp{t:TE}(h:PC X op a b t)(h1:mo op b=false:=by first|exact Rm _ (by decide) (by decide)|rfl):PT X (.Compare a [op] [b] pos) (tB t):=by
 refine λo s g H Q I i=>yt (AU (h _ s g H _ I i) λv r h1=>AU h1 λu w h2=>AU h2 λc y e=>?_) h1;let[x,j,l,n,[d,rfl,q]]:=e;subst n;exact jg ⟨j,l,q⟩
variable{tA tB':TT}{rest:wD}
def JU(t u:TT):TT:=λd H Q=>t d H λc e=>if c=true then u d e Q else Q false e
def HV(t u:TT):TT:=λd H Q=>t d H λc e=>if c=true then Q true e else u d e Q
def E4(t:TT):TT:=λd H Q=>t d H λc e=>Q (!c) e
def Rq(d:PT X a tA):PW X (.BoolOp .And [a] pos) tA:=by
 refine λi j s g H Q I h=>isTrue_and<|AU (d _ s g H Q I h) λc l e=>?_;cases c with
 |true=>exact isTrue_and_nil e
 |false=>exact e
def Rv(d:PT X a tA):PW X (.BoolOp .Or [a] pos) tA:=by
 refine λi j s g H Q I h=>isTrue_or<|AU (d _ s g H Q I h) λc l e=>?_;cases c with
 |false=>exact isTrue_or_nil e
 |true=>exact e
def Rw(j:PT X a tA)(l:PW X (.BoolOp .And (b::rest) pos) tB'):PW X (.BoolOp .And (a::b::rest) pos) (JU tA tB'):=by
 refine λn q s e H Q I h=>isTrue_and<|AU (j _ s e H _ I h) λc o d=>?_;let[g,i,q1]:=d;cases c with
 |true=>exact l n _ o e g Q i q1
 |false=>exact⟨g,i,q1⟩
def Rx(j:PT X a tA)(l:PW X (.BoolOp .Or (b::rest) pos) tB'):PW X (.BoolOp .Or (a::b::rest) pos) (HV tA tB'):=by
 refine λn q s e H Q I h=>isTrue_or<|AU (j _ s e H _ I h) λc o d=>?_;let[g,i,q1]:=d;cases c with
 |true=>exact⟨g,i,q1⟩
 |false=>exact l n _ o e g Q i q1
def Ry(d:PT X a tA):PT X (.UnaryOp .Not a pos) (E4 tA):=λi s e H Q I h=>isTrue_not<|d _ s e H (λc g=>Q _ g) I h
def OV(ta tb:TE):TE:=λd H Q=>ta d H λx e=>∃ c,x=.bl c/\if c=true then tb d e Q else Q (.bl false) e
def Rz{op}(h:PE X a t):PE X (.BoolOp op [a] pos) t:=λe s c H Q I d=>BoolOp_one<|h _ s c H Q I d
def Sb(j:PE X a ta)(l:PE X (.BoolOp .And (b::rest) pos) tb):PE X (.BoolOp .And (a::b::rest) pos) (OV ta tb):=by
 refine λq s e H Q I h=>BoolOp_and<|AU (j _ s e H _ I h) λv n d=>?_;let[x,g,i,o,[c,rfl,q1]]:=d;subst o;refine jg ?_;cases c with
 |true=>exact l _ n e g Q i q1
 |false=>exact x2 (.bl _) g ⟨i,rfl,q1⟩
end
def SqL(K:W.Frag)(H:Hp)(a:Addr)(xs:tF):Prop :=
 Rd H a (.lst xs) ∨
  ∃ (o:Obj) (b:Array Value) (n:Nat),K.lookup a=some o/\o.cls=.type "list"/\o.dict=none/\o.data=.seq b n/\b.size<=sizeLine/\Vals xs b.toList
def SqT(K:W.Frag)(H:Hp)(a:Addr)(xs:tF):Prop :=
 Rd H a (.tup xs) ∨
  ∃ (o:Obj) (b:Array Value) (n:Nat),K.lookup a=some o/\o.cls=.type "tuple"/\o.data=.seq b n/\b.size<=sizeLine/\Vals xs b.toList
def Sc:Value->Option V
 |.none=>some .non
 |.bool b=>some<|.bl b
 |.int i _=>some<|.int i
 |.str x _=>some<|.str x
 |.bytes b _=>some<|.byt b
 |.float b _=>some<|.flt b
 |.ref a=>some<|.ref a
 |.type n=>some<|.ty n
 |_=>none
def RelV.abs(r:RelV x u):Sc u=some x:=by
 cases x with
 |non=>subst r;rfl
 |bl _=>subst r;rfl
 |int _=>let[t,rfl]:=r;rfl
 |str _=>let[t,rfl]:=r;rfl
 |byt _=>let[t,rfl]:=r;rfl
 |flt _=>let[t,rfl]:=r;rfl
 |ref _=>subst r;rfl
 |ty _=>subst r;rfl
def RelV.inj{x y:V}{u:Value}(r:RelV x u)(q:RelV y u):x=y:=θ<|r.abs.symm.trans q.abs
theorem Vals.inj:∀ {xs ys:tF} {us:yC},Vals xs us->Vals ys us->xs=ys:=by
 intro xs ys us h h'
 induction h generalizing ys with
 |nil=>cases h';rfl
 |cons r t a=>cases h' with|cons b t'=>rw[r.inj b,a t']
section
variable{X:Cx}{AA:zA}{σ:St}{H:Hp}{s:ν}{a:Addr}{xs ys:tF}
def SqL.of{K:W.Frag}(h:H a=some (.lst xs)):SqL K H a xs:=.inl<|.inl h
def SqT.of{K:W.Frag}(h:H a=some (.tup xs)):SqT K H a xs:=.inl<|.inl h
def Inv.list(I:Inv X AA σ H s)(h:SqL X.K H a xs):∃ b:yC,Vals xs b/\PlainL s.heap a b.toArray/\xs.length<=sizeLine:=by
 let h||[o,b,n,c,d,hd,g,hz,r]:=h
 let[z,b,n,r,e]:=h.ok I.hok;exact{_,r,x2 _ n ⟨e,rfl,rfl,rfl⟩,z};refine{_,r,x2 o n {I.kIn a o c,d,hd,g},?_};exact r.length ▸ hz
def Inv.tuple(I:Inv X AA σ H s)(h:SqT X.K H a xs):∃ b:yC,Vals xs b/\IsTup s.heap a b.toArray/\xs.length<=sizeLine:=by
 let h||[o,b,n,c,d,e,hz,r]:=h
 let[z,b,r,p]:=h.ok I.hok;exact⟨_,r,p,z⟩;refine{_,r,{o,I.kIn a o c,d,n,e},?_};exact r.length ▸ hz
def Inv.list_inj(I:Inv X AA σ H s)(h:SqL X.K H a xs)(h':SqL X.K H a ys):xs=ys:=by
 let[i,r,[o,n,e,z,z,d],z]:=I.list h;let[b,j,[q,u,c,z,z,g],z]:=I.list h';rw[e]at c;obtain rfl:=θ c;rw[d]at g;injection g with l _
 have:i=b:=congrArg Ju l;subst this;exact r.inj j
def Inv.tuple_inj(I:Inv X AA σ H s)(h:SqT X.K H a xs)(h':SqT X.K H a ys):xs=ys:=by
 let[i,r,[o,e,z,n,d],z]:=I.tuple h;let[b,j,[q,c,z,u,g],z]:=I.tuple h';rw[e]at c;obtain rfl:=θ c;rw[d]at g;injection g with l _
 have:i=b:=congrArg Ju l;subst this;exact r.inj j
end
section
variable{X:Cx}{AA:zA}{σ:St}{H:Hp}{s:ν}{E:yB}
end
section
variable{X:Cx}{st:Stmt}{rest:List Stmt}{t u:TS}{e:Expr}{te:TE}{pos:Pos}
def BR:TS:=λD a H=>D.nx a H
def AF(t u:TS):TS:=λD a H=>t { D with nx:=u D } a H
def Sd:FS X [] BR:=λz z a H z I h=>uu<|x2 a H ⟨I,h⟩
def Sg(h1:PS X st t)(h2:FS X rest u):FS X (st::rest) (AF t u):=by
 refine λi s a H D I h=>D_<|AU (h1 _ s a H _ I h) λf b q=>?_;cases f with
 |next =>
  revert q;apply u2;intro c d [g,q];exact h2 _ b _ d D g q
 |ret v=>exact q
 |brk=>exact q
 |cont=>exact q
def Sh(h1:PS X st t):FS X [st] t:=by
 refine λb s a H D I h=>D_<|AU (h1 _ s a H D I h) λf c q=>?_;cases f with
 |next=>exact uu q
 |ret v=>exact q
 |brk=>exact q
 |cont=>exact q
def VC:TS:=λD a H=>D.bk a H
def Sj:PS X (.Break pos) VC:=λz z a H z I h=>wpAny_Break<|x2 a H ⟨I,h⟩
def Inv.quiet{a:zA}{b:St}{H:Hp}{s:ν}(I:Inv X a b H s):interactive X.env=false:=by simp[interactive,I.ok.kind]
def CB(te:TE):TS:=λD a H=>te a H λ_ b=>D.nx a b
def Sk(he:PE X e te)(b:ve e none pos.line X.env=pure false:=by rfl):PS X (.Expr e pos) (CB te):=λg s a H D I h=>wpAny_Expr_any (AU (he _ s a H _ I h) (by intro v i [x,c,d,j,q1];exact x2 a c ⟨d,q1⟩)) I.quiet b
def AV(te:TE):TS:=λD a H=>te a H D.rt
def Sl(he:PE X e te):PS X (.Return (some e) pos) (AV te):=λg s a H D I h=>wpAny_Return_some (AU (he _ s a H _ I h) (by intro v i [x,b,c,d,q1];exact x3 x a b ⟨c,d,q1⟩))
def OW:TS:=λD _ H=>D.rt .non H
def Sq:PS X (.Return none pos) OW:=λz z a H z I h=>wpAny_Return_none<|x3 (.non) a H ⟨I,rfl,h⟩
def BH(c:TT)(t u:TS):TS:=λD a H=>c a H λb d=>if b=true then t D a d else u D a d
def Sv{j:TT}(q:PT X c j)(r:FS X a t)(v:FS X b u):PS X (.If c a b pos) (BH j t u):=by
 refine λw s g H D I h=>wpAny_If<|AU (q _ s g H _ I h) λd l i=>?_;let[n,o,q1]:=i;cases d with
 |true=>exact r _ l g n D o q1
 |false=>exact v _ l g n D o q1
end
abbrev TG:=V->St->Hp->(St->Hp->Prop)->Prop
abbrev G9:=tF->St->Hp->(St->Hp->Prop)->Prop
def PG(X:Cx)(target:Expr)(t:TG):Prop :=
 ∀ (b:zA) (s:ν) (c:St) (H:Hp) (v:V) (u:Value) (Q:St->Hp->Prop),Inv X b c H s->RelV v u->t v c H Q ->
  wpAny (model X.prog X.w) X.A (J_ target X.env u) (λ_ e=>∃ a d,Inv X b a d e/\Q a d) X.xe s
def IR(X:Cx)(e:wD)(t:G9):Prop :=
 ∀ (b:zA) (s:ν) (c:St) (H:Hp) (vs:tF) (us:yC) (Q:St->Hp->Prop),Inv X b c H s->Vals vs us->t vs c H Q ->
  wpAny (model X.prog X.w) X.A (assignInOrder ((vm e X.env).map (·.2)) us) (λ_ g=>∃ a d,Inv X b a d g/\Q a d) X.xe s
abbrev VD:=V->V->V->Hp->(Hp->Prop)->Prop
def VE(X:Cx)(t:VD):Prop :=
 ∀ (a:zA) (s:ν) (b:St) (H:Hp) (o i v:V) (c iv u:Value) (Q:Hp->Prop),Inv X a b H s->RelV o c->RelV i iv->RelV v u->t o i v H Q ->
  wpAny (model X.prog X.w) X.A (Ka c iv u) (λ_ e=>∃ d,Inv X a b d e/\Q d) X.xe s
abbrev lX:=V->V->Hp->VK->Prop
section
variable{X:Cx}{pos:Pos}
def AG(i:Nat):TG:=λv a H Q=>Q (a.set i<|some v) H
def lY(a:X.N.Nodup)(b:X.N[i]? =some x)(c:NF X.env.scope x)(d:X.fn x=true\/X.env.scope.names.lookup x=some .local:=by first|exact .inl rfl|exact .inr rfl|assumption):PG X (.Name x pos) (AG i):=λg s j H v u Q I r h=>Ba<|lU I a b c r (λl e=>x2 _ H ⟨e,h⟩) d
def FG:G9:=λvs a H Q=>vs=[]/\Q a H
def DP(t:TG)(u:G9):G9:=λvs b H Q=>∃ v r,vs=v::r/\t v b H λa c=>u r a c Q
def Sw:IR X [] FG:=by
 intro b s a H vs us Q I r [rfl,h];exact assignInOrder_nil<|x2 a H ⟨I,h⟩
def Sx{e:Expr}{a:wD}{t:TG}{u:G9}(h1:PG X e t)(h2:IR X a u)
  (b:(vm (e::a) X.env).map (·.2)=J_ e X.env::(vm a X.env).map (·.2):=by rfl):IR X (e::a) (DP t u):=by
 intro n s c H vs us Q I r h;revert h;apply u2;intro v o [rfl,h];cases r with
 |cons r d =>
  rw[b];exact assignInOrder_cons (AU (h1 _ s c H _ _ _ I r h) (by intro z g [i,j,l,q1];exact(h2 _ g _ j _ _ Q l d q1)))
def FH(K:W.Frag)(n:Nat)(t:G9):TG:=λv b H Q=>∃ a xs,v=.ref a/\SqT K H a xs/\xs.length=n/\t xs b H Q
def Sy(l:X.calm=true)(h:IR X c t)
  (q:(vm c X.env).length=n:=by rfl) (d:(vm c X.env).findIdx? (·.1)=none:=by rfl):PG X (.Tuple c k pos) (FH X.K n t):=by
 intro B s i H v u Q I r g;revert g;apply u2;intro a xs [rfl,w,x,g];subst r;let[D,j,y,hz]:=I.tuple w;refine assign_Tuple_tuple (I.ok.hd l) y (by simp[q,<-x,j.length]) d λh' z=>?_
 have A:Inv X _ i H { s with heap:=h' }:=I.kept  λb o e=>z b o (bm<|aj e) e;exact h _ _ i H xs _ Q A (j) g
def NI(to b:TE)(t:VD):TG:=λv a H Q=>to a H λo c=>b a c λi d=>t o i v d λe=>Q a e
def Sz{to c:TE}{t:VD}(d:PE X o to)(e:PE X i c)(g:VE X t)
  (L:∀ v,J_ (.Subscript o i pos) X.env v=(do
   let a ← ss [v] (eval o X.env)
   let iv ← ss [v,a] (eval i X.env)
   x_ pos
   ss [v,a,iv] (Ka a iv v)
   release [v,a,iv] []):=by intro z;rfl):PG X (.Subscript o i pos) (NI to c t):=λM s b H v u Q I r h=>δ (ff (AU (d _ s b H _ I h) (by intro a j [x,l,n,q,q1];exact(δ (ff (AU (e _ j b l _ n q1) (by intro iv w [y,A,B,D,q2];exact(δ (zz (δ (ff (AU (g _ w b A x y v a iv u _ B q D r q2) (by intro z N [E,J,q3];exact(wpAny_release<|x2 b E ⟨J,q3⟩))))))))))))))
def AO(b:TE)(g:TG):TS:=λD a H=>b a H λx c=>g x a c D.nx
def Tb{c:TE}(he:PE X e c)(i:PG X a g)(j:swapsWithSole [a] e pos.line X.env=pure false:=by rfl)(l:swappedStores [a] e X.env=pure none:=by rfl)
  (h1:(vm [a] X.env).map (·.2)=[J_ a X.env]:=by rfl):PS X (.Assign [a] e pos) (AO c g):=by
 refine λw s d H D I h=>wpAny_Assign_stores (AU (he _ s d H _ I h) λv n b=>?_) j l;let[x,o,r,u,q1]:=b;rw[h1];exact AU (i _ n d o x v _ r u q1) λz y q=>q
def lZ{b:TE}(c:X.N.Nodup)(d:X.N[i]? =some x)(g:NF X.env.scope x)(he:PE X e b)(j:ve e (some<|.Name x a) pos.line X.env=pure false:=by rfl)(l:X.fn x=true\/X.env.scope.names.lookup x=some .local:=by first|exact .inl rfl|exact .inr rfl|assumption) :
  PS X (.Assign [.Name x a] e pos) (AO b<|AG i):=λw s n H D I h=>wpAny_Assign_Name (AU (he _ s n H _ I h) (by intro v z [y,o,q,r,q1];exact(lU q c d g r (λA u=>x2 _ o ⟨u,q1⟩) l))) j
def Tc(f:Int->Int->Int):lX:=λx y H Q=>∃ i j,x=.int i/\y=.int j/\Q (.int<|f i j) H
end
section
variable{X:Cx}{pos:Pos}
end
structure It where
 go:Nat->Hp->Prop
 yld:Nat->Hp->V->Hp->Prop
 stop:Nat->Hp->Prop
def FpOk(X:Cx)(a:zA)(H:Hp)(b:Addr):Prop :=
 H b=none/\b≠X.env.locals/\b∉X.fs/\(b∈X.ex\/X.s₀.heap.objs.size<=b)/\(∀ x c,X.env.cells.lookup x=some c->c≠b)/\∀ p∈X.pn++a,p.1≠b
def Inv.fpOk(I:Inv X d l H s)(a:s.heap.objs.size<=b)(g:i b=none):FpOk X d i b:=by
 refine{g,ja<|χ I.lt a,I.nofs a,.inr<|υ I.sz a,λx c e z=>?_,λp j z=>(absurd (χ (aj (I.pin p j).1) (by rw[z];exact a)) (jo _))};let[v,q]:=I.cell x c e;exact absurd (χ q.lt (by rw[z];exact a)) (jo _)
structure L3(P:bu)(w:World)(K:W.Frag)(tg:Expr)(J:It)(fp:uD)(it:Addr)(tn:Nat->Heap->Prop):Prop where
 mem:it∈fp
 obj:∀ i h,tn i h->∀ b∈fp,∃ o,h.get? b=some o/\∀ v,o.data≠.cell v
 keep:∀ i h h',tn i h->(∀ b∈fp,∀ o,h.get? b=some o->h'.get? b=some o)->tn i h'
 item:∀ (X:Cx),X.prog=P->X.w=w->X.K=K->X.calm=true->∀ (i:Nat) (AA:zA) (s:ν) (σ:St) (H:Hp) (E:yB),Inv X AA σ H s->(∀ b∈fp,FpOk X AA H b)->tn i s.heap->J.go i H ->
  wpAny (model P w) X.A (yz<|.ref it) (λr s1=>∃ u,r=some u /\
   wpAny (model P w) X.A (yn tg (.ref it) u) (λ_ s2=>∃ x H',Inv X AA σ H' s2/\RelV x u/\J.yld i H x H'/\tn (i+1) s2.heap/\∀ b∈fp,H' b=none) E s1) E s
 done:∀ (X:Cx),X.prog=P->X.w=w->X.K=K->X.calm=true->∀ (i:Nat) (AA:zA) (s:ν) (σ:St) (H:Hp) (E:yB),Inv X AA σ H s->(∀ b∈fp,FpOk X AA H b)->tn i s.heap->J.stop i H ->
  wpAny (model P w) X.A (yz<|.ref it) (λr s1=>r=none/\Inv X AA σ H s1) E s
 self:∀ (A:dh) (i:Nat) (s:ν) (Q:yB) (E:yB),tn i s.heap->Q (.ref it) s->wpAny (model P w) A (Ea<|.ref it) Q E s
abbrev TI:=St->Hp->(It->Hp->Prop)->Prop
def l9(X:Cx)(d:zA)(j:St)(l:Expr)(R:It->Hp->Prop)(a:Value)(e:ν):Prop :=
 ∃ (it:Addr) (g:uD) (i:Nat->Heap->Prop) (J:It) (c:Hp),a=.ref it/\Inv X d j c e/\L3 X.prog X.w X.K l J g it i/\i 0 e.heap/\(∀ b∈g,FpOk X d c b)/\R J c
def PI(X:Cx)(c iter:Expr)(d:TI):Prop :=
 ∀ (b:zA) (s:ν) (a:St) (H:Hp) (R:It->Hp->Prop),Inv X b a H s->d a H R ->
  wpAny (model X.prog X.w) X.A (eval iter X.env) (λv e=>wpAny (model X.prog X.w) X.A (Ea v) (l9 X b a c R) X.xe e) X.xe s
def RZ(b:s.heap.get? it=some o)(c:o.cls=.type n)(hd:o.data=.fields vs)
    (d:["enumerate","zip","dict_itemiterator","dict_reverseitemiterator","odict_iterator","itertools.zip_longest","itertools.pairwise"].contains n=false) (a:Q () s):wpAny M A (yn e (.ref it) u) Q E s:=by
  cases e<;>first
    |exact π a
    | (cases u<;>first
        |exact π a
        | (refine δ (wpAny_load b ?_)
           rw[c,hd]
           show wpAny M A (if(["enumerate","zip","dict_itemiterator","dict_reverseitemiterator","odict_iterator","itertools.zip_longest","itertools.pairwise"].contains n&&vs[0]? == some _)=true then _ else _) Q E s;rw[if_neg (by intro h;rw[d]at h;cases h)];exact π a))
def F8(K:W.Frag)(a:Addr):It :=
 {λi H=>∃ xs x,SqL K H a xs/\xs[i]? =some x,λi H x b=>b=H/\∀ xs,SqL K H a xs->xs[i]? =some x,λi H=>∃ xs,SqL K H a xs/\xs.length<=i}
def IS(K:W.Frag)(a:Addr):It :=
 {λi H=>∃ xs x,SqT K H a xs/\xs[i]? =some x,λi H x b=>b=H/\∀ xs,SqT K H a xs->xs[i]? =some x,λi H=>∃ xs,SqT K H a xs/\xs.length<=i}
def ET(lo:Int)(n:Nat):It:={λi _=>i<n,λi H x a=>a=H/\x=.int (lo+i),λi _=>n<=i}
def Td{P:bu}{w:World}{K:W.Frag}{T:Expr}(a it:Addr):L3 P w K T (F8 K a) [it] it (λi h=>h.IsListIter it a i) where
 mem:=by simp
 obj:=λi h st b g=>by
  have e:b=it:=by simpa using g
  subst e;let[o,e,c,d]:=st;exact{o,e,λv z=>by rw[d]at z;cases z}
 keep:=λi h h' st k=>st.at λo e=>k it (by simp) o e
 item:=by
  intro X r A B O i U s Q H E I l st Y;subst r A B;revert Y;apply u2;intro xs x [n,q];let[AL,D,p,hz]:=I.list n;let[J,f1,f2,L,M,N]:=l it (by simp);let[u,hu,ru]:=D.get q;refine wpAny_pyNext_list_item st p.isList  (by simpa using hu) λh' j sb=>?_
  have I1:Inv X _ Q H { s with heap:=h' }:=I.turned  (λb o g e=>(sb.2 b g).trans e) J f1 L M N;let[o,e,c,d]:=id j;exact{u,rfl,RZ  e c d (by decide) (x2 x H {I1,ru,{rfl,λys hy=>by rw[I.list_inj hy n];exact q},j,λb g=>(l b g).1})}
 done:=by
  intro X r A B O i U s Q H E I l st [xs,n,q];subst r A B;let[AL,D,p,hz]:=I.list n;let[J,f1,f2,L,M,N]:=l it (by simp);exact wpAny_pyNext_list_end (I.ok.hd O) st p.isList (by simp;exact D.length ▸ q) λh' eb=>{rfl,I.turned  (λb o g e=>eb b o g e) J f1 L M N}
 self:=λy y y y y st h=>wpAny_pyIter_listiter st h
def Tg{P:bu}{w:World}{K:W.Frag}{T:Expr}(a it:Addr):L3 P w K T (IS K a) [it] it (λi h=>h.IsTupleIter it a i) where
 mem:=by simp
 obj:=λi h st b g=>by
  have e:b=it:=by simpa using g
  subst e;let[o,e,c,d]:=st;exact{o,e,λv z=>by rw[d]at z;cases z}
 keep:=λi h h' st k=>st.at λo e=>k it (by simp) o e
 item:=by
  intro X r A B O i U s Q H E I l st Y;subst r A B;revert Y;apply u2;intro xs x [n,q];let[AL,D,p,hz]:=I.tuple n;let[J,f1,f2,L,M,N]:=l it (by simp);let[u,hu,ru]:=D.get q;refine wpAny_pyNext_tuple_item st (p)  (by simpa using hu) λh' j sb=>?_
  have I1:Inv X _ Q H { s with heap:=h' }:=I.turned  (λb o g e=>(sb.2 b g).trans e) J f1 L M N;let[o,e,c,d]:=id j;exact{u,rfl,RZ  e c d (by decide) (x2 x H {I1,ru,{rfl,λys hy=>by rw[I.tuple_inj hy n];exact q},j,λb g=>(l b g).1})}
 done:=by
  intro X r A B O i U s Q H E I l st [xs,n,q];subst r A B;let[AL,D,p,hz]:=I.tuple n;let[J,f1,f2,L,M,N]:=l it (by simp);exact wpAny_pyNext_tuple_end (I.ok.hd O) st (p) (by simp;exact D.length ▸ q) λh' eb=>{rfl,I.turned  (λb o g e=>eb b o g e) J f1 L M N}
 self:=λy y y y y st h=>wpAny_pyIter_tupleiter st h
def Th{P:bu}{w:World}{K:W.Frag}{A:Expr}(it:Addr)(lo:Int)(n:Nat):L3 P w K A (ET lo n) [it] it (λi h=>IsRangeIter h it (lo+(i:Nat) * 1) ((n:Int) - (i:Nat)) 1) where
 mem:=by simp
 obj:=λi h st b a=>by
  have e:b=it:=by simpa using a
  subst e;exact⟨_,st,λv z=>by
   cases z⟩
 keep:=λi h h' st k=>k it (by simp) _ st
 item:=by
  intro X B D J g i L s x H E I d st j;let[l,f1,f2,q,r,u]:=d it (by simp);refine(Walks.range   (I.ok.hd g) it lo 1 n).item i s _ _ j st λv h' tk M c N=>?_;let[t,rfl]:=M
  have O:Inv X _ x H { s with heap:=h',toks:=tk }:=I.turned (λb o a e=>N b o (by simpa using a) e) l f1 q r u;refine{_,rfl,RZ   c rfl rfl (by decide) (x2 (.int _) H {O,{t,?_},⟨rfl,rfl⟩,c,λb a=>(d b a).1})};rw[Int.mul_one]
 done:=by
  intro X B D J g i L s x H E I d st j;let[l,f1,f2,q,r,u]:=d it (by simp);exact wpAny_pyNext_range_end (I.ok.hd g) st (by have:n<=i:=j;lia) λh' Q=>{rfl,I.turned  (λb o a e=>Q b o a e) l f1 q r u}
 self:=λy y y y y st h=>wpAny_pyIter_rangeiter st h
section
variable{X:Cx}{tg:Expr}
def mB{g:zA}{c:St}{H:Hp}{s:ν}{R:It->Hp->Prop}{E:yB}{lo a:Int}{t u v:Tok}{tk:Nat}(I:Inv X g c H s)(h1: -(2^62)<=lo)(h2:lo<2^62)(h3: -(2^62)<=a)(h4:a<2^62)
  (q:R (ET lo (a-lo).toNat) H):wpAny (model X.prog X.w) X.A (Ea<|.ref s.heap.objs.size) (l9 X g c tg R) E { s with heap:=s.heap.push { cls:=.type "range",data:=.fields #[.int lo t,.int a u,.int 1 v] },toks:=tk }:=by
 refine wpAny_pyIter_range (IsRange.new ..) (small_one h1 h2 h3 h4) ?_
 have d:Inv X _ c H { s with heap:=s.heap.push { cls:=.type "range",data:=.fields #[.int lo t,.int a u,.int 1 v] },toks:=tk }:=I.kept λb o e=>ξ _ e;refine⟨_,_,_,_,H,rfl,
  d.kept  λb o e=>ξ _ e,Th _ lo _,?_,λb i=>?_,q⟩
 have j:lo+((0:Nat))*1=lo:=by simp
 have l:(((a-lo).toNat))-((0:Nat))=Ja lo a 1:=by rw[rangeSize_one];split<;>omega
 rw[j,l];exact ak _ rfl
 have e:b=(s.heap.push { cls:=.type "range",data:=.fields #[.int lo t,.int a u,.int 1 v] }).objs.size:=by simpa using i
 subst e;exact d.fpOk (ο _) (d.hok.fresh<|ο _)
def R0(a:TA):TI:=λb H R=>a b H λvs c=>∃ j:Int,vs=[.int j]/\ -(2^62)<=j/\j<2^62/\R (ET 0 j.toNat) c
def OX(a:TA):TI:=λb H R=>a b H λvs c=>∃ i j:Int,vs=[.int i,.int j]/\(-(2^62)<=i/\i<2^62/\ -(2^62)<=j/\j<2^62)/\R (ET i (j-i).toNat) c
def Tj{a:Expr}{c:TA}{p pos:Pos}(d:Gl X "range")(e:X.mg "range"=none)(g:PA X [a] c)(i:av [a] X.env=[(false,eval a X.env)]:=by rfl):PI X tg (.Call (.Name "range" p) [a] [] pos) (R0 c):=by
 refine λv s l H R I h=>Call_<|NH I d e boot_range<|jm (AU (g _ _ s l H _ I h) λus w b=>?_) i rfl;let[vs,x,n,o,[j,rfl,q1,q2,q]]:=b;cases o with
 |cons r u =>
  cases u;let[t,rfl]:=r;exact call_range_1 (mB n (by decide) (by decide) q1 q2 (by simpa using q))
def Tl(l:Gl X "range")(n:X.mg "range"=none)(o:PA X [a,b] u)(v:av [a,b] X.env=[(false,eval a X.env),(false,eval b X.env)]:=by rfl)(c:av [b] X.env=[(false,eval b X.env)]:=by rfl) :
  PI X tg (.Call (.Name "range" p) [a,b] [] pos) (OX u):=by
 refine λw s x H R I h=>Call_ (NH I l n boot_range (jm (AU (o pos w s x H _ I h) λus B d=>?_) (by rw[v,c]) (by rw[c];rfl)));let[vs,D,y,z,q1]:=d;revert q1;apply u2;intro i j [e,[q1,q2,q3,q4],q];subst e;cases z with
 |cons r g =>
  cases g with
  |cons A g =>
   cases g;let[t,rfl]:=r;let[t',rfl]:=A;exact call_range_2<|mB y q1 q2 q3 q4 q
def CL(j:TI)(g:TG)(l:TS):TS:=λD a H=>j a H λJ n=>∃ W:Nat->Nat->St->Hp->Prop,(∃ m,W 0 m a n)/\∀ i m a H,W i m a H ->
 (J.stop i H/\D.nx a H)\/(J.go i H/\∃ N:St->Hp->Prop,(∀ b c,N b c->∃ e,e<m/\W (i+1) e b c)/\∀ x c,J.yld i H x c->g x a c λd o=>l { D with nx:=N,ct:=N,bk:=D.nx } d o)
def R1(a:uD)(h:Heap):zA:=a.filterMap λb=>(h.get? b).map λo=>(b,o)
def R3(a:b∈c)(e:h.get? b=some o):(b,o)∈R1 c h:=qy.mpr {b,a,by rw[e];rfl}
def Tm(a:p∈R1 c h):p.1∈c/\h.get? p.1=some p.2:=by
 let[b,d,e]:=qy.mp a;cases q:h.get? b with
 |none=>rw[q]at e;cases e
 |some o =>
  rw[q]at e
  have g:=θ e;subst g;exact⟨d,q⟩
def Inv.pinned(I:Inv X a j H s)(l:∀ b∈c,FpOk X a H b)(n:∀ b∈c,∃ o,s.heap.get? b=some o/\∀ v,o.data≠.cell v):Inv X (a++R1 c s.heap) j H s :=
 I.pins_of λp q=>(bg.mp q).elim (λz=>I.pin p<|cu _ z) λz=>by
  let[g,e]:=Tm z;let[r,f1,f2,y]:=l _ g;let[o,i,d]:=n _ g;rw[e]at i;obtain rfl:=θ i;exact⟨e,r,f1,f2,d⟩
def Inv.unpinned(I:Inv X (a++d) b H s):Inv X a b H s:=I.pins_of λp c=>I.pin p<|cu _<|jc _ c
def Tp(L:PassesOwn (model X.prog X.w) X.A X.env X.xe)(hc:X.calm=true)(hi:PI X tg iter wi)(hg:PG X tg g)(c:FS X body tb)
  (hs:∀ x,mz iter X.env x=pure x:=by intro z;rfl):PS X (.For tg iter body [] pos) (CL wi g tb):=by
 refine λAA s σ H D I h=>wpAny_For (AU (hi _ s σ H _ I h) λv s1 h1=>AU h1 λitv s2 h2=>?_) hs;revert h2;apply u5;intro it U tn J H2 [rfl,I2,T,st2,f2,W,[m0,w0],turn]
 have j:∀ {A:Hp},(∀ b∈U,A b=none)->∀ b∈U,FpOk X _ A b:=λhn b c=>{hn b c,(f2 b c).2}
 refine codeAny_forLoop_any (λn s'=>∃ i l A,Inv X _ l A s'/\tn i s'.heap/\(∀ b∈U,A b=none)/\W i n l A) ?_ m0 (x3 0 σ H2 {I2,st2,λb c=>(f2 b c).1,w0});intro n s3 [i,σ3,Y,I3,M,O,w3];let[stop,qn]||[go,N,hN,step]:=turn i n _ Y w3
 refine py L<|AU (T.done X rfl rfl rfl hc i _ s3 _ Y _ I3 (j O) M stop) λr s4 q=>?_;let[rfl,I4]:=q;exact uu<|x2 _ Y ⟨I4,qn⟩;refine py L<|AU (T.item X rfl rfl rfl hc i _ s3 _ Y _ I3 (j O) M go) λr s4 q=>?_;let[u,rfl,h4]:=q;refine py L<|AU h4 λz s5 q=>?_;let[x,H5,I5,r5,y5,E,fr5]:=q;refine py L<|AU (hg _ s5 _ H5 x u _ (I5.pinned (j fr5) (T.obj _ _ E)) r5 (step x H5 y5)) λz s6 ⟨σ6,H6,I6,q6⟩=>(py L<|AU (c _ s6 _ H6 _ I6 q6) λf s7 B=>?_)
 have again:∀ {a:St} {w:Hp},Inv X _ _ w s7->N _ w->∃ m,m<n/\∃ i l A,Inv X AA l A s7/\tn i _/\(∀ b∈U,A b=none)/\W i m l A:=λ{a w} y Q=>by
  let[m',hm,w7]:=hN _ w Q;refine{m',hm,x3 _ a w {y.unpinned,T.keep _ _ _ E λb c o e=>(y.pin _<|cu _<|cu _<|R3 c e).1,λb c=>?_,w7}};let[o,e,d]:=T.obj _ _ E b c;exact(y.pin _<|cu _<|cu _<|R3 c e).2.1
 cases f with
 |next=>revert B;apply u2;intro a w [y,Q];exact again y Q
 |cont=>revert B;apply u2;intro a w [y,Q];exact again y Q
 |brk=>revert B;apply u2;intro a w [y,B];exact x2 _ w ⟨y.unpinned,B⟩
 |ret v=>revert B;apply u3;intro x7 a w [y,r7,B];exact x3 x7 _ w ⟨y.unpinned,r7,B⟩
end
abbrev _root_.wB:=Nat->St->Hp->Prop
def Tq{K:PySem.W.Frag}{a:Addr}{xs:tF}{g:TG}{n:TS}{D:Ends}{b:St}{H:Hp}(Pv:wB)(h0:Pv 0 b H)(s:∀ i b H,i<=xs.length->Pv i b H->SqL K H a xs)
  (u:∀ i x b H,xs[i]? =some x->Pv i b H->g x b H λc l=>n { D with nx:=Pv<|i+1,ct:=Pv<|i+1,bk:=D.nx } c l) (hd:∀ b H,Pv xs.length b H->D.nx b H) :
  ∃ W:Nat->Nat->St->Hp->Prop,(∃ m,W 0 m b H)/\∀ i m b H,W i m b H ->
   ((F8 K a).stop i H/\D.nx b H)\/((F8 K a).go i H/\∃ N:St->Hp->Prop,(∀ d j,N d j->∃ o,o<m/\W (i+1) o d j)/\∀ x j,(F8 K a).yld i H x j->g x b j λc l=>n { D with nx:=N,ct:=N,bk:=D.nx } c l):=by
 refine{λi m b H=>m=xs.length-i/\i<=xs.length/\Pv i b H,{xs.length,rfl,aw _,h0},?_};intro i m b H [rfl,v,p]
 have q:=s i b H v p;by_cases r:i<xs.length;refine .inr {x2 xs (xs[i]) {q,by simp[r]},_,λd j w=>{_,cq ‹_›,rfl,r,w},λx j y=>?_};let[rfl,y]:=y;exact u i x b _ (y xs q) p
 have e:i=xs.length:=by lia
 subst e;exact .inl {{xs,q,ο _},hd b H p}
def Tv{K:PySem.W.Frag}{a:Addr}{xs:tF}{g:TG}{n:TS}{D:Ends}{b:St}{H:Hp}(Pv:wB)(h0:Pv 0 b H)(s:∀ i b H,i<=xs.length->Pv i b H->SqT K H a xs)
  (u:∀ i x b H,xs[i]? =some x->Pv i b H->g x b H λc l=>n { D with nx:=Pv<|i+1,ct:=Pv<|i+1,bk:=D.nx } c l) (hd:∀ b H,Pv xs.length b H->D.nx b H) :
  ∃ W:Nat->Nat->St->Hp->Prop,(∃ m,W 0 m b H)/\∀ i m b H,W i m b H ->
   ((IS K a).stop i H/\D.nx b H)\/((IS K a).go i H/\∃ N:St->Hp->Prop,(∀ d j,N d j->∃ o,o<m/\W (i+1) o d j)/\∀ x j,(IS K a).yld i H x j->g x b j λc l=>n { D with nx:=N,ct:=N,bk:=D.nx } c l):=by
 refine{λi m b H=>m=xs.length-i/\i<=xs.length/\Pv i b H,{xs.length,rfl,aw _,h0},?_};intro i m b H [rfl,v,p]
 have q:=s i b H v p;by_cases r:i<xs.length;refine .inr {x2 xs (xs[i]) {q,by simp[r]},_,λd j w=>{_,by omega,rfl,r,w},λx j y=>?_};let[rfl,y]:=y;exact u i x b _ (y xs q) p
 have e:i=xs.length:=by lia
 subst e;exact .inl {{xs,q,ο _},hd b H p}
def Tw{lo:Int}{n:Nat}{g:TG}{o:TS}{D:Ends}{a:St}{H:Hp}(Pv:wB)(h0:Pv 0 a H)
  (r:∀ i a H,i<n->Pv i a H->g (.int<|lo+i) a H λb j=>o { D with nx:=Pv<|i+1,ct:=Pv<|i+1,bk:=D.nx } b j) (hd:∀ a H,Pv n a H->D.nx a H) :
  ∃ W:Nat->Nat->St->Hp->Prop,(∃ m,W 0 m a H)/\∀ i m a H,W i m a H ->
   ((ET lo n).stop i H/\D.nx a H)\/((ET lo n).go i H/\∃ N:St->Hp->Prop,(∀ c d,N c d->∃ q,q<m/\W (i+1) q c d)/\∀ x d,(ET lo n).yld i H x d->g x a d λb j=>o { D with nx:=N,ct:=N,bk:=D.nx } b j):=by
 refine{λi m a H=>m=n-i/\i<=n/\Pv i a H,{n,rfl,aw _,h0},?_};intro i m a H [rfl,u,p];by_cases l:i<n;refine .inr {l,_,λc d s=>{_,cq ‹_›,rfl,l,s},λx d y=>?_};let[e,y]:=y;subst e y;exact r i a _ l p
 have e:i=n:=by lia
 subst e;exact .inl {ο _,hd a H p}
abbrev R2:=V->V->Hp->VK->Prop
abbrev _root_.wA:=Value->Value->Sem Value
def B8(X:Cx)(f:wA)(r:R2):Prop :=
 ∀ (a:zA) (s:ν) (b:St) (H:Hp) (x y:V) (v u:Value) (Q:VK),Inv X a b H s->RelV x v->RelV y u->r x y H Q ->
  wpAny (model X.prog X.w) X.A (f v u) (EP X a b Q) X.xe s
def R4(X:Cx)(f:Value->Sem Value)(r:V->Hp->VK->Prop):Prop :=
 ∀ (a:zA) (s:ν) (b:St) (H:Hp) (x:V) (v:Value) (Q:VK),Inv X a b H s->RelV x v->r x H Q ->
  wpAny (model X.prog X.w) X.A (f v) (EP X a b Q) X.xe s
def EH(X:Cx)(f:Value)(r:tF->Hp->VK->Prop):Prop :=
 ∀ (a:zA) (s:ν) (b:St) (H:Hp) (xs:tF) (us:yC) (Q:VK),Inv X a b H s->Vals xs us->r xs H Q ->
  wpAny (model X.prog X.w) X.A (call f us) (EP X a b Q) X.xe s
def Tx(X:Cx)(r:V->Hp->(Bool->Hp->Prop)->Prop):Prop :=
 ∀ (a:zA) (s:ν) (b:St) (H:Hp) (x:V) (v:Value) (Q:zB),Inv X a b H s->RelV x v->r x H Q ->
  wpAny (model X.prog X.w) X.A (truthy v) (TP X a b Q) X.xe s
def AE(r:R2)(b c:TE):TE:=λa H Q=>b a H λx d=>c a d λy e=>r x y e Q
def L4(r:V->Hp->VK->Prop)(a:TE):TE:=λb H Q=>a b H λx c=>r x c Q
def rI(C:Int->Int->Prop)(g:Int->Int->V):R2:=λx y H Q=>∃ i j,x=.int i/\y=.int j/\C i j/\Q (g i j) H
def JV(g:Int->Int->V):R2:=λx y H Q=>∃ i j,x=.int i/\y=.int j/\Q (g i j) H
def rU(g:Int->V):V->Hp->VK->Prop:=λx H Q=>∃ i,x=.int i/\Q (g i) H
section
variable{X:Cx}{a b c:Expr}{ta tb tc:TE}{pos:Pos}
def VF(n:PE X a ta)(o:PE X b tb){R:V->V->Hp->Prop}(I:Inv X q e H s)
  (h:ta e H λx l=>tb e l λy d=>R x y d) {Q:yB} {f:wA}
  (r:∀ v u j x y d,Inv X q e d j->RelV x v->RelV y u->R x y d->wpAny (model X.prog X.w) X.A (f v u) Q X.xe j) :
  wpAny (model X.prog X.w) X.A (eval a X.env) (λv g=>wpAny (model X.prog X.w) X.A (eval b X.env) (λu i=>wpAny (model X.prog X.w) X.A (f v u) Q X.xe i) X.xe g) X.xe s:=AU (n _ s e H _ I h) λv w ⟨x,l,z,A,q1⟩=>(AU (o _ w e l _ z q1) λu j ⟨y,d,B,D,q2⟩=>(r v u j x y d B A D q2))
def OY{r:R2}(d:B8 X (iw op) r)(e:PE X a ta)(g:PE X b tb):PE X (.BinOp a op b pos) (AE r ta tb):=λz s i H Q I h=>wpAny_BinOp<|VF e g I h λv u j x y l n o w q=>d _ j i l x y v u Q n o w q
def Ty(e:R4 X (unaryOp op) r)(g:PE X a ta):PE X (.UnaryOp op a pos) (L4 r ta):=λo s d H Q I h=>UnaryOp_ (AU (g _ s d H _ I h) (by intro v i [x,j,l,n,q1];exact e _ i d j x v Q l n q1))
def VG{f:wA}{C:Int->Int->Prop}{g:Int->Int->Int}
  (rule:∀ (i j:Int) (t u:Tok) (s:ν) (Q:yB) (E:yB),C i j->Q (.int (g i j) s.toks) { s with toks:=s.toks+1 }->wpAny (model X.prog X.w) X.A (f (.int i t) (.int j u)) Q E s) :
  B8 X f (rI C λi j=>.int<|g i j):=by
 intro n s o H x y v u Q I d e h;revert h;apply u2;intro i j [rfl,rfl,l,q];let[t,rfl]:=d;let[t',rfl]:=e;exact rule i j t t' s _ _ l<|x2 (.int _) H {I.tok _,⟨_,rfl⟩,q}
def mC{f:wA}{g:Int->Int->Int}
  (rule:∀ (i j:Int) (t u:Tok) (s:ν) (Q:yB) (E:yB),Q (.int (g i j) s.toks) { s with toks:=s.toks+1 }->wpAny (model X.prog X.w) X.A (f (.int i t) (.int j u)) Q E s) :
  B8 X f (JV λi j=>.int<|g i j):=by
 intro l s n H x y v u Q I d e h;revert h;apply u2;intro i j [rfl,rfl,q];let[t,rfl]:=d;let[t',rfl]:=e;exact rule i j t t' s _ _<|x2 (.int _) H {I.tok _,⟨_,rfl⟩,q}
def VH{f:wA}{g:Int->tD}
  (rule:∀ (i j:Int) (t u:Tok) (s:ν) (Q:yB) (E:yB),Q (.bool<|g i j) s->wpAny (model X.prog X.w) X.A (f (.int i t) (.int j u)) Q E s) :
  B8 X f (JV λi j=>.bl<|g i j):=by
 intro l s n H x y v u Q I d e h;revert h;apply u2;intro i j [rfl,rfl,q];let[t,rfl]:=d;let[t',rfl]:=e;exact rule i j t t' s _ _<|x2 (.bl _) H ⟨I,rfl,q⟩
def mD(i j:Int):Prop:=0<j/\j<1073741824
def Tz(i j:Int):Prop:=0<=j/\j<=1000000/\i.natAbs<2^64
def CMul(i j:Int):Prop:=(-(2^64)<i/\i<2^64)\/(-(2^64)<j/\j<2^64)
def CMul.ok(h:CMul i j):IntMulOk i j:=by
 let[h1,h2]||[h1,h2]:=h
 exact .of_left<|intBits_le_64 h1 h2;exact .of_right<|intBits_le_64 h1 h2
def Ub:B8 X (iw .Add) (JV λi j=>.int<|i+j):=mC λz z z z z z z q=>add_int q
def Uc:B8 X (iw .Sub) (JV λi j=>.int<|i-j):=mC λz z z z z z z q=>sub_int q
def Ud:B8 X (iw .Mult) (rI CMul λi j=>.int<|i*j):=VG λz z z z z z z d q=>mul_int q d.ok
def Ug:B8 X (iw .FloorDiv) (rI mD λi j=>.int<|i/j):=VG λi j z z z z z d q=>by
 have h1:=d.1
 have h2:=d.2;exact floordiv_int (by omega) (by rw[Int.fdiv_eq_ediv_of_nonneg i (Be ‹_›)];exact q) (.inl (PyProof.noPylong_small (by omega)))
def Uh:B8 X (iw .Mod) (rI (λ_ j=>0<j) λi j=>.int<|i%j):=VG λi j z z z z z d q=>mod_int' (by lia) (by rw[Int.fmod_eq_emod_of_nonneg i (Be ‹_›)];exact q)
def Uj{f:Value->Sem Value}{g:Int->Int}
  (rule:∀ (i:Int) (t:Tok) (s:ν) (Q:yB) (E:yB),Q (.int (g i) s.toks) { s with toks:=s.toks+1 }->wpAny (model X.prog X.w) X.A (f<|.int i t) Q E s) :
  R4 X f (rU λi=>.int<|g i):=by
 intro e s j H x v Q I d [i,rfl,q];let[t,rfl]:=d;exact rule i t s _ _<|x2 (.int _) H {I.tok _,⟨_,rfl⟩,q}
def Uk:R4 X (unaryOp .USub) (rU λi=>.int (-i)):=Uj λz z z z z q=>neg_int q
end
section
variable{X:Cx}{a b c:Expr}{ta tb tc:TE}{pos:Pos}
def F9(I:Inv X d g H s)(q:Q (.bl k) H)(e:k=i):EP X d g Q (.bool i) s:=by
 subst e;exact x2 (.bl k) H ⟨I,rfl,q⟩
def Ul:B8 X (du .Lt) (JV λi j=>.bl<|decide<|i<j):=VH λz z z z z z z q=>lt_int q
def Um:B8 X (du .LtE) (JV λi j=>.bl<|decide<|i<=j):=VH λz z z z z z z q=>le_int q
def Up:B8 X (du .Gt) (JV λi j=>.bl<|decide<|j<i):=VH λz z z z z z z q=>gt_int q
def Uq:B8 X (du .Is) (λx y H Q=>y=.non/\Q (.bl<|decide<|x=.non) H):=by
 intro g s i H x y v u Q I d e [rfl,q];subst e;refine is_none_gen<|F9 I q ?_;cases x<;>first
  |(rfl)
  |(let[t,rfl]:=d;rfl)
def Uv:B8 X (du .IsNot) (λx y H Q=>y=.non/\Q (.bl<|!decide (x=.non)) H):=by
 intro g s i H x y v u Q I d e [rfl,q];subst e;refine isnot_none_gen<|F9 I q ?_;cases x<;>first
  |(rfl)
  |(let[t,rfl]:=d;rfl)
def KR(b:Expr)(h:op≠.In:=by decide)(h2:op≠.NotIn:=by decide):mo op b=false:=by
 have d:(op==CmpOp.In)=false:=by cases op<;>first|rfl|exact absurd rfl h
 have e:(op==Kr)=false:=by cases op<;>first|rfl|exact absurd rfl h2
 cases b<;>simp[mo,d,e]
def mE{r:R2}(d:B8 X (du op) r)(e:PE X a ta)(g:PE X b tb)(i:mo op b=false):PE X (.Compare a [op] [b] pos) (AE r ta tb):=λA s j H Q I h=>wpAny_Compare1 (VF e g I h λv u l x y n o w z q=>d _ l j n x y v u Q o w z q) i
def L5(t:TE):TT:=λd H Q=>t d H λx e=>∃ k,x=.bl k/\Q k e
def KS(i:B8 X (du op) r)(j:PE X a ta)(l:PE X b tb)(n:mo op b=false):PT X (.Compare a [op] [b] pos) (L5<|AE r ta tb):=by
 intro O s d H Q I h;refine yt (AU (j _ s d H _ I h) λv o ⟨x,q,w,A,q1⟩=>AU (l _ o d q _ w q1) λu B ⟨y,D,E,J,q2⟩ =>
  AU (i _ B d D x y v u _ E A J q2) λc T g=>?_) n
 let[z,L,M,N,k,e,q3]:=g;subst e;subst N;exact jg ⟨L,M,q3⟩
def L6(r g:R2)(ta tb tc:TE):TE:=λd H Q=>ta d H λx i=>tb d i λy j=>r x y j λz e=>∃ k,z=.bl k /\
 (if k=true then tc d e λl n=>g y l n Q else Q (.bl false) e)
def Uw(w:B8 X (du op) r)(j:B8 X (du g) A)(B:PE X a ta)(D:PE X b tb)(E:PE X c tc)
  (J:lastMarks [op,g] [b,c]=false:=by with_unfolding_all rfl):PE X (.Compare a [op,g] [b,c] pos) (L6 r A ta tb tc):=by
 intro AA s i H Q I h;refine Compare_chain (AU (B _ s i H _ I h) λv L ⟨x,M,N,O,q1⟩=>chain_link (AU (D _ L i M _ N q1) λu T ⟨y,U,Y,n,q2⟩ =>
  AU (w _ T i U x y v u _ Y O n q2) λd s3 l=>?_)) J
 let[z,o,q,r3,k,e,q3]:=l;subst e;subst r3;refine jg ?_;cases k with
 |false=>exact ite_ff<|x2 (.bl _) o ⟨q,rfl,q3⟩
 |true=>exact ite_tt (chain_last (AU (E _ s3 i o _ q q3) (by intro w' s4 [z',H4,I4,r4,q4];exact j _ s4 i H4 y z' u w' Q I4 n r4 q4)))
def Ux(w:B8 X (du op) r)(l:B8 X (du i) A)(B:PE X a ta)(D:PE X b tb)(E:PE X c tc)
  (J:lastMarks [op,i] [b,c]=false:=by with_unfolding_all rfl):PT X (.Compare a [op,i] [b,c] pos) (L5<|L6 r A ta tb tc):=by
 intro AA s j H Q I h;refine isTrue_chain (AU (B _ s j H _ I h) λv L ⟨x,M,N,O,q1⟩=>test_link (AU (D _ L j M _ N q1) λu T ⟨y,U,Y,n,q2⟩ =>
  AU (w _ T j U x y v u _ Y O n q2) λd s3 g=>?_)) J
 let[z,o,q,r3,k,e,q3]:=g;subst e;subst r3;refine jg ?_;cases k with
 |false =>
  let[k',e',q']:=q3;cases e';exact ite_ff ⟨o,q,q'⟩
 |true =>
  refine ite_tt<|test_last<|AU (E _ s3 j o _ q q3) λw' s4 ⟨z',H4,I4,r4,q4⟩=>AU (l _ s4 j H4 y z' u w' _ I4 n r4 q4) λd' s5 g=>?_;let[z2,H5,I5,r5,k2,rfl,q5]:=g;subst r5;exact jg ⟨H5,I5,q5⟩
def KU(K:W.Frag)(x:V)(H:Hp)(k:Bool):Prop :=
 match x with
 |.non=>k=false
 |.bl b=>k=b
 |.int i=>k=(i != 0)
 |.str y=>y.length<=sizeLine/\k=((y.length:Int) != 0)
 |.byt y=>y.size<=sizeLine/\k=((y.size:Int) != 0)
 |.ref p=>(∃ xs,SqL K H p xs/\k= !xs.isEmpty)\/(∃ xs,SqT K H p xs/\k= !xs.isEmpty)\/∃ kvs,H p=some (.dK kvs)/\k= !kvs.isEmpty
 |_=>False
def Uy{d :Type}{kvs:List (d × V)}{vs:List (d × Value)}(r:KV kvs vs):(!vs.isEmpty)= !kvs.isEmpty:=by
 cases r<;>rfl
def mF{xs:tF}{d:yC}(r:Vals xs d):(!d.toArray.isEmpty)= !xs.isEmpty:=by
 cases r<;>simp
def OZ:(sizeLine:Nat)<2^63:=by decide
def Uz:Tx X (λx H Q=>∃ k,KU X.K x H k/\Q k H):=by
 have z:=wp;intro A s B H x v Q I g [k,e,q];cases x with
 |non =>
  subst e;subst g;exact truthy_none ⟨H,I,q⟩
 |bl b =>
  subst g;subst e;exact jg ⟨H,I,q⟩
 |int i =>
  let[t,rfl]:=g;subst e;exact PySem.P.truthy_int ⟨H,I,q⟩
 |str y =>
  let[t,rfl]:=g;obtain⟨n,d⟩:y.length<=sizeLine/\k=((y.length:Int) != 0):=e;subst d;exact PySem.P.truthy_str (by omega) {H,I.tok _,q}
 |byt y =>
  let[t,rfl]:=g;obtain⟨n,d⟩:y.size<=sizeLine/\k=((y.size:Int) != 0):=e;subst d;exact W.truthy_bytes (oA n rfl) {H,I.tok _,q}
 |ref p =>
  cases g
  have d:(∃ xs,SqL X.K H p xs/\k= !xs.isEmpty)\/(∃ xs,SqT X.K H p xs/\k= !xs.isEmpty)\/∃ kvs,H p=some (.dK kvs)/\k= !kvs.isEmpty:=e;let[xs,j,d]||[xs,j,d]||[kvs,j,d]:=d
  ·subst d;let[u,r,l,hz]:=I.list j
   have o:=r.length;exact wpAny_truthy_list l.isList (by simp only[a_];omega) {H,I.tok _,by rw[mF r];exact q}
  ·subst d;let[u,r,l,hz]:=I.tuple j
   have o:=r.length;exact truthy_tuple l (by simp only[a_];omega) {H,I.tok _,by rw[mF r];exact q}
  ·subst d;obtain⟨hz,w,vs,r,m⟩:kvs.length<=sizeLine/\(p==ix)=false/\∃ vs,KV kvs vs/\s.heap.DictOf (D0 X.prog X.w) p vs:=I.hok p _ j
   have o:kvs.length=vs.length:=Paired.length r;exact wpAny_truthy_dict w m (by omega) {H,I.tok _,by rw[Uy r];exact q}
 |_=>exact(show False from e).elim
def Vb(g:PE X a ta)(he:∀ whole,Jt a X.env whole=(do let v ← whole;x_ a.pos;ss [v] (truthy v))) :
  PT X a (λd H Q=>ta d H λx e=>∃ k,KU X.K x e k/\Q k e):=λo s d H Q I h=>isTrue_plain (AU (g _ s d H _ I h) (by intro v i [x,j,l,n,q1];exact Uz _ i d j x v Q l n q1)) (he _)
def Vc:B8 X (iw .Add) (λx y H Q=>∃ i j,x=.str i/\y=.str j/\i.length+j.length<=sizeLine/\Q (.str<|i++j) H):=by
 intro g s l H x y v u Q I d e h;revert h;apply u2;intro i j [rfl,rfl,hz,q];let[t,rfl]:=d;let[t',rfl]:=e;exact add_str (λt' tk=>x2 (.str _) H {I.tok _,⟨_,rfl⟩,q}) hz
def HW(r:Vals [x] us):∃ u,us=[u]/\RelV x u:=by
 cases r with
 |cons d e=>cases e;exact⟨_,rfl,d⟩
def Vd:EH X (.builtin "ord") (λxs H Q=>∃ x,xs=[.str x]/\x.length=1/\Q (.int (x.cps.getD 0 0:Nat)) H):=by
 intro d s e H xs us Q I r [x,rfl,hz,q];let[u,rfl,t,rfl]:=HW r;exact ord_of_one hz<|x2 (.int _) H {I.tok _,⟨_,rfl⟩,q}
def R5(K:W.Frag)(x:V)(H:Hp)(n:Nat):Prop :=
 match x with
 |.str y=>y.length<=sizeLine/\n=y.length
 |.byt y=>y.size<=sizeLine/\n=y.size
 |.ref p=>(∃ xs,SqL K H p xs/\n=xs.length)\/∃ xs,SqT K H p xs/\n=xs.length
 |_=>False
def Vg:EH X (.builtin "len") (λxs H Q=>∃ x n,xs=[x]/\R5 X.K x H n/\Q (.int n) H):=by
 intro z s A H xs us Q I r h;revert h;apply u2;intro x n [rfl,e,q];let[u,rfl,g]:=HW r
 have B:=wp;cases x with
 |str y =>
  let[t,rfl]:=g;obtain⟨v,rfl⟩:y.length<=sizeLine/\n=y.length:=e;exact len_str (by omega) (x2 (.int _) H {I.tok _,⟨_,rfl⟩,q})
 |byt y =>
  let[t,rfl]:=g;obtain⟨v,rfl⟩:y.size<=sizeLine/\n=y.size:=e;exact W.len_bytes (oA v rfl) (x2 (.int _) H {I.tok _,⟨_,rfl⟩,q})
 |ref p =>
  subst g
  have d:=e;let[xs,i,d]||[xs,i,d]:=d
  subst d;let[w,j,l,hz]:=I.list i
  have o:=j.length;exact Calls.call_len_list l.isList (by simp only[a_];omega) (x2 (.int _) H {I.tok _,{_,by simp only[a_];rw[o]},q});subst d;let[w,j,l,hz]:=I.tuple i
  have o:=j.length;exact len_tuple l (by simp only[a_];omega) (x2 (.int _) H {I.tok _,{_,by simp only[a_];rw[o]},q})
 |_=>exact(e).elim
end
structure ObjM(h:Heap)(x dx C:Addr)(mA:vB):Prop where
 obj:h.get? x=some (W.instObj C dx)
 ns:h.Ns1 dx mA
 ne:dx≠x
set_option tactic.hygienic true in
def Vh{h:Heap}{c:vB}(n:h.Ns1 d c):∃ od,h.get? d=some od/\∀ name,W.lookIn name od=some (c name):=by
 revert n;apply u3;intro o g s [i,hd,j,_,l];refine{o,i,λname=>?_}
 have e:=l name;unfold nsFind findBy at e;rw[<-Array.find?_toList]at e;unfold W.lookIn;rw[hd];dsimp only;split
 ·rename_i y q;rw[q]at e;exact congrArg some e
 ·rename_i q;rw[q]at e
  have a:g.toList.any (·.refKey)=false:=by
   rw[wq];refine λy r=>u2 ?_<|j y<|y_.mp r;rintro z t b;simp[DictEntry.refKey,b]
  rw[if_neg (by rw[a];exact ax)];exact congrArg some e
def ObjM.look(I:ObjM h x a C b):∃ od,W.InstAt h x (W.instObj C a) C (some od)/\∀ name,W.lookIn name od=some (b name) :=
 let ⟨od,c,d⟩:=Vh I.ns
 {od,⟨I.obj,rfl,rfl,c⟩,d}
section
variable{prog:bu}{w:World}{A:dh}{E:yB}{s:ν}{K:W.Frag}{x dx C f:Addr}{mA:vB}{name:Str}{v:Value}
def Vj(X:K.In s.heap)(I:ObjM s.heap x dx C mA)(b:W.plainGet K C name=true)(c:W.hasDictIn K C=true)
  (d:W.findIn K (.ref C) name=some none) (e:mA name=some v) (a:W.handedIn v=true) (h:Q v { s with toks:=s.toks+1 }) :
  wpAny (model prog w) A (getAttr (.ref x) name expr) Q E s:=by
 let[od,J,g]:=I.look;exact W.get_value X J (W.plainGet_of b).1 (W.findObj_own c d rfl (by rw[g,e])) a h
def Vk(X:K.In s.heap)(I:ObjM s.heap x dx C mA)(a:W.plainGet K C name=true)
  (b:W.findIn K (.ref C) name=some (some<|.ref f)) (c:W.isFn K (.ref f)=true) (d:mA name=none) (h:Q (.ref f,[.ref x]) s) :
  wpAny (model prog w) A (uc (.ref x) name g) Q E s:=by
 let[od,J,e]:=I.look;exact W.method_fn X J (W.plainGet_of a).1 (W.plainGet_of a).2 b (beq_iff_eq.mp c) (by show(W.lookIn _ od).map _=some _;rw[e,d];rfl) h
def Vl(X:K.In s.heap)(I:ObjM s.heap x dx C mA)
  (j:W.findIn K (.ref C) "__setattr__"=some (some<|.builtin "object.__setattr__")) (l:W.plainOver K C=true) (n:W.takerIn K C name=some none) (o:W.hasDictIn K C=true)
  (q:PySem.Within mA ns) (hsz:ns.length<=sizeLine)
  (h:∀ h',ObjM h' x dx C (λy=>if y=name then some v else mA y)->gr dx s.heap h'->Q () { s with heap:=h',toks:=s.toks+2 }) :
  wpAny (model prog w) A (setAttr (.ref x) name v) Q E s:=by
 let[od,J,B]:=I.look;let[D,r,d]:=W.any_some o;refine W.set_plain X J j<|W.osa_open   X J l n λb=>(δ<|π<|δ<|δ<|wpAny_loadPart I.obj<|δ<|W.Looks.here  (W.looks_clsIn X r) ?_);rw[d];refine π  (δ<|π<|δ<|wpAny_nsSet1  I.ns λh' a c=>(u3 ?_<|a.count<|PySem.Within.cons _ v q));intro oD u z [e,g,i];exact δ (wpAny_lookBehind e (by rw[g];exact pastItsLine_dict<|υ i<|sv hsz) (π<|h _ {(c.2 _<|eh I.ne).trans I.obj,a,I.ne} c))
def Vm(X:K.In s.heap)(b:W.makesIn K C=true)
  (c:W.findIn K (.ref C) "__init__"=some (some<|.ref f)) (d:W.typeIn K (.ref f)=some (.type "function"))
  (h:ui (model prog w) (A.under<|.builtin "type.__call__" {.ref C::vs,a}) (.call (.ref f) {.ref (s.heap.objs.size+1)::vs,a}) (W.InitBack (s.heap.objs.size+1) R)
   { s with heap:=(s.heap.push W.emptyDict).push (W.instObj C s.heap.objs.size) }) :
  ui (model prog w) A (.call (.ref C) ⟨vs,a⟩) R s:=W.make_core (W.makes_of X b) (W.looks_findIn X c) (λself=>W.bind_fn X _ d) (.inl rfl) h
end
def BV(f:Str)(v:V):xB->xB
 | []=>[(f,v)]
 |(g,x)::r=>if g=f then(g,v)::r else(g,x)::BV f v r
theorem mG(f g:Str)(v:V):∀ fs:xB,(BV f v fs).lookup g=if g=f then some v else fs.lookup g
 | []=>by
  show gj g [(f,v)]=_;by_cases h:g=f;simp only[gj,(beq_iff_eq.mpr h),if_pos h];simp only[gj,(beq_eq_false_iff_ne.mpr h),if_neg h]
 |(k,x)::r=>by
  rw[show BV f v _=(if k=f then(k,v)::r else(k,x)::BV f v r)from rfl];by_cases a:k=f;rw[if_pos a];by_cases h:g=k;simp only[gj,(beq_iff_eq.mpr h),if_pos<|h.trans a];simp only[gj,(beq_eq_false_iff_ne.mpr h),if_neg (λe:g=f=>h<|e.trans a.symm)];rw[if_neg a];by_cases h:g=k;simp only[gj,(beq_iff_eq.mpr h),if_neg (λe:g=f=>a<|h.symm.trans e)];simp only[gj,(beq_eq_false_iff_ne.mpr h)];exact(mG f g v r)
theorem VJ(f:Str)(v:V):∀ fs:xB,f∈(BV f v fs).map (·.1)/\∀ g,g∈fs.map (·.1)->g∈(BV f v fs).map (·.1)
 | []=>{by simp[BV],λg h=>by simp at h}
 |(k,x)::r=>by
  let[b,c]:=VJ f v r;rw[show BV f v _=(if k=f then(k,v)::r else(k,x)::BV f v r)from rfl];by_cases a:k=f;subst a;exact{by simp,λg h=>by simpa using h};rw[if_neg a];refine{(ω _ b),λg h=>?_};let e||e:=af.mp h
  exact af.mpr<|.inl e;exact ω _<|c g e
theorem O0(f:Str)(v:V):∀ fs:xB,(BV f v fs).length<=fs.length+1
 | []=>by simp[BV]
 |(k,x)::r=>by
  rw[show BV f v _=(if k=f then(k,v)::r else(k,x)::BV f v r)from rfl];by_cases a:k=f;rw[if_pos a];exact ic _;rw[if_neg a];exact sv<|O0 f v r
def RelO.some_of(r:RelO (some v) o):∃ u,o=some u/\RelV v u:=by
 cases o with
 |none=>exact(r).elim
 |some u=>exact⟨u,rfl,r⟩
def RelO.none_of(r:RelO none o):o=none:=by
 cases o with
 |none=>rfl
 |some u=>exact(r).elim
def Vp(r:RelV v u):W.handedIn u=true:=by
 cases v with
 |non=>cases (r);rfl
 |bl b=>cases (r);rfl
 |int i=>let[t,rfl]:=(r);rfl
 |str x=>let[t,rfl]:=(r);rfl
 |byt b=>let[t,rfl]:=(r);rfl
 |flt b=>let[t,rfl]:=(r);rfl
 |ref a=>cases (r);rfl
 |ty n=>cases (r);rfl
section
variable{P:bu}{w:World}{H H':Hp}{h h':Heap}{a C dx:Addr}{fs fs':xB}
def R6(hok:HOk P w H h)(e:H a=some (.ins C dx fs)):∃ b,ObjM h a dx C b/\(∀ f,RelO (fs.lookup f) (b f))/\PySem.Within b (fs.map (·.1))/\fs.length<=1000/\H dx=some (.own a):=by
 let[d,z,ne,ob,b,n,r,q]:=(hok a _ e)
 exact{b,⟨ob,n,ne⟩,r,q,z,d}
end
structure Cls(K:W.Frag)(C:Addr):Prop where
 pg:W.plainGet K C Je=true
 hd:W.hasDictIn K C=true
 po:W.plainOver K C=true
 sa:W.findIn K (.ref C) "__setattr__"=some (some<|.builtin "object.__setattr__")
def Cls.get{K:W.Frag}{C:Addr}(c:Cls K C)(f:Str):W.plainGet K C f=true:=c.pg
def NoAttr(K:W.Frag)(C:Addr)(f:Str):Prop:=W.findIn K (.ref C) f=some none
def NoAttr.taker{K:W.Frag}{C:Addr}{f:Str}(n:NoAttr K C f):W.takerIn K C f=some none:=by
 unfold W.takerIn;rw[n]
 rfl
structure Con(K:W.Frag)(C:Addr)(f:Str)(v:V)(u:Value):Prop where
 at_:W.findIn K (.ref C) f=some (some u)
 rel:RelV v u
 get:W.specialIn K u "__get__"=some none
 cp:W.copiedNames.contains f=false
structure R7(K:W.Frag)(C:Addr)(m:Str)(f:Addr):Prop where
 at_:W.findIn K (.ref C) m=some (some<|.ref f)
 fn:W.isFn K (.ref f)=true
 kp:W.keepIn K (.ref f)=true
section
variable{X:Cx}{AA:zA}{σ:St}{H:Hp}{s:ν}{a C dx:Addr}{fs:xB}{f:Str}{v:V}{A:dh}{E:yB}
def mH(I:Inv X AA σ H s)(e:H a=some (.ins C dx fs))(c:Cls X.K C)(n:NoAttr X.K C f)(l:fs.lookup f=some v)
  (h:∀ u d,Inv X AA σ H d->RelV v u->Q u d):wpAny (model X.prog X.w) A (getAttr (.ref a) f b) Q E s:=by
 let[j,O,r,z,z,z]:=R6 I.hok e;let[u,i,g]:=RelO.some_of   (by rw[<-l];exact r f);exact Vj I.kIn O (c.get f) c.hd n i (Vp g) (h u _ (I.tok _) g)
def mI(I:Inv X AA σ H s)(e:H a=some (.ins C dx fs))(c:Cls X.K C)(k:R7 X.K C m g)(l:fs.lookup m=none)
  (h:Q (.ref g,[.ref a]) s):wpAny (model X.prog X.w) A (uc (.ref a) m b) Q E s:=by
 let[d,O,r,z,z,z]:=R6 I.hok e;exact Vk I.kIn O (c.get m) k.at_ k.fn (RelO.none_of (by rw[<-l];exact r m)) h
def mJ(I:Inv X AA σ H s)(e:H a=some (.ins C dx fs))(c:Cls X.K C)(n:NoAttr X.K C f)(i:fs.length<1000)(B:RelV y u)
  (h:∀ j,Inv X AA σ (upd H a<|.ins C dx<|BV f y fs) j->Q () j):wpAny (model X.prog X.w) A (setAttr (.ref a) f u) Q E s:=by
 let[D,O,r,l,x,w]:=R6 I.hok e;refine Vl I.kIn O c.sa c.po n.taker c.hd l (by rw[η];exact oB i rfl) λh' d sb=>h _ (I.write   (by rw[e];exact nj) (.inr w) (λb q J z=>(sb.2 b J).trans z) (let ⟨o,_,_,L,_⟩:=d.ns;⟨o,L⟩) {by rw[AK O.ne];exact w,?_,O.ne,d.obj,_,d.ns,λg=>?_,λg M=>?_});exact υ (O0 f y fs) i;rw[mG];by_cases q:g=f;rw[if_pos q,if_pos q];exact B;rw[if_neg q,if_neg q];exact r g;by_cases q:g=f;rw[q];exact(VJ f y fs).1;refine(VJ f y fs).2 g (l g λz=>M ?_)
 show(if g=f then some u else D g)=none;rw[if_neg q];exact z
def Inv.made(I:Inv X AA σ H s):Inv X AA σ (upd (upd H s.heap.objs.size<|.own<|s.heap.objs.size+1) (s.heap.objs.size+1) (.ins C s.heap.objs.size []))
  { s with heap:=(s.heap.push W.emptyDict).push (W.instObj C s.heap.objs.size) }:=by
 have c:(s.heap.push _).get? _=some W.emptyDict:=ak _ rfl
 have d:((s.heap.push W.emptyDict).push (W.instObj C s.heap.objs.size)).get? (s.heap.objs.size+1)=some (W.instObj C s.heap.objs.size):=by
  have:=ak (s.heap.push W.emptyDict) (o:=W.instObj C s.heap.objs.size) rfl
  rwa [za]at this
 have ne:s.heap.objs.size≠s.heap.objs.size+1:=bm<|d_ _;refine(I.laid  (o:=.own _)  (t':=s.toks) (λb u q=>ξ _ q) (ο _) ⟨_,c⟩).laid    (λb u q=>ξ _ q) (ay<|za _ _) ({by rw[AK ne,AD],aw _,ne,d,λz=>none,(Heap.Ns1.of_empty (x3 _ _ _ {c,rfl,(λe he=>absurd he (by simp)),λz=>rfl})).at λo q=>ξ _ q,λz=>nj,λy g=>absurd rfl g})
def Vq(c:uj e f env (eval e env)=eval e env)
  (h:wpAny (model prog w) A (eval e env) (λo b=>wpAny (model prog w) A (getAttr o f true) Q E b) E s):wpAny (model prog w) A (eval (.Attribute e f pos) env) Q E s :=
 Attribute_any_ h (by rw[arm_eval_Attribute,c])
end
def O1(K:W.Frag)(c:TE)(f:Str):TE:=λd H Q=>c d H λx b=>∃ a C e fs v,x=.ref a/\b a=some (.ins C e fs)/\Cls K C/\NoAttr K C f/\fs.lookup f=some v/\Q v b
def O2(K:W.Frag)(e g:TE)(f:Str):TS:=λD b H=>g b H λy i=>e b i λx c=>∃ a C d fs,x=.ref a/\c a=some (.ins C d fs)/\Cls K C/\NoAttr K C f/\fs.length<1000 /\
 D.nx b (upd c a<|.ins C d<|BV f y fs)
def VL(X:Cx)(op:Operator)(c:V->V->Hp->VK->Prop):Prop :=
 ∀ (a:zA) (s:ν) (b:St) (H:Hp) (x y:V) (u v:Value) (Q:VK),Inv X a b H s->RelV x u->RelV y v->c x y H Q->wpAny (model X.prog X.w) X.A (inplaceOp op u v) (EP X a b Q) X.xe s
def R8(K:W.Frag)(i j:TE)(l:V->V->Hp->VK->Prop)(f:Str):TS:=λD d H=>i d H λx e=>∃ a C n fs v,x=.ref a/\e a=some (.ins C n fs)/\Cls K C/\NoAttr K C f/\fs.lookup f=some v /\
 j d e λy o=>l v y o λz g=>∃ c b,g a=some (.ins C c b)/\b.length<1000/\D.nx d (upd g a<|.ins C c<|BV f z b)
section
variable{X:Cx}{o e value:Expr}{f:Str}{pos pos' tpos:Pos}{ta tv:TE}
def Vv(he:PE X e ta)(d:uj e f X.env (eval e X.env)=eval e X.env):PE X (.Attribute e f pos) (O1 X.K ta f):=by
 refine λA s g H Q I h=>Vq d<|AU (he _ s g H _ I h) λu B b=>?_;let[x,i,j,r,a,C,D,fs,v,rfl,w,c,n,l,q]:=b;obtain rfl:u=e_ a:=r;exact mH j w c n l λE J y z=>x2 v i ⟨y,z,q⟩
def Vx(g:PE X o ta)(i:PE X value tv)(j:ve value (some<|.Attribute o f pos') pos.line X.env=pure false):PS X (.Assign [.Attribute o f pos'] value pos) (O2 X.K ta tv f):=by
 refine λM s b H D I h=>plainObj_wpAny_Assign_Attribute (AU (i _ s b H _ I h) λu r ⟨y,v,w,z,q⟩=>AU (g _ r b v _ w q) λA N d=>?_) j;let[x,O,B,E,a,C,Q,fs,rfl,J,c,n,l,q2]:=d;obtain rfl:A=e_ a:=E;exact mJ B J c n l z λT L=>x2 b _ ⟨L,q2⟩
def Vy(j:PE X o ta)(r:PE X value tv)(d:VL X op w):PS X (.AugAssign (.Attribute o f tpos) op value pos) (R8 X.K ta tv w f):=by
 refine λAA s b H D I h=>wpAny_AugAssign_AttributeAny<|AU (j _ s b H _ I h) λA s1 g=>?_;let[x,B,E,J,a,C,dx,fs,v,rfl,L,c,n,l,q]:=g;obtain rfl:A=e_ a:=J;exact mH E L c n l λu M N O=>AU (r _ M b B _ N q) (by intro Q T [y,U,Y,ry,q3];exact AU (d _ T b U v y u Q _ Y O ry q3) (by intro w4 s4 [z,H3,I4,rz,dx',fs',i,l',q4];exact(mJ I4 i c n l' rz λs5 I5=>x2 b _ ⟨I5,q4⟩)))
def O3:V->V->Hp->VK->Prop:=λx y H Q=>∃ i j,x=.int i/\y=.int j/\Q (.int<|i+j) H
def mK:VL X .Add O3:=by
 intro c s d H x y u v Q I a b [i,j,rfl,rfl,q];let[t,rfl]:=(a)
 let[t',rfl]:=(b)
 exact PyProof.Rows.iadd_int<|x2 (.int _) H {I.tok _,⟨_,rfl⟩,q}
end
section
variable{X:Cx}{AA:zA}{σ:St}{H:Hp}{s:ν}{A:dh}{E:yB}{Q:yB}{c:Value}{b:Bool}
inductive HA(K:W.Frag)(H:Hp):V->Value->Prop where
 |non:HA K H .non (.type "NoneType")
 |bl (x:Bool):HA K H (.bl x) (.type "bool")
 |int (i:Int):HA K H (.int i) (.type "int")
 |str (x:Str):HA K H (.str x) (.type "str")
 |flt (x:UInt64):HA K H (.flt x) (.type "float")
 |lst {a:Addr} {xs:tF} (e:H a=some (.lst xs)):HA K H (.ref a) (.type "list")
 |frz {a:Addr} {o:Obj} {xs:tF} (e:H a=some (.frz o<|.lst xs)):HA K H (.ref a) (.type "list")
 |tup {a:Addr} {xs:tF} (e:H a=some (.tup xs)):HA K H (.ref a) (.type "tuple")
 |dK {a:Addr} {kvs:vC} (e:H a=some (.dK kvs)):HA K H (.ref a) (.type "dict")
 |dT {a:Addr} {kvs:xA} (e:H a=some (.dT kvs)):HA K H (.ref a) (.type "dict")
 |ins {a C dx:Addr} {fs:xB} (e:H a=some (.ins C dx fs)) (cl:Cls K C) (ha:W.findIn K (.ref C) "__class__"=some (some<|.builtin "object.__class__"))
   (hn:W.specialIn K (.builtin "object.__class__") "__get__"=some (some<|.builtin "getset_descriptor.__get__")) (htk:W.takesIn K (.builtin "object.__class__")=some true)
   (hm:W.mroIn K C (.type "object")=some true):HA K H (.ref a) (.ref C)
end
structure Room(k:Nat)(A:dh):Prop where
 hd:A.handled=none
 dp:A.depth+3*k+5<recursionLimit
 un:A.units+16*k+200<cLine
def Room.mono(r:Room k A)(h:j<=k):Room j A:={r.hd,by have:=r.dp;lia,by have:=r.un;lia}
def Room.deeper(r:Room (k+1) A)(env:Env):Room k (A.deeper env) :=
 {r.hd,by have:=r.dp;show A.depth+1+3*k+5<_;lia,by have:=r.un;show A.units+3+16*k+200<_;lia}
def Vz{A:dh}:(A.under<|.builtin "type.__call__" {.ref C::us,a}).depth=A.depth+1:=by
 first|rfl|simp[guardIds]
def Wb{A:dh}:(A.under<|.builtin "type.__call__" {.ref C::us,a}).units=A.units+1:=by
 first|rfl|simp[Code.isFrame]
abbrev _root_.yA:=List (Str × Value)
def Room.make(r:Room (k+1) A)(C:Addr)(us:yC)(a:yA):Room k (A.under<|.builtin "type.__call__" {.ref C::us,a}) :=
 {r.hd,by have:=r.dp;rw[Vz];lia,by have:=r.un;rw[Wb];lia}
def Room.depth(r:Room k A):A.depth<recursionLimit:=by have:=r.dp;lia
def Room.units(r:Room k A):A.units+64<cLine:=by have:=r.un;lia
def BC:TA:=λ_ H Q=>Q [] H
def A9(b:TE)(c:TA):TA:=λa H Q=>b a H λx d=>c a d λxs e=>Q (x::xs) e
section
variable{X:Cx}{e:Expr}{es:wD}{te:TE}{t:TA}{pos:Pos}
def R9:PA X [] BC:=λz z z z H Q I h=>wt<|x2 [] H {I,.nil,h}
def L7(b:PE X e te)(c:PA X es t)(d:av (e::es) X.env=(false,eval e X.env)::av es X.env:=by rfl):PA X (e::es) (A9 te t):=by
 intro pos r s a H Q I h;rw[d];exact qz (AU (b _ s a H _ I h) (by intro u g [x,i,j,l,q1];exact(AU (c _ _ g a i _ j q1) (by intro us v [xs,n,o,q,q2];exact x2 _ n {o,.cons l q,q2}))))
def B9(t:TA):TE:=λb H Q=>t b H λxs a=>xs.length<=sizeLine/\∀ p,a p=none->Q (.ref p) (upd a p<|.tup xs)
def BJ(t:TA):TE:=λb H Q=>t b H λxs a=>xs.length<=sizeLine/\∀ p,a p=none->Q (.ref p) (upd a p<|.lst xs)
def Wc{c}(h:PA X es t):PE X (.Tuple es c pos) (B9 t):=λj s d H Q I g=>wpAny_Tuple_spliced (AU (h _ _ s d H _ I g) λus l ⟨xs,i,a,r,z,q⟩=>{by rw[<-r.length];exact z,(x2 (.ref _) (upd i _<|.tup xs) {a.laid  (λb u e=>ξ _ e) (ο _) ({z,us,r,{_,ak _ rfl,rfl,_,rfl}}),rfl,q _<|a.hok.fresh<|ο _})})
def Wd(h:PA X es t):PE X (.List es pos) (BJ t):=λi s c H Q I d=>wpAny_List_spliced (AU (h _ _ s c H _ I d) λus j ⟨xs,g,a,r,z,q⟩=>{by rw[<-r.length];exact z,(x2 (.ref _) (upd g _<|.lst xs) {a.laid  (λb u e=>ξ _ e) (ο _) ({z,x2 us 0 {r,ak _ rfl}}),rfl,q _<|a.hok.fresh<|ο _})})
end
abbrev Sp:=tF->Hp->VK->XK->Prop
abbrev HX:=zD->Hp->ν->XK->Value->ν->Prop
structure Env0(P:bu)(w:World)(K:W.Frag)(mg:vB)(base:Heap)(A:dh)(outer:zD)(s:ν)(H:Hp):Prop where
 frames:A.frames=some outer
 mod:Mod K mg base
 bs:∀ b o,base.get? b=some o->s.heap.get? b=some o/\H b=none
 bsz:base.objs.size<=s.heap.objs.size
 funs:s.heap.FunFrames base outer
 frf:∀ b∈EC outer,H b=none
 hok:HOk P w H s.heap
 bare:sr s.gens
def CE(outer:zD)(P:bu)(w:World)(H:Hp)(s:ν)(Q:VK)(u:Value)(a:ν):Prop :=
 ∃ v b,a.os=s.os/\sr a.gens/\Un (EC outer) [] H b s.heap a.heap/\HOk P w b a.heap/\RelV v u/\Q v b
def CR(CX:HX)(outer:zD)(P:bu)(w:World)(H:Hp)(s:ν)(Q:VK)(E:XK)(r:Result)(a:ν):Prop :=
 match r with
 |.ok (.ret u)=>CE outer P w H s Q u a
 |.ok _=>False
 |.error e=>CX outer H s E e a
structure FnOk(P:bu)(w:World)(K:W.Frag)(mg:vB)(base:Heap)(CX:HX)(k:Nat)(f:Addr)(fd:gi)(ps:yD)(sp:Sp):Prop where
 len:∀ vs H Q E,sp vs H Q E->vs.length=ps.length
 run:∀ (A:dh) (outer:zD) (s:ν) (H:Hp) (args:Args) (us:yC) (vs:tF) (Q:VK) (E:XK),Room k A->Env0 P w K mg base A outer s H->wu s fd args (ps.zip us)->Vals vs us->sp vs H Q E ->
  ui (model P w) A (.call (.ref f) args) (CR CX outer P w H s Q E) s
def FnOk.imp{P:bu}{w:World}{K:W.Frag}{mg:vB}{base:Heap}{CX:HX}{k:Nat}{f:Addr}{fd:gi}{ps:yD}{sp a:Sp}(F:FnOk P w K mg base CX k f fd ps sp)
  (h:∀ vs H Q E,a vs H Q E->sp vs H Q E):FnOk P w K mg base CX k f fd ps a :=
 {λvs H Q E q=>F.len vs H Q E<|h _ _ _ _ q,λA outer s H args us vs Q E b he c d e=>F.run A _ s H _ us vs Q E b he c d<|h _ _ _ _ e}
def Env0.make{P:bu}{w:World}{K:W.Frag}{mg:vB}{base:Heap}{A:dh}{outer:zD}{s:ν}{H:Hp}(e:Env0 P w K mg base A outer s H)(C:Addr)(us:yC)(a:yA) :
  Env0 P w K mg base (A.under<|.builtin "type.__call__" {.ref C::us,a}) outer s H:={by first|exact e.frames|(exact e.frames),e.mod,e.bs,e.bsz,e.funs,e.frf,e.hok,e.bare}
section
variable{X:Cx}{AA:zA}{σ:St}{H:Hp}{s s':ν}
def Inv.env0(I:Inv X AA σ H s):Env0 X.prog X.w X.K X.mg X.base X.A X.stack s H :=
 {I.ok.frames,I.ok.mod,I.bs,υ I.ok.bsz I.sz,I.stack,I.stkFree,I.hok,I.bare}
def Inv.after(I:Inv X AA σ H s)(h:CE X.stack X.prog X.w H s Q u s'):EP X AA σ Q u s':=by
 revert h;apply u2;intro v c [os,bare,un,hok,r,q];let[e,g,d,t,a]:=s';obtain rfl:a=s.os:=os;exact x2 v c {I.call      un hok bare (λb z=>absurd z (by simp)),r,q}
end
def L8(sp:Sp)(b:tF)(E:St->XK)(t:TA):TE:=λa H Q=>t a H λvs c=>sp (vs++b) c Q (E a)
def IT(C:Addr)(m:Str)(sp:Sp)(d:tF)(E:St->XK)(e:TE)(t:TA):TE:=λb H Q=>e b H λx c=>∃ a g fs,x=.ref a/\c a=some (.ins C g fs)/\fs.lookup m=none /\
 t b c λvs i=>sp (x::(vs++d)) i Q (E b)
def NJ(C:Addr)(sp:Sp)(d:tF)(E:St->XK)(t:TA):TE:=λc H Q=>t c H λvs b=>∀ x a,b x=none->b a=none->a≠x ->
 sp (.ref x::(vs++d)) (upd (upd b a<|.own x) x (.ins C a [])) (λv e=>v=.non/\Q (.ref x) e) (E c)
def Binds(K:W.Frag)(fd:gi)(ps:yD)(a:yC):Prop :=
 ∀ (s:ν) (us:yC),K.In s.heap->(us++a).length=ps.length->wu s fd {us,[]} (ps.zip<|us++a)
def Binds.all{K:W.Frag}{fd:gi}{ps:yD}(h:∀ us:yC,us.length=ps.length->bindArgs fd {us,[]}=pure (ps.zip us)):Binds K fd ps []:=λs us z a=>by
 rw[jz]at a ⊢;exact .of_eq<|h us a
def HB(CX:HX)(X:Cx)(E:St->XK):Prop:=∀ (c:zA) (a:St) (H:Hp) (s:ν) (e:Value) (b:ν),Inv X c a H s->CX X.stack H s (E a) e b->X.xe e b
section
variable{X:Cx}{CX:HX}{k:Nat}{f C:Addr}{fd:gi}{ps:yD}{sp:Sp}{EQ:tF}{ds:yC}{E:St->XK}{x m:Str}{p pos C0:Pos}{e o:Expr}{es:wD}{ta:TE}{t:TA}
def VM(F:FnOk X.prog X.w X.K X.mg X.base CX k f fd ps sp)(d:Room k X.A)(g:Binds X.K fd ps ds)(hd:Vals EQ ds)(i:HB CX X E)
  (I:Inv X j b H s) (r:Vals vs us) (h:sp (vs++EQ) H Q (E b)):wpAny (model X.prog X.w) X.A (call (.ref f) us) (EP X j b Q) X.xe s:=by
 have c:=r.append hd;refine ya (l8 (F.run _ _ s H _ _ _ Q _ d I.env0 (g s us I.kIn (by rw[<-c.length];exact F.len _ _ _ _ h)) c h) λr l a=>?_);cases r with
 |error e=>exact i _ b H s e l I a
 |ok n =>
  cases n with
  |ret u=>exact I.after a
  |next=>exact jr a
  |brk=>exact jr a
  |cont=>exact jr a
def Wg(F:FnOk X.prog X.w X.K X.mg X.base CX k f fd ps sp)(c:Room k X.A)(d:Gl X x)(g:X.mg x=some (.ref f))(i:W.keepIn X.K (.ref f)=true)(j:Binds X.K fd ps ds)(hd:Vals EQ ds)(l:HB CX X E)
  (n:PA X (e::es) t) (a:(x ==("__debug__":Str))=false:=by decide) (he:av (e::es) X.env=(false,eval e X.env)::av es X.env:=by rfl) (u:(jd pos<|av es X.env).any (·.1)=false:=by rfl) :
  PE X (.Call (.Name x p) (e::es) [] pos) (L8 sp EQ E t):=λw s v H Q I h=>q_ (NG I d g (W.callWith_K  I.ok.mod.kin i (AU (n _ _ s v H _ I h) (by intro us y [vs,z,b,r,q];exact{b.kIn,(VM F c j hd l b r q)})) he u) a)
def Wh(he:PE X o ta)(c:Cls X.K C)(g:R7 X.K C m f)(F:FnOk X.prog X.w X.K X.mg X.base CX k f fd ps sp)(w:Room k X.A)(y:Binds X.K fd ps ds)(hd:Vals EQ ds)(z:HB CX X E)(A:PA X (e::es) t)
  (b:av (e::es) X.env=(false,eval e X.env)::av es X.env:=by rfl) (B:(jd pos<|av es X.env).any (·.1)=false:=by rfl)
  (D:eval (.Call (.Attribute o m C0) (e::es) [] pos) X.env=(do
   let i ← eval o X.env
   x_ C0.atName
   let (f,first) ← ss [i] (uc i m O)
   zb pos f first (jd pos<|av (e::es) X.env) (uo pos<|lu [] X.env)):=by rfl) :
  PE X (.Call (.Attribute o m C0) (e::es) [] pos) (IT C m sp EQ E ta t):=by
 refine λT s j H Q I h=>W.methodCall_KW  (AU (he _ s j H _ I h) λu J d=>?_) D;let[x,L,n,M,a,U,fs,rfl,N,l,q]:=d;obtain rfl:u=e_ a:=M;exact mI n N c g l (W.callWith_K   I.ok.mod.kin g.kp (AU (A _ _ J j L _ n q) (by intro us Y [vs,H2,v,r,q2];exact{v.kIn,(VM  (vs:=.ref a::vs) F w y hd z v (.cons rfl r) q2)})) b B)
def Wj(he:PE X o ta)(c:Cls X.K C)(g:R7 X.K C m f)(F:FnOk X.prog X.w X.K X.mg X.base CX k f fd ps sp)(j:Room k X.A)(n:Binds X.K fd ps ds)(hd:Vals EQ ds)(r:HB CX X E)
  (v:eval (.Call (.Attribute o m C0) [] [] pos) X.env=(do
   let i ← eval o X.env
   x_ C0.atName
   let (f,first) ← ss [i] (uc i m A)
   zb pos f first (jd pos<|av [] X.env) (uo pos<|lu [] X.env)):=by rfl) :
  PE X (.Call (.Attribute o m C0) [] [] pos) (IT C m sp EQ E ta BC):=by
 refine λB s w H Q I h=>W.methodCall_KW  (AU (he _ s w H _ I h) λu D b=>?_) v;let[x,J,d,y,a,L,fs,rfl,z,l,q]:=b;obtain rfl:u=e_ a:=y;exact mI d z c g l<|W.callWith_K0  d.kIn g.kp (VM  (vs:=[.ref a]) F j n hd r d (.cons rfl .nil) q)
structure Mk(K:W.Frag)(C f:Addr):Prop where
 makes:W.makesIn K C=true
 init:W.findIn K (.ref C) "__init__"=some (some<|.ref f)
 fn:W.isFn K (.ref f)=true
 kp:W.keepIn K (.ref C)=true
def Wk(M:Mk X.K C f)(F:FnOk X.prog X.w X.K X.mg X.base CX k f fd ps sp)(j:Room (k+1) X.A)(l:Binds X.K fd ps ds)(hd:Vals EQ ds)
  (n:HB CX X E) (I:Inv X q d H s) (r:Vals vs us)
  (h:∀ x b,H x=none->H b=none->b≠x->sp (.ref x::(vs++EQ)) (upd (upd H b<|.own x) x (.ins C b [])) (λv w=>v=.non/\Q (.ref x) w) (E d)) :
  wpAny (model X.prog X.w) X.A (call (.ref C) us) (EP X q d Q) X.xe s:=by
 have g:=h _ _ (I.hok.fresh<|ic _) (I.hok.fresh<|ο _) (bm<|d_ _)
 have c:=Inv.made (C:=C) I
 have i:Vals (V.ref (s.heap.objs.size+1)::(vs++EQ)) _:=.cons rfl<|r.append hd
 have y:(e_ (s.heap.objs.size+1)::us++ds).length=ps.length:=by
  have e:=i.length;rw[F.len _ _ _ _ g]at e;exact e.symm
 refine ya (Vm  I.kIn M.makes M.init (beq_iff_eq.mp M.fn) (l8 (F.run _ _ _ _ _ _ _ _ _ (j.make C us [])
  (c.env0.make C us []) (l _ _ c.kIn y) i g) λr z a=>?_))
 cases r with
 |error e=>exact n _ d _ _ e z c a
 |ok A =>
  cases A with
  |ret u =>
   refine u2 ?_<|c.after a;intro v B [D,J,rfl,q3];exact{J,x2 (V.ref _) B ⟨D,rfl,q3⟩}
  |next=>exact jr a
  |brk=>exact jr a
  |cont=>exact jr a
def Wl(M:Mk X.K C f)(F:FnOk X.prog X.w X.K X.mg X.base CX k f fd ps sp)(c:Room (k+1) X.A)(d:Gl X x)(g:X.mg x=some (.ref C))(i:Binds X.K fd ps ds)(hd:Vals EQ ds)(j:HB CX X E)
  (l:PA X (e::es) t) (a:(x ==("__debug__":Str))=false:=by decide) (he:av (e::es) X.env=(false,eval e X.env)::av es X.env:=by rfl) (n:(jd pos<|av es X.env).any (·.1)=false:=by rfl) :
  PE X (.Call (.Name x p) (e::es) [] pos) (NJ C sp EQ E t):=λv s u H Q I h=>q_ (NG I d g (W.callWith_K  I.ok.mod.kin M.kp (AU (l _ _ s u H _ I h) (by intro us w [vs,y,b,r,q];exact{b.kIn,(Wk M F c i hd j b r q)})) he n) a)
end
section
variable{X:Cx}{CX:HX}{k:Nat}{f C:Addr}{fd:gi}{ps ks:yD}{sp:Sp}{E:St->XK}{x m:Str}{p pos C0 kpos:Pos}{e o:Expr}{es:wD}{kws:List zt}{te ta:TE}{t tk:TA}{nm:Option Str}
structure z4q(K:W.Frag)(fd:gi)(ps ks:yD)(g:yC->yC->yC)(gV:tF->tF->tF):Prop where
 to:∀ (s:ν) (us ws:yC),K.In s.heap->(g us ws).length=ps.length->wu s fd {us,ks.zip ws} (ps.zip<|g us ws)
 rel:∀ {vs:tF} {us:yC} {zs:tF} {ws:yC},Vals vs us->Vals zs ws->Vals (gV vs zs) (g us ws)
variable{g:yC->yC->yC}{gV:tF->tF->tF}
end
structure FnScope(N P:yD)(sc:Scope):Prop where
 kind:sc.kind=.function
 co:sc.isCoroutine=false
 gen:sc.isGenerator=false
 nd:N.Nodup
 pre:N.take P.length=P
 par:∀ x∈P,sc.names.lookup x=some .local\/sc.names.lookup x=some .cell
 nofree:∀ y∈sc.names,y.2≠.free
theorem mM{kindOf:Str->Option xt}:∀ {binds:yA} {m:vB},(∀ v,(x,v)∉binds)->bindL kindOf binds m x=m x
 | [],_,_=>rfl
 |(n,v)::r,m,h=>by
  unfold bindL;rw[mM λw a=>h w<|ω _ a];split
  have:x≠n:=by rintro rfl;exact h v aa
  simp[this]
  rfl
theorem mO{kindOf:Str->Option xt}:∀ {binds:yA} {m:vB},(∀ v,(x,v)∉binds)->bindC kindOf binds m x=m x
 | [],_,_=>rfl
 |(n,v)::r,m,h=>by
  unfold bindC;rw[mO λw a=>h w<|ω _ a];split
  rfl
  have:x≠n:=by rintro rfl;exact h v aa
  simp[this]
theorem mP{kindOf:Str->Option xt}:∀ {P:yD} {vs:yC} {i:Nat} {m:vB},P.Nodup->P[i]? =some x->vs[i]? =some v->kindOf x=some .local ->
  bindL kindOf (P.zip vs) m x=some v
 | [],_,_,_,_,h,_,_=>by simp at h
 |_::_,[],_,_,_,_,h,_=>by simp at h
 |p::P,w::vs,0,m,nd,h1,h2,a=>by
  simp at h1 h2;subst h1 h2
  show bindL _ ((p,w)::P.zip vs) m p=_;unfold bindL;rw[mM λv b=>(ir.mp nd).1 (yo b).1,if_pos a];simp
 |p::P,w::vs,i+1,m,nd,h1,h2,a=>by
  unfold bindL;exact mP  (ir.mp nd).2 (h1) (h2) a
theorem mQ{kindOf:Str->Option xt}:∀ {P:yD} {vs:yC} {i:Nat} {m:vB},P.Nodup->P[i]? =some x->vs[i]? =some v->kindOf x≠some .local ->
  bindC kindOf (P.zip vs) m x=some v
 | [],_,_,_,_,h,_,_=>by simp at h
 |_::_,[],_,_,_,_,h,_=>by simp at h
 |p::P,w::vs,0,m,nd,h1,h2,a=>by
  simp at h1 h2;subst h1 h2
  show bindC _ ((p,w)::P.zip vs) m p=_;unfold bindC;rw[mO λv b=>(ir.mp nd).1 (yo b).1,if_neg a];simp
 |p::P,w::vs,i+1,m,nd,h1,h2,a=>by
  unfold bindC;exact mQ  (ir.mp nd).2 (h1) (h2) a
def start(N:yD)(vs:tF):St:=vs.map some++bd (N.length-vs.length) none
def IU(CX:HX)(P:bu)(w:World)(K:W.Frag)(mg:vB)(base:Heap)(N:yD)(a:Str)(scope:Scope)(f:Addr)(c:Value)(A:dh)(outer:zD)(s:ν)(H:Hp)(E:XK):Cx where
 prog:=P
 w:=w
 K:=K
 mg:=mg
 base:=base
 A:=A.deeper<|xi a scope s.heap.objs.size f c
 N:=N
 s₀:=s
 H₀:=H
 env:=xi a scope s.heap.objs.size f c
 outer:=outer
 stack:=xi a scope s.heap.objs.size f c::outer
 ex:=[]
 calm:=true
 fn:=λ_=>true
 pn:=[]
 xe:=λe d=>wpAny (model P w) (A.deeper<|xi a scope s.heap.objs.size f c) (leaving (xi a scope s.heap.objs.size f c) e) (λ_ b=>CX outer H s E e b) (λg b=>CX outer H s E g b) d
def mR{a:Scope}(h:a.names.lookup x=some .cell):∃ c,(Jf n a.names []).lookup x=some c:=c_.mp<|W.cellsFrom_some _ n [] (.inl h)
def Wm{CX:HX}{P:bu}{w:World}{K:W.Frag}{mg:vB}{base:Heap}{N ps:yD}{d:Str}{scope:Scope}{f:Addr}{D:Value}{A:dh}{outer:zD}{s I:ν}{H:Hp}{E:XK}{us:yC}{vs:tF}
  (S:FnScope N ps scope) (hd:A.handled=none) (g:Env0 P w K mg base A outer s H) (M:vs.length=ps.length) (r:Vals vs us)
  (x:InCallC s s.heap.objs.size (bindL (xi d scope s.heap.objs.size f D).kindOf (ps.zip us) λ_=>none) (Jf (s.heap.objs.size+1) scope.names []) (bindC (xi d scope s.heap.objs.size f D).kindOf (ps.zip us) λ_=>none) I) :
  Inv (IU CX P w K mg base N d scope f D A outer s H E) [] (start N vs) H I:=by
 have T:ps.length<=N.length:=by have:=congrArg nq S.pre;rw[de]at this;lia
 refine u2 ?_ x.done;intro h1 tk [rfl,J]
 have j:∀ b:Addr,b∉(IU CX P w K mg base N d scope f D A outer s H E).ex:=λb z=>absurd (show b∈([])from z) (by simp);refine⟨{g.mod,S.kind,rfl,rfl,ο _,λy z c h1 h2=>(name_of_addr x.apart (PySem.mem_of_lookup h1) (PySem.mem_of_lookup h2)),λy l=>?_,λy c t h=>(ig<|x.above y c<|PySem.mem_of_lookup h),λt=>hd,Around.frames_deeper g.frames,.inr ⟨rfl,rfl⟩,λb z=>absurd z<|j b,g.bs,g.bsz,λb t t=>j b,λb z=>absurd z<|j b,g.funs,g.frf},
  rfl,g.bare,Un.kept J,{_,x.toInCall.ns,λi y v h1 h2 h3=>?_},λy c h=>{_,x.cell y c h},g.hok.fresh<|ο _,λy c h=>(g.hok.fresh<|ig<|x.above y c<|PySem.mem_of_lookup h),λp n=>absurd (show p∈([])from n) (by simp),g.hok.kept J,?_⟩
 let l||l:=l
 exact mR l;exact absurd rfl<|S.nofree _<|PySem.mem_of_lookup l
 have o:i<vs.length:=by
  unfold start at h2;by_cases o:i<vs.length;exact o;rw[ba (by simpa using o),xu]at h2;split at h2<;>cases h2
 have O:vs[i]? =some v:=by
  unfold start at h2;rw[ae (by simpa using o),ρ]at h2;cases e:vs[i]? with
  |none=>rw[e]at h2;cases h2
  |some a=>rw[e]at h2;cases h2;rfl
 have n:ps[i]? =some y:=by
  rw[<-S.pre,List.getElem?_take_of_lt<|M ▸ o];exact h1
 have B:ps.Nodup:=by rw[<-S.pre];exact S.nd.sublist<|Bf _ _
 let[u,L,Q]:=r.get O;refine{u,Q,?_};rcases S.par y (ι n)with k|k
 exact .inl {k,mP B n L k};let[c,e]:=mR  k;refine .inr {.inl k,c,e,?_}
 have q:=x.cell y c e;rw[mQ B n L (by show scope.names.lookup y≠_;rw[k];decide)]at q;exact q;unfold start
 show _=N.length;rw[ψ,η,t9]
 lia
def Wp{CX:HX}{P:bu}{w:World}{K:W.Frag}{mg:vB}{base:Heap}{k:Nat}{f:Addr}{name a:Str}{c:Arguments}{body:List Stmt}{scope:Scope}{U kV B pm j ct oc:Value}{Y od:Option Addr}
  {L:Array (Option Value)} {N ps:yD} {sp:Sp} (lk:K.lookup f=some {oc,od,.func<|W.fnOf name a c body scope U kV B pm Y j ct,L}) (GT:W.codeIn K j a=true) (S:FnScope N ps scope)
  (len:∀ vs H Q E,sp vs H Q E->vs.length=ps.length)
  (lQ:∀ (A:dh) (outer:zD) (s:ν) (H:Hp) (vs:tF) (Q:VK) (E:XK),Room k (A.deeper<|xi a scope s.heap.objs.size f j)->sp vs H Q E ->
   ∃ t,FS (IU CX P w K mg base N a scope f j A outer s H E) body t/\t { nx:=λz g=>Q .non g,rt:=Q } (start N vs) H) :
  FnOk P w K mg base CX (k+1) f (W.fnOf name a c body scope U kV B pm Y j ct) ps sp:=by
 refine{len,λA outer s H args us vs Q E M D hb r I=>?_}
 have KX:=D.mod.kin.keeps λb o e=>(D.bs b o e).1
 have i:∀ y∈ps.zip us,scope.names.lookup y.1=some _\/(scope.names.lookup y.1=some _/\((Jf (s.heap.objs.size+1) _ []).lookup y.1).isSome=true):=λ⟨n,v⟩ hy=>by
  let q||q:=S.par n (yo hy).1
  exact .inl q;exact .inr {q,W.cellsFrom_some _ _ _<|.inl q}
 refine codeAny_call_function M.depth (KX _ _ lk) rfl S.co S.gen rfl (W.codeRec_of KX GT) (hb _ _ _ _<|wpAny_newFunctionEnv_cells S.kind i λenv he s1 x=>?_);subst he;let[t,ht,hq]:=lQ A _ s H vs Q E (M.deeper _) I;refine{(D.mod.nolimit.keeps λb o e=>(D.bs b o e).1).keeps x.toInCall.keep,codeAny_func<|ni (ht [] s1 _ H _ (Wm S M.hd D (len _ _ _ _ I) r x) hq) (λfl O l=>?_) λe O l=>l}
 have fin:∀ {d:St} {g:Hp} {v:V} {u:Value},Inv (IU CX P w K mg base N a scope f j A _ s H E) [] d g O->RelV v u->Q v g->CE outer P w H s Q u O :=
  λ{d g v u} J T q=>x2 v g ⟨J.os,J.bare,J.base,J.hok,T,q⟩
 cases fl with
 |ret u =>
  revert l;apply u3;intro v d g [J,T,q];exact fin J T q
 |next =>
  revert l;apply u2;intro d g [J,q];exact fin (v:=V.non)  J rfl q
 |brk =>
  revert l;apply u2;intro z z [z,q];exact jr q
 |cont =>
  revert l;apply u2;intro z z [z,q];exact jr q
section
variable{X:Cx}{x:Str}{p pos:Pos}{e:Expr}{es:wD}{t:TA}{id T:String}{r:tF->Hp->VK->Prop}
def B7(r:tF->Hp->VK->Prop)(t:TA):TE:=λa H Q=>t a H λvs b=>r vs b Q
def NK(c:EH X (.builtin id) r)(d:Gl X x)(g:X.mg x=none)(i:sq x=some (.builtin id))(j:PA X (e::es) t)(l:x≠"__name__":=by decide)(a:(x ==("__debug__":Str))=false:=by decide)
  (he:av (e::es) X.env=(false,eval e X.env)::av es X.env:=by rfl) (n:(jd pos<|av es X.env).any (·.1)=false:=by rfl):PE X (.Call (.Name x p) (e::es) [] pos) (B7 r t):=λw s b H Q I h=>q_ (NH I d g i (PyProof.Rows.callWith_builtin1 (AU (j _ _ s b H _ I h) (by intro us o [vs,q,u,v,q1];exact c _ o b q vs us Q u v q1)) he n) l a)
def O4(c:EH X (.type T) r)(d:Gl X x)(g:X.mg x=none)(i:sq x=some (.type T))(j:PA X (e::es) t)(l:x≠"__name__":=by decide)(a:(x ==("__debug__":Str))=false:=by decide)
  (he:av (e::es) X.env=(false,eval e X.env)::av es X.env:=by rfl) (n:(jd pos<|av es X.env).any (·.1)=false:=by rfl):PE X (.Call (.Name x p) (e::es) [] pos) (B7 r t):=λw s b H Q I h=>q_<|NH I d g i (jm (AU (j _ _ s b H _ I h) λus o ⟨vs,q,u,v,q1⟩=>c _ o b q vs us Q u v q1) he n) l a
end
end L2
namespace HT
open PySem PyProof.Rows
section
open PySem.SeqAt
open PySem.AutoSeq1 (wpAny_loadPart')
open PySem.MeetsSeq PySem.MeetsSeq2 PySem.MeetsSeq3
end
section
variable{prog:bu}{w:World}{A:dh}{E:yB}{s:ν}
def cat_tup(u:IsTup s.heap t vs.toArray)(v:IsTup s.heap b c.toArray)(l:vs≠[])
  (h1:c=[]->Q (.ref t) s) (h2:c≠[]->Q (.ref s.heap.objs.size) { s with heap:=s.heap.push { cls:=.type "tuple",data:=.seq (vs++c).toArray } })
  (hsz:vs.length+c.length<=sizeLine):wpAny (model prog w) A (iw .Add (.ref t) (.ref b)) Q E s:=by
 let[[cls,dd,data,o],d,x,n,hd]:=id u;let[[q,y,data2,z],a,i,r,j]:=id v;subst x hd i j
 have e:vs.toArray++c.toArray=(vs++c).toArray:=by simp
 by_cases g:c=[];exact Bi ⟨_,d,rfl⟩ ⟨_,a,rfl⟩ xv z_ PySem.F.slot_tuple_add PySem.F.entry_tuple_add (PySem.F.args_tuple_add_2 _ _)
  (tuple_addW1 t b _ _ n r dd _ o _ (by simpa using l) (by simp[g])) {d,a,h1 g}
 refine Bi ⟨_,d,rfl⟩ ⟨_,a,rfl⟩ xv z_ PySem.F.slot_tuple_add PySem.F.entry_tuple_add (PySem.F.args_tuple_add_2 _ _)
  (tuple_addW2 t b _ _ n r dd _ o _ (by simpa using l) (by simpa using g) (by exact hsz)) {d,a,?_}
 rw[e];exact h2 g
def sIx(n d:Nat):Option Int->Nat
 |none=>d
 |some v=>if v<0 then(v+(n:Int)).toNat else min v.toNat n
def sIx_none(n d:Nat):sIx n d none=d:=rfl
def clip_eq(v:Int)(n d:Nat):(if v<0 then max (v+(n:Int)) 0 else min v (n:Int))=((sIx n d (some v):Nat):Int):=by
 show _=(((if v<0 then(v+n).toNat else min v.toNat n):Nat):Int);by_cases a:v<0;rw[if_pos a,if_pos a,Int.ofNat_toNat]
 have e:=di<|rf.mp a;rw[if_neg a,if_neg a];let h||h:=Nat.le_total v.toNat n
 rw[j_ h,e];exact Gu<|e ▸ i_.mpr h;rw[Ee h];exact Int.min_eq_right<|e ▸ i_.mpr h
def Wq(lo a:Option Int)(n:Nat):we lo a 1 (n:Int)=(((sIx n 0 lo:Nat):Int),((sIx n n a:Nat):Int)):=by
 refine Prod.ext ?_ ?_;cases lo with
 |none=>rfl
 |some v=>exact clip_eq v n 0
 cases a with
 |none=>rfl
 |some v=>exact clip_eq v n n
def Wv(i j:Nat):wf (i:Int) (j:Int) 1=j-i:=by
 show(if(i:Int)<j then((j:Int)-i-1)/1+1 else 0).toNat=_;by_cases h:(i:Int)<j;rw[if_pos h,Int.ediv_one,Int.sub_add_cancel,Int.toNat_sub];rw[if_neg h];exact(yu<|i_.mp<|rf.mp h).symm
def mS(p:zd v o)(h:Q o s):wpAny (model prog w) A (G6 v) Q E s:=by
 cases p with
 |none=>exact slicePart_none h
 |int i t=>exact slicePart_int h
def Ww{d:Addr}{e g:Value}{lo c:Option Int}{n:Nat}{Q:Int × Int × Nat->ν->Prop}(i:s.heap.IsSliceOf d e g .none)(j:zd e lo)(l:zd g c)
  (h:Q (((sIx n 0 lo:Nat):Int),1,sIx n n c-sIx n 0 lo) s):wpAny (model prog w) A (Ig (.ref d) (pure (n:Int))) Q E s:=by
 let[os,a,o,b]:=id i;refine δ<|δ<|je a b  rfl (δ<|je a b  rfl (δ<|je a b  rfl (π<|δ<|slicePart_none<|δ<|mS j<|δ<|mS l<|δ<|π ?_)))
 show wpAny _ _ (match we lo c 1 n with|(lo,c)=>pure (lo,(1:Int),wf lo c 1)) _ _ s;rw[Wq lo c n]
 show wpAny _ _ (pure _) _ _ s;rw[Wv];exact π h
def Wx(xs:Array Value)(i k:Nat):((μ k).filterMap λ(m:Nat)=>xs[((i:Int)+(m:Int)*1).toNat]?).toArray=((xs.toList.drop i).take k).toArray:=by
 have e:(λ(m:Nat)=>xs[(i+(m:Int)*1).toNat]?)=λm=>xs[i+m]? :=by
  funext m
  have:(i+(m:Int)*1).toNat=i+m:=by lia
  rw[this]
 have:=pick_run xs i k;rw[e];rw[List.filterMap_map]at this
 have a:((λx=>xs[x]?) ∘ λx=>i+x)=λm=>xs[i+m]? :=rfl;rw[a]at this;rw[this]
def getItem_tuple_cut{t j:Addr}{a:Array Value}{l n:Value}{lo c:Option Int}{Q:yB}(d:IsTup s.heap t a)(o:s.heap.IsSliceOf j l n .none)(r:zd l lo)(u:zd n c)
  (v:¬ (sIx a.size 0 lo=0/\sIx a.size a.size c=a.size))
  (h:Q (.ref s.heap.objs.size) { s with heap:=s.heap.push { cls:=.type "tuple",data:=.seq ((a.toList.drop<|sIx a.size 0 lo).take (sIx a.size a.size c-sIx a.size 0 lo)).toArray } })
  (hsz:a.size<=sizeLine):wpAny (model prog w) A (yb (.ref t) (.ref j)) Q E s:=by
 let[os,e,g,x]:=id o
 have b:sizeOk (.seq ((a.toList.drop<|sIx a.size 0 lo).take (sIx a.size a.size c-sIx a.size 0 lo)).toArray):=by
  show((a.toList.drop _).take _).toArray.size<=sizeLine;rw[a_];exact υ (ze ..) (by rw[iy];exact υ (Nat.sub_le ..) hsz)
 unfold yb
 try with_reducible refine ff ?_
 refine δ (wpAny_sequenceKey d.typeIs (by decide) ?_);refine δ (ee  d.typeIs jj
  (fg jj d.typeIs entry_tuple_getitem ?_<|args_tuple_getitem _ _))
 show wpAny _ _ (Ih _>>=_) _ _ s;refine δ<|tupleItemsOf_ d<|δ<|va ⟨os,e,g⟩ (δ<|Ww o r u ?_)
 have i:¬ ((((sIx a.size 0 lo):Int)==0&&(1:Int)==1&&(sIx a.size a.size c-sIx a.size 0 lo)==a.size)=true):=by
  intro q;rw[cb,cb]at q
  have q1:=eq_of_beq q.1.1
  have q2:=eq_of_beq q.2;exact v {bh q1,by omega}
 show wpAny _ _ (if(((sIx _ 0 lo):Int)==0&&1==1&&(sIx _ _ c-sIx _ 0 lo)==a.size)=true then _ else _) _ _ s;rw[if_neg i,Wx]
 first
  |exact δ  _
  |exact δ  (fq (δ<|π<|π {_,rfl,π h}) b)
  |exact δ _
  |exact δ _
end
end HT
namespace L2
abbrev TO:=St->Hp->(Option Int->Hp->Prop)->Prop
def PO(X:Cx)(e:Option Expr)(t:TO):Prop :=
 ∀ (b:zA) (s:ν) (a:St) (H:Hp) (Q:Option Int->Hp->Prop),Inv X b a H s->t a H Q ->
  wpAny (model X.prog X.w) X.A (evalPart e X.env) (λu d=>∃ o c,Inv X b a c d/\zd u o/\Q o c) X.xe s
def IV:TO:=λ_ H Q=>Q none H
def O5(t:TE):TO:=λa H Q=>t a H λx b=>∃ i,x=.int i/\Q (some i) b
section
variable{X:Cx}{e:Expr}{te:TE}{lo hi:Option Expr}{tl th:TO}{pos p2:Pos}
def Wy:PO X none IV:=λa s b H Q I h=>π<|x2 _ H {I,.none,h}
def Wz(h:PE X e te):PO X (some e) (O5 te):=by
 refine λl s b H Q I c=>AU (h _ s b H _ I c) λu n a=>?_;let[x,d,g,j,[i,rfl,q]]:=a;let[t,rfl]:=j;exact x2 _ d {g,.int i t,q}
def SlR(X:Cx)(r:V->Option Int->Option Int->Hp->VK->Prop):Prop :=
 ∀ (a:zA) (s:ν) (b:St) (H:Hp) (x:V) (v c d:Value) (lo hi:Option Int) (g:Addr) (Q:VK),Inv X a b H s->RelV x v->s.heap.IsSliceOf g c d .none->zd c lo->zd d hi->r x lo hi H Q ->
  ∃ T id,Ii (.type T) "__getitem__"=pure (some<|.builtin id)/\s.TypeIs v T/\wpAny (model X.prog X.w) X.A (yb v<|.ref g) (EP X a b Q) X.xe s
def SlR.or(h:SlR X r)(h':SlR X n):SlR X (λx lo hi H Q=>r x lo hi H Q\/n x lo hi H Q):=by
 intro o s a H x v b c lo hi d Q I g i j l q;let q||q:=q
 exact h _ s a H x v b c lo hi d Q I g i j l q;exact h' _ s a H x v b c lo hi d Q I g i j l q
def HY(r:V->Option Int->Option Int->Hp->VK->Prop)(te:TE)(tl th:TO):TE:=λa H Q=>te a H λx b=>tl a b λl c=>th a c λu d=>r x l u d Q
def Xb(n:SlR X r)(he:PE X e te)(o:PO X lo tl)(w:PO X hi th):PE X (.Subscript e (.Slice lo hi none p2) pos) (HY r te tl th):=by
 refine λAA s a H Q I h=>Ij<|AU (he _ s a H _ I h) λv y ⟨x,z,A,B,q1⟩=>(wpAny_Slice<|AU (o _ y a z _ A q1) λd D ⟨l,E,J,L,q2⟩=>AU (w _ D a E _ J q2) λg i c=>?_);let[u,j,M,N,q3]:=c
 have O:Inv X _ a j { i with heap:=i.heap.push { cls:=.type "slice",data:=.fields #[d,g,.none] } }:=M.kept  λb ob q=>ξ _ q;refine π<|u2 ?_<|n _ _ a j x v d g l u _ Q O B (Ku ..) L N q3;intro T id [U,Y,hg];exact tail_any  Y U hg (by with_unfolding_all rfl)
def EU(xs:tF)(lo hi:Option Int):tF:=(xs.drop<|HT.sIx xs.length 0 lo).take (HT.sIx xs.length xs.length hi-HT.sIx xs.length 0 lo)
def mT(xs:tF)(lo hi:Option Int):(EU xs lo hi).length<=xs.length:=υ (ze ..) (by rw[iy];exact Nat.sub_le ..)
def mU(K:W.Frag):V->Option Int->Option Int->Hp->VK->Prop:=λx lo hi H Q=>∃ a xs,x=.ref a/\SqT K H a xs /\
 ¬ (HT.sIx xs.length 0 lo=0/\HT.sIx xs.length xs.length hi=xs.length)/\∀ p,H p=none->Q (.ref p) (upd H p<|.tup<|EU xs lo hi)
def Xc:SlR X (mU X.K):=by
 intro y s z H x v A B lo hi D Q I g i j l h;revert h;apply u2;intro a xs [rfl,n,u,q];subst g;let[w,r,d,hz]:=I.tuple n
 have c:w.toArray.size=xs.length:=r.length.symm;refine x2 _ _ {jj.lookup,d.typeIs,(HT.getItem_tuple_cut d i j l (by rw[c];exact u) ?_ (by rw[c];exact hz))};rw[c];exact x2 (.ref _) _ {I.laid  (o:=.tup _) (λb ob q=>ξ _ q) (ο _) {υ (mT xs lo hi) hz,_,(r.drop _).take _,Ji _ _},rfl,q _<|I.hok.fresh<|ο _}
def VN(K:W.Frag):R2:=λx y H Q=>∃ a b xs ys,x=.ref a/\y=.ref b/\SqT K H a xs/\SqT K H b ys/\xs≠[]/\xs.length+ys.length<=sizeLine /\
 (ys=[]->Q (.ref a) H)/\(ys≠[]->∀ p,H p=none->Q (.ref p) (upd H p<|.tup<|xs++ys))
def Vals.nil_iff(r:Vals xs us):us=[]↔xs=[]:=by
 cases r with
 |nil=>simp
 |cons _ _=>simp
def Xd:B8 X (iw .Add) (VN X.K):=by
 intro r s A H x y v u Q I g i h;revert h;apply u4;intro a b xs ys [rfl,rfl,j,l,n,hz,q1,q2];subst g;let[B,d,p1,t]:=I.tuple j;subst i;let[D,c,p2,t]:=I.tuple l;exact HT.cat_tup p1 p2 (λz=>n<|d.nil_iff.mp z) (λz=>x2 (.ref a) H {I,rfl,q1<|c.nil_iff.mp z}) (λz=>(x2 (.ref _) _ {I.laid  (o:=.tup _) (λb ob q=>ξ _ q) (ο _) {by rw[ψ];exact hz,_,d.append c,Ji _ _},rfl,q2 (λw=>z<|c.nil_iff.mpr w) _ (I.hok.fresh<|ο _)})) (by rw[<-d.length,<-c.length];exact hz)
end
def HC(n:Nat)(i:Int):Option Nat:=if 0<=i then(if i<n then some i.toNat else none)else if -(n:Int)<=i then some (i+n).toNat else none
def L9{α :Type}(xs:List α)(i:Int):Option α :=(HC xs.length i).bind λj=>xs[j]?
def mV(h:HC n i=some j):seqIndex? i n=some j/\j<n/\ -(n:Int)<=i/\i<n:=by
 unfold HC at h;by_cases h0:0<=i;rw[if_pos h0]at h;by_cases h1:i<n;rw[if_pos h1]at h
 have e:=θ h;exact{by rw[Go h0 h1,e],by omega,by omega,h1};rw[if_neg h1]at h;cases h;rw[if_neg h0]at h;by_cases h1: -n<=i;rw[if_pos h1]at h
 have e:=θ h;exact{by rw[Bn (by omega) h1,e],by omega,h1,by omega};rw[if_neg h1]at h;cases h
def VO{α :Type}{xs:List α}{i:Int}{v: α}(h:L9 xs i=some v):∃ j,seqIndex? i xs.length=some j/\xs[j]? =some v/\j<xs.length/\ -(xs.length:Int)<=i/\i<xs.length:=by
 unfold L9 at h;cases e:HC _ i with
 |none=>rw[e]at h;cases h
 |some j =>
  rw[e]at h;let[h1,h2,h3,h4]:=mV e;exact⟨j,h1,h,h2,h3,h4⟩
def SB{α :Type}{xs:List α}{j:Nat}{v: α}(h:xs[j]? =some v):L9 xs (j:Int)=some v:=by
 have e:HC xs.length j=some j:=by
  unfold HC;rw[if_pos (i0),if_pos<|ck.mpr<|(ε.mp h).1];simp
 unfold L9;rw[e];exact h
def Xg(b:Expr):Prop:=∀ o i,zf b false o i=operate [o,i] (yb o i)
def IxR(X:Cx)(r:R2):Prop :=
 ∀ (value slice:Expr) (a:zA) (s:ν) (b:St) (H:Hp) (x y:V) (v u:Value) (Q:VK),Inv X a b H s->RelV x v->RelV y u->r x y H Q ->
  zf slice false v u=operate [v,u] (yb v u)->wpAny (model X.prog X.w) X.A (subscriptTail value slice v u) (EP X a b Q) X.xe s
def VP(X:Cx)(id:String)(r:V->tF->Hp->VK->Prop):Prop :=
 ∀ (a:zA) (s:ν) (b:St) (H:Hp) (x:V) (xs:tF) (v:Value) (us:yC) (Q:VK),Inv X a b H s->RelV x v->Vals xs us->r x xs H Q ->
  wpAny (model X.prog X.w) X.A (call (.builtin id) (v::us)) (EP X a b Q) X.xe s
section
variable{X:Cx}{a b:Expr}{ta tb:TE}{pos:Pos}
def IxR.or(h:IxR X r)(h':IxR X i):IxR X (λx y H Q=>r x y H Q\/i x y H Q):=by
 intro value slice j s c H x y v u Q I d e q g;let q||q:=q
 exact h _ _ _ s c H x y v u Q I d e q g;exact h' _ _ _ s c H x y v u Q I d e q g
def mW(c:IxR X r)(d:PE X a ta)(e:PE X b tb)(g:Xg b):PE X (.Subscript a b pos) (AE r ta tb):=λz s i H Q I h=>Ij<|VF d e I h λv u j x y l n o w q=>c a b _ j i l x y v u Q n o w q<|g _ _
def mX(K:W.Frag):R2:=λx y H Q=>∃ p xs i v,x=.ref p/\y=.int i/\SqL K H p xs/\L9 xs i=some v/\Q v H
def mY(K:W.Frag):R2:=λx y H Q=>∃ p xs i v,x=.ref p/\y=.int i/\SqT K H p xs/\L9 xs i=some v/\Q v H
def mZ:R2:=λx y H Q=>∃ z i c,x=.str z/\y=.int i/\z.length<=sizeLine/\L9 z.cps.toList i=some c/\Q (.str {#[c]}) H
def Xh:IxR X (mX X.K):=by
 intro value slice J s o H x y v u Q I A B h g;revert h;apply u4;intro p xs i z [rfl,rfl,D,he,q];subst A;let[E,r,c,hz]:=I.list D;let[j,h1,h2,h3,h4,h5]:=VO he;let[t,rfl]:=B;let[w,l,d]:=r.get h2
 have n:=r.length
 have L:=OZ
 have fin:EP X _ o Q w s:=x2 z H ⟨I,d,q⟩;by_cases h0:0<=i
 have e:i.toNat=j:=by
  rw[Go h0 h5]at h1;exact θ h1
 exact item_listR c.isList h0 (by lia) (by rw[e];simpa using l) fin g
 have e:(i+E.toArray.size).toNat=j:=by
  rw[Bn (by omega) h4]at h1;rw[a_,<-n];exact θ h1
 exact yc  c.isList.typeIs Bo.lookup
  (wpAny_getItem_list_neg  c.isList (by omega) (by rw[a_]<;>exact n ▸ h4) (by lia) (by rw[e];simpa using l) ⟨rfl,fin⟩) g
def Xj:IxR X (mY X.K):=by
 intro value slice A s B H x y v u Q I e g h l;revert h;apply u4;intro p xs i z [rfl,rfl,n,he,q];subst e;let[D,r,d,hz]:=I.tuple n;let[j,h1,h2,h3,h4,h5]:=VO he;let[t,rfl]:=g;let[w,o,c]:=r.get h2
 have E:=OZ;exact yc  d.typeIs jj.lookup
  (getItem_tuple   d (by lia) (by lia) (by rw[a_,<-r.length];exact h1) (by simpa using o) {rfl,(x2 z H ⟨I,c,q⟩)}) l
def Xk:IxR X mZ:=by
 intro value slice n s o H x y v u Q I d e h g;revert h;apply u3;intro z i c [rfl,rfl,hz,he,q];let[t,rfl]:=d;let[t',rfl]:=e;let[j,h1,h2,h3,h4,h5]:=VO he
 have l:z.cps.toList.length=z.length:=by simp[Ik]
 rw[l]at h1 h4 h5
 have r:=OZ;exact tail_any (Il s z t) slot_str_getitem.lookup (getItem_str  (by
  rw[(decide_eq_false (by omega)),(decide_eq_false (by omega)),fi]) (by rw[h1];simpa using h2) (x2 (.str _) H {I.tok _,⟨_,rfl⟩,q})) g
def m7(K:W.Frag):R2:=λx y H Q=>mX K x y H Q\/mY K x y H Q\/mZ x y H Q
def Xl:IxR X (m7 X.K):=Xh.or<|Xj.or Xk
def Xm(c:yC)(n j:Nat)(u:Value):l_ (·.setIfInBounds j u) { cls:=.type "list",data:=.seq c.toArray n }={ cls:=.type "list",data:=.seq (c.set j u).toArray n }:=by
 simp[l_]
def Inv.lst{d:zA}{g:St}{H:Hp}{s:ν}{p:Addr}{xs:tF}(I:Inv X d g H s)(h:H p=some (.lst xs)) :
  ∃ (c:yC) (n:Nat),Vals xs c/\s.heap.get? p=some { cls:=.type "list",data:=.seq c.toArray n }/\xs.length<=sizeLine:=by
 let[z,c,n,r,e]:=I.hok p _ h;exact x2 _ n ⟨r,e,z⟩
def Inv.lstUpd{s:ν}{xs ys:tF}{d c:yC}{f:Obj->Obj}(I:Inv X j l H s)(h:H p=some (.lst xs))
  (o:s.heap.get? p=some { cls:=.type "list",data:=.seq d.toArray n }) (g:f { cls:=.type "list",data:=.seq d.toArray n }={ cls:=.type "list",data:=.seq c.toArray i }) (r:Vals ys c) (hz:ys.length<=sizeLine) (t:Nat) :
  Inv X j l (upd H p<|.lst ys) { s with heap:=s.heap.update p f,toks:=t }:=by
 have e:(s.heap.update p f).get? p=some { cls:=.type "list",data:=.seq c.toArray i }:=by
  rw[dw f o (by rw[g]<;>rfl),g]
 exact I.write   (by rw[h];trivial) (.inl rfl) (λb u v q=>(da _ _<|eh v).trans q) ⟨_,e⟩ ({hz,x2 _ i ⟨r,e⟩})
def m8:V->V->V->Hp->(Hp->Prop)->Prop:=λo i v H Q=>∃ p xs k j,o=.ref p/\i=.int k/\H p=some (.lst xs)/\HC xs.length k=some j/\Q (upd H p<|.lst<|xs.set j v)
def Xp:VE X m8:=by
 intro D s w H o i v E iv u Q I x y z h;revert h;apply u4;intro p xs k j [rfl,rfl,g,A,q];subst x;let[t,rfl]:=y;refine u2 ?_<|I.lst g;intro B n [r,c,hz];let[h1,h2,h3,h4]:=mV A
 have d:=r.length
 have J:=OZ
 have l:Inv X _ w _ _ :=
  I.lstUpd g c (Xm _ n j u) (r.set z j) (by rw[f_];exact hz) s.toks
 by_cases h0:0<=k
 have e:k.toNat=j:=by
  rw[Go h0 h4]at h1;exact θ h1
 exact W.ki_setAt c h0 (by lia) (by rw[a_,<-d];exact h4) (by rw[e];exact⟨_,l,q⟩)
 have e:(k+B.toArray.size).toNat=j:=by
  rw[Bn (by omega) h3]at h1;rw[a_,<-d];exact θ h1
 exact W.ki_setBack c (by omega) (by rw[a_,<-d];exact h3) (by lia) (by rw[e];exact⟨_,l,q⟩)
def m9(i:Int)(n d:Nat):max 0 (min (if i<0 then i+n else i) n)=((HT.sIx n d (some i):Nat):Int):=by
 rw[<-HT.clip_eq i n d];by_cases h:i<0;rw[if_pos h,if_pos h,Gu (Int.add_le_of_le_sub_right (by rw[Int.sub_self];exact Be h)),Int.max_comm];rw[if_neg h,if_neg h,Int.max_eq_right];exact Int.le_min.mpr {rf.mp h,jq _}
def Xq(lo c:Option Int)(n:Nat):(Gr lo c none n).1=((HT.sIx n 0 lo:Nat):Int)/\(Gr lo c none n).2.1=((HT.sIx n n c:Nat):Int)/\(Gr lo c none n).2.2=1:=by
 refine{?_,?_,rfl};cases lo with
 |none=>rfl
 |some i=>exact m9 i n 0
 cases c with
 |none=>rfl
 |some i=>exact m9 i n n
def Xv(c:yC)(lo d:Option Int):slicePick c.toArray lo d none=((c.drop<|HT.sIx c.length 0 lo).take (HT.sIx c.length c.length d-HT.sIx c.length 0 lo)).toArray:=by
 let[h1,h2,h3]:=Xq lo d _;unfold slicePick;rw[h1,h2,h3];simp only[sliceRange_one,pick_run]<;>rfl
def nD(K:W.Frag):V->Option Int->Option Int->Hp->VK->Prop:=λx lo c H Q=>∃ a xs,x=.ref a/\SqL K H a xs/\∀ p,H p=none->Q (.ref p) (upd H p<|.lst<|EU xs lo c)
def Xw:SlR X (nD X.K):=by
 intro u s w H x v y z lo e A Q I g i j l h;revert h;apply u2;intro a xs [rfl,n,q];subst g;let[B,r,c,hz]:=I.list n
 have d:=r.length;refine x2 _ _ {Bo.lookup,c.isList.typeIs,(wpAny_getItem_list_slice c.isList i j l .none (by simp) ?_ (by rw[a_]<;>exact d ▸ hz))};rw[Xv,<-d];exact x2 (.ref _) _ {I.laid  (o:=.lst _) (λb ob q=>ξ _ q) (ο _) ({υ (mT xs lo e) hz,x2 _ 0 {(r.drop _).take _,ak _ rfl}}),rfl,q _<|I.hok.fresh<|ο _}
def IW:V->Bool
 |.non=>true
 |.bl _=>true
 |.int _=>true
 |.str _=>true
 |_=>false
def JW:V->V->Bool
 |.non,.non=>true
 |.bl a,.bl b=>a==b
 |.bl a,.int b=>(if a then 1 else 0)==b
 |.int a,.bl b=>a ==(if b then 1 else 0)
 |.int a,.int b=>a==b
 |.str a,.str b=>a==b
 |_,_=>false
def Xx(d:RelV y u)(c:RelV x v)(g:IW y=true)(e:IW x=true):K_ A s u v (JW y x):=by
 cases y with
 |non =>
  cases d;cases x with
  |non=>subst c;exact SeqAt.EqAt.same _
  |bl b=>subst c;exact SeqAt.EqAt.none_bool b
  |int b=>let[t,rfl]:=c;exact SeqAt.EqAt.none_int b t
  |str b=>let[t,rfl]:=c;exact SeqAt.EqAt.none_str b t
  |_=>exact absurd (e) ax
 |bl a =>
  subst d;cases x with
  |non=>subst c;exact SeqAt.EqAt.bool_none a
  |bl b=>subst c;exact SeqAt.EqAt.bool_bool a b
  |int b=>let[t,rfl]:=c;exact SeqAt.EqAt.bool_int a b t
  |str b=>let[t,rfl]:=c;exact SeqAt.EqAt.bool_str a b t
  |_=>exact absurd (show false=true from e) ax
 |int a =>
  let[t',rfl]:=d;cases x with
  |non=>cases c;exact SeqAt.EqAt.int_none a t'
  |bl b=>cases c;exact SeqAt.EqAt.int_bool a t' b
  |int b=>let[t,rfl]:=c;exact SeqAt.EqAt.int_int a t' b t
  |str b=>let[t,rfl]:=c;exact Ai a t' b t
  |_=>exact absurd (show false=true from e) ax
 |str a =>
  let[t',rfl]:=d;cases x with
  |non=>cases c;exact SeqAt.EqAt.str_none a t'
  |bl b=>cases c;exact SeqAt.EqAt.str_bool a t' b
  |int b=>let[t,rfl]:=c;exact An a t' b t
  |str b=>let[t,rfl]:=c;exact SeqAt.EqAt.str_str a t' b t
  |_=>exact absurd (show false=true from e) ax
 |_=>exact absurd (show false=true from g) ax
def O6(x:V)(u:Value):Bool:=match u with
 |.none=>JW .non x
 |.bool b=>JW (.bl b) x
 |.int i _=>JW (.int i) x
 |.str z _=>JW (.str z) x
 |_=>false
def nF(r:RelV y u)(f:IW y=true):O6 x u=JW y x:=by
 cases y with
 |non=>subst r;rfl
 |bl b=>subst r;rfl
 |int i=>let[t,rfl]:=r;rfl
 |str z=>let[t,rfl]:=r;rfl
 |_=>exact absurd (f) ax
def nH:∀ {xs:tF} {us:yC},Vals xs us->xs.all IW=true->us.any (O6 x)=xs.any λy=>JW y x:=λh f=>by
 induction h with
 |nil=>rfl
 |cons r t c =>
  rw[uk,cb]at f;rw[mq,mq,nF r f.1,c f.2]
theorem VQ(d:RelV x v)(e:IW x=true):∀ {xs:tF} {us:yC},Vals xs us->xs.all IW=true->∀ u∈us,K_ A s u v (O6 x u)
 |_,_,.nil,_=>λu c=>by cases c
 |y::xs,u::us,.cons r t,f=>λg c=>by
  rw[uk,cb]at f;let rfl||c:=af.mp c
  rw[nF r f.1];exact Xx r d f.1 e;exact VQ d e t f.2 g c
def O7(x:V)(xs:tF):Bool:=xs.any λy=>JW y x
def nJ(K:W.Frag)(neg:Bool):R2:=λx y H Q=>∃ p xs,y=.ref p/\(SqL K H p xs\/SqT K H p xs)/\IW x=true/\xs.all IW=true/\Q (.bl<|if neg then !O7 x xs else O7 x xs) H
def Xy:B8 X (du .In) (nJ X.K false):=by
 intro n s o H x y v u Q I i l h;revert h;apply u2;intro p xs [rfl,c,j,fs,q];subst l;let c||c:=c
 let[d,r,e,hz]:=I.list c;refine SeqAt.in_listAt _ e.isList (λw g=>VQ i j r fs w (by simpa using g)) (x2 (.bl _) H {I,rfl,?_});rw[show d.toArray.any _=d.any (O6 x) by simp,nH r fs];exact q;let[d,r,e,hz]:=I.tuple c;refine Ef _ e (λw g=>VQ i j r fs w (by simpa using g)) (x2 (.bl _) H {I,rfl,?_});rw[show d.toArray.any _=d.any (O6 x) by simp,nH r fs];exact q
def Xz:EH X (.type "list") (λxs H Q=>∃ p ys,xs=[.ref p]/\(SqL X.K H p ys\/SqT X.K H p ys)/\∀ l,H l=none->Q (.ref l) (upd H l<|.lst ys)):=by
 intro A s y H xs us Q I r h;revert h;apply u2;intro p ys [rfl,g,q]
 have fin:∀ (j:List _),Vals ys _->ys.length<=sizeLine->∀ (h':Heap) (d:Nat),(∀ b x,s.heap.get? b=some x->h'.get? b=some x) ->
   h'.get? _=some _->EP X _ y Q _ { s with heap:=h' }:=λj c hz h' d i e =>
  {.ref _,_,I.laid  i (ο _) (show ObjOk _ _ _ h' _ (.lst ys)from{hz,x2 j d ⟨c,e⟩}),rfl,q _<|I.hok.fresh<|ο _}
 let[u,rfl,rfl]:=HW r;let g||g:=g
 let[j,c,z,hz]:=I.list g;let[o,v,w,n,hd]:=z.isList;exact call_list_seq p (.inl rfl) v w hd (λh' d i e=>fin _ c hz h' d i e) (by simp only[a_]<;>exact c.length ▸ hz);let[j,c,[o,v,w,n,hd],hz]:=I.tuple g;exact call_list_seq p (.inr rfl) v w hd (λh' d i e=>fin _ c hz h' d i e) (by simp only[a_]<;>exact c.length ▸ hz)
def Yb:EH X (.type "tuple") (λxs H Q=>∃ p ys,xs=[.ref p]/\((SqL X.K H p ys/\∀ l,H l=none->Q (.ref l) (upd H l<|.tup ys))\/(SqT X.K H p ys/\Q (.ref p) H))):=by
 intro x s i H xs us Q I r h;revert h;apply u2;intro p ys [rfl,h];let[u,rfl,rfl]:=HW r;let[c,q]||[c,q]:=h
 let[n,d,g,hz]:=I.list c;refine call_tuple_list g.isList (λh' v=>?_) (by simp only[a_]<;>exact d.length ▸ hz)
 have j:Inv X _ i H { s with heap:=h' }:=I.kept  v
 have w:Inv X _ i (upd H _<|.tup ys) { s with heap:=h'.push _ } :=
  j.laid  (λb o e=>ξ _ e) (ο _) ({hz,_,d,Ji _ _})
 exact x2 (.ref _) _ {w,rfl,q _<|j.hok.fresh<|ο _};let[n,d,g,hz]:=I.tuple c;exact call_tuple_same g<|x2 (.ref p) H ⟨I,rfl,q⟩
def VR(K:W.Frag)(T:String)(x:V)(H:Hp):Prop:=match x with
 |.str _=>T="str"
 |.int _=>T="int"
 |.ref p=>(T="list"/\∃ xs,SqL K H p xs)\/(T="tuple"/\∃ o,K.lookup p=some o/\o.cls=.type "tuple"/\o.dict=none) ∨
   (T="dict"/\((∃ kvs,H p=some (.dK kvs))\/∃ kvs,H p=some (.dT kvs)))\/(T="set"/\∃ S n,H p=some (.set S n))
 |_=>False
def Yc(I:Inv X u w H s)(r:RelV x v)(ty:VR X.K T x H) :
  s.TypeIs v T/\∀ a,v=.ref a->∃ ob,s.heap.get? a=some ob/\ob.dict=none:=by
 cases x with
 |str z =>
  let[t,rfl]:=r;cases (ty);exact{Il s z t,λ_ e=>nomatch e}
 |int i =>
  let[t,rfl]:=r;cases (ty);exact{yd s i t,λ_ e=>nomatch e}
 |ref p =>
  subst r;let[rfl,xs,l]||[rfl,o,d,q,hd]||[rfl,d]||[rfl,S,n,d]:=ty
  let[y,_,j,_]:=I.list l;refine{j.isList.typeIs,λa e=>?_};cases e;revert j;apply u2;intro o n [e,c,hd,_];exact⟨o,e,hd⟩;refine{{o,I.kIn p o d,q},λa e=>?_};cases e;exact{o,I.kIn _ o d,hd}
  have z:∃ o,s.heap.get? p=some o/\o.ExactDict:=by
   let[kvs,d]||[kvs,d]:=d
   let[_,_,_,_,o,_,_,e,ex,_]:=I.hok p _ d;exact⟨o,e,ex⟩;let[_,_,_,_,o,_,_,e,ex,_]:=I.hok p _ d;exact⟨o,e,ex⟩
  let[o,e,ex]:=z;refine{⟨o,e,ex.1⟩,λa g=>?_};cases g;exact⟨o,e,ex.2.1⟩;refine u4 ?_<|I.hok p _ d;intro o _ _ _ [e,ex,_];refine{⟨o,e,ex.1⟩,λa g=>?_};cases g;exact⟨o,e,ex.2.1⟩
 |_=>exact jr ty
def D2(K:W.Frag)(T:String)(r:V->tF->Hp->VK->Prop)(to:TE)(t:TA):TE:=λc H Q=>to c H λx d=>VR K T x d/\t c d λxs e=>r x xs e Q
variable{o e:Expr}{es:wD}{to:TE}{t:TA}{name:Str}{C0 DS:Pos}{T id:String}{r:V->tF->Hp->VK->Prop}
def O8(y:PlainAttrs T)(slot:Slot T name id)(j:typeOf (.builtin id)=pure (.type "method_descriptor"))(z:VP X id r)(A:PE X o to)(B:PA X (e::es) t)
  (d:uj o name X.env (eval o X.env)=eval o X.env:=by rfl)
  (i:((jd DS<|av (e::es) X.env).all (λx=> !x.1)&&(uo DS<|lu [] X.env).all (λx=>x.1.isSome)
   && decide ((e::es).length+([]:List zt).length+(if([]:List zt).isEmpty then 0 else 1)<30))=true:=by rfl)
  (g:(C0.endLine==DS.line)=true:=by rfl) (D:av (e::es) X.env=(false,eval e X.env)::av es X.env:=by rfl) (c:(jd DS<|av es X.env).any (·.1)=false:=by rfl) :
  PE X (.Call (.Attribute o name C0) (e::es) [] DS) (D2 X.K T r to t):=by
 refine λU s l H Q I h=>wpAny_Call_method_late d i g rfl<|AU (A _ s l H _ I h) λv E n=>?_;let[x,J,q,u,ty,q1]:=n;let[h1,h2]:=Yc q u ty
 have w:=B DS _ E l J _ q q1;refine x2 T id {y,slot,j,h1,h2,?_};rw[D]at w ⊢;exact sx (by show(false||(jd _ _).any _)=false;rw[c]<;>rfl) (nr (AU w (by intro us L [vs,M,N,O,q2];exact z _ L l M x vs v us Q N u O q2)))
end
def SD(X:Cx)(id:String)(r:V->tF->Hp->VK->Prop):Prop :=
 ∀ (a:zA) (s:ν) (b:St) (H:Hp) (x:V) (xs:tF) (v:Value) (us:yC) (Q:VK),Inv X a b H s->RelV x v->Vals xs us->r x xs H Q ->
  wpAny (model X.prog X.w) X.A (call (.builtin id) (v::us)) (EP X a b Q) X.xe s
def Vals.one:∀ {x:V} {us:yC},Vals [x] us->∃ u,us=[u]/\RelV x u:=λh=>by
 let[u,m,rfl,r,h]:=LZ h;rw[ND h];exact⟨_,rfl,r⟩
def Vals.two:∀ {x y:V} {us:yC},Vals [x,y] us->∃ u v,us=[u,v]/\RelV x u/\RelV y v:=λh=>by
 let[u,m,rfl,r,h]:=LZ h;let[v,m,rfl,q,h]:=LZ h;rw[ND h];exact y2 ⟨rfl,r,q⟩
theorem Vals.eraseIdx:∀ {xs:tF} {us:yC} (i:Nat),Vals xs us->Vals (xs.eraseIdx i) (us.eraseIdx i)
 |_,_,_,.nil=>.nil
 |_,_,0,.cons _ t=>t
 |_,_,i+1,.cons r t=>.cons r<|Vals.eraseIdx i t
theorem Vals.rep(h:Vals xs us):∀ k:Nat,Vals (bd k xs).flatten (bd k us).flatten
 |0=>.nil
 |k+1=>Vals.append h<|Vals.rep h k
theorem SE(b:yC):∀ (k:Nat) (a:yC),
  Ar (λc x2=>c++x2) a.toArray (bd k b.toArray)=(a++(bd k b).flatten).toArray
 |0,a=>by simp
 |k+1,a=>by
  have e:a.toArray++b.toArray=(a++b).toArray:=by simp
  have d:(a++b)++(bd k b).flatten=a++(bd (k+1) b).flatten:=by
   rw[kz,ii,fu]
  rw[<-d,<-SE _ k _,<-e,kz,jh]
section
variable{X:Cx}{AA:zA}{σ:St}{H:Hp}{s:ν}{l b:Addr}{xs ys zs:tF}
def Inv.lset{c a:yC}{n:Nat}{f:Array Value->Array Value}{t':Nat}(I:Inv X AA σ H s)(d:H l=some (.lst xs))
  (e:s.heap.get? l=some { cls:=.type "list",data:=.seq c.toArray n }) (g:f c.toArray=a.toArray) (i:Vals ys a) (hz:ys.length<=sizeLine) :
  Inv X AA σ (upd H l<|.lst ys) { s with heap:=s.heap.update l<|l_ f,toks:=t' }:=by
 have q:=PySem.IsL.update e f;rw[g]at q;exact I.write   (by rw[d];exact trivial) (.inl rfl) (λr u j o=>(da _ _<|eh j).trans o) ⟨_,q⟩ ({hz,x2 _ _ ⟨i,q⟩})
def Inv.lnew(I:Inv X AA σ H s)(a:Vals ys c)(hz:ys.length<=sizeLine) :
  Inv X AA σ (upd H s.heap.objs.size<|.lst ys) { s with heap:=s.heap.push { cls:=.type "list",data:=.seq c.toArray },toks:=t' } :=
 I.laid (λz z q=>ξ _ q) (ο _) {hz,x2 _ 0 {a,ak _ rfl}}
def Inv.fresh(I:Inv X AA σ H s):H s.heap.objs.size=none:=I.hok.fresh<|ο _
def Inv.lstM(I:Inv X AA σ H s)(c:H l=some (.lst xs)):xs.length<=sizeLine/\∃ (a:yC) (n:Nat),Vals xs a/\xs.length=a.length/\s.heap.get? l=some { cls:=.type "list",data:=.seq a.toArray n }:=by
 let[z,a,n,r,e]:=I.hok l _ c;exact{z,x2 _ n ⟨r,r.length,e⟩}
def nK{n:Nat}(h:n<=sizeLine):ku n=false:=decide_eq_false<|Hu.mpr h
end
section
variable{X:Cx}
def nQ:V->tF->Hp->VK->Prop:=λx vs H Q=>∃ l xs y,x=.ref l/\vs=[y]/\H l=some (.lst xs)/\xs.length<sizeLine/\Q .non (upd H l<|.lst<|xs++[y])
def Yd:SD X "list.append" nQ:=by
 intro i s j H x vs v us Q I b c h;revert h;apply u3;intro l xs y [rfl,rfl,a,hz,q];subst b;let[u,rfl,d]:=c.one;let[z,o,n,r,g,e]:=I.lstM a;refine rg F.slot_list_append ⟨_,e,rfl⟩ F.entry_list_append (F.args_list_append_2 _ _) (PySem.list_append l _ n u<|oB (cf (ay g.symm) hz) rfl) {e,(x2 (.non) _ {I.lset  a e (by simp) (r.append<|.cons d .nil) ?_,rfl,q})};rw[ψ];exact hz
def VS:R2:=λx y H Q=>∃ l b xs a,x=.ref l/\y=.ref b/\H l=some (.lst xs)/\H b=some (.lst a)/\xs.length+a.length<=sizeLine/\∀ p,H p=none->Q (.ref p) (upd H p<|.lst<|xs++a)
def Yg:B8 X (iw .Add) VS:=by
 intro E s J H x y v u Q I d g h;revert h;apply u4;intro l b xs L [rfl,rfl,i,j,hz,q];subst d;let[z,a,n,r,o,e]:=I.lstM i;subst g;let[M,c,N,w,A,B]:=I.lstM j
 have D:a.toArray++c.toArray=(a++c).toArray:=by simp
 refine PySem.P.add_list e B ?_ (by rw[a_,a_];exact o ▸ A ▸ hz);rw[D];exact x2 (.ref _) _ {I.lnew  (r.append w) (by rw[ψ];exact hz),rfl,q _ I.fresh}
def VT:R2:=λx y H Q=>∃ l k xs,x=.ref l/\y=.int k/\H l=some (.lst xs)/\ -(2^63)<=k/\k<2^63/\xs.length*k.toNat<=sizeLine /\
 ∀ p,H p=none->Q (.ref p) (upd H p<|.lst (bd k.toNat xs).flatten)
def nR{α :Type}(xs:List α)(k:Nat):(bd k xs).flatten.length=k*xs.length:=by
 induction k with
 |zero=>simp
 |succ k a=>rw[kz,ii,ψ,a,sy,s_]
def Yh:B8 X (iw .Mult) VT:=by
 intro L s M H x y v u Q I j o h;revert h;apply u3;intro l k xs [rfl,rfl,w,h1,h2,hz,q];subst j;let[t,rfl]:=o;let[z,b,n,r,A,e]:=I.lstM w
 have B:b.toArray.size*k.toNat<=sizeLine:=by rw[a_,<-A];exact hz
 have d:¬ b.toArray.size*k.toNat >(2^63-1)/8:=by
  have:sizeLine<=(2^63-1)/8:=by decide
  lia
 have g:¬ (!Builtin.List.listFitsIndex k)=true:=by
  rw[fitsIndex_both h1 h2];exact ax
 have c:¬ ku (b.toArray.size*k.toNat)=true:=by
  rw[nK B];exact ax
 have i:Ar (λD x2=>D++x2) #[] (bd (if b.toArray.isEmpty=true then 0 else k.toNat) b.toArray)=(bd k.toNat b).flatten.toArray:=by
  have E:=λm=>by
   have:=SE b m [];rw[pz]at this;exact this
  rw[E];cases b with
  |nil=>simp
  |cons a N=>rw[if_neg (by simp)]
 refine wg   (by decide) ⟨_,e,rfl⟩ (λJ=>yd J k t) noFill_list_mul F.fills_int_mul F.slot_int_rmul repeat_list F.slot_int_index.lookup
  (rg F.slot_int_rmul (yd s k t) F.entry_int_rmul (F.args_int_rmul_2 _ _) (int___rmul___int_list k t l _ n)
   {e,rfl,⟨_,e,rfl⟩,rg F.slot_list_mul ⟨_,e,rfl⟩ F.entry_list_mul (F.args_list_mul_2 _ _) (AutoListH.list___mul___list_int_3 l _ n k t g d c) {e,?_}})
 rw[i];exact x2 (.ref _) _ {I.lnew  (r.rep _) (by rw[nR,cm];exact hz),rfl,q _ I.fresh}
end
section
variable{prog:bu}{w:World}{A:dh}{E:yB}{s:ν}
set_option maxRecDepth 100000 in
end
section
variable{X:Cx}
end
section
variable{κ :Type}[DecidableEq κ]
def A8(kvs:List (κ × V))(k: κ):Option V:=(kvs.find? λa=>decide<|a.1=k).map (·.2)
def BL(kvs:List (κ × V))(k: κ)(v:V):List (κ × V) :=
 if(kvs.any λa=>decide<|a.1=k)=true then kvs.map (λa=>if a.1=k then(a.1,v)else a)else kvs++[(k,v)]
def SF(kvs:List (κ × V))(k: κ):List (κ × V):=kvs.filter λa=>decide<|a.1≠k
def HZ{p: κ × V}{r:List (κ × V)}{k: κ}(e:p.1=k):A8 (p::r) k=some p.2:=by simp[A8,e]
def IA{p: κ × V}{r:List (κ × V)}{k: κ}(e:¬ p.1=k):A8 (p::r) k=A8 r k:=by simp[A8,e]
theorem MA(k: κ):∀ kvs:List (κ × V),(kvs.any λa=>decide<|a.1=k)=(A8 kvs k).isSome
 | []=>rfl
 |p::r=>by
  rw[mq];by_cases e:p.1=k;simp only[HZ e,decide_eq_true e,vb,Option.isSome_some];rw[IA e,decide_eq_false e];exact MA k r
theorem nS(k j: κ)(y:V):∀ kvs:List (κ × V),A8 (kvs.map λa=>if a.1=k then(a.1,y)else a) j=(A8 kvs j).map λx=>if j=k then y else x
 | []=>rfl
 |p::r=>by
  have b:=nS k j y r;rw[df];by_cases h:p.1=k;rw[if_pos h];by_cases e:p.1=j;rw[HZ (p:=(p.1,y)) e,HZ e,p_,if_pos<|e.symm.trans h];rw[IA (p:=(p.1,y)) e,IA e,b];rw[if_neg h];by_cases e:p.1=j;rw[HZ  e,HZ e,p_,if_neg<|λz=>h<|e.trans z];rw[IA  e,IA e,b]
theorem nT(k j: κ)(y:V):∀ kvs:List (κ × V),A8 kvs k=none->A8 (kvs++[(k,y)]) j=if j=k then some y else A8 kvs j
 | [],_=>by
  by_cases e:k=j;rw[if_pos e.symm];exact HZ  e;rw[if_neg (λz=>e z.symm)];exact IA  e
 |p::r,a=>by
  have b:¬ p.1=k:=λz=>by rw[HZ z]at a;cases a
  rw[om];rw[IA b]at a;by_cases e:p.1=j;rw[HZ e,HZ e,if_neg<|λz=>b<|e.trans z];rw[IA e,IA e,(nT k j y r a)]
def FT(kvs:List (κ × V))(k j: κ)(y:V):A8 (BL kvs k y) j=if j=k then some y else A8 kvs j:=by
 unfold BL;by_cases a:(kvs.any λb=>decide<|b.1=k)=true;rw[if_pos a,nS];rw[MA]at a;by_cases e:j=k;let[x,c]:=c_.mp a;rw[if_pos e,e,c,p_,if_pos rfl];rw[if_neg e];cases A8 _ j with
 |none=>rfl
 |some x=>rw[p_,if_neg e]
 rw[if_neg a];refine nT k j y _ ?_;rw[MA]at a;cases q:A8 _ k with
 |none=>rfl
 |some x=>rw[q]at a;exact(a rfl).elim
def GU(kvs:List (κ × V))(k: κ)(v:V):(BL kvs k v).length<=kvs.length+1:=by
 unfold BL;split;rw[η];exact ic _;rw[ψ,fj];exact d_ _
def VU{kvs:List (κ × V)}{k: κ}(v:V)(h:A8 kvs k=none):BL kvs k v=kvs++[(k,v)]:=by
 unfold BL;rw[MA,h];exact if_neg (by decide)
def RelO.isSome_eq(r:RelO o u):o.isSome=u.isSome:=by
 cases o with
 |none=>cases u with
  |none=>rfl
  |some _=>exact(r).elim
 |some _=>cases u with
  |none=>exact(r).elim
  |some _=>rfl
theorem RelO.getD(r:RelO o u)(a:RelV d b):RelV (o.getD d) (u.getD b):=by
 cases o with
 |none=>cases u with
  |none=>exact a
  |some _=>exact(r).elim
 |some _=>cases u with
  |none=>exact(r).elim
  |some _=>exact r
def KV.val{kvs:List (κ × V)}{vs:List (κ × Value)}(r:KV kvs vs)(k: κ):RelO (A8 kvs k) (Br vs k):=by
 induction r with
 |nil=>exact nj
 |@cons p q ps a h t c =>
  let[h1,h2]:=h;by_cases e:p.1=k
  have b:Br (q::a) k=some q.2:=by simp[Br,(h1.symm.trans e)]
  rw[HZ e,b];exact h2
  have d:¬ q.1=k:=λz=>e<|h1.trans z
  have b:Br (q::a) k=Br a k:=by simp[Br,d]
  rw[IA e,b];exact c
theorem KV.any{kvs:List (κ × V)}{vs:List (κ × Value)}(r:KV kvs vs)(k: κ):(kvs.any λa=>decide<|a.1=k)=vs.any λa=>decide (a.1=k):=by
 induction r with
 |nil=>rfl
 |cons h t b=>rw[mq,mq,b,h.1]
def KV.repl(r:KV kvs vs)(k: κ)(b:RelV y u) :
  KV (kvs.map λa=>if a.1=k then(a.1,y)else a) (vs.map λa=>if a.1=k then(a.1,u)else a):=by
 induction r with
 |nil=>exact .nil
 |@cons p q ps d h t c =>
  rw[df,df];refine .cons ?_ c;let[h1,h2]:=h;by_cases e:p.1=k;rw[if_pos e,if_pos<|h1.symm.trans e];exact⟨h1,b⟩;rw[if_neg e,if_neg<|λz=>e<|h1.trans z];exact⟨h1,h2⟩
def KV.put(r:KV kvs vs)(k: κ)(a:RelV y u):KV (BL kvs k y) (stored vs k u):=by
 unfold BL stored;rw[r.any k];by_cases e:(vs.any λb=>decide<|b.1=k)=true;rw[if_pos e,if_pos e];exact r.repl k a;rw[if_neg e,if_neg e];exact Paired.snoc r ⟨rfl,a⟩
def KV.drop(r:KV kvs vs)(k: κ):KV (SF kvs k) (without vs k):=by
 unfold SF without
 induction r with
 |nil=>exact .nil
 |@cons p q ps c h t a =>
  let[h1,h2]:=h;rw[Ei,Ei];by_cases e:p.1=k;rw[if_neg (by simp[e]),if_neg (by simp[h1.symm.trans e])];exact a
  have b:¬ q.1=k:=λz=>e<|h1.trans z;rw[if_pos (by simp[e]),if_pos (by simp[b])];exact .cons ⟨h1,h2⟩ a
def KV.length{kvs:List (κ × V)}{vs:List (κ × Value)}(r:KV kvs vs):kvs.length=vs.length:=Paired.length r
end
def MB(r:RelV (kV k) u):(D0 P w).is k u=true:=by
 cases k with
 |inl i=>let[t,rfl]:=(r);exact Qq P w i t
 |inr x=>let[t,rfl]:=(r);exact Qv P w x t
theorem nU:∀ {a:List AN} {us:yC},Vals (a.map kV) us->ItemsAre (D0 P w) a us
 | [],_,r=>by cases r;exact .nil
 |k::a,_,r=>by
  cases r with
  |cons h t=>exact .cons (MB h) (nU t)
abbrev KT(H:Hp):xA->vA->Prop:=Paired λp q=>p.1=q.1/\H q.2.1=some (.tup<|p.1.map kV)/\RelV p.2 q.2.2
def KT.val{H:Hp}{kvs:xA}{xs:vA}(r:KT H kvs xs)(k:List AN):RelO (A8 kvs k) ((atKey xs k).map (·.2)):=by
 induction r with
 |nil=>exact nj
 |@cons p q ps a h t c =>
  let[h1,y,h2]:=h;by_cases e:p.1=k
  have b:atKey (q::a) k=some q.2:=by simp[atKey,(h1.symm.trans e)]
  rw[HZ e,b];exact h2
  have d:¬ q.1=k:=λz=>e<|h1.trans z
  have b:atKey (q::a) k=atKey a k:=by simp[atKey,d]
  rw[IA e,b];exact c
def KT.repl(r:KT H kvs xs)(k:List AN)(b:RelV y u) :
  KT H (kvs.map λa=>if a.1=k then(a.1,y)else a) (xs.map<|putAt k u):=by
 induction r with
 |nil=>exact .nil
 |@cons p q ps d h t c =>
  rw[df];let[h1,h2,h3]:=h;refine .cons ?_ c;unfold putAt;by_cases e:p.1=k;rw[if_pos e,if_pos<|h1.symm.trans e];exact⟨h1,h2,b⟩;rw[if_neg e,if_neg<|λz=>e<|h1.trans z];exact⟨h1,h2,h3⟩
def KT.put(r:KT H kvs xs)(k:List AN)(c:H b=some (.tup<|k.map kV))(a:RelV y u) :
  KT H (BL kvs k y) (wv xs k b u):=by
 have e:(kvs.any λd=>decide<|d.1=k)=(atKey xs k).isSome:=by
  rw[MA,(r.val k).isSome_eq,ww]
 unfold BL wv;rw[e];by_cases q:(atKey xs k).isSome=true;rw[if_pos q,if_pos q];exact r.repl k a;rw[if_neg q,if_neg q];exact Paired.snoc r ⟨rfl,c,a⟩
def KT.keeps(r:KT H kvs xs)(a:∀ b ys,H b=some (.tup ys)->c b=some (.tup ys)):KT c kvs xs :=
 Paired.mapP r λy y z=>{z.1,a _ _ z.2.1,z.2.2}
section
variable{P:bu}{w:World}{H:Hp}{h:Heap}{a:Addr}
def nX(ok:HOk P w H h)(e:Rd H a u):ObjOk P w H h a u:=e.ok ok
def JX(ok:HOk P w H h)(e:Rd H a (.dK kvs)):kvs.length<=sizeLine/\(a==ix)=false/\∃ vs,KV kvs vs/\h.DictOf (D0 P w) a vs :=
 nX ok e
def Yj(ok:HOk P w H h)(e:H a=some (.dK kvs)):kvs.length<=sizeLine/\(a==ix)=false/\∃ vs,KV kvs vs/\h.DictOf (D0 P w) a vs:=JX ok<|.inl e
def KW(ok:HOk P w H h)(e:H a=some (.tup<|b.map kV)):(jf<|D0 P w).is h b a:=by
 let[z,c,r,o,h1,h2,n,h3]:=(ok a _ e)
 exact x3 o _ n {h1,h2,h3,nU r}
def KY(ok:HOk P w H h)(e:Rd H a (.dT kvs)):kvs.length<=sizeLine/\(a == ix)=false /\
  ∃ xs,KT H kvs xs/\h.DictOfH (jf<|D0 P w) a xs:=by
 let[z,y,xs,r,o,d,g,h1,h2,h3,h4,h5]:=(nX ok e)
 refine{z,y,xs,r,x3 o d g {h1,h2,h3,h4,λx b=>?_,h5}}
 have all:∀ {l:List _} {m:List _},KT H l m->∀ x∈m,(jf<|D0 P w).is h x.1 x.2.1:=by
  intro l m q
  induction q with
  |nil=>intro x b;exact nomatch b
  |@cons p q ps j c t i =>
   intro x b;let e||b:=af.mp b
   subst e;exact KW ok (by rw[<-c.1];exact c.2.1);exact i x b
 exact all r x b
def MC(ok:HOk P w H h)(e:H a=some (.dT kvs)):kvs.length<=sizeLine/\(a==ix)=false /\
  ∃ xs,KT H kvs xs/\h.DictOfH (jf<|D0 P w) a xs:=KY ok<|.inl e
end
def DGet(H:Hp)(a:Addr)(y:V)(r:Option V):Prop :=
 (∃ kvs k,Rd H a (.dK kvs)/\y=kV k/\r=A8 kvs k)\/∃ kvs k b,Rd H a (.dT kvs)/\y=.ref b/\H b=some (.tup<|k.map kV)/\r=A8 kvs k
def DPut(H:Hp)(a:Addr)(y v:V)(c:Hp):Prop :=
 (∃ kvs k,H a=some (.dK kvs)/\y=kV k/\kvs.length<sizeLine/\c=upd H a (.dK<|BL kvs k v)) ∨
 ∃ kvs k b,H a=some (.dT kvs)/\y=.ref b/\H b=some (.tup<|k.map kV)/\kvs.length<sizeLine/\c=upd H a (.dT<|BL kvs k v)
def DGet.k{H:Hp}{a:Addr}{kvs:vC}{k:AN}(e:H a=some (.dK kvs)):DGet H a (kV k) (A8 kvs k):=.inl<|x2 _ k {.inl e,rfl,rfl}
def DGet.t{H:Hp}{a b:Addr}{kvs:xA}{k:List AN}(e:H a=some (.dT kvs))(c:H b=some (.tup<|k.map kV)):DGet H a (.ref b) (A8 kvs k):=.inr<|x3 _ k b {.inl e,rfl,c,rfl}
def DPut.k{H:Hp}{a:Addr}{kvs:vC}{k:AN}{v:V}(e:H a=some (.dK kvs))(b:kvs.length<sizeLine):DPut H a (kV k) v (upd H a<|.dK<|BL kvs k v):=.inl<|x2 _ k ⟨e,rfl,b,rfl⟩
def DPut.t{H:Hp}{a b:Addr}{kvs:xA}{k:List AN}{v:V}(e:H a=some (.dT kvs))(c:H b=some (.tup<|k.map kV))(d:kvs.length<sizeLine) :
  DPut H a (.ref b) v (upd H a<|.dT<|BL kvs k v):=.inr<|x3 _ k b ⟨e,rfl,c,d,rfl⟩
section
variable{X:Cx}{AA:zA}{σ:St}{H:Hp}{s:ν}{a:Addr}{y v:V}{u r:Value}{o:Option V}{A:dh}{E:yB}
def Inv.big(I:Inv X AA σ H s):ix<s.heap.objs.size:=ye (by decide) ((I.mod.glob.keeps I.bk).lt)
def Yk(w:A.units+1<cLine)(I:Inv X AA σ H s)(g:DGet H a y (some v))(n:RelV y u)(h:∀ d q,Inv X AA σ H q->RelV v d->Q d q) :
  wpAny (model X.prog X.w) A (yb (.ref a) u) Q E s:=by
 let[kvs,k,e,i,l]||[kvs,k,b,e,i,x,l]:=g
 let[z,hd,vs,rel,dd]:=JX I.hok e;let[d,j,c]:=RelO.some_of   (by rw[l];exact rel.val k);subst i;exact wpAny_getItem_of (MB n) dd.mapOf j (h d _ (I.tok _) c);subst i;let[z,hd,xs,rel,dd]:=KY I.hok e;let[d,j,c]:=RelO.some_of   (by rw[l];exact rel.val k);cases (n);let[p,B,D]:=bc.mp j;refine wpAny_getItem_heap (gy w) (KW I.hok x) dd B ?_;rw[D];exact h d _ (I.tok _) c
def Yl(j:A.units+1<cLine)(I:Inv X AA σ H s)(g:DGet H a y o)(d:RelV y u)(h:∀ i,Inv X AA σ H i->Q (.bool o.isSome) i) :
  wpAny (model X.prog X.w) A (du .In u<|.ref a) Q E s:=by
 let[kvs,k,e,c,l]||[kvs,k,b,e,c,n,l]:=g
 subst c;let[z,hd,vs,rel,dd]:=JX I.hok e;refine wpAny_in_of (MB d) hd dd.mapOf ?_;rw[<-(rel.val k).isSome_eq,<-l];exact h _<|I.tok _;subst c;let[z,hd,xs,rel,dd]:=KY I.hok e;cases (d)
 have q:=(rel.val k).isSome_eq;refine wpAny_in_heap (gy j) (KW I.hok n) hd dd ?_;rw[ww]at q;rw[<-q,<-l];exact h _<|I.tok _
def Ym(j:A.units+1<cLine)(I:Inv X AA σ H s)(g:DGet H a y o)(d:RelV y u)(h:∀ i,Inv X AA σ H i->Q (.bool<|!o.isSome) i) :
  wpAny (model X.prog X.w) A (du .NotIn u<|.ref a) Q E s:=by
 let[kvs,k,e,c,l]||[kvs,k,b,e,c,n,l]:=g
 subst c;let[z,hd,vs,rel,dd]:=JX I.hok e;refine wpAny_notIn_of (MB d) hd dd.mapOf ?_;rw[<-(rel.val k).isSome_eq,<-l];exact h _<|I.tok _;subst c;let[z,hd,xs,rel,dd]:=KY I.hok e;cases (d)
 have q:=(rel.val k).isSome_eq;refine wpAny_notIn_heap (gy j) (KW I.hok n) hd dd ?_;rw[ww]at q;rw[<-q,<-l];exact h _<|I.tok _
def O9(I:Inv X AA σ H s)(c:OU (H a))(d:gr a s.heap h')(he:∃ q,h'.get? a=some q)(new:ObjOk X.prog X.w (upd H a ob) h' a ob) :
  Inv X AA σ (upd H a ob) { s with heap:=h',toks:=t' } :=
 I.write   c (.inl rfl) (λb q e z=>(d.2 b e).trans z) he new
def nY(z:kvs.length<=sizeLine)(hd:(a==ix)=false)(rel:KV kvs vs)(dd:h'.DictOf (D0 P w) a vs) :
  ObjOk P w b h' a (.dK kvs):=⟨z,hd,vs,rel,dd⟩
def Yp(M:A.units+1<cLine)(I:Inv X AA σ H s)(g:DPut H a y v N)(x:RelV y u)(B:RelV v r)(h:∀ D,Inv X AA σ N D->Q () D) :
  wpAny (model X.prog X.w) A (Ka (.ref a) u r) Q E s:=by
 let[kvs,k,e,j,l,n]||[kvs,k,b,e,j,J,l,n]:=g
 let[z,hd,vs,rel,dd]:=Yj I.hok e;subst j n;exact wpAny_setItem_pairs (hsz:=(by rw[<-rel.length];exact z)) (MB x) dd λh' d w=>h _ (O9 I (by rw[e];exact nj) w (let ⟨q,_,_,i,_⟩:=d;⟨q,i⟩) (nY (υ (GU _ k v) l) hd (rel.put k B) d));subst j n;let[z,hd,xs,rel,dd]:=MC I.hok e;cases (x);refine wpAny_setItem_heap (hsz:=(by rw[<-Paired.length rel];exact z)) (gy M) (KW I.hok J) dd λh' d w=>h _ ?_;revert d;apply u3;intro q O T [i,h2,h3,h4,_,h5];refine O9 I (by rw[e];exact nj) w ⟨q,i⟩ {(υ (GU _ k v) l),hd,_,(rel.put k J B).keeps λc ys L=>?_,x3 q O T ⟨i,h2,h3,h4,h5⟩};rw[AK (AZ L e (λz=>nomatch z))];exact L
end
section
variable{X:Cx}{AA:zA}{σ:St}{H:Hp}{s:ν}{a:Addr}{kvs:vC}{k:AN}{u:Value}{A:dh}{E:yB}
end
def n0(i:Expr):Prop:=∀ a iv,zf i false a iv=operate [a,iv] (yb a iv)
def Yq{prog:bu}{w:World}{A:dh}{E:yB}{s:ν}{env:Env}{value slice:Expr}{pos:Pos}{T id:String}{Q:yB}
  (j:Ii (.type T) "__getitem__"=pure (some<|.builtin id)) (l:n0 slice)
  (h:wpAny (model prog w) A (eval value env) (λo c=>wpAny (model prog w) A (eval slice env) (λi a=>a.TypeIs o T/\wpAny (model prog w) A (yb o i) Q E a) E c) E s) :
  wpAny (model prog w) A (eval (.Subscript value slice pos) env) Q E s:=by
 refine Ij<|ni h (λo c e=>ni e (λi a b=>?_) λz z x=>x) λz z x=>x;let[n,b]:=b
 have fin:wpAny (model prog w) A (zf slice false o i) (λr d=>wpAny (model prog w) A (letTemporaryGo value o r>>=λz=>pure r) Q E d) E a:=by
  rw[l o i];exact wpAny_operating<|ni b (λr d g=>δ<|wpAny_letTemporaryGo<|π g) λz z x=>x
 refine δ<|δ<|qt n j ?_
 first
  |exact π<|δ fin
  |exact δ _
  |exact δ _
def Yv(I:Inv X c d H s)(g:DGet H a y o):s.TypeIs (.ref a) "dict":=by
 let[kvs,k,e,_,_]||[kvs,k,b,e,_,_,_]:=g
 let[z,z,vs,z,dd]:=JX I.hok e;exact dd.typeIs;let[z,z,xs,z,dd]:=KY I.hok e;exact dd.typeIs
def PD(d ty:TE):TE:=λb H Q=>d b H λx e=>ty b e λy c=>∃ a v,x=.ref a/\DGet c a y (some v)/\Q v c
def PJ(ty d:TE):TE:=λb H Q=>ty b H λy e=>d b e λx c=>∃ a o,x=.ref a/\DGet c a y o/\Q (.bl o.isSome) c
def PK(ty d:TE):TE:=λb H Q=>ty b H λy e=>d b e λx c=>∃ a o,x=.ref a/\DGet c a y o/\Q (.bl<|!o.isSome) c
def PL(d ty e:TE):TS:=λD b H=>e b H λv g=>d b g λx i=>ty b i λy j=>∃ a c,x=.ref a/\DPut j a y v c/\D.nx b c
section
variable{X:Cx}{o i e value:Expr}{pos pos' tpos:Pos}{td ty tv:TE}
def Yw(l:X.A.units+1<cLine)(n:PE X o td)(q:PE X i ty)(r:n0 i):PE X (.Subscript o i pos) (PD td ty):=by
 refine λM s d H Q I h=>Yq PySem.F.slot_dict_getitem.lookup r<|AU (n _ s d H _ I h) λu w ⟨x,z,B,D,q1⟩=>AU (q _ w d z _ B q1) λiv N b=>?_;let[y,E,j,J,a,v,rfl,g,q2]:=b;obtain rfl:u=e_ a:=D;exact{Yv j g,Yk l j g J λO T L c=>x2 v E ⟨L,c,q2⟩}
def Yx(d:X.A.units+1<cLine)(j:PE X i ty)(l:PE X o td):PC X .In i o (PJ ty td):=by
 refine λE s c H Q I h=>AU (j _ s c H _ I h) λiv n ⟨y,q,r,v,q1⟩=>AU (l _ n c q _ r q1) λu J b=>?_;let[x,w,z,B,a,L,rfl,g,q2]:=b;obtain rfl:u=e_ a:=B;exact Yl d z g v λM D=>x2 (.bl _) w ⟨D,rfl,q2⟩
def Yy(d:X.A.units+1<cLine)(j:PE X i ty)(l:PE X o td):PC X .NotIn i o (PK ty td):=by
 refine λE s c H Q I h=>AU (j _ s c H _ I h) λiv n ⟨y,q,r,v,q1⟩=>AU (l _ n c q _ r q1) λu J b=>?_;let[x,w,z,B,a,L,rfl,g,q2]:=b;obtain rfl:u=e_ a:=B;exact Ym d z g v λM D=>x2 (.bl _) w ⟨D,rfl,q2⟩
def Yz(d:X.A.units+1<cLine)(j:PE X o td)(l:PE X i ty)(n:PE X value tv)(q:ve value (some<|.Subscript o i pos') pos.line X.env=pure false) :
  PS X (.Assign [.Subscript o i pos'] value pos) (PL td ty tv):=by
 refine λY s b H D I h=>wpAny_Assign_Subscript (AU (n _ s b H _ I h) λr w ⟨v,z,B,E,q1⟩=>AU (j _ w b z _ B q1) λu J ⟨x,L,M,N,q2⟩=>AU (l _ J b L _ M q2) λiv s3 c=>?_) q;let[y,H3,O,Q,a,T,rfl,g,q3]:=c;obtain rfl:u=e_ a:=N;exact Yp d O g Q E λs4 U=>x2 b T ⟨U,q3⟩
end
def Zb(h:Heap)(a:ix<h.objs.size):ObjOk P w H (h.push { cls:=.type "dict",data:=.dict #[] }) h.objs.size (.dK []) :=
 {aw _,beq_eq_false_iff_ne.mpr<|eh<|bm a,[],.nil,Heap.DictOf.new h}
def VW(h:Heap)(a:ix<h.objs.size):ObjOk P w H (h.push { cls:=.type "dict",data:=.dict #[] }) h.objs.size (.dT []) :=
 {aw _,beq_eq_false_iff_ne.mpr<|eh<|bm a,[],.nil,_,_,0,ak _ rfl,⟨rfl,rfl,rfl⟩,rfl,rfl,lb}
def JY:TE:=λ_ H Q=>∀ p,H p=none->Q (.ref p) (upd H p<|.dK [])
def IX:TE:=λ_ H Q=>∀ p,H p=none->Q (.ref p) (upd H p<|.dT [])
section
variable{X:Cx}{pos:Pos}
def Zc:PE X (.Dict [] [] pos) JY:=λa s b H Q I h =>
 En (x2 (.ref _) _ {I.laid    (λz z q=>ξ _ q) (ο _) (Zb _ I.big),rfl,h _<|I.hok.fresh<|ο _})
def Zd:PE X (.Dict [] [] pos) IX:=λa s b H Q I h =>
 En (x2 (.ref _) _ {I.laid    (λz z q=>ξ _ q) (ο _) (VW _ I.big),rfl,h _<|I.hok.fresh<|ο _})
end
def MD:List (TE × TE)->St->Hp->(List (V × V)->Hp->Prop)->Prop
 | [],_,H,Q=>Q [] H
 |(tk,b)::r,a,H,Q=>tk a H λx c=>b a c λy d=>MD r a d λps e=>Q ((x,y)::ps) e
abbrev VV:List (V × V)->List (Value × Value)->Prop:=Paired λp q=>RelV p.1 q.1/\RelV p.2 q.2
def SG(X:Cx)(pos:Pos)(keys:List (Option Expr))(values:wD)(a:List (TE × TE)):Prop :=
 ∀ (c:zA) (s:ν) (b:St) (H:Hp) (Q:List (V × V)->Hp->Prop),Inv X c b H s->MD a b H Q ->
  wpAny (model X.prog X.w) X.A (evalPairs<|pairTrees keys values X.env pos) (λvs e=>∃ ps d,Inv X c b d e/\VV ps vs/\Q ps d) X.xe s
def Zg:SG X pos [] [] []:=λa s b H Q I h=>pairTrees_nil_walk<|x2 [] H {I,.nil,h}
def Zh(c:PE X k tk)(d:PE X v e)(g:SG X pos i vs a) :
  SG X pos (some k::i) (v::vs) ((tk,e)::a):=λD s b H Q I h =>
 pairTrees_cons_walk (AU (c _ s b H _ I h) (by intro u j [x,l,n,o,q1];exact AU (d _ j b l _ n q1) (by intro E q [y,r,w,z,q2];exact AU (g _ q b r _ w q2) (by intro J L [ps,A,B,rel,q3];exact x2 _ A {B,.cons ⟨o,z⟩ rel,q3}))))
structure M1(X:Cx)(o:Expr)(m:Str)(C0:Pos)(e:Expr)(DS:Pos):Prop where
 base:uj o m X.env (eval o X.env)=eval o X.env
 few:((jd DS<|av [e] X.env).all (λx=> !x.1)&&(uo DS<|lu [] X.env).all (λx=>x.1.isSome)
  && decide (([e]:wD).length+([]:List zt).length+(if([]:List zt).isEmpty then 0 else 1)<30))=true
 line:(C0.endLine==DS.line)=true
 trees:jd DS (av [e] X.env)=[(false,eval e X.env)]
structure M2(X:Cx)(o:Expr)(m:Str)(C0:Pos)(e f:Expr)(DS:Pos):Prop where
 base:uj o m X.env (eval o X.env)=eval o X.env
 few:((jd DS<|av [e,f] X.env).all (λx=> !x.1)&&(uo DS<|lu [] X.env).all (λx=>x.1.isSome)
  && decide (([e,f]:wD).length+([]:List zt).length+(if([]:List zt).isEmpty then 0 else 1)<30))=true
 line:(C0.endLine==DS.line)=true
 trees:jd DS (av [e,f] X.env)=[(false,eval e X.env),(false,eval f X.env)]
def KZ(H:Hp)(a:Addr):Prop:=(∃ kvs,Rd H a<|.dK kvs)\/∃ kvs,Rd H a<|.dT kvs
def oF(I:Inv X c g H s)(d:KZ H a) :
  s.TypeIs (.ref a) "dict"/\(∀ b,e_ a=.ref b->∃ ob,s.heap.get? b=some ob/\ob.dict=none)/\(a==ix)=false:=by
 let[kvs,e]||[kvs,e]:=d
 let[z,hd,vs,z,dd]:=JX I.hok e;refine{dd.typeIs,λb q=>?_,hd};cases q;revert dd;apply u3;intro ob z z [h1,h2,z];exact⟨ob,h1,h2.2.1⟩;let[z,hd,xs,z,dd]:=KY I.hok e;refine{dd.typeIs,λb q=>?_,hd};cases q;revert dd;apply u3;intro ob z z [h1,h2,z];exact⟨ob,h1,h2.2.1⟩
section
variable{X:Cx}{AA:zA}{σ:St}{H:Hp}{s:ν}{a:Addr}{y d:V}{u r:Value}{o:Option V}{A:dh}{E:yB}
def Zj(q:A.units+1<cLine)(I:Inv X AA σ H s)(g:DGet H a y o)(i:RelV y u)(h:∀ j n,Inv X AA σ H n->RelV (o.getD .non) j->Q j n) :
  wpAny (model X.prog X.w) A (call (.builtin "dict.get") [.ref a,u]) Q E s:=by
 let[kvs,k,e,c,l]||[kvs,k,b,e,c,v,l]:=g
 subst c;let[z,hd,vs,rel,dd]:=JX I.hok e;refine vc PySem.F.slot_dict_get dd.typeIs PySem.F.entry_dict_get (PySem.F.args_dict_get_2 _ _) (meets_dict_get _ a (MB i) hd) {_,dd.mapOf,h _ _ (I.tok _) ?_};rw[l];exact(rel.val k).getD rfl;subst c;let[z,hd,xs,rel,dd]:=KY I.hok e;cases (i);refine vc PySem.F.slot_dict_get dd.typeIs PySem.F.entry_dict_get (PySem.F.args_dict_get_2 _ _) (meetsH_dict_get _ a b hd) {gy q,x2 k xs {KW I.hok v,dd,h _ _ (I.tok _) ?_}};rw[l];exact(rel.val k).getD rfl
def Zk(v:A.units+1<cLine)(I:Inv X AA σ H s)(g:DGet H a y o)(i:RelV y u)(j:RelV d r)(h:∀ n q,Inv X AA σ H q->RelV (o.getD d) n->Q n q) :
  wpAny (model X.prog X.w) A (call (.builtin "dict.get") [.ref a,u,r]) Q E s:=by
 let[kvs,k,e,c,l]||[kvs,k,b,e,c,w,l]:=g
 subst c;let[z,hd,vs,rel,dd]:=JX I.hok e;refine vc PySem.F.slot_dict_get dd.typeIs PySem.F.entry_dict_get (PySem.F.args_dict_get_3 _ _ _) (meets_dict_get_default _ a (MB i) hd r) {_,dd.mapOf,h _ _ (I.tok _) ?_};rw[l];exact(rel.val k).getD j;subst c;let[z,hd,xs,rel,dd]:=KY I.hok e;cases (i);refine vc PySem.F.slot_dict_get dd.typeIs PySem.F.entry_dict_get (PySem.F.args_dict_get_3 _ _ _) (meetsH_dict_get_default _ a b hd r) {gy v,x2 k xs {KW I.hok w,dd,h _ _ (I.tok _) ?_}};rw[l];exact(rel.val k).getD j
end
def SH(e ty:TE):TE:=λb H Q=>e b H λx c=>∃ a,x=.ref a/\KZ c a/\ty b c λy d=>∃ o,DGet d a y o/\Q (o.getD .non) d
def VX(e ty tx:TE):TE:=λb H Q=>e b H λx c=>∃ a,x=.ref a/\KZ c a/\ty b c λy g=>tx b g λz d=>∃ o,DGet d a y o/\Q (o.getD z) d
def Zl(e ty tx:TE):TE:=λb H Q=>e b H λx d=>∃ a,x=.ref a/\KZ d a/\ty b d λy g=>tx b g λz c=>∃ kvs k,c a=some (.dK kvs)/\y=kV k /\
 (∀ v,A8 kvs k=some v->Q v (upd c a<|.dK<|SF kvs k))/\(A8 kvs k=none->Q z c)
section
variable{X:Cx}{o e f:Expr}{C0 DS:Pos}{td ty tx:TE}
def Zm(l:X.A.units+1<cLine)(n:PE X o td)(he:PE X e ty)(m:M1 X o "get" C0 e DS):PE X (.Call (.Attribute o "get" C0) [e] [] DS) (SH td ty):=by
 refine λM s i H Q I h=>Bs m.base m.few m.line PySem.F.plainAttrs_dict PySem.F.slot_dict_get PySem.F.type_dict_get<|AU (n _ s i H _ I h) λu q b=>?_;let[x,r,j,v,a,rfl,d,q1]:=b;obtain rfl:u=e_ a:=v;let[w,B,z]:=oF j d;refine{w,B,?_};rw[m.trees];exact sx rfl (nr (qz (AU (he _ q i r _ j q1) (by intro iv N [y,D,E,J,O,g,q2];exact wt<|Zj l E g J λT U L c=>x2 _ D ⟨L,c,q2⟩))))
def Zp(l:X.A.units+1<cLine)(n:PE X o td)(he:PE X e ty)(q:PE X f tx)(m:M2 X o "get" C0 e f DS):PE X (.Call (.Attribute o "get" C0) [e,f] [] DS) (VX td ty tx):=by
 refine λAA s b H Q I h=>Bs m.base m.few m.line PySem.F.plainAttrs_dict PySem.F.slot_dict_get PySem.F.type_dict_get<|AU (n _ s b H _ I h) λu r c=>?_;let[x,w,j,B,a,rfl,d,q1]:=c;obtain rfl:u=e_ a:=B;let[D,E,v]:=oF j d;refine{D,E,?_};rw[m.trees];exact sx rfl (nr (qz (AU (he _ r b w _ j q1) (by intro iv J [y,L,M,N,q2];exact qz (AU (q _ J b L _ M q2) (by intro fv s3 [z,O,T,U,ov,g,q3];exact wt<|Zk l T g N U λw' s4 Y i=>x2 _ O ⟨Y,i,q3⟩))))))
end
section
variable{X:Cx}{AA:zA}{σ:St}{H:Hp}{s:ν}{a:Addr}{kvs:vC}{A:dh}{E:yB}
def Zq(I:Inv X AA σ H s)(e:Rd H a (.dK kvs))(h:∀ p d,H p=none->Inv X AA σ (upd H p<|.dK kvs) d->Q (.ref p) d):wpAny (model X.prog X.w) A (call (.type "dict") [.ref a]) Q E s:=by
 let[z,hd,vs,rel,dd]:=JX I.hok e;exact kt_call_dict hd dd (by rw[<-rel.length];exact z) λh' c i=>(h _ _ (I.hok.fresh<|ο _) (I.laid    (λb q g=>((i.2 b<|bm<|aj g).trans (ξ _ g))) (ο _) (nY z (beq_eq_false_iff_ne.mpr<|eh<|bm I.big) rel c)))
end
section
variable{X:Cx}{AA:zA}{σ:St}{H:Hp}{s:ν}{a:Addr}{y:V}{u:Value}{A:dh}{E:yB}
end
end L2
namespace Att
open PySem PySem.W PySem.Calls PyProof.Rows
abbrev _root_.vE:=List Int
def Zv:∀ (ns:vE) (vs:yC),WellAll P h vs (ns.map WData.int)->qu vs ns:=by
 intro ns
 induction ns with
 |nil =>
  intro vs w;cases w;exact .nil
 |cons n ns c =>
  intro vs w;cases w with
  |cons a b =>
   cases a;exact .cons _ _<|c _ b
def Zw{l:OpenLaw}(i:l.most=some n){h:Heap}
  (b:l.row.toRowW.claim.pre args=true) (g:WellAll P h c args) :
  ∃ a vs ns,c=[e_ a]/\args=[WData.list (ns.map WData.int)]/\h.get? a=some { cls:=.type "list",data:=.seq vs.toArray }/\qu vs ns/\ns.length<=n:=by
 have j:l.pre.holds [] _=true:=(pre_splitW b).2;let[d,r,rfl,h1,h2]:=hasAllW_cons<|(pre_splitW b).1;obtain rfl:=hasAllW_nil h2;let[xs,rfl,h3]:=hasW_list h1;let[ns,rfl]:=items_int h3
 have o:ns.length<=n:=by
  have h4:(WTm.not<|.lt (.lit<|.int n) (.len<|.arg 0)).holds [] { args:=[.list (ns.map .int)] }=true:=by
   have h4:=(holds_andW j).1;rw[i]at h4;exact h4
  have h5:=condW_of h4<|w_not<|w_lt w_lit<|w_len_list<|w_arg rfl
  first
   |(exact absurd h5 (by decide))
   |(simp at h5;omega)
 cases g with
 |cons q s =>
  cases s;cases q with
  |list u e=>exact{_,_,ns,rfl,rfl,u,Zv ns _ e,o}
def Zx(l:OpenLaw)(args:List WData):l.row.toRowW.claim.post args (.bool true) args=true :=
 postW_of
  (show WShape.has [] _ _=true by first|rfl|decide|simp[WShape.armsAll])
  (w_eq_bool (w_res rfl) w_lit) rfl
def attach_call{l:OpenLaw}{A:(Str->Option Value)->Heap->Prop}{B:World->Heap->Prop}{d:DefRec}
  (I:l.most=some n) (v:d.params.defaults=[])
  (call:∀ (w:World) (s₀ b:ν) (mg x:vB) (e:Addr) (o:Obj) (pm s g:Value) (a:Addr) (vs:yC) (ns:vE),
   Ground q loose [] A w s₀ mg x b.heap->B w b.heap ->
   b.heap.get? e=some o->o.data=.func (docDef d.name d.params d.body d.scope pm s g)->b.heap.CodeRec s d.name->mg d.name=some (.ref e) ->
   b.heap.get? a=some { cls:=.type "list",data:=.seq vs.toArray }->qu vs ns->ns.length<=n->b.gens= #[] →
   ui (model l.prog w) Hr (.call (.ref e) {[.ref a],[]}) (λr u=>r=.ok (.ret<|.bool true)/\OldK b.heap u.heap/\u.os=b.os/\sr u.gens) b) :
  WalkO q loose A B l.row.toRowW d [] (λf vs=>PySem.call f vs):=by
 intro w s₀ b mg x G Y e o pm s g J kV L hd GT D y M args E as i H N z O;obtain rfl:J=.none:=Dflts.none D v;obtain rfl:kV=.none:=Dflts.noKw D;let[a,vs,ns,rfl,rfl,j,c,Q]:=Zw I i z;refine enter_call<|l8 (call w _ _ mg x e o pm s _ a vs ns G Y L (fd_plain hd) GT y j c Q M) λr u T=>?_;let[rfl,h2,h3,h4]:=T;exact{.inl {_,_,[],rfl,λ_=>rfl,.bool _,Zx l _,λ_=>{Bt,λ_ U=>(nomatch U)}},h2,h3,h4}
section
variable{prog:bu}{w:World}{A:dh}{E:yB}{s:ν}{K:Frag}
end
end Att
namespace L2
def oI:∀ {vs:yC} {ns:vE},qu vs ns->Vals (ns.map V.int) vs:=λh=>by
 induction h with
 |nil=>exact .nil
 |cons n t h a=>exact .cons ⟨t,rfl⟩ a
def VY(H:Hp):Prop:=∀ b,H b=none\/∃ o xs,H b=some (.frz o<|.lst xs)
def Zy{K:W.Frag}{mg M:vB}{sp:Sp}{c:ν}{vs:yC}{ns:vE}
  (KX:K.In c.heap) (A:c.heap.Ns bw mg) (g:c.heap.Ns Ic M) (N:∀ x:Str,x≠"__name__"->M x=sq x) (B:c.heap.NoLimit) (hg:c.gens= #[])
  (I:c.heap.get? a=some { cls:=.type "list",data:=.seq vs.toArray }) (hi:qu vs ns) (hl:ns.length<=sizeLine) (hr:Room k Hr)
  (F:∀ base:Heap,K.In base->base.Ns bw mg->FnOk P w K mg base CX k fa fd [x] sp) (l:∀ (s:ν) (u:Value),wu s fd {[u],[]} [(x,u)])
  (O:∀ H:Hp,VY H->SqL K H a (ns.map V.int)->sp [.ref a] H (λv y=>v=.bl true) λy y y=>False)
  (Q:∀ H e i,CX [] H c (λy y y=>False) e i->False) :
  ui (model P w) Hr (.call (.ref fa) {[.ref a],[]}) (λr i=>r=.ok (.ret<|.bool true)/\OldK c.heap i.heap/\i.os=c.os/\sr i.gens) c:=by
 have core:∀ H:Hp,VY H->SqL K H a (ns.map V.int)->HOk P w H c.heap->(∀ b,H b≠none->b=a)->(H a≠none->K.lookup a=none) ->
   ui (model P w) Hr (.call (.ref fa) {[.ref a],[]}) (λr i=>r=.ok (.ret<|.bool true)/\OldK c.heap i.heap/\i.os=c.os/\sr i.gens) c:=by
  intro H hO hS hok hA hK
  have T:∀ {b:Addr} {o:Obj} {J:Array _} {L:Nat},c.heap.get? b=some o->o.data=.dict J L->H b=none:=λ{b o J L} e d=>by
   cases q:H b with
   |none=>rfl
   |some u =>
    have U:=hA b (by rw[q];simp);subst U;rw[I]at e;obtain rfl:=θ e;cases d
  have base_of:∀ {b:Addr} {o:Obj},c.heap.get? b=some o->H b=none->(NE _ H).get? b=some o:=λe n=>Qz e n
  have j:∀ {b:Addr} {m:Str->Option _},c.heap.Ns b m->(NE _ H).Ns b m:=λ{b m} ⟨o,J,L,e,d,r⟩=>x3 o J L {base_of e<|T e d,d,r}
  have D:=λb o e=>base_of (KX b o e) (by
   cases q:H b with
   |none=>rfl
   |some u =>
    have U:=hA b (by rw[q];simp);subst U;rw[hK (by rw[q];simp)]at e;cases e)
  refine l8 ((F _ D<|j A).run _ [] _ H _ [.ref a] [.ref a] _ _ hr ({rfl,({D,j A,{M,j g,N},let ⟨mc,h1,h2⟩:=B;{mc,j h1,h2}}),λb o e=>Rb e,ay<|Qy _ _,trivial,λb g=>absurd (show b∈([])from g) (by simp),hok,.of_eq hg}) (l _ _) (.cons rfl .nil) (O H hO hS)) λr i h=>?_;cases r with
  |error e=>exact(Q H e i h).elim
  | ok fl =>
   cases fl with
   |next=>exact jr h
   |brk=>exact jr h
   |cont=>exact jr h
   |ret u =>
    revert h;apply u2;intro v H' [os,bare,un,E,r',rfl];obtain rfl:u=H_ _:=r';refine{rfl,OldK.of_keep λb o e=>?_,os,bare};cases q:H b with
    |none=>exact un.keep b o e q (by intro z;exact absurd (show b∈([])from z) (by simp)) (by simp)
    |some u =>
     let z||[ob,xs,z]:=hO b
     rw[q]at z;cases z;let[e2,y]:=E b _<|un.frzs b ob _ z;let[e1,y]:=hok b _ z;rw[e]at e1;obtain rfl:=θ e1;exact e2
 have rv:=oI hi;cases Y:K.lookup a with
 |some o =>
  have e:=KX a o Y;rw[I]at e;obtain rfl:=θ e;refine core (λy=>none) (λy=>.inl rfl) (.inr (x3 _ _ _ {Y,rfl,rfl,rfl,by rw[a_,hi.length];exact hl,rv})) (λb u z=>by cases z) (λb z=>absurd rfl z) λz=>absurd rfl z
 |none =>
  refine core (λb=>if b=a then some _ else none) (λb=>?_) (.inl<|.inr {{ cls:=.type "list",data:=.seq vs.toArray },if_pos rfl}) (λb u z=>?_) (λb z=>?_) λy=>Y;by_cases g:b=a;exact .inr<|x2 _ _<|if_pos g;exact .inl<|if_neg g;by_cases g:b=a
  have z':=(if_pos g).symm.trans z;cases z';subst g;exact{I,by rw[η];exact hl,x2 vs _ ⟨rv,I⟩};cases ((if_neg g).symm.trans z);by_cases g:b=a;exact g;exact absurd (if_neg g) z
def walk_of{l:W.OpenLaw}{J:(Str->Option Value)->Heap->Prop}{B:World->Heap->Prop}{d:DefRec}{K:Params->W.Frag}{CX:World->HX}{sp:World->Sp}
  (L:l.most=some n) (i:n<=sizeLine) (j:d.params.defaults=[]) (M:Room k Hr)
  (N:∀ (w:World) (h:Heap),B w h->(K w.params).In h)
  (F:∀ (w:World) (mg:vB) (g:Addr) (h:Heap),(K w.params).In h->h.Ns bw mg->mg d.name=some (.ref g) ->
   ∃ fd:gi,(∀ (s:ν) (u:Value),wu s fd {[u],[]} [(x,u)]) /\
    ∀ base:Heap,(K w.params).In base->base.Ns bw mg->FnOk l.prog w (K w.params) mg base (CX w) k g fd [x] (sp w))
  (r:∀ (w:World) (H:Hp) (a:Addr) (ns:vE),ns.length<=n->VY H->SqL (K w.params) H a (ns.map V.int)->sp w [.ref a] H (λv _=>v=.bl true) λ_ _ _=>False)
  (y:∀ (w:World) (H:Hp) (s:ν) (e:Value) (z:ν),CX w [] H s (λ_ _ _=>False) e z->False) :
  W.WalkO q loose J B l.row.toRowW d [] (λf vs=>PySem.call f vs):=by
 refine Att.attach_call L j λw s₀ D mg mb g o pm cd O a vs ns G Y ho hd GT A c b E Q=>?_
 have I:=N w _ Y;let[fd,U,hF]:=F w mg g _ I G.T.g A;exact Zy I G.T.g G.T.b G.T.builtins G.T.nolimit Q c b (υ E i) M hF U (λH hO hS=>r w H a ns E hO hS) λH e z=>y w H _ e z
def BT(s:Stmt)(j:Nat):Stmt:=match s with
 |.ClassDef _ _ _ body _ _ _ _ _ _ _=>body.getD j<|.Pass {0,0,0,0}
 |_=>.Pass {0,0,0,0}
def JZ(s:Stmt):Arguments:=match s with
 |.FunctionDef _ a _ _ _ _ _ _ _ _=>a
 |_=>{ posonlyargs:=[],args:=[],vararg:=none,kwonlyargs:=[],kw_defaults:=[],kwarg:=none,defaults:=[] }
def HD(s:Stmt):List Stmt:=match s with
 |.FunctionDef _ _ b _ _ _ _ _ _ _=>b
 |_=>[]
def AS(s:Stmt):Scope:=match s with
 |.FunctionDef _ _ _ _ _ _ a _ _ _=>a
 |_=>{ kind:=.function,names:=[],isGenerator:=false,isCoroutine:=false }
abbrev E0:XK:=λ_ _ _=>False
structure Fun(K:W.Frag)(x qual:Str)(st:Stmt)(f:Addr)(fd:gi):Prop where
 ex:∃ (oc:Value) (od:Option Addr) (kV doc pm:Value) (an:Option Addr) (CH ct:Value) (osl:Array (Option Value)),
  fd=W.fnOf x qual (JZ st) (HD st) (AS st) .none kV doc pm an CH ct/\K.lookup f=some {oc,od,.func fd,osl}/\W.codeIn K CH qual=true
 kp:W.keepIn K (.ref f)=true
section
variable{P:bu}{w:World}{K:W.Frag}{mg:vB}{base:Heap}
def Fun.binds{x a:Str}{st:Stmt}{f:Addr}{fd:gi}{ps:yD}(F:Fun K x a st f fd)
  (h:∀ (kV b pm:Value) (c:Option Addr) (d ct:Value) (us:yC),us.length=ps.length->bindArgs (W.fnOf x a (JZ st) (HD st) (AS st) .none kV b pm c d ct) {us,[]}=pure (ps.zip us)):Binds K fd ps []:=by
 refine u9 ?_ F.ex;intro g od kV b pm c d ct e [rfl,i,GT];exact .all<|h kV _ pm c _ ct
def oJ{x a:Str}{st:Stmt}{f:Addr}{i:Value}{od d:Option Addr}{e:Array (Option Value)}{kV b pm g ct:Value}(l:K.lookup f=some {i,od,.func<|W.fnOf x a (JZ st) (HD st) (AS st) .none kV b pm d g ct,e})
  (c:W.codeIn K g a=true) (k:W.keepIn K (.ref f)=true):Fun K x a st f (W.fnOf x a (JZ st) (HD st) (AS st) .none kV b pm d g ct):={x9 i od kV _ pm d _ ct _ ⟨rfl,l,c⟩,k}
end
def K0(a:Room k A):A.units+1<cLine:=cf (uy (by decide) _) a.units
section
variable{X:Cx}
def pv(i:Nat)(a:X.N[i]? =some x:=by rfl)(b:RX X.env.scope x:=by first|exact Eo rfl|exact zg (Eo rfl)|exact zg<|zg rfl)(hd:(x ==("__debug__":Str))=false:=by decide)
  (GT:(x ==("__classdict__":Str))=false:=by decide):PE X (.Name x pos) (RY i):=lV a b hd GT
end
def Same(H a:Hp):Prop:=∀ b o,H b=some o->a b=some o
def Same.refl(H:Hp):Same H H:=λz z h=>h
def Same.trans{H d e:Hp}(a:Same H d)(b:Same d e):Same H e:=λc o h=>b c o<|a c o h
def Same.free{H a:Hp}(e:Same H a){l:Addr}(h:a l=wx):H l=wx:=by
 cases q:H l with
 |none=>rfl
 |some o =>
  rw[e l o q]at h;cases h
def Same.seq{K:W.Frag}{H b:Hp}{a:Addr}{xs:tF}(e:Same H b)(h:SqL K H a xs):SqL K b a xs:=by
 rcases h with(h|⟨o,h⟩)|h
 exact .inl<|.inl<|e _ _ h;exact .inl<|.inr {o,e _ _ h};exact .inr h
section
variable{κ :Type}[DecidableEq κ]
def Zz{kvs:List (κ × V)}(h:A8 kvs k=none):¬ k∈kvs.map (·.1):=by
 intro m;let[p,a,e]:=az.mp m
 have q:(kvs.any λb=>decide<|b.1=k)=true:=fk.mpr {p,a,decide_eq_true e};rw[MA,h]at q;exact absurd q (by simp)
theorem oM:∀ {l:List κ} {k: κ},l.Nodup->¬ k∈l->(l++[k]).Nodup
 | [],k,_,_=>by simp
 |a::r,k,h,b=>by
  let[h1,h2]:=ir.mp h;refine ir.mpr {λm=>?_,oM h2 λm=>b<|af.mpr<|zg m};let q||q:=bg.mp m
  exact h1 q;exact b<|af.mpr<|Eo (τ.mp q).symm
def oN{kvs:List (κ × V)}(v:V)(a:(kvs.map (·.1)).Nodup)(h:A8 kvs k=none):((BL kvs k v).map (·.1)).Nodup:=by
 rw[VU v h,au];exact oM a<|Zz h
end
theorem VZ:∀ (names:List (Str × xt)) (cs:List (Str × Addr)),
  (∀ x∈names,x.2=.free->∃ c,env.cells.lookup x.1=some c)->(∀ x c,cs.lookup x=some c->env.cells.lookup x=some c) ->
  ∃ i,(forIn names cs λx r=>(if(x.2==gb)=true then do let a ← cellOf env x.1;pure (ji ((x.1,a)::r))else pure (ji r):Sem (ForInStep<|List<|Str × Addr)))=pure i /\
   (∀ x c,i.lookup x=some c->env.cells.lookup x=some c)/\(∀ x,(cs.lookup x).isSome=true->(i.lookup x).isSome=true) /\
   ∀ x∈names,x.2=.free->(i.lookup x.1).isSome=true
 | [],cs,_,h=>{cs,rfl,h,λ_ z=>z,λ_ z=>nomatch z}
 |(n,k)::r,cs,j,h=>by
  by_cases l:k=.free;subst l;let[c,o]:=j _ aa rfl;let[i,e,h1,h2,h3]:=VZ r ((n,c)::cs) (λx b=>j x<|ω _ b) (λx q b=>by
   by_cases d:x=n;subst d;simp only[ai,beq_self_eq_true]at b;obtain rfl:=θ b;exact o
   have  :=beq_eq_false_iff_ne.mpr d;simp only[ai,this]at b;exact h x q b)
  refine{i,?_,h1,λx b=>h2 x ?_,λx b g=>?_};rw[yp]
  show(((match env.cells.lookup n with|some a=>pure a|none=>_)>>=_)>>=_)=_;rw[o];exact e;by_cases d:x=n;subst d;simp
  have  :=beq_eq_false_iff_ne.mpr d;simp only[ai,this];exact b;let rfl||b:=af.mp b
  exact h2 n (by simp);exact h3 x b g;let[i,e,h1,h2,h3]:=VZ r cs (λx b=>j x<|ω _ b) h;refine{i,?_,h1,h2,λx b g=>?_};rw[yp,if_neg (by simp[(l)])];exact e;let rfl||b:=af.mp b
  exact absurd g l;exact h3 x b g
def oO(d:∀ x∈scope.names,x.2=.free->∃ c,env.cells.lookup x.1=some c) :
  ∃ b,closureFor scope env=pure b/\(∀ x c,b.lookup x=some c->env.cells.lookup x=some c)/\∀ x∈scope.names,x.2=.free->(b.lookup x.1).isSome=true:=by
 let[b,e,h1,z,h3]:=VZ  _ [] d (λx c h=>by simp at h);refine{b,?_,h1,h3}
 have:(forIn scope.names ([]) λx r=>(if(x.2==gb)=true then do let a ← cellOf env x.1;pure (ji ((x.1,a)::r))else pure (ji r))) >>=(λr=>(pure r))=(pure b:Sem _):=by rw[e];rfl
 exact this
theorem oP{env:Env}:∀ {names:List (Str × xt)} {x:Str},names.lookup x=some .free ->
  (names.map λ(n,k)=>if(k==gb&&env.scope.kind == .function&&env.kindOf n==some .cell)then(n,gg)else(n,k)).lookup x=some .cell ∨
  (names.map λ(n,k)=>if(k==gb&&env.scope.kind == .function&&env.kindOf n==some .cell)then(n,gg)else(n,k)).lookup x=some .free
 | [],_,h=>by simp at h
 |(n,k)::r,x,h=>by
  by_cases a:x=n;subst a;simp only[ai,beq_self_eq_true]at h;obtain rfl:=θ h
  show gj x ((if _ then(x,gg)else(x,gb))::_)=_\/gj x ((if _ then(x,gg)else(x,gb))::_)=_;split;exact .inl (by simp);exact .inr (by simp)
  have b:=beq_eq_false_iff_ne.mpr a;simp only[ai,b]at h
  show gj x ((if _ then(n,gg)else(n,k))::_)=_\/gj x ((if _ then(n,gg)else(n,k))::_)=_;split<;>(simp only[ai,b];exact(oP  h))
theorem oQ{env:Env}:∀ {names:List (Str × xt)} {x:Str},
  ((names.map λ(n,k)=>if(k==gb&&env.scope.kind == .function&&env.kindOf n==some .cell)then(n,gg)else(n,k)).lookup x=some .cell ∨
  (names.map λ(n,k)=>if(k==gb&&env.scope.kind == .function&&env.kindOf n==some .cell)then(n,gg)else(n,k)).lookup x=some .free)->(x,gb)∈names\/(x,gg)∈names
 | [],_,h=>by simp at h
 |(n,k)::r,x,h=>by
  by_cases a:x=n;subst a
  have h:gj x ((if(k==gb&&env.scope.kind == .function&&env.kindOf x==some _)=true then(x,gg)else(x,k))::_)=some _\/gj x ((if(k==gb&&env.scope.kind == .function&&env.kindOf x==some _)=true then(x,gg)else(x,k))::_)=some _:=h;split at h;rename_i b;rw[cb,cb]at b
  have:k=.free:=by simpa using b.1.1
  subst this;exact .inl aa;simp only[ai,beq_self_eq_true]at h;let h||h:=h
  cases h;exact .inr aa;cases h;exact .inl aa
  have h:gj x ((if(k==gb&&env.scope.kind == .function&&env.kindOf n==some _)=true then(n,gg)else(n,k))::_)=some _\/gj x ((if(k==gb&&env.scope.kind == .function&&env.kindOf n==some _)=true then(n,gg)else(n,k))::_)=some _:=h
  have h':=h;split at h'
  all_goals
   simp only[ai,(beq_eq_false_iff_ne.mpr a)]at h';exact(oQ h').imp (ω _) (ω _)
def FI{a b:Addr}{n:Nat}(h:a<n)(h2:n<=b):a≠b:=bm<|χ h h2
def Cx.block(X:Cx)(a:zA)(s:ν)(H:Hp)(b:yD)(scope:Scope)(c:List (Str × Addr))(C:Addr)(d:uD):Cx where
 prog:=X.prog
 w:=X.w
 K:=X.K
 mg:=X.mg
 base:=X.base
 A:=X.A
 N:=b
 s₀:=s
 H₀:=H
 env:=compEnvC scope c C X.env
 outer:=X.stack
 stack:=X.stack
 ex:=d
 fn:=λ_=>false
 calm:=X.calm
 pn:=X.pn++a
 xe:=λ_ _=>False
abbrev _root_.wE:=List Nat
structure J1(X:Cx)(scope:Scope)(tn cn:yD)(A6:wE):Prop where
 kind:scope.kind=.function
 nocell:∀ y∈scope.names,y.2≠.cell
 names:∀ y∈scope.names,y.2=.local->scope.names.lookup y.1=some .local
 free:∀ y∈scope.names,y.2=.free->X.env.kindOf y.1=some .cell\/X.env.kindOf y.1=some .free
 drawn:∀ x∈cn,scope.names.lookup x=some .free
 caps:A6.map (λi=>X.N[i]?)=cn.map some
def K3(k:Nat)(a:wE)(b:St):St:=bd k none++a.map λi=>(b[i]?).join
def HOk.track(x:HOk P w H h)(d:H a=none)(new:ObjOk P w (upd H a o) h a o):HOk P w (upd H a o) h:=λb u e=>by
 by_cases g:b=a;subst g;rw[AD]at e;obtain rfl:=θ e;exact new;rw[AK g]at e;refine(x b u e).stay (λz z z q=>q) (λc q=>?_) λc xs q=>?_;rw[AK (BG q d)];exact q;rw[AK (BG q d)];exact q
section
variable{X:Cx}{AA:zA}{σ:St}{H:Hp}{s:ν}
def Inv.pinlt(I:Inv X AA σ H s)(a:p∈X.pn++AA):p.1<s.heap.objs.size:=aj (I.pin p a).1
def Inv.stkne(I:Inv X AA σ H s)(h1:b≠X.env.locals)(h2:b∉X.fs):b∉EC X.stack:=λz=>(af.mp<|I.stkSub b z).elim h1 h2
def Inv.stklt(I:Inv X AA σ H s)(h:b∈EC X.stack):b<s.heap.objs.size:=by
 let[z,o,a,z]:=I.stack.mem h;exact aj a
theorem Inv.block{scope:Scope}{a B:yD}{N:List (Str × Addr)}{D:ν}(I:Inv X AA σ H s)(S:J1 X scope a B A6)
  (E:∀ x c,N.lookup x=some c->X.env.cells.lookup x=some c) (G8:∀ x∈scope.names,x.2=.free->(N.lookup x.1).isSome=true)
  (O:∀ b∈T,FpOk X AA H b) (U:∀ b∈T,b<s.heap.objs.size) (Q:s.heap.objs.size<=C) (k:∀ b o,s.heap.get? b=some o->D.heap.get? b=some o)
  (Y:D.os=s.os) (hg:D.gens=s.gens) (hns:∃ m,D.heap.Ns C m)
  (hp:∀ p∈g,D.heap.get? p.1=some p.2/\H p.1=none/\p.1≠C/\p.1∉EC X.stack/\∀ v,p.2.data≠.cell v) :
  Inv (X.block AA s H (a++B) scope N C T) g (K3 a.length A6 σ) H D:=by
 have ok:(X.block AA s H (a++B) scope N C T).Ok:=by
  refine{I.ok.mod,S.kind,I.ok.glob,I.ok.blt,Q,λx y c h1 h2=>I.ok.inj x y c (E x c h1) (E y c h2),λx hx=>?_,λx c z t=>(by cases z),I.ok.hd,I.ok.frames,.inl rfl,λb w=>{(bm<|χ (U b w) Q),λx c e=>(O b w).2.2.2.2.1 x c (E x c e)},I.bs,υ I.ok.bsz I.sz,λb o e w=>?_,λb w=>I.stkne (O b w).2.1 (O b w).2.2.1,I.stack,I.stkFree};let z||z:=oQ  hx
  exact c_.mp<|G8 _ z rfl;exact absurd rfl<|S.nocell _ z;let z||z:=(O b w).2.2.2.1
  exact I.ok.noex b o e z;exact absurd (χ (aj e) (υ I.ok.bsz z)) (jo _)
 refine{ok,Y,by rw[hg];exact I.bare,Un.kept k,?_,λx c e=>?_,I.hok.fresh Q,λx c e=>I.freeC x c<|E x c e,λp hp'=>?_,I.hok.kept k,?_};let[m,hm]:=hns;refine{m,hm,λi x v h1 h2 h3=>?_}
 have hi:a.length<=i:=by
  let z||z:=dz i _
  unfold K3 at h2;rw[ae (by simpa using z),xu]at h2;split at h2<;>cases h2;exact z
 unfold K3 at h2;rw[ba (by simpa using hi),t9,ρ]at h2
 have A:B[i-a.length]? =some x:=by
  have:(a++B)[i]? =some x:=h1
  rwa [ba hi]at this
 cases hq:A6[i-a.length]? with
 |none=>rw[hq]at h2;cases h2
 |some j =>
  rw[hq]at h2
  have hj:X.N[j]? =some x:=by
   have:=congrArg (λl=>l[i-a.length]?) S.caps;simp only[ρ,hq,A]at this;exact θ this
  have hv:σ[j]? =some (some v):=by
   cases hs:σ[j]? with
   |none=>simp[hs]at h2
   |some y=>simp only[p_,hs]at h2;obtain rfl:=θ h2;rfl
  have L:=PySem.mem_of_lookup<|S.drawn x<|ι A;let[m0,t,hl0]:=I.loc
  have J:=S.free _ L rfl;let[u,r,q]:=hl0 j x v hj hv<|J.elim (λz=>.inr<|.inl z) λz=>.inr<|.inr z;refine{u,r,.inr {oP<|S.drawn x<|ι A,?_}};let[kl,_]||[_,c,hc,z]:=q
  let J||J:=J<;>(rw[kl]at J;cases J)
  let[c',M]:=c_.mp<|G8 _ L rfl
  have:=E _ _ M;rw[hc]at this;obtain rfl:=θ this;exact{c,M,z.keeps k}
 let[v,z]:=I.cell x c<|E x c e;exact{v,z.keeps k};let z||z:=bg.mp hp'
 let[e,n,ne,nf,d]:=I.pin p z;exact{k _ _ e,n,bm<|χ (aj e) Q,I.stkne ne nf,d};exact hp p z;unfold K3
 have:=congrArg nq S.caps
 show _=(a++B).length;simp only[η]at this;simp[this]
end
def CP:TT:=λ_ H Q=>Q true H
def K4(X:Cx)(d:wD)(t:TT):Prop :=
 ∀ (b:zA) (s:ν) (a:St) (H:Hp) (Q:zB),Inv X b a H s->t a H Q ->
  wpAny (model X.prog X.w) X.A (forIn d true λc r=>if r=true then do let ok ← Jt c X.env (eval c X.env);pure (ji ok)else pure (ji r)) (TP X b a Q) X.xe s
def zaa:K4 X [] CP:=λa s b H Q I h=>wpAny_tests_nil ⟨H,I,h⟩
def zab(h:PT X c t):K4 X [c] t:=λb s a H Q I q=>wpAny_tests_one<|h _ s a H Q I q
def zac(o:Nat->ν->Prop)
  (turn:∀ n s,o n s->wpAny (model prog w) A (yz it) (λr a=>match r with
   |none=>R (.ok .next) a
   | some v=>wpAny (model prog w) A (yn target it v) (λ_ d=>wpAny (model prog w) A (J_ target env v) (λ_ e =>
     wpAny (model prog w) A (forIn B true λc r=>if r=true then do let ok ← Jt c env (eval c env);pure (ji ok)else pure (ji r)) (λok b =>
      if ok=true then wpAny (model prog w) A (eval D env) (λx g =>
       wpAny (model prog w) A (call (.builtin "list.append") [E,x]) (λ_ i=>∃ m,m<n/\o m i) (λ_ _=>False) g) (λ_ _=>False) b
      else ∃ m,m<n/\o m b) (λ_ _=>False) e) (λ_ _=>False) d) (λ_ _=>False) a) (λ_ _=>False) s)
  (n:Nat) (h:o n s):ui (model prog w) A (.compLoop (.ListComp D [{target,iter,B,0}] scope pos) 0 it E env) R s:=by
 refine codeAny_loop rfl o (λH I J=>(wpAny_noted<|wpAny_noRaise<|δ<|zz<|δ<|AU (turn H I J) λr a j=>?_)) n h;cases r with
 |none=>exact π j
 |some v =>
  refine δ<|AU j λ_ d q=>(δ<|AU q λ_ e u=>δ<|AU u λok b l=>?_);cases ok with
  |false=>exact π ⟨rfl,l⟩
  |true=>exact δ<|δ<|AU l λL g y=>δ<|AU y λ_ i z=>π<|π ⟨rfl,z⟩
def BZ(o:TI)(g:TG)(q:TT)(r:TE)(k:Nat)(s:wE):TE:=λe H Q=>o e H λJ u =>
 ∃ W:Nat->Nat->St->tF->Hp->Prop,(∃ m,W 0 m (K3 k s e) [] u)/\∀ i m c ys H,W i m c ys H ->
  (J.stop i H/\∀ p,H p=none->Q (.ref p) (upd H p<|.lst ys)) ∨
  (J.go i H/\ys.length<sizeLine/\∀ x j,J.yld i H x j->g x c j λa v=>q a v λb l =>
   if b=true then ∃ N:VK,(∀ y n,N y n->∃ d,d<m/\W (i+1) d a (ys++[y]) n)/\r a l N else ∃ d,d<m/\W (i+1) d a ys l)
structure CompDone(X:Cx)(fp:uD)(H:Hp)(s:ν)(Q:VK)(BU:Value)(C:Addr)(r:Result)(s':ν):Prop where
 ok:r=.ok .next
 ex:∃ (D:Addr) (ys:tF) (AL:yC) (n:Nat) (H':Hp),BU=.ref D/\Vals ys AL/\ys.length<=sizeLine/\s'.heap.get? D=some { cls:=.type "list",data:=.seq AL.toArray n }/\s.heap.objs.size<=D/\D≠C/\H' D=none/\H' C=none ∧
  (∃ m,s'.heap.Ns C m)/\Un (EC X.stack) fp H H' s.heap s'.heap/\HOk X.prog X.w H' s'.heap/\∀ p,H' p=none->Q (.ref p) (upd H' p<|.lst ys)
 ge:s.heap.objs.size<=C
 os:s'.os=s.os
 bare:sr s'.gens
section
variable{X:Cx}{AA:zA}{σ:St}{H:Hp}{s:ν}
def oR {scope:Scope} {tt:TT} {te:TE} {U cn:yD} {M:List (Str × Addr)} {tn':Nat->Heap->Prop} {J:It} {Q:VK} {E:yB}
    (I:Inv X AA σ H s) (S:J1 X scope U cn A6) (hc:X.calm=true)
    (BQ:∀ x c,M.lookup x=some c->X.env.cells.lookup x=some c) (G8:∀ x∈scope.names,x.2=.free->(M.lookup x.1).isSome=true)
    (T:L3 X.prog X.w X.K tg J l it tn') (st:tn' 0 s.heap) (hf:∀ b∈l,FpOk X AA H b)
    (hg:∀ C,PG (X.block AA s H (U++cn) scope M C l) tg g) (ht:∀ C,K4 (X.block AA s H (U++cn) scope M C l) EZ tt) (he:∀ C,PE (X.block AA s H (U++cn) scope M C l) DD te)
    (W:Nat->Nat->St->tF->Hp->Prop) (w0:W 0 m0 (K3 U.length A6 σ) [] H)
    (step:∀ i m Y ys H,W i m Y ys H ->
      (J.stop i H/\∀ p,H p=none->Q (.ref p) (upd H p<|.lst ys)) ∨
      (J.go i H/\ys.length<sizeLine/\∀ x H',J.yld i H x H'->g x Y H' λσ2 H2=>tt σ2 H2 λb H3 =>
        if b=true then ∃ N:VK,(∀ y H4,N y H4->∃ m',m'<m/\W (i+1) m' σ2 (ys++[y]) H4)/\te σ2 H3 N else ∃ m',m'<m/\W (i+1) m' σ2 ys H3)) :
    wpAny (model X.prog X.w) X.A (newList []) (λBU A=>wpAny (model X.prog X.w) X.A (newFunctionEnv scope X.env.globals M [] X.env.qual none .none (some X.env)) (λcenv s₄ =>
      ui (model X.prog X.w) X.A (.compStart (.ListComp DD [{tg,iter,EZ,0}] scope pos) 0 (.ref it) BU { cenv with scope:=relabel scope X.env }) (CompDone X l H s Q BU cenv.locals) s₄) E A) E s:=by
  refine fq (wpAny_newFunctionEnv S.nocell (by intro y hy;simp at hy) (λB w a=>?_) S.kind);generalize hH2:s.heap.push _=H2 at w a ⊢;generalize hCe:H2.objs.size=C at w a ⊢
  have hC:=hCe.symm.trans (by rw[<-hH2,za]);generalize hD:s.heap.objs.size=D at *
  have hDC:D≠C:=by rw[hC];exact bm<|d_ _
  have old:∀ b o,s.heap.get? b=some o->B.get? b=some o:=λb o e=>by
    have j:b<D:=by rw[<-hD];exact aj e
    exact a.extBut b o (FI j (by rw[hC];exact ic _)) (ξ _<|hH2 ▸ ξ _ e)
  have hDo:B.get? D=some { cls:=.type "list",data:=.seq ([]).toArray }:=by
    refine a.extBut _ _ hDC<|ξ _ ?_;rw[<-hH2,<-hD];exact ak _ rfl
  have hDs:=λz=>FI (I.stklt z) (ay hD) rfl
  have hfl:∀ b∈l,b<s.heap.objs.size:=λb j=>by
    let[o,e,_]:=T.obj 0 _ st b j;exact aj e
  have I0:Inv _ [(D,{ cls:=.type _,data:=.seq _ 0 })] _ H { s with heap:=B,toks:=s.toks+([]:yA).length } :=
    I.block S BQ G8 hf hfl (by lia) old rfl rfl ⟨_,w⟩ λp O=>by
      rw[τ]at O;subst O;exact{hDo,(by rw[<-hD];exact I.hok.fresh<|ο _),hDC,hDs,λv z=>nomatch z}
  have st1:=T.keep _ _ _ st λb _ o e=>old b o e
  have fpok:∀ {H':Hp} {o:Obj},(∀ b∈l,H' b=none)->∀ b∈l,FpOk (X.block AA s H (U++cn) scope M C l) [(D,o)] H' b:=λ{H' o} hn b j=>by
    let[_,f1,f2,f3,f4,f5]:=hf b j
    have hbl:=hfl b j;refine{hn b j,?_,I.stkne f1 f2,.inl j,λx c e=>f4 x c<|BQ x c e,λp O=>?_}
    ·exact FI hbl (by rw[hD,hC];exact ic _)
    · let z||z:=bg.mp O
      ·exact f5 p z
      ·rw[τ]at z;subst z;exact eh<|FI hbl<|ay hD
  have loop:∀ A:ν,A={ s with heap:=B,toks:=s.toks+([]:yA).length } ->
      ui (model X.prog X.w) X.A (.compLoop (.ListComp DD [{tg,iter,EZ,0}] scope pos) 0 (.ref it) (.ref D) (compEnvC scope M C X.env)) (CompDone X l H s Q (.ref D) C) A:=by
    rintro A rfl;refine zac (λn s'=>∃ i Y ys AL nn H',Inv (X.block AA s H (U++cn) scope M C l) [(D,{ cls:=.type "list",data:=.seq (AL:yC).toArray nn })] Y H' s'/\tn' i s'.heap/\(∀ b∈l,H' b=none)/\Vals ys AL/\ys.length<=sizeLine/\W i n Y ys H') ?_ m0
      {0,_,[],[],0,H,I0,st1,λb j=>(hf b j).1,.nil,aw _,w0}
    intro n s4 [i,σ4,ys,AL,nn,H4,I4,st4,fr4,r4,l4,w4];let[stop,qn]||[go,A1,next]:=step i n σ4 ys H4 w4
    · refine AU (T.done (X.block AA s H (U++cn) scope M C l) rfl rfl rfl hc i _ s4 σ4 H4 _ I4 (fpok fr4) st4 stop) λr s5 d=>?_
      let[hr,I5]:=d;subst hr
      have O:=I5.pin (D,_) (cu _ aa);let[m5,hm5,_]:=I5.loc;exact{rfl,x5 D ys AL nn H4 {rfl,r4,l4,O.1,ay hD,hDC,O.2.1,I5.free,⟨m5,hm5⟩,I5.base,I5.hok,qn},by lia,I5.os,I5.bare}
    · refine AU (T.item (X.block AA s H (U++cn) scope M C l) rfl rfl rfl hc i _ s4 σ4 H4 _ I4 (fpok fr4) st4 go) λr s5 d=> ?_
      let[u,hr,h5]:=d;subst hr;refine AU h5 λ_ s6 d=>?_;let[x,H6,I6,r6,y6,st6,fr6]:=d
      have I6':=I6.pinned (fpok fr6) (T.obj _ _ st6);refine AU (hg C _ s6 σ4 H6 x u _ I6' r6<|next x H6 y6) λ_ s7 d=>?_;let[σ7,H7,I7,q7]:=d;refine AU (ht C _ s7 σ7 H7 _ I7 q7) λok s8 d=>?_;let[H8,I8,q8]:=d
      have L:∀ {σ9:St} {H9:Hp} {s9:ν},Inv (X.block AA s H (U++cn) scope M C l) ([(D,{ cls:=.type "list",data:=.seq AL.toArray nn })]++R1 l s6.heap) σ9 H9 s9->(∀ b∈l,∀ o,s6.heap.get? b=some o->s9.heap.get? b=some o)/\∀ b∈l,H9 b=none:=λ{σ9 H9 s9} I9=>by
        refine{λb j o e=>(I9.pin (b,o) (cu _<|cu _<|R3 j e)).1,λb j=>?_};let[o,e,_]:=T.obj _ _ st6 b j;exact(I9.pin (b,o) (cu _<|cu _<|R3 j e)).2.1
      cases ok with
      |false =>
        let[m',hm',w']:=q8;let[k1,k2]:=L I8;exact{m',hm',x6 (i+1) σ7 ys AL nn H8 {I8.unpinned,T.keep _ _ _ st6 k1,k2,r4,l4,w'}}
      | true =>
        let[Nw,hN,q8]:=q8;refine AU (he C _ s8 σ7 H8 Nw I8 q8) λv s9 d=>?_;let[y,H9,I9,r9,n9]:=d;let[m',hm',w']:=hN y H9 n9;let[k1,k2]:=L I9
        have O:=I9.pin (D,_) (cu _<|jc _ aa)
        have e:=O.1
        have CC:=r4.length;refine rg F.slot_list_append ⟨_,e,rfl⟩ F.entry_list_append (F.args_list_append_2 _ _) (PySem.list_append D AL.toArray nn v (by rw[a_];exact oB (cf (ay CC.symm) A1) rfl)) {e,?_}
        have q:=PySem.IsL.update e<|λxs=>xs.push v
        have Ia:Inv (X.block AA s H (U++cn) scope M C l) [] σ7 H9 s9:=I9.pins_of λp O=>nomatch O
        have Ib:=Ia.turned (h':=s9.heap.update D (l_ (·.push v))) (t':=s9.toks) (it:=D) (λb o j eb=>(da _ _<|eh j).trans eb) O.2.1 hDC (.inr (by show s.heap.objs.size<=D;exact ay hD))
          (λx c ec z=>by
            let[vv,zc]:=I.cell x c<|BQ x c ec;exact FI zc.lt (ay hD) z)
          (λp hp'=>by
            rw[jz]at hp';exact FI (I.pinlt hp') (ay hD))
        have q':(s9.heap.update D (l_ (·.push v))).get? D=some { cls:=.type "list",data:=.seq (AL++[v]).toArray (nn+1) }:=by
          rw[if_neg (by simp)]at q;rw[<-List.push_toArray];exact q
        refine{m',hm',x6 (i+1) σ7 (ys++[y]) (AL++[v]) (nn+1) H9 {Ib.pins_of<|λp hp'=>?_,T.keep _ _ _ st6 λb j o eb=>?_,k2,r4.append<|.cons r9 .nil,?_,w'}}
        · rw[τ]at hp'
          subst hp';exact{q',O.2.1,hDC,hDs,λv' z=>nomatch z}
        · have hbl:=hfl b j
          exact(da _ _<|eh<|FI hbl<|ay hD).trans (k1 b j o eb)
        · rw[ψ,jx]
          exact A1
  exact codeAny_compStart_list (loop _ rfl) (T.self _ 0 _ _ _ st1<|loop _ rfl)
def CompDone.inv{Q:VK}{i:ν}(I:Inv X AA σ H s)(w:∀ b∈y,FpOk X AA H b)(h:CompDone X y H s Q A C r i) :
  ∃ D d,A=.ref D/\Inv X AA σ d i/\Q (.ref D) d/\d C=none/\∃ m,i.heap.Ns C m:=by
 let[z,[D,ys,Y,n,d,rfl,B,E,e,v,j,g,l,J,u,ok,q],hC,os,bare]:=h
 have c:∀ b o,H b=some o->b≠D:=λb o a=>FI (I.hok.lt a) v;refine x2 D (upd d D<|.lst ys) {rfl,I.call'  os {u.keep,u.slot,λb o a L M=>?_,u.there,λb xs a=>?_,λb o x a=>?_,λb ps a=>?_} (ok.track g {E,x2 _ n ⟨B,e⟩}) bare (λb N=>?_),q D g,?_,J};rw[AK ((λb o a=>FI (aj a) v) b o a)];exact u.free b o a L M;rw[AK (c b _ a)];exact u.tups b xs a;rw[AK (c b _ a)];exact u.frzs b o x a;rw[AK (c b _ a)];exact u.tbls b ps a;let[z,f1,f2,O,T,U]:=w b N;exact⟨O,f1,T,U⟩;rw[AK (eh j)];exact l
def Inv.letgo{d:ν}(I:Inv X AA σ H s)(a:s.heap.objs.size<=C)(j:Inv X AA g i d)(l:i C=none)(n:gr C d.heap h'):Inv X AA g i { d with heap:=h' }:=by
 refine j.turned   (λb o q e=>(n.2 b q).trans e) l (λz=>(FI I.lt a z.symm)) (.inr<|υ I.sz a) (λx c e z=>?_) λp r z=>(FI (I.pinlt r) a z)
 let[v,u]:=I.cell x c e;exact FI u.lt a z
variable{tg iter DD:Expr}{EZ:wD}{scope:Scope}{pos:Pos}{wi:TI}{g:TG}{tt:TT}{te:TE}{tn cn:yD}{A6:wE}
def zad(S:J1 X scope tn cn A6)(o:X.calm=true)(q:PI X tg iter wi)
  (u:∀ AA s H a C b,PG (X.block AA s H (tn++cn) scope a C b) tg g) (w:∀ AA s H a C b,K4 (X.block AA s H (tn++cn) scope a C b) EZ tt) (he:∀ AA s H a C b,PE (X.block AA s H (tn++cn) scope a C b) DD te)
  (y:∀ x,mz iter X.env x=pure x:=by intro z;rfl):PE X (.ListComp DD [{tg,iter,EZ,0}] scope pos) (BZ wi g tt te tn.length A6):=by
 intro AA s σ H Q I h;let[a,c,A,B]:=oO   λx E d=>I.ok.has _<|S.free x E d;refine xj  rfl y c S.kind S.names (AU (q _ s σ H _ I h) λv s1 h1=>AU h1 λL s2 h2=>?_);revert h2;apply u5;intro it b M J H2 [rfl,e,T,i,f2,W,[m0,N],turn];refine AU (oR e S o A B T i f2 (λC=>u _ _ _ _ C _) (λC=>w _ _ _ _ C _) (λC=>he _ _ _ _ C _) W N turn) λBU s3 h3=>AU h3 λn s4 h4=>l8 h4 λr s5 h5=>?_
 have O:=h5.ok;subst O;refine u2 ?_<|h5.inv e f2;intro D U [rfl,Y,q5,j,m,hm];exact{m,hm,λh' l=>x2 (.ref D) U {e.letgo h5.ge Y j l,rfl,q5}}
def zae{x:Str}{E b:Pos}(S:J1 X scope tn cn A6)(M:X.calm=true)(O:X.N.Nodup)(l:X.N[i]? =some x)(j:X.env.scope.names.lookup x=some .local)(U:PI X tg iter wi)
  (Y:∀ AA s H c C d,PG (X.block AA s H (tn++cn) scope c C d) tg g) (ht:∀ AA s H c C d,K4 (X.block AA s H (tn++cn) scope c C d) EZ tt) (he:∀ AA s H c C d,PE (X.block AA s H (tn++cn) scope c C d) DD te)
  (n:ve (.ListComp DD [{tg,iter,EZ,0}] scope pos) (some<|.Name x E) b.line X.env=pure true:=by rfl)
  (hs:∀ x,mz iter X.env x=pure x:=by intro y;rfl):PS X (.Assign [.Name x E] (.ListComp DD [{tg,iter,EZ,0}] scope pos) b) (AO (BZ wi g tt te tn.length A6) (AG i)):=by
 intro AA s σ H D I h;let[c,o,BQ,G8]:=oO   λx j q=>I.ok.has _<|S.free x j q;rw[exec_Assign_Name_used _ _ _ _ n];refine δ<|zz<|δ<|δ<|xj  rfl hs o S.kind S.names (AU (U _ s σ H _ I h) λv s1 h1=>AU h1 λitv s2 h2=>?_);revert h2;apply u5;intro it d tn' J H2 [rfl,e,T,u,f2,W,[m0,w0],turn];refine AU (oR (Q:=λx' H1=>AG i x' σ H1 _) e S M BQ G8 T u f2 (λC=>Y _ _ _ _ C _) (λC=>ht _ _ _ _ C _) (λC=>he _ _ _ _ C _) W w0 turn) λBU s3 h3=>AU h3 λL s4 h4=>l8 h4 λr s5 h5=>?_
 have hr:=h5.ok;subst hr;refine u2 ?_<|h5.inv e f2;intro Da H' [rfl,I5,q5,w,m,hm];refine Ba<|lT I5 O l (.inl j) (show RelV (.ref Da) _ from rfl) (λs6 I6 ⟨a,A,ha⟩=>{m,hm.sameBut A ?_,λh' B=>(π<|π<|x2 _ H' {e.letgo h5.ge I6 w B,q5})}) (.inr j);let z||z:=ha
 exact eh<|z ▸ FI e.lt h5.ge;let[vv,zc]:=e.cell x a z;exact eh<|FI zc.lt h5.ge
end
def ObjOk.there(x:ObjOk P w H h a o):∃ ob,h.get? a=some ob:=by
 cases o with
 |lst xs=>let[z,z,z,z,e]:=x;exact⟨_,e⟩
 |tup xs=>let[z,z,z,ob,e,z]:=x;exact⟨_,e⟩
 |dK kvs=>let[z,z,z,z,ob,z,z,e,z]:=x;exact⟨_,e⟩
 |dT kvs=>let[z,z,z,z,ob,z,z,e,z]:=x;exact⟨_,e⟩
 |set S n=>revert x;apply u4;intro ob z z z [e,z];exact⟨_,e⟩
 |ins C b fs=>let[z,z,z,e,z]:=x;exact⟨_,e⟩
 |own y=>exact x
 |xd fs=>let[z,[ob,z,z,e,z],z]:=x;exact⟨_,e⟩
 |rng lo c=>revert x;apply u3;rintro z z z e;exact⟨_,e⟩
 |frz ob u=>let[e,z]:=x;exact⟨_,e⟩
 |tbl ps=>exact⟨_,x⟩
 |met f y=>exact⟨_,x⟩
 |ext d =>exact x.2.1
def HOk.nh(x:HOk P w H h)(e:h.get? a=none):H a=none:=by
 cases q:H a with
 |none=>rfl
 |some o =>
  let[ob,b]:=(x a o q).there;rw[e]at b;cases b
section
variable{X:Cx}{AA:zA}{σ:St}{H H':Hp}{s:ν}{h':Heap}
def Inv.stepN{O:Array A_}{t':Nat}{Y:Drawn}{ch:uD}(I:Inv X AA σ H s)
  (E:∀ b∈ch,(b∈X.ex\/X.s₀.heap.get? b=none)/\b≠X.env.locals/\(∀ x c,X.env.cells.lookup x=some c->c≠b)/\∀ p∈X.pn++AA,p.1≠b)
  (keep:∀ b o,b≠X.env.locals->b∉X.fs->b∉ch->s.heap.get? b=some o->H b=none->h'.get? b=some o)
  (slot:∀ b o,b≠X.env.locals->b∈X.fs->b∉ch->s.heap.get? b=some o->H b=none->∃ N,h'.get? b=some { o with slots:=N }) (free:∀ b o,b∉ch->s.heap.get? b=some o->H b=none->H' b=none)
  (there:∀ b o,b∉ch->s.heap.get? b=some o->∃ J,h'.get? b=some J)
  (tups:∀ b xs,H b=some (.tup xs)->H' b=some (.tup xs)) (frzs:∀ b o u,H b=some (.frz o u)->H' b=some (.frz o u)) (tbls:∀ b ps,H b=some (.tbl ps)->∃ more,H' b=some (.tbl<|ps++more))
  (ns:∀ m,s.heap.Ns X.env.locals m->h'.Ns X.env.locals m) (hok:HOk X.prog X.w H' h') (hg:sr O) :
  Inv X AA σ H' { s with heap:=h',gens:=O,drawn:=Y,toks:=t' }:=by
 have L:∀ b o,X.s₀.heap.get? b=some o->b≠X.env.locals:=λb o e=>bm<|χ (aj e) I.ok.above
 have w:∀ b o,X.s₀.heap.get? b=some o->b∉X.ex->b∉ch:=λb o e a B=>by
  let z||z:=(E b B).1
  exact a z;rw[e]at z;cases z
 have g:∀ x c,X.env.cells.lookup x=some c->∀ v,s.heap.IsCell c v->h'.IsCell c v:=λx c e v ⟨o,D,hd⟩=>by
  have j:=λz=>(E c z).2.2.1 x c e rfl;by_cases Q:c∈X.fs;let[N,q]:=slot c o (I.cne x c e) Q j D (I.freeC x c e);exact⟨_,q,hd⟩;exact{o,keep c o (I.cne x c e) Q j D (I.freeC x c e),hd}
 refine{I.ok,I.os,hg,{λb o e n B a=>(keep b o (L b o e) B (w b o e a) (I.base.keep b o e n B a) (I.base.free b o e n a)),λb o e n B a=>?_,λb o e n a=>?_,λb o e a=>?_,λb xs e=>tups b xs<|I.base.tups b xs e,λb o xs e=>frzs b o xs<|I.base.frzs b o xs e,λb ps e=>?_},?_,λx c e=>?_,?_,λx c e=>?_,λp T=>?_,hok,I.len};let[N,A]:=I.base.slot b o e n B a;let[sl',M]:=slot b _ (L b o e) B (w b o e a) A (I.base.free b o e n a);exact⟨_,M⟩;let[J,A]:=I.base.there b o e a;exact free b J (w b o e a) A (I.base.free b o e n a);let[J,A]:=I.base.there b o e a;exact there b J (w b o e a) A;let[m1,A]:=I.base.tbls b ps e;let[m2,M]:=tbls b _ A;exact{_,by rw[M,Ao]};let[m,hn,hl]:=I.loc;refine{m,ns m hn,λi x v A M e3=>?_};let[u,r,l]:=hl i x v A M e3;refine{u,r,?_};let l||[k,c,e,z]:=l
 exact .inl l;exact .inr {k,c,e,g x c e _ z};let[v,z]:=I.cell x c e;exact{v,g x c e v z};let[m,[o,y,y,D,y],y]:=I.loc;exact free _ o (λz=>(E _ z).2.1 rfl) D I.free;let[v,o,D,hd]:=I.cell x c e;exact free c o (λz=>(E c z).2.2.1 x c e rfl) D (I.freeC x c e)
 have j:=λz=>(E _ z).2.2.2 p T rfl;let[e,n,ne,U,d]:=I.pin p T;exact{keep _ _ ne U j e n,free _ _ j e n,ne,U,d}
end
abbrev _root_.zC:=Addr->Prop
structure Fly(bad:zC)(H:Hp)(h:Heap)(e:Addr)(cls:Value):Prop where
 nb:¬ bad e
 free:H e=none
 ex:∃ (oe:Obj) (vs:Array Value),h.get? e=some oe/\oe.cls=cls/\oe.dict=none/\oe.data=.fields vs/\(vs[1]? =some .none ∨
  ∃ (T:Addr) (oT:Obj) (ts:Array Value),vs[1]? =some (.ref T)/\¬ bad T/\H T=none/\T≠e/\h.get? T=some oT/\oT.data=.fields ts/\ts[3]? =some .none)
def Fly.mono(F:Fly bad H h e cls)(k:∀ a,d a->bad a):Fly d H h e cls:=by
 let[g,fr,i,vs,h1,h2,h3,h4,h5]:=F;refine{λz=>g<|k _ z,fr,x2 i vs {h1,h2,h3,h4,?_}};let z||[T,j,l,a,b,c]:=h5
 exact .inl z;exact .inr<|x3 T j l {a,λz=>b<|k _ z,c}
section
variable{M:Model}{A:dh}{E:yB}{s:ν}
def oU
  (H:A.frames=some (env::outer)) (u:s.heap.FunFrames base (env::outer)) (I:env.frame=some L) (he:s.heap.get? e=some v) (d:v.data=.fields vs) (hsz:1<vs.size)
  (h:∀ h' T w x,(∀ b o,s.heap.get? b=some o->b≠e->b∉EC (env::outer)->h'.get? b=some o)->(∀ b o,s.heap.get? b=some o->b≠e->∃ n,h'.get? b=some { o with slots:=n }) ->
   h'.get? e=some (v.mapFields (·.setIfInBounds 1 (.ref T)))->s.heap.objs.size<=T->h'.get? T=some w->w.data=.fields x->x[3]? =some (mv L)->Q () { s with heap:=h' }) :
  wpAny M A (do let a ← frameOf env;let l ← entryPlaceOf L nx;let b ← EntryCells.newEntry hd a .none (mv L) .none l;setField (.ref e) 1 b) Q E s:=by
 have q:e∉(env::outer).filterMap _:=λz=>by
  let[y,o,B,J]:=u.mem z;rw[he]at B;obtain rfl:=θ B;exact J vs d
 refine δ<|wpAny_frameOf_fun H u I λh1 c=>(δ<|wpAny_entryPlaceOf λl D=>(δ<|fq ?_<|D.sizeOk5 _ _ _ _ _))
 have g:=(c.2.1 e q).trans he
 have keep:∀ b o,b≠e->h1.get? b=some o->((h1.push { cls:=.type "traceback",dict:=none,data:=.fields ([hd,.ref L,.none,mv L,.none]++(if l.isEmpty then bd 6 kq else l)).toArray }).update e (xk (·.setIfInBounds 1 (e_ h1.objs.size)))).get? b=some o:=λb o i j=>by
  rw[da _ _ (eh i)];exact ξ _ j
 refine tf (ξ _ g) d hsz ?_;refine h _ _ _ _ (λb o j i r=>keep b o i<|(c.2.1 b r).trans j) (λb o j i=>?_) (dw _ (ξ _ g) (t_<|jt d _)) (by rw[c.1];exact ο _)
  ((da _ _<|eh<|ja<|aj g).trans (ak _ rfl)) rfl ?_
 let[n,N]:=c.2.2 b o j;exact{n,keep b _ i N}
 first|(done)|(let rfl||[_,_,_,_,_,_,_,rfl]:=D<;>simp)
structure V0(fr:uD)(bad:zC)(H:Hp)(e:Addr)(cls:Value)(h h':Heap):Prop where
 ch:∃ ch:uD,(∀ b∈ch,¬ bad b/\H b=none/\∃ o vs,h.get? b=some o/\o.data=.fields vs)/\(∀ b o,h.get? b=some o->b∉ch->b∉fr->h'.get? b=some o) /\
  (∀ b o,h.get? b=some o->b∉ch->∃ sl,h'.get? b=some { o with slots:=sl })
 fly:Fly bad H h' e cls
def oV
  (OR:A.frames=some (env::outer)) (hl:s.heap.FunFrames base (env::outer)) (hf:env.frame=some L) (F:Fly bad H s.heap e cls) (hb:∀ a,s.heap.objs.size<=a->¬ bad a) (hH:∀ a,s.heap.objs.size<=a->H a=none)
  (h:∀ h',V0 (EC (env::outer)) bad H e cls s.heap h'->Q () { s with heap:=h' }) :
  wpAny M A (Jo (.ref e) env) (λy s2=>wpAny M A2 (Er (.ref e) none) Q E2 s2) E s:=by
 let[nb,fr,oe,vs,he,U6,U5,hd,htb]:=F
 have rest:∀ (D:ν) (ch:List _) (h':Heap) (T:Addr) (v:Obj) (w:Array _) (j:Obj),(∀ b o,s.heap.get? b=some o->D.heap.get? b=some o\/b∈ch)->D.heap.objs.size=s.heap.objs.size->e∈ch->(∀ b∈ch,¬ bad b/\H b=none/\∃ o vs,s.heap.get? b=some o/\o.data=.fields vs) ->
   j.cls=cls->j.dict=none->j.data=.fields vs->1<vs.size ->
   (∀ b o,D.heap.get? b=some o->b≠e->b∉EC (env::outer)->h'.get? b=some o)->(∀ b o,D.heap.get? b=some o->b≠e->∃ sl,h'.get? b=some { o with slots:=sl }) ->
   h'.get? e=some (j.mapFields (·.setIfInBounds 1 (.ref T)))->D.heap.objs.size<=T->h'.get? T=some v->v.data=.fields w->w[3]? =some (mv L)->wpAny M A2 (Er (.ref e) none) Q E2 { s with heap:=h' }:=by
  intro D ch h' T v w j N hsz r DY B n O u k1 k2 I U J g h3
  have q:=hsz ▸ U
  have Y:=eh<|FI (aj he) q
  have hde:=jt O (·.setIfInBounds 1 (e_ T))
  have hs3:=(ik.mp h3).1;refine δ (je I hde (x:=.ref T) (by simp[u]) (tf J g hs3<|h _ ?_))
  have i:∀ b,b≠T->(h'.update T (xk (·.setIfInBounds 3 ((none:Option Addr).elim kq λf=>mv f)))).get? b=h'.get? b:=λb c=>da _ _<|eh c
  have ltT:∀ b o,s.heap.get? b=some o->b≠T:=λb o d=>FI (aj d) q;refine{{ch,DY,λb o d l hbf=>?_,λb o d l=>?_},nb,fr,y2 {(i e<|eh Y).trans I,(Obj.cls_mapFields _ _).trans B,?_,hde,.inr (x3 T _ _ {by simp[u],hb T q,hH T q,Y,dw _ J<|t_<|jt g _,jt g _,by simp[hs3]})}};rw[i b (ltT b o d)];let z||z:=N b o d
  exact k1 b o z (λz'=>l<|z' ▸ r) hbf;exact absurd z l;rw[i b (ltT b o d)];let z||z:=N b o d
  exact k2 b o z<|λz'=>l<|z' ▸ r;exact absurd z l;let[c1,c2,c3,c4]:=j;subst O;exact n
 unfold Jo;simp only[hf];let h1||[T0,oT0,ts0,h1,nbT,frT,neT,eT,dT,h3]:=htb
 have u:=(ik.mp h1).1;refine δ<|je he hd h1 ?_;exact oU OR hl hf he hd u λh' T v w k1 k2 I U J g h3=>(rest s [e] h' T v w oe (λb o d=>.inl d) rfl (by simp) (λb c=>by rw[τ]at c;subst c;exact{nb,fr,x2 oe vs ⟨he,hd⟩}) U6 U5 hd u k1 k2 I U J g h3)
 have u:=(ik.mp h1).1;refine δ<|je he hd h1 ?_;refine δ<|je eT dT h3 ?_;refine δ<|tf eT dT (ik.mp h3).1 ?_
 have i:∀ b,b≠T0->(s.heap.update T0 (xk (·.setIfInBounds 3 kq))).get? b=s.heap.get? b:=λb c=>da _ _<|eh c;refine oU OR (hl.of_keeps λb o d hn=>{o,(i b ((λb o d hn z=>by rw[z,eT]at d;obtain rfl:=θ d;exact hn _ dT) b o d hn)).trans d,rfl}) hf ((i e<|eh neT).trans he) hd u λh' T v w k1 k2 I U J g h3'=>?_;exact rest _ [e,T0] h' T v w oe
  (λb o d=>by
   by_cases z:b=T0;exact .inr (by simp[z]);exact .inl<|(i b z).trans d)
  (Heap.size_after_update ..) (by simp)
  (λb c=>by
   let z||z:=af.mp c
   subst z;exact{nb,fr,x2 oe vs ⟨he,hd⟩}
   ·rw[τ]at z;subst z;exact{nbT,frT,x2 oT0 ts0 ⟨eT,dT⟩})
  U6 U5 hd u k1 k2 I U J g h3'
end
def Cx.bad(X:Cx)(b:zA):Addr->Prop:=λa=>X.s₀.heap.get? a≠none\/∃ p∈X.pn++b,p.1=a
structure XOk(X:Cx)(E:St->XK):Prop where
 po:PassesOwn (model X.prog X.w) X.A X.env X.xe
 ex:X.ex=[]
 calm:X.calm=true
 go:∀ (AA:zA) (σ:St) (H:Hp) (s:ν) (e:Addr) (cls:Value),Inv X AA σ H s->Fly (X.bad AA) H s.heap e cls->E σ cls none H->X.xe (.ref e) s
section
variable{X:Cx}{AA:zA}{σ:St}{H:Hp}{s:ν}
def Inv.notbad(I:Inv X AA σ H s)(b:X.ex=[])(h:s.heap.get? a=none):¬ X.bad AA a:=λz=>by
 let z||[p,c,rfl]:=z
 cases q:X.s₀.heap.get? a with
 |none=>exact z q
 |some o =>
  let[d,e]:=I.base.there a o q (by rw[b];simp);rw[h]at e;cases e
 have:=(I.pin p c).1;rw[h]at this;cases this
def oW{h:Heap}(z:h.objs.size<=a):h.get? a=none:=by
 cases q:h.get? a with
 |none=>rfl
 |some o=>exact absurd (χ (aj q) z) (jo _)
def Inv.noted{e:Addr}{cls:Value}{h':Heap}(I:Inv X AA σ H s)(N:V0 (EC X.stack) (X.bad AA) H e cls s.heap h'):Inv X AA σ H { s with heap:=h' }:=by
 let[[ch,A,k1,k2],y]:=N;let[mL,[oL,M,O,j,Q,rL],y]:=id I.loc
 have i:∀ b∈ch,∀ o,s.heap.get? b=some o->∃ vs,o.data=.fields vs:=λb l o a=>by
  let[y,y,T,vs,J,d]:=A b l;rw[a]at J;obtain rfl:=θ J;exact⟨vs,d⟩
 have L:X.env.locals∉ch:=λz=>by
  let[vs,d]:=i _ z _ j;rw[Q]at d;cases d
 refine I.stepN     (λb l=>{.inr ?_,λz=>L<|z ▸ l,λx c U z=>?_,λp Y z=>(A b l).1 (.inr ⟨p,Y,z⟩)})
  (λb o B D g a y=>k1 b o a g λz=>(af.mp<|I.stkSub b z).elim B D) (λb o y y g a y=>k2 b o a g) (λy y y y n=>n) (λb o g a=>?_) (λy y q=>q) (λy y y q=>q) (λb ps q=>{#[],by rw[q];simp}) (λm hm=>?_) (λb o a=>?_) I.bare
 cases q:X.s₀.heap.get? b with
 |none=>rfl
 |some o=>exact absurd (.inl (by rw[q];simp)) (A b l).1
 let[v,oc,E,hd]:=I.cell x c U;let[vs,d]:=i c (z ▸ l) oc E;rw[hd]at d;cases d;let[sl,q]:=k2 b o a g;exact⟨_,q⟩;revert hm;apply u3;intro T es' ep' [w,r'];rw[j]at w;obtain rfl:=θ w;let[sl,q]:=k2 _ _ j L;exact x3 _ _ _ ⟨q,r'⟩;refine(I.hok b o a).stay (λc u r q=>k1 c u q ?_ ?_) (λy q=>q) λy y q=>q;intro z
 have fr:=(A c z).2.1;let rfl||r:=r
 rw[a]at fr;cases fr;rw[r]at fr;cases fr;intro z
 have fr:=I.stkFree c z;let rfl||r:=r
 rw[a]at fr;cases fr;rw[r]at fr;cases fr
def ED(P:bu)(w:World):HX:=λouter H s E e b=>∃ (d:Addr) (cls:Value) (c:Hp),e=.ref d/\b.os=s.os/\sr b.gens/\Un (EC outer) [] H c s.heap b.heap/\HOk P w c b.heap/\Fly (λa=>s.heap.get? a≠none) c b.heap d cls/\E cls none c
def oX(h:ED P w outer H s (λ_ _ _=>False) e a):False:=by
 revert h;apply u3;intro z z z [z,z,z,z,z,z,f];exact f
def XOk.passes(x:XOk X E):HB (ED X.prog X.w) X E:=λAA σ H s e d I h=>by
 revert h;apply u3;intro g cls i [rfl,os,bare,un,hok,F,q];refine x.go _ σ i d g _ (I.call'  os un hok bare λb z=>absurd z (by simp)) (F.mono λa z=>?_) q;let z||[p,j,rfl]:=z
 cases c:X.s₀.heap.get? a with
 |none=>exact absurd c z
 |some o =>
  let[l,e]:=I.base.there a o c (by rw[x.ex];simp);rw[e];simp
 rw[(I.pin p j).1];simp
def oY:HB (ED P w) X (λ_=>E0):=λz z z z z z z h=>(oX h).elim
end
def zaf{P:bu}{w:World}{K:W.Frag}{mg:vB}{base:Heap}{N:yD}{b:Str}{scope:Scope}{f:Addr}{d:Value}{A:dh}{outer:zD}{s:ν}{H:Hp}{E:XK} :
  XOk (IU (ED P w) P w K mg base N b scope f d A outer s H E) (λ_=>E) where
 po:=PassesOwn.leaving
 ex:=rfl
 calm:=rfl
 go:=λi j g l e cls I F q=>by
  refine δ<|oV I.ok.frames I.stack rfl F (λa z=>I.notbad rfl<|oW z) (λa z=>I.hok.fresh z) λh' N=>?_
  have c:=I.noted N;exact x3 e _ g {rfl,c.os,c.bare,c.base,c.hok,N.fly.mono λa z=>.inl z,q}
structure Exc(K:W.Frag)(C:Addr):Prop where
 nm:∃ x,W.nsIn K bw x=some (some<|.ref C)
 ex:W.excIn K C [.type "ValueError",.type "Exception",.type "BaseException",.type "object"] "ValueError.__new__"=true
def zag:Value->Str
 |.str n _=>n
 |_=>""
def Mod.top{K:W.Frag}{mg:vB}{h:Heap}(M:Mod K mg h)(p:bu):∃ l a,W.TopRead p l mg a h:=by
 let[a,i,he]:=M.blt;let[o,b,q,h1,h2,h3,h4]:=id M.glob;refine{b.toList.map λe=>zag e.key,a,M.glob,i,M.nolimit,he,λx z j z z z=>?_};rw[<-h4];unfold nsFind findBy;cases e:b.find? λe=>e.key.isStr x with
 |none=>rfl
 |some d =>
  have hd:=Array.mem_of_find?_eq_some e
  have c:=Array.find?_some e;let[n,t,g]:=h3 d hd;rw[g]at c;exact(j (az.mpr {d,y_.mpr hd,by rw[g];exact Value.isStr_inj _ _ _ (show(Dt n t).isStr n=true by simp[Value.isStr]) c})).elim
def Exc.obj{K:W.Frag}{mg:vB}{h:Heap}(x:Exc K C)(M:Mod K mg h)(p:bu):type_of% (W.own_of_in (p:=p) M.kin (M.top p).choose_spec.choose_spec x.nm.choose_spec x.ex).obj:=(W.own_of_in (p:=p) M.kin (M.top p).choose_spec.choose_spec x.nm.choose_spec x.ex).obj
def GA(C:Addr)(E:St->XK)(t:TA):TS:=λ_ a H=>t a H λvs b=>vs.length<=sizeLine/\E a (.ref C) none b
section
variable{X:Cx}{E:St->XK}{C:Addr}{x:Str}{np DS pos:Pos}{e:Expr}{es:wD}{t:TA}
def ME(g:XOk X E)(c:Exc X.K C)(u:Gl X x)(v:X.mg x=some (.ref C))(w:PA X (e::es) t)(i:(x ==("__debug__":Str))=false:=by decide)
  (he:av (e::es) X.env=(false,eval e X.env)::av es X.env:=by rfl) (y:(jd DS<|av es X.env).any (·.1)=false:=by rfl) :
  PS X (.Raise (some<|.Call (.Name x np) (e::es) [] DS) none pos) (GA C E t):=by
 refine λO s j H D I h=>NB ?_<|c.obj I.mod X.prog;intro Q N nm q bs hdct sn sub ab col dd k0 k1 k2 [k3,k5,U,A,B,l,T]
 have b:(jd DS<|av (e::es) X.env).any (·.1)=false:=by
  rw[he]
  show(false||(jd _ _).any _)=false;rw[y];rfl
 have n:=w DS _ s j H _ I h;refine wpAny_Raise_call_subT  (nm:=nm) (q:=q) (N:=N) (bs:=bs)  (hdct:=hdct) (sn:=sn) (sub:=sub) (ab:=ab) (col:=col) (dd:=dd) (k0:=k0) (k1:=k1) (k2:=k2) (k3:=k3) (k5:=k5)
  PySem.F.excBase_ValueError  (T.hasType PySem.F.excBase_ValueError.hasBase) (I.ok.hd g.calm) b l (NG I u v {rfl,?_} i)
 rw[he]at n ⊢;refine nr<|AU n λus J ⟨vs,o,a,r,hz,q1⟩=>{rfl,?_,a.bk _ _ A,B.keeps a.bk,T.keeps a.bk,λh' L d=>?_};rw[<-r.length];exact hz
 have M:Inv X _ j o { J with heap:=h' }:=a.kept  d.keeps;let[Y,h1,h2,h3]:=d.there;refine g.go _ j o _ L _ M {λz=>a.notbad g.ex d.new z,a.hok.nh d.new,y2 {h1,rfl,rfl,rfl,.inl rfl}} q1
end
section
variable(P:bu)(w:World)(K:W.Frag)(mg:vB)(base:Heap)
structure SI(k:Nat)(x:Str)(ps:yD)(sp:Sp):Prop where
 ex:∃ (f:Addr) (fd:gi),FnOk P w K mg base (ED P w) k f fd ps sp/\mg x=some (.ref f)/\W.keepIn K (.ref f)=true/\Binds K fd ps []
structure NL(C:Addr)(k:Nat)(m:Str)(ps:yD)(sp:Sp):Prop where
 ex:∃ (f:Addr) (fd:gi),FnOk P w K mg base (ED P w) k f fd ps sp/\R7 K C m f/\Binds K fd ps []
structure WA(C:Addr)(k:Nat)(x:Str)(ps:yD)(sp:Sp):Prop where
 ex:∃ (f:Addr) (fd:gi),FnOk P w K mg base (ED P w) k f fd ps sp/\Mk K C f/\mg x=some (.ref C)/\Binds K fd ps []
end
section
variable{X:Cx}{E:St->XK}{k:Nat}{x m:Str}{ps:yD}{sp:Sp}{C:Addr}{p pos C0:Pos}{e o:Expr}{es:wD}{ta:TE}{t:TA}
def WB(c:SI X.prog X.w X.K X.mg X.base k x ps sp)(b:Room k X.A)(d:HB (ED X.prog X.w) X E)(g:Gl X x)(i:PA X (e::es) t)(a:(x ==("__debug__":Str))=false:=by decide)
  (he:av (e::es) X.env=(false,eval e X.env)::av es X.env:=by rfl) (j:(jd pos<|av es X.env).any (·.1)=false:=by rfl):PE X (.Call (.Name x p) (e::es) [] pos) (L8 sp [] E t):=by
 refine u2 ?_ c.ex;intro f fd [F,l,n,q];exact Wg F b g l n q .nil d i a he j
def WC(he:PE X o ta)(d:Cls X.K C)(c:NL X.prog X.w X.K X.mg X.base C k m ps sp)(g:Room k X.A)(i:HB (ED X.prog X.w) X E)(j:PA X (e::es) t)
  (a:av (e::es) X.env=(false,eval e X.env)::av es X.env:=by rfl) (l:(jd pos<|av es X.env).any (·.1)=false:=by rfl)
  (n:eval (.Call (.Attribute o m C0) (e::es) [] pos) X.env=(do
   let b ← eval o X.env
   x_ C0.atName
   let (f,first) ← ss [b] (uc b m s)
   zb pos f first (jd pos<|av (e::es) X.env) (uo pos<|lu [] X.env)):=by rfl):PE X (.Call (.Attribute o m C0) (e::es) [] pos) (IT C m sp [] E ta t):=by
 refine u2 ?_ c.ex;intro f fd [F,q,r];exact Wh he d q F g r .nil i j a l n
def zah(he:PE X o ta)(b:Cls X.K C)(c:NL X.prog X.w X.K X.mg X.base C k m ps sp)(d:Room k X.A)(g:HB (ED X.prog X.w) X E)
  (i:eval (.Call (.Attribute o m C0) [] [] pos) X.env=(do
   let a ← eval o X.env
   x_ C0.atName
   let (f,first) ← ss [a] (uc a m n)
   zb pos f first (jd pos<|av [] X.env) (uo pos<|lu [] X.env)):=by rfl):PE X (.Call (.Attribute o m C0) [] [] pos) (IT C m sp [] E ta BC):=by
 refine u2 ?_ c.ex;intro f fd [F,j,l];exact Wj he b j F d l .nil g i
def zai(c:WA X.prog X.w X.K X.mg X.base C k x ps sp)(b:Room (k+1) X.A)(d:HB (ED X.prog X.w) X E)(g:Gl X x)(i:PA X (e::es) t)(a:(x ==("__debug__":Str))=false:=by decide)
  (he:av (e::es) X.env=(false,eval e X.env)::av es X.env:=by rfl) (j:(jd pos<|av es X.env).any (·.1)=false:=by rfl):PE X (.Call (.Name x p) (e::es) [] pos) (NJ C sp [] E t):=by
 refine u2 ?_ c.ex;intro f fd [F,M,l,n];exact Wl M F b g l n .nil d i a he j
end
def Fun.okE{P:bu}{w:World}{K:W.Frag}{mg:vB}{base:Heap}{x a:Str}{st:Stmt}{f:Addr}{fd:gi}{N ps:yD}{k:Nat}{sp:Sp}(F:Fun K x a st f fd)(S:FnScope N ps (AS st))(len:∀ vs H Q E,sp vs H Q E->vs.length=ps.length)
  (d:∀ (b:Value) (A:dh) (outer:zD) (s:ν) (H:Hp) (vs:tF) (Q:VK) (E:XK),Room k (A.deeper<|xi a (AS st) s.heap.objs.size f b)->sp vs H Q E ->
   ∃ t,FS (IU (ED P w) P w K mg base N a (AS st) f b A outer s H E) (HD st) t/\t { nx:=λz e=>Q .non e,rt:=Q } (start N vs) H):FnOk P w K mg base (ED P w) (k+1) f fd ps sp:=by
 refine u9 ?_ F.ex;intro n od kV g pm o b ct i [rfl,l,c];exact Wp l c S len λA outer s H vs Q E j h=>d _ A _ s H vs Q E j h
def GV(mg:vB)(x:Str)(v:V):Prop:=∃ u,mg x=some u/\RelV v u
def WD(g:GV X.mg x v)(a:Gl X x)(hd:(x ==("__debug__":Str))=false:=by decide):PE X (.Name x pos) (tC v):=by
 let[u,b,r]:=g;exact Rl a b r hd
abbrev Cx.tri(X:Cx)(pn:zA)(xe:yB):Cx:={ X with pn:=pn,xe:=xe }
abbrev Cx.hand(X:Cx)(e:Addr):Cx:={ X with A:=X.A.mark<|some<|.ref e,calm:=false,xe:=λ_ _=>False }
section
variable{X:Cx}{AA:zA}{σ:St}{H:Hp}{s:ν}
def Cx.Ok.tri{pn:zA}{xe:yB}(ok:X.Ok):(X.tri pn xe).Ok :=
 ⟨ok.mod,ok.kind,ok.glob,ok.blt,ok.above,ok.inj,ok.has,ok.cab,ok.hd,ok.frames,ok.stk,ok.exf,ok.bs,ok.bsz,ok.noex,ok.exfs,ok.funs,ok.frf⟩
def Inv.tri(I:Inv X AA σ H s):Inv (X.tri (X.pn++AA) xe) [] σ H s :=
 {I.ok.tri,I.os,I.bare,I.base,I.loc,I.cell,I.free,I.freeC,λp a=>I.pin p (by simpa using a),I.hok,I.len}
def Cx.Ok.untri{pn:zA}{xe:yB}(ok:(X.tri pn xe).Ok):X.Ok :=
 ⟨ok.mod,ok.kind,ok.glob,ok.blt,ok.above,ok.inj,ok.has,ok.cab,ok.hd,ok.frames,ok.stk,ok.exf,ok.bs,ok.bsz,ok.noex,ok.exfs,ok.funs,ok.frf⟩
def Inv.untri(I:Inv (X.tri (X.pn++AA) xe) b σ H s):Inv X AA σ H s :=
 {I.ok.untri,I.os,I.bare,I.base,I.loc,I.cell,I.free,I.freeC,λp a=>I.pin p<|jc _ a,I.hok,I.len}
def Cx.Ok.hand(ok:X.Ok):(X.hand e).Ok :=
 {ok.mod,ok.kind,ok.glob,ok.blt,ok.above,ok.inj,ok.has,ok.cab,(λz=>nomatch z),ok.frames,ok.stk,ok.exf,ok.bs,ok.bsz,ok.noex,ok.exfs,ok.funs,ok.frf}
def Inv.hand(I:Inv X AA σ H s):Inv (X.hand e) AA σ H s:=⟨I.ok.hand,I.os,I.bare,I.base,I.loc,I.cell,I.free,I.freeC,I.pin,I.hok,I.len⟩
def Inv.unhand(ok:X.Ok)(I:Inv (X.hand e) AA σ H s):Inv X AA σ H s:=⟨ok,I.os,I.bare,I.base,I.loc,I.cell,I.free,I.freeC,I.pin,I.hok,I.len⟩
end
def WE(e:Addr)(cls:Value):Heap->Prop:=λh=>∃ a vs,h.get? e=some a/\a.cls=cls/\a.dict=none/\a.data=.fields vs
abbrev TH:=Value->Ends->St->Hp->Prop
def WF:TH:=λ_ _ _ _=>False
def PN(p:Value->Option Bool)(b:TS)(rest:TH):TH:=λcls D a H=>(p cls=some true/\b D a H)\/(p cls=some false/\rest cls D a H)
def Ends.drop(D:Ends)(i:Nat):Ends:={ nx:=λa H=>D.nx (a.set i none) H,rt:=D.rt,bk:=λa H=>D.bk (a.set i none) H,ct:=λa H=>D.ct (a.set i none) H }
def PH(X:Cx)(c:List xl)(d:TH):Prop :=
 ∀ (a:zA) (s:ν) (b:St) (H:Hp) (D:Ends) (e:Addr) (cls:Value),X.ex=[]->Inv X a b H s->Fly (X.bad a) H s.heap e cls->d cls D b H ->
  wpAny (model X.prog X.w) X.A (handleBy (.ref e) X.env c) (SP X a D) X.xe s
def PX(X:Cx)(t:Expr)(p:Value->Option Bool):Prop :=
 ∀ (a:zA) (s:ν) (g:St) (H:Hp) (e:Addr) (cls:Value) (b:Bool) (Q:Bool->ν->Prop) (E:yB),Inv X a g H s->Fly (X.bad a) H s.heap e cls->p cls=some b ->
  (∀ d,Inv X a g H d->Fly (X.bad a) H d.heap e cls->Q b d)->wpAny (model X.prog X.w) (X.A.mark<|some<|.ref e) (eval t X.env) (λc i=>wpAny (model X.prog X.w) (X.A.mark<|some<|.ref e) (excMatches (.ref e) c) Q E i) E s
def WG(b:(St->XK)->TS)(c:TH):TS:=λD d H=>b (λa cls _ e=>c cls D a e) D d H
section
variable{X:Cx}{hs:List xl}{h₀:xl}{th:TH}{body:List Stmt}{tb:(St->XK)->TS}{pos:Pos}
def zaj:PH X [] WF:=λz z z z z z z z z z h=>h.elim
def zak(F:Fly bad H h e cls):W.Looks M h (typeOf<|.ref e) cls:=by
 let[z,z,a,vs,h1,rfl,z]:=F;exact(W.Looks.ld h1).andThen .now
def zal(F:Fly bad H s.heap e cls)
  (h:∀ h',V0 fr bad H e cls s.heap h'->Q () { s with heap:=h' }):wpAny M A (Er (.ref e) none) Q E s:=by
 have u:=F;let[v,l,w,vs,he,x,y,hd,n]:=F;let h1||[T,B,D,h1,g,i,neT,q,dT,h3]:=n
 exact δ (je he hd h1 (π (h _ {{[],(λb a=>nomatch a),λb o c _ _=>c,λb o c _=>⟨_,c⟩},u})));refine δ<|je he hd h1 ?_
 have j:=(ik.mp h3).1
 have d:∀ b,b≠T->(s.heap.update T (xk (·.setIfInBounds 3 (none.elim kq λf=>mv f)))).get? b=s.heap.get? b:=λb r=>da _ _<|eh r;refine tf q dT j (h _ ({{[T],λb a=>?_,λb o c a _=>(d b λz=>a (by simp[z])).trans c,λb o c a=>{_,(d b λz=>a (by simp[z])).trans c}},v,l,x2 w vs {(d e<|eh neT).trans he,x,y,hd,.inr (x3 T _ _ {h1,g,i,neT,dw _ q<|t_<|jt dT _,jt dT _,by simp[j]})}}));rw[τ]at a;subst a;exact{g,i,x2 B D ⟨q,dT⟩}
theorem SP.unhand(ok:X.Ok)(h:SP (X.hand e) d D f s):SP X d D f s:=by
 cases f with
 |next=>revert h;apply u2;intro a b [c,q];exact x2 _ b {c.unhand ok,q}
 |brk=>revert h;apply u2;intro a b [c,q];exact x2 _ b {c.unhand ok,q}
 |cont=>revert h;apply u2;intro a b [c,q];exact x2 _ b {c.unhand ok,q}
 |ret u=>revert h;apply u3;intro v a b [c,r,q];exact x3 v _ b {c.unhand ok,r,q}
def zam{t:Expr}{c:Stmt}{a:List Stmt}{r:Pos}{p:Value->Option Bool}{i:TS}{rest:List xl}{j:TH}(u:PX X t p)(l:∀ e,FS (X.hand e) (c::a) i)(v:PH X rest j) :
  PH X (.ExceptHandler (some t) none (c::a) r::rest) (PN p i j):=by
 intro E s g H D e cls w I F h
 have d:∃ b,p cls=some b/\(b=true->i D g H)/\(b=false->j cls D g H):=by
  let[h1,h2]||[h1,h2]:=h
  exact{_,h1,λ_=>h2,λz=>nomatch z};exact{_,h1,(λz=>nomatch z),λ_=>h2}
 let[b,n,x,y]:=d;refine wpAny_handleBy_cons (codeAny_handlers_test<|u _ s g H e _ b _ _ I F n λA o q=>?_) (by intro z;cases z);cases b with
 |false=>exact v _ A g H D e _ w o q<|y rfl
 |true =>
  refine codeAny_handlers_suite<|zal (fr:=EC X.stack) q λh' N=>?_
  have B:Inv (X.hand e) _ g H _:=(o.noted N).hand;refine ni (l e _ _ g H D B<|x rfl) (λf J h2=>h2.unhand I.ok) λ_ _ z=>z.elim
def zan(B:X.ex=[])(c:X.calm=true)(d:X.stack=X.env::X.outer)(O:X.env.frame=some X.env.locals)(Q:∀ (E:St->XK) (pn:zA) (xe:yB),XOk (X.tri pn xe) E->FS (X.tri pn xe) body (tb E))(T:PH X (h₀::hs) th) :
  PS X (.Try body (h₀::hs) [] [] pos) (WG tb th):=by
 refine λL s U H D I h=>wpAny_Try_except ?_
 let xe:Value->ν->Prop:=λe l=>wpAny (model X.prog X.w) X.A (Jo e X.env) (λy n=>wpAny (model X.prog X.w) X.A (Er e none) (λy o=>wpAny (model X.prog X.w) X.A (handleBy e X.env (h₀::hs)) (SP X L D) X.xe o) X.xe n) X.xe l
 have J:XOk (X.tri (X.pn++L) xe) (λw cls y x=>th cls D w x):=by
  refine{PassesOwn.looking,B,c,λY w x s' e cls A F' q=>?_}
  have M:=A.untri;refine oV (d ▸ M.ok.frames) (d ▸ M.stack) O F' (λa z=>A.notbad B<|oW z) (λa z=>A.hok.fresh z) λh' N=>?_;rw[<-d]at N
  have I2:Inv _ Y _ x _:=A.noted N;exact T _ _ _ x D e _ B I2.untri (N.fly.mono λa z=>by
   let z||[p,hp,z]:=z
   exact .inl z;exact .inr {p,jc _ hp,z}) q
 refine ni (Q _ _ xe J [] s U H D I.tri h) (λf s1 b=>?_) λy y z=>z;cases f with
 |next =>
  revert b;apply u2;intro g i [j,q];exact uu<|x2 _ i ⟨j.untri,q⟩
 |brk=>revert b;apply u2;intro g i [j,q];exact x2 _ i ⟨j.untri,q⟩
 |cont=>revert b;apply u2;intro g i [j,q];exact x2 _ i ⟨j.untri,q⟩
 |ret u=>revert b;apply u3;intro v g i [j,r,q];exact x3 v _ i ⟨j.untri,r,q⟩
end
mutual
inductive Rep(K:W.Frag)(H:Hp):V->vn->Prop
 |non:Rep K H .non .none
 |bl (b:Bool):Rep K H (.bl b) (.bool b)
 |int (i:Int):Rep K H (.int i) (.int i)
 |str (x:Str):Rep K H (.str x) (.str x)
 |lst {a:Addr} {xs:tF} {ds:List vn}:SqL K H a xs->RepAll K H xs ds->Rep K H (.ref a) (.list ds)
 |tup {a:Addr} {xs:tF} {ds:List vn}:SqT K H a xs->RepAll K H xs ds->Rep K H (.ref a) (.tuple ds)
inductive RepAll(K:W.Frag)(H:Hp):tF->List vn->Prop
 |nil:RepAll K H [] []
 |cons {v:V} {d:vn} {vs:tF} {ds:List vn}:Rep K H v d->RepAll K H vs ds->RepAll K H (v::vs) (d::ds)
end
section
variable{X:Cx}{AA:zA}{σ:St}{H:Hp}{s:ν}
def Rep.reads(I:Inv X AA σ H s):∀ {v:V} {d:vn} {u:Value},Rep X.K H v d->RelV v u->∃ as,Reads s.heap u d as:=λ{v d u} h=>by
 revert u;refine Rep.rec (motive_1:=λv d z=>∀ {u:Value},RelV v u->∃ as,Reads s.heap u d as) (motive_2:=λv d z=>∀ {u:yC},Vals v u->∃ as,ReadsAll s.heap u d as) ?_ ?_ ?_ ?_ ?_ ?_ ?_ ?_ h
 ·intro u r;cases (show _=kq from r);exact{_,.none}
 ·intro b u r;cases (show _=H_ b from r);exact{_,.bool b}
 ·intro i u r;let[t,e]:=(show ∃ t,_=ub i t from r);cases e;exact{_,.int i t}
 ·intro x u r;let[t,e]:=(show ∃ t,_=Dt x t from r);cases e;exact{_,.str x t}
 ·intro a xs A h z c u r;cases (show _=e_ a from r);let[B,g,p,z]:=I.list h;let[as,q]:=c g;let[o,j,l,n,y]:=p.isList;exact{_,.list j l y q}
 ·intro a xs A h z c u r;cases (show _=e_ a from r);let[B,g,p,z]:=I.tuple h;let[as,q]:=c g;let[o,j,l,n,y]:=p;exact{_,.tuple j l y q}
 ·intro u r;rw[ND r];exact{_,.nil}
 ·intro v d vs A z z D E u r;let[w,m,rfl,r,t]:=LZ r;let[as,q]:=D r;let[bs,q2]:=E t;exact{_,.cons q q2}
end
abbrev shp(d:vn):Prop:=PySem.SeqAt.shaped d=true
def rD(K:W.Frag)(x y:V)(H:Hp)(R:zB):Prop:=∃ d e,Rep K H x d/\Rep K H y e/\shp d/\shp e/\R (gz d e) H
def K5(K:W.Frag):R2:=λx y H Q=>rD K x y H λb=>Q<|.bl b
def MF(K:W.Frag):R2:=λx y H Q=>rD K x y H λb=>Q<|.bl<|!b
section
variable{X:Cx}
def zao(a:X.A.units+64<cLine):B8 X (du .Eq) (K5 X.K):=by
 intro r s w H x y v u Q I b c;apply u2;intro d e [g,i,j,l,q];let[as,n]:=g.reads I b;let[bs,o]:=i.reads I c;exact eq_dataH n o j l a<|x2 (.bl _) H ⟨I,rfl,q⟩
def zap(a:X.A.units+64<cLine):B8 X (du .NotEq) (MF X.K):=by
 intro r s w H x y v u Q I b c;apply u2;intro d e [g,i,j,l,q];let[as,n]:=g.reads I b;let[bs,o]:=i.reads I c;exact ne_dataH n o j l a<|x2 (.bl _) H ⟨I,rfl,q⟩
def WH(K:W.Frag):R2:=λx y H Q=>∃ a b ys,x=.ref a/\y=.ref b/\SqT K H a []/\SqT K H b ys/\Q (.ref b) H
def zaq:B8 X (iw .Add) (WH X.K):=by
 intro N s O H x y v u Q I d e h;revert h;apply u3;intro a b ys [rfl,rfl,g,i,q];subst d;let[T,j,[[l,n,c3,o],c,r,w,A],z]:=I.tuple g;subst e;obtain rfl:l=_:=r;obtain rfl:c3=_:=A;let[U,Y,[[B,D,E,J],f1,f2,L,M],z]:=I.tuple i;obtain rfl:B=_:=f2;cases j;obtain rfl:E=_:=M;exact Bi ⟨_,c,rfl⟩ ⟨_,f1,rfl⟩ xv z_ PySem.F.slot_tuple_add PySem.F.entry_tuple_add (PySem.F.args_tuple_add_2 _ _) (tuple_addW0 a b _ _ w L n D o J rfl) {c,f1,x2 (.ref b) H ⟨I,rfl,q⟩}
def BN(K:W.Frag):R2:=λx y H Q=>match x,y with
 |.int i,.int j=>Q (.int<|i+j) H
 |.str i,.str j=>i.length+j.length<=sizeLine/\Q (.str<|i++j) H
 |.ref _,.ref _=>VS x y H Q\/VN K x y H Q\/WH K x y H Q
 |_,_=>False
def zar:B8 X (iw .Add) (BN X.K):=by
 intro d s a H x y v u Q I b c h;cases x<;>cases y<;>simp only[BN]at h;exact Ub _ s a H _ _ v u Q I b c<|y2 ⟨rfl,rfl,h⟩;exact Vc _ s a H _ _ v u Q I b c<|y2 ⟨rfl,rfl,h⟩;let h||h:=h
 exact Yg _ s a H _ _ v u Q I b c h;let h||h:=h
 exact Xd _ s a H _ _ v u Q I b c h;exact zaq _ s a H _ _ v u Q I b c h
def FU:R2:=λx y H Q=>match x,y with
 |.int i,.int j=>Q (.bl<|decide<|i<j) H
 |.str i,.str j=>Q (.bl<|decide<|i.cps.toList<j.cps.toList) H
 |_,_=>False
def E5:R2:=λx y H Q=>match x,y with
 |.int i,.int j=>Q (.bl<|decide<|i<=j) H
 |.str i,.str j=>Q (.bl<|!decide (j.cps.toList<i.cps.toList)) H
 |_,_=>False
end
def zas:fillsNumberSlot (.type "tuple") "mul"=pure false :=
 PySem.fillsNumberSlot_seq   F.slot_tuple_mul.lookup (by decide) F.slot_tuple_rmul.lookup (by decide)
def zat:seqRepeat? (.type "tuple")=pure (some<|.builtin "tuple.__mul__"):=by
 unfold seqRepeat?;rw[PySem.seqSlot_of  (name:="__mul__")  F.slot_tuple_mul.lookup (by decide),PySem.seqSlot_of  (name:="__rmul__")  F.slot_tuple_rmul.lookup (by decide)]
 rfl
def zau(a:Int)(t:Tok)(l:Addr)(b:Array Value)(dd:Option Addr)(n:Nat)(c:Array (Option Value)) :
  Meets (ul.«int.__rmul__» {[.int a t,.ref l],[]}) (λ_ R s=>s.heap.get? l=some {.type "tuple",dd,.seq b n,c}/\R (.ok<|.ret Value.notImplemented) s) :=
 .of_wp λprog w A R s h=>by let[d,h]:=h;wp_walk;exact⟨_,rfl,h⟩
def zav(l:Addr)(a:Array Value)(dd:Option Addr)(n:Nat)(e:Array (Option Value))(x:Int)(u:Tok)(h1:1<x)(h2:x<2 ^ 63)(b:a.isEmpty=false)(hz:a.size * x.toNat<=sizeLine) :
  Meets (ul.«tuple.__mul__» {[.ref l,.int x u],[]}) (λ_ R s=>s.heap.get? l=some {.type "tuple",dd,.seq a n,e} ∧
   R (.ok<|.ret<|e_ s.heap.objs.size) { s with heap:=s.heap.push { cls:=nc "tuple",data:=Data.seq (Ar (λd x2=>d++x2) #[] (bd x.toNat a)) } }) :=
 .of_wp λprog w A R s h=>by
  let[j,h]:=h
  have g:sizeLine<=(2^63-1)/8:=by decide
  have c:∃ N:Nat,a.size*x=N/\N<=sizeLine:={_,by rw[Int.natCast_mul,di (by lia)],hz}
  let[N,c,i]:=c
  have o:(Ar (λd x2=>d++x2) #[] (bd x.toNat a)).size<=sizeLine:=by
   have:=SE a.toList x.toNat [];simp only[pz,Array.toArray_toList]at this;rw[this];simp only[a_,List.length_flatten,List.map_replicate,List.sum_replicate_nat,dk];rw[cm];exact hz
  refine qw (by simp;lia) ?_
  wp_walk
  refine qw (by simp only[b,Iz];simp;lia) (qw (by simp only[b,fi];simp;omega) (qw (by rw[c];exact decide_eq_false (by omega)) (qw (by rw[c];unfold Im;simp;exact i) ?_)))
  wp_walk
  exact⟨_,rfl,h⟩
def zaw(l:Addr)(a:Array Value)(dd:Option Addr)(n:Nat)(b:Array (Option Value))(u:Tok) :
  Meets (ul.«tuple.__mul__» {[.ref l,.int 1 u],[]}) (λ_ R s=>s.heap.get? l=some {.type "tuple",dd,.seq a n,b}/\R (.ok<|.ret<|e_ l) s) :=
 .of_wp λprog w A R s h=>by
  let[c,h]:=h
  wp_walk
  exact⟨_,rfl,h⟩
def WJ(K:W.Frag):R2:=λx y H Q=>∃ a k xs,x=.ref a/\y=.int k/\SqT K H a xs/\xs≠[]/\1<=k/\k<2^63/\xs.length*k.toNat<=sizeLine /\
 (k=1->Q (.ref a) H)/\(k≠1->∀ p,H p=none->Q (.ref p) (upd H p<|.tup (bd k.toNat xs).flatten))
section
variable{X:Cx}
def Inv.tnew(I:Inv X a b H s)(c:Vals ys d)(hz:ys.length<=sizeLine) :
  Inv X a b (upd H s.heap.objs.size<|.tup ys) { s with heap:=s.heap.push { cls:=.type "tuple",data:=.seq d.toArray } } :=
 I.laid  (λz z q=>ξ _ q) (ο _) {hz,_,c,_,ak _ rfl,rfl,0,rfl}
def zax:B8 X (iw .Mult) (WJ X.K):=by
 intro J s L H x y v u Q I o q h;revert h;apply u3;intro a k xs [rfl,rfl,w,d,h1,h2,hz,q1,q2];subst o;let[i,r,[[A,e,c3,g],c,B,n,D],z]:=I.tuple w;obtain rfl:A=_:=B;obtain rfl:c3=_:=D;let[t,rfl]:=q
 have j:=r.length
 have he:i.toArray.isEmpty=false:=by
  cases i with
  |nil=>exact absurd (dr.mp j) d
  |cons b t=>rfl
 refine wg   (by decide) ⟨_,c,rfl⟩ (λE=>yd E k t) zas F.fills_int_mul F.slot_int_rmul zat F.slot_int_index.lookup
  (rg F.slot_int_rmul (yd s k t) F.entry_int_rmul (F.args_int_rmul_2 _ _) (zau k t a _ e n g) {c,rfl,⟨_,c,rfl⟩,?_})
 by_cases l:k=1;subst l;exact rg F.slot_tuple_mul ⟨_,c,rfl⟩ F.entry_tuple_mul (F.args_tuple_mul_2 _ _) (zaw a _ e n g t) {c,x2 (.ref a) H {I,rfl,q1 rfl}};refine rg F.slot_tuple_mul ⟨_,c,rfl⟩ F.entry_tuple_mul (F.args_tuple_mul_2 _ _) (zav a _ e n g k t (by lia) h2 he (by rw[a_,<-j];exact hz)) {c,?_};rw[(SE _ _ [])];exact x2 (.ref _) _ {I.tnew (r.rep _) (by rw[nR,cm];exact hz),rfl,q2 l _ I.fresh}
abbrev zay:lX:=Tc λi j=>i+j
def SJ(z:Str)(k:Int):Str:=if k<1 then Je else if(k==1||z.length==0)=true then z else{(bd k.toNat z.cps).foldl (· ++·) #[]}
def zaz(z:Str)(k:Nat):(Str.mk ((bd k z.cps).foldl (· ++·) #[])).length=k*z.length:=by
 have e:∀ (m:Nat) (a:Array _),((bd m z.cps).foldl (· ++·) a).size=a.size+m*z.cps.size:=λm=>by
  induction m with
  |zero=>simp
  |succ m b=>intro a;rw[kz,jh,b,Bu,sy];lia
 simpa [Ik]using (e k #[])
def za0:R2:=λx y H Q=>∃ z k,x=.str z/\y=.int k/\0<=k/\k<=1000/\z.length<=1000/\Q (.str<|SJ z k) H
def za1:B8 X (iw .Mult) za0:=by
 intro g s i H x y v u Q I b e h;revert h;apply u2;intro z k [rfl,rfl,h1,h2,h3,q];let[t,rfl]:=b;let[t',rfl]:=e;refine PySem.P.mul_str (by simp;lia) (λa _=>?_) (λa _=>?_) ?_
 have:1000<=(2^63-1)/k:=(Int.le_ediv_iff_mul_le<|rf.mp ‹_›).mpr (by lia)
 lia
 have h4:z.length*k.toNat<=1000*1000:=dq h3 (by omega)
 have h5:(1000*1000)<=sizeLine:=by decide
 exact decide_eq_false (by lia);unfold SJ at q;split;rename_i c;rw[if_pos c]at q;exact{by decide,x2 (.str _) H {I.tok _,⟨_,rfl⟩,q}};rename_i c;rw[if_neg c]at q;split;rename_i d;rw[if_pos d]at q;exact x2 (.str _) H {I,⟨_,rfl⟩,q};rename_i d;rw[if_neg d]at q;exact⟨by rw[zaz];have:=dq (show k.toNat<=1000 by omega) h3;show _<=2^24;exact oA this rfl,x2 (.str _) H {I.tok _,⟨_,rfl⟩,q}⟩
def FV(K:W.Frag):R2:=λx y H Q=>match x,y with
 |.int i,.int j=>CMul i j/\Q (.int<|i*j) H
 |.str z,.int k=>0<=k/\k<=1000/\z.length<=1000/\Q (.str<|SJ z k) H
 |.ref _,.int _=>VT x y H Q\/WJ K x y H Q
 |_,_=>False
def za2:B8 X (iw .Mult) (FV X.K):=by
 intro d s a H x y v u Q I b c h;cases x<;>cases y<;>simp only[FV]at h;exact Ud _ s a H _ _ v u Q I b c<|y2 ⟨rfl,rfl,h⟩;exact za1 _ s a H _ _ v u Q I b c<|y2 ⟨rfl,rfl,h⟩;let h||h:=h
 exact Yh _ s a H _ _ v u Q I b c h;exact zax _ s a H _ _ v u Q I b c h
def IB:R2:=λx y H Q=>match x,y with
 |.int i,.int j=>Q (.bl<|decide<|j<i) H
 |_,_=>False
def oZ:B8 X (du .Lt) FU:=by
 intro c s d H x y v u Q I a b h;cases x<;>cases y<;>simp only[FU]at h;exact Ul c s d H _ _ v u Q I a b<|y2 ⟨rfl,rfl,h⟩
 ·let[t,rfl]:=a;let[t',rfl]:=b;exact PySem.P.lt_str<|x2 (.bl _) H ⟨I,rfl,h⟩
def WK:B8 X (du .LtE) E5:=by
 intro c s d H x y v u Q I a b h;cases x<;>cases y<;>simp only[E5]at h
 ·exact Um c s d H _ _ v u Q I a b<|y2 ⟨rfl,rfl,h⟩
 ·let[t,rfl]:=a;let[t',rfl]:=b;exact PySem.P.le_str<|x2 (.bl _) H ⟨I,rfl,h⟩
def za3:B8 X (du .Gt) IB:=by
 intro a s b H x y v u Q I c d h;cases x<;>cases y<;>simp only[IB]at h;exact Up a s b H _ _ v u Q I c d<|y2 ⟨rfl,rfl,h⟩
abbrev o0:R2:=λx y H Q=>y=.non/\Q (.bl<|decide<|x=.non) H
abbrev o6:R2:=λx y H Q=>y=.non/\Q (.bl<|!decide (x=.non)) H
variable{a:Expr}{ta:TE}{tA:TT}{pos:Pos}
abbrev o7(K:W.Frag)(ta:TE):TT:=λc H Q=>ta c H λx b=>∃ k,KU K x b k/\Q k b
def BK(K:W.Frag):R2:=m7 K
def o8:IxR X (BK X.K):=Xl
def za4:V->Option Int->Option Int->Hp->VK->Prop:=λx lo b H Q=>∃ z,x=.str z/\z.length<=sizeLine/\Q (.str<|Txt.slice z lo b) H
def o9{v:Value}{lo:Option Int}(p:zd v lo):∃ l:Option (Int × Tok),v=partValue l/\l.map (·.1)=lo:=by
 cases p with
 |none=>exact⟨none,rfl,rfl⟩
 |int i t=>exact{some (i,t),rfl,rfl}
def za5:SlR X za4:=by
 intro g s i H x v j n lo o r Q I b c d e h;let[z,rfl,hz,q]:=h;let[t,rfl]:=b;let[l,rfl,rfl]:=o9 d;let[u,rfl,rfl]:=o9 e;exact x2 "str" _ {PySem.F.slot_str_getitem.lookup,Il _ _ _,(wpAny_getItem_str_slice   (st:=none) c rfl (post_val_or_str {υ (Txt.slice_le z _ _) hz,λt' k=>x2 (.str _) H {I.tok k,⟨t',rfl⟩,q}}))}
def IC(K:W.Frag):V->Option Int->Option Int->Hp->VK->Prop:=λx lo b H Q=>match x with
 |.str z=>z.length<=sizeLine/\Q (.str<|Txt.slice z lo b) H
 |_=>nD K x lo b H Q\/mU K x lo b H Q
def za6:SlR X (IC X.K):=by
 intro b s c H x v d e lo g i Q I j l n o h;cases x<;>first
  |exact za5 b s c H _ v d e lo g i Q I j l n o ⟨_,rfl,h⟩
  |exact(SlR.or Xw Xc) b s c H _ v d e lo g i Q I j l n o h
abbrev NM:V->V->V->Hp->(Hp->Prop)->Prop:=m8
def pA:VE X NM:=Xp
def PQ(K:W.Frag)(c:TE):TI:=λd H R=>c d H λx b=>∃ a,x=.ref a/\(((∃ xs,SqL K b a xs)/\R (F8 K a) b)\/((∃ xs,SqT K b a xs)/\R (IS K a) b))
def WL(K:W.Frag):tF->Hp->VK->Prop:=λxs H Q=>∃ x n,xs=[x]/\R5 K x H n/\Q (.int n) H
def za7:EH X (.builtin "len") (WL X.K):=Vg
def pB(K:W.Frag):tF->Hp->VK->Prop:=λxs H Q=>∃ p ys,xs=[.ref p]/\(SqL K H p ys\/SqT K H p ys)/\∀ l,H l=none->Q (.ref l) (upd H l<|.lst ys)
def za8:EH X (.type "list") (pB X.K):=Xz
def pC(K:W.Frag):tF->Hp->VK->Prop:=λxs H Q=>∃ p ys,xs=[.ref p]/\((SqL K H p ys/\∀ l,H l=none->Q (.ref l) (upd H l<|.tup ys))\/(SqT K H p ys/\Q (.ref p) H))
def za9:EH X (.type "tuple") (pC X.K):=Yb
def pD(K:W.Frag):tF->Hp->VK->Prop:=λxs H Q=>(∃ i,xs=[.int i]/\Q (.int i) H)\/∃ k,xs=[.bl k]/\Q (.int<|if k then 1 else 0) H
end
section
variable{X:Cx}{tg a:Expr}{ta:TE}{pos:Pos}
def zba(r:PE X l u):PI X tg l (PQ X.K u):=by
 refine λD s w H R I h=>AU (r _ s w H _ I h) λv n g=>?_;let[x,i,c,y,[a,e,q1]]:=g;subst e
 have d:∀ b∈[n.heap.objs.size],FpOk X _ i b:=λb z=>by
  have e:b=n.heap.objs.size:=by simpa using z
  subst e;exact c.fpOk (ο _) (c.hok.fresh<|ο _)
 subst y;let[[xs,j],q]||[[xs,j],q]:=q1
 let[A,B,p,hz]:=c.list j;exact wy p.isList<|x5 _ _ _ _ i {rfl,c.kept  λb o e=>ξ _ e,Td a _,{_,ak _ rfl,rfl,rfl},d,q};let[A,B,p,hz]:=c.tuple j;exact wpAny_pyIter_tuple (p) (x5 _ _ _ _ i {rfl,c.kept  λb o e=>ξ _ e,Tg a _,{_,ak _ rfl,rfl,rfl},d,q})
end
def SK(scope outer:Scope)(N a:yD)(b:wE):Bool :=
 scope.kind == .function&&scope.names.all (λy=>y.2 != .cell)&&scope.names.all (λy=>y.2 != .local||scope.names.lookup y.1==some .local) &&
 scope.names.all (λy=>y.2 != .free||outer.names.lookup y.1==some .cell||outer.names.lookup y.1==some .free)&&a.all (λx=>scope.names.lookup x==some .free)&&(b.map (λi=>N[i]?)==a.map some)
def pE(h1:X.env.scope=outer)(h2:X.N=N)(h:SK scope outer N b c=true):J1 X scope g b c:=by
 unfold SK at h;simp only[cb,jp,uv,bne_iff_ne,beq_iff_eq]at h;let[[[[[k1,k2],k3],k4],k5],k6]:=h;refine{k1,k2,λy a d=>(k3 y a).resolve_left λz=>z d,λy a e=>?_,k5,by rw[h2];exact k6}
 have z:=k4 y a
 show X.env.scope.names.lookup _=_\/X.env.scope.names.lookup _=_;rw[h1];rcases z with(z|z)|z
 exact absurd e z;exact .inl z;exact .inr z
structure SL(K:W.Frag)(C:Addr):Prop where
 ga:W.findIn K (.ref C) "__getattribute__"=some (some<|.builtin "BaseException.__getattribute__")
 gt:W.findIn K (.ref C) "__getattr__"=some none
 be:W.mroIn K C (.type "BaseException")=some true
 cl:W.isClsIn K C=true
 ha:W.findIn K (.ref C) "__class__"=some (some<|.builtin "object.__class__")
 hn:W.specialIn K (.builtin "object.__class__") "__get__"=some (some<|.builtin "getset_descriptor.__get__")
 tk:W.takesIn K (.builtin "object.__class__")=some true
 mr:W.mroIn K C (.type "object")=some true
def zbb{K:W.Frag}{C:Addr}{od:Option Obj}{name:Str}{a g:Value}(b:(W.clsIn K C).isSome=true)(c:W.findIn K (.ref C) name=some (some a))(d:W.specialIn K a "__get__"=some (some g))(e:W.takesIn K a=some true) :
  W.findObj K C od name=some (.bind g a):=by
 let[i,b]:=c_.mp b;unfold W.findObj;rw[b,c];simp[d,e]
def zbc{K:W.Frag}{E:yB}{Q:Unit->ν->Prop}{s:ν}(c:SL K D)(X:K.In s.heap)(I:W.InstAt s.heap x ox D none)(k:Q () s) :
  wpAny M A (Es "BaseException.__getattribute__" {[.ref x,nm],[]}) Q E s:=by
 have d:builtinKind "BaseException.__getattribute__"=some .slot:=by decide +kernel
 have e:splitId "BaseException.__getattribute__"=some ("BaseException","__getattribute__"):=by decide +kernel
 have L:W.Looks M s.heap (Io (.ref x) (.type "BaseException")) true:=(I.type ).andThen (W.looks_mroIn  X c.be)
 have b:=PySem.F.args_bexc_ga (.ref x) nm;simp only[Es,d,e];refine δ<|L.at ?_;cases g:Manifest.signature? "BaseException.__getattribute__" with
 |none=>exact π k
 |some a =>
  simp only[argsOk,g]at b
  show wpAny M A (Bind.checkArgs "BaseException.__getattribute__" a {[.ref x,nm],[]}) Q E _;rw[b];exact π k
def zbd{K:W.Frag}{E:yB}{Q:Option Value->ν->Prop}{s:ν}(c:SL K D)(X:K.In s.heap)(I:W.InstAt s.heap x ox D none)
  (k:Q (some<|.ref D) { s with toks:=s.toks+1 }):wpAny (model prog w) A (getAttr? (.ref x) "__class__") Q E s:=by
 have a:=I.type (M:=model prog w);refine δ<|wpAny_mkText<|δ<|kx<|ff<|δ<|a.at<|δ<|(W.looks_findIn  X c.ga).at ?_;refine δ<|(W.looks_findIn (M:=model prog w) X c.gt).at (δ<|kx<|ff ?_)
 show wpAny _ _ (boundAndCalled _ _ _) _ _ _;unfold boundAndCalled;refine δ<|π<|ya<|zh PySem.F.attr_ValueError.ga.plain PySem.F.entry_bexc_ga<|zbc c X I<|δ<|π<|δ<|π<|δ<|a.at<|δ<|(W.looks_find (M:=model prog w) X I (zbb (name:="__class__") c.cl c.ha c.hn c.tk)).at ?_;exact δ<|ff<|ya<|W.class_get (ox:=ox) (od:=none) X I c.mr (π<|W.handed_on rfl<|π k)
set_option tactic.hygienic true in
def zbe{K:W.Frag}{x D:Addr}(c:SL K D):W.KitX K (.ref x) (.ref D) (WE x<|.ref D):=by
 have inst:∀ {h:Heap},WE x (.ref D) h->∃ ox,W.InstAt h x ox D none:=λ{h} ⟨j,vs,l,o,r,u⟩=>by
  refine{j,l,o,?_,?_}
  ·unfold W.notCls;rw[u]
  ·rw[r];trivial
 have cls:=c_.mp c.cl;refine{λM h _ p=>(inst p).elim λ_ I=>I.type,λM h X p=>?_,λh B dd H n J X b=>?_,λ{prog w A E Q s} X p k=>?_}
 ·let[v,a]:=cls;unfold W.clsIn at a;split at a
  ·rename_i y z d g i;intro L N O T k q;exact δ<|wpAny_loadPart (k _ _<|X _ _ i) (π q)
  ·cases a
 ·let[v,a]:=cls;refine B_.mpr λq=>?_
  have e:=Value.ref.inj<|beq_iff_eq.mp q;subst e;unfold W.clsIn at a;split at a
  ·rename_i y z d g i;cases ((X _ _ i).symm.trans b)
  ·cases a
 ·let[ox,I]:=inst p;exact zbd c X I k
def TyX(K:W.Frag)(H:Hp)(x:V)(t:Value):Prop:=HA K H x t\/∃ a C,x=.ref a/\t=.ref C/\H a=some (.ext<|WE a<|.ref C)/\SL K C
inductive ClsV:V->Value->Prop
 |own (C:Addr):ClsV (.ref C) (.ref C)
 |ty (n:String):ClsV (.ty n) (.type n)
def ClsV.rel(h:ClsV y c)(r:RelV y u):u=c:=by
 cases h<;>exact r
def zbf:∀ {ys:tF} {cs us:yC},Paired ClsV ys cs->Vals ys us->us=cs:=by
 intro ys cs us h h'
 induction h generalizing us with
 |nil=>exact ND h'
 |cons h t a =>
  let[u,m,rfl,r,h']:=LZ h';rw[h.rel r,a h']
def MG(K:W.Frag):tF->Hp->VK->Prop:=λxs H Q=>∃ x y t b,xs=[x,y]/\TyX K H x t /\
 ((∃ c,ClsV y c/\W.kitOne K t c=some b)\/∃ p ys cs,y=.ref p/\SqT K H p ys/\Paired ClsV ys cs/\W.kitAny K t cs=some b)/\Q (.bl b) H
section
variable{X:Cx}
def TyX.kit(I:Inv X D E H s)(h:TyX X.K H x t)(r:RelV x u):∃ g :Heap->Prop,W.KitX X.K u t g /\ g s.heap/\u≠.builtin "__main__.__loader__#opaque":=by
 let h||[a,C,rfl,rfl,e,c]:=h
 ·cases h with
  |non=>cases (r);exact{_,W.kitx_none,trivial,λz=>nomatch z}
  |bl y=>cases (r);exact{_,W.kitx_bool,trivial,λz=>nomatch z}
  |int i=>let[t,q]:=(r);cases q;exact{_,W.kitx_int,trivial,λz=>nomatch z}
  |str y=>let[t,q]:=(r);cases q;exact{_,W.kitx_str,trivial,λz=>nomatch z}
  |flt y=>let[t,q]:=(r);cases q;exact{_,W.kitx_float,trivial,λz=>nomatch z}
  |@lst a xs b =>
   cases (r);let[_,_,n,_,h1]:=(I.hok a _ b)
   exact{_,W.kitx_list,⟨_,h1,rfl⟩,λz=>nomatch z}
  |@frz a ob xs b =>
   cases (r);let[_,_,_,n,_,h1]:=(I.hok a _ b)
   exact{_,W.kitx_list,⟨_,h1,rfl⟩,λz=>nomatch z}
  |@tup a xs b =>
   cases (r);let[_,_,_,p]:=(I.hok a _ b)
   let[o,h1,h2,_]:=p;exact{_,W.kitx_tuple,⟨o,h1,h2⟩,λz=>nomatch z}
  |@dK a kvs b =>
   cases (r);let[_,_,vs,_,p]:=(I.hok a _ b)
   revert p;apply u3;intro o l v [h1,h2,_];exact{_,W.kitx_dict,⟨o,h1,h2.1⟩,λz=>nomatch z}
  |@dT a kvs b =>
   cases (r);let[_,_,xs,_,o,l,v,h1,h2,_]:=(I.hok a _ b)
   exact{_,W.kitx_dict,⟨o,h1,h2.1⟩,λz=>nomatch z}
  |@ins a C L fs b j w A d B =>
   cases (r);let[M,O,_]:=R6 I.hok b;let[od,J,_]:=O.look;exact{_,W.kitx_own (j.get _) j.hd w A d B,J,λz=>nomatch z}
 ·cases (r);exact{_,zbe c,((I.hok a _ e).1),λz=>nomatch z}
def zbg:EH X (.builtin "isinstance") (MG X.K):=by
 intro E s J H xs us Q I r h;revert h;apply u4;intro x y t b [rfl,ty,g,q];refine u2 ?_<|Vals.two r;intro u v [rfl,i,d];let[L,Z,p,ne]:=ty.kit I i;let[c,j,e]||[pt,ys,cs,rfl,l,a,e]:=g
 ·have:=j.rel d;subst this;exact W.kia_one Z I.kIn p e ne λtk=>x2 (.bl b) H {I.tok tk,rfl,q}
 ·cases (d);let[M,o,[[w,N,c3,O],A,B,n,D],z]:=I.tuple l;obtain rfl:w=_:=B;obtain rfl:c3=_:=D
  have:=zbf a o;subst this;exact W.kia_tup Z I.kIn p A e ne λtk=>x2 (.bl b) H {I.tok tk,rfl,q}
end
def D5(J:It)(g:TG)(n:TT)(o:TE)(k:Nat)(q:wE)(r:St)(s:Hp)(Q:VK):Prop :=
 ∃ W:Nat->Nat->St->tF->Hp->Prop,(∃ m,W 0 m (K3 k q r) [] s)/\∀ i m c ys H,W i m c ys H ->
  (J.stop i H/\∀ p,H p=none->Q (.ref p) (upd H p<|.lst ys)) ∨
  (J.go i H/\ys.length<sizeLine/\∀ x e,J.yld i H x e->g x c e λa u=>n a u λb j =>
   if b=true then ∃ N:VK,(∀ y l,N y l->∃ d,d<m/\W (i+1) d a (ys++[y]) l)/\o a j N else ∃ d,d<m/\W (i+1) d a ys j)
def HE(J:It)(g:TG)(j:TS)(D:Ends)(a:St)(l:Hp):Prop :=
 ∃ W:Nat->Nat->St->Hp->Prop,(∃ m,W 0 m a l)/\∀ i m a H,W i m a H ->
  (J.stop i H/\D.nx a H)\/(J.go i H/\∃ N:St->Hp->Prop,(∀ b c,N b c->∃ e,e<m/\W (i+1) e b c)/\∀ x c,J.yld i H x c->g x a c λd n=>j { D with nx:=N,ct:=N,bk:=D.nx } d n)
section
variable{K:W.Frag}{ta tb tc to ti tv tl:TE}{tt tA tB' tu:TT}{s1 s2:TS}{r r':R2}{σ:St}{H:Hp}{Q:VK}{D:Ends}{QB:zB}{as:TA}{g:TG}{gs:G9}{te:TE}{k i:Nat}{A6:wE}{f m:Str}{C:Addr}{sp:Sp}{EQ:tF}{E:St->XK}{v:V}{vs:tF}{QA:tF->Hp->Prop}{QG:St->Hp->Prop}{QO:Option Int->Hp->Prop}
def zbh:AF s1 s2 D σ H=(s1 { D with nx:=s2 D } σ H):=rfl
def zbi:BR D σ H=(D.nx σ H):=rfl
def zbj:VC D σ H=(D.bk σ H):=rfl
def zbk:AO ta g D σ H=(ta σ H λx a=>g x σ a D.nx):=rfl
def zbl:CB ta D σ H=(ta σ H λ_ a=>D.nx σ a):=rfl
def zbm:AV ta D σ H=(ta σ H D.rt):=rfl
def zbn:OW D σ H=(D.rt .non H):=rfl
def zbo:BH tt s1 s2 D σ H=(tt σ H λb a=>if b=true then s1 D σ a else s2 D σ a):=rfl
def zbp:tC v σ H Q=(Q v H):=rfl
def zbq:AE r ta tb σ H Q=(ta σ H λx a=>tb σ a λy b=>r x y b Q):=rfl
def zbr:E4 tt σ H QB=(tt σ H λc a=>QB (!c) a):=rfl
def zbs:JU tt tu σ H QB=(tt σ H λc a=>if c=true then tu σ a QB else QB false a):=rfl
def zbt:HV tt tu σ H QB=(tt σ H λc a=>if c=true then QB true a else tu σ a QB):=rfl
def zbu:BC σ H QA=(QA [] H):=rfl
def zbv:A9 ta as σ H QA=(ta σ H λx a=>as σ a λxs b=>QA (x::xs) b):=rfl
def zbw:B9 as σ H Q=(as σ H λxs a=>xs.length<=sizeLine/\∀ p,a p=none->Q (.ref p) (upd a p<|.tup xs)):=rfl
def zbx:BJ as σ H Q=(as σ H λxs a=>xs.length<=sizeLine/\∀ p,a p=none->Q (.ref p) (upd a p<|.lst xs)):=rfl
def zby:L4 a ta σ H Q=ta σ H λx b=>a x b Q:=rfl
def zbz:B7 rc as σ H Q=as σ H λvs a=>rc vs a Q:=rfl
def zb0:GA C E as D σ H=(as σ H λvs a=>vs.length<=sizeLine/\E σ (.ref C) none a):=rfl
def zb1:WG sb b D σ H=sb (λa cls _ c=>b cls D a c) D σ H:=rfl
def zb2:AG i v σ H QG=(QG (σ.set i<|some v) H):=rfl
def zb3:NI to ti a v σ H QG=to σ H λo b=>ti σ b λi c=>a o i v c λd=>QG σ d:=rfl
def zb4:FH K k gs v σ H QG=(∃ a xs,v=.ref a/\SqT K H a xs/\xs.length=k/\gs xs σ H QG):=rfl
def zb5:FG vs σ H QG=((vs=[]/\QG σ H)):=rfl
def zb6:DP g gs vs σ H QG=(∃ v r,vs=v::r/\g v σ H λa b=>gs r a b QG):=rfl
def zb7:HY a ta ol b σ H Q=ta σ H λx c=>ol σ c λl d=>b σ d λu e=>a x l u e Q:=rfl
def zb8:IV σ H QO=(QO none H):=rfl
def zb9:D2 K T rm ta as σ H Q=ta σ H λx a=>VR K T x a/\as σ a λxs b=>rm x xs b Q:=rfl
def zca:CP σ H QB=(QB true H):=rfl
def zcb:BZ (OX as) g tt te k A6 σ H Q=(as σ H λvs a=>∃ i j:Int,vs=[.int i,.int j]/\(-(2^62)<=i/\i<2^62/\ -(2^62)<=j/\j<2^62)/\D5 (ET i (j-i).toNat) g tt te k A6 σ a Q):=rfl
def zcc:CL (OX as) g s1 D σ H=(as σ H λvs a=>∃ i j:Int,vs=[.int i,.int j]/\(-(2^62)<=i/\i<2^62/\ -(2^62)<=j/\j<2^62)/\HE (ET i (j-i).toNat) g s1 D σ a):=rfl
def zcd:R8 K ta tv j f D σ H=(ta σ H λx d=>∃ a C l fs v,x=.ref a/\d a=some (.ins C l fs)/\Cls K C/\NoAttr K C f/\fs.lookup f=some v/\tv σ d λy n=>j v y n λz e=>∃ c b,e a=some (.ins C c b)/\b.length<1000/\D.nx σ (upd e a<|.ins C c<|BV f z b)):=rfl
end
section
variable{K:W.Frag}{σ:St}{H:Hp}{Q:VK}{P:Bool->Prop}{PI':Int->Prop}{PV:V->Prop}{QB:zB}{v:V}{x:Option V}{i j:Int}{n:Nat}{b b':Bool}{s s':Str}{p q:Addr}{f:Int->Int->V}{C:Int->Int->Prop}
def DF(i:Nat):TE:=λσ H Q=>match σ[i]? with
 |some (some v)=>Q v H
 |_=>False
def zce:DF 0 (some v::σ) H Q=Q v H:=rfl
def zcf:DF (n+1) (x::σ) H Q=DF n σ H Q:=rfl
def zcg(i:Nat):DF i=RY i:=by
 funext σ H Q;unfold DF RY;cases σ[i]? with
 |none=>simp
 |some o=>cases o<;>simp
def zch:BN K (.int i) (.int j) H Q=Q (.int<|i+j) H:=rfl
def zci:BN K (.str s) (.str s') H Q=(s.length+s'.length<=sizeLine/\Q (.str<|s++s') H):=rfl
def zcj:BN K (.ref p) (.ref q) H Q=(VS (.ref p) (.ref q) H Q\/VN K (.ref p) (.ref q) H Q\/WH K (.ref p) (.ref q) H Q):=rfl
def zck{x y:Str}:E5 (.str x) (.str y) H Q=Q (.bl<|!decide (y.cps.toList<x.cps.toList)) H:=rfl
def zcl{x y:Str}:FU (.str x) (.str y) H Q=Q (.bl<|decide<|x.cps.toList<y.cps.toList) H:=rfl
def zcm{x:Str}{lo a:Option Int}:IC K (.str x) lo a H Q=(x.length<=sizeLine/\Q (.str<|Txt.slice x lo a) H):=rfl
def zcn:FV K (.int i) (.int j) H Q=(CMul i j/\Q (.int<|i*j) H):=rfl
def zco:FV K (.str z) (.int j) H Q=(0<=j/\j<=1000/\z.length<=1000/\Q (.str<|SJ z j) H):=rfl
def zcp:FV K (.ref p) (.int j) H Q=(VT (.ref p) (.int j) H Q\/WJ K (.ref p) (.int j) H Q):=rfl
def zcq:FU (.int i) (.int j) H Q=Q (.bl<|decide<|i<j) H:=rfl
def zcr:E5 (.int i) (.int j) H Q=Q (.bl<|decide<|i<=j) H:=rfl
def zcs:IB (.int i) (.int j) H Q=Q (.bl<|decide<|j<i) H:=rfl
def zct:O3 (.int i) (.int j) H Q=Q (.int<|i+j) H:=by simp[O3]
def zcu:pD K [.bl b] H Q=Q (.int<|if b then 1 else 0) H:=by simp[pD]
end
def pvr(i:Nat)(a:X.N[i]? =some x:=by rfl)(b:RX X.env.scope x:=by first|exact Eo rfl|exact zg (Eo rfl)|exact zg<|zg rfl)(hd:(x ==("__debug__":Str))=false:=by decide)
  (GT:(x ==("__classdict__":Str))=false:=by decide):PE X (.Name x pos) (DF i):=by
 rw[zcg];exact lV a b hd GT
abbrev AW(Q:VK):Ends:={ nx:=λ_ a=>Q .non a,rt:=Q }
abbrev C3(a:wE)(b:St):St:=a.map λi=>(b[i]?).join
section
variable{K:W.Frag}{te:TE}{A6:wE}{σ:St}{H:Hp}{Q:VK}
def MH{lo:Int}{n:Nat}(l:n<=sizeLine)(Pv:Nat->tF->Hp->Prop)(h0:Pv 0 [] H)(g:∀ i ys H,i<n->ys.length=i->Pv i ys H->te (some (.int<|lo+i)::C3 A6 σ) H λy j=>Pv (i+1) (ys++[y]) j)
  (hd:∀ ys H,ys.length=n->Pv n ys H->∀ p,H p=none->Q (.ref p) (upd H p<|.lst ys)) :
  D5 (ET lo n) (AG 0) CP te 1 A6 σ H Q:=by
 refine{λi m a ys H=>m=n-i/\i<=n/\ys.length=i/\(∃ d,a=d::C3 _ σ)/\Pv i ys H,{n,rfl,aw _,rfl,⟨_,rfl⟩,h0},?_};intro i m a ys H [rfl,o,b,[d,rfl],p];by_cases c:i<n;refine .inr {c,by lia,λx r y=>?_};let[e,y]:=y;subst e y;refine{_,λy s q=>{_,cq ‹_›,rfl,c,?_,⟨_,rfl⟩,q},g i ys _ c b p};rw[ψ,jx,b]
 have e:i=n:=by lia
 subst e;exact .inl {ο _,hd ys H b p}
def zcw(r:xs.length<=sizeLine)(Pv:Nat->tF->Hp->Prop)(h0:Pv 0 [] H)(j:∀ i ys H,i<=xs.length->Pv i ys H->SqL K H b xs)
  (l:∀ i x ys H,xs[i]? =some x->ys.length=i->Pv i ys H->te (some x::C3 A6 σ) H λy n=>Pv (i+1) (ys++[y]) n)
  (hd:∀ ys H,ys.length=xs.length->Pv xs.length ys H->∀ p,H p=none->Q (.ref p) (upd H p<|.lst ys)) :
  D5 (F8 K b) (AG 0) CP te 1 A6 σ H Q:=by
 refine{λi m a ys H=>m=xs.length-i/\i<=xs.length/\ys.length=i/\(∃ d,a=d::C3 _ σ)/\Pv i ys H,{xs.length,rfl,aw _,rfl,⟨_,rfl⟩,h0},?_};intro i m a ys H [rfl,o,c,[d,rfl],p]
 have q:=j i ys H o p;by_cases g:i<xs.length;refine .inr {x2 xs (xs[i]) {q,by simp[g]},by lia,λx s y=>?_};let[rfl,y]:=y;refine{_,λy u q=>{_,cq ‹_›,rfl,g,?_,⟨_,rfl⟩,q},l i x ys _ (y xs q) c p};rw[ψ,jx,c]
 have e:i=xs.length:=by lia
 subst e;exact .inl {{xs,q,ο _},hd ys H c p}
def pF{lo:Int}{n:Nat}(d:n<=sizeLine)(f:Nat->V)(e:∀ i,i<n->∀ c:VK,c (f i) H->te (some (.int<|lo+i)::C3 A6 σ) H c)
  (hd:∀ p,H p=none->Q (.ref p) (upd H p<|.lst<|(μ n).map f)) :
  D5 (ET lo n) (AG 0) CP te 1 A6 σ H Q:=by
 refine MH d (λi ys b=>b=H/\ys=(μ i).map f) ⟨rfl,rfl⟩ (λi ys b g j a=>?_) (λys b j a=>?_);let[rfl,l]:=a;refine e i g _ {rfl,?_};rw[l,bq,au];rfl;let[rfl,rfl]:=a;exact hd
def ID(Pv:wB)(h0:Pv 0 σ H)(c:∀ i σ H,i<=xs.length->Pv i σ H->SqL K H b xs)
  (d:∀ i x σ H,xs[i]? =some x->Pv i σ H->g x σ H λa e=>j { D with nx:=Pv<|i+1,ct:=Pv<|i+1,bk:=D.nx } a e) (hd:∀ σ H,Pv xs.length σ H->D.nx σ H):HE (F8 K b) g j D σ H:=Tq Pv h0 c d hd
def pG(Pv:wB)(h0:Pv 0 σ H)(c:∀ i σ H,i<=xs.length->Pv i σ H->SqT K H b xs)
  (d:∀ i x σ H,xs[i]? =some x->Pv i σ H->g x σ H λa e=>j { D with nx:=Pv<|i+1,ct:=Pv<|i+1,bk:=D.nx } a e) (hd:∀ σ H,Pv xs.length σ H->D.nx σ H):HE (IS K b) g j D σ H:=Tv Pv h0 c d hd
def GW{lo:Int}{n:Nat}{g:TG}{b:TS}{D:Ends}(Pv:wB)(h0:Pv 0 σ H)
  (c:∀ i σ H,i<n->Pv i σ H->g (.int<|lo+i) σ H λa d=>b { D with nx:=Pv<|i+1,ct:=Pv<|i+1,bk:=D.nx } a d) (hd:∀ σ H,Pv n σ H->D.nx σ H):HE (ET lo n) g b D σ H:=Tw Pv h0 c hd
end
def K6{K:W.Frag}{H:Hp}{x y:V}{t c:Value}{b:Bool}{Q:VK}(ty:TyX K H x t)(a:ClsV y c)(k:W.kitOne K t c=some b)(q:Q (.bl b) H):MG K [x,y] H Q:=x4 x y t b {rfl,ty,.inl ⟨c,a,k⟩,q}
def AI(h:H p=none):Same H (upd H p o):=λb u e=>by rw[AK (BG e h)];exact e
theorem K7{α a :Type}{F: α -> a ->Prop}:∀ {l:List α} {m:List a} {i:Nat} {y: a},Paired F l m->m[i]? =some y->∃ x,l[i]? =some x/\F x y
 |_,_,_,_,.nil,e=>by simp at e
 |_,_,0,_,.cons r _,e=>by simp at e;subst e;exact⟨_,rfl,r⟩
 |_,_,i+1,y,.cons _ t,e=>by
  let[u,h1,h2]:=K7   t (e);exact⟨u,h1,h2⟩
def zcx{α a :Type}{F: α -> a ->Prop}{x: α}{y: a}(r:F x y):∀ {l:List α} {m:List a} (i:Nat),Paired F l m->Paired F (l.set i x) (m.set i y):=λi h=>by
 induction h generalizing i with
 |nil=>exact .nil
 |cons q t b=>cases i with
  |zero=>exact .cons r t
  |succ i=>exact .cons q<|b i
def CI{K:W.Frag}{H:Hp}{p:Addr}{xs:tF}{i:Int}{n:Nat}{v:V}{Q:VK}(h:SqL K H p xs)(a:i=n)(b:xs[n]? =some v)(q:Q v H):BK K (.ref p) (.int i) H Q :=
 .inl (x4 p xs i v {rfl,rfl,h,a ▸ SB b,q})
def BW(n:Nat)(h:n<=100000):n<=sizeLine:=υ h (by decide)
theorem pH{α :Type}(x: α):∀ w:Nat,(bd w [x]).flatten=bd w x
 |0=>rfl
 |w+1=>by rw[kz,ii,pH x w];rfl
def KA(h:fs.length+1<n):(BV f v fs).length<n:=cf (O0 f v fs) h
def pJ(h:shp d):gz d d=true:=PySem.SeqAt.eqv_refl d<|PySem.SeqAt.canLay_of_shaped h
def vD:V->vn
 |.bl b=>.bool b
 |.int i=>.int i
 |.str x=>.str x
 |_=>.none
def NN:V->Bool
 |.non=>true
 |.bl _=>true
 |.int _=>true
 |.str x=>gu x
 |_=>false
def zcy{K:W.Frag}{H:Hp}{v:V}(h:NN v=true):Rep K H v (vD v):=by
 cases v<;>first|exact .non|exact .bl _|exact .int _|exact .str _|cases h
theorem WM{K:W.Frag}{H:Hp}:∀ {vs:tF},(∀ v∈vs,NN v=true)->RepAll K H vs (vs.map vD)
 | [],_=>.nil
 |v::r,h=>.cons (zcy<|h v aa) (WM λx a=>h x<|ω _ a)
def zcz(h:NN v=true):(vD v).canLay0=true/\(vD v).depth=0:=by
 cases v<;>first|exact⟨rfl,rfl⟩|exact⟨h,rfl⟩|cases h
theorem pL:∀ {vs:tF},(∀ v∈vs,NN v=true)->tj (vs.map vD)=true/\yq (vs.map vD)=0
 | [],_=>⟨rfl,rfl⟩
 |v::r,h=>by
  let[a,b]:=zcz<|h v aa;let[c,d]:=pL λx e=>h x<|ω _ e;simp[tj,yq,a,b,c,d]
def WN{vs:tF}(h:∀ v∈vs,NN v=true):shp (.list<|vs.map vD):=by
 let[c,d]:=pL h;unfold shp PySem.SeqAt.shaped;simp[PyData.canLay0,Ca,c,d]
def zc0{K:W.Frag}{H:Hp}{p q:Addr}{xs:tF}{Q:VK}(h1:SqL K H p xs)(h2:SqL K H q xs)(a:∀ v∈xs,NN v=true)(b:Q (.bl true) H):K5 K (.ref p) (.ref q) H Q:=by
 refine y2 {.lst h1<|WM a,.lst h2<|WM a,WN a,WN a,?_};rw[pJ (WN a)];exact b
def ItK(k:Bool)(h:Heap)(j a:Addr)(i:Nat):Prop:=if k then h.IsListIter j a i else h.IsTupleIter j a i
def pM(k:Bool)(h:Heap)(a:Addr)(xs:Array Value):Prop:=if k then h.IsList a xs else h.IsTuple a xs
def ItK.up(x:ItK k h j a i)(q:∀ o,h.get? j=some o->h'.get? j=some o):ItK k h' j a i:=by
 cases k<;>exact(let ⟨o,e,r⟩:=x;{o,q o e,r})
def ItK.ob(x:ItK k h j a i):∃ o,h.get? j=some o/\o.data=.fields #[.ref a,.int i 0]:=by
 cases k<;>exact(let ⟨o,e,_,r⟩:=x;⟨o,e,r⟩)
section
variable{P:bu}{w:World}{A:dh}{E:yB}{s:ν}
def zc1(z:A.handled=none)(c:s.heap.IsTupleIter j t i)(d:s.heap.IsTuple t g)(e:g[i]? =none)
  (q:∀ h' x,nu j s.heap h'->(∃ o,h'.get? x=some o/\o.cls=.type "StopIteration")->E (.ref x) { s with heap:=h' }):wpAny (model P w) A (wj<|.ref j) Q E s:=by
 let[l,a,r,b]:=id c;let[u,f1,y,n,f2]:=d;refine δ<|ee  c.typeIs F.slot_tuple_iterator_next (fg F.slot_tuple_iterator_next c.typeIs F.entry_tuple_iterator_next ?_<|F.args_tuple_iterator_next_1 _)
 show wpAny _ _ (field _ 0>>=_) _ _ s;refine δ<|je a b  rfl (δ<|je a b  rfl (δ<|zi f1 f2 ?_));simp only[bv,e];refine δ (rk (δ (tf a b (by simp) (δ (δ (fq (δ  (Gs  (by first|rfl|(rfl)) (fq (δ<|wpAny_handled ?_) (by size_fits)))) (by size_fits)))))));rw[z];exact δ<|π<|wpAny_throw<|q _ _ (((fm ..).extBut.push _).push _) {_,ak _ rfl,rfl}
def zc2(z:A.handled=none)(c:ItK k s.heap j t i)(d:pM k s.heap t a)(e:a[i]? =none)
  (q:∀ h' x,nu j s.heap h'->(∃ o,h'.get? x=some o/\o.cls=.type "StopIteration")->E (.ref x) { s with heap:=h' }):wpAny (model P w) A (wj<|.ref j) Q E s:=by
 cases k;exact zc1 z c d e q;exact wpAny_nextOf_list_end z c d e q
end
section
variable{P:bu}{w:World}{A:dh}{E:yB}{s:ν}
end
def Inv.turnedS{X:Cx}{g:zA}{l:St}{H:Hp}{s:ν}{h':Heap}{t':Nat}{i:uD}(I:Inv X g l H s)(k:∀ b o,b∉i->s.heap.get? b=some o->h'.get? b=some o)(j:∀ b∈i,FpOk X g H b):Inv X g l H { s with heap:=h',toks:=t' }:=by
 have d:∀ b u,H b=some u->b∉i:=λb u e z=>by rw[(j b z).1]at e;cases e
 refine I.step    (λb w=>?_) (λb o y y a e y=>k b o a e) (λb o y y a e y=>{_,k b o a e}) (λy y y y n=>n)
  (λb o a e=>{o,k b o a e}) (λy y e=>e) (λy y y e=>e) (λb ps e=>{#[],by rw[e];simp}) (λm x=>?_) (λb u e=>?_) I.bare
 let[y,f1,y,A,B,D]:=j b w;exact⟨A,f1,B,D⟩;revert x;apply u3;intro o E J [L,r];exact x3 o E J {k _ o (λz=>(j _ z).2.1 rfl) L,r};refine(I.hok b u e).stay (λc v a q=>k c v ?_ q) (λy q=>q) λy y q=>q;let z||z:=a
 rw[z];exact d b u e;exact d c _ z
def WO(K:W.Frag)(k:Bool)(H:Hp)(a:Addr)(xs:tF):Prop:=if k then SqL K H a xs else SqT K H a xs
def Inv.seqK(I:Inv X d e H s)(q:WO X.K k H a xs):∃ b,Vals xs b/\pM k s.heap a b.toArray:=by
 cases k;let[b,c,p,z]:=I.tuple q;exact⟨_,c,p⟩;let[b,c,p,z]:=I.list q;exact⟨_,c,p.isList⟩
def Inv.seqK_inj(I:Inv X b c H s)(p:WO X.K k H a xs)(q:WO X.K k H a ys):xs=ys:=by
 cases k;exact I.tuple_inj p q;exact I.list_inj p q
structure z4r(z T U j j':Addr):Prop where
 a1:T≠z
 a2:U≠z
 a3:j≠z
 a4:j'≠z
 a5:T≠U
 a6:T≠j
 a7:T≠j'
 a8:U≠j
 a9:U≠j'
 a10:j≠j'
def FpOk.upd(f:FpOk X c H b)(n:b≠a):FpOk X c (upd H a o) b:={(AK n).trans f.1,f.2}
section
variable{X:Cx}{tg:Expr}
end
def PR(z:Str):It:={λi _=>i<z.cps.size,λi H x a=>a=H/\∃ c,z.cps[i]? =some c/\x=.str {#[c]},λi _=>z.cps.size<=i}
def pN{P:bu}{w:World}{K:PySem.W.Frag}{O:Expr}{it:Addr}{z:Str}{t:Tok}{nm:String}(T:["enumerate","zip","dict_itemiterator","dict_reverseitemiterator","odict_iterator","itertools.zip_longest","itertools.pairwise"].contains nm=false)
  (W:∀ A:dh,A.handled=none->Walks P w A it [it] [it] z.cps.size (SignAt z) (λi h=>h.IsStrIter it nm z t i)) (sf:∀ (A:dh) (i:Nat) (s:ν) (Q:yB) (E:yB),s.heap.IsStrIter it nm z t i->Q (.ref it) s->wpAny (model P w) A (Ea<|.ref it) Q E s) :
  L3 P w K O (PR z) [it] it (λi h=>i<=z.cps.size/\h.IsStrIter it nm z t i) where
 mem:=by simp
 obj:=λi h ⟨_,o,e,c,d⟩ b a=>by
  have U:b=it:=by simpa using a
  subst U;exact{o,e,λv q=>by rw[d]at q;cases q}
 keep:=λi h h' ⟨l,o,e,r⟩ k=>{l,o,k it (by simp) o e,r}
 item:=by
  intro X Y hw hK x i AA s N H E I j ⟨y,st⟩ n;let[B,f1,f2,D,J,L]:=j it (by simp);refine(W _<|I.ok.hd x).item i s _ _ n st λv h' tk hv g M=>?_;revert hv;apply u2;have I1:Inv X _ N H { s with heap:=h',toks:=tk }:=I.turned (λb o a e=>M b o (by simpa using a) e) B f1 D J L;intro c u [hx,rfl];let[o,e,c1,d]:=id g;exact{_,rfl,RZ  e c1 d T (x2 (.str _) H {I1,⟨u,rfl⟩,⟨rfl,c,hx,rfl⟩,⟨n,g⟩,λb a=>(j b a).1})}
 done:=by
  intro X Y hw hK x i AA s N H E I j ⟨l,st⟩ n;let[B,f1,f2,D,J,L]:=j it (by simp)
  have e:=ka l n;subst e;exact(W _<|I.ok.hd x).done s _ _ st λh' tk M=>{rfl,I.turned (λb o a e=>M b o (by simpa using a) e) B f1 D J L}
 self:=λA i s Q E st h=>sf A i s Q E st.2 h
theorem pO:∀ bs:List Bool,(μ bs.length).all (λi=>bs.getD i false)=bs.all id
 | []=>rfl
 |b::t=>by
  rw[fj,yf,uk,Ce,uk,<-(pO t)]
  rfl
def PU(a:TE):TI:=λb H R=>a b H λx c=>∃ z,x=.str z/\R (PR z) c
section
variable{X:Cx}{tg:Expr}
def zc3{l:Expr}{n:TE}(w:PE X l n):PI X tg l (PU n):=by
 refine λJ s y H R I h=>AU (w _ s y H _ I h) λv r d=>?_;let[x,g,c,B,[z,rfl,q]]:=d;let[t,rfl]:=B
 have a:∀ b∈[r.heap.objs.size],FpOk X _ g b:=λb D=>by
  have e:b=r.heap.objs.size:=by simpa using D
  subst e;exact c.fpOk (ο _) (c.hok.fresh<|ο _)
 cases u:z.cps.all _;refine wpAny_pyIter_wide u (x5 _ _ _ _ g {rfl,c.kept  λb o e=>ξ _ e,pN   (by decide) (λA j=>Walks.strWide j _ z t) (λA i s Q E st h=>wpAny_pyIter_striter_wide st h),{aw _,_,ak _ rfl,rfl,rfl},a,q});refine wpAny_pyIter_ascii u (x5 _ _ _ _ g {rfl,c.kept  λb o e=>ξ _ e,pN   (by decide) (λA j=>Walks.strAscii j _ z t) (λA i s Q E st h=>wpAny_pyIter_striter_ascii st h),{aw _,_,ak _ rfl,rfl,rfl},a,q})
def PY(K:W.Frag):tF->Hp->VK->Prop:=λxs H Q=>∃ x,xs=[.str x]/\x.length=1/\Q (.int (x.cps.getD 0 0:Nat)) H
def zc4:EH X (.builtin "ord") (PY X.K):=Vd
def NO(K:W.Frag):tF->Hp->VK->Prop:=λxs H Q=>∃ (p:Addr) (bs:List Bool),xs=[.ref p]/\SqL K H p (bs.map V.bl)/\Q (.bl<|bs.all id) H
def zc5(B:X.calm=true):EH X (.builtin "all") (NO X.K):=by
 intro N s O H xs us Q I r h;revert h;apply u2;intro p bs [rfl,D,q];let[l,n,g,hz]:=I.list D;let[u,rfl,rfl]:=HW r
 have a:=n.length
 have j:p≠s.heap.objs.size:=by
  let[o,e,z]:=g.isList;exact bm<|aj e
 refine call_all_walk<|wy g.isList<|x7 _ _ _ _ _ _ (λi=>bs.getD i false) {rfl,La (show X.A.in1.handled=none from I.ok.hd B) _ p j _,{{_,ak _ rfl,rfl,rfl},g.isList.push _},?_,?_};intro i v E J T c d
 have c:l[i]? =some v:=by simpa using c
 rw[η]at a;obtain⟨b,w⟩:∃ b,bs[i]? =some b:={_,ζ<|a ▸ ((ε.mp c).1)}
 let[u,x,L]:=n.get   (by rw[ρ,w];rfl);rw[c]at x;cases (L)
 have e:bs.getD i false=b:=by rw[vo,w];rfl
 cases x
 have d:J (bs.getD i _) E:=d;rw[e]at d;exact π d;intro h' tk M
 have e:(μ l.toArray.size).all (λi=>bs.getD i false)=bs.all id:=by
  rw[η]at a;rw[a_,<-a];exact pO bs
 rw[e];exact x2 (.bl _) H {I.kept  λb o y=>M b o (by simpa using bm (aj y)) (ξ _ y),rfl,q}
end
def zc6{K:W.Frag}{x:Str}{H:Hp}{Q:VK}:PY K [.str x] H Q=(x.length=1/\Q (.int (x.cps.getD 0 0:Nat)) H):=by simp[PY]
section
variable{P:bu}{w:World}{A:dh}{E:yB}{s:ν}
end
section
variable{X:Cx}
end
def zc7:BZ (PU b) g c d k e a H Q=(b a H λx i=>∃ z,x=.str z/\D5 (PR z) g c d k e a i Q):=rfl
def zc8(u:z.cps.size<=sizeLine)(Pv:Nat->tF->Hp->Prop)(h0:Pv 0 [] H)(l:∀ i c ys H,z.cps[i]? =some c->ys.length=i->Pv i ys H->n (some (.str {#[c]})::C3 o d) H λy r=>Pv (i+1) (ys++[y]) r)
  (hd:∀ ys H,ys.length=z.cps.size->Pv z.cps.size ys H->∀ p,H p=none->Q (.ref p) (upd H p<|.lst ys)):D5 (PR z) (AG 0) CP n 1 o d H Q:=by
 refine{λi m a ys H=>m=z.cps.size-i/\i<=z.cps.size/\ys.length=i/\(∃ g,a=g::C3 _ d)/\Pv i ys H,{z.cps.size,rfl,aw _,rfl,⟨_,rfl⟩,h0},?_};intro i m a ys H [rfl,v,b,[g,rfl],p];by_cases j:i<z.cps.size;refine .inr {j,by lia,λx w y=>?_};let[e,c,s,y]:=y;subst e y;refine{_,λy A q=>{_,cq ‹_›,rfl,j,?_,⟨_,rfl⟩,q},l i c ys _ s b p};rw[ψ,jx,b]
 have e:i=z.cps.size:=by lia
 subst e;exact .inl {ο _,hd ys H b p}
open PySem
abbrev IY(l:wE):Prop:=l.Pairwise (· <·)
def PZ{l:wE}(R:IY l){i k a b:Nat}(h:i<k)(c:l[i]? =some a)(d:l[k]? =some b):a<b:=by
 let[h2,rfl]:=ε.mp d;let[h1,rfl]:=ε.mp c;exact wk.mp R i k h1 h2 h
structure Below(xs:Array Nat)(j r:Nat):Prop where
 le:r<=xs.size
 lo:∀ i v,i<r->xs.toList[i]? =some v->v<j
 hi:∀ i v,r<=i->xs.toList[i]? =some v->j<=v
theorem WP{xs:Array Nat}(R:IY xs.toList):∀ (d lo c:Nat),lo<=c->c<=xs.size->c-lo<=d->(∀ i v,i<lo->xs.toList[i]? =some v->v<j)->(∀ i v,c<=i->xs.toList[i]? =some v->j<=v) ->
  Below xs j (Cf xs j d lo c)
 |0,lo,c,h1,h2,h3,a,b=>by
  have e:lo=c:=by lia
  subst e;exact⟨h2,a,b⟩
 |d+1,lo,c,h1,h2,h3,a,b=>by
  unfold Cf;by_cases r:lo<c;rw[if_pos r]
  have o:(lo+c)/2<xs.size:=by lia
  have s:xs.getD ((lo+c)/2) j=xs[(lo+c)/2]:=by simp[o]
  have l:xs.toList[(lo+c)/2]? =some (xs[(lo+c)/2]):=by simp[o]
  simp only[s];split;rename_i n;refine WP R _ _ _ (by omega) h2 (by omega) (λi v g e=>?_) b;by_cases q:i=(lo+c)/2;subst q;rw[l]at e;cases e;exact n;exact ye (PZ R (show i<(lo+c)/2 by exact g_ (cy g) q) e l) n;rename_i n;refine WP R _ _ _ (by omega) (ig o) (by omega) a λi v g e=>?_;by_cases q:i=(lo+c)/2;subst q;rw[l]at e;cases e;exact bx n
  have:=PZ R (show(lo+c)/2<i by lia) l e
  lia
  rw[if_neg r]
  have e:lo=c:=by lia
  subst e;exact⟨h2,a,b⟩
def WQ(R:IY xs.toList):Below xs j (ju xs j) :=
 WP R _ _ _ (aw _) (ο _) (ο _) (λz z h=>absurd h<|mf _) λi v h e=>by
  rw[bt (h)]at e;cases e
def Below.uniq(a:Below xs j r)(b:Below xs j c):r=c:=by
 let h||h||h:=Nat.lt_trichotomy r c
 have d:=χ h b.le
 have e:xs.toList[r]? =some (xs[r]):=by simp[d]
 have:=b.lo _ _ h e
 have:=a.hi _ _ (ο _) e;omega;exact h
 have d:=χ h a.le
 have e:xs.toList[c]? =some (xs[c]):=by simp[d]
 have:=a.lo _ _ h e
 have:=b.hi _ _ (ο _) e;omega
def NotIn(t:SetTable)(j:Nat):Prop:=t.place[ju t.place j]? ≠some j
def zc9(h:t.slot j=.empty):NotIn t j:=λe=>by
 unfold I_ at h;simp only[e,beq_self_eq_true]at h;cases h
def zda(h:t.slot j=.dummy):NotIn t j:=λe=>by
 unfold I_ at h;simp only[e,beq_self_eq_true]at h;cases h
def pP(t:SetTable)(p:Ip):(t.advance p).dummy=p.dummy:=by
 unfold SetTable.advance;split<;>rfl
theorem WR:∀ (a:Nat) (p:Ip) (j:Nat) (d:Option Nat),Ci t f h a p=some (.empty j d)->(∀ x,p.dummy=some x->NotIn t x)->NotIn t (d.getD j)
 |0,p,j,d,e,_=>by cases e
 |a+1,p,j,d,e,hd=>by
  unfold Ci at e;split at e;rename_i c;cases e;cases q:p.dummy with
  |none=>exact zc9 c
  |some x=>exact hd x q
  rename_i c;refine WR _ _ j d e λx b=>?_;rw[pP]at b;obtain rfl:=θ b;exact zda c;split at e;cases e;exact WR _ _ j d e λx b=>by rw[pP]at b;exact hd x b
set_option tactic.hygienic true in
def zdb(e:t.freeSlot h=some (s,b)):NotIn t s:=by
 unfold SetTable.freeSlot at e;split at e
 ·rename_i j d a;cases e;refine WR _ _ _ _ a λx c=>?_;cases c
 ·cases e
def zdc(n:Nat):IY (Array.range n).toList:=by
 rw[Array.toList_range];exact ma
def zdd{t:SetTable}(R:IY t.place.toList)(h:NotIn t j):IY (t.put j).1.place.toList:=by
 have b:=WQ (j:=j) R
 show IY (SetTable.insertAt _ _ j).toList;rw[SetTable.toList_insertAt]
 have a:∀ v∈t.place.toList.take (ju t.place j),v<j:=λv l=>by
  let[i,d,e]:=jk l;refine b.lo i v (by rw[de]at d;lia) ?_;rw[<-e];simp only[Cn];exact ζ _
 have c:∀ v∈t.place.toList.drop _,j<v:=λv l=>by
  let[i,d,e]:=jk l
  have g:t.place.toList[ju t.place j+i]? =some v:=by
   rw[<-vp,ζ d,e]
  by_cases q:j=v;subst q
  have z:i=0:=by
   by_cases z:i=0;exact z
   have s:ju t.place j<t.place.toList.length:=by
    rw[iy]at d;lia
   have o:=ζ s
   have:=b.hi _ _ (ο _) o
   have:=PZ R (show ju _ j<ju _ j+i by lia) o g
   lia
  subst z;rw[jy]at g;exact absurd g h;exact g_ (b.hi _ _ (xw _ _) g) q
 refine List.pairwise_append.mpr {R.sublist<|Bf ..,h_.mpr {c,R.sublist<|List.drop_sublist ..},λx r y n=>?_};let rfl||n:=af.mp n
 exact a x r;exact ye (a x r) (c y n)
structure Led(led:Bool)(t:SetTable):Prop where
 rise:IY t.place.toList
 led:t.led=led
def Led.standIn{led:Bool}{t:SetTable}(h:t.led=led)(n:Nat):Led led (t.standIn n):={zdc n,h}
def Led.or{led:Bool}{t:SetTable}(h:Led led t)(n:Nat):Led led (t.orStandIn n):=by
 unfold SetTable.orStandIn;split;exact h;exact .standIn h.led n
set_option tactic.hygienic true in
def Led.layNew{led:Bool}{t:SetTable}(L:Led led t)(a:Array (Int × Value))(h:Int)(x:Value):Led led (layNew t a h x).2.1:=by
 unfold PySem.layNew;split
 ·rename_i slot b e;exact Led.or {zdd L.rise<|zdb e,L.led} _
 ·exact .standIn L.led _
def zde(owner:Array (Option Nat))(m:Nat):IY (((μ m).filterMap λj=>(owner.getD j none).map (j,·)).map (·.1)):=by
 rw[List.map_filterMap];refine(ma ).filterMap _ λa b c x d y e=>?_;simp only[zj,bc]at d e;let[z,z,rfl]:=e;let[z,z,rfl]:=d;exact c
set_option tactic.hygienic true in
def Led.relayAll{led:Bool}{t:SetTable}(h:t.led=led)(L:Led led t)(b:Array (Int × Value))(a:Nat):Led led (Co t b a).2.1:=by
 unfold PySem.relayAll;split
 ·rename_i t' order e;dsimp only;split
  ·unfold SetTable.relaid SetTable.laid at e;simp only[Option.bind_eq_bind,si,Option.pure_def,wz,Prod.mk.injEq]at e;let[owner,_,rfl,_]:=e;exact{by simpa using zde owner _,h}
  ·exact .standIn h _
 ·exact .standIn h _
def Led.plainOff{led:Bool}{t:SetTable}(L:Led led t):Led led { t with plain:=false }:=⟨L.rise,L.led⟩
def Led.fresh(led:Bool):Led led (.fresh 0 0 led):=⟨Bt,rfl⟩
def P7(xs:Array Nat):Nat->Nat
 |0=>0
 |i+1=>xs.getD i 0+1
def zdf{xs:Array Nat}(R:IY xs.toList):∀ {i:Nat},i<=xs.size->ju xs (P7 xs i)=i
 |0,_=>(WQ R).uniq {aw _,λ_ _ h=>absurd h<|mf _,λ_ _ _ _=>aw _}
 |i+1,b=>(WQ R).uniq ⟨b,λk v c e=>by
   have a:i<xs.size:=b
   have g:xs.getD i 0=xs[i]:=by simp[a]
   have d:xs.toList[i]? =some xs[i]:=by simp[a]
   show v<xs.getD i 0+1;rw[g];by_cases q:k=i;subst q;rw[d]at e;obtain rfl:=θ e;exact d_ _;exact b_ (PZ R (show k<i by exact g_ (cy c) q) e d),λk v c e=>by
   have a:i<xs.size:=b;exact PZ R (show i<k by exact c) (by simp[a]) e⟩
theorem pQ{α :Type}(next:Nat->Nat):∀ (a k:Nat) (left:List α) (out:Array α),left.length=a->oq (Cr next a k left out).toList (out.toList++left)
 |0,k,left,out,h=>by
  rw[dr.mp h];unfold Cr;simp
 |a+1,k,left,out,h=>by
  have b:next k%left.length<left.length:=nv _ (by lia);unfold Cr;rw[ζ b];refine(pQ _ _ _ _ _ (by rw[vq b];lia)).trans ?_;rw[Cs,fu];refine List.Perm.append_left _ ?_;rw[iu]
  show oq (left[next k%left.length]::(left.take _++left.drop _)) _;refine Et.symm.trans ?_;rw[<-oz b,mw]
def zdg{α :Type}(next:Nat->Nat)(xs:Array α):oq (Jr next xs).toList xs.toList:=(pQ _ _ 0 _ _<|rfl)
end L2
namespace L2
open PySem PyProof.Rows
def leads(w:World):Bool:= !w.params.followText "set-order"
def iv:Value->Int
 |.int n _=>n
 |_=>0
def IntSet(P:bu)(w:World)(h:Heap)(a:Addr)(c:vE):Prop :=
 ∃ (o:Obj) (b:Array (Int × Value)) (d:Nat) (t:SetTable),h.get? a=some o/\o.ExactSet/\o.data=.set b d t/\zu (ky P w) b.toList /\
  oq (b.toList.map λe=>iv e.2) c/\b.size<vg/\t.fits b.size=true/\Led (leads w) t
section
variable{P:bu}{w:World}{A:dh}{E:yB}{s:ν}
def WS(h:zu (ky P w) a)(he:e∈a):∃ t,e.2=.int (iv e.2) t:=by
 let[[k,b,y],y]:=h e he;let[t,z]:=sj b;exact{t,by rw[z];rfl}
def pR(h:zu (ky P w) a)(he:e∈a):(ky P w).is k e.2=true↔iv e.2=k:=by
 let[t,z]:=WS h he;rw[z];refine{λq=>?_,λq=>?_}
 have b:Gi k (.int _ t)=true:=q;let[t',c]:=sj b;cases c;rfl;rw[<-q];exact Iq ..
def pT(h:zu (ky P w) es)(p:oq (es.map λe=>iv e.2) ms)(k:Int):k∈ms↔∃ e∈es,(ky P w).is k e.2=true:=by
 rw[<-p.mem_iff,az];exact{λ⟨e,he,q⟩=>{e,he,(pR h he).mpr q},(by intro[e,he,q];exact{e,he,(pR h he).mp q})}
def pU{h:Heap}{o:Obj}{j b:Array (Int × Value)}{t t':SetTable}(l:h.get? a=some o)(hex:o.ExactSet)(hd:o.data=.set j n t)
  (c:zu (ky P w) b.toList) (q:oq (b.toList.map λe=>iv e.2) r) (d:b.size<vg) (i:t'.fits b.size=true) (L:Led (leads w) t') :
  (h.update a<|Ir b t').get? a=some { o with data:=.set b (n+1) t' }/\IntSet P w (h.update a<|Ir b t') a r:=by
 have g:=(SetOf_store   l hex hd c (λk=>by rw[fk]) d i).1;exact{g,x4 _ _ _ t' ⟨g,hex,rfl,c,q,d,i,L⟩}
def pV{g:Bool->Sem Unit}(x:∀ (b:Bool) (n:ν) (R:Unit->ν->Prop),R () n->wpAny (model P w) A (g b) R E n){o:Obj}{y c:Array (Int × Value)}{t d:SetTable}
  (q:s.heap.get? a=some o) (hex:o.ExactSet) (hd:o.data=.set y N t) (i:zu (ky P w) c.toList) (u:oq (c.toList.map λe=>iv e.2) B) (l:c.size<vg) (D:d.fits c.size=true) (L:Led (leads w) d)
  {R:Option Bool->ν->Prop} (h:∀ h',gr a s.heap h'->IntSet P w h' a B->R (some true) { s with heap:=h' }) :
  wpAny (model P w) A (do
   storeSet a c d
   if(!O&&d.tooFull)=true then do
    g (Co d c<|nz c.size).2.2
    storeSet a (Co d c<|nz c.size).1 (Co d c<|nz c.size).2.1
    pure (some true)
   else pure (some true)) R E s:=by
 refine δ<|Ct q hd ?_<|w_ l
 have j:=fm s.heap a<|Ir c d;let[g1,H]:=pU q hex hd i u l D L;split
 have p2:=relayAll_perm d c<|nz c.size
 have f2:=relayAll_fits d c<|nz c.size
 have L2:=Led.relayAll L.led L c<|nz c.size;revert p2 f2 L2;generalize Co d c _=r;let[I,Q,T]:=r;intro p2 f2 L2
 have J:I.size=c.size:=by rw[<-dk,p2.length_eq,dk]
 have v:=J ▸ l;refine δ<|x _ _ _<|δ<|Ct g1 rfl ?_<|w_ v;let[z,M]:=pU   g1 hex rfl (i.perm p2) ((p2.map _).trans u) v f2 L2;exact π<|h _ (j.trans<|fm ..) M;exact π<|h _ j H
def pW{a:vE}(h:k∈a):vt a k=a:=by
 unfold vt
 have e:(a.any λx=>x==k)=true:=fk.mpr {k,h,beq_self_eq_true k};rw[if_pos e]
def pX{a:vE}{k:Int}(h:¬ k∈a):vt a k=a++[k]:=by
 unfold vt;rw[if_neg λz=>?_];let[x,b,q]:=fk.mp z;rw[beq_iff_eq]at q;exact h<|q ▸ b
def zdh{l:vE}{Q:Bool->ν->Prop}(U:IntSet P w s.heap a l)(Y:l.length+1<vg)
    (h:∀ (b:Bool) h',gr a s.heap h'->IntSet P w h' a (vt l k)->Q b { s with heap:=h' }):wpAny (model P w) A (setAddHashed a (.int k tk) ((ky P w).hash k)) Q E s:=by
  have H:(ky P w).is k (.int k tk)=true:=Iq ..
  have d:(ub k tk).scannable=true:=rfl;generalize ub k tk=x at H d;revert U;apply u4;intro o i ep t [u,hex,hd,c,v,M,I,L]
  have CC:i.size=l.length:=by rw[<-v.length_eq,η,dk]
  have y:iv x=k:=by let[_,z]:=sj H;rw[z];rfl
  refine ff<|δ<|kg u hd I ?_;dsimp only;rw[byScan_of d M c];refine δ<|δ<|rk<|δ<|wpAny_setScan_of H u hd I c ?_;cases N:i.toList.findIdx? (λe=>(ky P w).is k _)with
  |some j =>
    let[hj,pj,_]:=List.findIdx?_eq_some_iff_getElem.mp N;refine π<|π ?_;exact(h _ _ (xa a _) (x4 o i ep t {u,hex,hd,c,by rw[pW ((pT c v k).mpr {_,ud hj,pj})];exact v,M,I,L}))
  | none =>
    have hm:¬ k∈l:=λz=>by
      let[e,he,q]:=(pT c v k).mp z
      have:=List.findIdx?_eq_none_iff.mp N e he;rw[q]at this;cases this
    have p1:=layNew_perm t i ((ky P w).hash k) x
    have f1:=layNew_fits t i ((ky P w).hash k) x
    have n:=L.layNew i ((ky P w).hash k) x;revert p1 f1 n;generalize layNew t i _ x=r;let[O,t1,wd,gv]:=r;intro p1 f1 n;dsimp only at p1 f1 n ⊢;rw[Cs]at p1
    have g:=(c.push H d).perm p1
    have T:oq (O.toList.map λe=>iv e.2) (vt l k):=by
      rw[pX hm];refine(p1.map _).trans ?_;rw[au,df,yg,y];exact List.Perm.append_right _ v
    have B:O.size<vg:=by
      rw[<-dk,p1.length_eq,ψ,dk,CC];exact Y
    have gw:∀ (b:Bool) (D:ν) (R:Unit->ν->Prop),R () D ->
        wpAny (model P w) A (match b with
          |true=>rule "set.scan.the-table-gave-way"
          |false=>pure ()) R E D:=λb D R q=>by
      cases b
      ·exact π q
      ·exact rk q
    refine δ<|gw _ _ _ ?_;split;refine δ ?_;rw[hashByValue_scannable 8 d];refine π<|pV ?_ u hex hd g T B ?_ ?_ λh' sb J=>?_;intro b D R q;cases b;exact π q;exact rk q;split;exact f1;exact SetTable.fits_plain_off f1;split;exact n;exact n.plainOff;exact π<|h _ h' sb J;refine pV ?_ u hex hd g T B f1 n λh' sb J=>?_;intro b D R q;cases b;exact π q;exact rk q;exact π<|h _ h' sb J
def IntSet.at(x:IntSet P w h a b)(k:∀ o,h.get? a=some o->h'.get? a=some o):IntSet P w h' a b:=by
 revert x;apply u4;intro o c d t [e,r];exact x4 o c d t {k _ e,r}
end
section
variable{P:bu}{w:World}{A:dh}{R:Result->ν->Prop}{I:Addr}{fp wr:uD}{G:Array A_->Array A_->Prop}{n:Nat}{T:Nat->Value->Prop}{St:Nat->ν->Prop}
def zdi(W:WalksS P w A.in1 I fp wr G n T St)(a:Addr)(r:a∉fp)(val:Nat->Int)(y:∀ i v,T i v->∃ t,v=.int (val i) t)(g:n+1<vg):∀ (k i:Nat) (s:ν),n-i=k->i<=n->St i s ->
  IntSet P w s.heap a (vx val i)->(∀ c,Moved (a::wr) G s c->IntSet P w c.heap a (vx val n)->R (.ok<|.ret .none) c) ->
  ui (model P w) A (.builtin "set.update.loop" {[.ref a,.ref I],[]}) R s:=by
 have up:∀ b∈wr,b∈a::wr:=λb q=>ω _ q
 have d:=λz=>r<|W.sub _ z;intro k
 induction k with
 |zero =>
  intro i s B D st S q;obtain rfl:i=n:=by lia
  exact mh pd<|δ<|W.done s _ _ st λc m=>(π<|q c (m.mono up) (S.at λo e=>m.heap a o d e))
 |succ k E =>
  intro i s B D st S q
  have u:i<n:=by omega
  refine mh pd ?_;refine δ<|W.item i s _ _ u st λv j H l m=>?_;let[t,rfl]:=y i v H
  show wpAny _ A.in1 (ss [ub (val i) t] (setAdd a<|.int (val i) t)>>=_) _ _ j;refine δ<|ff ?_;refine ff (δ ((ky P w).pyHash (k:=val i) (Iq ..) (zdh (s:={ j with toks:=j.toks+1 }) (S.at λo e=>m.heap a o d e) (by have:=vy val i;lia) λb h' sb x=>?_)));rw[<-firstMet_succ]at x;refine π {xm zv _,E (i+1) _ (by omega) u (W.frame _ j _ _ l (ic _) λb g o e=>?_) x λJ L M=>?_};rw[sb.2 b λz:b=a=>r<|z ▸ g];exact e
  ·refine q J (Moved.trans W.gtrans ((m.mono up).then_heap (ic _) λb o g e=>?_) L) M;rw[sb.2 b λz:b=a=>g<|z ▸ aa];exact e
end
section
variable{P:bu}{w:World}{A:dh}{E:yB}{s:ν}
def zdj(h:Q (.ref s.heap.objs.size) { s with heap:=s.heap.push { cls:=.type "set",dict:=none,data:=.set #[] 0 (.fresh 0 0<|leads w) } }) :
  ui (model P w) A (.call (.builtin "set.__new__") {[.type "set",x],[]}) (wants Q E) s:=by
 refine codeAny_of_tree<|δ<|Gs (PySem.F.newCall_set_1 x) (π {xm PySem.F.plain_set_new _,mh PySem.F.entry_set_new ?_})
 have e:=sub_set_self
 wp_walk
 refine lg<|π ?_;exact δ<|wpAny_alloc<|π<|π h
end
end L2
namespace L2
open PySem PyProof.Rows
abbrev KB(f:Value)(i:Nat)(a:Addr)(n b:Nat):Obj:={ cls:=.type "set_iterator",dict:=none,data:=.fields #[f,mv i,.ref a,mv n,mv b],slots:= #[] }
def IE:Slot "set_iterator" "__next__" "set_iterator.__next__" :=
 .of (owner:="set_iterator") (n:="__next__") (by kernel_rfl) (by decide) (by decide) (by decide)
  (by first|exact .inl (by decide)|exact .inr (by decide))
  (by kernel_rfl)
def SN:entryFor table "set_iterator.__next__"=some ul.«set_iterator.__next__» :=entryFor_of_fast (by kernel_rfl)
def SO(a:Value):argsOk "set_iterator.__next__" {[a],[]}:=by
 kernel_rfl
def pY:Slot "set_iterator" "__iter__" "set_iterator.__iter__" :=
 .of (owner:="set_iterator") (n:="__iter__") (by kernel_rfl) (by decide) (by decide) (by decide)
  (by first|exact .inl (by decide)|exact .inr (by decide))
  (by kernel_rfl)
section
variable{P:bu}{w:World}{A:dh}{E:yB}{s:ν}
def zdk{it a:Addr}{e i n b nx:Nat}{x:Value}{o:Obj}{c:Array (Int × Value)}{d:Nat}{t:SetTable}{Q:Option Value->ν->Prop}(hit:s.heap.get? it=some (KB (mv e) i a n b))
  (j:s.heap.get? a=some o) (hd:o.data=.set c d t) (l:t.fits c.size=true) (r:c.size=n)
  (u:∀ (v:dh) (y:yB) (g:Option (Value × Nat)->ν->Prop),g (some (x,nx)) s->wpAny (model P w) v (Cu a e i b) g y s)
  (q:∀ h',h'.get? it=some (KB (mv nx) (i+1) a n b)->gr it s.heap h'->Q (some x) { s with heap:=h' }):wpAny (model P w) A (yz<|.ref it) Q E s:=by
 have T:s.TypeIs (.ref it) _:=⟨_,hit,rfl⟩
 refine δ<|kx<|ee  T IE (fg IE T SN (δ<|π<|δ<|vz hit rfl<|δ<|k_ j hd l ?_) (SO _));rw[if_neg (by rw[r];simp)];exact δ (u _ _ _ (δ (jv hit (by simp) λh1 g1 z=>(δ (jv g1 (by simp) λh2 g2 B=>(π {_,rfl,π<|q h2 g2<|z.trans B}))))))
def pZ{Q:Except Value (Option Value)->ν->Prop}(a:A.handled=none)(b:nu it s.heap h1)
  (q:∀ h' e,nu it s.heap h'->({ s with heap:=h' }:ν).TypeIs e "StopIteration"->Q (.error e) { s with heap:=h' }) :
  wpAny (model P w) A (newExc (.type "StopIteration") []>>=raiseNew (α :=Fin)) (λz z=>False) (λe=>Q<|.error e) { s with heap:=h1 }:=by
 refine δ (δ (fq (δ  (Gs  (by first|rfl|(rfl)) (fq (δ<|wpAny_handled ?_) (by size_fits)))) (by size_fits)));rw[a];refine δ<|π<|wpAny_throw ?_;exact q _ _ ((b.push _).push _) {_,ak _ rfl,rfl}
def zdl{it a:Addr}{g i n j:Nat}{o:Obj}{c:Array (Int × Value)}{d:Nat}{t:SetTable}{Q:Option Value->ν->Prop}(v:A.handled=none)(hit:s.heap.get? it=some (KB (mv g) i a n j))
  (x:s.heap.get? a=some o) (hd:o.data=.set c d t) (y:t.fits c.size=true) (B:c.size=n)
  (D:∀ (H:dh) (I:yB) (l:Option (Value × Nat)->ν->Prop),l none s->wpAny (model P w) H (Cu a g i j) l I s)
  (q:∀ h',nu it s.heap h'->Q none { s with heap:=h' }):wpAny (model P w) A (yz<|.ref it) Q E s:=by
 have T:s.TypeIs (.ref it) _:=⟨_,hit,rfl⟩
 refine δ<|kx<|ee  T IE (fg IE T SN (δ<|π<|δ<|vz hit rfl<|δ<|k_ x hd y ?_) (SO _));rw[if_neg (by rw[B];simp)];refine δ (D _ _ _ (δ (jv hit (by simp) λh1 g1 J=>?_)));exact ni (pZ    (Q:=λr u=>match r with
  |.error e=>wpAny _ A (Io e _>>=λb=>if b=true then pure _ else throw e) Q E u
  |_=>False) (v) J.extBut λh' e L M=>(δ<|lj   M zk (π<|q _ L))) (λ_ _ z=>z.elim) (λe u z=>z)
def zdm{it a c:Addr}{i n d g:Nat}{j:Obj}{ps:Array Value}{k:Nat}{x:Int × Value}{o:Obj}{b:Array (Int × Value)}{t:SetTable}{Q:Option Value->ν->Prop}(hit:s.heap.get? it=some (KB (.ref c) i a n d))
  (l:s.heap.get? a=some o) (hd:o.data=.set b d t) (r:t.fits b.size=true) (u:b.size=n) (v:s.heap.get? c=some j) (e:j.data=.seq ps k) (y:ps[i]? =some (mv g)) (z:b[g]? =some x)
  (q:∀ h',h'.get? it=some (KB (.ref c) (i+1) a n d)->gr it s.heap h'->Q (some x.2) { s with heap:=h' }):wpAny (model P w) A (yz<|.ref it) Q E s:=by
 have T:s.TypeIs (.ref it) _:=⟨_,hit,rfl⟩
 refine δ<|kx<|ee  T IE (fg IE T SN (δ<|π<|δ<|vz hit rfl<|δ<|k_ l hd r ?_) (SO _));rw[if_neg (by rw[u];simp)];refine δ<|zi v e ?_;dsimp only;rw[bv,y]
 show wpAny _ _ (setNextDrawn a _ _>>=_) _ _ s;rw[bv];refine δ<|δ<|kg l hd r ?_;dsimp only;rw[if_neg (by simp),z];exact π (δ (jv hit (by simp) λh2 g2 B=>(π {_,rfl,π<|q h2 g2 B})))
def zdn{g:Obj}{o:Obj}{c:Array (Int × Value)}{t:SetTable}{Q:Option Value->ν->Prop}(l:A.handled=none)(hit:s.heap.get? it=some (KB (.ref u) i a n v))
  (x:s.heap.get? a=some o) (hd:o.data=.set c v t) (y:t.fits c.size=true) (B:c.size=n) (D:s.heap.get? u=some g) (d:g.data=.seq ps k) (H:ps[i]? =none)
  (q:∀ h',nu it s.heap h'->Q none { s with heap:=h' }):wpAny (model P w) A (yz<|.ref it) Q E s:=by
 have T:s.TypeIs (.ref it) _:=⟨_,hit,rfl⟩
 refine δ<|kx<|ee  T IE (fg IE T SN (δ<|π<|δ<|vz hit rfl<|δ<|k_ x hd y ?_) (SO _));rw[if_neg (by rw[B];simp)];refine δ<|zi D d ?_;dsimp only;rw[bv,H];refine δ (jv hit (by simp) λh1 g1 I=>(δ (jv g1 (by simp) λh2 g2 J=>?_)));exact ni (pZ (s:=s)   (Q:=λr j=>match r with
  |.error e=>wpAny _ A (Io e _>>=λb=>if b=true then pure _ else throw e) Q E j
  |_=>False) (l) (I.trans J).extBut λh' e L M=>(δ<|lj   M zk (π<|q _ L))) (λ_ _ z=>z.elim) (λe j z=>z)
def zdo(b:w.params.followText "set-order"=true)(c:s.heap.get? a=some o)(hd:o.data=.set d g t)(j:t.fits d.size=true)
  (q:Q (((Jr (w.params.setOrder a g) d)[i]?).map λe=>(e.2,0)) s):wpAny (model P w) A (Cu a 0 i g) Q E s:=by
 refine δ<|kg c hd j<|δ<|δ<|lg<|π ?_
 show wpAny _ _ (if w.params.followText _=true then _ else _) _ _ s;rw[if_pos b,if_neg (by simp)];refine δ<|δ<|kg c hd j<|δ<|δ<|lg<|π ?_
 show wpAny _ _ (if w.params.followText _=true then _ else _) _ _ s;rw[if_pos b];exact δ<|lg<|π<|π q
def zdp(g:w.params.followText "set-order"=false)(j:s.heap.get? a=some o)(hd:o.data=.set b l t)(c:t.fits b.size=true)
  (L:Led (leads w) t) (n:(!t.plain&&decide (b.size > 1))=false) (r:i<=b.size) (q:Q ((b[i]?).map λe=>(e.2,P7 t.place<|i+1)) s):wpAny (model P w) A (Cu a (P7 t.place i) i l) Q E s:=by
 have hz:t.place.size=b.size:=by
  unfold SetTable.fits at c;simp only[cb,beq_iff_eq]at c;exact c.1
 refine δ<|kg j hd c<|δ<|δ<|lg<|π ?_
 show wpAny _ _ (if w.params.followText _=true then _ else _) _ _ s
 have ld:t.led=true:=by rw[L.led];unfold leads;rw[g];rfl
 rw[if_neg (show ¬ w.params.followText _=true by rw[g];exact ax)]
 show wpAny _ _ (if(!t.plain&&decide _)=true then _ else _) _ _ s;rw[if_neg (by rw[n];exact ax)];refine δ (m:=if(!t.led && !b.isEmpty)=true then _ else _) ?_;rw[if_neg (by rw[ld];simp)];refine π<|π ?_;rw[zdf L.rise (υ r<|ay hz.symm)];by_cases d:i<b.size
 have h2:=hz ▸ d;rw[dt _,dt h2];rw[dt d]at q
 have:P7 t.place (i+1)=t.place[i]+1:=by simp[P7,h2]
 rw[this]at q;exact q;rw[yh (bx d)];rw[yh (bx d)]at q;exact q
end
end L2
namespace L2
open PySem PyProof.Rows
def zdq:entryFor table "set.__iter__"=some ul.«frozenset.__iter__» :=entryFor_alias (id':="frozenset.__iter__") (by kernel_rfl) rfl (by decide +kernel) (by kernel_rfl)
def zdr:entryFor table "set_iterator.__iter__"=some ul.«dict_keyiterator.__iter__» :=entryFor_alias (id':="dict_keyiterator.__iter__") (by kernel_rfl) rfl (by decide +kernel) (by kernel_rfl)
def zds(a:Value):argsOk "set_iterator.__iter__" {[a],[]}:=by
 kernel_rfl
structure WT(P:bu)(w:World)(A:dh)(h h1:Heap)(a I:Addr)(ms:vE):Prop where
 ex:∃ (fp:uD) (ord:yC) (ks:vE) (St:Nat->Heap->Prop),(∀ b∈fp,b=a\/h.objs.size<=b)/\Walks P w A I fp [I] ord.length (λi v=>ord[i]? =some v) St/\St 0 h1/\qu ord ks/\ks.Perm ms
 new:h.objs.size<=I
section
variable{P:bu}{w:World}{A:dh}{E:yB}{s:ν}
theorem WU:∀ {a:List (Int × Value)},zu (ky P w) a->qu (a.map (·.2)) (a.map λe=>iv e.2)
 | [],_=>.nil
 |e::r,h=>by
  let[t,z]:=WS h<|aa ..;rw[df,z];exact .cons _ _<|WU h.tail
def p0(hit:s.heap.get? it=some (KB f i a n b))(q:Q (.ref it) s):wpAny (model P w) A (Ea<|.ref it) Q E s:=by
 have T:s.TypeIs (.ref it) _:=⟨_,hit,rfl⟩
 exact C_ T pY<|fg pY T zdr (π {_,rfl,x2 _ _ ⟨T,IE.lookup,q⟩}) (zds _)
def zdt{l:Array (Int × Value)}{t:SetTable}{o:Obj}{f:Nat->Nat}{ord:yC}(N:A.handled=none)(B:a≠I)(hd:o.data=.set l J t)(L:t.fits l.size=true)(O:ord.length=l.size)
  (nx:∀ (s:ν),s.heap.get? a=some o->∀ (i:Nat),i<=l.size->∀ (n:dh) (r:yB) (d:Option (Value × Nat)->ν->Prop),d ((ord[i]?).map λv=>(v,f<|i+1)) s->wpAny (model P w) n (Cu a (f i) i J) d r s) :
  Walks P w A I [I,a] [I] ord.length (λi v=>ord[i]? =some v) (λi h=>h.get? I=some (KB (mv<|f i) i a l.size J)/\h.get? a=some o) where
 sub:=λb M=>by simp at M;simp[M]
 frame:=λj j j st k=>{k I (by simp) _ st.1,k a (by simp) _ st.2}
 item:=λi s Q E T st q=>by
  have e:=ζ T;exact zdk st.1 st.2 hd L rfl (λn r d D=>nx s st.2 i (by lia) n r d (by rw[e];exact D)) λh' g b=>(q _ h' _ e {g,b.extBut a _ B st.2} λc u H z=>b.extBut c u (λy=>H (by simp[y])) z)
 done:=λs Q E st q=>zdl N st.1 st.2 hd L rfl (λn r d D=>nx s st.2 _ (ay O) n r d (by rw[bt (ο _)];exact D)) λh' x=>(q h' _ λc u H z=>x c u (λy=>H (by simp[y])) z)
 self:=λj j j j st q=>p0 st.1 q
def zdu{n:Array (Int × Value)}{t:SetTable}{o J:Obj}{r:wE}{ord:yC}(O:A.handled=none)(B:a≠I)(D:d≠I)(hd:o.data=.set n T t)(L:t.fits n.size=true)
  (l:J.data=.seq (r.map λ(i:Nat)=>mv i).toArray k) (M:ord.length=r.length) (U:∀ (i p:Nat),r[i]? =some p->∃ e:Int × Value,n[p]? =some e/\ord[i]? =some e.2) :
  Walks P w A I [I,a,d] [I] ord.length (λi v=>ord[i]? =some v) (λi h=>h.get? I=some (KB (.ref d) i a n.size T)/\h.get? a=some o/\h.get? d=some J) where
 sub:=λb N=>by simp at N;simp[N]
 frame:=λj j j st k=>{k I (by simp) _ st.1,k a (by simp) _ st.2.1,k d (by simp) _ st.2.2}
 item:=λi s Q E Y st q=>by
  have e:=ζ<|M ▸ Y;let[x,e1,e2]:=U i _ e;exact zdm st.1 st.2.1 hd L rfl st.2.2 l (by rw[yv,ρ,e];rfl) e1 λh' g b=>(q _ h' _ e2 {g,b.extBut a _ B st.2.1,b.extBut d _ D st.2.2} λc u H z=>b.extBut c u (λy=>H (by simp[y])) z)
 done:=λs Q E st q=>zdn O st.1 st.2.1 hd L rfl st.2.2 l (by rw[yv,ρ,bt<|ay M.symm];rfl) λh' x=>(q h' _ λc u H z=>x c u (λy=>H (by simp[y])) z)
 self:=λj j j j st q=>p0 st.1 q
def zdv(a:n≠0)(q:∀ i d,i<n->Q i { s with drawn:=d }):wpAny (model P w) A (choose .order n) Q E s:=fun Γ p hΓ =>{a,(q _ _<|nv _<|rn a)}
theorem qB{α :Type}:∀ (n:Nat) (xs:List α) (s:ν) (Q:List α ->ν->Prop),xs.length=n->(∀ ys d,oq ys xs->Q ys { s with drawn:=d })->wpAny (model P w) A (drawOrder n xs) Q E s
 |0,xs,s,Q,a,q=>by
  have  :=dr.mp a;subst this;exact π<|q [] _ .nil
 |n+1,[],s,Q,a,q=>by cases a
 |n+1,x::r,s,Q,a,q=>by
  refine δ (zdv (by simp) λi d b=>?_);rw[ζ b];refine δ (qB n _ _ _ (by rw[vq b,a];rfl) λys c p=>(π<|q _ c<|(List.Perm.cons _ p).trans ?_));rw[iu];refine Et.symm.trans ?_;rw[<-oz b,mw]
def zdw{Q:yB}(hh:A.handled=none)(S:IntSet P w s.heap a U)
    (q:∀ I h1 d1,(∀ b o,s.heap.get? b=some o->h1.get? b=some o)->WT P w A s.heap h1 a I U->Q (.ref I) { s with heap:=h1,drawn:=d1 }):wpAny (model P w) A (Ea<|.ref a) Q E s:=by
  revert S;apply u4;intro o c ep t [g,hex,hd,B,hp,D,n,L]
  have T:s.TypeIs (.ref a) _:=⟨o,g,hex.1⟩
  have A1:=aj g;refine C_ T PySem.F.slot_set_iter<|fg PySem.F.slot_set_iter T zdq (δ<|π<|δ<|δ<|k_ g hd n<|π<|δ<|δ<|kg g hd n<|δ<|δ<|lg<|π<|π ?_) (PySem.F.args_set_iter_1 _)
  have plain:∀ (f:Nat->Nat) (ord:List _),f 0=0->ord.length=c.size->(∃ Y,qu _ Y/\Y.Perm U) ->
      (∀ (s:ν),s.heap.get? a=some o->∀ (i:Nat),i<=c.size->∀ (A':dh) (E':yB) (Q':Option _->ν->Prop),Q' ((ord[i]?).map _) s->wpAny _ A' (Cu a (f i) i ep) Q' E' s) ->
      WT P w A _ _ a _ U:=λf ord f0 H ⟨Y,J,pk⟩ nx =>
    ⟨⟨_,_,Y,_,λb D=>by
        simp only[af,ca,or_false]at D;let rfl||rfl:=D
        exact .inr<|ο _;exact .inl rfl,zdt hh (bm A1) hd n H nx,{ak _ rfl,ξ _ g},J,pk⟩,ο _⟩
  have fin:∀ (W:WT P w A _ _ a _ U),
      wpAny (model P w) A.in1 (do
        let first ← (pure<|mv 0)
        ret (← newFields _ [first,mv 0,.ref a,mv c.size,mv<|← setEpoch a])) (λfin s'=>∃ v,fin=.done (.ret v)/\∃ T' r,s'.TypeIs v T'/\Ii (.type T') _=pure (some r)/\Q v s') E s:=λW=>δ<|π<|δ<|De g hd n<|δ<|fq<|π {_,rfl,x2 _ _ {{_,ak _ rfl,rfl},IE.lookup,(q _ _ _ (λb u e=>ξ _ e) W)}}
  show wpAny _ _ (if(!w.params.followText _&&(!t.plain&&decide _))=true then _ else _) _ _ s;cases ft:w.params.followText _ with
  |true =>
    have pk:=zdg (w.params.setOrder a ep) c
    have H:(Jr (w.params.setOrder a ep) c).size=c.size:=by rw[<-dk,pk.length_eq,dk]
    refine fin (plain (λj=>0) _ rfl (by rw[η,dk,H]) {_,WU<|B.perm pk,(pk.map _).trans hp} λs1 h1 i J A' E' Q' M=>(zdo ft h1 hd n ?_));rw[ρ,jy,zj]at M;exact M
  | false =>
    cases pl:(!t.plain&&decide (c.size > 1))with
    |false =>
      refine fin (plain _ (c.toList.map (·.2)) rfl (by rw[η,dk]) {_,WU B,hp} λs1 h1 i J A' E' Q' M=>(zdp ft h1 hd n L pl J ?_));rw[ρ,jy,zj]at M;exact M
    | true =>
      rw[if_pos (by simp)];refine δ<|qB c.size (μ c.size) s _ (cz) λys d p=>?_
      have hy:ys.length=c.size:=by rw[p.length_eq,cz]
      have N:∀ x∈ys,x<c.size:=λx hx=>ao.mp<|p.mem_iff.mp hx;refine δ (wpAny_newTuple ?_ (by rw[η,hy];exact w_ D));refine δ<|De (o:=o) (ξ _ g) hd n ?_;refine δ<|fq<|π {_,rfl,x2 "set_iterator" _ {{_,ak _ rfl,rfl},IE.lookup,?_}};refine q _ _ d (λb u e=>ξ _<|ξ _ e) ⟨⟨_,ys.map λp=>(c[p]?.map (·.2)).getD .none,ys.map λp=>(c[p]?.map λe=>iv e.2).getD 0,_,λb D=>?_,
        zdu hh ?_ ?_ hd n rfl (by rw[η]) λi p e=>?_,{ak _ rfl,ξ _<|ξ _ g,ξ _<|ak _ rfl},?_,?_⟩,?_⟩
      · simp only[af,ca,or_false]at D
        let rfl||rfl||rfl:=D
        ·right;rw[ue];exact ic _
        ·exact .inl rfl
        ·exact .inr<|ο _
      ·rw[ue];exact bm<|ki A1
      ·rw[ue];exact bm<|d_ _
      · have O:p<c.size:=N p (ι e)
        exact{c[p],dt O,by rw[ρ,e];simp[O]}
      · have all:∀ (l:wE),(∀ x∈l,x<c.size)->qu (l.map λp=>(c[p]?.map (·.2)).getD .none) (l.map λp=>(c[p]?.map λe=>iv e.2).getD 0):=by
          intro l
          induction l with
          |nil=>exact λj=>.nil
          |cons x r ih =>
            intro H
            have hx:=H x<|aa ..;let[tk,z]:=WS B (e:=c[x]) (by simp)
            have e1:(c[x]?.map (·.2)).getD kq=ub (iv c[x].2) tk:=by rw[dt hx];exact z
            have e2:(c[x]?.map λe=>iv e.2).getD 0=iv c[x].2:=by rw[dt hx];rfl
            rw[df,df,e1,e2];exact .cons _ _<|ih λy hy=>H y<|ω _ hy
        exact all ys N
      · refine(p.map _).trans (List.Perm.trans (List.Perm.of_eq ?_) hp)
        refine List.ext_getElem (by simp) λi h1 h2=>?_
        have J:i<c.size:=by simpa using h1
        simp[J]
      ·rw[ue];exact ic _
def zdx(T:s.TypeIs (.ref a) "set")(q:Q false s):wpAny (model P w) A (Builtin.List.listLengthHint<|.ref a) Q E s:=by
 refine δ<|qt T PySem.F.slot_set_len.lookup ?_;generalize c:("set.__len__")=d;subst c;exact δ (lj  (b:=true) T (by rw[isSubtype_type];kernel_rfl) (wpAny_ite_split (λz=>absurd z (by decide)) (λy=>(wpAny_ite_split (λy=>(δ<|va T<|π q)) (λz=>absurd (by decide) z)))))
def zdy(hh:A.handled=none)(S:IntSet P w s.heap a M)(hn:M.length<=sizeLine)
  (q:∀ h' tk d vs D,(∀ b o,s.heap.get? b=some o->h'.get? b=some o)->s.heap.objs.size<=h'.objs.size->qu vs D->D.Perm M->R vs { s with heap:=h',toks:=tk,drawn:=d }):wpAny (model P w) A (collect<|.ref a) R E s:=by
 have O:=let ⟨_,_,_,_,Q,_⟩:=S;aj Q
 refine δ<|wpAny_runValue<|mh entry_proto_collect' ?_;refine δ<|fq<|π {xm PySem.F.plain_list_iadd _,mh entry_list_iadd' ?_}
 show wpAny _ A.in1 (Builtin.List.listExtendWith (.ref s.heap.objs.size) (.ref a) (.ref s.heap.objs.size)) _ _ _;generalize H:s.heap.objs.size=N at O ⊢
 have U:(s.heap.push { cls:=.type "list",data:=.seq ([]:yC).toArray }).get? N=some { cls:=.type "list",data:=.seq #[] }:=H ▸ ak _ rfl
 have g:∀ b o,s.heap.get? b=some o->(s.heap.push { cls:=.type "list",data:=.seq ([]:yC).toArray }).get? b=some o:=λb o e=>ξ _ e
 have J:=S.at λo e=>g a o e
 have big:(s.heap.push { cls:=.type "list",data:=.seq ([]:yC).toArray }).objs.size=N+1:=by rw[ue,H]
 revert U g J big;generalize s.heap.push { cls:=.type "list",data:=.seq ([]:yC).toArray }=h0;intro U g J big
 have T1:∀ h':Heap,(∀ b o,h0.get? b=some o->h'.get? b=some o)->∀ tk d,({ s with heap:=h',toks:=tk,drawn:=d }:ν).TypeIs (.ref a) "set":=λh' k tk d=>by
  revert J;apply u4;intro o x x x [Q,hex,x];exact{o,k _ _ Q,hex.1}
 have ne:xn (.ref N) (.ref a)=false:=by
  simp only[xn,beq_eq_false_iff_ne];exact ja O
 refine δ<|va (T:="set") (T1 h0 (λx x e=>e) s.toks s.drawn) ?_
 have n1:(nc "set" == nc "list")=false:=by decide
 have n2:(nc "set" == nc "tuple")=false:=by decide
 simp only[ne,n1,n2,fi,rq,if_false];refine δ (zdw (A:=A.in1) (s:={ s with heap:=h0 }) (by simpa using hh) J λI h1 Y k1 W=>?_);let[[fp,ord,D,St,hfp,W,st,hi,pk],hI]:=W
 have CC:ord.length=M.length:=by rw[zl hi,pk.length_eq]
 have hI:=big ▸ hI;refine δ<|ff<|zdx (T1 h1 k1 s.toks Y) ?_;refine δ<|rk<|δ ?_
 have g1:=k1 _ _ U
 have g2:=dw (l_ (·.push kq)) g1 rfl;refine δ (yr (s:={ s with heap:=h1,drawn:=Y }) g1 rfl (yr (hz:=by seq_fits) g2 rfl ?_))
 have r:∀ b o,b≠N->h1.get? b=some o->((h1.update N (l_ (·.push kq))).update N (l_ (·.pop))).get? b=some o:=λb o n e =>
  (da _ _<|eh n).trans ((da _ _<|eh n).trans e)
 have u:N∉fp:=λz=>by
  let y||y:=hfp N z
  ·exact ja O y
  ·have y':h0.objs.size<=N:=y;rw[big]at y';exact absurd y'<|Nat.not_succ_le_self _
 refine π {xm PySem.F.plain_extend_loop _,(codeAny_extend_loopS W.toS (by rw[CC];exact hn) N u (.ref N) ord.length 0 _ #[] _ rfl (aw _) (W.frame 0 _ _ st λb n o e=>r b o (λz=>u<|z ▸ n) e) (dw (l_ (·.pop)) g2 rfl) (ItemsOf.nil _) λs' L c m g4 j=>?_)};refine δ<|wpAny_load g4 ?_;refine π ?_
 have v:L.toList=ord:=by
  refine xb λi=>?_;by_cases l:i<ord.length
  ·have h3:i<L.size:=by rw[j.1];exact l
   have:=j.2 i L[i] (dt h3);rw[jy,dt h3,this]
  ·have e1:L.toList[i]? =none:=bt (by rw[dk,j.1];exact bx l)
   have e2:ord[i]? =none:=bt<|bx l;rw[e1,e2]
 rw[v];let[h3,gn3,B,tk3,os3]:=s'
 have a1:gn3=s.gens:=m.gens
 have a2:B=Y:=m.drawn
 have a3:os3=s.os:=m.os;subst a1;subst a2;subst a3;refine q _ _ B ord D (λb o e=>?_) (by rw[H];exact ig<|aj g4) hi pk
 have n:b<N:=H ▸ aj e;refine m.heap b o (λz=>?_) (r b o (bm n) (k1 _ _<|g _ _ e));simp only[af,ca,or_false]at z;let z||z:=z
 ·exact bm n z
 ·exact bm (χ (ki n) hI) z
def zdz(v:A.handled=none)(S:IntSet P w s.heap a j)(l:j.length<64)
  (q:∀ D h' tk d c out i,(∀ b o,s.heap.get? b=some o->h'.get? b=some o)->s.heap.objs.size<=D->h'.get? D=some (seqObj "list" out c)->qu out.toList i->i.Perm j->i.Pairwise (· <=·)->Q (.ref D) { s with heap:=h',toks:=tk,drawn:=d }) :
  wpAny (model P w) A (call (.builtin "sorted") [.ref a]) Q E s:=by
 refine Calls.call_function_entry kind_sorted plain_sorted entry_sorted (args_sorted1 _) (δ  (π<|δ<|zdy  (v) S (oB l rfl) λh1 tk d vs i k1 size_le n pk=>?_))
 have r:vs.length<64:=by rw[zl n,pk.length_eq];exact l
 have g:(h1.push _).get? _=some (seqObj "list" vs.toArray 0):=ak _ rfl;refine δ<|wpAny_newList (δ<|ff<|fg slot_list_sort ⟨_,g,rfl⟩ entry_list_sort (list_sort_tree g n r λout x y p1 z=>{_,rfl,?_}) (args_list_sort _)) (oB r rfl);let[c,gc]:=sortedHeap_at   g;refine π {_,rfl,q _ _ tk d c _ _ (λb o e=>?_) size_le gc y (p1.trans pk) z}
 have u:=aj<|k1 _ _ e;rw[sortedHeap_old (bm u) (by rw[ue];exact ki u)];exact ξ _<|k1 _ _ e
end
end L2
namespace L2
open PySem PyProof.Rows
section
variable{P:bu}{w:World}{A:dh}{E:yB}{s:ν}
def zd0(hh:A.handled=none)(hl:s.heap.IsList l g)(hi:qu g.toList ns)(n:g.size+1<vg)
  (q:∀ h' tk,IntSet P w h' s.heap.objs.size (vx (λi=>ns.getD i 0) g.size)->(∀ b o,s.heap.get? b=some o->h'.get? b=some o)->Q (.ref s.heap.objs.size) { s with heap:=h',toks:=tk }) :
  wpAny (model P w) A (call (.type "set") [.ref l]) Q E s:=by
 refine u2 ?_ PySem.F.called_set.mro;rintro c tl mro
 have made:=PySem.F.called_set.made
 have sub:=PySem.F.called_set.sub;refine ya<|codeAny_of_tree ?_
 show wpAny _ _ (callAny (.type "set") _) _ _ _;refine π {Code.quiet_builtin _ (by decide +kernel),mh PySem.F.entry_type_call ?_};rw[Around.under_plain (weight_type_call_type "set" [.ref l] []) rfl]
 have n1:=PySem.F.called_set.notType
 have n2:=PySem.F.called_set.canCreate
 have n3:=PySem.F.typeCall_set_1<|.ref l
 repeat (any_goals (first|assumption|wp_step))
 generalize u:({ cls:=.type "set",dict:=none,data:=.set #[] 0 (.fresh 0 0<|leads w) }:Obj)=d;refine l8 (zdj (E:=E) (Q:=λx U=>x=.ref s.heap.objs.size/\U={ s with heap:=s.heap.push d }) {rfl,by rw[<-u]}) λr U B=>?_;cases r with
 |error e=>exact B
 | ok fl =>
  cases fl with
  | ret x =>
   let[rfl,rfl]:=B
   have y:(s.heap.push d).get? s.heap.objs.size=some d:=ak _ (by rw[<-u];rfl)
   have D:Shared.TypeIs { s with heap:=s.heap.push d } (.ref s.heap.objs.size) "set":={_,y,by rw[<-u]}
   have i1:=PySem.F.called_set.init.lookup
   have i2:=PySem.F.called_set.init.bind<|.ref s.heap.objs.size
   repeat (any_goals (first|assumption|wp_step))
   refine l8 (zh (R:=wants (λr Y=>r=.none/\∃ h' tk,Y={ s with heap:=h',toks:=tk }/\IntSet P w h' s.heap.objs.size (vx (λi=>ns.getD i 0) g.size) /\
    (∀ b o,s.heap.get? b=some o->h'.get? b=some o)) E) PySem.F.called_set.init.plain PySem.F.entry_set_init (check_set_init_1 D ?_)) λr2 Y H=>?_
   ·let[ol,gl,cl,nl,dl]:=hl;let[c1,d1,dt1,sl1]:=ol;simp only at cl dl;subst cl;subst dl
    have j:=ξ d gl
    have e1:=PySem.F.sub_list_set
    have e2:=PySem.F.sub_list_frozenset
    have e3:(nc "list" == nc "dict")=false:=by decide
    have z:(s.heap.push d).IsList l g:=⟨_,j,rfl,nl,rfl⟩
    have A1:l<s.heap.objs.size:=aj gl
    have big:=ue s.heap d;revert j z y D big
    have a:∀ b o,s.heap.get? b=some o->(s.heap.push d).get? b=some o:=λb o e=>ξ _ e;revert a;generalize s.heap.push d=h0;intro a y D j z big;subst u;unfold ul.«set.__init__» noKeywords G_;generalize I:Ea=PI
    wp_walk
    subst I;refine wy z ?_;refine δ<|wpAny_runValue ?_
    have J:A.in1.in1.in1.handled=none:=by simp[hh]
    have L:l≠h0.objs.size:=bm (by rw[big];exact ki A1)
    have M:s.heap.objs.size∉[h0.objs.size,l]:=by
     simp only[af,ca,or_false,not_or];exact{bm (by rw[big];exact d_ _),ja A1}
    refine zdi ((La J _ l L g).toS) s.heap.objs.size M (λi=>ns.getD i 0) (λi v e=>IntsAre.int_at hi i v (by rw[jy];exact e)) n (g.size-0) 0 _ (by omega) (aw _)
     {{_,ak _ rfl,rfl,rfl},z.push _} (x4 _ (#[]) 0 _ {ξ _ y,⟨rfl,rfl,rfl⟩,rfl,λe he=>by simp at he,by exact .nil,by decide,by rfl,Led.fresh _}) λs3 m S3=>?_
    let[h3,g3,d3,N,O]:=s3
    have a1:g3=s.gens:=m.gens
    have a2:d3=s.drawn:=m.drawn
    have a3:O=s.os:=m.os;subst a1;subst a2;subst a3
    show wpAny _ _ _ _ _ _;refine π ?_
    show wpAny _ _ (ret kq) _ _ _;refine π {rfl,x2 h3 N {rfl,S3,λb o e=>?_}}
    have n:=aj e;refine m.heap b o ?_<|ξ _<|a _ _ e;simp only[af,ca,or_false,not_or];exact{bm n,bm (by rw[big];exact ki n)}
   ·cases r2 with
    |error e=>exact H
    |ok T =>
     cases T with
     |ret r =>
      let[rfl,h',tk,rfl,S',k']:=H
      repeat (any_goals (first|assumption|wp_step))
      exact q _ _ S' k'
     |_=>exact H.elim
  |_=>exact B.elim
end
end L2
namespace L2
section
variable{X:Cx}
def Inv.drawn(I:Inv X a b H s)(d):Inv X a b H { s with drawn:=d } :=
 { ok:=I.ok,os:=I.os,bare:=I.bare,base:=I.base,loc:=I.loc,cell:=I.cell,free:=I.free,freeC:=I.freeC,pin:=I.pin,hok:=I.hok,len:=I.len }
def zd1:∀ {ns:vE} {us:yC},Vals (ns.map V.int) us->qu us ns:=by
 intro ys us h
 induction ys generalizing us with
 |nil=>rw[ND h];exact .nil
 |cons y r a =>
  let[u,m,rfl,[tk,rfl],t]:=LZ h;exact .cons _ _<|a t
abbrev qE(X:Cx)(a:Addr)(b:vE):HO:=.ext λh=>IntSet X.prog X.w h a b
def zd2(g:X.calm=true):EH X (.type "set") (λxs H Q=>∃ (p:Addr) (ns:vE),xs=[.ref p]/\SqL X.K H p (ns.map V.int)/\ns.length<=1000 ∧
  ∀ (a:Addr),H a=none->Q (.ref a) (upd H a<|qE X a<|vx (λi=>ns.getD i 0) ns.length)):=by
 intro w s x H xs us Q I r h;revert h;apply u2;intro p ns [rfl,j,l,q];let[u,rfl,rfl]:=HW r;let[n,o,v,hz]:=I.list j
 have c:=zd1 o
 have d:=zl c
 have b:n.toArray.size=ns.length:=by rw[a_,d]
 refine zd0 (I.ok.hd g) v.isList c (by rw[a_,d];exact cf (uf l) (by decide)) λh' tk S k=>?_;rw[b]at S;refine x2 (.ref _) _ {I.laid k (ο _) ?_,rfl,q _<|I.hok.fresh<|ο _};exact{S,⟨_,S.choose_spec.choose_spec.choose_spec.choose_spec.1⟩,λh1 h2 z e=>z.at e}
def zd3(l:X.calm=true):EH X (.builtin "sorted") (λxs H Q=>∃ (a:Addr) (e:vE),xs=[.ref a]/\H a=some (qE X a e)/\e.length<64 ∧
  ∀ (D:Addr) (b:vE),H D=none->oq b e->b.Pairwise (· <=·)->Q (.ref D) (upd H D<|.lst<|b.map V.int)):=by
 intro w s x H xs us Q I r h;revert h;apply u2;intro a e [rfl,n,i,q];let[S,z,z]:=I.hok a _ n;let[u,rfl,rfl]:=HW r;refine zdz (I.ok.hd l) S i λD h' tk d c out b k j g o pk v=>(x2 (.ref D) _ {(I.laid  k j ?_).drawn d,rfl,q D b (I.hok.fresh j) pk v})
 exact{by rw[η];exact oB (by rw[pk.length_eq];exact i) rfl,x2 _ c {oI o,g}}
def zd4(val:Nat->Int)(n:Nat)(x:Int):x∈vx val n↔∃ i,i<n/\val i=x:=by
 have h:=firstMet_any val n x;rw[mj,fk,fk]at h;constructor;intro c;let[y,a,e]:=h.mp {x,c,beq_self_eq_true x};let[i,b,rfl]:=az.mp a;exact{i,ao.mp b,eq_of_beq e};intro[i,b,rfl];let[y,a,e]:=h.mpr {_,az.mpr {i,ao.mpr b,rfl},beq_self_eq_true _};exact eq_of_beq e ▸ a
theorem WV(val:Nat->Int):∀ n,(vx val n).Nodup
 |0=>lb
 |n+1=>by
  rw[firstMet_succ];by_cases h:val n∈vx val n;rw[pW h];exact WV _ n;rw[pX h];exact m_.mpr {WV _ n,by simp,λa d b c e=>by rw[τ]at c;subst c e;exact h d}
theorem qG:∀ {l:vE},l.Pairwise (· <=·)->l.Nodup->l.Pairwise (· <·)
 | [],_,_=>.nil
 |x::r,h,n=>by
  let[b,c]:=ir.mp n;let[h1,h2]:=h_.mp h;refine h_.mpr {λy a=>?_,qG h2 c}
  have:=h1 y a
  have:x≠y:=λz=>b<|z ▸ a
  lia
def P8(K:W.Frag)(d:TE):TE:=λe H Q=>d e H λx b=>∃ (p:Addr) (ns:vE),x=.ref p/\SqL K b p (ns.map V.int)/\ns.length<64 /\
 ∀ (a:Addr) (o:HO) (D:Addr) (c:vE),b a=none->upd b a o D=none->c.Pairwise (· <·)->(∀ x,x∈c↔x∈ns)->c.length<=ns.length->Q (.ref D) (upd (upd b a o) D (.lst<|c.map V.int))
def clo(b:TE):TE:=λc H Q=>∃ C:VK,b c H C/\∀ x a,C x a->Q x a
def PE.clo(h:PE X e a):PE X e (clo a):=(by intro i s b H Q I [C,q,m];exact AU (h _ s b H C I q) (by intro v j [x,c,d,g,q1];exact x2 x c {d,g,m _ _ q1}))
def zd5(d:X.calm=true)(g1:Gl X "sorted")(j:X.mg "sorted"=none)(g2:Gl X "set")(l:X.mg "set"=none)(h:PE X e n)
  (he:av [e] X.env=[(false,eval e X.env)]:=by rfl) :
  PE X (.Call (.Name "sorted" p1) [.Call (.Name "set" p2) [e] [] p3] [] p4) (P8 X.K n):=λA s o H Q I q=>by
 refine(NK (zd3 d) g1 j (rfl) (L7 (O4 (zd2 d) g2 l (rfl) (L7 h.clo R9 he) (he:=he)) R9)) _ s o H Q I ({_,q,λx B b=>?_});let[p,ns,rfl,r,g,q1]:=b;refine x2 p ns {rfl,r,oB g rfl,λa u=>x2 a _ {rfl,AD,(cf (vy ..) g),λD v w pk y=>?_}};refine q1 a _ D v u w (qG y<|pk.nodup_iff.mpr<|WV (λi=>ns.getD i 0) _) (λx=>?_) (by rw[pk.length_eq];exact vy ..);rw[pk.mem_iff,zd4];refine{λb=>?_,λz=>?_};let[i,c,e]:=b;rw[<-e];simp[c];let[i,c,e]:=jk z;exact{i,c,by simp[c,e]}
end
def qH(K:W.Frag)(a:Addr)(n:Nat):It :=
 {λi H=>i<n/\∃ xs,SqL K H a xs/\xs.length=n,λi H x b=>b=H/\∀ xs,SqL K H a xs->xs[n-1-i]? =some x,λi _=>n<=i}
def qI(K:W.Frag)(c:TA):TI:=λd H R=>c d H λvs b=>∃ a xs,vs=[.ref a]/\SqL K b a xs/\R (qH K a xs.length) b
section
variable{X:Cx}{tg:Expr}
def P9(K:W.Frag):tF->Hp->VK->Prop:=λxs H Q=>∃ (p:Addr) (kvs:vC),xs=[.ref p]/\H p=some (.dK kvs)/\∀ l,H l=none->Q (.ref l) (upd H l<|.dK kvs)
def zd6:EH X (.type "dict") (P9 X.K):=by
 intro d s e H xs us Q I r h;revert h;apply u2;intro p kvs [rfl,a,q];let[u,rfl,rfl]:=HW r;exact Zq I (.inl a) λl g b c=>x2 (.ref l) _ {c,rfl,q l b}
def zd7{K:W.Frag}{p:Addr}{H:Hp}{Q:VK}:P9 K [.ref p] H Q=∃ kvs,H p=some (.dK kvs)/\∀ l,H l=none->Q (.ref l) (upd H l<|.dK kvs):=by simp[P9]
end
def zd8{K:W.Frag}{as:TA}{g:TG}{c:TS}{D:Ends}{b:St}{H:Hp}:CL (qI K as) g c D b H=(as b H λvs d=>∃ a xs,vs=[.ref a]/\SqL K d a xs/\HE (qH K a xs.length) g c D b d):=rfl
section
variable{K:W.Frag}{tt:TT}{A6:wE}{σ:St}{H:Hp}{Q:VK}
abbrev _root_.xD:=Nat->Bool
def zd9(p:xD)(o:n<=sizeLine)(r:∀ i,i<n->∀ c:Bool->Hp->Prop,c (p i) H->tt (some (.int (i:Int))::C3 A6 σ) H c)
  (hd:∀ q,H q=none->Q (.ref q) (upd H q<|.lst<|((μ n).filter p).map λ(i:Nat)=>V.int i)):D5 (ET 0 n) (AG 0) tt (DF 0) 1 A6 σ H Q:=by
 refine{λi m a ys d=>m=n-i/\i<=n/\d=H/\(∃ g,a=g::C3 _ σ)/\ys=((μ i).filter p).map λ(i:Nat)=>V.int i,{n,rfl,aw _,rfl,⟨_,rfl⟩,rfl},?_};intro i m a ys d [rfl,z,rfl,[g,rfl],rfl];by_cases b:i<n;refine .inr {b,?_,λx s y=>?_};rw[η]
 have:=dg p<|μ i;rw[cz]at this;exact cf this<|χ b o;let[e,y]:=y;subst e y;rw[il];refine r i b _ ?_;cases j:p i with
 |true =>
  refine{λv l=>v=.int i/\l=s,λy l ⟨u,w⟩=>{_,by omega,rfl,b,w,⟨_,rfl⟩,?_},(by simp[DF])};rw[u,bq];simp[j]
 |false =>
  refine{_,by omega,rfl,b,rfl,⟨_,rfl⟩,?_};rw[bq];simp[j]
 have e:i=n:=by lia
 subst e;exact .inl {ο _,hd}
def zea(p:V->Bool)(D:xs.length<=sizeLine)(c:SqL K H b xs)(w:∀ x∈xs,∀ j:Bool->Hp->Prop,j (p x) H->tt (some x::C3 A6 σ) H j)
  (hd:∀ q,H q=none->Q (.ref q) (upd H q<|.lst<|xs.filter p)):D5 (F8 K b) (AG 0) tt (DF 0) 1 A6 σ H Q:=by
 refine{λi m a ys l=>m=xs.length-i/\i<=xs.length/\l=H/\(∃ n,a=n::C3 _ σ)/\ys=(xs.take i).filter p,{xs.length,rfl,aw _,rfl,⟨_,rfl⟩,rfl},?_};intro i m a ys l [rfl,E,rfl,[n,rfl],rfl];by_cases d:i<xs.length;refine .inr {x2 xs (xs[i]) {c,by simp[d]},?_,λx z y=>?_}
 have:=dg p<|xs.take i;rw[de]at this
 lia
 let[rfl,y]:=y
 have o:=y xs c
 have r:xs.take (i+1)=xs.take i++[x]:=by
  let[h1,h2]:=ε.mp o;rw[<-h2,pi]
 refine w x (ι o) _ ?_;cases s:p x with
 |true =>
  refine{λv u=>v=x/\u=z,λy u ⟨A,B⟩=>{_,by omega,rfl,d,B,⟨_,rfl⟩,?_},(by simp[DF])};rw[r,A];simp[s]
 |false =>
  refine{_,by omega,rfl,d,rfl,⟨_,rfl⟩,?_};rw[r];simp[s]
 have e:i=xs.length:=by lia
 subst e;refine .inl {{xs,c,ο _},λq g=>?_};rw[ce];exact hd q g
end
section
variable{K:W.Frag}{td ty tv te:TE}{D:Ends}{σ:St}{H:Hp}{Q:VK}{QB:zB}
def zeb:JY σ H Q=(∀ p,H p=none->Q (.ref p) (upd H p<|.dK [])):=rfl
def zec:IX σ H Q=(∀ p,H p=none->Q (.ref p) (upd H p<|.dT [])):=rfl
def zed:P8 K te σ H Q=(te σ H λx b=>∃ (p:Addr) (ns:vE),x=.ref p/\SqL K b p (ns.map V.int)/\ns.length<64 /\
 ∀ (a:Addr) (o:HO) (D:Addr) (c:vE),b a=none->upd b a o D=none->c.Pairwise (· <·)->(∀ x,x∈c↔x∈ns)->c.length<=ns.length->Q (.ref D) (upd (upd b a o) D (.lst<|c.map V.int))):=rfl
variable{a b:Addr}{i j:Int}{z:Str}{kvs:vC}{kvt:xA}{v:V}
def dI(e:H a=some (.dK kvs)):DGet H a (.int i) (A8 kvs<|.inl i):=DGet.k (k:=.inl i) e
def dS(e:H a=some (.dK kvs)):DGet H a (.str z) (A8 kvs<|.inr z):=DGet.k (k:=.inr z) e
def K8(e:H a=some (.dT kvt))(c:H b=some (.tup [.int i,.int j])):DGet H a (.ref b) (A8 kvt [.inl i,.inl j]):=DGet.t  e c
def QC(e:H a=some (.dK kvs))(h:A8 kvs (.inr z)=some v):DGet H a (.str z) (some v):=h ▸ dS e
def QD(e:H a=some (.dT kvt))(c:H b=some (.tup [.int i,.int j]))(h:A8 kvt [.inl i,.inl j]=some v):DGet H a (.ref b) (some v):=h ▸ K8 e c
def pI(e:H a=some (.dK kvs))(c:kvs.length<100000):DPut H a (.int i) v (upd H a<|.dK<|BL kvs (.inl i) v):=DPut.k (k:=.inl i) e (χ c (by decide))
def pS(e:H a=some (.dK kvs))(c:kvs.length<100000):DPut H a (.str z) v (upd H a<|.dK<|BL kvs (.inr z) v):=DPut.k (k:=.inr z) e (χ c (by decide))
def pT2(e:H a=some (.dT kvt))(eb:H b=some (.tup [.int i,.int j]))(hl:kvt.length<100000):DPut H a (.ref b) v (upd H a<|.dT<|BL kvt [.inl i,.inl j] v):=DPut.t  e eb (χ hl (by decide))
end
section
variable{X:Cx}
abbrev SQ(K:W.Frag):R2:=nJ K false
def qJ(a:X.A.units+64<cLine):B8 X (du .In) (SQ X.K):=Xy
end
def SqT.same{K:W.Frag}{H b:Hp}{a:Addr}{xs:tF}(e:Same H b)(h:SqT K H a xs):SqT K b a xs:=by
 rcases h with(h|⟨o,h⟩)|h
 exact .inl<|.inl<|e _ _ h;exact .inl<|.inr {o,e _ _ h};exact .inr h
def Dat(K:W.Frag)(H:Hp)(n:Nat)(v:V)(d:vn):Prop:=Rep K H v d/\d.canLay0=true/\d.depth<=n
section
variable{K:W.Frag}{H:Hp}{n:Nat}{Q:VK}
def Dat.int(i:Int):Dat K H n (.int i) (.int i):={.int i,rfl,aw _}
def Dat.non:Dat K H n .non .none:={.non,rfl,aw _}
def qK:∀ {xs:tF} {a:List vn},Paired (Dat K H n) xs a->RepAll K H xs a/\tj a=true/\yq a<=n:=λh=>by
 induction h with
 |nil=>exact{.nil,rfl,aw _}
 |cons h t b =>
  let[c,d,e]:=b;exact{.cons h.1 c,by simp[tj,h.2.1,d],Nat.max_le.mpr ⟨h.2.2,e⟩}
def Dat.lst(h:SqL K H p xs)(a:Paired (Dat K H n) xs b):Dat K H (n+1) (.ref p) (.list b):=by
 let[c,d,e]:=qK a;exact{.lst h c,d,by simpa [Ca]using e}
def Dat.tup(h:SqT K H p xs)(a:Paired (Dat K H n) xs b):Dat K H (n+1) (.ref p) (.tuple b):=by
 let[c,d,e]:=qK a;exact{.tup h c,d,by simpa [Ca]using e}
def Dat.shp(h:Dat K H n v d)(a:n<=64):shp d:=by
 unfold L2.shp PySem.SeqAt.shaped;rw[h.2.1];simpa using υ h.2.2 a
theorem KC:∀ (l:vE),Paired (Dat K H n) (l.map V.int) (l.map v_)
 | []=>.nil
 |x::r=>.cons (.int x) (KC r)
def NP(a:n<=64)(h1:Dat K H n (.ref p) d)(h2:Dat K H n (.ref q) d)(b:Q (.bl false) H):MF K (.ref p) (.ref q) H Q:=by
 refine y2 {h1.1,h2.1,h1.shp a,h1.shp a,?_};rw[pJ (h1.shp a)];exact b
def qM(d:n<=63)(h1:SqL K H p xs)(hd:Paired (Dat K H n) xs e)(h2:SqL K H q [])(a:Q (.bl<|decide<|xs=[]) H):K5 K (.ref p) (.ref q) H Q:=by
 have b:=Dat.lst h1 hd
 have c:Dat K H 1 (.ref q) (.list []):=Dat.lst h2 .nil;refine y2 {b.1,c.1,b.shp (by omega),c.shp (by omega),?_};cases hd with
 |nil=>exact a
 |cons _ _=>exact a
end
section
variable{prog:bu}{w:World}{A:dh}{E:yB}{s:ν}{d it:Addr}{od:Obj}{es:Array Eu}{ep i:Nat}
end
def qN:∀ {ys:yD} {us:yC},Vals (ys.map V.str) us->StrsAre us ys:=by
 intro ys us h
 induction ys generalizing us with
 |nil=>rw[ND h];exact .nil
 |cons y r a =>
  let[u,m,rfl,[tk,rfl],t]:=LZ h;exact .cons _ _<|a t
section
variable{X:Cx}
def WW(K:W.Frag):V->tF->Hp->VK->Prop:=λx vs H Q=>∃ (z:Str) (p:Addr) (ys:yD),x=.str z/\vs=[.ref p]/\SqL K H p (ys.map V.str)/\z.length<=16/\(ys.map (·.length)).sum+ys.length<=1048576/\Q (.str<|Txt.join z ys) H
def zef:VP X "str.join" (WW X.K):=by
 intro i s j H x vs v us Q I a b h;revert h;apply u3;intro z p ys [rfl,rfl,c,hz,d,q];let[u,rfl,rfl]:=b.one;let[t,rfl]:=a;let[l,r,e,g]:=I.list c;exact join_listW e.isList (qN r) hz d λt' k=>x2 (.str _) H {I.tok k,⟨t',rfl⟩,q}
end
section
variable{K:W.Frag}{tt:TT}{te:TE}{A6:wE}{σ:St}{H:Hp}{Q:VK}
end
section
variable{X:Cx}{tg:Expr}
end
section
variable{K:W.Frag}{tt:TT}{A6:wE}{σ:St}{H:Hp}{Q:VK}
end
def WX(n i:Nat)(P:Prop):Prop:=∃ a,a<n-i/\a=n-(i+1)/\i+1<=n/\P
def cnx(h:i<n)(p:P):WX n i P:={_,cq ‹_›,rfl,h,p}
def qO{K:W.Frag}{g:TG}{j:TT}{l:TE}{k:Nat}{n:wE}{o:St}{H:Hp}{Q:VK}{b:Addr}{xs:tF}(A:xs.length<=sizeLine)(Pv:Nat->St->tF->Hp->Prop)(h0:Pv 0 (K3 k n o) [] H)(v:∀ i a ys H,Pv i a ys H->SqL K H b xs/\ys.length<=i)
  (w:∀ i x a ys H,i<xs.length->xs[i]? =some x->Pv i a ys H->g x a H λd z=>j d z λc r=>if c=true then ∃ N:VK,(∀ y s,N y s->WX xs.length i (Pv (i+1) d (ys++[y]) s))/\l d r N else WX xs.length i (Pv (i+1) d ys r))
  (hd:∀ a ys H,Pv xs.length a ys H->∀ p,H p=none->Q (.ref p) (upd H p<|.lst ys)):D5 (F8 K b) g j l k n o H Q:=by
 refine{λi m a ys H=>m=xs.length-i/\i<=xs.length/\Pv i a ys H,{xs.length,rfl,aw _,h0},?_};intro i m a ys H [rfl,B,p];let[q,D]:=v i _ ys H p;by_cases u:i<xs.length;refine .inr {{xs,xs[i],q,by simp[u]},by lia,λx E y=>?_};let[rfl,y]:=y;exact w i x _ ys _ u (y xs q) p
 have e:i=xs.length:=by lia
 subst e;exact .inl {{xs,q,ο _},hd _ ys H p}
section
variable{P:bu}{w:World}{A:dh}{E:yB}{s:ν}
end
section
variable{X:Cx}
end
section
variable{P:bu}{w:World}{A:dh}{E:yB}{s:ν}
def zeh{e it l:Addr}{i:Nat}{a:Array Value}{x old:Value}{Q:Option Value->ν->Prop}(he:IsEnum s.heap e it i old)(c:s.heap.IsListIter it l i)(d:s.heap.IsList l a)(ex:a[i]? =some x)(ne:e≠it)
  (q:∀ h',IsEnumOut h' e it (i+1) x s.heap.objs.size->h'.IsListIter it l (i+1)->h'.get? s.heap.objs.size=some { cls:=nc "tuple",data:=Data.seq #[ub i s.toks,x] }->(∀ b o,b≠e->b≠it->s.heap.get? b=some o->h'.get? b=some o) →
   Q (some<|.ref s.heap.objs.size) { s with heap:=h',toks:=s.toks+1 }):wpAny (model P w) A (yz<|.ref e) Q E s:=by
 have ty:s.TypeIs (.ref e) _:=⟨_,he,rfl⟩
 exact δ (kx (ee  ty F.slot_enumerate_next (fg F.slot_enumerate_next ty F.entry_enumerate_next
  (enumerate_next_item he c d ex ne λh' g j n z r=>π<|q h' g j n r) (F.args_enumerate_next_1 _))))
def zei{e it l:Addr}{i:Nat}{a:Array Value}{old:Value}{Q:Fin->ν->Prop}(b:A.handled=none)(he:IsEnum s.heap e it i old)(c:s.heap.IsListIter it l i)(d:s.heap.IsList l a)(ex:a[i]? =none)
  (q:∀ h' x,nu it s.heap h'->(∃ o,h'.get? x=some o/\o.cls=.type "StopIteration")->E (.ref x) { s with heap:=h' }):wpAny (model P w) A (ul.«enumerate.__next__» {[.ref e],[]}) Q E s:=by
 show wpAny _ A (field _ 2>>=_) _ _ s;exact δ<|je he rfl  rfl (δ<|zc2 (k:=true) b c d ex q)
def zej{e it l:Addr}{i:Nat}{a:Array Value}{old:Value}{Q:Option Value->ν->Prop}(b:A.handled=none)(he:IsEnum s.heap e it i old)(c:s.heap.IsListIter it l i)(d:s.heap.IsList l a)(ex:a[i]? =none)
  (q:∀ h',nu it s.heap h'->Q none { s with heap:=h' }):wpAny (model P w) A (yz<|.ref e) Q E s:=by
 have ty:s.TypeIs (.ref e) _:=⟨_,he,rfl⟩
 exact δ<|kx<|ee  ty F.slot_enumerate_next (fg F.slot_enumerate_next ty F.entry_enumerate_next (zei b he c d ex λh' x g ⟨o,j,n⟩=>(δ<|lj   ⟨o,j,n⟩ zk (π<|q _ g))) (F.args_enumerate_next_1 _))
end
def K9(K:W.Frag)(a:Addr):It :=
  ⟨λi H=>∃ xs x,SqL K H a xs/\xs[i]? =some x,
   λi H v b=>∃ t,H t=none/\v=.ref t/\∃ x,b=upd H t (.tup [.int (i:Int),x])/\∀ xs,SqL K H a xs->xs[i]? =some x,
   λi H=>∃ xs,SqL K H a xs/\xs.length<=i⟩
def EnSt(e it l:Addr)(i:Nat)(h:Heap):Prop:=(∃ old,IsEnum h e it i old)/\h.IsListIter it l i
def EnSt.lt(q:EnSt e it l i h):∀ b∈[e,it],b<h.objs.size:=by
 let[[old,h1],o,h2,z]:=q;intro b a;simp only[af,ca,or_false]at a;let rfl||rfl:=a
 exact aj h1;exact aj h2
def zek{P:bu}{w:World}{K:W.Frag}{c:wD}{T:Nat}{pos:Pos}{e it l:Addr}(ne:e≠it) :
  L3 P w K (.Tuple c T pos) (K9 K l) [e,it] e (λi h=>EnSt e it l i h) where
 mem:=by simp
 obj:=λi h st b a=>by
  let[[old,h1],h2]:=st;let[o4,U,Y]:=ItK.ob (k:=true) h2;simp only[af,ca,or_false]at a;let rfl||rfl:=a
  exact{_,h1,λv q=>by cases q};exact{_,U,λv q=>by rw[Y]at q;cases q}
 keep:=λi h h' {⟨old,h1⟩,h2} q=>{{_,q e (by simp) _ h1},ItK.up (k:=true) h2 λo x=>q it (by simp) o x}
 item:=by
  intro X j n r N i O s Q H E I d st hg;subst j n r;revert hg;apply u2;intro xs x [g,ex];let[AL,y,A]:=I.seqK (k:=true) g
  have lt:=EnSt.lt st;let[[old,h1],h2]:=st;let[u,hu,ru]:=y.get ex
  have B:=λb a=>bm<|lt b a;refine zeh h1 h2 A  (by simpa using hu) ne λh' g1 g2 g3 D=>{_,rfl,(wpAny_letOwnedTupleGo_enum g1 λJ z2 sb=>?_)}
  have I2:Inv X O Q (upd H s.heap.objs.size<|.tup [.int i,x]) { s with heap:=J,toks:=s.toks+1 }:=by
   refine Inv.turnedS (s:={ s with heap:=s.heap.push _ })   (I.tnew   (.cons (⟨s.toks,rfl⟩) (.cons ru .nil)) (by show 2<=sizeLine;decide)) (λb o a L=>?_) λb a=>(d b a).upd (B b a);simp only[af,ca,or_false,not_or]at a;let[M,e2]||M:=Heap.get?_push_cases L
   subst M e2;exact sb.extBut _ _ ((B e (by simp)).symm) g3;exact sb.extBut _ _ a.1<|D _ _ a.1 a.2 M
  exact⟨.ref _,_,I2,rfl,{_,I.fresh,rfl,x,rfl,λys' q=>by rw[I.seqK_inj (k:=true) q g];exact ex},
   {⟨_,z2⟩,ItK.up (k:=true) g2 λo x=>sb.extBut _ _ ne.symm x},λb a=>((d b a).upd (B b a)).1⟩
 done:=by
  intro X j n r N i O s Q H E I d [[old,h1],h2] [xs,g,en];subst j n r;let[AL,y,A]:=I.seqK (k:=true) g;refine zej (I.ok.hd N) h1 h2 A (by simp;exact y.length ▸ en) λh' D=>{rfl,I.turnedS   (λb o a L=>?_) d}
  simp only[af,ca,or_false,not_or]at a;exact D _ _ a.2 L
 self:=λz z z z z st h=>by
  let[[old,h1],z]:=st;exact Df h1 h
section
variable{X:Cx}
def SR(K:W.Frag)(c:TA):TI:=λd H R=>c d H λvs b=>∃ a:Addr,vs=[.ref a]/\(∃ xs,SqL K b a xs)/\R (K9 K a) b
def zel{a:Expr}{g:TA}{p pos p2:Pos}{c:wD}{r:Nat}(v:Gl X "enumerate")(w:X.mg "enumerate"=none)(x:PA X [a] g)(y:av [a] X.env=[(false,eval a X.env)]:=by rfl) :
  PI X (.Tuple c r p2) (.Call (.Name "enumerate" p) [a] [] pos) (SR X.K g):=by
 refine λM s i H R I h=>Call_ (NH I v w boot_enumerate (jm (AU (x _ _ s i H _ I h) λus z e=>?_) (by rw[y];rfl) (rfl)));let[vs,j,d,A,[l,rfl,[xs,B],q]]:=e;let[N,O,D]:=d.seqK (k:=true) B;let[u,rfl,rfl]:=HW A;refine call_enumerate_list D λh' n E sz J=>Df n ?_
 have L:Inv X _ i j { z with heap:=h' }:=d.kept  J;refine x5 _ _ _ _ j {rfl,L,zek<|ja<|d_ _,{⟨_,n⟩,E},λb o=>d.fpOk ?_<|d.hok.fresh ?_,q}
 all_goals
  simp only[af,ca,or_false]at o;let rfl||rfl:=o<;>omega
end
def WY{K:W.Frag}{b:St}{H:Hp}{a:Addr}{xs:tF}{g:TG}{j:TS}{D:Ends}(Pv:wB)(h0:Pv 0 b H)(l:∀ i b H,i<=xs.length->Pv i b H->SqL K H a xs)
  (n:∀ i x b H t,xs[i]? =some x->Pv i b H->H t=none->g (.ref t) b (upd H t<|.tup [.int (i:Int),x]) λc o=>j { D with nx:=Pv<|i+1,ct:=Pv<|i+1,bk:=D.nx } c o) (hd:∀ b H,Pv xs.length b H->D.nx b H):HE (K9 K a) g j D b H:=by
 refine{λi m b H=>i+m=xs.length/\Pv i b H,{xs.length,by lia,h0},λi m b H d=>?_};let[e,p]:=d
 have h1:=l i b H (by lia) p;by_cases r:i<xs.length;refine .inr {x2 xs _ {h1,ζ r},_,λs u q=>{m-1,by lia,by lia,q},λv u ⟨t,w,e,x,y,q1⟩=>?_};subst e y;exact n i x b H t (q1 _ h1) p w
 have e:i=xs.length:=by lia
 subst e;exact .inl {{xs,h1,ο _},hd _ _ p}
def QE(K:W.Frag):R2:=λx y H Q=>SQ K x y H Q\/∃ t a p xs,x=.ref t/\SqT K H t a/\y=.ref p/\SqT K H p xs/\(∀ z∈xs,z=.non\/∃ i,z=.int i)/\Q (.bl false) H
def zem:∀ {xs:tF} {us:yC} {u:Value},Vals xs us->u∈us->∃ x∈xs,RelV x u:=λh m=>by
 induction h with
 |nil=>cases m
 |cons r t a =>
  let rfl||m:=af.mp m
  exact{_,aa ..,r};let[x,b,e]:=a m;exact{x,ω _ b,e}
def zen(l:X.A.units+64<cLine):B8 X (du .In) (QE X.K):=by
 intro M s n H x y v u Q I c d h;let h||[t,N,p,xs,rfl,o,rfl,w,B,q]:=h
 exact qJ l _ s n H x y v u Q I c d h;subst c;let[D,r,E,hz]:=I.tuple w;subst d;let[J,O,e,j]:=I.tuple o
 have a:X.A.in1.units<cLine:=by
  have:X.A.in1.units=X.A.units+1:=rfl
  lia
 refine Ef (λj=>false) E (λz b=>?_) (x2 (.bl _) H {I,rfl,?_});let[L,h0,g]:=zem r (by simpa using b);let rfl||[i,rfl]:=B L h0
 subst g;exact SeqAt.EqAt.none_tuple e a;let[tk,rfl]:=g;exact SeqAt.EqAt.int_tuple _ _ e a
 have:D.toArray.any (λj=>false)=false:=by
  simp
 rw[this];exact q
section
variable{X:Cx}
def zeo:∀ {us:yC} {ys:yD},StrsAre us ys->Vals (ys.map V.str) us:=λh=>by
 induction h with
 |nil=>exact .nil
 |cons z t h a=>exact .cons ⟨_,rfl⟩ a
def SS(K:W.Frag):tF->Hp->VK->Prop:=λxs H Q=>∃ (p:Addr) (ys:yD),xs=[.ref p]/\SqL K H p (ys.map V.str)/\ys.length<64 /\
  ∀ (D:Addr) (a:yD),H D=none->a.Perm ys->Ht a=true->Q (.ref D) (upd H D<|.lst<|a.map V.str)
def zep(y:X.calm=true):EH X (.builtin "sorted") (SS X.K):=by
 intro z s A H xs us Q I r h;revert h;apply u2;intro p ys [rfl,l,n,q];let[a,d,v,hz]:=I.list l;let[u,rfl,rfl]:=HW r
 have B:a.length=ys.length:=by simpa using d.length.symm
 refine sorted_strs v.isList (qN d) (by omega) λout i w pk x=>?_;let[c,g]:=sortedAll_at s.heap a out
 have j:s.heap.objs.size<=s.heap.objs.size+1:=ic _;refine x2 (.ref _) _ {I.laid  (λb o e=>sortedAll_old e) j ?_,rfl,q _ i (I.hok.fresh j) pk x}
 have D:i.length<64:=by rw[pk.length_eq];exact n
 exact{by rw[η,wp];omega,x2 out.toList c {zeo w,g}}
theorem WZ:∀ {l:yD},Ht l=true->l.Pairwise λa b=>¬ b.cps.toList<a.cps.toList
 | [],_=>.nil
 | [x],_=>List.pairwise_singleton _ _
 |x::y::r,h=>by
  have h':(!Spec.ltCps y.cps.toList x.cps.toList&&risingS y r)=true:=h;rw[cb,xc,ltCps_eq,decide_eq_false_iff_not]at h'
  have c:=WZ (l:=y::r) h'.2;refine h_.mpr {λz hz=>?_,c};let e||hz:=af.mp hz
  ·rw[e];exact h'.1
  ·exact λd=>absurd d<|xf.mpr<|List.le_trans (xf.mp h'.1) (xf.mp<|(h_.mp c).1 z hz)
def zeq(h1:Ht l=true)(h2:Ht m=true)(p:l.Perm m):l=m :=
 List.Perm.eq_of_pairwise (λa b z z h h'=>congrArg Str.mk<|Array.toList_inj.mp<|List.le_antisymm (xf.mp h) (xf.mp h')) (WZ h1) (WZ h2) p
def qP:V->tF->Hp->VK->Prop:=λx vs H Q=>∃ z y:Str,x=.str z/\vs=[.str y]/\Q (.int<|Txt.find z y) H
def zer:VP X "str.find" qP:=by
 intro d s e H x vs v us Q I a b h;revert h;apply u2;intro z y [rfl,rfl,q];let[t,rfl]:=a;let[u,rfl,c]:=b.one;let[g,rfl]:=c;exact PySem.SC.find<|x2 (.int _) H {I.tok _,⟨_,rfl⟩,q}
end
section
variable{P:bu}{w:World}{A:dh}{E:yB}{s:ν}
end
section
variable{X:Cx}
end
section
variable{X:Cx}{AA:zA}{σ:St}{H:Hp}{s:ν}
def Inv.thaw(I:Inv X AA σ H s)(e:H d=some (.frz o<|.dK kvs))(l:∀ o u,X.H₀ d≠some (.frz o u)):Inv X AA σ (upd H d<|.dK kvs) s:=by
 have up:∀ {b:Addr},H b=none->upd H d (.dK kvs) b=none:=λg=>by rw[AK ((λg z=>by rw[z,e]at g;cases g) g)];exact g
 refine{I.ok,I.os,I.bare,{I.base.keep,I.base.slot,λb j n q r=>up<|I.base.free b j n q r,I.base.there,λb xs a=>?_,λb j u a=>?_,λb ps a=>?_},I.loc,I.cell,up I.free,λx c v=>up<|I.freeC x c v,λp w=>?_,λb u a=>?_,I.len}
 have:=I.base.tups b xs a;rw[AK λz=>by rw[z,e]at this;cases this];exact this;rw[AK (λz=>l j u (by rw[<-z];exact a))];exact(I.base.frzs b j u a);let[more,this]:=I.base.tbls b ps a;exact{_,by rw[AK λz=>by rw[z,e]at this;cases this];exact this};let[h1,h2,h3]:=I.pin p w;exact{h1,up h2,h3}
 have st:∀ {b:Addr} {u:HO},ObjOk _ _ H _ b u->ObjOk X.prog X.w (upd H d<|.dK kvs) s.heap b u:=λh=>h.stay (λy y y e=>e) (λA i=>by rw[AK (AZ i e (by intro z;cases z))];exact i) λA xs i=>by rw[AK (AZ i e (by intro z;cases z))];exact i
 by_cases g:b=d;subst g;rw[AD]at a;obtain rfl:=θ a;exact st (I.hok b _ e).2;rw[AK g]at a;exact st<|I.hok b u a
def qQ(d:Addr)(o:Obj)(kvs:vC):It :=
 {λi H=>H d=some (.frz o<|.dK kvs)/\i<kvs.length,λi H x a=>a=H/\∃ k v,x=kV k/\kvs[i]? =some (k,v),λi H=>H d=some (.frz o<|.dK kvs)/\kvs.length<=i}
variable{tg iter DD:Expr}{EZ:wD}{scope:Scope}{pos:Pos}{td:TE}{g:TG}{tt:TT}{te:TE}{tn cn:yD}{A6:wE}
end
def FnScope.go(h1:a.kind=.function:=by exact rfl)(h2:a.isCoroutine=false:=by exact rfl)(h3:a.isGenerator=false:=by exact rfl)(h4:N.Nodup:=by decide +kernel)(h5:N.take P.length=P:=by exact rfl)(h6:∀ x∈P,a.names.lookup x=some .local\/a.names.lookup x=some .cell:=by decide +kernel)(h7:∀ y∈a.names,y.2≠.free:=by decide +kernel):FnScope N P a:=⟨h1,h2,h3,h4,h5,h6,h7⟩
def Room.m(r:Room k A)(h:j<=k:=by decide):Room j A:=r.mono h
abbrev FP(P:bu)(w:World)(K:W.Frag)(mg:vB)(base:Heap)(k:Nat)(f:Addr)(fd:gi)(ps:yD)(sp:Sp):Prop:=FnOk P w K mg base (ED P w) k f fd ps sp
def Fun.okF{P:bu}{w:World}{K:W.Frag}{mg:vB}{base:Heap}{x a:Str}{st:Stmt}{f:Addr}{fd:gi}{N ps:yD}{k:Nat}{sp:Sp}(F:Fun K x a st f fd)(c:(St->XK)->TS)(S:FnScope N ps (AS st))(len:∀ {vs H Q E},sp vs H Q E->vs.length=ps.length)
  (ok:∀ {vs H Q E},sp vs H Q E->c (λ_=>E) { nx:=λz d=>Q .non d,rt:=Q } (start N vs) H)
  (e:∀ (b:Value) (A:dh) (outer:zD) (s:ν) (H:Hp) (E:XK),Room k (A.deeper<|xi a (AS st) s.heap.objs.size f b)->XOk (IU (ED P w) P w K mg base N a (AS st) f b A outer s H E) (λz=>E) ->
   FS (IU (ED P w) P w K mg base N a (AS st) f b A outer s H E) (HD st) (c λz=>E)):FP P w K mg base (k+1) f fd ps sp :=
 F.okE S (λz z z z=>len) λb A outer s H z z E g h=>{_,e _ A _ s H E g zaf,ok h}
section
variable{X:Cx}{pos:Pos}
def psl(i:Nat)(b:X.N.Nodup)(he:PE X e c)(d:X.N[i]? =some x:=by exact rfl)(g:NF X.env.scope x:=by exact Eo rfl)(j:ve e (some<|.Name x a) pos.line X.env=pure false:=by rfl)(l:X.fn x=true\/X.env.scope.names.lookup x=some .local:=by first|exact .inl rfl|exact .inr rfl|assumption) :
  PS X (.Assign [.Name x a] e pos) (AO c<|AG i):=lZ b d g he j l
def qS(i:Nat)(a:X.N.Nodup)(b:X.N[i]? =some x:=by exact rfl)(c:NF X.env.scope x:=by exact Eo rfl)(d:X.fn x=true\/X.env.scope.names.lookup x=some .local:=by first|exact .inl rfl|exact .inr rfl|assumption):PG X (.Name x pos) (AG i):=lY a b c d
end
section
variable{X:Cx}{pos:Pos}
def pei{j b}(c:PE X a d):PE X (.Subscript a (.Constant (.int i) j b) pos) (AE (BK X.K) d (tC<|.int i)):=mW o8 c lW<|λz z=>rfl
def FnScope.cp(_:FnScope N P outer)(h:SK scope outer N a b=true:=by decide +kernel)(h1:X.env.scope=outer:=by exact rfl)(h2:X.N=N:=by exact rfl):J1 X scope c a b:=pE h1 h2 h
end
section
variable{X:Cx}{E:St->XK}{k j:Nat}{x m:Str}{ps:yD}{sp:Sp}{C:Addr}{p pos C0:Pos}{e o e1 e2 e3:Expr}{es:wD}{ta tb tc td:TE}{t:TA}
def qT(h:PE X e ta)(s:av [e] X.env=(false,eval e X.env)::av [] X.env:=by rfl):PA X [e] (A9 ta BC):=L7 h R9 s
def qU(h:PE X e ta)(h1:PE X e1 tb)(s:av [e,e1] X.env=(false,eval e X.env)::av [e1] X.env:=by rfl)(a:av [e1] X.env=(false,eval e1 X.env)::av [] X.env:=by rfl):PA X [e,e1] (A9 ta<|A9 tb BC):=L7 h (qT h1 a) s
def qV(h:PE X e ta)(h1:PE X e1 tb)(h2:PE X e2 tc)(s:av [e,e1,e2] X.env=(false,eval e X.env)::av [e1,e2] X.env:=by rfl)(a:av [e1,e2] X.env=(false,eval e1 X.env)::av [e2] X.env:=by rfl)(b:av [e2] X.env=(false,eval e2 X.env)::av [] X.env:=by rfl):PA X [e,e1,e2] (A9 ta<|A9 tb<|A9 tc BC):=L7 h (qU h1 h2 a b) s
def zeu(h:PE X e ta)(h1:PE X e1 tb)(h2:PE X e2 tc)(h3:PE X e3 td)(s:av [e,e1,e2,e3] X.env=(false,eval e X.env)::av [e1,e2,e3] X.env:=by rfl)(a:av [e1,e2,e3] X.env=(false,eval e1 X.env)::av [e2,e3] X.env:=by rfl)(b:av [e2,e3] X.env=(false,eval e2 X.env)::av [e3] X.env:=by rfl)(c:av [e3] X.env=(false,eval e3 X.env)::av [] X.env:=by rfl):PA X [e,e1,e2,e3] (A9 ta<|A9 tb<|A9 tc<|A9 td BC):=L7 h (qV h1 h2 h3 a b c) s
def pcx(c:SI X.prog X.w X.K X.mg X.base k x ps sp)(b:Room j X.A)(d:XOk X E)(g:PA X (e::es) t)(i:k<=j:=by decide)(l:Gl X x:=by exact rfl)(a:(x ==("__debug__":Str))=false:=by decide)
  (he:av (e::es) X.env=(false,eval e X.env)::av es X.env:=by rfl) (n:(jd pos<|av es X.env).any (·.1)=false:=by rfl):PE X (.Call (.Name x p) (e::es) [] pos) (L8 sp [] E t):=WB c (b.mono i) d.passes l g a he n
def pmx(he:PE X o ta)(d:Cls X.K C)(c:NL X.prog X.w X.K X.mg X.base C k m ps sp)(g:Room j X.A)(i:XOk X E)(l:PA X (e::es) t)(n:k<=j:=by decide)
  (a:av (e::es) X.env=(false,eval e X.env)::av es X.env:=by rfl) (q:(jd pos<|av es X.env).any (·.1)=false:=by rfl)
  (r:eval (.Call (.Attribute o m C0) (e::es) [] pos) X.env=(do
   let b ← eval o X.env
   x_ C0.atName
   let (f,first) ← ss [b] (uc b m s)
   zb pos f first (jd pos<|av (e::es) X.env) (uo pos<|lu [] X.env)):=by rfl):PE X (.Call (.Attribute o m C0) (e::es) [] pos) (IT C m sp [] E ta t):=WC he d c (g.mono n) i.passes l a q r
def pmz(he:PE X o ta)(b:Cls X.K C)(c:NL X.prog X.w X.K X.mg X.base C k m ps sp)(d:Room j X.A)(g:XOk X E)(i:k<=j:=by decide)
  (l:eval (.Call (.Attribute o m C0) [] [] pos) X.env=(do
   let a ← eval o X.env
   x_ C0.atName
   let (f,first) ← ss [a] (uc a m n)
   zb pos f first (jd pos<|av [] X.env) (uo pos<|lu [] X.env)):=by rfl):PE X (.Call (.Attribute o m C0) [] [] pos) (IT C m sp [] E ta BC):=zah he b c (d.mono i) g.passes l
end
def Fun.oK(P:bu)(w:World){K:W.Frag}(mg:vB)(base:Heap){x a:Str}{st:Stmt}{f:Addr}{fd:gi}{N ps:yD}(k:Nat){sp:Sp}(F:Fun K x a st f fd)(b:(St->XK)->TS)(S:FnScope N ps (AS st))
  (ok:∀ {vs H Q E},sp vs H Q E->b (λ_=>E) { nx:=λz d=>Q .non d,rt:=Q } (start N vs) H)
  (e:∀ (c:Value) (A:dh) (outer:zD) (s:ν) (H:Hp) (E:XK),Room k (A.deeper<|xi a (AS st) s.heap.objs.size f c)->XOk (IU (ED P w) P w K mg base N a (AS st) f c A outer s H E) (λz=>E) ->
   FS (IU (ED P w) P w K mg base N a (AS st) f c A outer s H E) (HD st) (b λz=>E))
  (len:∀ {vs H Q E},sp vs H Q E->vs.length=ps.length:=by
   intro z z z z h
   repeat (first|(let[rfl,z]:=h;rfl)|(refine Or.elim h ?_ ?_<;>(clear h;intro h))|let[z,h]:=h)):FP P w K mg base (k+1) f fd ps sp:=F.okF b S len ok e
abbrev A5(N:yD)(k:Nat)(a:Scope):Prop:=FnScope N (N.take k) a
abbrev CA(P:bu)(w:World)(K:W.Frag)(mg:vB)(base:Heap)(k:Nat)(x:Str)(_:FnScope N ps a)(sp:Sp):Prop:=SI P w K mg base k x ps sp
abbrev BY(P:bu)(w:World)(K:W.Frag)(mg:vB)(base:Heap)(C:Addr)(k:Nat)(x:Str)(_:FnScope N ps a)(sp:Sp):Prop:=NL P w K mg base C k x ps sp
abbrev NQ(P:bu)(w:World)(K:W.Frag)(mg:vB)(base:Heap)(C:Addr)(k:Nat)(x:Str)(_:FnScope N ps a)(sp:Sp):Prop:=WA P w K mg base C k x ps sp
def qW{α :Type}:Nat->(List α ->Prop)->Prop
 |0,P=>P []
 |n+1,P=>∀ a,qW n λl=>P (a::l)
theorem un{α :Type}:∀ {n:Nat} {P:List α ->Prop},qW n P->∀ us:List α,us.length=n->P us
 |0,_,h,[],_=>h
 |_+1,_,h,a::us,e=>un (h a) us (Ke e)
def W1(x a:Str)(st:Stmt)(ps:yD):Prop:=∀ (kV b pm:Value) (c:Option Addr) (d ct:Value) (us:yC),us.length=ps.length->bindArgs (W.fnOf x a (JZ st) (HD st) (AS st) .none kV b pm c d ct) {us,[]}=pure (ps.zip us)
structure GF(K:W.Frag)(x:Str)(st:Stmt):Prop where
 ex:∃ (f:Addr) (fd:gi),W.nsIn K bw x=some (some<|.ref f)/\Fun K x x st f fd
structure GM(K:W.Frag)(C:Addr)(m q:Str)(st:Stmt):Prop where
 ex:∃ (f:Addr) (fd:gi),W.findIn K (.ref C) m=some (some<|.ref f)/\W.isFn K (.ref f)=true/\Fun K m q st f fd
structure GC(K:W.Frag)(C:Addr)(x:Str):Prop where
 ac:W.nsIn K bw x=some (some<|.ref C)
 c:Cls K C
structure GN(K:W.Frag)(C:Addr)(x q:Str)(st:Stmt):Prop where
 m:GM K C "__init__" q st
 mks:W.makesIn K C=true
 kc:W.keepIn K (.ref C)=true
 ac:W.nsIn K bw x=some (some<|.ref C)
structure GX(K:W.Frag)(C:Addr)(x:Str):Prop where
 ac:W.nsIn K bw x=some (some<|.ref C)
 ex:W.excIn K C [.type "ValueError",.type "Exception",.type "BaseException",.type "object"] "ValueError.__new__"=true
section
variable{K:W.Frag}{x q:Str}{st:Stmt}{C f:Addr}{oc:Value}{od an:Option Addr}{osl:Array (Option Value)}{kV doc pm CH ct:Value}
def gf(a:W.nsIn K bw x=some (some<|.ref f))(l:K.lookup f=some {oc,od,.func<|W.fnOf x x (JZ st) (HD st) (AS st) .none kV doc pm an CH ct,osl})
  (c:W.codeIn K CH x=true) (k:W.keepIn K (.ref f)=true):GF K x st:={_,_,a,oJ l c k}
def gm(a:W.findIn K (.ref C) x=some (some<|.ref f))(l:K.lookup f=some {oc,od,.func<|W.fnOf x q (JZ st) (HD st) (AS st) .none kV doc pm an CH ct,osl})
  (c:W.codeIn K CH q=true) (k:W.keepIn K (.ref f)=true) (i:W.isFn K (.ref f)=true):GM K C x q st:={_,_,a,i,oJ l c k}
def gn(a:W.findIn K (.ref C) "__init__"=some (some<|.ref f))(l:K.lookup f=some {oc,od,.func<|W.fnOf "__init__" q (JZ st) (HD st) (AS st) .none kV doc pm an CH ct,osl})
  (c:W.codeIn K CH q=true) (k:W.keepIn K (.ref f)=true) (i:W.isFn K (.ref f)=true) (m:W.makesIn K C=true) (n:W.keepIn K (.ref C)=true) (s:W.nsIn K bw y=some (some<|.ref C)):GN K C y q st:={gm a l c k i,m,n,s}
def gc(a:W.nsIn K bw x=some (some<|.ref C))(l:W.plainGet K C Je=true)(c:W.hasDictIn K C=true)(k:W.plainOver K C=true)(i:W.findIn K (.ref C) "__setattr__"=some (some<|.builtin "object.__setattr__")):GC K C x:=⟨a,l,c,k,i⟩
end
section
variable{P:bu}{w:World}{K:W.Frag}{h:Heap}{mg:vB}{base:Heap}{x q:Str}{st:Stmt}{C:Addr}{k:Nat}{ps:yD}{sp:Sp}
def gfc(P:bu:=by assumption)(w:World:=by assumption)(base:Heap:=by assumption)(ok:∀ {f fd},Fun K x x st f fd->FP P w K mg base k f fd ps sp)(g:GF K x st:=by assumption)(X:K.In h:=by assumption)(G:h.Ns bw mg:=by assumption)
  (b:W1 x x st ps:=by intro z z z z z z;apply un;(repeat intro z);rfl):SI P w K mg base k x ps sp:=by
 refine u2 ?_ g.ex;intro f fd [a,F];exact{f,fd,ok F,W.mg_of X G a,F.kp,F.binds b}
def gmc(P:bu:=by assumption)(w:World:=by assumption)(base:Heap:=by assumption)(ok:∀ {f fd},Fun K x q st f fd->FP P w K mg base k f fd ps sp)(g:GM K C x q st:=by assumption)
  (b:W1 x q st ps:=by intro z z z z z z;apply un;(repeat intro z);rfl):NL P w K mg base C k x ps sp:=by
 refine u2 ?_ g.ex;intro f fd [a,i,F];exact{f,fd,ok F,⟨a,i,F.kp⟩,F.binds b}
def gnc(P:bu:=by assumption)(w:World:=by assumption)(base:Heap:=by assumption)(ok:∀ {f fd},Fun K "__init__" q st f fd->FP P w K mg base k f fd ps sp)(g:GN K C x q st:=by assumption)(X:K.In h:=by assumption)(G:h.Ns bw mg:=by assumption)
  (b:W1 "__init__" q st ps:=by intro z z z z z z;apply un;(repeat intro z);rfl):WA P w K mg base C k x ps sp:=by
 refine u2 ?_ g.m.ex;intro f fd [a,i,F];exact{f,fd,ok F,⟨g.mks,a,i,g.kc⟩,W.mg_of X G g.ac,F.binds b}
def GF.law(g:GF K x st)(X:K.In h)(G:h.Ns bw mg)(d:mg x=some (.ref j))
  (b:∀ (kV c pm:Value) (e:Option Addr) (i ct:Value) (s:ν) (v:Value),wu s (W.fnOf x x (JZ st) (HD st) (AS st) .none kV c pm e i ct) {[v],[]} [("script",v)]) :
  ∃ fd:gi,(∀ (s:ν) (v:Value),wu s fd {[v],[]} [("script",v)])/\Fun K x x st j fd:=by
 refine u2 ?_ g.ex;intro f fd [a,F];cases (d.symm.trans<|W.mg_of X G a);refine u9 ?_ F.ex;intro n od kV c pm e i ct l [rfl,o,GT];exact{_,b kV _ pm e _ ct,F}
end
def ST(K:W.Frag)(to c d:TE)(e:V->V->Hp->VK->Prop):TS:=λD a H=>to a H λx g=>c a g λy b=>∃ p xs,∃ n:Nat,∃ v,x=.ref p/\y=.int n/\SqL K b p xs/\xs[n]? =some v/\d a b λz i=>e v z i λu j=>NM (.ref p) (.int n) u j λl=>D.nx a l
def ze1{K:W.Frag}{to b c:TE}{d:V->V->Hp->VK->Prop}{D:Ends}{a:St}{H:Hp}:ST K to b c d D a H=(to a H λx g=>b a g λy e=>∃ p xs,∃ n:Nat,∃ v,x=.ref p/\y=.int n/\SqL K e p xs/\xs[n]? =some v/\c a e λz i=>d v z i λu j=>NM (.ref p) (.int n) u j λl=>D.nx a l):=rfl
section
variable{X:Cx}{o i value:Expr}{td ty tv:TE}{tpos pos:Pos}
def ze2(E:PE X o td)(J:PE X i ty)(L:PE X value tv)(c:VL X op M)
  (N:∀ b iv new,augStore i b iv new=(do ss [new,b,iv] (Ka b iv new);release [new,b,iv] [];pure .next):=by intros;rfl):PS X (.AugAssign (.Subscript o i tpos) op value pos) (ST X.K td ty tv M):=by
 refine λAA s a H D I h=>wpAny_AugAssign_SubscriptAny (AU (E _ s a H _ I h) λu O ⟨x,Q,T,U,q1⟩=>AU (J _ O a Q _ T q1) λiv Y d=>?_) N;let[y,H2,l,A,p,xs,n,v,ex,ey,hq,B,q2]:=d;subst ex ey
 have e:=A;obtain rfl:u=e_ p:=U;let[t,rfl]:=A;let[AL,r,pl,hz]:=l.list hq
 have hn:=OZ;let[w,ew,g]:=r.get B
 have A1:=(ε.mp B).1;exact wpAny_getItem_list pl.isList (by lia) (by lia)  (by simpa using ew) (AU (L _ Y a H2 _ l q2) (by intro w2 s4 [y2,H3,I4,j,q3];exact AU (c _ s4 a H3 v y2 w w2 _ I4 g j q3) (by intro w3 s5 [z,H4,I5,rz,q4];exact(AU (pA _ s5 a H4 (.ref p) _ z _ _ _ _ I5 rfl e rz q4) (by intro q s6 [H5,I6,q5];exact⟨a,H5,I6,q5⟩)))))
end
def ze3(l:Addr)(c:Array Value)(n:Nat)(b:Addr)(a:Array Value)(j:Nat)(d:Option Addr)(o:Array (Option Value))(q:¬(!c.isEmpty&&ku (c.size+a.size))=true)(e:c.size<=sizeLine)(g:c.size+a.size<=sizeLine+1) :
  Meets (ul.«list.extend» {[.ref l,.ref b],[]}) (λ_ R s=>s.heap.get? l=some { cls:=.type "list",dict:=none,data:=.seq c n,slots:= #[] }/\s.heap.get? b=some { cls:=.type "tuple",dict:=d,data:=.seq a j,slots:=o }/\R (.ok<|.ret kq) { s with heap:=s.heap.update l<|l_ λx=>x++a,toks:=s.toks }) :=
 .of_wp λprog w A R s h=>by
  let[i,r,h]:=h;have u:(c++a).size<=sizeLine+1:=by rw[Bu];exact g
  wp_walk using (yr i rfl (hz:=e) ),xo i,xo r;exact⟨_,rfl,h⟩
def W2(K:W.Frag):V->tF->Hp->VK->Prop:=λx vs H Q=>∃ l b xs a,x=.ref l/\vs=[.ref b]/\H l=some (.lst xs)/\SqT K H b a/\xs.length+a.length<=sizeLine/\Q .non (upd H l<|.lst<|xs++a)
def ze4:SD X "list.extend" (W2 X.K):=by
 intro M s N H x vs v us Q I w y [l,b,xs,O,rfl,rfl,g,A,hz,q];subst w;let[z,c,n,r,T,e]:=I.lstM g;let[u,rfl,rfl]:=y.one;let[d,i,[o,B,D,E,hd],J]:=I.tuple A
 have U:=i.length;let[Y,od,j,L]:=o;subst D hd
 have hsz:c.toArray.size+d.toArray.size<=sizeLine:=by rw[a_,a_];lia
 have a:¬ (!c.toArray.isEmpty&&ku (c.toArray.size+d.toArray.size))=true:=by
  rw[nK hsz,Iv];exact ax
 refine rg F.slot_list_extend ⟨_,e,rfl⟩ F.entry_list_extend (F.args_list_extend_2 _ _)
  (ze3 l c.toArray n b d.toArray E _ _ a (by lia) (by lia)) {e,B,{.non,_,I.lset  g e (by simp) (r.append i) ?_,rfl,q}}
 rw[ψ];omega
section
variable{X:Cx}{tg:Expr}
end
section
variable{K:W.Frag}{g:TG}{tt:TT}{te:TE}{k:Nat}{A6:wE}{σ:St}{H:Hp}{Q:VK}
def qX(p:xD)(w:xs.length<=sizeLine)(Pv:Nat->tF->Hp->Prop)(h0:Pv 0 [] H)(n:∀ i ys H,i<=xs.length->Pv i ys H->SqL K H b xs/\ys.length<=i)
  (o:∀ i x ys H,xs[i]? =some x->Pv i ys H->∀ d:Bool->Hp->Prop,d (p i) H->tt (some x::C3 A6 σ) H d)
  (r:∀ i x ys H,xs[i]? =some x->p i=true->Pv i ys H->te (some x::C3 A6 σ) H λy s=>Pv (i+1) (ys++[y]) s)
  (u:∀ i x ys H,xs[i]? =some x->p i=false->Pv i ys H->Pv (i+1) ys H)
  (hd:∀ ys H,Pv xs.length ys H->∀ q,H q=none->Q (.ref q) (upd H q<|.lst ys)):D5 (F8 K b) (AG 0) tt te 1 A6 σ H Q:=by
 refine{λi m a ys H=>m=xs.length-i/\i<=xs.length/\(∃ j,a=j::C3 _ σ)/\Pv i ys H,{xs.length,rfl,aw _,⟨_,rfl⟩,h0},?_};intro i m a ys H [rfl,v,[j,rfl],P];let[q,z]:=n i ys H v P;by_cases c:i<xs.length;refine .inr {{xs,xs[i],q,by simp[c]},by lia,λx A y=>?_};let[rfl,y]:=y
 have ex:=y xs q;refine o i x ys _ ex P _ ?_;cases l:p i with
 |true =>
  exact{_,λy B q=>{_,by omega,rfl,c,⟨_,rfl⟩,q},r i x ys _ ex l P}
 |false =>
  exact{_,by omega,rfl,c,⟨_,rfl⟩,u i x ys _ ex l P}
 have e:i=xs.length:=by lia
 subst e;exact .inl {{xs,q,ο _},hd ys H P}
def W3(p:xD)(L:xs.length<=sizeLine)(Pv:Nat->tF->Hp->Prop)(h0:Pv 0 [] H)(w:∀ i ys H,i<=xs.length->Pv i ys H->SqL K H b xs/\ys.length<=i)
  (z:∀ i ys H t o,Pv i ys H->H t=none->Pv i ys (upd H t o))
  (A:∀ i x ys H,xs[i]? =some x->Pv i ys H->∀ n:Bool->Hp->Prop,n (p i) H->tt (some (.int (i:Int))::some x::C3 A6 σ) H n)
  (B:∀ i x ys H,xs[i]? =some x->p i=true->Pv i ys H->te (some (.int (i:Int))::some x::C3 A6 σ) H λy D=>Pv (i+1) (ys++[y]) D)
  (E:∀ i x ys H,xs[i]? =some x->p i=false->Pv i ys H->Pv (i+1) ys H)
  (hd:∀ ys H,Pv xs.length ys H->∀ q,H q=none->Q (.ref q) (upd H q<|.lst ys)):D5 (K9 K b) (FH K 2<|DP (AG 0) (DP (AG 1) FG)) tt te 2 A6 σ H Q:=by
 refine{λi m a ys H=>m=xs.length-i/\i<=xs.length/\(∃ r s,a=r::s::C3 _ σ)/\Pv i ys H,{xs.length,rfl,aw _,⟨_,_,rfl⟩,h0},?_};intro i m a ys H [rfl,I,[r,s,rfl],P];let[q,M]:=w i ys H I P;by_cases c:i<xs.length;refine .inr {{xs,xs[i],q,by simp[c]},by lia,λv N d=>?_};let[t,j,e,x,J,q1]:=d
 have ex:=q1 xs q;subst e J
 have l:=z i ys H t (.tup [.int i,x]) P j;refine{t,_,rfl,SqT.of AD,rfl,({_,_,rfl,{_,_,rfl,{rfl,(A i x ys _ ex l _ ?_)}}})};cases u:p i with
 |true =>
  exact{_,λy O q=>{_,by omega,rfl,c,⟨_,_,rfl⟩,q},B i x ys _ ex u l}
 |false =>
  exact{_,by omega,rfl,c,⟨_,_,rfl⟩,E i x ys _ ex u l}
 have e:i=xs.length:=by lia
 subst e;exact .inl {{xs,q,ο _},hd ys H P}
end
section
variable{prog:bu}{w:World}{K:Type}[DecidableEq K]{knd:HeapKind prog w K}{A:dh}{E:yB}{s:ν}
def ze5(H:knd.room A)(c:knd.is s.heap k a)(I:s.heap.DictOfH knd d xs)
  (r:∀ h',h'.DictOfH knd d (wv xs k a v)->gr d s.heap h'->Q () { s with heap:=h' }) (hsz:xs.length<=sizeLine) :
  wpAny (model prog w) A (dictSetHashed d (.ref a) (knd.hash k) v) Q E s:=by
 revert I;apply u3;intro o L J [g,u,hd,he,i,l]
 have keep:∀ {f:Obj->Obj} {x:K × Addr × Value},x∈xs->knd.is (s.heap.update d f) _ _:=λb=>knd.keeps (i _ b) g hd (fm ..);unfold dictSetHashed
 try with_reducible refine ff ?_
 refine δ<|wpAny_dictFind_heap H c g hd he i l (λn=>?_) λj p B=>?_;refine δ (rk (wpAny_updateDictKeys (hz:=by have e:=size_of_entries he;lia) g hd (r _ ?_<|fm ..)));rw[(storedH_new (atKey_none_of_get n) a v)];refine x3 _ _ _ {dw _ g<|uz<|n_ hd _,u.mapDictKeys _,n_ hd _,by simp[he,vj],λx b=>?_,?_};let b||b:=bg.mp b
 exact keep b;cases τ.mp b;exact knd.keeps c g hd<|fm ..;rw[au,m_];refine{l,by simp,λx b y q e=>not_mem_keys_of_get n ?_};rw[show k=y from(τ.mp q).symm,<-e];exact b;refine δ<|rk<|δ<|wpAny_updateDict g hd<|wpAny_point<|r _ ?_<|fm ..;rw[(storedH_old (atKey_of_get l B) a v)];refine x3 _ _ J {dw _ g<|uz<|E_ hd _,u.mapDict _,E_ hd _,?_,λx b=>?_,by rw[keys_map_putAt];exact l}
 have:=modify_map_putAt (vj knd) (λe:Eu=>{ e with val:=v }) k v (λz z=>rfl) l B;rw[<-he]at this;simpa using this;let[y,q,rfl]:=az.mp b
 have D:=λf=>keep (f:=f) q;unfold putAt;split;exact D _;exact D _
def IZ(xs ys:List (K × Addr × Value)):List (K × Addr × Value):=ys.foldl (λa y=>wv a y.1 y.2.1 y.2.2) xs
def ze6(xs:List (K × Addr × Value))(k:K)(a:Addr)(v:Value):(wv xs k a v).length<=xs.length+1:=by
 unfold wv;split;rw[η];lia;rw[ψ];exact ο _
theorem qY:∀ (ys xs:List (K × Addr × Value)),(IZ xs ys).length<=xs.length+ys.length
 | [],xs=>ο _
 |y::ys,xs=>by
  have h1:=qY ys<|wv xs y.1 y.2.1 y.2.2
  have h2:=ze6 xs y.1 y.2.1 y.2.2
  show(IZ _ ys).length<=_;rw[fj];lia
def ze7{xs ys:List (K × Addr × Value)}{y:K × Addr × Value}(h:ys[i]? =some y):IZ xs (ys.take<|i+1)=wv (IZ xs<|ys.take i) y.1 y.2.1 y.2.2:=by
 have:ys.take (i+1)=ys.take i++[y]:=by rw[gk,h];rfl
 unfold IZ;rw[this,io]
 rfl
def ze8(b:s.heap.get? a=some o)(c:o.cls=.type "tuple")(h:Q false s):wpAny (model prog w) A (Builtin.Dict.quietEq<|.ref a) Q E s:=δ<|qt ⟨o,b,c⟩ F.slot_tuple_eq.lookup (π h)
def SU(knd:HeapKind prog w K)(ys:List (K × Addr × Value)):Prop:=(ys.map λy=>knd.hash y.1).Nodup
def ze9{id:String}{d:Addr}{o:Obj}{c n}{ys:List (K × Addr × Value)}{Q:Array Eu->ν->Prop}(q:s.heap.get? d=some o)(hd:o.data=.dict c n)(he:c.toList=ys.map (vj knd))(r:∀ y∈ys,∃ ob,s.heap.get? y.2.1=some ob/\ob.cls=.type "tuple")(ap:SU knd ys)(h:Q c s) :
  wpAny (model prog w) A (Builtin.Dict.entriesForEmpty id d) Q E s:=by
 refine δ<|na q hd ?_
 have one:∀ e∈c.toList,(c.filter (·.hash==e.hash)).size<=1:=λe g=>by
  rw[<-dk,Array.toList_filter,he,Ha,η];rw[he]at g;let[y,l,rfl]:=az.mp g
  have:(ys.filter<|(λx:Eu=>x.hash ==(vj knd y).hash) ∘ vj knd).length=(ys.map λy=>knd.hash y.1).count (knd.hash y.1):=by
   rw[List.count_eq_countP,List.countP_map,List.countP_eq_length_filter]
   rfl
  rw[this];exact zm.mp ap _
 refine δ ?_;rw[<-Array.forIn_toList];refine Fa _ (λrest z j=>j=s/\∀ e∈rest,e∈c.toList) _ ?_ ?_ _ _ {rfl,λe h=>h};intro e rest b j [rfl,a]
 have g:=a e aa
 have i:=g;rw[he]at i;let[y,l,u]:=az.mp i
 have v:e.key=.ref y.2.1:=by rw[<-u];rfl
 let[ob,h1,h2]:=r y l;rw[v];refine δ<|ze8 h1 h2 ?_;simp only[Bool.not_false,if_true];rw[if_neg (by have:=one e g;omega)];exact π {rfl,λB h'=>a B<|ω _ h'};intro b j [rfl,z];exact π h
def qZ{xs ys:List (K × Addr × Value)}{Q:Unit->ν->Prop}(hu:knd.room A)(v:d≠o)(N:(o == ix)=false)
  (hd:s.heap.DictOfH knd d xs) (ho:s.heap.DictOfH knd o ys) (ht:∀ y∈ys,∃ ob,s.heap.get? y.2.1=some ob/\ob.cls=.type "tuple") (ap:xs=[]->SU knd ys)
  (O:∀ h',(h'.DictOfH knd d (IZ xs ys)\/(xs=[]/\h'.DictOfH knd d ys))->gr d s.heap h'->Q () { s with heap:=h' })
  (hsz:xs.length+ys.length<=sizeLine) :
  wpAny (model prog w) A (yj nm d o) Q E s:=by
 refine u3 ?_<|id hd;intro od esd epd [e,GT,c,D,hisd,hnd];refine u3 ?_<|id ho;intro oo g epo [j,hco,a,n,r,T]
 have H:=size_of_entries n;unfold yj;rw[if_neg (by simpa using v)];unfold Builtin.Dict.showsAll;rw[if_neg (by rw[N];exact ax)];refine δ<|π<|δ<|na j a ?_;dsimp only;split
 any_goals (refine δ<|na e c ?_;split)
 rename_i I
 have J:xs=[]:=by
  rw[(Di.mp I)]at D;exact zw.mp D.symm
 refine δ<|ze9  j a n ht (ap J) ?_;split;refine δ (wpAny_updateDictKeysTo e c (π (O _ (.inr ⟨J,_,_,_,dw _ e<|uz<|n_ c _,GT.mapDictKeys _,
  n_ c _,n,λx hx=>knd.keeps (r x hx) e c (fm ..),T⟩) (fm ..))) (by lia))
 rename_i U
 have h0:=Di.mp (by simpa using U)
 have Y:=dr.mp (by rw[<-H,h0];rfl);subst Y;exact π<|O _ (.inl hd) (xa _ _)
 all_goals
  refine δ<|wpAny_dictEpoch j a<|δ<|na j a<|δ ?_;rw[zn];refine Fa _
   (λrest _ s'=>∃ h' i,s'={ s with heap:=h' }/\rest=Ks i (g.size-i)/\i<=g.size/\h'.DictOfH knd d (IZ xs<|ys.take i)/\gr d s.heap h')
   _ ?_ ?_ _ _ (x2 s.heap 0 {rfl,by simp,aw _,hd,xa _ _})
  intro x rest b s' [h',i,rfl,z,hi,q,l]
  have A1:i<g.size:=by
   let h||h:=dz i g.size
   ·exact h
   ·rw[yu h]at z;simp at z
  obtain⟨rfl,B⟩:x=i/\rest=Ks (i+1) (g.size-(i+1)):=by
   rw[show g.size-i=(g.size-(i+1))+1 by omega,Fe]at z;injection z with h1 h2
   exact⟨h1,h2⟩
  have u:h'.get? o=some oo:=(l.2 o<|eh v).trans j;obtain⟨y,hy⟩:∃ y,ys[x]? =some y:={ys[x]'(by lia),ζ _}
  have hk:knd.is h' y.1 y.2.1:=knd.keeps (r y<|ι hy) e c l;refine δ<|na u a ?_;rw[entry_at n x,hy]
  have hmx:(IZ xs<|ys.take x).length<=sizeLine:=by
   have e1:=qY (ys.take x) xs
   have e2:(ys.take x).length<=ys.length:=by rw[de];lia
   lia
  refine δ<|ff<|ze5 (s:={ s with heap:=h' }) hu hk q (λh2 hd2 L=>?_) hmx
  have M:h2.get? o=some oo:=(L.2 o<|eh v).trans u;refine δ<|wpAny_dictEpoch M a ?_;rw[if_neg (by simp)];exact π (x2 h2 (x+1) {rfl,B,A1,by rw[ze7 hy];exact hd2,l.trans L})
  ·intro b s' [h',i,rfl,z,hi,q,l]
   have hin:i=g.size:=by
    let h||h:=dz i g.size
    ·rw[show g.size-i=(g.size-(i+1))+1 by omega,Fe]at z;exact nomatch z
    ·exact ka hi h
   refine π<|O h' (.inl ?_) l;rw[hin,H,ce]at q;exact q
def zfa(knd:HeapKind prog w K)(d o:Addr)(b:d≠o)(c:(o == ix)=false) :
  MeetsIn prog w (ul.«dict.update» {[.ref d,.ref o],[]}) (λA R s=>knd.room A.in1/\∃ xs ys,s.heap.DictOfH knd d xs/\s.heap.DictOfH knd o ys/\(∀ y∈ys,∃ ob,s.heap.get? y.2.1=some ob/\ob.cls=.type "tuple")/\(xs=[]->SU knd ys)/\xs.length+ys.length<=sizeLine ∧
   ∀ h',(h'.DictOfH knd d (IZ xs ys)\/(xs=[]/\h'.DictOfH knd d ys))->gr d s.heap h'->R (.ok<|.ret .none) { s with heap:=h' }) :=
 .of_wp (by
  intro A R s [i,xs,ys,hd,a,j,ap,hsz,h];refine δ<|δ<|yw hd.typeIs<|π ?_;exact δ<|va a.typeIs<|δ<|δ<|δ<|lj a.typeIs zx<|δ<|qt a.typeIs F.slot_dict_iter.lookup<|π<|δ<|π<|qZ i b c hd a j ap (λh' e g=>(δ<|π<|π {_,rfl,h h' e g})) hsz)
end
def EV(kvs more:xA):xA:=more.foldl (λb a=>BL b a.1 a.2) kvs
def KT.merge:∀ {more:xA} {ys:vA} {kvs:xA} {xs:vA},KT H more ys->KT H kvs xs->KT H (EV kvs more) (IZ xs ys):=by
 intro more ys kvs xs r
 induction r generalizing kvs xs with
 |nil=>intro q;exact q
 |@cons p q ps c h t a =>
  intro b
  have e:KT H (BL kvs p.1 p.2) (wv xs q.1 q.2.1 q.2.2):=by
   rw[<-h.1];exact(b.put _ h.2.1 h.2.2)
  exact a e
theorem W8:∀ (more kvs:xA),(EV kvs more).length<=kvs.length+more.length
 | [],kvs=>ο _
 |p::r,kvs=>by
  have h2:=GU kvs p.1 p.2
  have h1:=W8 r<|BL kvs p.1 p.2
  show(EV _ r).length<=_;rw[fj];lia
theorem SV:∀ (more a:xA),((a++more).map (·.1)).Nodup->EV a more=a++more
 | [],a,_=>by simp[EV]
 |p::r,a,h=>by
  have e:BL a p.1 p.2=a++[p]:=by
   unfold BL;rw[if_neg];rw[fk];intro[x,b,he];rw[au,m_]at h;exact h.2.2 _ (az.mpr ⟨x,b,rfl⟩) _ (by simp) (of_decide_eq_true he)
  show EV (BL _ _ _) r=_;rw[e,SV r _ (by rw[fu];exact h),fu]
  rfl
def KT.keys(r:KT H kvs xs):kvs.map (·.1)=xs.map (·.1):=by
 induction r with
 |nil=>rfl
 |cons h t a=>rw[df,df,a,h.1]
def NR(more:xA):Prop:=∀ (P:bu) (w:World),((more.map (·.1)).map (jf<|D0 P w).hash).Nodup
def W9:V->tF->Hp->VK->Prop:=λx vs H Q=>∃ d o kvs more,x=.ref d/\vs=[.ref o]/\d≠o/\H d=some (.dT kvs)/\H o=some (.dT more)/\(kvs=[]->NR more)/\kvs.length+more.length<=sizeLine/\Q .non (upd H d<|.dT<|EV kvs more)
def zfb(O:X.A.units+1<cLine):SD X "dict.update" W9:=by
 intro T s U H x vs v us Q I Y rv h;revert h;apply u4;intro d o kvs more [rfl,rfl,n,w,hO,ap,hz,q];subst Y;let[z1,B,xs,g,l]:=MC I.hok w;let[u,rfl,rfl]:=rv.one;let[z2,D,ys,a,j]:=MC I.hok hO
 have L:=Paired.length g
 have l2:=Paired.length a
 have nd:(more.map (·.1)).Nodup:=by
  revert j;apply u3;intro _ _ _ [_,_,_,_,_,hn];rw[a.keys];exact hn
 refine vc PySem.F.slot_dict_update l.typeIs PySem.F.entry_dict_update (PySem.F.args_dict_update_2 _ _) (zfa (jf<|D0 X.prog X.w) d o n D) {gy O,x2 xs ys {l,j,λy hy=>?_,λe=>?_,by lia,λh' dd hs=>?_}}
 ·revert j;apply u3;intro _ _ _ [_,_,_,_,E,_];refine u3 ?_<|E y hy;intro ob _ _ [h1,h2,_];exact⟨ob,h1,h2⟩
 ·have:=ap (dr.mp (by rw[L,e];rfl)) X.prog X.w;rw[a.keys,ip]at this;exact this
 ·have tk:∀ {i:xA} {b:vA},KT H i b->KT (upd H d<|.dT<|EV kvs more) i b:=λr=>r.keeps λc ys M=>by
   rw[AK (AZ M w (λz=>nomatch z))];exact M
  have fin:∀ {b},KT H (EV kvs more) b->h'.DictOfH (jf<|D0 X.prog X.w) d b->EP X T U Q .none { s with heap:=h' }:=λ{b} r J=>by
   revert J;apply u3;intro ob es ep [N,h2,h3,h4,_,h5];exact x2 (.non) _ {O9 (ob:=.dT<|EV kvs more) I (by rw[w];exact nj) hs ⟨ob,N⟩ {(by have:=W8 more kvs;lia),B,_,tk r,x3 ob es ep ⟨N,h2,h3,h4,h5⟩},rfl,q}
  let dd||[e,dd]:=dd
  ·exact fin (a.merge g) dd
  ·have e0:kvs=[]:=dr.mp (by rw[L,e];rfl);refine fin ?_ dd;rw[e0,SV more [] nd];exact a
def SW(H:Hp)(ps:List (V × V))(kvs:xA):Prop:=Paired (λ(q:V × V) (a:List AN × V)=>(∃ b,q.1=.ref b/\H b=some (.tup<|a.1.map kV))/\q.2=a.2) ps kvs
def rA:upd (upd H p o) p a=upd H p a:=by
 funext x;by_cases e:x=p;rw[e,AD,AD];rw[AK e,AK e,AK e]
def zfc(h:H p=some o):upd H p o=H:=by
 funext x;by_cases e:x=p;rw[e,AD,h];rw[AK e]
def zfd(hu:X.A.units+1<cLine):∀ (g:List (Value × Value)) (ps:List (V × V)) (kvs a:xA) (s:ν) (H:Hp) (Q:PUnit->ν->Prop),Inv X M o H s->H d=some (.dT a)->VV ps g->SW H ps kvs->a.length+kvs.length<=sizeLine ->
  (∀ l,Inv X M o (upd H d<|.dT<|EV a kvs) l->Q PUnit.unit l)->wpAny (model X.prog X.w) X.A (storeAll d g) Q E s:=by
 intro g
 induction g with
 |nil =>
  intro ps kvs a s H Q I e rel j hz h;cases rel;cases j;refine π<|h s ?_
  show Inv X _ o (upd H d<|.dT a) s;rw[zfc e];exact I
 | cons x g N =>
  intro ps kvs a s H Q I e rel j hz h;cases rel with
  | @cons p _ ps _ y rel =>
   cases j with
   |@cons _ r _ kvs O j =>
    let[[b,T,B],U]:=O;let[u,v]:=x
    have D:=y.2
    have J:=y.1;rw[T]at J;rw[U]at D;cases (J);rw[fj]at hz;let[z,hd,xs,rl,dd]:=MC I.hok e
    have hl:=GU a r.1 r.2;unfold storeAll;rw[yp];refine δ (δ (wpAny_dictSet_heap (hsz:=(by rw[<-Paired.length rl];exact z))  (show X.A.units<cLine by lia) (KW I.hok B) dd λh' w Y=>π ?_))
    have tk:∀ {o':HO} {c:Addr} {ys:tF},H c=some (.tup ys)->upd H d o' c=some _:=λn=>by
     rw[AK (AZ n e (λz=>nomatch z))];exact n
    revert w;apply u3;intro q es ep [L,h2,h3,h4,_,h5]
    have I':Inv X _ o _ { s with heap:=h',toks:=s.toks+(jf<|D0 X.prog X.w).draws r.1 } :=
     O9 (ob:=.dT _) I (by rw[e];exact nj) Y ⟨q,L⟩ {by omega,hd,_,(rl.put _ B D).keeps λc ys n=>tk n,x3 q es ep ⟨L,h2,h3,h4,h5⟩}
    refine N ps _ _ _ _ Q I' AD rel (Paired.mapP j (by intro q kv' [[b',e1,e2],e3];exact{{b',e1,tk e2},e3})) (by omega) λl i=>h l ?_;rw[rA]at i;exact i
def MI(a:List (TE × TE)):TE:=λc H Q=>∀ p,H p=none->MD a c (upd H p<|.dT []) λps b=>b p=some (.dT [])/\∃ kvs:xA,SW b ps kvs/\kvs.length<=15/\Q (.ref p) (upd b p<|.dT<|EV [] kvs)
def zfe(c:X.A.units+1<cLine)(h:SG X pos keys values b)(a:keys.all (·.isSome)=true)(d:keys.length=values.length)(h0:keys≠[])
  (h15:keys.length<=15):PE X (.Dict keys values pos) (MI b):=by
 refine λu s g H Q I q=>wpAny_Dict_any a d h0 h15<|AU (h _ _ g _ _ (I.laid     (λz z q=>ξ _ q) (ο _) (VW _ I.big)) (q _<|I.hok.fresh<|ο _)) λj l ⟨ps,n,o,rel,e,kvs,r,v,q2⟩=>(zfd c j ps _ [] l n _ o e rel r ?_ λw i=>x2 (.ref _) _ ⟨i,rfl,q2⟩);rw[wp,kd];lia
def zff:MI a c H Q=∀ p,H p=none->MD a c (upd H p<|.dT []) λps b=>b p=some (.dT [])/\∃ kvs:xA,SW b ps kvs/\kvs.length<=15/\Q (.ref p) (upd b p<|.dT<|EV [] kvs):=rfl
def zfg:VX e ty tx b H Q=(e b H λx c=>∃ a,x=.ref a/\KZ c a/\ty b c λy g=>tx b g λz d=>∃ o,DGet d a y o/\Q (o.getD z) d):=rfl
def zfh:MD [] b H a=a [] H:=rfl
def zfi:MD ((tk,b)::r) a H c=(tk a H λx d=>b a d λy e=>MD r a e λps g=>c ((x,y)::ps) g):=rfl
def Ends.thaw(D:Ends)(d:Addr)(o:Obj)(kvs:vC):Ends:={ D with nx:=λa H=>H d=some (.frz o<|.dK kvs)/\D.nx a (upd H d<|.dK kvs),rt:=λv H=>H d=some (.frz o<|.dK kvs)/\D.rt v (upd H d<|.dK kvs) }
def zfj(c:TE)(g:TG)(e:TS):TS:=λD a H=>c a H λx b=>∃ d kvs,x=.ref d/\b d=some (.dK kvs)/\∀ o,HE (qQ d o kvs) g e (D.thaw d o kvs) a (upd b d<|.frz o<|.dK kvs)
def zfk:zfj c g e D a H=(c a H λx b=>∃ d kvs,x=.ref d/\b d=some (.dK kvs)/\∀ o,HE (qQ d o kvs) g e (D.thaw d o kvs) a (upd b d<|.frz o<|.dK kvs)):=rfl
section
variable{X:Cx}{tg:Expr}
end
def XA(K:W.Frag):tF->Hp->VK->Prop:=λxs H Q=>∃ (a:Addr) (kvs:vC),xs=[.ref a]/\H a=some (.dK kvs)/\∀ l,H l=none->Q (.ref l) (upd H l<|.lst<|kvs.map λp=>kV p.1)
section
variable{X:Cx}
end
def zfl{K:W.Frag}{p:Addr}{H:Hp}{Q:VK}:XA K [.ref p] H Q=∃ kvs,H p=some (.dK kvs)/\∀ l,H l=none->Q (.ref l) (upd H l<|.lst<|kvs.map λp=>kV p.1):=by simp[XA]
def Fly.kept{bad:zC}{H:Hp}{h h':Heap}{e:Addr}{cls:Value}(F:Fly bad H h e cls)(k:∀ b o,h.get? b=some o->h'.get? b=some o):Fly bad H h' e cls:=by
 let[i,fr,j,vs,h1,h2,h3,h4,h5]:=F;refine{i,fr,x2 j vs {k _ _ h1,h2,h3,h4,?_}};let z||[T,l,n,a,b,c,d,f,g]:=h5
 ·exact .inl z
 ·exact .inr<|x3 T l n {a,b,c,d,k _ _ f,g}
def rC{X:Cx}{x y:Str}{p1 p2 pos:Pos}{j:Nat}{C D:Value}(l:Gl X x)(n:X.mg x=some C)(c:Gl X y)(d:X.mg y=some D)(hd:(x ==("__debug__":Str))=false:=by decide)(g:(y ==("__debug__":Str))=false:=by decide):PX X (.Tuple [.Name x p1,.Name y p2] j pos) (λcls=>W.exmAny X.K cls [C,D]):=by
 intro r s u H e cls b Q E I F w h
 have i:Inv (X.hand e) r u H s:=I.hand;refine wpAny_Tuple (Ff (NG  i l n (Ff (NG  i c d (wpAny_items_nil {by rw[wp];show 2<=_;omega,?_}) g)) hd))
 have a:∀ q o,s.heap.get? q=some o->(s.heap.push { cls:=.type "tuple",data:=.seq [C,D].toArray }).get? q=some o:=λv v z=>ξ _ z;exact(W.exm_tup2 (I.kIn.keeps a) (zak<|F.kept a) (ak s.heap rfl) w).here (h _ (I.kept  a) (F.kept a))
def CQ(x:V)(P:zC):Prop:=match x with
 |.ref a=>P a
 |_=>False
def GY(x:V)(P:Int->Prop):Prop:=match x with
 |.int a=>P a
 |_=>False
def KD(x:V)(P:Bool->Prop):Prop:=match x with
 |.bl a=>P a
 |_=>False
def FJ(xs:tF)(P:V->Prop):Prop:=match xs with
 | [x]=>P x
 |_=>False
def QF(xs:tF)(P:V->tF->Prop):Prop:=match xs with
 |x::r=>P x r
 |_=>False
def QH(xs:tF)(P:Prop):Prop:=match xs with
 | []=>P
 |_=>False
def GB:CQ x P=∃ a,x=.ref a/\P a:=by cases x<;>simp[CQ]
def QI:GY x P=∃ a,x=.int a/\P a:=by cases x<;>simp[GY]
def XB:KD x P=∃ a,x=.bl a/\P a:=by cases x<;>simp[KD]
def NS:FJ xs P=∃ x,xs=[x]/\P x:=by rcases xs with _|⟨x,_|⟨y,r⟩⟩<;>simp[FJ]
def zfm:QF xs P=∃ x r,xs=x::r/\P x r:=by
 let _||[x,r]:=xs<;>simp[QF]
 exact{λh=>{x,r,⟨rfl,rfl⟩,h},(by intro[z,z,[e,a],h];exact e ▸ a ▸ h)}
def zfn:QH xs P=(xs=[]/\P):=by let _||[x,r]:=xs<;>simp[QH]
section
variable{P:zC}{PI':Int->Prop}{PB:Bool->Prop}{P1:V->Prop}{P2:V->V->Prop}{PC':V->tF->Prop}{Z:Prop}{p:Addr}{i:Int}{b:Bool}{x y:V}{r:tF}
def zfo:CQ (.ref p) P=P p:=rfl
def zfp:GY (.int i) PI'=PI' i:=rfl
def XC:KD (.bl b) PB=PB b:=rfl
def zfq:FJ [x] P1=P1 x:=rfl
def zfr:QF (x::r) PC'=PC' x r:=rfl
def zfs:QH [] Z=Z:=rfl
def zft:@ite Prop (true=true) (instDecidableEqBool true true) A B=A:=rfl
def rE:@ite Prop (false=true) (instDecidableEqBool false true) A B=B:=rfl
def zfu:(!true)=false:=rfl
def zfv:(!false)=true:=rfl
def zfw{α c :Type}:Kt f (a::l)=f a::Kt f l:=rfl
def zfx{α a :Type}:Kt f []=[]:=rfl
end
section
variable{K:W.Frag}{ta tb tc to ti tv tl td ty tx:TE}{s1:TS}{r r':R2}{σ:St}{H:Hp}{Q:VK}{D:Ends}{QB:zB}{as:TA}{g:TG}{gs:G9}{tt:TT}{te:TE}{k i:Nat}{A6:wE}{f m:Str}{C:Addr}{sp:Sp}{E:St->XK}{v:V}{vs:tF}{QG:St->Hp->Prop}{X:Cx}{e:Expr}{es:wD}{st:Stmt}{tg it:Expr}{QO:Option Int->Hp->Prop}{p q:Addr}{x y:Int}{b b':Bool}{s s':Str}
def AT(K:W.Frag)(ta:TE)(f:Str):TE:=λσ H Q=>ta σ H λx c=>CQ x λa=>∃ C d fs,c a=some (.ins C d fs)/\Cls K C/\NoAttr K C f/\∃ v,fs.lookup f=some v/\Q v c
def zfy:AT K ta f=O1 K ta f:=by funext σ H Q;simp only[AT,O1,GB];simp
def zfz:AT K ta f σ H Q=ta σ H λx c=>CQ x λa=>∃ C d fs,c a=some (.ins C d fs)/\Cls K C/\NoAttr K C f/\∃ v,fs.lookup f=some v/\Q v c:=rfl
def pFl(h:PE X e (O1 K ta f)):PE X e (AT K ta f):=zfy ▸ h
def AM(C:Addr)(m:Str)(sp:Sp)(E:St->XK)(ta:TE)(t:TA):TE:=λσ H Q=>ta σ H λx c=>CQ x λa=>∃ d fs,c a=some (.ins C d fs)/\fs.lookup m=none/\t σ c λvs j=>sp (x::vs) j Q (E σ)
def zf1:AM C m sp E ta as=IT C m sp [] E ta as:=by funext σ H Q;simp only[AM,IT,GB];simp
def zf2:AM C m sp E ta as σ H Q=ta σ H λx c=>CQ x λa=>∃ d fs,c a=some (.ins C d fs)/\fs.lookup m=none/\as σ c λvs j=>sp (x::vs) j Q (E σ):=rfl
def SY(h:PE X e (IT C m sp [] E ta as)):PE X e (AM C m sp E ta as):=zf1 ▸ h
def BE(sp:Sp)(E:St->XK)(t:TA):TE:=λσ H Q=>t σ H λvs a=>sp vs a Q<|E σ
def zf3:BE sp E as=L8 sp [] E as:=by funext σ H Q;simp only[BE,L8,jz]
def zf4:BE sp E as σ H Q=as σ H λvs a=>sp vs a Q (E σ):=rfl
def XD(h:PE X e (L8 sp [] E as)):PE X e (BE sp E as):=zf3 ▸ h
def GD(C:Addr)(sp:Sp)(E:St->XK)(t:TA):TE:=λσ H Q=>t σ H λvs c=>∀ x a,c x=none->c a=none->a≠x->sp (.ref x::vs) (upd (upd c a<|.own x) x (.ins C a [])) (λv d=>v=.non/\Q (.ref x) d) (E σ)
def zf5:GD C sp E as=NJ C sp [] E as:=by funext σ H Q;simp only[GD,NJ,jz]
def zf6:GD C sp E as σ H Q=as σ H λvs c=>∀ x a,c x=none->c a=none->a≠x->sp (.ref x::vs) (upd (upd c a<|.own x) x (.ins C a [])) (λv d=>v=.non/\Q (.ref x) d) (E σ):=rfl
def pMk(h:PE X e (NJ C sp [] E as)):PE X e (GD C sp E as):=zf5 ▸ h
def C9(K:W.Frag)(ta tv:TE)(f:Str):TS:=λD σ H=>tv σ H λy j=>ta σ j λx c=>CQ x λa=>∃ C d fs,c a=some (.ins C d fs)/\Cls K C/\NoAttr K C f/\fs.length<1000/\D.nx σ (upd c a<|.ins C d<|BV f y fs)
def zf8:C9 K ta tv f=O2 K ta tv f:=by funext D σ H;simp only[C9,O2,GB];simp
def zf9:C9 K ta tv f D σ H=tv σ H λy j=>ta σ j λx c=>CQ x λa=>∃ C d fs,c a=some (.ins C d fs)/\Cls K C/\NoAttr K C f/\fs.length<1000/\D.nx σ (upd c a<|.ins C d<|BV f y fs):=rfl
def pSf(h:PS X st (O2 K ta tv f)):PS X st (C9 K ta tv f):=zf8 ▸ h
def A7(t:TE):TT:=λσ H Q=>t σ H λx a=>KD x λk=>Q k a
def XF:A7 ta=L5 ta:=by funext σ H Q;simp only[A7,L5,XB]
def zgb:A7 ta σ H QB=ta σ H λx a=>KD x λk=>QB k a:=rfl
def LB(h:PT X e (L5 ta)):PT X e (A7 ta):=XF ▸ h
def pTb(h:PT X e (tB ta)):PT X e (A7 ta):=by rw[XF];exact h
def FW(r r':R2)(ta tb tc:TE):TE:=λσ H Q=>ta σ H λx c=>tb σ c λy d=>r x y d λz a=>KD z λk=>if k=true then tc σ a λj l=>r' y j l Q else Q (.bl false) a
def rF:FW r r' ta tb tc=L6 r r' ta tb tc:=by funext σ H Q;simp only[FW,L6,XB]
def zgd:FW r r' ta tb tc σ H Q=ta σ H λx c=>tb σ c λy d=>r x y d λz a=>KD z λk=>if k=true then tc σ a λj l=>r' y j l Q else Q (.bl false) a:=rfl
def pCh(h:PE X e (L6 r r' ta tb tc)):PE X e (FW r r' ta tb tc):=rF ▸ h
def pCt(h:PT X e (L5<|L6 r r' ta tb tc)):PT X e (A7<|FW r r' ta tb tc):=by rw[XF,rF];exact h
def LC(ta tb:TE):TE:=λσ H Q=>ta σ H λx a=>KD x λc=>if c=true then tb σ a Q else Q (.bl false) a
def zgg:LC ta tb=OV ta tb:=by funext σ H Q;simp only[LC,OV,XB]
def zgh:LC ta tb σ H Q=ta σ H λx a=>KD x λc=>if c=true then tb σ a Q else Q (.bl false) a:=rfl
def pAv(h:PE X e (OV ta tb)):PE X e (LC ta tb):=zgg ▸ h
def KF(K:W.Frag)(x:V)(H:Hp)(Q:Bool->Prop):Prop:=match x with
 |.bl b=>Q b
 |.int i=>Q<|i != 0
 |.non=>Q false
 |x=>∃ k,KU K x H k/\Q k
def zgj{x:V}{Q:Bool->Prop}:KF K x H Q=∃ k,KU K x H k/\Q k:=by cases x<;>simp[KF,KU]
def rG{Q:Bool->Prop}:KF K (.bl b) H Q=Q b:=rfl
def zgk{Q:Bool->Prop}:KF K (.int x) H Q=Q (x != 0):=rfl
def zgl{Q:Bool->Prop}:KF K .non H Q=Q false:=rfl
def zgm{Q:Bool->Prop}:KF K (.ref p) H Q=∃ k,KU K (.ref p) H k/\Q k:=rfl
def zgn{Q:Bool->Prop}:KF K (.str s) H Q=∃ k,KU K (.str s) H k/\Q k:=rfl
def E6(K:W.Frag)(ta:TE):TT:=λσ H Q=>ta σ H λx a=>KF K x a λk=>Q k a
def zgo:E6 K ta=o7 K ta:=by funext σ H Q;simp only[E6,zgj]
def zgp:E6 K ta σ H QB=ta σ H λx a=>KF K x a λk=>QB k a:=rfl
def pTr(h:PT X e (o7 K ta)):PT X e (E6 K ta):=zgo ▸ h
def NT(C:Int->Int->Prop)(g:Int->Int->V):R2:=λx y H Q=>GY x λi=>GY y λj=>C i j/\Q (g i j) H
def rH{C:Int->Int->Prop}{g:Int->Int->V}:NT C g=rI C g:=by funext x y H Q;simp only[NT,rI,QI];simp
def SZ(g:Int->Int->V):R2:=λx y H Q=>GY x λi=>GY y λj=>Q (g i j) H
def zgr{g:Int->Int->V}:SZ g=JV g:=by funext x y H Q;simp only[SZ,JV,QI];simp
def S0(g:Int->V):V->Hp->VK->Prop:=λx H Q=>GY x λi=>Q (g i) H
def zgs{g:Int->V}:S0 g=rU g:=by funext x H Q;simp only[S0,rU,QI]
abbrev KG:R2:=SZ λi j=>.int<|i-j
abbrev CS:R2:=NT (λ_ j=>0<j) λi j=>.int<|i%j
abbrev DA:R2:=NT mD λi j=>.int<|i/j
abbrev rPw:R2:=NT Tz λi j=>.int<|i^j.toNat
abbrev MJ:V->Hp->VK->Prop:=S0 λi=>.int (-i)
def zgu{C:Int->Int->Prop}{g:Int->Int->V}:NT C g (.int x) (.int y) H Q=(C x y/\Q (g x y) H):=rfl
def zgv{g:Int->Int->V}:SZ g (.int x) (.int y) H Q=Q (g x y) H:=rfl
def zgw{g:Int->V}:S0 g (.int x) H Q=Q (g x) H:=rfl
def zgx:B8 X (iw .Sub) KG:=by rw[KG,zgr];exact Uc
def zgy:B8 X (iw .Mod) CS:=by rw[CS,rH];exact Uh
def zgz:B8 X (iw .FloorDiv) DA:=by rw[DA,rH];exact Ug
def zg0:R4 X (unaryOp .USub) MJ:=by rw[MJ,zgs];exact Uk
def rB(K:W.Frag)(x y:V)(H:Hp)(R:zB):Prop:=match x,y with
 |.int i,.int j=>R (decide<|i=j) H
 |.str i,.str j=>R (decide<|i=j) H
 |.bl i,.bl j=>R (decide<|i=j) H
 |.non,.int _=>R false H
 |.int _,.non=>R false H
 |.non,.non=>R true H
 |x,y=>rD K x y H R
def CF(K:W.Frag):R2:=λx y H Q=>rB K x y H λb=>Q<|.bl b
def DE(K:W.Frag):R2:=λx y H Q=>rB K x y H λb=>Q<|.bl<|!b
def zg1:CF K (.int x) (.int y) H Q=Q (.bl<|decide<|x=y) H:=rfl
def zg2:CF K (.str s) (.str s') H Q=Q (.bl<|decide<|s=s') H:=rfl
def zg3:CF K (.bl b) (.bl b') H Q=Q (.bl<|decide<|b=b') H:=rfl
def zg4:CF K .non (.int x) H Q=Q (.bl false) H:=rfl
def zg5:CF K (.int x) .non H Q=Q (.bl false) H:=rfl
def zg6:CF K .non .non H Q=Q (.bl true) H:=rfl
def zg7:CF K (.ref p) (.ref q) H Q=K5 K (.ref p) (.ref q) H Q:=rfl
def zg8:CF K (.ref p) .non H Q=K5 K (.ref p) .non H Q:=rfl
def zg9:CF K .non (.ref p) H Q=K5 K .non (.ref p) H Q:=rfl
def zha:CF K (.str s) .non H Q=K5 K (.str s) .non H Q:=rfl
def zhb:CF K .non (.str s) H Q=K5 K .non (.str s) H Q:=rfl
def zhc:DE K (.int x) (.int y) H Q=Q (.bl<|!decide (x=y)) H:=rfl
def zhd:DE K (.str s) (.str s') H Q=Q (.bl<|!decide (s=s')) H:=rfl
def zhe:DE K (.bl b) (.bl b') H Q=Q (.bl<|!decide (b=b')) H:=rfl
def zhf:DE K .non (.int x) H Q=Q (.bl true) H:=rfl
def zhg:DE K (.int x) .non H Q=Q (.bl true) H:=rfl
def zhh:DE K .non .non H Q=Q (.bl false) H:=rfl
def zhi:DE K (.ref p) (.ref q) H Q=MF K (.ref p) (.ref q) H Q:=rfl
def zhj:DE K (.ref p) .non H Q=MF K (.ref p) .non H Q:=rfl
def zhk:DE K .non (.ref p) H Q=MF K .non (.ref p) H Q:=rfl
def nC{p q:Addr}(h:MF K (.ref p) (.ref q) H Q):DE K (.ref p) (.ref q) H Q:=h
def rJ(d:X.A.units+64<cLine):B8 X (du .Eq) (CF X.K):=by
 intro j s σ H x y v u Q I a c h;unfold CF rB at h;split at h;let[t,rfl]:=a;let[w,rfl]:=c;exact eq_int<|F9 I h rfl;let[t,rfl]:=a;let[w,rfl]:=c;exact eq_str<|F9 I h rfl;cases a;cases c;exact eq_bool<|F9 I h rfl;cases a;let[t,rfl]:=c;exact PySem.EqNone.eq_none_int<|F9 I h rfl;cases c;let[t,rfl]:=a;exact PySem.EqNone.eq_int_none<|F9 I h rfl;cases a;cases c;exact PySem.EqNone.eq_none_none<|F9 I h rfl;exact zao d j s σ H _ _ v u Q I a c h
def rK(d:X.A.units+64<cLine):B8 X (du .NotEq) (DE X.K):=by
 intro j s σ H x y v u Q I a c h;unfold DE rB at h;split at h;let[t,rfl]:=a;let[w,rfl]:=c;exact ne_int<|F9 I h rfl;let[t,rfl]:=a;let[w,rfl]:=c;exact ne_str<|F9 I h rfl;cases a;cases c;exact ne_bool<|F9 I h rfl;cases a;let[t,rfl]:=c;exact PySem.EqNone.ne_none_int<|F9 I h rfl;cases c;let[t,rfl]:=a;exact PySem.EqNone.ne_int_none<|F9 I h rfl;cases a;cases c;exact PySem.EqNone.ne_none_none<|F9 I h rfl;exact zap d j s σ H _ _ v u Q I a c h
def FX:R2:=λx y H Q=>match y with
 |.non=>Q (.bl<|decide<|x=.non) H
 |_=>False
def FY:R2:=λx y H Q=>match y with
 |.non=>Q (.bl<|!decide (x=.non)) H
 |_=>False
def zhl:FX v .non H Q=Q (.bl<|decide<|v=.non) H:=rfl
def zhm:FY v .non H Q=Q (.bl<|!decide (v=.non)) H:=rfl
def zhn:FX=o0:=by funext x y H Q;cases y<;>simp[FX,o0]
def zho:FY=o6:=by funext x y H Q;cases y<;>simp[FY,o6]
def zhp:B8 X (du .Is) FX:=zhn ▸ Uq
def zhq:B8 X (du .IsNot) FY:=zho ▸ Uv
def DJ(K:W.Frag):tF->Hp->VK->Prop:=λxs H Q=>FJ xs λx=>∃ n,R5 K x H n/\Q (.int n) H
def zhr:DJ K=WL K:=by funext xs H Q;simp only[DJ,WL,NS];simp
def zhs:DJ K vs H Q=FJ vs λx=>∃ n:Nat,R5 K x H n/\Q (.int n) H:=rfl
def zht:EH X (.builtin "len") (DJ X.K):=zhr ▸ za7
def KH(K:W.Frag):tF->Hp->VK->Prop:=λxs H Q=>FJ xs λx=>CQ x λp=>∃ ys,(SqL K H p ys\/SqT K H p ys)/\∀ l,H l=none->Q (.ref l) (upd H l<|.lst ys)
def zhu:KH K=pB K:=by
 funext xs H Q;simp only[KH,NS,GB];exact propext {(by intro[z,e,p,a,ys,h];exact{p,ys,a ▸ e,h}),(by intro[p,ys,e,h];exact⟨_,e,p,rfl,ys,h⟩)}
def zhv:KH K vs H Q=FJ vs λx=>CQ x λp=>∃ ys,(SqL K H p ys\/SqT K H p ys)/\∀ l,H l=none->Q (.ref l) (upd H l<|.lst ys):=rfl
def zhw:EH X (.type "list") (KH X.K):=zhu ▸ za8
def LD(K:W.Frag):tF->Hp->VK->Prop:=λxs H Q=>FJ xs λx=>CQ x λp=>∃ ys,((SqL K H p ys/\∀ l,H l=none->Q (.ref l) (upd H l<|.tup ys))\/(SqT K H p ys/\Q (.ref p) H))
def zhx:LD K=pC K:=by
 funext xs H Q;simp only[LD,NS,GB];exact propext {(by intro[z,e,p,a,ys,h];exact{p,ys,a ▸ e,h}),(by intro[p,ys,e,h];exact⟨_,e,p,rfl,ys,h⟩)}
def zhy:LD K vs H Q=FJ vs λx=>CQ x λp=>∃ ys,((SqL K H p ys/\∀ l,H l=none->Q (.ref l) (upd H l<|.tup ys))\/(SqT K H p ys/\Q (.ref p) H)):=rfl
def zhz:EH X (.type "tuple") (LD X.K):=zhx ▸ za9
def E7(td ty:TE):TE:=λσ H Q=>td σ H λx d=>ty σ d λy c=>CQ x λa=>∃ v,DGet c a y (some v)/\Q v c
def zh0:E7 td ty=PD td ty:=by funext σ H Q;simp only[E7,PD,GB];simp
def zh1:E7 td ty σ H Q=td σ H λx d=>ty σ d λy c=>CQ x λa=>∃ v,DGet c a y (some v)/\Q v c:=rfl
def pDg(h:PE X e (PD td ty)):PE X e (E7 td ty):=zh0 ▸ h
def JA(ty td:TE):TE:=λσ H Q=>ty σ H λy d=>td σ d λx c=>CQ x λa=>∃ o,DGet c a y o/\Q (.bl o.isSome) c
def zh3:JA ty td=PJ ty td:=by funext σ H Q;simp only[JA,PJ,GB];simp
def zh4:JA ty td σ H Q=ty σ H λy d=>td σ d λx c=>CQ x λa=>∃ o,DGet c a y o/\Q (.bl o.isSome) c:=rfl
def pDi{op:CmpOp}{a b:Expr}(h:PC X op a b (PJ ty td)):PC X op a b (JA ty td):=zh3 ▸ h
def JB(ty td:TE):TE:=λσ H Q=>ty σ H λy d=>td σ d λx c=>CQ x λa=>∃ o,DGet c a y o/\Q (.bl<|!o.isSome) c
def zh6:JB ty td=PK ty td:=by funext σ H Q;simp only[JB,PK,GB];simp
def zh7:JB ty td σ H Q=ty σ H λy d=>td σ d λx c=>CQ x λa=>∃ o,DGet c a y o/\Q (.bl<|!o.isSome) c:=rfl
def pDn{op:CmpOp}{a b:Expr}(h:PC X op a b (PK ty td)):PC X op a b (JB ty td):=zh6 ▸ h
def FL(td ty tv:TE):TS:=λD σ H=>tv σ H λv d=>td σ d λx j=>ty σ j λy l=>CQ x λa=>∃ c,DPut l a y v c/\D.nx σ c
def zh9:FL td ty tv=PL td ty tv:=by funext D σ H;simp only[FL,PL,GB];simp
def zia:FL td ty tv D σ H=tv σ H λv d=>td σ d λx j=>ty σ j λy l=>CQ x λa=>∃ c,DPut l a y v c/\D.nx σ c:=rfl
def pDp(h:PS X st (PL td ty tv)):PS X st (FL td ty tv):=zh9 ▸ h
def IF(td ty:TE):TE:=λσ H Q=>td σ H λx c=>CQ x λa=>KZ c a/\ty σ c λy d=>∃ o,DGet d a y o/\Q (o.getD .non) d
def zic:IF td ty=SH td ty:=by funext σ H Q;simp only[IF,SH,GB]
def zid:IF td ty σ H Q=td σ H λx c=>CQ x λa=>KZ c a/\ty σ c λy d=>∃ o,DGet d a y o/\Q (o.getD .non) d:=rfl
def pD1(h:PE X e (SH td ty)):PE X e (IF td ty):=zic ▸ h
def zif:Zl td ty tx σ H Q=td σ H λx d=>∃ a,x=.ref a/\KZ d a/\ty σ d λy j=>tx σ j λz c=>∃ kvs k,c a=some (.dK kvs)/\y=kV k/\(∀ v,A8 kvs k=some v->Q v (upd c a<|.dK<|SF kvs k))/\(A8 kvs k=none->Q z c):=rfl
def CN(ta:TA):TI:=λσ H R=>ta σ H λvs a=>FJ vs λx=>GY x λj=> -(2^62)<=j/\j<2^62/\R (ET 0 j.toNat) a
def zig:CN as=R0 as:=by
 funext σ H R;simp only[CN,NS,QI];congr 1;funext vs c;exact propext {(by intro[z,e,j,a,h];exact{j,a ▸ e,h}),(by intro[j,e,h];exact⟨_,e,j,rfl,h⟩)}
def pR1(h:PI X tg it (R0 as)):PI X tg it (CN as):=zig ▸ h
def zii:BZ (CN as) g tt te k A6 σ H Q=as σ H λvs a=>FJ vs λx=>GY x λj=> -(2^62)<=j/\j<2^62/\D5 (ET 0 j.toNat) g tt te k A6 σ a Q:=rfl
def zij:CL (CN as) g s1 D σ H=as σ H λvs a=>FJ vs λx=>GY x λj=> -(2^62)<=j/\j<2^62/\HE (ET 0 j.toNat) g s1 D σ a:=rfl
def C4(K:W.Frag)(tl:TE):TI:=λσ H R=>tl σ H λx c=>CQ x λa=>(((∃ xs,SqL K c a xs)/\R (F8 K a) c)\/((∃ xs,SqT K c a xs)/\R (IS K a) c))
def zik:C4 K tl=PQ K tl:=by funext σ H R;simp only[C4,PQ,GB]
def pSq(h:PI X tg it (PQ K tl)):PI X tg it (C4 K tl):=zik ▸ h
def zim:BZ (C4 K tl) g tt te k A6 σ H Q=tl σ H λx c=>CQ x λa=>(((∃ xs,SqL K c a xs)/\D5 (F8 K a) g tt te k A6 σ c Q)\/((∃ xs,SqT K c a xs)/\D5 (IS K a) g tt te k A6 σ c Q)):=rfl
def zin:CL (C4 K tl) g s1 D σ H=tl σ H λx c=>CQ x λa=>(((∃ xs,SqL K c a xs)/\HE (F8 K a) g s1 D σ c)\/((∃ xs,SqT K c a xs)/\HE (IS K a) g s1 D σ c)):=rfl
def FM(K:W.Frag)(ta:TA):TI:=λσ H R=>ta σ H λvs c=>FJ vs λx=>CQ x λa=>(∃ xs,SqL K c a xs)/\R (K9 K a) c
def zio:FM K as=SR K as:=by
 funext σ H R;simp only[FM,NS,GB];congr 1;funext vs c;exact propext {(by intro[z,e,j,a,h];exact{j,a ▸ e,h}),(by intro[j,e,h];exact⟨_,e,j,rfl,h⟩)}
def pEn(h:PI X tg it (SR K as)):PI X tg it (FM K as):=zio ▸ h
def zir:BZ (FM K as) g tt te k A6 σ H Q=as σ H λvs c=>FJ vs λx=>CQ x λa=>(∃ xs,SqL K c a xs)/\D5 (K9 K a) g tt te k A6 σ c Q:=rfl
def zis:CL (FM K as) g s1 D σ H=as σ H λvs c=>FJ vs λx=>CQ x λa=>(∃ xs,SqL K c a xs)/\HE (K9 K a) g s1 D σ c:=rfl
def GE(ta:TE):TO:=λσ H Q=>ta σ H λx a=>GY x λi=>Q (some i) a
def zit:GE ta=O5 ta:=by funext σ H Q;simp only[GE,O5,QI]
def ziu:GE ta σ H QO=ta σ H λx a=>GY x λi=>QO (some i) a:=rfl
def pPt(h:PO X o (O5 ta)):PO X o (GE ta):=zit ▸ h
def JC(K:W.Frag)(n:Nat)(t:G9):TG:=λv σ H Q=>CQ v λa=>∃ xs,SqT K H a xs/\xs.length=n/\t xs σ H Q
def ziw:JC K k gs=FH K k gs:=by funext v σ H Q;simp only[JC,FH,GB];simp
def zix:JC K k gs v σ H QG=CQ v λa=>∃ xs,SqT K H a xs/\xs.length=k/\gs xs σ H QG:=rfl
def pTp(h:PG X e (FH K k gs)):PG X e (JC K k gs):=ziw ▸ h
def JD:G9:=λvs σ H Q=>QH vs<|Q σ H
def ziz:JD=FG:=by funext vs σ H Q;simp only[JD,FG,zfn]
def zi0:JD vs σ H QG=QH vs (QG σ H):=rfl
def pGn(h:IR X es FG):IR X es JD:=ziz ▸ h
def FZ(g:TG)(gs:G9):G9:=λvs σ H Q=>QF vs λv r=>g v σ H λa c=>gs r a c Q
def zi2:FZ g gs=DP g gs:=by funext vs σ H Q;simp only[FZ,DP,zfm]
def zi3:FZ g gs vs σ H QG=QF vs λv r=>g v σ H λa c=>gs r a c QG:=rfl
def pGc(h:IR X es (DP g gs)):IR X es (FZ g gs):=zi2 ▸ h
def EE:V->tF->Hp->VK->Prop:=λx vs H Q=>CQ x λl=>FJ vs λy=>∃ xs,H l=some (.lst xs)/\xs.length<sizeLine/\Q .non (upd H l<|.lst<|xs++[y])
def zi5:EE=nQ:=by
 funext x vs H Q;simp only[EE,NS,GB];exact propext {(by intro[l,e,y,a,xs,h];exact⟨l,xs,y,e,a,h⟩),(by intro[l,xs,y,e,a,h];exact⟨l,e,y,a,xs,h⟩)}
def zi6:SD X "list.append" EE:=zi5 ▸ Yd
end
section
variable{α :Sort _}{p: α ->Prop}{x: α}{b c d:Prop}
def qF:(∃ _: α,False)=False:=eq_false exists_false
def qD[Decidable b]:(decide b=false)=¬ b:=propext decide_eq_false_iff_not
def qR:(∃ x,p x/\b)=((∃ x,p x)/\b):=propext exists_and_right
def qL:(∃ x,b/\p x)=(b/\∃ x,p x):=propext exists_and_left
def q1:(∃ y,x=y/\p y)=p x:=propext exists_eq_left'
def q2:(∃ y,y=x/\p y)=p x:=propext exists_eq_left
def q3:(∃ y,x=y)=True:=eq_true exists_eq'
def q4:(∃ y,y=x)=True:=eq_true exists_eq
def qA:((b/\c)/\d)=(b/\c/\d):=propext and_assoc
def qC[Nonempty α]:(α ->b)=b:=propext<|forall_const α
end
def rM(K:W.Frag):tF->Hp->VK->Prop:=λxs H Q=>∃ (p:Addr) (kvs:xA),xs=[.ref p]/\H p=some (.dT kvs)/\NR kvs/\∀ l,H l=none->Q (.ref l) (upd H l<|.dT kvs)
def zi7{X:Cx}(Y:X.A.units+2<cLine):EH X (.type "dict") (rM X.K):=by
 intro AA s σ H xs us Q I r h;let[o,kvs,rfl,w,ap,q]:=h;let[u,rfl,rx]:=HW r;cases rx;let[z2,B,ys,g,D]:=MC I.hok w
 have l2:kvs.length=ys.length:=Paired.length g
 have nd:(kvs.map (·.1)).Nodup:=by
  let[x,x,x,x,x,x,x,x,v]:=D;rw[g.keys];exact v
 refine callType_codes (Q₁:=λobj i=>obj=.ref s.heap.objs.size/\i={ s with heap:=s.heap.push { cls:=.type "dict",data:=.dict #[] } }) F.kt_called_dict (F.kt_typeCall_dict_1 _) F.entry_dict_init (kt_code_dict_new _ ⟨rfl,rfl⟩) ?_;intro obj i [rfl,rfl]
 have v:=I.hok.fresh<|ο s.heap.objs.size
 have E:=I.laid (a:=s.heap.objs.size) (o:=.dT []) (h':=s.heap.push { cls:=.type "dict",data:=.dict #[] }) (t':=s.toks) (λx x q=>ξ _ q) (ο _) (VW s.heap I.big);let[z1,J,L,j,l]:=MC E.hok AD
 have GR:upd H s.heap.objs.size (.dT []) o=some (.dT kvs):=by rw[AK (BG w v)];exact w
 let[x,x,M,b,d]:=MC E.hok GR
 have l1:L=[]:=dr.mp (Paired.length j).symm
 have l3:kvs.length=M.length:=Paired.length b;subst l1;refine{l.typeIs,F.args_dict_init_2 _ _,?_};unfold ul.«dict.__init__»;refine δ ?_;unfold Builtin.Dict.selfAndRest;refine δ<|yw l.typeIs ?_
 show wpAny _ _ (pure (s.heap.objs.size,[e_ o])) _ _ _;refine π ?_
 show wpAny _ _ (xx "dict.__init__" s.heap.objs.size (.ref o) [] .none) _ _ _;unfold xx;refine δ<|va d.typeIs ?_;rw[if_neg (by decide)];refine δ ?_;unfold Builtin.Dict.merge;refine δ ?_;unfold Builtin.Dict.readDirectly;refine δ<|lj d.typeIs zx ?_;simp only[Bool.not_true,rq,if_false];refine δ<|qt d.typeIs F.slot_dict_iter.lookup<|π ?_;simp only[beq_self_eq_true,if_true];refine δ<|π ?_;refine qZ (knd:=jf<|D0 X.prog X.w) (gy (A:=X.A.in1) Y) (λz=>BG w v z.symm) B l d (λy hy=>?_) (λx=>?_) (λh' dd hs=>?_) (by rw[kd];omega)
 ·let[x,x,x,x,x,x,x,N,x]:=d;let[ob,x,x,h1,h2,x]:=N y hy;exact⟨ob,h1,h2⟩
 ·have:=ap X.prog X.w;unfold SU;rw[b.keys,ip]at this;exact this
 ·show wpAny _ _ (Builtin.Dict.addKeywords s.heap.objs.size []>>=_) _ _ _;refine δ (π<|π {rfl,?_})
  have fin:∀ {n},KT (upd H s.heap.objs.size<|.dT []) kvs n->h'.DictOfH (jf<|D0 X.prog X.w) s.heap.objs.size n->EP X AA σ Q (.ref s.heap.objs.size) { s with heap:=h' }:=λ{n} r O=>by
   let[ob,es,ep,T,h2,h3,h4,x,h5]:=O
   have:=O9 (t':=s.toks) (ob:=.dT kvs) E (by rw[AD];exact nj) hs ⟨ob,T⟩ {z2,J,_,r.keeps λc ys U=>by rw[AK (AZ U AD (λz=>by cases z))];exact U,ob,es,ep,T,h2,h3,h4,h5};rw[rA]at this;exact{.ref s.heap.objs.size,_,this,rfl,q _ v}
  let dd||[e,dd]:=dd
  ·refine fin ?_ dd
   have:=b.merge j;rw[SV kvs [] nd]at this;exact this
  ·exact fin b dd
def zi8{A:dh}{k:Nat}(a:Room k A):A.units+2<cLine:=cf (uy (by decide:2<=64) _) a.units
abbrev Ad:=String->Addr
def SameBut(F:zC)(H a:Hp):Prop:=∀ b o,H b=some o->¬ F b->a b=some o
structure DL(K:W.Frag)(a:Ad):Prop where
 cl:Cls K (a "Plank")
 nC:NoAttr K (a "Plank") "contents"
 nW:NoAttr K (a "Plank") "width"
 nN:NoAttr K (a "Plank") "written"
def pf(a:Addr)(w n:Int):xB:=[("contents",.ref a),("width",.int w),("written",.int n)]
def zi9:¬ ("contents":Str)="width":=by decide
def zja:¬ ("contents":Str)="written":=by decide
def zjb:¬ ("width":Str)="written":=by decide
def S5(a:Addr)(w n:Int):(pf a w n).lookup ("contents":Str)=some (V.ref a):=by simp[pf]
def rN(a:Addr)(w n:Int):(pf a w n).lookup ("width":Str)=some (V.int w):=by
 simp[pf,ai,(beq_eq_false_iff_ne.mpr<|eh zi9)]
def rO(a:Addr)(w n:Int):(pf a w n).lookup ("written":Str)=some (V.int n):=by
 simp[pf,ai,(beq_eq_false_iff_ne.mpr<|eh zja),(beq_eq_false_iff_ne.mpr<|eh zjb)]
def NU(a:Addr)(w n:Int){m:Str}(h1:¬ m="contents")(h2:¬ m="width")(h3:¬ m="written"):(pf a w n).lookup m=none:=by
 simp[pf,ai,(beq_eq_false_iff_ne.mpr h1),(beq_eq_false_iff_ne.mpr h2),(beq_eq_false_iff_ne.mpr h3)]
abbrev _root_.wC:=List (List V)
structure PlankAt(a:Ad)(H:Hp)(p cl:Addr)(w:Nat)(rows:wC)(n:Nat):Prop where
 ob:∃ dx,H p=some (.ins (a "Plank") dx (pf cl w n))
 ls:∃ ts:uD,H cl=some (.lst<|ts.map V.ref)/\Paired (λt r=>H t=some (.tup r)) ts rows
 wd:∀ r∈rows,r.length=w
 sz:rows.length<=1000
 sw:w<=1000
def PlankAt.ne(P:PlankAt a H p b w rows n):p≠b:=by
 let[[c,h1],[d,h2,y],y]:=P;exact AZ h1 h2 (by intro z;cases z)
def PlankAt.same(P:PlankAt a H p b w rows n)(s:Same H c):PlankAt a c p b w rows n:=by
 let[[d,e],[g,i,j],l,o,u]:=P;exact{{d,s _ _ e},{g,s _ _ i,Paired.mapP j λt r q=>s _ _ q},l,o,u}
local macro_rules
 |`(command|example : ($x:ident) := $t:term)=>do
  let i:=Lean.mkIdent
  `(command|def $x:ident ($(i `K):ident : W.Frag) ($(i `a):ident : Ad) : Sp := fun $(i `vs):ident $(i `H):ident $(i `Q):ident $(i `E):ident => $t)
example:(XG):=∃ (p d:Addr) (m w:Nat),vs=[.ref p,.int m,.int w]/\DL K a/\H p=some (.ins (a "Plank") d [])/\m<=1000/\1<=w/\w<=1000 ∧
 ∀ c b,H c=none->PlankAt a b p c w (bd m<|bd w .non) 0->SameBut (· =p) H b->Q .non b
example:(QJ):=∃ p b w rows n,vs=[.ref p]/\DL K a/\PlankAt a H p b w rows n/\Q (.int rows.length) H
example:(XH):=∃ (p b:Addr) (w:Nat) (rows:wC) (n:Nat),vs=[.ref p]/\DL K a/\PlankAt a H p b w rows n/\Q (.int w) H
example:(NV):=∃ (p b:Addr) (w:Nat) (rows:wC) (n:Nat),vs=[.ref p]/\DL K a/\PlankAt a H p b w rows n/\Q (.int n) H
example:(NW):=∃ (p c:Addr) (w:Nat) (rows:wC) (n:Nat) (b:Int),vs=[.ref p,.int b]/\DL K a/\PlankAt a H p c w rows n /\
 (0<=b->b<rows.length->Q .non H)/\(b<0\/rows.length<=b->E (.ref<|a "NoBlock") none H)
example:(KI):=∃ (p c:Addr) (w:Nat) (rows:wC) (n:Nat) (b:Int),vs=[.ref p,.int b]/\DL K a/\PlankAt a H p c w rows n /\
 (∀ (i:Nat) row,b=i->rows[i]? =some row->∀ l,H l=none->Q (.ref l) (upd H l<|.lst row))/\(b<0\/rows.length<=b->E (.ref<|a "NoBlock") none H)
example:(S6):=∃ (p c:Addr) (w:Nat) (rows:wC) (n:Nat) (b:Int) (v:Addr) (xs:tF),vs=[.ref p,.int b,.ref v]/\DL K a/\PlankAt a H p c w rows n/\SqL K H v xs/\xs.length<=2000 /\
 (∀ (i:Nat),b=i->i<rows.length->xs.length=w->∀ d,PlankAt a d p c w (rows.set i xs) (n+1)->SameBut (λx=>x=p\/x=c) H d->Q .non d) /\
 (b<0\/rows.length<=b\/xs.length≠w->E (.ref<|a "NoBlock") none H)
def BI{K:W.Frag}{H:Hp}{p:Addr}{xs:tF}{i:Int}{n:Nat}{v:V}{Q:VK}(h:H p=some (.tup xs))(a:i=n)(b:xs[n]? =some v)(q:Q v H):BK K (.ref p) (.int i) H Q :=
 .inr (.inl (x4 p xs i v {rfl,rfl,SqT.of h,by rw[a];exact SB b,q}))
def NX(h:fs≠a):HO.ins C c fs≠HO.ins d b a:=by
 intro z;injection z with _ _ z
 exact h z
def rP(xs:tF)(h:0<=k):EU xs none (some k)=xs.take k.toNat:=by
 unfold EU
 have e:HT.sIx xs.length xs.length (some k)=min k.toNat xs.length:=by
  show(if k<0 then(k+xs.length).toNat else min _ _)=_;rw[if_neg (by lia)]
 rw[HT.sIx_none,Iw,List.take_eq_take_iff]
 lia
def XI(xs:tF)(h:0<=k):EU xs (some k) none=xs.drop k.toNat:=by
 unfold EU
 have e:HT.sIx xs.length 0 (some k)=min k.toNat xs.length:=by
  show(if k<0 then(k+xs.length).toNat else min _ _)=_;rw[if_neg (by lia)]
 rw[e];let z||z:=dz _ _
 rw[j_ (ig z),jn (by rw[iy];exact ο _)];rw[Ee z,List.drop_of_length_le z];simp
def rQ{K:W.Frag}{H:Hp}{p:Addr}{xs:tF}{lo a:Option Int}{Q:VK}(h:SqL K H p xs)(q:∀ r,H r=none->Q (.ref r) (upd H r<|.lst<|EU xs lo a)):IC K (.ref p) lo a H Q:=.inl<|x2 p xs ⟨rfl,h,q⟩
def SameBut.refl(H:Hp):SameBut F H H:=λz z e z=>e
def SameBut.trans(s:SameBut F H a)(t:SameBut F a c):SameBut F H c:=λb o e n=>t _ _ (s _ _ e n) n
def SameBut.wide(s:SameBut F H a)(i:∀ x,F x->G x):SameBut G H a:=λb o e n=>s _ _ e λz=>n<|i _ z
def Same.sb(s:Same H a):SameBut F H a:=λb o e z=>s b o e
def SameBut.upd(s:SameBut F H a)(h:F p\/H p=none):SameBut F H (upd a p o):=λb u e n=>by
 have:b≠p:=by
  let h||h:=h
  exact λz=>n<|z ▸ h;exact BG e h
 rw[AK this];exact s _ _ e n
structure Ch where
 blk:Nat
 cell:Nat
 val:V
 nd:vE
abbrev _root_.yE:=List Ch
def MK:yE->Int->Int->Option Nat
 | [],_,_=>none
 |c::r,i,j=>if(c.blk:Int)=i/\(c.cell:Int)=j then some r.length else MK r i j
def D6(cs:yE)(i j:Int):Option Nat:=MK cs.reverse i j
def GZ:yE->Nat->wE
 | [],_=>[]
 |c::r,b=>if c.blk=b then GZ r b++[r.length]else GZ r b
def DG(cs:yE)(b:Nat):wE:=GZ cs.reverse b
def XJ(cs:yE)(c:Ch)(i j:Int):D6 (cs++[c]) i j=if(c.blk:Int)=i/\(c.cell:Int)=j then some cs.length else D6 cs i j:=by
 simp[D6,MK]
def zjc(cs:yE)(c:Ch)(b:Nat):DG (cs++[c]) b=if c.blk=b then DG cs b++[cs.length]else DG cs b:=by
 simp[DG,GZ]
theorem XL:∀ {l:yE} {i j:Int} {k:Nat},MK l i j=some k->k<l.length
 | [],_,_,_,h=>by cases h
 |c::r,i,j,k,h=>by
  unfold MK at h;split at h;obtain rfl:=θ h;simp;exact b_<|XL h
def S8(h:D6 cs i j=some k):k<cs.length:=by
 have:=XL h
 rwa [bz]at this
theorem XM:∀ {l:yE} {b k:Nat},k∈GZ l b->k<l.length
 | [],_,_,h=>by cases h
 |c::r,b,k,h=>by
  unfold GZ at h;split at h;let h||h:=bg.mp h
  exact b_<|XM h;rw[τ.mp h];simp;exact b_<|XM h
def XN(h:k∈DG cs b):k<cs.length:=by
 have:=XM h
 rwa [bz]at this
theorem rR:∀ (l:yE) (b:Nat),(GZ l b).length<=l.length
 | [],_=>ο _
 |c::r,b=>by
  have:=rR r b;unfold GZ;split<;>simp<;>omega
def rS(cs:yE)(b:Nat):(DG cs b).length<=cs.length:=by
 have:=rR cs.reverse b
 rwa [bz]at this
def GG(a:Addr)(v:V)(b:Addr):xB:=[("place",.ref a),("value",v),("needs",.ref b)]
def bf(a m b lt c:Addr):xB:=[("ground",.ref a),("made",.ref m),("made_in",.ref b),("latest",.ref lt),("outs",.ref c)]
def DT(a b:Str):Bool:=a==b
section
variable{pl nt gp m mi lt ou:Addr}{v:V}
def BD(h:DT a b=false):(a==b)=false:=h
def zjd:(GG pl v nt).lookup ("place":Str)=some (V.ref pl):=by simp[GG]
def rT:(GG pl v nt).lookup ("value":Str)=some v:=by
 simp[GG,ai,BD (a:="value") (b:="place") (by decide)]
def rV:(GG pl v nt).lookup ("needs":Str)=some (V.ref nt):=by
 simp[GG,ai,BD (a:="needs") (b:="place") (by decide),BD (a:="needs") (b:="value") (by decide)]
def zje(h:DT g f=false):BV f y ((g,x)::r)=(g,x)::BV f y r:=by
 have:¬ g=f:=λe=>by rw[e]at h;simp[DT]at h
 simp[BV,this]
def QK:(bf gp m mi lt ou).lookup ("ground":Str)=some (V.ref gp):=by simp[bf]
def KJ:(bf gp m mi lt ou).lookup ("made":Str)=some (V.ref m):=by
 simp[bf,ai,BD (a:="made") (b:="ground") (by decide)]
def XO:(bf gp m mi lt ou).lookup ("made_in":Str)=some (V.ref mi):=by
 simp[bf,ai,BD (a:="made_in") (b:="ground") (by decide),BD (a:="made_in") (b:="made") (by decide)]
def rW:(bf gp m mi lt ou).lookup ("latest":Str)=some (V.ref lt):=by
 simp[bf,ai,BD (a:="latest") (b:="ground") (by decide),BD (a:="latest") (b:="made") (by decide),BD (a:="latest") (b:="made_in") (by decide)]
def QL:(bf gp m mi lt ou).lookup ("outs":Str)=some (V.ref ou):=by
 simp[bf,ai,BD (a:="outs") (b:="ground") (by decide),BD (a:="outs") (b:="made") (by decide),BD (a:="outs") (b:="made_in") (by decide),BD (a:="outs") (b:="latest") (by decide)]
def DM(h:(DT x "ground" || DT x "made" || DT x "made_in" || DT x "latest" || DT x "outs")=false:=by decide +kernel):(bf gp m mi lt ou).lookup x=none:=by
 simp only[oa]at h;let[[[[h1,h2],h3],h4],h5]:=h;simp[bf,ai,BD h1,BD h2,BD h3,BD h4,BD h5]
def zjf:BV "outs" (.ref ou) (BV "latest" (.ref lt) (BV "made_in" (.ref mi) (BV "made" (.ref m) (BV "ground" (.ref gp) []))))=bf gp m mi lt ou:=by
 rfl
end
structure rX(K:W.Frag)(C D:Addr):Prop where
 cl:Cls K C
 nG:NoAttr K C "ground"
 nM:NoAttr K C "made"
 nI:NoAttr K C "made_in"
 nL:NoAttr K C "latest"
 nO:NoAttr K C "outs"
 cc:Cls K D
 nP:NoAttr K D "place"
 nV:NoAttr K D "value"
 nN:NoAttr K D "needs"
def ChAt(D:Addr)(H:Hp)(x:Addr)(c:Ch):Prop:=∃ d a b,H x=some (.ins D d<|GG a c.val b)/\H a=some (.tup [.int c.blk,.int c.cell])/\H b=some (.tup<|c.nd.map V.int)
structure BA where
 b:Addr
 gp:Addr
 m:Addr
 mi:Addr
 lt:Addr
 ou:Addr
 ls:uD
 cl:Addr
def BA.F(A:BA)(x:Addr):Prop:=x=A.m\/x=A.mi\/x∈A.ls\/x=A.lt\/x=A.ou\/x=A.cl
def KeysOk(a:vC)(n:Nat):Prop:=(a.map (·.1)).Nodup/\∀ p∈a,∃ x:Nat,p.1=Au (x:Int)/\x<n
def KeysOk.mono(h:KeysOk a n)(b:n<=m):KeysOk a m:={h.1,λp c=>by let[x,e,d]:=h.2 p c;exact{x,e,υ d b}}
def KeysOk.len(h:KeysOk a n):a.length<=n:=by
 have:=ug  h.1 λk b=>by
  let[p,c,rfl]:=az.mp b;let[x,e,d]:=h.2 p c;rw[e];exact az.mpr {x,ao.mpr d,rfl}
 simpa using this
def KeysOk.put(h:KeysOk b n)(d:k<n)(c:A8 b (.inl (k:Int))=none)(v:V):KeysOk (BL b (.inl (k:Int)) v) n:=by
 refine{oN v h.1 c,λp a=>?_};rw[VU v c]at a;let a||a:=bg.mp a
 exact h.2 p a;rw[τ.mp a];exact⟨k,rfl,d⟩
structure BookIn(C D:Addr)(H:Hp)(A:BA)(w:Nat)(cs:yE)(outs:tD):Prop where
 ob:∃ dx,H A.b=some (.ins C dx<|bf A.gp A.m A.mi A.lt A.ou)
 made:∃ chs:uD,H A.m=some (.lst<|chs.map V.ref)/\Paired (ChAt D H) chs cs
 mil:H A.mi=some (.lst<|A.ls.map V.ref)
 mic:∀ (i:Nat) l,A.ls[i]? =some l->H l=some (.lst<|(DG cs i).map λ(k:Nat)=>V.int k)
 nd:A.ls.Nodup
 lat:∃ kvs,H A.lt=some (.dT kvs)/\(∀ i j:Int,A8 kvs [.inl i,.inl j]=(D6 cs i j).map λ(k:Nat)=>V.int k)/\kvs.length<=cs.length
 out:∃ DZ,H A.ou=some (.dK DZ)/\(∀ k:Int,(A8 DZ<|.inl k).isSome=outs k)/\KeysOk DZ cs.length
 sz:cs.length<=990
 inn:∀ c∈cs,c.blk<A.ls.length/\c.cell<w
 need:∀ (k:Nat) c,cs[k]? =some c->(∀ x∈c.nd,0<=x/\x<k)/\c.nd.Pairwise (· <·)/\c.nd.length<=100
 ap:A.m≠A.mi/\A.m∉A.ls/\A.mi∉A.ls/\A.cl≠A.m/\A.cl≠A.mi/\A.cl∉A.ls
 chn:∀ (k:Nat) c,cs[k]? =some c->∀ j,D6 (cs.take k) c.blk c.cell=some j->(j:Int)∈c.nd
structure BookAt(a:Ad)(C:Addr)(H:Hp)(A:BA)(w:Nat)(rows:wC)(n:Nat)(cs:yE)(outs:tD):Prop where
 bk:BookIn C (a "Change") H A w cs outs
 pk:PlankAt a H A.gp A.cl w rows n
 nb:A.ls.length=rows.length
def EW(o:Option HO):Prop:=(∀ xs,o≠some (.tup xs))/\∀ C a fs,o≠some (.ins C a fs)
def ChAt.sb(s:SameBut G H e)(g:∀ x,G x->EW (H x))(h:ChAt D H x c):ChAt D e x c:=by
 revert h;apply u3;intro i j l [a,b,d];exact x3 i j l {s _ _ a λz=>(g _ z).2 _ _ _ a,s _ _ b λz=>(g _ z).1 _ b,s _ _ d λz=>(g _ z).1 _ d}
def BookIn.sb(B:BookIn C D H A w cs outs)(s:SameBut G H d)(g:∀ x,G x->EW (H x))(f:∀ x,G x->¬ A.F x):BookIn C D d A w cs outs:=by
 let[[e,b],[j,n,o],q,r,u,[kvs,v,y],[O,E,a],I,J,L,M,N]:=B;refine⟨{e,s _ _ b λz=>(g _ z).2 _ _ _ b},{_,s _ _ n λz=>f _ z<|.inl rfl,Paired.mapP o λx c h=>h.sb s g},s _ _ q λz=>f _ z<|.inr<|.inl rfl,λi l h=>s _ _ (r i l h) λz=>f _ z<|.inr<|.inr<|.inl<|ι h,u,
  {_,s _ _ v λz=>f _ z<|.inr<|.inr<|.inr<|.inl rfl,y},{_,s _ _ E λz=>f _ z<|.inr<|.inr<|.inr<|.inr<|.inl rfl,a},I,J,L,M,N⟩
def PlankAt.sbL(P:PlankAt a H p b w rows n)(s:SameBut G H d)(g:∀ x,G x->EW (H x))(h:¬ G b):PlankAt a d p b w rows n:=by
 let[[e,c],[i,j,l],o,u,v]:=P;exact{{e,s _ _ c λz=>(g _ z).2 _ _ _ c},{i,s _ _ j h,Paired.mapP l λt r q=>s _ _ q λz=>(g _ z).1 _ q},o,u,v}
def BookAt.sb(B:BookAt a C H A w rows n cs outs)(s:SameBut G H b)(g:∀ x,G x->EW (H x))(f:∀ x,G x->¬ A.F x):BookAt a C b A w rows n cs outs :=
 {B.bk.sb s g f,B.pk.sbL s g λz=>f _ z<|.inr<|.inr<|.inr<|.inr<|.inr rfl,B.nb}
def BookAt.same(B:BookAt a C H A w rows n cs outs)(s:Same H b):BookAt a C b A w rows n cs outs :=
 B.sb (G:=λy=>False) (Same.sb s) (λy z=>z.elim) λy z=>z.elim
def BookAt.off(B:BookAt a C H A w rows n cs outs)(h:H x=none):¬ A.F x:=by
 let[[y,[c,d,y],g,j,y,[kvs,l,y],[r,o,y],y],[y,[s,b,y],y],y]:=B;rintro (z|z|z|z|z|z);rw[z,d]at h;cases h;rw[z,g]at h;cases h;let[i,q,e]:=jk z;rw[(j i x (by rw[<-e];exact ζ q))]at h;cases h;rw[z,l]at h;cases h;rw[z,o]at h;cases h;rw[z,b]at h;cases h
def S9{α :Type}{l:List α}{x: α}(h:x∈l):∃ i:Nat,l[i]? =some x:=by
 let[i,a,e]:=jk h;exact{i,by rw[<-e];exact ζ a}
def NY{H:Hp}{x:Addr}{xs:tF}(h:H x=some (.lst xs)):EW (H x):=by
 rw[h];exact{λy z=>(by cases z),λy y y z=>(by cases z)}
def ML{H:Hp}{x:Addr}{xs:vC}(h:H x=some (.dK xs)):EW (H x):=by
 rw[h];exact{λy z=>(by cases z),λy y y z=>(by cases z)}
def XQ{H:Hp}{x:Addr}{xs:xA}(h:H x=some (.dT xs)):EW (H x):=by
 rw[h];exact{λy z=>(by cases z),λy y y z=>(by cases z)}
def BookAt.loose{A:BA}{outs:tD}(B:BookAt a C H A w rows n cs outs)(h:A.F x):EW (H x):=by
 let[[y,[c,d,y],g,j,y,[kvs,l,y],[q,o,y],y],[y,[r,b,y],y],y]:=B;let z||z||z||z||z||z:=h
 exact NY<|z ▸ d;exact NY<|z ▸ g;let[i,e]:=S9 z;exact NY<|j i x e;exact XQ<|z ▸ l;exact ML<|z ▸ o;exact NY<|z ▸ b
structure z4s(cs:yE)(outs:tD)(ns:vE)(R:tD):Prop where
 all:∀ x∈ns,R x=true
 up:∀ (k:Nat) (c:Ch),cs[k]? =some c->outs k=false->R k=true->∀ y∈c.nd,R y=true
 only:∀ x,R x=true->x∈ns\/∃ (k:Nat) (c:Ch),cs[k]? =some c/\outs k=false/\R k=true/\x∈c.nd
def IG(nd:vE)(there:tD):Option Int:=nd.find? λx=> !there x
structure Pass where
 out:wE
 held:List (Nat × Int)
 gone:Int->Bool
def CW(cs:yE)(outs:tD)(s:Pass)(k:Nat):Pass :=
 if outs k||s.gone k then s else
  match (cs[k]?).bind λc=>IG c.nd λx=>outs x||s.gone x with
  |none=>{s.out++[k],s.held,λx=>s.gone x||x ==(k:Int)}
  |some l=>{s.out,s.held++[(k,l)],s.gone}
def outcome(cs:yE)(outs taken:tD)(b:Nat):Pass:=(DG cs b).foldl (CW cs outs) {[],[],taken}
def HF(cs:yE)(outs:tD)(r:tF)(k:Nat):tF :=
 if outs k then match cs[k]? with
  |some c=>r.set c.cell c.val
  |none=>r
 else r
def E8(cs:yE)(outs:tD)(b:Nat)(row:tF):tF:=(DG cs b).foldl (HF cs outs) row
def F5(cs:yE)(outs:tD)(b:Nat):Int->Bool:=λx=>outs x||(outcome cs outs (λ_=>false) b).out.any λ(k:Nat)=>x ==(k:Int)
def zjg(r:tF)(k:Nat):(HF cs outs r k).length=r.length:=by
 unfold HF;split;split;rw[f_]
 rfl
 rfl
theorem XR:∀ (l:wE) (r:tF),(l.foldl (HF cs outs) r).length=r.length
 | [],r=>rfl
 |k::l,r=>by rw[jh,XR l,zjg]
def rY:(E8 cs outs b row).length=row.length:=XR _ _
theorem TC:∀ (l:wE) (s:Pass),(l.foldl (CW cs outs) s).out.length+(l.foldl (CW cs outs) s).held.length<=s.out.length+s.held.length+l.length
 | [],s=>by simp
 |k::l,s=>by
  rw[jh]
  have h2:(CW cs outs s k).out.length+(CW cs outs s k).held.length<=s.out.length+s.held.length+1:=by
   unfold CW;split;exact ic _;split<;>simp<;>omega
  have h:=TC (cs:=cs) (outs:=outs) l (CW cs outs s k);simp only[fj]
  lia
def rZ{α a :Type}(f: a -> α -> a)(b: a){l:List α}{i:Nat}{x: α}(h:l[i]? =some x):(l.take<|i+1).foldl f b=f ((l.take i).foldl f b) x:=by
 let[c,e]:=ε.mp h;rw[<-e,<-pi c,io]
 rfl
theorem r8(b:Nat):∀ l:yE,GZ l b=(μ l.length).filter λ(k:Nat)=>(l.reverse[k]?).any λc=>c.blk == b
 | []=>rfl
 |c::r=>by
  have e:(μ r.length).filter (λk=>((c::r).reverse[k]?).any λc=>c.blk==b)=GZ r b:=by
   rw[(r8 b r)];refine Do λk a=>?_;rw[iq,ae (by rw[bz];exact ao.mp a)]
  have d:(c::r).reverse[r.length]? =some c:=by
   simp
  rw[fj,bq,ia,e]
  show(if c.blk=b then GZ r b++[r.length]else GZ r b)=_;by_cases h:c.blk=b;simp[h];simp[h]
def XS(cs:yE)(b:Nat):DG cs b=(μ cs.length).filter λ(k:Nat)=>(cs[k]?).any λc=>c.blk==b:=by
 have:=r8 b cs.reverse;rw[uq,bz]at this;exact this
def zjh(cs:yE)(b:Nat):(DG cs b).Pairwise (· <·):=by
 rw[XS];exact ma.filter _
def XT:k∈DG cs b↔∃ c,cs[k]? =some c/\c.blk=b:=by
 rw[XS,fe,ao];constructor;intro[h,h2];rw[ζ h]at h2 ⊢;exact{_,rfl,by simpa using h2};intro[c,e,rfl];exact{(ε.mp e).1,by rw[e];simp}
def XU(s:Pass)(k:Nat):CW cs outs s k=s\/(outs k=false/\CW cs outs s k={s.out++[k],s.held,λx=>s.gone x||x ==(k:Int)})\/∃ l,CW cs outs s k={s.out,s.held++[(k,l)],s.gone}:=by
 unfold CW;split;exact .inl rfl;rename_i a;simp only[uv,not_or,Fi]at a;split;exact .inr<|.inl ⟨a.1,rfl⟩;exact .inr<|.inr ⟨_,rfl⟩
theorem sA:∀ (l:wE) (s:Pass),∃ a,(l.foldl (CW cs outs) s).out=s.out++a/\a.Sublist l/\(∀ k∈a,outs k=false)/\∀ x,(l.foldl (CW cs outs) s).gone x=(s.gone x||a.any λ(k:Nat)=>x ==(k:Int))
 | [],s=>{[],by simp,.slnil,by simp,by simp}
 |k::l,s=>by
  rw[jh];let[a,h1,h2,h3,h4]:=sA   l (CW cs _ s k);let e||[c,e]||[d,e]:=XU   s k
  rw[e]at h1 h4 ⊢;exact{a,h1,h2.cons _,h3,h4};rw[e]at h1 h4 ⊢;refine{_,by rw[h1];simp,h2.cons_cons _,λx b=>?_,λx=>(by rw[h4,mq,um])};let rfl||b:=af.mp b
  exact c;exact h3 x b;rw[e]at h1 h4 ⊢;exact{a,h1,h2.cons _,h3,h4}
def XV:(outcome cs outs (λ_=>false) b).out.Pairwise (· <·)/\(∀ k∈(outcome cs outs (λ_=>false) b).out,outs k=false/\k∈DG cs b)/\∀ x,(outcome cs outs (λ_=>false) b).gone x=(outcome cs outs (λ_=>false) b).out.any λ(k:Nat)=>x ==(k:Int):=by
 let[c,h1,h2,h3,h4]:=sA   _ _
 have e:(outcome cs outs (λz=>false) b).out=c:=by unfold outcome;rw[h1];rfl
 rw[e];exact{(zjh cs b).sublist h2,λk a=>{h3 k a,h2.subset a},λx=>by unfold outcome;rw[h4];simp}
def ToldAt(H:Hp)(t ol a:Addr)(out:wE)(held:List (Nat × Int)):Prop:=H t=some (.tup [.ref ol,.ref a])/\H ol=some (.lst<|out.map λ(k:Nat)=>V.int k)/\∃ b:uD,H a=some (.lst<|b.map V.ref)/\Paired (λx (p:Nat × Int)=>H x=some (.tup [.int p.1,.int p.2])) b held
def ToldAt.same(h:ToldAt H t ol a out held)(s:Same H b):ToldAt b t ol a out held:=by
 let[h1,h2,c,h3,h4]:=h;exact{s _ _ h1,s _ _ h2,c,s _ _ h3,Paired.mapP h4 λx p e=>s _ _ e}
def XW(cs:yE)(r:tF)(k:Nat):tF:=match cs[k]? with
 |some c=>r.set c.cell c.val
 |none=>r
def TF(cs:yE)(a:wE)(row:tF):tF:=a.foldl (XW cs) row
def zji(cs:yE)(O:tD)(b:Nat)(row:tF):E8 cs O b row=TF cs ((DG cs b).filter λ(k:Nat)=>O k) row:=by
 unfold E8 TF;rw[List.foldl_filter]
 rfl
def JE(cs:yE):wE->Nat->Option Ch
 | [],_=>none
 |k::r,j=>match JE cs r j with
  |some c=>some c
  |none=>(cs[k]?).filter λc=>c.cell==j
def XX(cs:yE)(k:Nat)(r:wE)(j:Nat):JE cs (k::r) j=match JE cs r j with
  |some c=>some c
  |none=>(cs[k]?).filter λc=>c.cell==j:=rfl
theorem sB(cs:yE)(j:Nat):∀ (g:wE) (row:tF),(TF cs g row)[j]? =(row[j]?).map λv=>((JE cs g j).map (·.val)).getD v
 | [],row=>by
  show row[j]? =_;cases row[j]? <;>rfl
 | k::r,row=>by
  show(TF cs r _)[j]? =_;rw[sB cs j r,XX];cases h:JE cs r j with
  |some c =>
   unfold XW;cases e:cs[k]? with
   |none=>rfl
   |some b =>
    rw[Dr];by_cases d:b.cell=j;subst d;rw[if_pos rfl];by_cases a:b.cell<row.length;rw[if_pos a,ζ a];rfl;rw[if_neg a,bt<|bx a];rw[if_neg d]
  |none =>
   unfold XW;cases e:cs[k]? with
   |none=>rfl
   |some b =>
    rw[Dr];by_cases d:b.cell=j;subst d;rw[if_pos rfl];by_cases a:b.cell<row.length;rw[if_pos a,ζ a];simp[Aa];rw[if_neg a,bt<|bx a];rfl;rw[if_neg d]
    have:(Aa (λc=>c.cell==j) (some b))=none:=by simp[d]
    rw[this]
theorem sC:∀ {d:wE},JE cs d j=some c->∃ k∈d,cs[k]? =some c/\c.cell=j/\(d.Pairwise (· <·)->∀ g∈d,k<g->∀ i,cs[g]? =some i->i.cell≠j)
 | [],h=>by cases h
 | k::r,h=>by
  rw[XX]at h;cases e:JE cs r j with
  |some w =>
   rw[e]at h;cases h;let[k1,h1,h2,h3,h4]:=sC e;refine{k1,ω _ h1,h2,h3,λq g a s i b=>?_};let[p1,p2]:=h_.mp q;let rfl||a:=af.mp a
   have:=p1 k1 h1;lia;exact h4 p2 g a s i b
  | none =>
   rw[e]at h;cases b:cs[k]? with
   |none=>rw[b]at h;cases h
   |some u =>
    rw[b]at h
    have n:u.cell=j/\u=c:=by
     simp only[Aa]at h;split at h;rename_i x;obtain rfl:=θ h;exact{by simpa using x,rfl};cases h
    let[n,rfl]:=n;refine{k,aa ..,b,n,λq g a s i o=>?_};let rfl||a:=af.mp a
    lia
    exact lastAt_no e g a i o
where
 lastAt_no {cs:yE} {j:Nat}:∀ {d:List _},JE cs d j=none->∀ k∈d,∀ c,cs[k]? =some c->c.cell≠j
  | [],_,k,l=>by cases l
  |k0::r,h,k,l=>λc b v=>by
   rw[XX]at h;cases e:JE cs r j with
   |some w=>rw[e]at h;cases h
   |none =>
    rw[e]at h;let rfl||l:=af.mp l
    rw[b]at h;simp[v]at h;exact lastAt_no e k l c b v
theorem sD:∀ {l:yE} {k:Nat} {c:Ch},l.reverse[k]? =some c->(c.blk:Int)=i->(c.cell:Int)=j->∃ a b,MK l i j=some a/\k<=a/\l.reverse[a]? =some b/\(b.blk:Int)=i/\(b.cell:Int)=j
 | [],k,c,h,_,_=>by simp at h
 |e::r,k,c,h,h1,h2=>by
  have g:=(ε.mp h).1;rw[bz]at g;unfold MK;by_cases d:e.blk=i/\e.cell=j;rw[if_pos d];refine x2 _ e {rfl,cy g,?_,d};simp;rw[if_neg d]
  have o:k<r.length:=by
   let z||z:=dz k _
   exact z;exfalso
   have  :=ka (cy g) z;subst this;simp at h;subst h;exact d ⟨h1,h2⟩
  rw[iq,ae (by rw[bz];exact o)]at h;refine u2 ?_<|sD h h1 h2;intro a b [n,q,s,u];refine x2 a b {n,q,?_,u};rw[iq,ae (by rw[bz];exact(XL n))];exact s
def XY(h:cs[k]? =some c):∃ a b,D6 cs c.blk c.cell=some a/\k<=a/\cs[a]? =some b/\b.blk=c.blk/\b.cell=c.cell:=by
 refine u2 ?_ (sD    (by rw[uq];exact h) rfl rfl);intro a b [e,g,d,i,j];rw[uq]at d;exact x2 a b {e,g,d,bh i,bh j}
def QM(cs:yE)(outs:tD):Prop:=∀ (k:Nat) (c:Ch),cs[k]? =some c->outs k=true->∀ y∈c.nd,outs y=true
def zjj(cs:yE):Prop:=∀ (k:Nat) (c:Ch),cs[k]? =some c->∀ j,D6 (cs.take k) c.blk c.cell=some j->(j:Int)∈c.nd
theorem sE(cut:QM cs outs)(e:zjj cs):∀ (d k a:Nat) (c b:Ch),a<=d->k<a->cs[k]? =some c->cs[a]? =some b->c.blk=b.blk->c.cell=b.cell->outs a=true->outs k=true
 |0,k,a,c,b,hd,n,_,_,_,_,_=>by omega
 |d+1,k,a,c,b,hd,n,o,g,r,s,u=>by
  refine u2 ?_ (XY (by rw[wa,if_pos n];exact o));intro j v [q,A,l,w,x]
  have y:j<a:=by
   have:=(ε.mp l).1;rw[de]at this;omega
  rw[r,s]at q
  have i:=cut a b g u _<|e a b g j q;by_cases z:j=k
  ·rw[<-z];exact i
  ·exact sE cut e d k j c v (by omega) (by omega) o (by rw[wa,if_pos y]at l;exact l) w.symm x.symm i
def zjk(s:Pass)(k:Nat)(h:(CW cs outs s k).out=s.out++[k]):∀ c,cs[k]? =some c->∀ y∈c.nd,(outs y||s.gone y)=true:=λc a y b=>by
 unfold CW at h;split at h;exact absurd h (by intro z;have:=congrArg nq z;simp at this);rw[a]at h;split at h;rename_i d
 have:=jw.mp d y b;cases e:(outs y||s.gone y)with
 |true=>rfl
 |false =>
  have this:¬ (!(outs y||s.gone y))=true:=this;rw[e]at this;exact absurd rfl this
 exact absurd h (by intro z;have:=congrArg nq z;simp at this)
theorem sF:∀ (l:wE) (s:Pass),(∀ k∈s.out,∀ c,cs[k]? =some c->∀ y∈c.nd,(outs y||s.gone y)=true)->∀ k∈(l.foldl (CW cs outs) s).out,∀ c,cs[k]? =some c->∀ y∈c.nd,(outs y||(l.foldl (CW cs outs) s).gone y)=true
 | [],s,h=>h
 |k::l,s,h=>by
  refine sF l _ ?_;let e||[i,e]||[j,e]:=XU   s k
  rw[e];exact h;rw[e];intro g a c b y d;let a||a:=bg.mp a
  rw[<-um,(h g a c b y d),vb];rw[τ.mp a]at b;rw[<-um,((zjk   s k (by rw[e])) c b y d),vb];rw[e];exact h
def zjl(cut:QM cs outs)(b:Nat):QM cs (F5 cs outs b):=λk c g a y i=>by
 let[z,z,j]:=XV;unfold F5 at a ⊢;rw[uv]at a;let a||a:=a
 rw[cut k c g a y i,vb];let[l,d,e]:=fk.mp a
 have e:(k:Int)=l:=by simpa using e
 have e:=bh e;subst e;rw[<-j y];exact(sF   _ _ (by simp) k d c g y i)
structure DH(K:W.Frag)(a:Ad):Prop where
 cl:Cls K (a "Layout")
 n1:NoAttr K (a "Layout") "name_blocks"
 n2:NoAttr K (a "Layout") "record_blocks"
 n3:NoAttr K (a "Layout") "piece_blocks"
 n4:NoAttr K (a "Layout") "width"
section
variable{n r c w:Int}
def lf(n r c w:Int):xB:=[("name_blocks",.int n),("record_blocks",.int r),("piece_blocks",.int c),("width",.int w)]
def TJ:(lf n r c w).lookup ("name_blocks":Str)=some (V.int n):=by simp[lf]
def QN:(lf n r c w).lookup ("record_blocks":Str)=some (V.int r):=by
 simp[lf,ai,BD (a:="record_blocks") (b:="name_blocks") (by decide)]
def XZ:(lf n r c w).lookup ("piece_blocks":Str)=some (V.int c):=by
 simp[lf,ai,BD (a:="piece_blocks") (b:="name_blocks") (by decide),BD (a:="piece_blocks") (b:="record_blocks") (by decide)]
def NZ:(lf n r c w).lookup ("width":Str)=some (V.int w):=by
 simp[lf,ai,BD (a:="width") (b:="name_blocks") (by decide),BD (a:="width") (b:="record_blocks") (by decide),BD (a:="width") (b:="piece_blocks") (by decide)]
def BM(h:(DT x "name_blocks" || DT x "record_blocks" || DT x "piece_blocks" || DT x "width")=false:=by decide +kernel):(lf n r c w).lookup x=none:=by
 simp only[oa]at h;let[[[h1,h2],h3],h4]:=h;simp[lf,ai,BD h1,BD h2,BD h3,BD h4]
end
structure LayAt(a:Ad)(H:Hp)(p:Addr)(n r c w:Nat):Prop where
 ob:∃ dx,H p=some (.ins (a "Layout") dx (lf n r c w))
 hn:n<=100
 hr:r<=100
 hc:c<=100
 h1:1<=w
 hw:w<=100
def LayAt.same(L:LayAt a H p n r c w)(s:Same H b):LayAt a b p n r c w:=by
 let[[d,e],g,i,j,l,o]:=L;exact{{d,s _ _ e},g,i,j,l,o}
def LayAt.sb(L:LayAt a H p n r c w)(s:SameBut F H b)(f:¬ F p):LayAt a b p n r c w:=by
 let[[d,e],g,i,j,l,o]:=L;exact{{d,s _ _ e f},g,i,j,l,o}
example:(X0):=∃ (p d:Addr) (n r c w:Nat),vs=[.ref p,.int n,.int r,.int c,.int w]/\DH K a/\H p=some (.ins (a "Layout") d [])/\n<=100/\r<=100/\c<=100/\1<=w/\w<=100 ∧
 ∀ b,LayAt a b p n r c w->SameBut (· =p) H b->Q .non b
def G0(x y:Int)(Q:VK)(H:Hp):Prop:=∀ t,H t=none->Q (.ref t) (upd H t<|.tup [.int x,.int y])
example:(MM):=∃ (p:Addr) (n r c w k:Nat) (b:Int),vs=[.ref p,.int b,.int k]/\DH K a/\LayAt a H p n r c w/\G0 (b+k/w) (k%w) Q H
example:(G1):=∃ (p:Addr) (n r c w k:Nat),vs=[.ref p,.int k]/\DH K a/\LayAt a H p n r c w/\G0 (0+k/w) (k%w) Q H
example:(GH):=∃ (p:Addr) (n r c w k:Nat),vs=[.ref p,.int k]/\DH K a/\LayAt a H p n r c w/\G0 (n+k/w) (k%w) Q H
example:(N0):=∃ (p:Addr) (n r c w k:Nat),vs=[.ref p,.int k]/\DH K a/\LayAt a H p n r c w/\G0 (n+r+k/w) (k%w) Q H
example:(IH):=∃ (p:Addr) (n r c w k:Nat),vs=[.ref p,.int k]/\DH K a/\LayAt a H p n r c w/\G0 (n+r+c+k/w) (k%w) Q H
example:(HG):=∃ (p:Addr) (n r c w k:Nat),vs=[.ref p,.int k]/\DH K a/\LayAt a H p n r c w/\G0 (n+r+c+r+k/w) (k%w) Q H
example:(QQ):=∃ (p:Addr) (n r c w:Nat),vs=[.ref p]/\DH K a/\LayAt a H p n r c w/\Q (.int<|n+r+c) H
example:(MN):=∃ (p:Addr) (n r c w:Nat),vs=[.ref p]/\DH K a/\LayAt a H p n r c w/\Q (.int<|n+r+c+r+c) H
example:(HH):=∃ (p:Addr) (n r c w:Nat),vs=[.ref p]/\DH K a/\LayAt a H p n r c w/\∀ t,H t=none->Q (.ref t) (upd H t<|.tup [.int (n*w),.int<|r*w,.int<|c*w])
example:(X3):=∃ (p:Addr) (n r c w:Nat),vs=[.ref p]/\DH K a/\DL K a/\LayAt a H p n r c w /\
 ∀ x d b,H x=none->H d=none->PlankAt a b x d w (bd (n+r+c+r+c) (bd w .non)) 0->Same H b->Q (.ref x) b
inductive CV where
 |no
 |nm (z:Str) (k:Nat)
 |mk (i:Nat)
 |rc (m:Nat) (ps:wE)
 |tx (z:Str)
abbrev Md:=Nat->Nat->CV
def Md.put(M:Md)(kind k:Nat)(x:CV):Md:=λi j=>if i=kind/\j=k then x else M i j
structure AC where
 kind:Nat
 k:Nat
 x:CV
 nd:wE
abbrev _root_.zE:=List AC
def sh(M0:Md)(C:xD):zE->Md
 | []=>M0
 |a::r=>if C r.length then(sh M0 C r).put a.kind a.k a.x else sh M0 C r
abbrev hnd(M0:Md)(as:zE):Md:=sh M0 (λ_=>true) as
def EI(kind k:Nat):zE->Option Nat
 | []=>none
 |a::r=>if a.kind=kind/\a.k=k then some r.length else EI kind k r
def GI(C:xD):zE->Prop
 | []=>True
 |a::r=>GI C r/\(C r.length=true->(∀ y∈a.nd,C y=true)/\∀ j,EI a.kind a.k r=some j->C j=true)
section
variable{M0 S:Md}{C:xD}{as:zE}{kind k m0:Nat}{x:CV}
def CY:S.put kind k x kind k=x:=if_pos ⟨rfl,rfl⟩
def N2(h:i≠kind):S.put kind k x i j=S i j:=if_neg λz=>h z.1
def D1(h:j≠k):S.put kind k x i j=S i j:=if_neg λz=>h z.2
def zjm(h:∀ j,EI kind k as=some j->C j=true):sh M0 C as kind k=hnd M0 as kind k:=by
 induction as with
 |nil=>rfl
 |cons a r d =>
  unfold EI at h;simp only[sh,if_true];by_cases e:a.kind=kind/\a.k=k;rw[if_pos e]at h;let[rfl,rfl]:=e;rw[h _ rfl];simp only[if_true];rw[CY,CY];rw[if_neg e]at h
  have:=d h
  have b:¬ (kind=a.kind/\k=a.k):=λz=>e ⟨z.1.symm,z.2.symm⟩;unfold Md.put;rw[if_neg b];by_cases c:C r.length=true;rw[if_pos c,if_neg b];exact this;rw[if_neg c];exact this
def KK(h:GI C (a::as))(c:C as.length=true):sh M0 C as a.kind a.k=hnd M0 as a.kind a.k:=zjm (h.2 c).2
def II:hnd M0 (a::as)=(hnd M0 as).put a.kind a.k a.x:=rfl
def CJ(c:C as.length=true):sh M0 C (a::as)=(sh M0 C as).put a.kind a.k a.x:=if_pos c
def DU(c:¬ C as.length=true):sh M0 C (a::as)=sh M0 C as:=if_neg c
def GJ:CV->Nat->Bool
 |.nm _ a,r=>a==r
 |_,_=>false
def ld(m0:Nat)(S:Md)(r:Nat):Nat:=(μ m0).countP λk=>GJ (S 0 k) r
def zjn(h:kind≠0):ld m0 (S.put kind k x) r=ld m0 S r:=by
 unfold ld
 congr 1
 funext j;rw[N2 h.symm]
def X4:∀ {m0:Nat},k<m0->ld m0 (S.put 0 k x) r+(if GJ (S 0 k) r then 1 else 0)=ld m0 S r+(if GJ x r then 1 else 0):=by
 intro m0;unfold ld
 induction m0 with
 |zero=>intro h;exact nZ h
 |succ n b =>
  rw[bq,As,As];simp only[Fn,List.countP_nil];by_cases e:k=n;subst e
  have:(μ k).countP (λj=>GJ ((S.put 0 k x) 0 j) r)=(μ k).countP (λj=>GJ _ r):=List.countP_congr λj a=>by
   rw[D1 (bm<|ao.mp a)]
  rw[CY]
  lia
  rw[D1 (λz=>e z.symm)]
  lia
structure Snd(m0:Nat)(S:Md):Prop where
 nl:∀ k z r,k<m0->S 0 k=.nm z r->∃ m ps,S 3 r=.rc m ps
 ct:∀ r m ps,S 3 r=.rc m ps->ld m0 S r<=m
 mr:∀ r m ps,S 3 r=.rc m ps->S 1 r=.mk 1
 nd:∀ r m ps,S 3 r=.rc m ps->ps.Nodup
 pm:∀ r m ps,S 3 r=.rc m ps->∀ p∈ps,S 2 p=.mk 1/\∃ t,S 4 p=.tx t
 dj:∀ r r' m m' ps ps',r≠r'->S 3 r=.rc m ps->S 3 r'=.rc m' ps'->∀ p∈ps,p∉ps'
 un:∀ k k' z r r',k<m0->k'<m0->S 0 k=.nm z r->S 0 k'=.nm z r'->k=k'
def Snd.rmark(I:Snd m0 S)(h:i=1\/∀ m ps,S 3 r≠.rc m ps):Snd m0 (S.put 1 r<|.mk i):=by
 refine{I.nl,λa m ps e=>I.ct a m ps e,λa m ps e=>?_,I.nd,I.pm,I.dj,I.un};by_cases z:a=r;subst z;rw[CY];let h||h:=h
 rw[h];exact absurd e<|h m ps;rw[D1 z];exact I.mr a m ps e
def Snd.pmark(I:Snd m0 S)(h:i=1\/∀ r m ps,S 3 r=.rc m ps->p∉ps):Snd m0 (S.put 2 p<|.mk i):=by
 refine{I.nl,λa m ps e=>I.ct a m ps e,I.mr,I.nd,λa m ps e q b=>{?_,(I.pm a m ps e q b).2},I.dj,I.un};by_cases z:q=p;subst z;rw[CY];let h||h:=h
 rw[h];exact absurd b<|h a m ps e;rw[D1 z];exact(I.pm a m ps e q b).1
def Snd.text(I:Snd m0 S):Snd m0 (S.put 4 p<|.tx t):=by
 refine{I.nl,λa m ps e=>I.ct a m ps e,I.mr,I.nd,λa m ps e q b=>{(I.pm a m ps e q b).1,?_},I.dj,I.un};by_cases z:q=p;subst z;exact⟨t,CY⟩;rw[D1 z];exact(I.pm a m ps e q b).2
def Snd.gone(I:Snd m0 S)(b:k<m0):Snd m0 (S.put 0 k .no):=by
 have a:∀ {j z r},(S.put 0 k .no) 0 j=.nm z r->S 0 j=.nm z r:=λ{j z r} e=>by
  by_cases h:j=k;subst h;rw[CY]at e;cases e;rw[D1 h]at e;exact e
 refine{λj z r d e=>I.nl j z r d<|a e,λr m ps e=>?_,I.mr,I.nd,I.pm,I.dj,λj g z r i h h' e n=>I.un j g z r i h h' (a e) (a n)}
 have l:=X4 (S:=S) (x:=.no) (r:=r) b
 have c:=I.ct r m ps e;rw[show GJ .no r=false from rfl]at l;simp only[rq]at l
 lia
def Snd.fill(I:Snd m0 S)(g:k<m0)(h3:S 3 r=.rc m ps)(i:ld m0 S r+1<=m)(hz:∀ j n,j<m0->S 0 j≠.nm z n)(h0:∀ z r,S 0 k≠.nm z r):Snd m0 (S.put 0 k<|.nm z r):=by
 have a:∀ {j y q},(S.put 0 k<|.nm z r) 0 j=.nm y q->(j=k/\y=z/\q=r)\/(j≠k/\S 0 j=.nm y q):=λ{j y q} e=>by
  by_cases h:j=k;subst h;rw[CY]at e;cases e;exact .inl ⟨rfl,rfl,rfl⟩;rw[D1 h]at e;exact .inr ⟨h,e⟩
 refine{λj y q o e=>?_,λq c s e=>?_,I.mr,I.nd,I.pm,I.dj,λj u y q v h h' e w=>?_};let[_,_,rfl]||[_,e]:=a e
 exact x2 m ps h3;exact I.nl j y q o e
 have l:=X4 (S:=S) (x:=.nm z r) (r:=q) g
 have e:S 3 q=.rc c _:=e;simp only[GJ]at l;by_cases z:r=q;subst z;rw[e]at h3;cases h3;simp at l;exact l ▸ i;simp[z]at l;exact l ▸ (I.ct q c _ e);let[d,b,_]||[d,b]:=a e<;>let[f1,f2,_]||[f1,f2]:=a w
 rw[d,f1];subst b;exact absurd f2<|hz _ _ h';subst f2;exact absurd b<|hz _ _ h;exact I.un j u y q v h h' b f2
def Snd.recd(I:Snd m0 S)(o:ld m0 S r<=c)(s:S 1 r=.mk 1)(u:b.Nodup)(d:∀ p∈b,(S 2 p=.mk 1/\∃ t,S 4 p=.tx t)/\∀ q m ps,q≠r->S 3 q=.rc m ps->p∉ps):Snd m0 (S.put 3 r<|.rc c b):=by
 have a:∀ {q m ps},(S.put 3 r<|.rc c b) 3 q=.rc m ps->(q=r/\m=c/\ps=b)\/(q≠r/\S 3 q=.rc m ps):=λ{q m ps} e=>by
  by_cases h:q=r;subst h;rw[CY]at e;cases e;exact .inl ⟨rfl,rfl,rfl⟩;rw[D1 h]at e;exact .inr ⟨h,e⟩
 refine{λj z q v e=>?_,λq m ps e=>?_,λq m ps e=>?_,λq m ps e=>?_,λq m ps e p h=>?_,λq i m l ps w ne e A p h=>?_,I.un};by_cases h:q=r;subst h;exact x2 c _ CY;rw[D1 h];exact I.nl j z q v e;let[rfl,rfl,_]||[_,e]:=a e
 exact o;exact I.ct q m ps e;let[rfl,_,_]||[_,e]:=a e
 exact s;exact I.mr q m ps e;let[_,_,rfl]||[_,e]:=a e
 exact u;exact I.nd q m ps e;let[_,_,rfl]||[_,e]:=a e
 exact(d p h).1;exact I.pm q m ps e p h;let[g,_,rfl]||[g,n]:=a e<;>let[f1,_,rfl]||[f1,f2]:=a A
 exact absurd (g.trans f1.symm) ne;exact(d p h).2 i l _ (λz=>ne<|g.trans z.symm) f2;exact λz=>(d p z).2 q m ps (λy=>ne<|y.trans f1.symm) n h;exact I.dj q i m l ps _ ne n f2 p h
def Snd.count(I:Snd m0 S)(h3:S 3 r=.rc m ps)(b:ld m0 S r<=c):Snd m0 (S.put 3 r<|.rc c ps) :=
 I.recd b (I.mr r m ps h3) (I.nd r m ps h3) λp a=>{I.pm r m ps h3 p a,λq d g ne e=>I.dj r q m d ps _ ne.symm h3 e p a}
def Snd.less(I:Snd m0 S)(h3:S 3 r=.rc m ps)(a:b.Sublist ps):Snd m0 (S.put 3 r<|.rc m b) :=
 I.recd (I.ct r m ps h3) (I.mr r m ps h3) ((I.nd r m ps h3).sublist a) λp c=>{I.pm r m ps h3 p<|a.subset c,λq d g ne e=>I.dj r q m d ps _ ne.symm h3 e p<|a.subset c}
def Snd.more(I:Snd m0 S)(h3:S 3 r=.rc m ps)(h2:S 2 p=.mk 1)(h4:S 4 p=.tx t)(d:∀ q m ps,S 3 q=.rc m ps->p∉ps):Snd m0 (S.put 3 r<|.rc m<|ps++[p]):=by
 refine I.recd (I.ct r m ps h3) (I.mr r m ps h3) (m_.mpr {I.nd r m ps h3,by simp,λx g y a e=>?_}) λy a=>?_;rw[τ]at a;subst a e;exact d r m ps h3 g;let a||a:=bg.mp a
 exact{I.pm r m ps h3 y a,λq b c ne e=>I.dj r q m b ps _ ne.symm h3 e y a};rw[τ.mp a];exact{⟨h2,t,h4⟩,λq b c z e=>d q b _ e}
def Snd.drop(I:Snd m0 S)(c:ld m0 S r=0):Snd m0 (S.put 3 r .no):=by
 have a:∀ {q m ps},(S.put 3 r .no) 3 q=.rc m ps->S 3 q=.rc m ps:=λ{q m ps} e=>by
  by_cases h:q=r;subst h;rw[CY]at e;cases e;rw[D1 h]at e;exact e
 refine{λj z q b e=>?_,λq m ps e=>(I.ct q m ps<|a e),λq m ps e=>I.mr q m ps<|a e,λq m ps e=>I.nd q m ps<|a e,λq m ps e=>I.pm q m ps<|a e,λq d m g ps i ne e l=>I.dj q d m g ps _ ne (a e) (a l),I.un};by_cases h:q=r;subst h
 have:0<ld m0 S q:=u_.mpr {j,ao.mpr b,by have e:S 0 j=.nm z q:=e;simp[e,GJ]};exact absurd (c ▸ this) (by decide);rw[D1 h];exact I.nl j z q b e
structure Hist(m0:Nat)(M0:Md)(as:zE)(t o:Str->Option Nat):Prop where
 sd:∀ C,GI C as->Snd m0 (sh M0 C as)
 k1:∀ z k r,k<m0->hnd M0 as 0 k=.nm z r->EI 0 k as=o z
 k2:∀ z,(∀ k r,k<m0->hnd M0 as 0 k≠.nm z r)->t z=o z
 k3:∀ C z,GI C as->(∀ j,o z=some j->C j=true)->∀ k r,k<m0->(sh M0 C as 0 k=.nm z r↔hnd M0 as 0 k=.nm z r)
theorem sG:∀ as:zE,GI (λ_=>true) as
 | []=>trivial
 |_::r=>{sG r,λ_=>{λ_ _=>rfl,λ_ _=>rfl}}
variable{t o:Str->Option Nat}
def Hist.now(I:Hist m0 M0 as t o):Snd m0 (hnd M0 as):=I.sd _<|sG as
def Hist.step(I:Hist m0 M0 as t o)(i:a.kind≠0)(h:∀ C,GI C (a::as)->C as.length=true->Snd m0 ((sh M0 C as).put a.kind a.k a.x)):Hist m0 M0 (a::as) t o:=by
 have j:∀ (C:xD) (k:Nat),sh M0 C _ 0 k=sh M0 C as 0 k:=λC k=>by
  by_cases c:C as.length=true;rw[CJ c,N2 i.symm];rw[DU c]
 have g:∀ k:Nat,hnd M0 _ 0 k=hnd M0 as 0 k:=j _;refine{λC d=>?_,λz k r b e=>?_,λz e=>I.k2 z λk r b=>by rw[<-g];exact e k r b,λC z d l k r b=>?_};by_cases c:C as.length=true;rw[CJ c];exact h C d c;rw[DU c];exact I.sd C d.1;rw[g]at e;unfold EI;rw[if_neg λz=>i z.1];exact I.k1 z k r b e;rw[j,g];exact I.k3 C z d.1 l k r b
def D7(f:Str->Option Nat)(z:Str)(j:Nat):Str->Option Nat:=λy=>if y=z then some j else f y
def Hist.fill(I:Hist m0 M0 as t o)(s:k<m0)(h0:hnd M0 as 0 k=.no)(hz:∀ j r,j<m0->hnd M0 as 0 j≠.nm z r)(u:∀ j,t z=some j->j∈nd)
  (h:∀ C,GI C ({0,k,.nm z r,nd}::as)->C as.length=true->∃ m ps,sh M0 C as 3 r=.rc m ps/\ld m0 (sh M0 C as) r+1<=m):Hist m0 M0 ({0,k,.nm z r,nd}::as) t (D7 o z as.length):=by
 have n:∀ {j y q},j<m0->hnd M0 as 0 j=.nm y q->j≠k/\y≠z:=λ{j y q} a e=>{λl=>(by rw[l,h0]at e;cases e),λl=>hz j q a<|l ▸ e}
 have free:∀ C,GI C ({0,k,.nm z r,nd}::as)->C _=true->sh M0 C as 0 k=.no/\∀ j q,j<m0->sh M0 C as 0 j≠.nm z q:=λC b c=>{by rw[KK  b c];exact h0,λj q a e=>(hz j q a ((I.k3 C z b.1 (λi v=>(b.2 c).1 i (u i (by rw[(I.k2 z hz),v]))) j q a).mp e))}
 refine{λC b=>?_,λy j q a e=>?_,λy e=>?_,λC y b g j q a=>?_};by_cases c:C as.length=true;refine u2 ?_<|h C b c;intro m ps [h3,A];let[f1,f2]:=free C b c;rw[CJ c];exact(I.sd C b.1).fill s h3 A f2 λz r e=>by rw[f1]at e;cases e
 rw[DU c];exact I.sd C b.1;rw[II]at e;unfold EI;by_cases d:j=k;subst d;rw[CY]at e;cases e;rw[if_pos ⟨rfl,rfl⟩];exact(if_pos rfl).symm;rw[D1 d]at e;rw[if_neg λw=>d w.2.symm];unfold D7;rw[if_neg (n a e).2];exact I.k1 y j q a e
 have B:y≠z:=λw=>by
  subst w;exact e k r s (by rw[II,CY])
 unfold D7;rw[if_neg B];refine I.k2 y λj q a l=>e j q a ?_;rw[II,D1 (n a l).1];exact l;rw[II];by_cases c:C as.length=true;let[f1,f2]:=free C b c;rw[CJ c];by_cases d:j=k;subst d;rw[CY,CY];rw[D1 d,D1 d];by_cases w:y=z;subst w;exact{λe=>absurd e<|f2 j q a,λe=>absurd e<|hz j q a};unfold D7 at g;rw[if_neg w]at g;exact I.k3 C y b.1 g j q a;rw[DU c];unfold D7 at g;by_cases w:y=z;subst w;rw[if_pos rfl]at g;exact absurd (g _ rfl) c;rw[if_neg w]at g
 have k3:=I.k3 C y b.1 g j q a;by_cases d:j=k;subst d;rw[CY];refine{λe=>?_,λe=>absurd (by cases e;rfl) w}
 have:=k3.mp e;rw[h0]at this;cases this;rw[D1 d];exact k3
def Hist.gone(I:Hist m0 M0 as t o)(i:k<m0)(h0:hnd M0 as 0 k=.nm z r):Hist m0 M0 ({0,k,.no,nd}::as) (D7 t z as.length) (D7 o z as.length):=by
 have un:=I.now.un
 have only:=λ{j q} b e=>un j k z q r b i e h0;refine{λC d=>?_,λy j q b e=>?_,λy e=>?_,λC y d g j q b=>?_};by_cases c:C as.length=true;rw[CJ c];exact(I.sd C d.1).gone i;rw[DU c];exact I.sd C d.1;rw[II]at e;by_cases a:j=k;subst a;rw[CY]at e;cases e;rw[D1 a]at e;unfold EI D7;rw[if_neg λw=>a w.2.symm,if_neg λw=>a<|only b (w ▸ e)];exact I.k1 y j q b e;unfold D7;by_cases w:y=z;rw[if_pos w,if_pos w];rw[if_neg w,if_neg w];refine I.k2 y λj q b l=>e j q b ?_
 have:j≠k:=λa=>by rw[a,h0]at l;cases l;exact w rfl
 rw[II,D1 this];exact l;rw[II];unfold D7 at g;by_cases c:C as.length=true;rw[CJ c];by_cases a:j=k;subst a;rw[CY,CY];rw[D1 a,D1 a];by_cases w:y=z;subst w;exact{λe=>absurd ((I.sd C d.1).un j k y q r b i e (by rw[KK  d c];exact h0)) a,λe=>absurd (only b e) a};rw[if_neg w]at g;exact I.k3 C y d.1 g j q b;rw[DU c];by_cases w:y=z;subst w;rw[if_pos rfl]at g;exact absurd (g _ rfl) c;rw[if_neg w]at g
 have k3:=I.k3 C y d.1 g j q b;by_cases a:j=k;subst a;rw[CY];refine{λe=>?_,λe=>by cases e}
 have:=k3.mp e;rw[h0]at this;cases this;exact absurd rfl w;rw[D1 a];exact k3
def Snd.ld0(I:Snd m0 S)(h:∀ m ps,S 3 r≠.rc m ps):ld m0 S r=0:=by
 refine List.countP_eq_zero.mpr λk b e=>?_;cases a:S 0 k with
 |nm z q =>
  simp only[a,GJ,beq_iff_eq]at e;subst e;refine u2 ?_<|I.nl k z q (ao.mp b) a;rintro m ps e;exact h m ps e
 |_=>simp[a,GJ]at e
def Hist.make(I:Hist m0 M0 as t o)(i:k<m0)(h0:hnd M0 as 0 k=.no)(hz:∀ j r,j<m0->hnd M0 as 0 j≠.nm z r)(h1:hnd M0 as 1 r≠.mk 1)(l:as.length+1∈nd)(n:∀ j,t z=some j->j∈nd) :
  Hist m0 M0 ({0,k,.nm z r,nd}::{3,r,.rc 1 [],[as.length]}::{1,r,.mk 1,[]}::as) t (D7 o z<|as.length+2):=by
 have d:=I.step (a:={1,r,_,[]}) (by simp) λC b y=>(I.sd C b.1).rmark (.inl rfl)
 have no:∀ C,GI C ({3,r,.rc 1 [],[as.length]}::{1,r,_,[]}::as)->C _=true->ld m0 _ r=0:=λC b c=>by
  refine(d.sd C b.1).ld0 λm ps e=>?_;rw[KK  b c]at e;exact h1<|I.now.mr r m ps e
 have s:=d.step (a:={3,r,_,_}) (by simp) λC b c=>by
  refine(d.sd C b.1).recd (by rw[no C b c];decide) ?_ lb (by simp);rw[CJ ((b.2 c).1 _ (by simp)),CY]
 refine s.fill i (h0) (λj q u=>hz j q u) n λC b c=>?_
 have g:=(b.2 c).1 _ l;refine x2 1 [] {by rw[CJ g,CY],?_};rw[CJ g,zjn (by simp),no C b.1 g];exact ο 1
def Hist.link(I:Hist m0 M0 as t o)(e:k<m0)(h0:hnd M0 as 0 k=.no)(hz:∀ j r,j<m0->hnd M0 as 0 j≠.nm z r)(h3:hnd M0 as 3 r=.rc m ps)(g:as.length∈nd)(i:∀ j,t z=some j->j∈nd) :
  Hist m0 M0 ({0,k,.nm z r,nd}::{3,r,.rc (m+1) ps,[]}::as) t (D7 o z<|as.length+1):=by
 have b:∀ C,GI C ({3,r,.rc (m+1) ps,[]}::as)->C _=true->sh M0 C as 3 r=.rc m ps:=λC a c=>by
  rw[KK  a c];exact h3
 refine(I.step  (by simp) λC a c=>(I.sd C a.1).count (b C a c) (b_<|(I.sd C a.1).ct r m ps (b C a c))).fill e (h0) (λj q l=>hz j q l) i λC a c=>?_
 have d:=(a.2 c).1 _ g;refine x2 _ ps {by rw[CJ d,CY],?_};rw[CJ d];exact uf<|(I.sd C a.1.1).ct r m ps (b C a.1 d)
def Hist.fewer(I:Hist m0 M0 as t o)(j:k<m0)(h0:hnd M0 as 0 k=.nm z r)(h3:hnd M0 as 3 r=.rc m ps)(n:b.kind=3/\b.k=r/\as.length∈b.nd)(a:GI C (b::{0,k,.no,nd}::as))(c:C (as.length+1)=true) :
  sh M0 C ({0,k,.no,nd}::as) 3 r=.rc m ps/\ld m0 (sh M0 C ({0,k,.no,nd}::as)) r+1<=m/\sh M0 C as 3 r=.rc m ps:=by
 let[q,s,u]:=n
 have d:=(a.2 c).1 _ u
 have g:sh M0 C ({0,k,.no,nd}::as) 3 r=.rc m ps:=by
  have:=KK (M0:=M0) a c;rw[q,s]at this;rw[this];exact h3
 have i:sh M0 C as 3 r=.rc m ps:=by
  rw[CJ d]at g;exact g
 have v:sh M0 C as 0 k=.nm z r:=by rw[KK  a.1 d];exact h0
 have l:=X4 (S:=sh M0 C as) (x:=.no) (r:=r) j;refine{g,?_,i};rw[v,show GJ _ r=true from by simp[GJ]]at l
 have e:ld m0 (sh M0 C ({0,k,.no,nd}::as)) r=ld m0 ((sh M0 C as).put 0 k .no) r:=by rw[CJ d]
 exact e ▸ l ▸ ((I.sd C a.1.1).ct r m ps i)
def Hist.unlead(I:Hist m0 M0 as t o)(a:k<m0)(h0:hnd M0 as 0 k=.nm z r)(h3:hnd M0 as 3 r=.rc (m+1) ps) :
  Hist m0 M0 ({3,r,.rc m ps,[as.length]}::{0,k,.no,nd}::as) (D7 t z as.length) (D7 o z as.length):=by
 have b:=I.gone (nd:=nd) a h0;exact b.step  (by simp) λC d c=>by
  let[e,g,y]:=I.fewer a h0 h3 {rfl,rfl,by simp} d c;exact(b.sd C d.1).count e (yk g)
theorem Hist.unmark:∀ {ps:wE} {bs:zE},Hist m0 M0 bs t o->(∀ C,GI C bs->C d=true->∀ q m b,sh M0 C bs 3 q=.rc m b->∀ p∈ps,p∉b)->Hist m0 M0 ((ps.map λp=>({2,p,.mk 0,[d]}:AC)).reverse++bs) t o
 | [],bs,I,_=>I
 | p::ps,bs,I,h=>by
  have:=Hist.unmark  (I.step (a:={2,p,.mk 0,[d]}) (by simp) λC g c=>(I.sd C g.1).pmark (.inr λr m b e=>h C g.1 ((g.2 c).1 d (by simp)) r m _ e p aa)) λC g j q m b e l i=>by
   have n:sh M0 C bs 3 q=.rc m b:=by
    by_cases c:C bs.length=true;rw[CJ c]at e;exact e;rw[DU c]at e;exact e
   exact h C g.1 j q m _ n l<|ω _ i
  rw[df,iq,fu];exact this
def zjo(h:∀ a∈cs,a.kind≠i):sh M0 C (cs++as) i j=sh M0 C as i j:=by
 induction cs with
 |nil=>rfl
 |cons a r d =>
  have d:=d λb e=>h b<|ω _ e;rw[om];by_cases c:C (r++as).length=true;rw[CJ c,N2 (h a aa).symm];exact d;rw[DU c];exact d
def Hist.dropped(I:Hist m0 M0 as t o)(d:k<m0)(h0:hnd M0 as 0 k=.nm z r)(h3:hnd M0 as 3 r=.rc m ps)(s:m<=1) :
  Hist m0 M0 ({1,r,.mk 0,[as.length+1]}::((ps.map λp=>({2,p,.mk 0,[as.length+1]}:AC)).reverse++{3,r,.no,[as.length]}::{0,k,.no,nd}::as)) (D7 t z as.length) (D7 o z as.length):=by
 have j:=I.gone (nd:=nd) d h0
 have u:=j.step (a:={3,r,_,[as.length]}) (by simp) λC b c=>by
  let[D,v,x]:=I.fewer d h0 h3 {rfl,rfl,by simp} b c;exact(j.sd C b.1).drop (Nat.le_zero.mp<|yk<|υ v s)
 have l:=Hist.unmark   u λC b g q n i e p w=>by
  let[x,x,A]:=I.fewer d h0 h3 {rfl,rfl,by simp} b g;rw[CJ g]at e;by_cases z:q=r;subst z;rw[CY]at e;cases e;rw[D1 z,CJ ((b.2 g).1 _ (by simp))]at e;exact(I.sd C b.1.1).dj r q m n ps _ (λy=>z y.symm) A e p w
 refine l.step  (by simp) λC b c=>(l.sd C b.1).rmark (.inr λn i e=>?_);rw[zjo (λa B=>by
  let[p,x,rfl]:=az.mp<|Fo.mp B;simp),CJ ((b.2 c).1 _ (by simp)),CY]at e
 cases e
def Hist.put(I:Hist m0 M0 as t o){r m p:Nat}{ps:wE}{x:Str}(h2:hnd M0 as 2 p≠.mk 1)(h3:hnd M0 as 3 r=.rc m ps) :
  Hist m0 M0 ({3,r,.rc m<|ps++[p],[as.length+1]}::{4,p,.tx x,[as.length]}::{2,p,.mk 1,[]}::as) t o:=by
 have i:=I.step (a:={2,p,_,[]}) (by simp) λC b z=>(I.sd C b.1).pmark (.inl rfl)
 have j:=i.step (a:={4,p,.tx x,[as.length]}) (by simp) λC b z=>(i.sd C b.1).text;refine j.step  (by simp) λC b c=>?_
 have d:C (as.length+1)=true:=(b.2 c).1 _ (by simp)
 have g:C as.length=true:=(b.1.2 d).1 _ (by simp);refine(j.sd C b.1).more  ?_ ?_ (by rw[CJ d,CY]) λq l n e s=>?_;rw[KK  b c];exact h3;rw[CJ d,N2 (by simp),CJ g,CY];rw[CJ d,CJ g]at e
 have:=((I.sd C b.1.1.1).pm q l _ e p s).1;rw[KK  b.1.1 g]at this;exact h2 this
def Hist.take(I:Hist m0 M0 as t o)(h3:hnd M0 as 3 r=.rc m ps)(b:ps[i]? =some p) :
  Hist m0 M0 ({2,p,.mk 0,[as.length]}::{3,r,.rc m<|ps.eraseIdx i,[]}::as) t o:=by
 have d:∀ C,GI C ({3,r,.rc m<|ps.eraseIdx i,[]}::as)->C _=true->sh M0 C as 3 r=.rc m ps:=λC a c=>by
  rw[KK  a c];exact h3
 have g:=I.step  (by simp) λC a c=>(I.sd C a.1).less (d C a c) (List.eraseIdx_sublist ..);refine g.step  (by simp) λC a c=>(g.sd C a.1).pmark (.inr λq s u e=>?_)
 have l:C as.length=true:=(a.2 c).1 _ (by simp)
 have n:=d C a.1 l;rw[CJ l]at e;by_cases z:q=r;subst z;rw[CY]at e;cases e;exact λh=>by
  let[j,v,w]:=List.mem_eraseIdx_iff_getElem?.mp h;exact v ((List.getElem?_inj ((ε.mp b).1) ((I.sd C a.1.1).nd q m ps n)).mp (b.trans w.symm)).symm
 rw[D1 z]at e;exact(I.sd C a.1.1).dj r q m s ps _ (λy=>z y.symm) n e p (ι b)
end
section
variable{cs:yE}{outs:tD}{b i:Nat}
def BO(cs:yE)(outs:tD)(b i:Nat):Pass:=((μ i).filter λ(k:Nat)=>(cs[k]?).any λc=>c.blk==b).foldl (CW cs outs) {[],[],λ_=>false}
def X5:BO cs outs b 0={[],[],λ_=>false}:=rfl
def sI:BO cs outs b cs.length=outcome cs outs (λ_=>false) b:=by
 unfold BO outcome;rw[XS]
def zjp{c:Ch}(a:cs[i]? =some c)(h:c.blk≠b):BO cs outs b (i+1)=BO cs outs b i:=by
 unfold BO;rw[bq,ia,xy (by rw[a];simpa using h)];simp
def zjq{c:Ch}(a:cs[i]? =some c)(h:c.blk=b):BO cs outs b (i+1)=CW cs outs (BO cs outs b i) i:=by
 unfold BO;rw[bq,ia,xz (by rw[a];simpa using h),io]
 rfl
def sJ:BO cs outs b (i+1)=BO cs outs b i\/BO cs outs b (i+1)=CW cs outs (BO cs outs b i) i:=by
 unfold BO;rw[bq,ia];by_cases a:((cs[i]?).any λc=>c.blk==b)=true
 ·rw[xz (by exact a),io];exact .inr rfl
 ·rw[xy (by exact a)];simp
def zjr(k:Nat)(h:(BO cs outs b i).gone (k:Int)=true):k<i:=by
 induction i with
 |zero=>simp[X5]at h
 | succ n a =>
  rcases sJ (cs:=cs) (outs:=outs) (b:=b) (i:=n)with e|e
  ·rw[e]at h;have:=a h;omega
  ·rw[e]at h;let e||[_,e]||[l,e]:=XU (cs:=cs) (outs:=outs) (BO cs outs b n) n
   ·rw[e]at h;have:=a h;omega
   ·rw[e]at h;simp only[uv,beq_iff_eq]at h;let h||h:=h
    ·have:=a h;omega
    ·omega
   ·rw[e]at h;have:=a h;omega
def N3{k:Nat}(h:i<=k):(BO cs outs b i).gone (k:Int)=false:=by
 cases e:(BO cs outs b i).gone (k:Int)with
 |false=>rfl
 |true=>have:=zjr k e;omega
end
section
variable{M0:Md}{C C':xD}
theorem sK:∀ {as:zE},(∀ j<as.length,C j=C' j)->sh M0 C as=sh M0 C' as
 | [],_=>rfl
 |a::r,h=>by
  have b:=sK (as:=r) λj d=>h j<|ki d
  have e:=h r.length<|d_ _;by_cases c:C r.length=true
  ·rw[CJ c,CJ<|e ▸ c,b]
  ·rw[DU c,DU<|e ▸ c,b]
def zjs{S:Md}{k1 c k2 d:Nat}{e x2:CV}(h:¬ (k1=k2/\c=d)):(S.put k1 c e).put k2 d x2=(S.put k2 d x2).put k1 c e:=by
 funext p q;unfold Md.put;by_cases a:p=k2/\q=d
 ·rw[if_pos a,if_neg λz=>h {z.1.symm.trans a.1,z.2.symm.trans a.2},if_pos a]
 ·rw[if_neg a];by_cases b:p=k1/\q=c
  ·rw[if_pos b,if_pos b]
  ·rw[if_neg b,if_neg b,if_neg a]
theorem sL{i:Nat}{x:AC}:∀ {as:zE},as.reverse[i]? =some x->(∀ j,C' j=(C j || j == i))->C i=false->(∀ (j:Nat) y,i<j->as.reverse[j]? =some y->C j=true->¬ (y.kind=x.kind/\y.k=x.k))->sh M0 C' as=(sh M0 C as).put x.kind x.k x.x
 | [],e,_,_,_=>by simp at e
 | a::r,e,b,ci,d=>by
  rw[iq]at e d;by_cases g:i<r.length
  ·rw[ae (by rw[bz];exact g)]at e
   have l:=sL (as:=r) e b ci λj y n o=>d j y n (by rw[ae (ε.mp o).1];exact o)
   have cr:C' r.length=C r.length:=by
    have:(r.length==i)=false:=by simp;omega
    rw[b,this,fi]
   by_cases c:C r.length=true
   ·rw[CJ (cr ▸ c),CJ c,l,zjs];intro z;exact d r.length a g (by rw[ba (by rw[bz];exact ο _),bz,kj];rfl) c ⟨z.1.symm,z.2.symm⟩
   ·rw[DU (cr ▸ c),DU c,l]
  ·have q:=(ε.mp e).1;rw[ψ,bz]at q
   have:i=r.length:=by simp at q;omega
   subst this;rw[ba (by rw[bz];exact ο _),bz,kj]at e;cases e
   have s:C' r.length=true:=by rw[b];simp
   have u:∀ j<r.length,C' j=C j:=λj n=>by
    have:(j==r.length)=false:=by simp;omega
    rw[b,this,fi]
   rw[CJ s,DU (by rw[ci];exact ax),sK u]
end
abbrev HI(a:Ad):Addr:=a "Hold"
def QR(ns:vE)(k:Nat):Int:=ns.getD k 0
example:(X6):=∃ (s:Addr) (ns:vE) (k:Nat),vs=[.ref s,.int k]/\SqL K H s (ns.map V.int)/\ns.length<=1000/\Q (.int<|QR ns k) H
abbrev TB(K:W.Frag)(a:Ad):Prop:=rX K (HI a) (a "Change")
abbrev D8(a:Ad)(H:Hp)(A:BA)(w:Nat)(rows:wC)(n:Nat)(cs:yE)(outs:tD):Prop:=BookAt a (HI a) H A w rows n cs outs
def TK:Option Nat->V
 |none=>.non
 |some k=>.int k
def zjt(n:Nat)(outs:tD):wE:=(μ n).filter λ(k:Nat)=> !outs k
def AQ(l:wE):tF:=l.map λ(k:Nat)=>V.int k
abbrev onPl(rows:wC)(w:Nat)(i j:Int):Prop:=0<=i/\i<rows.length/\0<=j/\j<w
example:(X7):=∃ x b c v d,vs=[.ref x,.ref c,v,.ref d]/\TB K a/\H x=some (.ins (a "Change") b [])/\Q .non (upd H x<|.ins (a "Change") b (GG c v d))
example:(TM):=∃ (b c e o:Addr) (w:Nat) (rows:wC) (n:Nat),vs=[.ref b,.ref c]/\TB K a/\DL K a/\PlankAt a H c e w rows n/\H b=some (.ins (HI a) o []) /\
 ∀ (m g lt i:Addr) (j:uD) (d:Hp),H m=none->H g=none->H lt=none->H i=none->(∀ l∈j,H l=none)->D8 a d ⟨b,c,m,g,lt,i,j,e⟩ w rows n [] (λ_=>false)->SameBut (· =b) H d->Q .non d
example:(X8):=∃ (nl:Addr) (ns:vE) (o:Option Nat),vs=[.ref nl,TK o]/\SqL K H nl (ns.map V.int)/\ns.length<=60 /\
 ∀ (t:Addr) (a:vE) (b:Hp),Same H b->b t=some (.tup<|a.map V.int)->a.Pairwise (· <·)->(∀ x,x∈a↔x∈ns\/∃ k:Nat,o=some k/\x=k)->a.length<=ns.length+1->Q (.ref t) b
example:(X9):=∃ (A:BA) (w:Nat) (rows:wC) (n:Nat) (cs:yE) (outs:tD) (b:Addr) (i j:Int),vs=[.ref A.b,.ref b]/\TB K a/\DL K a/\D8 a H A w rows n cs outs/\H b=some (.tup [.int i,.int j]) /\
 (onPl rows w i j->Q .non H)/\(¬ onPl rows w i j->E (.ref<|a "NoBlock") none H)
example:(QS):=∃ (A:BA) (w:Nat) (rows:wC) (n:Nat) (cs:yE) (outs:tD) (b:Addr) (i j:Int),vs=[.ref A.b,.ref b]/\TB K a/\DL K a/\D8 a H A w rows n cs outs/\H b=some (.tup [.int i,.int j]) /\
 (onPl rows w i j->Q (TK<|D6 cs i j) H)/\(¬ onPl rows w i j->E (.ref<|a "NoBlock") none H)
abbrev known(cs:yE)(x:Int):Prop:=0<=x/\x<cs.length
example:(TN):=∃ (A:BA) (w:Nat) (rows:wC) (n:Nat) (cs:yE) (outs:tD) (nl:Addr) (ns:vE),vs=[.ref A.b,.ref nl]/\TB K a/\D8 a H A w rows n cs outs/\SqL K H nl (ns.map V.int) /\
 ((∀ x∈ns,known cs x)->Q .non H)/\((∃ x∈ns,¬ known cs x)->E (.ref<|a "NoChange") none H)
example:(GK):=∃ (A:BA) (w:Nat) (rows:wC) (n:Nat) (cs:yE) (outs:tD) (c nl:Addr) (v:V) (ns:vE) (i j:Int),vs=[.ref A.b,.ref c,v,.ref nl]/\TB K a/\DL K a/\D8 a H A w rows n cs outs/\H c=some (.tup [.int i,.int j])/\SqL K H nl (ns.map V.int)/\ns.length<=60/\cs.length<990 /\
 (onPl rows w i j->(∀ x∈ns,known cs x)->∀ (nd:vE) (b:Hp),nd.Pairwise (· <·)->(∀ x,x∈nd↔x∈ns\/∃ k:Nat,D6 cs i j=some k/\x=k)->D8 a b A w rows n (cs++[⟨i.toNat,j.toNat,v,nd⟩]) outs->SameBut A.F H b->Q (.int cs.length) b) /\
 (¬ onPl rows w i j->E (.ref<|a "NoBlock") none H)/\(onPl rows w i j->(∃ x∈ns,¬ known cs x)->E (.ref<|a "NoChange") none H)
example:(YA):=∃ (A:BA) (w:Nat) (rows:wC) (n:Nat) (cs:yE) (outs:tD),vs=[.ref A.b]/\TB K a/\D8 a H A w rows n cs outs /\
 ∀ (l:Addr) (b:Hp),H l=none->Same H b->b l=some (.lst<|AQ<|zjt cs.length outs)->Q (.ref l) b
def EX(cs:yE)(rows:wC)(i j:Int):Option V:=match D6 cs i j with
 |some k=>(cs[k]?).map (·.val)
 |none=>(rows[i.toNat]?).bind λr=>r[j.toNat]?
example:(N4):=∃ (A:BA) (w:Nat) (rows:wC) (n:Nat) (cs:yE) (outs:tD) (b:Addr) (i j:Int),vs=[.ref A.b,.ref b]/\TB K a/\DL K a/\D8 a H A w rows n cs outs/\H b=some (.tup [.int i,.int j]) /\
 (onPl rows w i j->∀ (v:V) (c:Hp),EX cs rows i j=some v->Same H c->Q v c)/\(¬ onPl rows w i j->E (.ref<|a "NoBlock") none H)
example:(YB):=∃ (A:BA) (w:Nat) (rows:wC) (n:Nat) (cs:yE) (outs:tD) (x:Int),vs=[.ref A.b,.int x]/\TB K a/\D8 a H A w rows n cs outs /\
 (∀ (k:Nat) (c:Ch) (l:Addr) (b:Hp),x=k->cs[k]? =some c->H l=none->Same H b->b l=some (.lst<|c.nd.map V.int)->Q (.ref l) b)/\(¬ known cs x->∀ b,Same H b->E (.ref<|a "NoChange") none b)
def YC:Option Int->V
 |none=>.non
 |some k=>.int k
abbrev EJ(kvs:vC)(x:Int):Bool:=(A8 kvs<|.inl x).isSome
example:(YD):=∃ (A:BA) (w:Nat) (rows:wC) (n:Nat) (cs:yE) (outs:tD) (k:Nat) (c:Ch) (g:Addr) (b:vC),vs=[.ref A.b,.int k,.ref g]/\TB K a/\D8 a H A w rows n cs outs/\cs[k]? =some c/\H g=some (.dK b) /\
 Q (YC (IG c.nd λx=>outs x||EJ b x)) H
example:(YE):=∃ (A:BA) (w:Nat) (rows:wC) (n:Nat) (cs:yE) (outs:tD) (b:Nat) (tk:Addr) (c:vC),vs=[.ref A.b,.int b,.ref tk]/\TB K a/\D8 a H A w rows n cs outs/\b<rows.length/\H tk=some (.dK c)/\c.length<=1000 /\
 ∀ (t ol d:Addr) (e:Hp),H ol=none->H d=none->ol≠d->Same H e->ToldAt e t ol d (outcome cs outs (EJ c) b).out (outcome cs outs (EJ c) b).held->Q (.ref t) e
example:(YF):=∃ (A:BA) (w:Nat) (rows:wC) (n:Nat) (cs:yE) (outs:tD) (b:Nat) (d:Addr) (row:tF),vs=[.ref A.b,.ref d,.int b]/\TB K a/\D8 a H A w rows n cs outs/\b<rows.length/\H d=some (.lst row)/\row.length=w /\
 ∀ (l:Addr) (c:Hp),H l=none->Same H c->c l=some (.lst<|E8 cs outs b row)->Q (.ref l) c
example:(YG):=∃ (A:BA) (w:Nat) (rows:wC) (n:Nat) (cs:yE) (outs:tD) (b:Int),vs=[.ref A.b,.int b]/\TB K a/\DL K a/\D8 a H A w rows n cs outs /\
 (∀ (c:Nat) (row:tF) (t ol e:Addr) (d:Hp),b=c->rows[c]? =some row->H ol=none->H e=none->ol≠e->ToldAt d t ol e (outcome cs outs (λ_=>false) c).out (outcome cs outs (λ_=>false) c).held ->
  D8 a d A w (rows.set c<|E8 cs (F5 cs outs c) c row) (n+1) cs (F5 cs outs c)->SameBut (λx=>A.F x\/x=A.gp) H d->Q (.ref t) d) /\
 (b<0\/rows.length<=b->E (.ref<|a "NoBlock") none H)
def GoodV:Nat->Hp->V->Prop
 |0,_,_=>False
 |_+1,_,.int _=>True
 |_+1,_,.non=>True
 |_+1,_,.str z=>gu z=true
 |n+1,H,.ref p=>∃ xs,H p=some (.tup xs)/\xs.length<=100/\∀ v∈xs,GoodV n H v
 |_,_,_=>False
def TQ(v:V):Prop:=v=.non\/∃ i,v=.int i
def AX(n r c w kind k:Nat):Nat:=(if kind=0 then 0 else if kind=1 then n+r+c else if kind=2 then n+r+c+r else if kind=3 then n else n+r)+k/w
def A0(n r c w kind:Nat):Nat:=(if kind=0 then n else if kind=1 then r else if kind=2 then c else if kind=3 then r else c)*w
def LE(kind:Nat)(v:V):Bool:=decide (v=.non)||(decide (0<kind)&&decide (v=.int 0))
def D3(f:xD)(m:Nat):Int:=match (μ m).find? f with
 |some k=>k
 |none=> -1
def QT(H:Hp)(rows:wC):Prop:=∀ r∈rows,∀ v∈r,GoodV 4 H v
def goodH(H:Hp)(cs:yE)(rows:wC):Prop:=QT H rows/\∀ c∈cs,GoodV 4 H c.val
def MO(cs:yE)(rows:wC)(n r c w kind:Nat)(k:Nat):Bool:=match EX cs rows (AX n r c w kind k:Nat) (k%w:Nat)with
 |some v=>LE kind v
 |none=>false
example:(N5):=∃ (A:BA) (w:Nat) (rows:wC) (n:Nat) (cs:yE) (outs:tD) (d e:Addr) (c:uD) (xs:tF) (f:xD) (m:Nat),vs=[.ref A.b,.ref d,.ref e]/\TB K a/\DL K a/\D8 a H A w rows n cs outs/\H d=some (.lst<|c.map V.ref)/\c.length=m/\m<=1000/\H e=some (.tup xs)/\(∀ z∈xs,TQ z) /\
 (∀ k t,c[k]? =some t->∃ i j v,H t=some (.tup [.int i,.int j])/\onPl rows w i j/\EX cs rows i j=some v/\GoodV 4 H v/\f k=decide (v∈xs)) /\
 (∀ k:Nat,D3 f m=k->∀ b,Same H b->Q (.int k) b)/\(D3 f m= -1->∀ b,Same H b->E (.ref<|a "NoRoom") none b)
def TR(kind:Nat)(K:W.Frag)(a:Ad)(p b:Addr)(H:Hp)(Q:VK)(E:XK):Prop:=∃ (A:BA) (n r c w:Nat) (rows:wC) (nn:Nat) (cs:yE) (outs:tD),b=A.b/\TB K a/\DL K a/\DH K a/\LayAt a H p n r c w/\n<=6/\r<=6/\c<=6/\w<=6/\D8 a H A w rows nn cs outs/\rows.length=n+r+c+r+c/\(∀ i j v,EX cs rows i j=some v->GoodV 4 H v) /\
 (∀ k:Nat,D3 (MO cs rows n r c w kind) (A0 n r c w kind)=k->∀ d,Same H d->Q (.int k) d)/\(D3 (MO cs rows n r c w kind) (A0 n r c w kind)= -1->∀ d,Same H d->E (.ref<|a "NoRoom") none d)
example:(TU):=∃ p b,vs=[.ref p,.ref b]/\TR 0 K a p b H Q E
example:(YH):=∃ p b,vs=[.ref p,.ref b]/\TR 1 K a p b H Q E
example:(YI):=∃ p b,vs=[.ref p,.ref b]/\TR 2 K a p b H Q E
def N6(c:Nat):Bool:=decide (32<=c)&&decide (c<=126)&&decide (c≠37)
def QU(c:Nat):Bool:=decide (97<=c)&&decide (c<=122)
def B0(z:Str):Bool:=decide (1<=z.length)&&decide (z.length<=8)&&z.cps.toList.all QU
def LG(z:Str):Bool:=decide (1<=z.length)&&decide (z.length<=40)&&z.cps.toList.all N6
example:(YJ):=∃ c:Nat,vs=[.str {#[c]}]/\Q (.bl<|N6 c) H
example:(YK):=∃ z:Str,vs=[.str z]/\z.length<=1000/\∀ a,Same H a->Q (.bl<|B0 z) a
example:(YL):=∃ z:Str,vs=[.str z]/\z.length<=1000/\∀ a,Same H a->Q (.bl<|LG z) a
structure QW(K:W.Frag)(a:Ad):Prop where
 cl:Cls K (a "Store")
 n1:NoAttr K (a "Store") "plan"
 n2:NoAttr K (a "Store") "book"
 n3:NoAttr K (a "Store") "taken_out"
def sf(a b tk:Addr):xB:=[("plan",.ref a),("book",.ref b),("taken_out",.ref tk)]
structure SA where
 A:BA
 st:Addr
 lp:Addr
 tk:Addr
structure Hs where
 b:Md
 as:zE
abbrev Hs.f(M:Hs):Md:=hnd M.b M.as
instance:CoeFun Hs λ_=>Nat->Nat->CV:=⟨Hs.f⟩
def Hs.put(M:Hs)(kind k:Nat)(x:CV)(nd:wE):Hs:={M.b,⟨kind,k,x,nd⟩::M.as}
def Hs.put_at{M:Hs}:(M.put kind k x nd) i j=if i=kind/\j=k then x else M i j:=rfl
def RepC(H:Hp):CV->V->Prop
 |.no,v=>v=.non
 |.nm z k,v=>∃ t,v=.ref t/\H t=some (.tup [.str z,.int k])
 |.mk i,v=>v=.int i
 |.rc m ps,v=>∃ t u,v=.ref t/\H t=some (.tup [.int m,.ref u])/\H u=some (.tup<|AQ ps)
 |.tx z,v=>v=.str z
def EF:Nat->CV->Prop
 |_,.no=>True
 |0,.nm _ _=>True
 |1,.mk i=>i<=1
 |2,.mk i=>i<=1
 |3,.rc _ _=>True
 |4,.tx _=>True
 |_,_=>False
inductive LaidA(n r c w:Nat)(H:Hp):yE->zE->Prop
 |nil:LaidA n r c w H [] []
 |snoc {cs:yE} {as:zE} {ch:Ch} {x:AC}:LaidA n r c w H cs as->ch.blk=AX n r c w x.kind x.k->ch.cell=x.k%w->RepC H x.x ch.val->(∀ y:Int,y∈ch.nd↔(∃ j∈x.nd,y=(j:Nat))\/∃ j:Nat,EI x.kind x.k as=some j/\y=j)->x.kind<5->x.k<A0 n r c w x.kind->LaidA n r c w H (cs++[ch]) (x::as)
structure SM(a:Ad)(H:Hp)(S:SA)(n r c w:Nat)(rows:wC)(nn:Nat)(cs:yE)(outs:tD)(tks:vC)(M:Hs):Prop where
 ob:∃ dx,H S.st=some (.ins (a "Store") dx (sf S.lp S.A.b S.tk))
 ly:LayAt a H S.lp n r c w
 bk:D8 a H S.A w rows nn cs outs
 tk:H S.tk=some (.dK tks)
 tl:tks.length<=cs.length
 tv:∀ z v,A8 tks (.inr z)=some v->∃ k:Nat,v=.int k/\k<cs.length
 ap:¬ S.A.F S.tk
 sz:n<=6/\r<=6/\c<=6/\w<=6/\rows.length=n+r+c+r+c
 gd:goodH H cs rows
 rp:∀ kind k v,kind<5->k<A0 n r c w kind->EX cs rows (AX n r c w kind k:Nat) (k%w:Nat)=some v->RepC H (M kind k) v
 ok:∀ kind k,kind<5->k<A0 n r c w kind->EF kind (M kind k)
 la:LaidA n r c w H cs M.as
def C8(M:Hs)(k:Nat):Option (Str × Nat):=match M 0 k with
 |.nm z r=>some (z,r)
 |_=>none
def G2(M:Hs)(m:Nat):yD:=(μ m).filterMap λk=>(C8 M k).map (·.1)
def cellOf(M:Hs)(m:Nat)(z:Str):Option Nat:=(μ m).find? λk=>(C8 M k).any λp=>decide<|p.1=z
def EG(kind:Nat):CV->Bool
 |.no=>true
 |.mk i=>decide (0<kind)&&decide (i=0)
 |_=>false
def DV(M:Hs)(kind m:Nat):Int:=D3 (λk=>EG kind<|M kind k) m
abbrev CM(K:W.Frag)(a:Ad):Prop:=TB K a/\DL K a/\DH K a/\QW K a
abbrev sM(cs:yE)(i j:Int)(x:Int):Prop:=∃ k:Nat,D6 cs i j=some k/\x=k
structure SX where
 S:SA
 n:Nat
 r:Nat
 c:Nat
 w:Nat
 rows:wC
 nn:Nat
 outs:Int->Bool
abbrev SX.at(X:SX)(a:Ad)(H:Hp)(cs:yE)(b:vC)(M:Hs):Prop:=SM a H X.S X.n X.r X.c X.w X.rows X.nn cs X.outs b M
abbrev SX.m0(X:SX):Nat:=X.n*X.w
example:(N7):=∃ (x i b d e:Addr) (n r c w:Nat) (rows:wC) (nn:Nat) (M:Md),vs=[.ref x,.ref b,.ref d]/\CM K a/\H x=some (.ins (a "Store") i [])/\LayAt a H b n r c w/\PlankAt a H d e w rows nn/\(n<=6/\r<=6/\c<=6/\w<=6/\rows.length=n+r+c+r+c)/\QT H rows/\(∀ kind k v,kind<5->k<A0 n r c w kind->EX [] rows (AX n r c w kind k:Nat) (k%w:Nat)=some v->RepC H (M kind k) v)/\(∀ kind k,kind<5->k<A0 n r c w kind->EF kind (M kind k)) ∧
 ∀ (S:SA) (g:Hp),S.st=x->S.lp=b->S.A.gp=d->S.A.cl=e->(∀ y o,H y=some o->y=e\/¬ S.A.F y)->H S.tk=none->SM a g S n r c w rows nn [] (λ_=>false) [] {M,[]}->SameBut (· =x) H g->Q .non g
example:(TX):=∃ (x c d b tk:Addr),vs=[.ref x]/\QW K a/\H x=some (.ins (a "Store") c (sf d b tk))/\Q (.ref b) H
example:(QX):=∃ (X:SX) (cs:yE) (c:vC) (M:Hs),vs=[.ref X.S.st]/\CM K a/\X.at a H cs c M /\
 ∀ (l:Addr) (xs:tF) (b:Hp),Same H b->b l=some (.lst xs)->xs.length=X.m0->(∀ k v,xs[k]? =some v->RepC b (M 0 k) v)->Q (.ref l) b
example:(YM):=∃ (X:SX) (cs:yE) (b:vC) (M:Hs),vs=[.ref X.S.st]/\CM K a/\X.at a H cs b M /\
 ∀ (l:Addr) (c:yD) (d:Hp),H l=none->Same H d->d l=some (.lst<|c.map V.str)->c.Perm (G2 M X.m0)->Ht c=true->Q (.ref l) d
example:(QY):=∃ (X:SX) (cs:yE) (b:vC) (M:Hs) (z:Str),vs=[.ref X.S.st,.str z]/\CM K a/\X.at a H cs b M/\∀ (c:Hp),Same H c->Q (TK<|cellOf M X.m0 z) c
example:(MP):=∃ (X:SX) (cs:yE) (c:vC) (M:Hs) (z:Str),vs=[.ref X.S.st,.str z]/\CM K a/\X.at a H cs c M /\
 (∀ cell k,cellOf M X.m0 z=some cell->cell<X.m0->M 0 cell=.nm z k->∀ b,Same H b->Q (.int k) b)/\(cellOf M X.m0 z=none->∀ b,Same H b->E (.ref<|a "NoName") none b)
example:(LH):=∃ (X:SX) (cs:yE) (c:vC) (M:Hs) (b:Nat),vs=[.ref X.S.st,.int b]/\CM K a/\X.at a H cs c M/\b<X.r*X.w/\∀ v d,RepC d (M 3 b) v->Same H d->Q v d
example:(TY):=∃ (X:SX) (cs:yE) (d:vC) (M:Hs) (z:Str) (e:Addr) (c:yD),vs=[.ref X.S.st,.str z,.ref e]/\CM K a/\X.at a H cs d M/\H e=some (.lst<|c.map V.str)/\c.length<=60/\(∀ y∈c,y.length<=1000) /\
 (c.all B0=true->cellOf M X.m0 z=none->∀ b,Same H b->Q .non b)/\(c.all B0=false->∀ b,Same H b->E (.ref<|a "NoName") none b)/\(c.all B0=true->(∃ k,cellOf M X.m0 z=some k)->∀ b,Same H b->E (.ref<|a "Twice") none b)
def TZ(X:SX)(a:Ad)(H:Hp)(cs:yE)(b:vC)(d:Hs)(Q:VK):Prop:=∀ (ch:Ch) (c:Hp),X.at a c (cs++[ch]) b d->SameBut X.S.A.F H c->Q (.int cs.length) c
def DQ(a:vC)(z:Str):wE:=match A8 a (.inr z)with
 |some (.int k)=>[k.toNat]
 |_=>[]
abbrev D9(ns:vE):wE:=ns.map Int.toNat
example:(T2):=∃ (X:SX) (cs:yE) (b:vC) (M:Hs) (cell c need:Nat) (z:Str),vs=[.ref X.S.st,.int cell,.str z,.int c,.int need]/\CM K a/\X.at a H cs b M/\cell<X.m0/\need<cs.length/\cs.length<980/\gu z=true/\TZ X a H cs b (M.put 0 cell (.nm z c) (need::DQ b z)) Q
example:(QZ):=∃ (X:SX) (cs:yE) (c:vC) (M:Hs) (b m d:Nat) (more:Int) (ps:wE) (nl:Addr) (ns:vE),vs=[.ref X.S.st,.int b,.int more,.ref nl]/\CM K a/\X.at a H cs c M/\b<X.r*X.w/\M 3 b=.rc m ps/\(m:Int)+more=d/\ps.length<=100/\H nl=some (.lst<|ns.map V.int)/\ns.length<=60/\(∀ x∈ns,known cs x)/\cs.length<980/\TZ X a H cs c (M.put 3 b (.rc d ps) (D9 ns)) Q
example:(T5):=∃ (X:SX) (cs:yE) (d:vC) (M:Hs) (b m:Nat) (ps c:wE) (e nl:Addr) (ns:vE),vs=[.ref X.S.st,.int b,.ref e,.ref nl]/\CM K a/\X.at a H cs d M/\b<X.r*X.w/\M 3 b=.rc m ps/\H e=some (.tup<|AQ c)/\c.length<=100/\H nl=some (.lst<|ns.map V.int)/\ns.length<=60/\(∀ x∈ns,known cs x)/\cs.length<980/\TZ X a H cs d (M.put 3 b (.rc m c) (D9 ns)) Q
example:(T6):=∃ (X:SX) (cs:yE) (b:vC) (M:Hs) (cell:Nat) (z:Str) (nl:Addr) (ns:vE),vs=[.ref X.S.st,.str z,.ref nl]/\CM K a/\X.at a H cs b M/\cellOf M X.m0 z=some cell/\cell<X.m0/\H nl=some (.lst<|ns.map V.int)/\ns.length<=60/\(∀ x∈ns,known cs x)/\cs.length<980 /\
 ∀ (ch:Ch) (c:Hp),X.at a c (cs++[ch]) (BL b (.inr z) (.int cs.length)) (M.put 0 cell .no<|D9 ns)->SameBut (λx=>X.S.A.F x\/x=X.S.tk) H c->Q (.int cs.length) c
def Hs.unmark(M:Hs)(d:Nat)(ps:wE):Hs:=ps.foldl (λM p=>M.put 2 p (.mk 0) [d]) M
example:(YN):=∃ (X:SX) (cs:yE) (c:vC) (M:Hs) (b m gone:Nat) (ps:wE),vs=[.ref X.S.st,.int b,.int gone]/\CM K a/\X.at a H cs c M/\b<X.r*X.w/\M 3 b=.rc m ps/\gone<cs.length/\(∀ p∈ps,p<X.c*X.w)/\ps.length<=36/\cs.length<940 /\
 ∀ (ex:yE) (l:Addr) (d:Hp),H l=none->d l=some (.lst (AQ ((μ<|ps.length+2).map (cs.length+·))))->ex.length=ps.length+2->X.at a d (cs++ex) c (((M.put 3 b .no [gone]).unmark cs.length ps).put 1 b (.mk 0) [cs.length])->SameBut X.S.A.F H d->Q (.ref l) d
def MQ(X:SX)(a:Ad)(H:Hp)(cs:yE)(d:Nat)(b:vC)(e:Hs)(Q:VK):Prop:=∀ (ex:yE) (l:Addr) (c:Hp),ex.length=d->H l=none->c l=some (.lst (AQ ((μ d).map (cs.length+·))))->X.at a c (cs++ex) b e->SameBut (λx=>X.S.A.F x\/x=X.S.tk) H c->Q (.ref l) c
def E9(a:Ad)(H:Hp)(c:String)(E:XK):Prop:=∀ b,Same H b->E (.ref<|a c) none b
example:(YO):=∃ (X:SX) (cs:yE) (c:vC) (M:Hs) (z:Str),vs=[.ref X.S.st,.str z]/\CM K a/\X.at a H cs c M/\z.length<=1000/\cs.length<930 /\
 (B0 z=true->cellOf M X.m0 z=none->∀ b cell:Nat,DV M 1 (X.r*X.w)=b->DV M 0 X.m0=cell->b<X.r*X.w->cell<X.m0->MQ X a H cs 3 c (((M.put 1 b (.mk 1) []).put 3 b (.rc 1 []) [cs.length]).put 0 cell (.nm z b) ((cs.length+1)::DQ c z)) Q) /\
 (B0 z=false->E9 a H "NoName" E)/\(B0 z=true->(∃ k,cellOf M X.m0 z=some k)->E9 a H "Twice" E) ∧
 (B0 z=true->cellOf M X.m0 z=none->(DV M 1 (X.r*X.w)= -1\/DV M 0 X.m0= -1)->E9 a H "NoRoom" E)
example:(T7):=∃ (X:SX) (cs:yE) (c:vC) (M:Hs) (y z:Str),vs=[.ref X.S.st,.str y,.str z]/\CM K a/\X.at a H cs c M/\y.length<=1000/\z.length<=1000/\cs.length<930 /\
 (B0 y=true->B0 z=true->cellOf M X.m0 z=none->∀ old b cell:Nat,cellOf M X.m0 y=some old->old<X.m0->M 0 old=.nm y b->b<X.r*X.w/\∃ m ps,M 3 b=.rc m ps/\ps.length<=100/\(DV M 0 X.m0=cell->cell<X.m0->MQ X a H cs 2 c ((M.put 3 b (.rc (m+1) ps) []).put 0 cell (.nm z b) (cs.length::DQ c z)) Q)) /\
 ((B0 y&&B0 z)=false->E9 a H "NoName" E)/\(B0 y=true->B0 z=true->(∃ k,cellOf M X.m0 z=some k)->E9 a H "Twice" E)/\(B0 y=true->B0 z=true->cellOf M X.m0 z=none->cellOf M X.m0 y=none->E9 a H "NoName" E) ∧
 (B0 y=true->B0 z=true->cellOf M X.m0 z=none->(∃ k,cellOf M X.m0 y=some k)->DV M 0 X.m0= -1->E9 a H "NoRoom" E)
example:(YQ):=∃ (X:SX) (cs:yE) (c:vC) (M:Hs) (z:Str),vs=[.ref X.S.st,.str z]/\CM K a/\X.at a H cs c M/\cs.length<930 /\
 (∀ cell b:Nat,cellOf M X.m0 z=some cell->cell<X.m0->M 0 cell=.nm z b->b<X.r*X.w/\∃ m ps,M 3 b=.rc m ps/\(∀ p∈ps,p<X.c*X.w)/\ps.length<=36 /\
  (1<m->MQ X a H cs 2 (BL c (.inr z) (.int cs.length)) ((M.put 0 cell .no []).put 3 b (.rc (m-1) ps) [cs.length]) Q)/\(m<=1->MQ X a H cs (ps.length+3) (BL c (.inr z) (.int cs.length)) ((((M.put 0 cell .no []).put 3 b .no [cs.length]).unmark (cs.length+1) ps).put 1 b (.mk 0) [cs.length+1]) Q)) /\
 (cellOf M X.m0 z=none->E9 a H "NoName" E)
example:(YR):=∃ (X:SX) (cs:yE) (c:vC) (M:Hs) (z t:Str),vs=[.ref X.S.st,.str z,.str t]/\CM K a/\X.at a H cs c M/\t.length<=1000/\gu t=true/\cs.length<930 /\
 (∀ cell b:Nat,cellOf M X.m0 z=some cell->cell<X.m0->M 0 cell=.nm z b->LG t=true->∀ p:Nat,DV M 2 (X.c*X.w)=p->p<X.c*X.w->b<X.r*X.w/\∃ m ps,M 3 b=.rc m ps/\ps.length<=90/\MQ X a H cs 3 c (((M.put 2 p (.mk 1) []).put 4 p (.tx t) [cs.length]).put 3 b (.rc m<|ps++[p]) [cs.length+1]) Q) /\
 (cellOf M X.m0 z=none->E9 a H "NoName" E)/\((∃ k,cellOf M X.m0 z=some k)->LG t=false->E9 a H "NoPiece" E)/\((∃ k,cellOf M X.m0 z=some k)->LG t=true->DV M 2 (X.c*X.w)= -1->E9 a H "NoRoom" E)
example:(YS):=∃ (X:SX) (cs:yE) (c:vC) (M:Hs) (z:Str) (x:Int),vs=[.ref X.S.st,.str z,.int x]/\CM K a/\X.at a H cs c M/\cs.length<930 /\
 (∀ cell b:Nat,cellOf M X.m0 z=some cell->cell<X.m0->M 0 cell=.nm z b->b<X.r*X.w/\∃ m ps,M 3 b=.rc m ps/\ps.length<=100/\((x<0\/ps.length<=x)->E9 a H "NoPiece" E)/\(∀ (k p:Nat),x=k->ps[k]? =some p->p<X.c*X.w/\MQ X a H cs 2 c ((M.put 3 b (.rc m<|ps.eraseIdx k) []).put 2 p (.mk 0) [cs.length]) Q)) ∧
 (cellOf M X.m0 z=none->E9 a H "NoName" E)
example:(YT):=∃ (X:SX) (cs:yE) (c:vC) (M:Hs) (y z:Str),vs=[.ref X.S.st,.str y,.str z]/\CM K a/\X.at a H cs c M/\y.length<=1000/\z.length<=1000/\cs.length<920 /\
 (B0 y=true->B0 z=true->cellOf M X.m0 z=none->∀ old b cell:Nat,cellOf M X.m0 y=some old->old<X.m0->M 0 old=.nm y b->b<X.r*X.w/\∃ m ps,M 3 b=.rc m ps/\ps.length<=100/\(DV M 0 X.m0=cell->cell<X.m0->MQ X a H cs 4 (BL c (.inr y) (.int (cs.length+2:Nat))) ((((M.put 3 b (.rc (m+1) ps) []).put 0 cell (.nm z b) (cs.length::DQ c z)).put 0 old .no [cs.length+1]).put 3 b (.rc m ps) [cs.length+2]) Q)) /\
 ((B0 y&&B0 z)=false->E9 a H "NoName" E)/\(B0 y=true->B0 z=true->(∃ k,cellOf M X.m0 z=some k)->E9 a H "Twice" E)/\(B0 y=true->B0 z=true->cellOf M X.m0 z=none->cellOf M X.m0 y=none->E9 a H "NoName" E) ∧
 (B0 y=true->B0 z=true->cellOf M X.m0 z=none->(∃ k,cellOf M X.m0 y=some k)->DV M 0 X.m0= -1->E9 a H "NoRoom" E)
abbrev N8:=Option<|Str × Nat
abbrev JF:=Option<|Int × wE
structure Vw where
 nm:List N8
 rc:List JF
 pc:List (Option Str)
 rm:List (Option Int)
 pm:List (Option Int)
def A4{α :Type}(l:List (Option α))(k:Nat):Option α :=(l[k]?).join
def LI:JF->wE
 |none=>[]
 |some (_,ps)=>ps
def MR(nm:List N8):wE:=nm.filterMap λc=>c.map (·.2)
def FA(rc:List JF):wE:=rc.flatMap LI
def led(a:Vw)(r:Nat):Nat:=(MR a.nm).count r
def FB(a:Vw)(p:Nat):Nat:=(FA a.rc).count p
def LJ(a:Vw):List JF:=((μ a.rc.length).filter λr=>decide<|0<led a r).map (A4 a.rc)
def IJ(a:Vw)(p:Nat):Nat:=(FA<|LJ a).count p
abbrev _root_.xC:=Nat->List V
def DK(n:Nat)(p:xD)(f:xC):wC:=((μ n).filter p).map f
def HJ(a:Vw)(k:Nat):Bool:=match A4 a.nm k with
 |none=>false
 |some c=>(A4 a.rc c.2).isNone
def IK(a:Vw)(k:Nat):Bool:=match A4 a.nm k with
 |none=>false
 |some c=>(μ k).any λj=>match A4 a.nm j with
  |none=>false
  |some d=>decide<|d.1=c.1
def JG(a:Vw)(r:Nat):Bool:=match A4 a.rc r with
 |none=>false
 |some c=>decide<|c.1<(led a r:Int)
def G3(a:Vw)(r:Nat):Bool:=match A4 a.rc r with
 |none=>false
 |some c=>decide (0<led a r)&&decide ((led a r:Int)<c.1)
def Q0(a:Vw):wC:=DK a.nm.length (HJ a) (λk=>[.str "lost",.int k])++DK a.nm.length (IK a) (λk=>[.str "twice",.int k])
def Q1(a:Vw):wC:=DK a.pc.length (λp=>decide<|1<FB a p) (λp=>[.str "shared",.int p])++DK a.pc.length (λp=>decide (0<FB a p)&&(A4 a.pc p).isNone) (λp=>[.str "empty",.int p])++DK a.rc.length (JG a) (λr=>[.str "few",.int r])
def Q2(a:Vw):wC:=DK a.rc.length (λr=>decide (0<led a r) && !decide (A4 a.rm r=some 1)) (λr=>[.str "free",.str "record",.int r])++DK a.pc.length (λp=>decide (0<FB a p) && !decide (A4 a.pm p=some 1)) (λp=>[.str "free",.str "piece",.int p])
def faults(a:Vw):wC:=Q0 a++Q1 a++Q2 a
def Q3(a:Vw):wC:=DK a.rc.length (G3 a) (λr=>[.str "many",.int r,.int<|led a r])++DK a.rc.length (λr=>(A4 a.rc r).isSome&&decide (led a r=0)) (λr=>[.str "left",.str "record",.int r])
def Q4(a:Vw):wC:=DK a.pc.length (λp=>decide (A4 a.pm p=some 1)&&decide (IJ a p=0)) (λp=>[.str "left",.str "piece",.int p])
def Q5(a:Vw):wC:=DK a.rc.length (λr=>decide (A4 a.rm r=some 1)&&(A4 a.rc r).isNone) (λr=>[.str "marked",.int r])
def MS(a:Vw):wC:=Q3 a++Q4 a++Q5 a
structure EK(vw:Vw):Prop where
 n1:∀ c,some c∈vw.nm->c.2<vw.rc.length/\gu c.1=true
 n2:∀ c,some c∈vw.rc->(∀ p∈c.2,p<vw.pc.length)/\c.2.length<=20
 n3:∀ s,some s∈vw.pc->gu s=true
 l1:vw.rm.length=vw.rc.length
 l2:vw.pm.length=vw.pc.length
 bn:vw.nm.length<=100
 br:vw.rc.length<=100
 bp:vw.pc.length<=100
def NmV(H:Hp)(v:V):N8->Prop
 |none=>v=.non
 |some c=>∃ p,v=.ref p/\H p=some (.tup [.str c.1,.int c.2])
def RcV(H:Hp)(v:V):JF->Prop
 |none=>v=.non
 |some c=>∃ p q,v=.ref p/\H p=some (.tup [.int c.1,.ref q])/\H q=some (.tup<|AQ c.2)
def PcV(_:Hp)(v:V):Option Str->Prop
 |none=>v=.non
 |some s=>v=.str s
def MkV(_:Hp)(v:V):Option Int->Prop
 |none=>v=.non
 |some i=>v=.int i
def LstAt{α :Type}(R:Hp->V-> α ->Prop)(H:Hp)(p:Addr)(cs:List α):Prop:=∃ vs,H p=some (.lst vs)/\Paired (R H) vs cs
def FindsL(H:Hp)(l:Addr)(fs:wC):Prop:=∃ ps:uD,H l=some (.lst<|ps.map V.ref)/\Paired (λp f=>H p=some (.tup f)) ps fs
structure TV(K:W.Frag)(a:Ad):Prop where
 cl:Cls K (a "View")
 n1:NoAttr K (a "View") "name_values"
 n2:NoAttr K (a "View") "record_values"
 n3:NoAttr K (a "View") "piece_values"
 n4:NoAttr K (a "View") "record_marks"
 n5:NoAttr K (a "View") "piece_marks"
 n6:NoAttr K (a "View") "leads"
 n7:NoAttr K (a "View") "namings"
 n8:NoAttr K (a "View") "reached"
def sN(a:Ad)(H:Hp)(x:Addr)(f:Str)(v:V):Prop:=∃ b fs,H x=some (.ins (a "View") b fs)/\fs.lookup f=some v
structure VA where
 n:Addr
 r:Addr
 p:Addr
 rm:Addr
 pm:Addr
 ld:Addr
 ng:Addr
 rh:Addr
def vf(A:VA):xB:=[("name_values",.ref A.n),("record_values",.ref A.r),("piece_values",.ref A.p),("record_marks",.ref A.rm),("piece_marks",.ref A.pm),("leads",.ref A.ld),("namings",.ref A.ng),("reached",.ref A.rh)]
structure ViewAt(a:Ad)(H:Hp)(x:Addr)(A:VA)(vw:Vw):Prop where
 ob:∃ dx,H x=some (.ins (a "View") dx (vf A))
 n:LstAt NmV H A.n vw.nm
 r:LstAt RcV H A.r vw.rc
 p:LstAt PcV H A.p vw.pc
 rm:LstAt MkV H A.rm vw.rm
 pm:LstAt MkV H A.pm vw.pm
 ld:H A.ld=some (.lst<|AQ<|(μ vw.rc.length).map (led vw))
 ng:H A.ng=some (.lst<|AQ<|(μ vw.pc.length).map (FB vw))
 rh:H A.rh=some (.lst<|AQ<|(μ vw.pc.length).map (IJ vw))
 ok:EK vw
structure PlV(H:Hp)(rows:wC)(n r c w:Nat)(vw:Vw):Prop where
 vs:∃ v1 v2 v3 v4 v5:tF,rows.flatten=v1++v2++v3++v4++v5/\Paired (NmV H) v1 vw.nm/\Paired (RcV H) v2 vw.rc/\Paired (PcV H) v3 vw.pc/\Paired (MkV H) v4 vw.rm/\Paired (MkV H) v5 vw.pm
 ln:vw.nm.length=n*w
 lr:vw.rc.length=r*w
 lp:vw.pc.length=c*w
 ok:EK vw
def newL(vs:tF)(H:Hp)(Q:VK):Prop:=∀ l a,H l=none->Same H a->a l=some (.lst vs)->Q (.ref l) a
def newF(fs:wC)(H:Hp)(Q:VK):Prop:=∀ l a,H l=none->Same H a->FindsL a l fs->Q (.ref l) a
def LK(rows:wC)(b j:Nat):V:=(((rows[b]?).bind (·[j]?)).getD .non)
example:(LN):=∃ (c g d:Addr) (w:Nat) (rows:wC) (m:Nat) (e:uD) (ps:List (Nat × Nat)),vs=[.ref c,.ref d]/\DL K a/\PlankAt a H c g w rows m/\H d=some (.lst<|e.map V.ref)/\Paired (λt (b:Nat × Nat)=>H t=some (.tup [.int b.1,.int b.2])) e ps/\(∀ b∈ps,b.1<rows.length/\b.2<w)/\ps.length<=1000 /\
 newL (ps.map λb=>LK rows b.1 b.2) H Q
example:(Q6):=∃ (many:Nat) (nl:Addr) (a:wE),vs=[.int many,.ref nl]/\H nl=some (.lst<|AQ a)/\(∀ k∈a,k<many)/\many<=1000/\a.length<=10000/\newL (AQ<|(μ many).map λk=>a.count k) H Q
example:(T8):=∃ (rl:Addr) (cs:List JF),vs=[.ref rl]/\LstAt RcV H rl cs/\cs.length<=100/\(∀ c,some c∈cs->c.2.length<=20)/\newL (AQ<|FA cs) H Q
example:(YU):=∃ (x d e:Addr) (b:Vw),vs=[.ref x]/\TV K a/\sN a H x "record_values" (.ref d)/\sN a H x "leads" (.ref e)/\LstAt RcV H d b.rc/\H e=some (.lst<|AQ<|(μ b.rc.length).map (led b))/\b.rc.length<=100/\∀ l c,H l=none->Same H c->LstAt RcV c l (LJ b)->Q (.ref l) c
example:(T9):=∃ (x:Addr) (A:VA) (b:Vw),vs=[.ref x]/\TV K a/\ViewAt a H x A b/\newL (AQ<|(μ b.rc.length).filter λr=>(A4 b.rc r).isSome) H Q
example:(Q7):=∃ (x:Addr) (A:VA) (b:Vw),vs=[.ref x]/\TV K a/\ViewAt a H x A b/\newL (AQ<|(μ b.pc.length).filter λp=>decide<|0<FB b p) H Q
example:(UA):=∃ (x:Addr) (A:VA) (b:Vw) (r:Nat) (c:Int × wE),vs=[.ref x,.int r]/\TV K a/\ViewAt a H x A b/\A4 b.rc r=some c/\Q (.int c.1) H
def LP(f:Vw->wC)(K:W.Frag)(a:Ad):Sp:=λvs H Q _=>∃ (x:Addr) (A:VA) (b:Vw),vs=[.ref x]/\TV K a/\ViewAt a H x A b/\newF (f b) H Q
def YV(K:W.Frag)(a:Ad):Sp:=LP Q0 K a
def YW(K:W.Frag)(a:Ad):Sp:=LP Q1 K a
def YX(K:W.Frag)(a:Ad):Sp:=LP Q2 K a
def UB(K:W.Frag)(a:Ad):Sp:=LP faults K a
def YY(K:W.Frag)(a:Ad):Sp:=LP Q3 K a
def YZ(K:W.Frag)(a:Ad):Sp:=LP Q4 K a
def Y0(K:W.Frag)(a:Ad):Sp:=LP Q5 K a
def Y1(K:W.Frag)(a:Ad):Sp:=LP MS K a
example:(Q8):=∃ (x i d e j:Addr) (n r c w:Nat) (rows:wC) (m:Nat) (g:Vw),vs=[.ref x,.ref d,.ref e]/\TV K a/\DH K a/\DL K a/\H x=some (.ins (a "View") i [])/\LayAt a H d n r c w/\PlankAt a H e j w rows m/\rows.length=n+r+c+r+c/\PlV H rows n r c w g ∧
 ∀ (A:VA) (b:Hp),ViewAt a b x A g->SameBut (· =x) H b->Q .non b
def Ground(K:W.Frag)(a:Ad)(H:Hp)(b d:Addr)(e:Vw):Prop:=∃ (g:Addr) (n r c w:Nat) (rows:wC) (m:Nat),TV K a/\DH K a/\DL K a/\LayAt a H b n r c w/\PlankAt a H d g w rows m/\rows.length=n+r+c+r+c/\PlV H rows n r c w e
example:(Y2):=∃ (c d:Addr) (b:Vw),vs=[.ref c,.ref d]/\Ground K a H c d b/\newF (faults b++MS b) H Q
example:(Y3):=∃ (b c:Addr) (d:Vw),vs=[.ref b,.ref c]/\Ground K a H b c d/\∀ e,Same H e->Q (.bl<|decide<|faults d=[]) e
def FN(a:Vw)(r:Nat):JF:=match A4 a.rc r with
 |none=>none
 |some c=>if led a r=0 then none else some ((led a r:Int),c.2)
def KL(a:Vw)(r:Nat):Option Int:=match A4 a.rc r with
 |none=>if A4 a.rm r=some 1 then some 0 else A4 a.rm r
 |some _=>if led a r=0 then some 0 else A4 a.rm r
def MT(a:Vw)(p:Nat):Option Int:=if A4 a.pm p=some 1/\IJ a p=0 then some 0 else A4 a.pm p
def mended(a:Vw):Vw:={a.nm,(μ a.rc.length).map (FN a),a.pc,(μ a.rc.length).map (KL a),(μ a.pc.length).map (MT a)}
inductive Cel where
 |nm (c:N8)
 |rc (c:JF)
 |pc (c:Option Str)
 |mk (c:Option Int)
deriving DecidableEq
def CelV(H:Hp)(v:V):Cel->Prop
 |.nm c=>NmV H v c
 |.rc c=>RcV H v c
 |.pc c=>PcV H v c
 |.mk c=>MkV H v c
def Cel.kind:Cel->Nat
 |.nm _=>0
 |.rc _=>1
 |.pc _=>2
 |.mk _=>3
def Cel.ok:Cel->Prop
 |.nm (some c)=>gu c.1=true
 |.pc (some s)=>gu s=true
 |_=>True
abbrev _root_.xE:=List Cel
def DW(a:Vw):xE:=a.nm.map .nm++a.rc.map .rc++a.pc.map .pc++a.rm.map .mk++a.pm.map .mk
def DR(w:Nat)(cs:xE)(b:Nat):xE:=(cs.drop<|b*w).take w
def N9(w n:Nat)(cs a:xE):Nat:=((μ n).filter λb=> !decide (DR w cs b=DR w a b)).length
inductive Lv where
 |many (r:Nat)
 |leftR (r:Nat)
 |leftP (p:Nat)
 |marked (r:Nat)
def FF(a:Vw):List Lv:=((μ a.rc.length).filter (G3 a)).map .many++((μ a.rc.length).filter λr=>(A4 a.rc r).isSome&&decide (led a r=0)).map .leftR++((μ a.pc.length).filter λp=>decide (A4 a.pm p=some 1)&&decide (IJ a p=0)).map .leftP++((μ a.rc.length).filter λr=>decide (A4 a.rm r=some 1)&&(A4 a.rc r).isNone).map .marked
def sO(a:Vw):Lv->tF
 |.many r=>[.str "many",.int r,.int<|led a r]
 |.leftR r=>[.str "left",.str "record",.int r]
 |.leftP p=>[.str "left",.str "piece",.int p]
 |.marked r=>[.str "marked",.int r]
def FC(a:Vw)(n r c w:Nat):Lv->List (Nat × Cel)
 |.many k=>[(n*w+k,.rc<|FN a k)]
 |.leftR k=>[(n*w+k,.rc none),((n+r+c)*w+k,.mk<|some 0)]
 |.leftP k=>[((n+r+c+r)*w+k,.mk<|some 0)]
 |.marked k=>[((n+r+c)*w+k,.mk<|some 0)]
def pk(w f:Nat):List AN:=[.inl ((f/w:Nat):Int),.inl ((f%w:Nat):Int)]
structure Site(K:W.Frag)(a:Ad)(H:Hp)(ly gp cl:Addr)(n r c w:Nat)(rows:wC)(m:Nat)(vw:Vw):Prop where
 tv:TV K a
 tl:DH K a
 tp:DL K a
 la:LayAt a H ly n r c w
 pl:PlankAt a H gp cl w rows m
 rl:rows.length=n+r+c+r+c
 pv:PlV H rows n r c w vw
 w1:1<=w
 w6:w<=6
 n6:n<=6
 r6:r<=6
 c6:c<=6
example:(Y4):=∃ (g i o fd:Addr) (n r c w:Nat) (rows:wC) (m:Nat) (b:Vw) (e:Lv),vs=[.ref g,.ref i,.ref fd]/\Site K a H g i o n r c w rows m b/\e∈FF b/\H fd=some (.tup<|sO b e) /\
 ∀ (dl:Addr) (more:xA) (d:Hp),H dl=none->Same H d->d dl=some (.dT more)->Paired (λ(j:List AN × V) (l:Nat × Cel)=>j.1=pk w l.1/\CelV d j.2 l.2) more (FC b n r c w e)->NR more->Q (.ref dl) d
example:(Y5):=∃ (e i dl:Addr) (w:Nat) (rows:wC) (m:Nat) (kvs:xA) (cs d:xE),vs=[.ref e,.ref dl]/\DL K a/\PlankAt a H e i w rows m/\rows.length<=30/\1<=w/\w<=6/\H dl=some (.dT kvs)/\Paired (CelV H) rows.flatten cs/\d.map Cel.kind=cs.map Cel.kind/\(∀ c∈cs,c.ok)/\(∀ c∈d,c.ok) /\
 (∀ (f:Nat) (c j:Cel),cs[f]? =some c->d[f]? =some j->(A8 kvs (pk w f)=none/\j=c)\/∃ v,A8 kvs (pk w f)=some v/\CelV H v j) /\
 ∀ (b:wC) (g:Hp),PlankAt a g e i w b (m+N9 w rows.length cs d)->b.length=rows.length->Paired (CelV g) b.flatten d->SameBut (λx=>x=e\/x=i) H g->Q .non g
example:(sP):=∃ (l g i:Addr) (n r c w:Nat) (rows:wC) (m:Nat) (d:Vw),vs=[.ref l,.ref g]/\Site K a H l g i n r c w rows m d/\faults d=[] /\
 ∀ (j:Addr) (b:wC) (e:Hp),H j=none->FindsL e j (MS d)->PlankAt a e g i w b (m+N9 w rows.length (DW d) (DW<|mended d))->b.length=n+r+c+r+c->PlV e b n r c w (mended d)->SameBut (λx=>x=g\/x=i) H e->Q (.ref j) e
def SX.wr(X:SX)(cs:yE)(b:Nat)(row:tF):SX:={ X with rows:=X.rows.set b<|E8 cs (F5 cs X.outs b) b row,nn:=X.nn+1,outs:=F5 cs X.outs b }
example:(UC):=∃ (X:SX) (cs:yE) (c:vC) (M:Hs) (b:Nat) (row:tF),vs=[.ref X.S.st,.int b]/\CM K a/\X.at a H cs c M/\X.rows[b]? =some row/\∀ t ol e d,H ol=none->H e=none->ToldAt d t ol e (outcome cs X.outs (λ_=>false) b).out (outcome cs X.outs (λ_=>false) b).held->(X.wr cs b row).at a d cs c M->SameBut (λx=>X.S.A.F x\/x=X.S.A.gp) H d->Q (.ref t) d
def GL(a:vC):Str->Option Nat:=λz=>(DQ a z).head?
def RowsAre(H:Hp)(n r c w:Nat)(rows:wC)(S:Md):Prop:=∀ kind k v,kind<5->k<A0 n r c w kind->(rows[AX n r c w kind k]?).bind (λq=>q[k%w]?)=some v->RepC H (S kind k) v
structure InL(n r c w:Nat)(S:Md):Prop where
 no:∀ kind k,¬ k<A0 n r c w kind->S kind k=.no
 ok:∀ kind k,EF kind<|S kind k
abbrev SX.C(X:SX):Nat->Bool:=λj=>X.outs (j:Nat)
structure C6(a:Ad)(H:Hp)(X:SX)(cs:yE)(tks:vC)(M:Hs):Prop where
 st:X.at a H cs tks M
 hi:∃ o,Hist X.m0 M.b M.as (GL tks) o
 bo:InL X.n X.r X.c X.w M.b
 cut:QM cs X.outs
 rows:RowsAre H X.n X.r X.c X.w X.rows (sh M.b X.C M.as)
 few:X.c*X.w<=18
 ok:∀ x∈M.as,EF x.kind x.x
 w1:1<=X.w
def OA:CV->N8
 |.nm z r=>some (z,r)
 |_=>none
def MU:CV->JF
 |.rc m ps=>some ((m:Int),ps)
 |_=>none
def Q9:CV->Option Str
 |.tx z=>some z
 |_=>none
def GO:CV->Option Int
 |.mk i=>some (i:Int)
 |_=>none
def B2(n r c w:Nat)(S:Md):Vw:={(μ<|n*w).map λk=>OA<|S 0 k,(μ<|r*w).map λk=>MU<|S 3 k,(μ<|c*w).map λk=>Q9<|S 4 k,(μ<|r*w).map λk=>GO<|S 1 k,(μ<|c*w).map λk=>GO<|S 2 k}
def FD(n r c w:Nat)(S:Md):Md:=λkind k =>
 if kind=1 then(match S 3 k with
  |.rc _ _=>if ld (n*w) S k=0 then .mk 0 else S 1 k
  |_=>match S 1 k with
   |.mk i=>if i=1 then .mk 0 else .mk i
   |x=>x)
 else if kind=2 then(match S 2 k with
  |.mk i=>if i=1/\IJ (B2 n r c w S) k=0 then .mk 0 else .mk i
  |x=>x)
 else if kind=3 then(match S 3 k with
  |.rc _ ps=>if ld (n*w) S k=0 then .no else .rc (ld (n*w) S k) ps
  |x=>x)
 else S kind k
structure Gnd(K:W.Frag)(a:Ad)(H:Hp)(ly gp cl:Addr)(n r c w:Nat)(rows:wC)(nn:Nat)(S:Md):Prop where
 tv:TV K a
 t4:CM K a
 la:LayAt a H ly n r c w
 pl:PlankAt a H gp cl w rows nn
 sz:n<=6/\r<=6/\c<=6/\w<=6/\rows.length=n+r+c+r+c
 few:c*w<=18
 w1:1<=w
 gd:QT H rows
 rj:RowsAre H n r c w rows S
 bo:InL n r c w S
 sd:Snd (n*w) S
def Y6(K:W.Frag)(a:Ad):Sp:=sP K a
example:(Y7):=∃ (e b d:Addr) (n r c w:Nat) (rows:wC) (nn:Nat) (S:Md),vs=[.ref e,.ref b]/\Gnd K a H e b d n r c w rows nn S /\
 ∀ (X:SX) (g:Hp),X.S.lp=e->X.S.A.gp=b->X.S.A.cl=d->X.n=n->X.r=r->X.c=c->X.w=w->(∀ y o,H y=some o->y=d\/¬ X.S.A.F y)->H X.S.tk=none->C6 a g X [] [] {FD n r c w S,[]}->SameBut (λx=>x=b\/x=d) H g->Q (.ref X.S.st) g
example:(Y8):=∃ x:Int,vs=[.int x]/\∀ (l:Addr) (a:yD) (b:Hp),H l=none->Same H b->b l=some (.lst<|a.map V.str)->a.length=5->(∀ z∈a,B0 z=true)->Q (.ref l) b
def LQ:Str:=cj " !\"#$&'()*+,-./0123456789:;<=>?@ABCDEFGHIJKLMNOPQRSTUVWXYZ[\\]^_`"++cj "abcdefghijklmnopqrstuvwxyz{|}~"
def IL(x:Int):Nat:=(if x/5%8=3 then 40-x/40%2 else 1+x%5).toNat
def JH(x:Int)(i:Nat):Nat:=(LQ.cps.toList[((x/3+(1+x/19%93)*((0+(i:Int))/(1+x/7%3)))%94).toNat]?).getD 0
def JI(x:Int):Str:=Txt.join (cj "") ((μ<|IL x).map λi=>{#[JH x i]})
def UD(x:Int):Int:=if x/28%2=0 then x%4-1 else x%14-1
example:(UE):=∃ x:Int,vs=[.int x]/\∀ a,Same H a->Q (.str<|JI x) a
example:(UF):=∃ x:Int,vs=[.int x]/\Q (.int<|UD x) H
structure TD(K:W.Frag)(a:Ad):Prop where
 n1:W.exmAny K (.ref<|a "NoName") [.ref (a "NoName"),.ref<|a "Twice"]=some true
 t1:W.exmAny K (.ref<|a "Twice") [.ref (a "NoName"),.ref<|a "Twice"]=some true
 p1:W.exmAny K (.ref<|a "NoPiece") [.ref (a "NoName"),.ref<|a "Twice"]=some false
 p2:W.exmAny K (.ref<|a "NoPiece") [.ref (a "NoPiece"),.ref<|a "NoRoom"]=some true
 r1:W.exmAny K (.ref<|a "NoRoom") [.ref (a "NoName"),.ref<|a "Twice"]=some false
 r2:W.exmAny K (.ref<|a "NoRoom") [.ref (a "NoPiece"),.ref<|a "NoRoom"]=some true
inductive Dn(X:SX)(tks:vC)(M:Hs)(y z:Str)(x:Int)(N:Nat):Nat->vC->Hs->Prop
 |make {kind rec cell:Nat} (h:kind<2) (h1:cellOf M X.m0 y=none) (h2:DV M 1 (X.r*X.w)=rec) (h3:DV M 0 X.m0=cell) (h4:rec<X.r*X.w) (h5:cell<X.m0):Dn X tks M y z x N kind tks (((M.put 1 rec (.mk 1) []).put 3 rec (.rc 1 []) [N]).put 0 cell (.nm y rec) ((N+1)::DQ tks y))
 |link {old rec cell m:Nat} {ps:wE} (h1:cellOf M X.m0 z=none) (h2:cellOf M X.m0 y=some old) (h3:old<X.m0) (h4:M 0 old=.nm y rec) (h5:M 3 rec=.rc m ps) (h6:DV M 0 X.m0=cell) (h7:cell<X.m0) (h8:rec<X.r*X.w):Dn X tks M y z x N 2 tks ((M.put 3 rec (.rc (m+1) ps) []).put 0 cell (.nm z rec) (N::DQ tks z))
 |move {old rec cell m:Nat} {ps:wE} (h1:cellOf M X.m0 z=none) (h2:cellOf M X.m0 y=some old) (h3:old<X.m0) (h4:M 0 old=.nm y rec) (h5:M 3 rec=.rc m ps) (h6:DV M 0 X.m0=cell) (h7:cell<X.m0) (h8:rec<X.r*X.w):Dn X tks M y z x N 7 (BL tks (.inr y) (.int (N+2:Nat))) ((((M.put 3 rec (.rc (m+1) ps) []).put 0 cell (.nm z rec) (N::DQ tks z)).put 0 old .no [N+1]).put 3 rec (.rc m ps) [N+2])
 |cutOne {cell rec m:Nat} {ps:wE} (h1:cellOf M X.m0 y=some cell) (h2:cell<X.m0) (h3:M 0 cell=.nm y rec) (h4:M 3 rec=.rc m ps) (h5:1<m) (h6:rec<X.r*X.w):Dn X tks M y z x N 3 (BL tks (.inr y) (.int N)) ((M.put 0 cell .no []).put 3 rec (.rc (m-1) ps) [N])
 |cutAll {cell rec m:Nat} {ps:wE} (h1:cellOf M X.m0 y=some cell) (h2:cell<X.m0) (h3:M 0 cell=.nm y rec) (h4:M 3 rec=.rc m ps) (h5:m<=1) (h6:rec<X.r*X.w) (h7:∀ p∈ps,p<X.c*X.w) (h8:ps.length<=12):Dn X tks M y z x N 3 (BL tks (.inr y) (.int N)) ((((M.put 0 cell .no []).put 3 rec .no [N]).unmark (N+1) ps).put 1 rec (.mk 0) [N+1])
 |put {kind cell rec m p:Nat} {ps:wE} (h:kind=4\/kind=5) (h1:cellOf M X.m0 y=some cell) (h2:cell<X.m0) (h3:M 0 cell=.nm y rec) (h4:M 3 rec=.rc m ps) (h5:DV M 2 (X.c*X.w)=p) (h6:p<X.c*X.w) (h7:rec<X.r*X.w) (h8:ps.length<=12):Dn X tks M y z x N kind tks (((M.put 2 p (.mk 1) []).put 4 p (.tx<|JI x) [N]).put 3 rec (.rc m<|ps++[p]) [N+1])
 |take {cell rec m k p:Nat} {ps:wE} (h1:cellOf M X.m0 y=some cell) (h2:cell<X.m0) (h3:M 0 cell=.nm y rec) (h4:M 3 rec=.rc m ps) (h5:UD x=k) (h6:ps[k]? =some p) (h7:rec<X.r*X.w) (h8:p<X.c*X.w) (h9:ps.length<=12):Dn X tks M y z x N 6 tks ((M.put 3 rec (.rc m<|ps.eraseIdx k) []).put 2 p (.mk 0) [N])
example:(Y9):=∃ (X:SX) (cs:yE) (e:vC) (M:Hs) (kind:Nat) (y z:Str) (x:Int),vs=[.ref X.S.st,.int kind,.str y,.str z,.int x]/\CM K a/\TD K a/\C6 a H X cs e M/\X.c*X.w<=12/\cs.length<920/\kind<8/\B0 y=true/\B0 z=true /\
 (∀ c,Same H c->Q .non c) /\
 ∀ d ex b g l c,C6 a c X (cs++ex) b g->ex.length=d->d<=15->Dn X e M y z x cs.length kind b g->SameBut (λx=>X.S.A.F x\/x=X.S.tk) H c->H l=none->c l=some (.lst (AQ ((μ d).map (cs.length+·))))->Q (.ref l) c
abbrev pK(n r c w kind k:Nat):List AN:=[.inl ((AX n r c w kind k:Nat):Int),.inl ((k%w:Nat):Int)]
inductive LaidL(n r c w:Nat)(B:zC)(H:Hp):uD->zE->Prop
 |nil:LaidL n r c w B H [] []
 |snoc {rs:uD} {as:zE} {t pl nl:Addr} {x:AC} {v:V} {nds:vE}:LaidL n r c w B H rs as->H t=some (.tup [.ref pl,v,.ref nl])->H pl=some (.tup [.int (AX n r c w x.kind x.k:Nat),.int (x.k%w:Nat)])->RepC H x.x v->H nl=some (.lst<|nds.map V.int)->¬ B nl->nds.Pairwise (· <·)->(∀ y:Int,y∈nds↔(∃ j∈x.nd,y=(j:Nat))\/∃ j:Nat,EI x.kind x.k as=some j/\y=j)->x.kind<5->x.k<A0 n r c w x.kind->LaidL n r c w B H (rs++[t]) (x::as)
structure LM(B:zC)(H:Hp)(hd la rj:Addr)(n r c w:Nat)(M:Hs):Prop where
 hn:∃ kh,H hd=some (.dT kh)/\kh.length<=M.as.length+180/\∀ kind k,kind<5->k<A0 n r c w kind->(EI kind k M.as=none/\M kind k=.no/\A8 kh (pK n r c w kind k)=none)\/∃ v,A8 kh (pK n r c w kind k)=some v/\RepC H (M kind k) v
 ls:∃ kl,H la=some (.dT kl)/\kl.length<=M.as.length/\∀ kind k,kind<5->k<A0 n r c w kind->A8 kl (pK n r c w kind k)=(EI kind k M.as).map λ(j:Nat)=>V.int j
 rs:∃ rs:uD,H rj=some (.lst<|rs.map V.ref)/\LaidL n r c w B H rs M.as
 ap:hd≠la
 nb:B hd/\B la/\B rj
 ok:∀ kind k,kind<5->k<A0 n r c w kind->EF kind (M kind k)
abbrev LF(hd a b:Addr)(y:Addr):Prop:=y=hd\/y=a\/y=b
example:(EY):=∃ (B:zC) (hd a b e nl:Addr) (n r c w kind k:Nat) (M:Hs) (x:CV) (v:V) (ns:vE),vs=[.ref hd,.ref a,.ref b,.ref e,v,.ref nl]/\LM B H hd a b n r c w M/\kind<5/\k<A0 n r c w kind/\EF kind x/\H e=some (.tup [.int (AX n r c w kind k:Nat),.int (k%w:Nat)])/\RepC H x v/\H nl=some (.lst<|ns.map V.int)/\ns.length<=60/\(∀ y∈ns,0<=y)/\M.as.length<=980/\(∀ y,H y=none->¬ B y) /\
 ∀ d,LM B d hd a b n r c w (M.put kind k x<|D9 ns)->SameBut (LF hd a b) H d->Q (.int M.as.length) d
def PlL(H:Hp)(p:Addr)(n r c w kind:Nat):Prop:=∃ a:uD,H p=some (.lst<|a.map V.ref)/\a.length=A0 n r c w kind/\∀ (k:Nat) t,a[k]? =some t->H t=some (.tup [.int (AX n r c w kind k:Nat),.int (k%w:Nat)])
example:(RA):=∃ (B:zC) (hd a b p:Addr) (n r c w kind:Nat) (M:Hs),vs=[.int (A0 n r c w kind:Nat),.ref hd,.ref p,.bl<|decide<|0<kind]/\LM B H hd a b n r c w M/\kind<3/\PlL H p n r c w kind/\A0 n r c w kind<=1000/\Q (.int<|DV M kind<|A0 n r c w kind) H
def KM(M:Hs)(m:Nat)(z:Str):Int:=match cellOf M m z with
 |some k=>k
 |none=> -1
example:(UG):=∃ (B:zC) (b hd e g:Addr) (n r c w:Nat) (M:Hs) (z:Str),vs=[.ref b,.ref hd,.str z]/\DH K a/\LayAt a H b n r c w/\LM B H hd e g n r c w M/\n*w<=1000/\∀ d,Same H d->Q (.int<|KM M (n*w) z) d
def TkL(H:Hp)(c:Addr)(a:vC)(N:Nat):Prop:=∃ b,H c=some (.dK b)/\b.length<=N/\∀ z,A8 b (.inr z)=(GL a z).map λ(j:Nat)=>V.int j
example:(RB):=∃ (B:zC) (j hd e g l:Addr) (n r c w b need cell:Nat) (M:Hs) (d:vC) (z:Str),vs=[.ref j,.ref hd,.ref e,.ref g,.ref l,.str z,.int b,.int need]/\DH K a/\LayAt a H j n r c w/\LM B H hd e g n r c w M/\TkL H l d 1000/\n*w<=1000/\DV M 0 (n*w)=cell/\cell<n*w/\M.as.length<=980/\(∀ y,H y=none->¬ B y) /\
 ∀ i,LM B i hd e g n r c w (M.put 0 cell (.nm z b) (need::DQ d z))->SameBut (LF hd e g) H i->Q (.int M.as.length) i
example:(ZA):=∃ (B:zC) (j hd d e g:Addr) (X:SX) (M l:Hs) (c b:vC) (y z:Str) (x:Int) (kind N:Nat),vs=[.ref j,.ref hd,.ref d,.ref e,.ref g,.str y]/\DH K a/\LayAt a H j X.n X.r X.c X.w/\LM B H hd d e X.n X.r X.c X.w M/\TkL H g c N/\N<=900/\X.n<=6/\X.r<=6/\X.c<=6/\X.w<=6/\kind<2/\Dn X c M y z x M.as.length kind b l/\M.as.length<=930/\(∀ y,H y=none->¬ B y) /\
 ∀ i,LM B i hd d e X.n X.r X.c X.w l->TkL i g b (N+1)->SameBut (λy=>LF hd d e y\/y=g) H i->Q .non i
example:(ZB):=∃ (B:zC) (j hd d e g:Addr) (X:SX) (M l:Hs) (c b:vC) (y z:Str) (x:Int) (kind N:Nat),vs=[.ref j,.ref hd,.ref d,.ref e,.ref g,.int kind,.str y,.str z]/\DH K a/\LayAt a H j X.n X.r X.c X.w/\LM B H hd d e X.n X.r X.c X.w M/\TkL H g c N/\N<=900/\X.n<=6/\X.r<=6/\X.c<=6/\X.w<=6/\(kind=2\/kind=3\/kind=7)/\Dn X c M y z x M.as.length kind b l/\M.as.length<=930/\(∀ y,H y=none->¬ B y) /\
 ∀ i,LM B i hd d e X.n X.r X.c X.w l->TkL i g b (N+1)->SameBut (λy=>LF hd d e y\/y=g) H i->Q .non i
example:(ZC):=∃ (B:zC) (j hd d e i:Addr) (X:SX) (M l:Hs) (c b:vC) (y z:Str) (x:Int) (kind N:Nat),vs=[.ref j,.ref hd,.ref d,.ref e,.int kind,.str y,.int x]/\DH K a/\LayAt a H j X.n X.r X.c X.w/\LM B H hd d e X.n X.r X.c X.w M/\TkL H i c N/\N<=900/\X.n<=6/\X.r<=6/\X.c<=6/\X.w<=6/\4<=kind/\kind<7/\Dn X c M y z x M.as.length kind b l/\M.as.length<=930/\(∀ y,H y=none->¬ B y) /\
 ∀ g,LM B g hd d e X.n X.r X.c X.w l->TkL g i b (N+1)->SameBut (λy=>LF hd d e y\/y=i) H g->Q .non g
example:(ZD):=∃ (B:zC) (hd g c l:Addr) (X:SX) (cs:yE) (b:vC) (M:Hs) (N d:Nat),vs=[.ref X.S.A.b,.ref l,.ref c,.int N]/\CM K a/\C6 a H X cs b M/\LM B H hd g c X.n X.r X.c X.w M/\cs.length=N+d/\H l=some (.lst (AQ ((μ d).map (N+·))))/\∀ e,Same H e->Q (.bl true) e
example:(ZE):=∃ (B:zC) (hd c d:Addr) (X:SX) (cs:yE) (b:vC) (M:Hs) (N:Nat),vs=[.ref X.S.A.b,.ref hd,.ref c,.ref d,.int N]/\CM K a/\C6 a H X cs b M/\LM B H hd c d X.n X.r X.c X.w M/\N<=cs.length/\∀ e,Same H e->Q (.bl true) e
def ShL(H:Hp)(b:Addr)(n r c w:Nat)(S:Md)(N:Nat):Prop:=∃ a,H b=some (.dT a)/\a.length<=N/\∀ kind k,kind<5->k<A0 n r c w kind->RepC H (S kind k) ((A8 a<|pK n r c w kind k).getD .non)
example:(ZF):=∃ (X:SX) (cs:yE) (b:vC) (M:Hs) (c:Addr) (N:Nat),vs=[.ref X.S.lp,.ref X.S.A.gp,.ref c]/\CM K a/\C6 a H X cs b M/\ShL H c X.n X.r X.c X.w (sh M.b X.C M.as) N/\∀ d,Same H d->Q (.bl true) d
def GnL(H:Hp)(gn:Addr)(outs:tD)(N:Nat):Prop:=∃ gs:List Bool,H gn=some (.lst<|gs.map V.bl)/\gs.length<=N/\(∀ (k:Nat) b,gs[k]? =some b->outs k=b)/\∀ k:Nat,gs.length<=k->outs k=false
example:(RC):=∃ (B:zC) (hd i g gn c:Addr) (X:SX) (cs:yE) (d:vC) (M:Hs) (b N:Nat),vs=[.ref X.S.lp,.ref X.S.A.gp,.ref X.S.st,.ref g,.ref gn,.ref c,.int b]/\CM K a/\C6 a H X cs d M/\LM B H hd i g X.n X.r X.c X.w M/\b<X.n+X.r+X.c+X.r+X.c/\GnL H gn X.outs cs.length/\ShL H c X.n X.r X.c X.w (sh M.b X.C M.as) N/\N<=70000/\c≠hd/\c≠i/\gn≠g/\(B gn/\B c/\¬ X.S.A.F gn/\¬ X.S.A.F c)/\(∀ x,X.S.A.F x\/x=X.S.tk\/x=X.S.A.gp->B x) /\
 ∀ rows nn outs e,C6 a e { X with rows:=rows,nn:=nn,outs:=outs } cs d M->GnL e gn outs cs.length->ShL e c X.n X.r X.c X.w (sh M.b (λj=>outs (j:Nat)) M.as) (N+990)->SameBut (λx=>X.S.A.F x\/x=X.S.A.gp\/x=gn\/x=c) H e->Q (.bl true) e
abbrev SX.G(X:SX):Addr->Prop:=λx=>X.S.A.F x\/x=X.S.tk
structure Nx(H:Hp)(X:SX)(H':Hp)(X':SX):Prop where
 lp:X'.S.lp=X.S.lp
 sz:X'.n=X.n/\X'.r=X.r/\X'.c=X.c/\X'.w=X.w
 o:∀ l o,H l=some o->(∀ C d f,o≠.ins C d f)->¬ X.G l->H' l=some o/\¬ X'.G l
def MV(v:Option V):Option V:=if v=some .non then none else v
example:(ZG):=∃ (g i j:Addr) (n r c w:Nat) (rows:wC) (m:Nat),vs=[.ref g,.ref i]/\DH K a/\DL K a/\LayAt a H g n r c w/\PlankAt a H i j w rows m/\rows.length=n+r+c+r+c/\rows.length<=15/\w<=4 /\
 ∀ (d:Addr) (kvs:xA) (e:Hp),H d=none->Same H e->e d=some (.dT kvs)->kvs.length<=180->NR kvs->(∀ b k:Nat,b<rows.length->k<w->A8 kvs [.inl (b:Int),.inl (k:Int)]=MV ((rows[b]?).bind λq=>q[k]?))->Q (.ref d) e
example:(ZH):=∃ (X:SX) (cs:yE) (c:vC) (M:Hs) (x:Int),vs=[.ref X.S.lp,.ref X.S.A.gp,.ref X.S.st,.int x]/\TV K a/\CM K a/\C6 a H X cs c M /\
 ∀ (b:SX) (S:Md) (d:Hp),C6 a d b [] [] {S,[]}->Nx H X d b->b.S.A.gp=X.S.A.gp->Q (.ref b.S.st) d
example:(ZI):=∃ (B:zC) (hd d e:Addr) (X:SX) (cs:yE) (b:vC) (M:Hs),vs=[.ref X.S.lp,.ref X.S.st,.ref hd]/\CM K a/\C6 a H X cs b M/\LM B H hd d e X.n X.r X.c X.w M/\∀ c,Same H c->Q (.bl true) c
structure LA where
 hd:Addr
 la:Addr
 td:Addr
 rj:Addr
 gn:Addr
 sd:Addr
abbrev LA.is(L:LA)(x:Addr):Prop:=x=L.hd\/x=L.la\/x=L.td\/x=L.rj\/x=L.gn\/x=L.sd
abbrev CT(X:SX)(L:LA)(x:Addr):Prop:=X.S.A.F x\/x=X.S.tk\/x=X.S.A.gp\/L.is x
structure S65(a:Ad)(H:Hp)(X:SX)(cs:yE)(tks:vC)(M:Hs)(L:LA)(i:Nat):Prop where
 c:C6 a H X cs tks M
 cw:X.c*X.w<=12/\1<=X.n
 l:cs.length<=15*i
 m:LM (CT X L) H L.hd L.la L.rj X.n X.r X.c X.w M
 t:TkL H L.td tks i
 g:GnL H L.gn X.outs cs.length
 s:ShL H L.sd X.n X.r X.c X.w (sh M.b X.C M.as) (990*i+180)
 f:∀ x,L.is x->¬ X.S.A.F x/\x≠X.S.tk/\x≠X.S.A.gp
 ne:L.sd≠L.hd/\L.sd≠L.la/\L.gn≠L.rj
def UH(B:zC)(H a:Hp):Prop:=∀ l xs,H l=some (.lst xs)->¬ B l->a l=some (.lst xs)
def ZJ(H:Hp)(nl:Addr)(a:yD):Prop:=H nl=some (.lst<|a.map V.str)/\a.length=5/\∀ z∈a,B0 z=true
example:(ZK):=∃ (X:SX) (cs:yE) (d:vC) (M:Hs) (L:LA) (i:Nat) (x:Int) (nl:Addr) (j:yD),vs=[.ref X.S.lp,.ref X.S.A.gp,.ref X.S.st,.ref X.S.A.b,.ref L.hd,.ref L.la,.ref L.td,.ref L.rj,.ref L.gn,.ref L.sd,.int x,.ref nl]/\CM K a/\TD K a/\S65 a H X cs d M L i/\i<=61/\ZJ H nl j/\¬ CT X L nl /\
 ∀ (b:SX) (e:yE) (c:vC) (l:Hs) (g:Hp),b.S=X.S->(b.n=X.n/\b.r=X.r/\b.c=X.c/\b.w=X.w)->S65 a g b e c l L (i+1)->UH (CT X L) H g->Q (.bl true) g
example:(sQ):=∃ (s:Addr) (ns:vE),vs=[.ref s]/\TV K a/\CM K a/\TD K a/\SqL K H s (ns.map V.int)/\ns.length<=63/\∀ b,Q (.bl true) b
abbrev FK:=W.Frag
abbrev XE:=St->XK
abbrev RT:=FK->Ad->XE->XE->TS
def A3{f g:RT}(h:∀ K a E b,f K a E b=g K a E b){K a E b D c H}:f K a E b D c H=g K a E b D c H:=by rw[h]
abbrev DI:TE:=tC<|.int 0
abbrev CD:TE:=tC<|.int 1
abbrev OB:TE:=tC<|.int 2
abbrev G4:TE:=tC<|.int 3
abbrev sR:TE:=tC<|.int 4
abbrev MW:TE:=tC<|.int 5
abbrev RD:TE:=tC<|.int 6
abbrev OC:TE:=tC<|.int 7
abbrev ZL:TE:=tC<|.int 8
abbrev UI:TE:=tC<|.int 9
abbrev DB(n:Int):TE:=tC<|.int n
abbrev AH(a:TE):TA:=A9 a BC
abbrev BB(a b:TE):TA:=A9 a<|A9 b BC
abbrev CO(a b x2:TE):TA:=A9 a<|A9 b<|A9 x2 BC
abbrev CU(a b x2 x3:TE):TA:=A9 a<|A9 b<|A9 x2<|A9 x3 BC
abbrev BP(K:W.Frag)(x:TE)(n:Int):TE:=AE (BK K) x (tC<|.int n)
abbrev AB:TE:=DF 0
abbrev AJ:TE:=DF 1
abbrev EL:TE:=DF 10
abbrev JJ:TE:=DF 11
abbrev FO:TE:=DF 12
abbrev LR:TE:=DF 13
abbrev UJ:TE:=DF 14
abbrev RE:TE:=DF 15
abbrev zju:TE:=DF 16
abbrev AR:TE:=DF 2
abbrev AY:TE:=DF 3
abbrev BF:TE:=DF 4
abbrev BS:TE:=DF 5
abbrev DC:TE:=DF 6
abbrev D4:TE:=DF 7
abbrev GP:TE:=DF 8
abbrev EM:TE:=DF 9
section
variable{K:FK}{a:Ad}{n:Nat}{E E1:XE}{D:Ends}{σ:St}{H:Hp}
local macro_rules
 |`(command|example : $x:term := ([$q,*],[$p,*]))=>do
  let i:=Lean.mkIdent
  let m (k:Nat):=Lean.Name.mkSimple s!"{x.raw.getId}{k}"
  let mut r:=#[]
  for k in [:p.getElems.size] do
   r:=(r.push<|<-`(command|def $(i<|m k):ident:RT:=fun $(i `K):ident $(i `a):ident $(i `E):ident $(i `E1):ident=>$(p.getElems[k]!))).push (<-`(command|theorem $(i<|(m k).appendAfter "_"):ident:type_of%(@A3 _ _ $(i<|m k++`eq_1)):=rfl))
  let f:=fun (y:Lean.Term)=>`($(i<|m y.raw.isNatLit?.get!) $(i `K) $(i `a) $(i `E) $(i `E))
  let q:=q.getElems
  let t<-q.pop.foldrM (fun y z=>do `(AF $(<-f y) $z)) (<-f q.back!)
  return Lean.mkNullNode (r.push<|<-`(command|def $(i x.raw.getId):ident ($(i `K):ident:FK) ($(i `a):ident:Ad) ($(i `E):ident:XE):TS:=$t))
example:sT:=([0],[AV (BZ (FM K<|AH<|AT K AB "record_values") (FH K 2<|DP (AG 0) (DP (AG 1) FG)) (A7<|AE IB (AE (BK K) (AT K AR "leads") AB) DI) AJ 2 [0])])
example:sU:=([0],[AV (BZ (FM K<|AH<|AT K AB "record_values") (FH K 2<|DP (AG 0) (DP (AG 1) FG)) (A7<|AE FY AJ<|tC .non) AB 2 [])])
example:sV:=([0],[AV (BZ (FM K<|AH<|AT K AB "namings") (FH K 2<|DP (AG 0) (DP (AG 1) FG)) (A7<|AE IB AJ DI) AB 2 [])])
example:sW:=([0],[AV (BP K (AE (BK K) (AT K AB "record_values") AJ) 0)])
example:tE:=([0,1,2,9,10],[AO (BJ BC) (AG 1),AO (BJ BC) (AG 2),AO JY<|AG 3,CB<|D2 K "list" EE AJ<|AH<|B9<|BB (tC<|.str "lost") BF,BH (A7<|AE FX (AE (BK K) (AT K AB "record_values") (BP K BS 1)) (tC .non)) (tE3 K a E E) BR,CB<|D2 K "list" EE AR<|AH<|B9<|BB (tC<|.str "twice") BF,BH (A7<|JA (BP K BS 0) AY) (tE5 K a E E) BR,FL AY (BP K BS 0) (tC<|.bl true),BH (A7<|AE FY BS<|tC .non) (AF (tE4 K a E E) (AF (tE6 K a E E) (tE7 K a E E))) BR,CL (FM K<|AH<|AT K AB "name_values") (JC K 2<|FZ (AG 4) (FZ (AG 5) JD)) (tE8 K a E E),AV<|AE (BN K) AJ AR])
example:ZO:=([0,1],[AO (BZ (FM K<|AH<|AT K AB "piece_marks") (FH K 2<|DP (AG 0) (DP (AG 1) FG)) (A7<|AE (CF K) AJ CD) AB 2 []) (AG 1),AV<|BZ (C4 K AJ) (AG 0) (A7<|AE (CF K) (AE (BK K) (AT K AJ "reached") AB) DI) (B9<|CO (tC<|.str "left") (tC<|.str "piece") AB) 1 [0]])
example:ZP:=([0,1],[AO (BZ (FM K<|AH<|AT K AB "record_marks") (FH K 2<|DP (AG 0) (DP (AG 1) FG)) (A7<|AE (CF K) AJ CD) AB 2 []) (AG 1),AV<|BZ (C4 K AJ) (AG 0) (A7<|AE FX (AE (BK K) (AT K AJ "record_values") AB) (tC .non)) (B9<|BB (tC<|.str "marked") AB) 1 [0]])
example:ZQ:=([0,2,3],[AO (BZ (CN<|AH AB) (AG 0) CP DI 1 []) (AG 2),ST K AR AY CD O3,CL (C4 K AJ) (AG 3) (ZQ1 K a E E),AV AR])
example:tL:=([0,3,4],[AO (BJ BC) (AG 1),CB<|D2 K "list" (W2 K) AJ (AH<|BP K AR 1),BH (A7<|AE FY AR<|tC .non) (tL1 K a E E) BR,CL (C4 K AB) (AG 2) (tL2 K a E E),AV AJ])
example:tM:=([0,1,2],[C9 K AB AJ "place",C9 K AB AR "value",C9 K AB AY "needs"])
example:tN:=([0],[AV (BZ (CN<|AH<|B7 (DJ K) (AH<|AT K AB "made")) (AG 0) (A7<|JB AB<|AT K AJ "outs") AB 1 [0])])
example:tQ:=([2],[GA (a "NoChange") E (AH<|tC<|.str "there is no change of such a number"),BH (E4<|A7<|FW E5 FU DI AR<|B7 (DJ K) (AH<|AT K AB "made")) (tQ0 K a E E) BR,CL (C4 K AJ) (AG 2) (tQ1 K a E E)])
example:UL:=([1,2],[AV (B7 (LD K) (AH<|P8 K AB)),BH (A7<|AE FX AJ<|tC .non) (UL0 K a E E) BR,AV<|B7 (LD K) (AH<|P8 K<|AE (BN K) (B7 (KH K) (AH AB)) (BJ<|AH AJ))])
example:tV:=([2,3],[AV AY,BH (JU (A7<|JB AY<|AT K AB "outs") (A7<|JB AY AR)) (tV0 K a E E) BR,CL (C4 K<|AT K (AE (BK K) (AT K AB "made") AJ) "needs") (AG 3) (tV1 K a E E),AV<|tC .non])
example:tY:=([0,3,4],[AO (B7 (KH K) (AH AJ)) (AG 3),AO (AT K (AE (BK K) (AT K AB "made") BF) "value") (NI AY (BP K (AT K (AE (BK K) (AT K AB "made") BF) "place") 1) NM),BH (A7<|JA BF<|AT K AB "outs") (tY1 K a E E) BR,CL (C4 K<|AE (BK K) (AT K AB "made_in") AR) (AG 4) (tY2 K a E E),AV AY])
example:ZR:=([0],[AV (LC (FW E5 E5 (tC<|.str " ") AB (tC<|.str "~")) (AE (DE K) (B7 (PY K) (AH AB)) (DB 37)))])
example:ZS:=([0],[AV (LC (FW E5 E5 CD (B7 (DJ K) (AH AB)) ZL) (B7 (NO K) (AH<|BZ (PU AB) (AG 0) CP (FW E5 E5 (tC<|.str "a") AB (tC<|.str "z")) 1 [])))])
example:t7:=([0],[AV (AT K AB "book")])
example:ZT:=([0,1,2],[C9 K AB (BZ (CN<|AH AJ) (AG 0) CP (AE (FV K) (B9<|AH<|tC .non) AJ) 1 [2]) "contents",C9 K AB AR "width",C9 K AB DI "written"])
example:uA:=([0],[AV (B7 (DJ K) (AH<|AT K AB "contents"))])
example:uB:=([0],[AV (AT K AB "width")])
example:uC:=([0],[AV (AT K AB "written")])
example:ZU:=([1],[GA (a "NoBlock") E (AH<|tC<|.str "there is no such block"),BH (E4<|A7<|FW E5 FU DI AJ<|B7 (DJ K) (AH<|AT K AB "contents")) (ZU0 K a E E) BR])
example:uE:=([0,1,2,3],[C9 K AB AJ "name_blocks",C9 K AB AR "record_blocks",C9 K AB AY "piece_blocks",C9 K AB BF "width"])
example:uF:=([0],[AV (B9<|CO (AE (FV K) (AT K AB "name_blocks") (AT K AB "width")) (AE (FV K) (AT K AB "record_blocks") (AT K AB "width")) (AE (FV K) (AT K AB "piece_blocks") (AT K AB "width")))])
example:uG:=([0],[AV (AE (BN K) (AE (BN K) (AT K AB "name_blocks") (AT K AB "record_blocks")) (AT K AB "piece_blocks"))])
example:uH:=([0],[AV (B9<|BB (AE (BN K) AJ (AE DA AR<|AT K AB "width")) (AE CS AR<|AT K AB "width"))])
example:ZV:=([1,2],[AV (AE (BK K) AB AJ),BH (A7<|AE FU AJ<|B7 (DJ K) (AH AB)) (ZV0 K a E E) BR,AV DI])
example:ZW:=([0,1,2,5,6,7,8,9,10],[AO (tC<|.str "abcdefghijklmnopqrstuvwxyz") (AG 1),AO (tC<|.str "") (AG 2),AO (AE DA AB RD) (AG 3),AO (AE (BN K) AR (AE (BK K) AJ (AE CS (AE (BN K) AY (AE (FV K) (AE (FV K) OC BF) (AE CS (AE DA AY<|DB 26) MW))) (DB 26)))) (AG 2),AO (AE (BN K) (AE DA AY<|DB 29) (AE (FV K) G4 BF)) (AG 3),CL (CN<|AH<|AE (BN K) CD (AE CS AB RD)) (AG 4) (AF (ZW3 K a E E) (ZW4 K a E E)),AO (AE CS (AE DA AB OC) (B7 (DJ K) (AH AR))) (AG 5),AO (AE (BK K) AJ (AE CS (AE DA AB<|DB 11) (DB 26))) (AG 6),AO (AE (BK K) AJ (AE CS (AE (BN K) (AE (BN K) (AE DA AB<|DB 11) CD) (AE CS (AE DA AB<|DB 13) (DB 25))) (DB 26))) (AG 7),AO (AE (BK K) AJ (AE CS (AE (BN K) (AE (BN K) (D2 K "str" qP AJ<|AH<|AE (BK K) AR BS) CD) (AE CS (AE DA AB<|DB 17) (DB 25))) (DB 26))) (AG 8),AV<|BJ<|A9 AR<|CU (AE (BN K) AR D4) (AE (BN K) DC AR) (AE (BN K) (AE (BN K) (HY (IC K) AR IV (GE BS)) GP) (HY (IC K) AR (GE<|AE (BN K) BS CD) IV)) (AE (BN K) (AE (BN K) AR D4) DC)])
example:Z0:=([0,1,2,4,5,6,7],[AO (tC<|.str " !\"#$&'()*+,-./0123456789:;<=>?@ABCDEFGHIJKLMNOPQRSTUVWXYZ[\\]^_`") (AG 1),AO (AE (BN K) AJ (tC<|.str "abcdefghijklmnopqrstuvwxyz{|}~")) (AG 1),AO (AE (BN K) CD (AE CS AB MW)) (AG 2),AO (AE KG (DB 40) (AE CS (AE DA AB<|DB 40) OB)) (AG 2),BH (A7<|AE (CF K) (AE CS (AE DA AB MW) ZL) G4) (Z03 K a E E) BR,AO (AE (BN K) CD (AE CS (AE DA AB<|DB 19) (DB 93))) (AG 3),AO (AE (BN K) CD (AE CS (AE DA AB OC) G4)) (AG 4),AV<|D2 K "str" (WW K) (tC<|.str "") (AH<|BZ (CN<|AH AR) (AG 0) CP (AE (BK K) AJ (AE CS (AE (BN K) (AE DA AR G4) (AE (FV K) AY (AE DA AB BF))) (DB 94))) 1 [1,0,3,4])])
example:Z1:=([1,2],[AV (AE KG (AE CS AB sR) CD),BH (A7<|AE (CF K) (AE CS (AE DA AB<|DB 28) OB) DI) (Z10 K a E E) BR,AV<|AE KG (AE CS AB<|DB 14) CD])
example:vG:=([2,3],[AV BF,BH (HV (A7<|AE FX (IF AJ<|AE (BK K) AR BF) (tC .non)) (JU (E6 K AY) (A7<|AE (CF K) (IF AJ<|AE (BK K) AR BF) DI))) (vG0 K a E E) BR,CL (CN<|AH AB) (AG 4) (vG1 K a E E),AV<|L4 MJ CD])
example:Z6:=([1,2,3,4,5],[AO (AE (BN K) BS (BJ<|AH<|E7 AJ AY)) (AG 5),BH (A7<|JA AY AJ) (Z60 K a E E) BR,FL AJ AY<|B7 (DJ K) (AH AR),CB<|D2 K "list" EE AR<|AH<|B9<|CO AY BF<|P8 K BS,FL AB AY BF,AV<|E7 AJ AY])
example:Z7:=([0,1,2,3],[AO (BZ (C4 K<|AM (a "View") "pieces_named" (Q7 K a) E AB BC) (AG 0) (A7<|AE IB (AE (BK K) (AT K AJ "namings") AB) CD) (B9<|BB (tC<|.str "shared") AB) 1 [0]) (AG 1),AO (BZ (C4 K<|AM (a "View") "pieces_named" (Q7 K a) E AB BC) (AG 0) (A7<|AE FX (AE (BK K) (AT K AJ "piece_values") AB) (tC .non)) (B9<|BB (tC<|.str "empty") AB) 1 [0]) (AG 2),AO (BZ (C4 K<|AM (a "View") "records_standing" (T9 K a) E AB BC) (AG 0) (A7<|AE FU (AM (a "View") "count_of" (UA K a) (λ_=>E0) AJ (AH AB)) (AE (BK K) (AT K AJ "leads") AB)) (B9<|BB (tC<|.str "few") AB) 1 [0]) (AG 3),AV<|AE (BN K) (AE (BN K) AJ AR) AY])
example:Z8:=([0,1,2,3],[AO (BZ (FM K<|AH<|AT K AB "leads") (FH K 2<|DP (AG 0) (DP (AG 1) FG)) (A7<|AE IB AJ DI) AB 2 []) (AG 1),AO (BZ (C4 K AJ) (AG 0) (A7<|AE (DE K) (AE (BK K) (AT K AJ "record_marks") AB) CD) (B9<|CO (tC<|.str "free") (tC<|.str "record") AB) 1 [0]) (AG 2),AO (BZ (C4 K<|AM (a "View") "pieces_named" (Q7 K a) E AB BC) (AG 0) (A7<|AE (DE K) (AE (BK K) (AT K AJ "piece_marks") AB) CD) (B9<|CO (tC<|.str "free") (tC<|.str "piece") AB) 1 [0]) (AG 3),AV<|AE (BN K) AR AY])
example:vS:=([0,1,7,8],[AO (BJ BC) (AG 1),AO (BJ BC) (AG 2),AO (AE (BK K) (AT K AB "leads") AY) (AG 4),CB<|D2 K "list" EE AR<|AH<|B9<|CO (tC<|.str "left") (tC<|.str "record") AY,CB<|D2 K "list" EE AJ<|AH<|B9<|CO (tC<|.str "many") AY BF,BH (A7<|AE IB (AM (a "View") "count_of" (UA K a) E AB (AH AY)) BF) (vS4 K a E E) BR,BH (A7<|AE (CF K) BF DI) (vS3 K a E E) (vS5 K a E E),CL (C4 K<|AM (a "View") "records_standing" (T9 K a) E AB BC) (AG 3) (AF (vS2 K a E E) (vS6 K a E E)),AV<|AE (BN K) AJ AR])
example:Z9:=([0,1,2,3,4],[C9 K AB AJ "ground",C9 K AB (BJ BC) "made",C9 K AB (BZ (CN<|AH<|AM (a "Plank") "blocks" (QJ K a) E AJ BC) (AG 0) CP (BJ BC) 1 []) "made_in",C9 K AB IX "latest",C9 K AB JY "outs"])
example:aA:=([0,1],[CB (AM (a "Hold") "ask_for_changes" (TN K a) E AB (AH<|BJ<|AH AJ)),AV<|B7 (KH K) (AH<|AT K (AE (BK K) (AT K AB "made") AJ) "needs")])
example:vX:=([1],[GA (a "NoBlock") E (AH<|tC<|.str "there is no such place on the plank"),BH (HV (E4<|A7<|FW E5 FU DI (BP K AJ 0) (AM (a "Plank") "blocks" (QJ K a) E (AT K AB "ground") BC)) (E4<|A7<|FW E5 FU DI (BP K AJ 1) (AM (a "Plank") "cells" (XH K a) E (AT K AB "ground") BC))) (vX0 K a E E) BR])
example:aB:=([0,1,2,9,10],[AO (B7 (P9 K) (AH AR)) (AG 3),AO (BJ BC) (AG 4),AO (BJ BC) (AG 5),AO (AM (a "Hold") "lack_of" (YD K a) E AB (BB DC AY)) (AG 7),FL AY DC<|tC<|.bl true,CB<|D2 K "list" EE BF<|AH DC,CB<|D2 K "list" EE BS<|AH<|B9<|BB DC D4,BH (A7<|AE FX D4<|tC .non) (AF (aB4 K a E E) (aB5 K a E E)) (aB6 K a E E),BH (JU (A7<|JB DC<|AT K AB "outs") (A7<|JB DC AY)) (AF (aB3 K a E E) (aB7 K a E E)) BR,CL (C4 K<|AE (BK K) (AT K AB "made_in") AJ) (AG 6) (aB8 K a E E),AV<|B9<|BB BF BS])
example:aC:=([0],[AV (LC (FW E5 E5 CD (B7 (DJ K) (AH AB)) (DB 40)) (B7 (NO K) (AH<|BZ (PU AB) (AG 0) CP (BE (YJ K a) (λ_=>E0) (AH AB)) 1 [])))])
example:aD:=([0,1],[CB (AM (a "Plank") "ask_for_block" (NW K a) E AB (AH AJ)),AV<|B7 (KH K) (AH<|AE (BK K) (AT K AB "contents") AJ)])
example:aE:=([0,2,3,4],[CB (AM (a "Plank") "ask_for_block" (NW K a) E AB (AH AJ)),GA (a "NoBlock") E (AH<|tC<|.str "the list is not as long as a block"),BH (A7<|AE (DE K) (B7 (DJ K) (AH AR)) (AT K AB "width")) (aE1 K a E E) BR,AO (B7 (LD K) (AH AR)) (NI (AT K AB "contents") AJ NM),R8 K AB CD O3 "written"])
example:wU:=([0],[AV (AM (a "Layout") "place_from" (MM K a) E AB (BB DI AJ))])
example:wV:=([0],[AV (AM (a "Layout") "place_from" (MM K a) E AB (BB (AT K AB "name_blocks") AJ))])
example:wW:=([0],[AV (AM (a "Layout") "place_from" (MM K a) E AB (BB (AE (BN K) (AT K AB "name_blocks") (AT K AB "record_blocks")) AJ))])
example:wX:=([0],[AV (AM (a "Layout") "place_from" (MM K a) E AB (BB (AM (a "Layout") "blocks_ahead_of_marks" (QQ K a) E AB BC) AJ))])
example:wY:=([0],[AV (AM (a "Layout") "place_from" (MM K a) E AB (BB (AE (BN K) (AM (a "Layout") "blocks_ahead_of_marks" (QQ K a) E AB BC) (AT K AB "record_blocks")) AJ))])
example:wZ:=([0],[AV (AE (BN K) (AE (BN K) (AM (a "Layout") "blocks_ahead_of_marks" (QQ K a) E AB BC) (AT K AB "record_blocks")) (AT K AB "piece_blocks"))])
example:w5:=([0],[AV (AE (BN K) (AE (BN K) (BE (YV K a) E (AH AB)) (BE (YW K a) E (AH AB))) (BE (YX K a) E (AH AB)))])
example:w8:=([0],[AV (AE (BN K) (AE (BN K) (BE (YY K a) E (AH AB)) (BE (YZ K a) E (AH AB))) (BE (Y0 K a) E (AH AB)))])
example:w9:=([0],[AV (BZ (C4 K AJ) (FH K 2<|DP (AG 0) (DP (AG 1) FG)) CP (AE (BK K) (AM (a "Plank") "read" (KI K a) (λ_=>E0) AR (AH AB)) AJ) 2 [0])])
example:aF:=([2,4,6,7],[AO (AM (a "Layout") "record_at" (GH K a) E AB (AH<|BP K AR 1)) (AG 3),AV<|MI [ (AY ,(B9<|BB (BP K AR 2) (BP K (AE (BK K) (AM (a "Plank") "read" (KI K a) E AJ (AH<|BP K AY 0)) (BP K AY 1)) 1))) ],BH (A7<|AE (CF K) (BP K AR 0) (tC<|.str "many")) (AF (aF0 K a E E) (aF1 K a E E)) BR,AV<|MI [ ((AM (a "Layout") "record_mark" (IH K a) E AB (AH<|BP K AR 1)) ,DI) ],BH (A7<|AE (CF K) (BP K AR 0) (tC<|.str "marked")) (aF3 K a E E) BR,AV<|MI [ ((AM (a "Layout") "record_at" (GH K a) E AB (AH<|BP K AR 2)) ,(tC .non)) ,((AM (a "Layout") "record_mark" (IH K a) E AB (AH<|BP K AR 2)) ,DI) ],BH (A7<|AE (CF K) (BP K AR 1) (tC<|.str "record")) (aF5 K a E E) BR,AV<|MI [ ((AM (a "Layout") "piece_mark" (HG K a) E AB (AH<|BP K AR 2)) ,DI) ]])
example:aG:=([4],[AO (AM (a "Plank") "read" (KI K a) E AB (AH AR)) (AG 3),AO (BZ (FM K<|AH AY) (FH K 2<|DP (AG 0) (DP (AG 1) FG)) CP (VX AR (B9<|BB AY AB) AJ) 2 [1,2]) (AG 4),CB<|AM (a "Plank") "write" (S6 K a) E AB (BB AR BF),BH (A7<|AE (DE K) BF AY) (aG2 K a E E) BR,CL (CN<|AH<|AM (a "Plank") "blocks" (QJ K a) E AB BC) (AG 2) (AF (aG0 K a E E) (AF (aG1 K a E E) (aG3 K a E E)))])
example:xK:=([0,1],[CB (AM (a "Hold") "ask_for_place" (X9 K a) E AB (AH AJ)),AV<|IF (AT K AB "latest") AJ])
example:xM:=([0,1,3,4,5],[AO (AM (a "Plank") "read" (KI K a) E (AT K AB "ground") (AH AJ)) (AG 2),AO (AM (a "Hold") "outcome" (YE K a) E AB (BB AJ JY)) (AG 3),FL (AT K AB "outs") BF (tC<|.bl true),CL (C4 K<|BP K AY 0) (AG 4) (xM2 K a E E),CB<|AM (a "Plank") "write" (S6 K a) E (AT K AB "ground") (BB AJ<|AM (a "Hold") "laid_over" (YF K a) E AB (BB AR AJ)),AV AY])
example:xN:=([0],[AV (GD (a "Plank") (XG K a) E (BB (AM (a "Layout") "blocks" (MN K a) E AB BC) (AT K AB "width")))])
example:aH:=([3,4],[AO (IF AJ<|AM (a "Layout") "name_at" (G1 K a) E AB (AH AY)) (AG 4),AV AY,BH (JU (A7<|AE FY BF<|tC .non) (A7<|AE (CF K) (BP K BF 0) AR)) (aH1 K a E E) BR,CL (CN<|AH<|BP K (AM (a "Layout") "counts" (HH K a) E AB BC) 0) (AG 3) (AF (aH0 K a E E) (aH2 K a E E)),AV<|L4 MJ CD])
example:aJ:=([0,1,2,4,5],[AO (BZ (CN<|AH<|BP K (AM (a "Layout") "counts" (HH K a) E AB BC) 0) (AG 0) CP (AM (a "Layout") "name_at" (G1 K a) (λ_=>E0) AJ (AH AB)) 1 [0]) (AG 8),AO (AE (BK K) GP (BE (RA K a) E (CU (B7 (DJ K) (AH GP)) AJ GP (tC<|.bl false)))) (AG 9),AO (BJ<|AH D4) (AG 10),CB<|D2 K "list" EE EL<|AH<|E7 BF BS,BH (A7<|JA BS BF) (aJ3 K a E E) BR,AV<|BE (EY K a) E (A9 AJ<|A9 AR<|CU AY EM (B9<|BB BS DC) EL)])
example:aK:=([1,4,5],[AV (tC<|.bl false),BH (HV (E4<|E6 K<|B7 (MG K) (BB AJ<|tC<|.ty "list")) (A7<|AE (DE K) AJ (BZ (OX<|BB AY<|B7 (DJ K) (AH AR)) (AG 0) CP AB 1 []))) (aK0 K a E E) BR,AV<|tC<|.bl false,BH (HV (E6 K<|B7 (MG K) (BB (AE (BK K) AJ (AE KG BF AY)) (tC<|.ty "bool"))) (A7<|AE (DE K) (AM (a "Hold") "needed" (YB K a) E AB (AH BF)) (BP K (AE (BK K) AR BF) 2))) (aK2 K a E E) BR,CL (OX<|BB AY<|B7 (DJ K) (AH AR)) (AG 4) (aK3 K a E E),AV<|tC<|.bl true])
example:aL:=([4,5],[AO (AM (a "Plank") "read" (KI K a) E AJ (AH AY)) (AG 4),AV<|tC<|.bl false,BH (HV (A7<|AE (DE K) (AE (BK K) BF BS) (IF AR<|B9<|BB AY BS)) (E6 K<|B7 (MG K) (BB (AE (BK K) BF BS) (tC<|.ty "bool")))) (aL1 K a E E) BR,CL (CN<|AH<|B7 (DJ K) (AH BF)) (AG 5) (aL2 K a E E),CL (CN<|AH<|AM (a "Layout") "blocks" (MN K a) E AB BC) (AG 3) (AF (aL0 K a E E) (aL3 K a E E)),AV<|tC<|.bl true])
example:yL:=([0,5,6],[AO IX (AG 2),AO (AM (a "Plank") "read" (KI K a) E AJ (AH AY)) (AG 4),FL AR (B9<|BB AY BS) (AE (BK K) BF BS),BH (A7<|AE FY (AE (BK K) BF BS) (tC .non)) (yL2 K a E E) BR,CL (CN<|AH<|B7 (DJ K) (AH BF)) (AG 5) (yL3 K a E E),CL (CN<|AH<|AM (a "Layout") "blocks" (MN K a) E AB BC) (AG 3) (AF (yL1 K a E E) (yL4 K a E E)),AV AR])
example:yU:=([0,1,2,3,4,5,6,7,8,9,10],[AO (AM (a "Layout") "counts" (HH K a) E AJ BC) (AG 3),AO (BP K AY 1) (AG 4),AO (BP K AY 2) (AG 5),C9 K AB (BE (LN K a) E (BB AR<|BZ (CN<|AH<|BP K AY 0) (AG 0) CP (AM (a "Layout") "name_at" (G1 K a) (λ_=>E0) AJ (AH AB)) 1 [1])) "name_values",C9 K AB (BE (LN K a) E (BB AR<|BZ (CN<|AH BF) (AG 0) CP (AM (a "Layout") "record_at" (GH K a) (λ_=>E0) AJ (AH AB)) 1 [1])) "record_values",C9 K AB (BE (LN K a) E (BB AR<|BZ (CN<|AH BS) (AG 0) CP (AM (a "Layout") "piece_at" (N0 K a) (λ_=>E0) AJ (AH AB)) 1 [1])) "piece_values",C9 K AB (BE (LN K a) E (BB AR<|BZ (CN<|AH BF) (AG 0) CP (AM (a "Layout") "record_mark" (IH K a) (λ_=>E0) AJ (AH AB)) 1 [1])) "record_marks",C9 K AB (BE (LN K a) E (BB AR<|BZ (CN<|AH BS) (AG 0) CP (AM (a "Layout") "piece_mark" (HG K a) (λ_=>E0) AJ (AH AB)) 1 [1])) "piece_marks",C9 K AB (BE (Q6 K a) E (BB BF<|BZ (C4 K<|AT K AB "name_values") (AG 0) (A7<|AE FY AB<|tC .non) (BP K AB 1) 1 [])) "leads",C9 K AB (BE (Q6 K a) E (BB BS<|BE (T8 K a) E (AH<|AT K AB "record_values"))) "namings",C9 K AB (BE (Q6 K a) E (BB BS<|BE (T8 K a) E (AH<|AM (a "View") "records_led_to" (YU K a) E AB BC))) "reached"])
example:yV:=([0,1,2,3,4,5,6],[AO (AM (a "Hold") "newest" (QS K a) E AB (AH AJ)) (AG 4),CB<|AM (a "Hold") "ask_for_changes" (TN K a) E AB (AH AY),AO (B7 (DJ K) (AH<|AT K AB "made")) (AG 5),CB<|D2 K "list" EE (AT K AB "made") (AH<|GD (a "Change") (X7 K a) E (CO AJ AR<|BE (X8 K a) E (BB AY BF))),CB<|D2 K "list" EE (AE (BK K) (AT K AB "made_in") (BP K AJ 0)) (AH BS),FL (AT K AB "latest") AJ BS,AV BS])
example:yW:=([0,2,3],[AO (AM (a "Hold") "newest" (QS K a) E AB (AH AJ)) (AG 2),AV<|AE (BK K) (AM (a "Plank") "read" (KI K a) E (AT K AB "ground") (AH<|BP K AJ 0)) (BP K AJ 1),BH (A7<|AE FX AR<|tC .non) (yW1 K a E E) BR,AV<|AT K (AE (BK K) (AT K AB "made") AR) "value"])
example:yX:=([0,1,2],[C9 K AB AJ "plan",C9 K AB (GD (a "Hold") (TM K a) E (AH AR)) "book",C9 K AB JY "taken_out"])
example:yY:=([0],[AV (AM (a "Hold") "write" (YG K a) E (AT K AB "book") (AH AJ))])
example:aM:=([0,1,2,3,4],[AO (BZ (CN<|AH<|BP K (AM (a "Layout") "counts" (HH K a) E AB BC) 1) (AG 0) CP (AM (a "Layout") "record_mark" (IH K a) (λ_=>E0) AJ (AH AB)) 1 [0]) (AG 6),AO (BE (RA K a) E (CU (B7 (DJ K) (AH DC)) AJ DC (tC<|.bl true))) (AG 7),AO (BE (EY K a) E (A9 AJ<|A9 AR<|CU AY (AE (BK K) DC D4) CD (BJ BC))) (AG 8),AO (BE (EY K a) E (A9 AJ<|A9 AR<|CU AY (AM (a "Layout") "record_at" (GH K a) E AB (AH D4)) (B9<|BB CD<|B9 BC) (BJ<|AH GP))) (AG 9),CB<|BE (RB K a) E (A9 AB<|A9 AJ<|A9 AR<|A9 AY<|CU BF BS D4 EM)])
example:aO:=([0,1,2,3,10,11,14,15,17,18],[AO (AM (a "Layout") "name_at" (G1 K a) E AB (AH<|BE (UG K a) E (CO AB AJ DC))) (AG 8),AO (BP K (E7 AJ GP) 1) (AG 9),AO (AM (a "Layout") "record_at" (GH K a) E AB (AH EM)) (AG 10),AO (E7 AJ EL) (JC K 2<|FZ (AG 11) (FZ (AG 12) JD)),AO (BE (EY K a) E (A9 AJ<|A9 AR<|CU AY EL (B9<|BB (AE (BN K) JJ CD) FO) (BJ BC))) (AG 13),AO (BE (RB K a) E (A9 AB<|A9 AJ<|A9 AR<|A9 AY<|CU BF D4 EM LR)) (AG 14),FL BF DC<|BE (EY K a) E (A9 AJ<|A9 AR<|CU AY GP (tC .non) (BJ<|AH UJ)),CB<|BE (EY K a) E (A9 AJ<|A9 AR<|CU AY EL (B9<|BB JJ FO) (BJ<|AH<|E7 BF DC)),BH (A7<|AE (CF K) BS OC) (AF (aO6 K a E E) (aO7 K a E E)) BR,OW,BH (A7<|AE (DE K) BS G4) (AF (aO4 K a E E) (AF (aO5 K a E E) (AF (aO8 K a E E) (aO9 K a E E)))) BR,FL BF DC<|BE (EY K a) E (A9 AJ<|A9 AR<|CU AY GP (tC .non) (BJ BC)),CB<|BE (EY K a) E (A9 AJ<|A9 AR<|CU AY EL (B9<|BB (AE KG JJ CD) FO) (BJ<|AH<|E7 BF DC)),OW,BH (A7<|AE IB JJ CD) (AF (aO12 K a E E) (aO13 K a E E)) BR,AO (BE (EY K a) E (A9 AJ<|A9 AR<|CU AY EL (tC .non) (BJ<|AH<|E7 BF DC))) (AG 15),CB<|BE (EY K a) E (A9 AJ<|A9 AR<|CU AY (AM (a "Layout") "piece_mark" (HG K a) E AB (AH zju)) DI (BJ<|AH RE)),CL (C4 K FO) (AG 16) (aO16 K a E E),CB<|BE (EY K a) E (A9 AJ<|A9 AR<|CU AY (AM (a "Layout") "record_mark" (IH K a) E AB (AH EM)) DI (BJ<|AH RE))])
example:aP:=([0,1,6,7,8,9,10,11],[AO (AM (a "Layout") "record_at" (GH K a) E AB (AH<|BP K (E7 AJ<|AM (a "Layout") "name_at" (G1 K a) E AB (AH<|BE (UG K a) E (CO AB AJ BS))) 1)) (AG 7),AO (E7 AJ D4) (JC K 2<|FZ (AG 8) (FZ (AG 9) JD)),AO (BE (UF K a) E (AH DC)) (AG 10),AO (BE (EY K a) E (A9 AJ<|A9 AR<|CU AY D4 (B9<|BB GP<|AE (BN K) (HY (IC K) EM IV (GE EL)) (HY (IC K) EM (GE<|AE (BN K) EL CD) IV)) (BJ BC))) (AG 11),CB<|BE (EY K a) E (A9 AJ<|A9 AR<|CU AY (AM (a "Layout") "piece_mark" (HG K a) E AB (AH<|AE (BK K) EM EL)) DI (BJ<|AH JJ)),OW,BH (A7<|AE (CF K) BF RD) (AF (aP2 K a E E) (AF (aP3 K a E E) (AF (aP4 K a E E) (aP5 K a E E)))) BR,AO (BZ (CN<|AH<|BP K (AM (a "Layout") "counts" (HH K a) E AB BC) 2) (AG 0) CP (AM (a "Layout") "piece_mark" (HG K a) (λ_=>E0) AJ (AH AB)) 1 [0]) (AG 12),AO (BE (RA K a) E (CU (B7 (DJ K) (AH FO)) AJ FO (tC<|.bl true))) (AG 13),AO (BE (EY K a) E (A9 AJ<|A9 AR<|CU AY (AE (BK K) FO LR) CD (BJ BC))) (AG 14),AO (BE (EY K a) E (A9 AJ<|A9 AR<|CU AY (AM (a "Layout") "piece_at" (N0 K a) E AB (AH LR)) (BE (UE K a) E (AH DC)) (BJ<|AH UJ))) (AG 15),CB<|BE (EY K a) E (A9 AJ<|A9 AR<|CU AY D4 (B9<|BB GP<|AE (BN K) EM (B9<|AH LR)) (BJ<|AH RE))])
example:Aj:=([2,3],[AV AY,BH (A7<|AE (QE K) (AM (a "Hold") "in_hand" (N4 K a) E AB (AH BF)) AR) (Aj0 K a E E) BR,CL (FM K<|AH AJ) (JC K 2<|FZ (AG 3) (FZ (AG 4) JD)) (Aj1 K a E E),GA (a "NoRoom") E (AH<|tC<|.str "nothing of what is to be taken is free")])
example:aQ:=([0],[AV (BZ (CN<|AH<|BP K (AM (a "Layout") "counts" (HH K a) E (AT K AB "plan") BC) 0) (AG 0) CP (AM (a "Hold") "in_hand" (N4 K a) (λ_=>E0) (AT K AJ "book") (AH<|AM (a "Layout") "name_at" (G1 K a) (λ_=>E0) (AT K AJ "plan") (AH AB))) 1 [0])])
example:aR:=([0],[AV (AM (a "Hold") "in_hand" (N4 K a) E (AT K AB "book") (AH<|AM (a "Layout") "record_at" (GH K a) E (AT K AB "plan") (AH AJ)))])
example:aT:=([0,2,3],[AO (BJ<|AH BF) (AG 5),CB<|D2 K "list" EE BS<|AH<|E7 (AT K AB "taken_out") AR,BH (A7<|JA AR<|AT K AB "taken_out") (aT1 K a E E) BR,AV<|AM (a "Hold") "change" (GK K a) E (AT K AB "book") (CO (AM (a "Layout") "name_at" (G1 K a) E (AT K AB "plan") (AH AJ)) (B9<|BB AR AY) BS)])
example:Aq:=([2,3],[AV (tC<|.bl false),BH (HV (A7<|AE (DE K) (AM (a "Hold") "in_hand" (N4 K a) E AB (AH<|BP K BS 0)) (E7 AJ<|BP K BS 0)) (A7<|AE (DE K) (AM (a "Hold") "newest" (QS K a) E AB (AH<|BP K BS 0)) (E7 AR<|BP K BS 0))) (Aq0 K a E E) BR,CL (C4 K<|HY (IC K) AY (GE BF) IV) (AG 5) (Aq1 K a E E),AV<|tC<|.bl true])
example:aV:=([0,1,11,12,13,15,16],[AO (BJ BC) (AG 7),AO (BJ BC) (AG 8),CB<|D2 K "list" EE BF<|AH<|tC<|.bl false,BH (A7<|AE (CF K) EM (B7 (DJ K) (AH BF))) (aV2 K a E E) BR,AO (BZ (C4 K<|BP K (AE (BK K) AY EM) 2) (AG 0) (E4<|E6 K<|AE (BK K) AJ AB) AB 1 [4]) (AG 10),AO (tC<|.bl true) (NI BF EM NM),CB<|D2 K "list" EE D4<|AH EM,FL BS (BP K (AE (BK K) AY EM) 0) (BP K (AE (BK K) AY EM) 1),CB<|D2 K "list" EE GP<|AH<|B9<|BB EM<|BP K EL 0,BH (A7<|AE (CF K) EL (BJ BC)) (AF (aV5 K a E E) (AF (aV6 K a E E) (aV7 K a E E))) (aV8 K a E E),BH (JU (E4<|E6 K<|AE (BK K) BF EM) (A7<|AE (CF K) (BP K (BP K (AE (BK K) AY EM) 0) 0) DC)) (AF (aV4 K a E E) (aV9 K a E E)) BR,CL (CN<|AH<|B7 (DJ K) (AH AY)) (AG 9) (AF (aV3 K a E E) (aV10 K a E E)),AO (AM (a "Plank") "writings" (NV K a) E AJ BC) (AG 11),AO (AM (a "Store") "write" (UC K a) E AR (AH DC)) (AG 12),AV<|tC<|.bl false,BH (HV (E4<|E6 K<|B7 (MG K) (BB FO<|tC<|.ty "tuple")) (HV (A7<|AE (DE K) FO (B9<|BB D4 GP)) (A7<|AE (DE K) (AM (a "Plank") "writings" (NV K a) E AJ BC) (AE (BN K) JJ CD)))) (aV14 K a E E) BR,AV<|BE (ZF K a) E (CO AB AJ BS)])
example:Bv:=([0,1],[AO (GD (a "View") (Q8 K a) E (BB AB AJ)) (AG 2),AV<|AE (BN K) (BE (UB K a) E (AH AR)) (BE (Y1 K a) E (AH AR))])
example:aW:=([0],[AV (AE (CF K) (B7 (DJ K) (AH<|BE (UB K a) E (AH<|GD (a "View") (Q8 K a) E (BB AB AJ)))) DI)])
example:aX:=([0,1],[AO (BZ (CN<|AH<|BP K (AM (a "Layout") "counts" (HH K a) E AB BC) 0) (AG 0) CP (AM (a "Layout") "name_at" (G1 K a) (λ_=>E0) AJ (AH AB)) 1 [0]) (AG 2),AV<|BE (N5 K a) E (CO AJ AR<|B9<|AH<|tC .non)])
example:aY:=([0,1],[AO (BZ (CN<|AH<|BP K (AM (a "Layout") "counts" (HH K a) E AB BC) 1) (AG 0) CP (AM (a "Layout") "record_mark" (IH K a) (λ_=>E0) AJ (AH AB)) 1 [0]) (AG 2),AV<|BE (N5 K a) E (CO AJ AR<|B9<|BB (tC .non) DI)])
example:aZ:=([0,1],[AO (BZ (CN<|AH<|BP K (AM (a "Layout") "counts" (HH K a) E AB BC) 2) (AG 0) CP (AM (a "Layout") "piece_mark" (HG K a) (λ_=>E0) AJ (AH AB)) 1 [0]) (AG 2),AV<|BE (N5 K a) E (CO AJ AR<|B9<|BB (tC .non) DI)])
example:a0:=([0],[AV (B7 (SS K) (AH<|BZ (C4 K<|AM (a "Store") "name_cells" (QX K a) E AB BC) (AG 0) (A7<|AE FY AB<|tC .non) (BP K AB 0) 1 []))])
example:Cg:=([2,3],[AV AR,BH (JU (A7<|AE FY AY<|tC .non) (A7<|AE (CF K) (BP K AY 0) AJ)) (Cg0 K a E E) BR,CL (FM K<|AH<|AM (a "Store") "name_cells" (QX K a) E AB BC) (JC K 2<|FZ (AG 2) (FZ (AG 3) JD)) (Cg1 K a E E),AV<|tC .non])
example:Ck:=([0,1],[AO (AM (a "Store") "standing" (LH K a) E AB (AH AJ)) (AG 4),AV<|AM (a "Hold") "change" (GK K a) E (AT K AB "book") (CO (AM (a "Layout") "record_at" (GH K a) E (AT K AB "plan") (AH AJ)) (B9<|BB (AE (BN K) (BP K BF 0) AR) (BP K BF 1)) AY)])
example:bA:=([0],[AV (AM (a "Hold") "change" (GK K a) E (AT K AB "book") (CO (AM (a "Layout") "record_at" (GH K a) E (AT K AB "plan") (AH AJ)) (B9<|BB (BP K (AM (a "Store") "standing" (LH K a) E AB (AH AJ)) 0) AR) AY))])
example:Cw:=([0,1,2,4,5],[AO (BP K (AM (a "Store") "standing" (LH K a) E AB (AH AJ)) 1) (AG 3),AO (AM (a "Hold") "change" (GK K a) E (AT K AB "book") (CO (AM (a "Layout") "record_at" (GH K a) E (AT K AB "plan") (AH AJ)) (tC .non) (BJ<|AH AR))) (AG 4),AO (BJ<|AH BF) (AG 5),CB<|D2 K "list" EE BS<|AH<|AM (a "Hold") "change" (GK K a) E (AT K AB "book") (CO DC DI<|BJ<|AH BF),CL (C4 K<|AE (BN K) (BZ (C4 K AY) (AG 0) CP (AM (a "Layout") "piece_mark" (HG K a) (λ_=>E0) (AT K AJ "plan") (AH AB)) 1 [0]) (BJ<|AH<|AM (a "Layout") "record_mark" (IH K a) E (AT K AB "plan") (AH AJ))) (AG 6) (Cw3 K a E E),AV BS])
example:bB:=([1,2,3,5,6,7],[GA (a "NotSound") E (AH<|tC<|.str "the plank has faults"),BH (E4<|E6 K<|BE (Y3 K a) E (BB AB AJ)) (bB0 K a E E) BR,AO (BE (Y2 K a) E (BB AB AJ)) (AG 2),AO IX<|AG 3,CB<|D2 K "dict" W9 AY<|AH<|BE (Y4 K a) E (CO AB AJ BF),CL (C4 K AR) (AG 4) (bB4 K a E E),CB<|BE (Y5 K a) E (BB AJ AY),AV AR])
example:bC:=([1,3],[GA (a "NoName") E (AH<|tC<|.str "the text is no name"),BH (E4<|E6 K<|B7 (NO K) (AH<|BZ (C4 K AR) (AG 0) CP (BE (YK K a) (λ_=>E0) (AH AB)) 1 [])) (bC0 K a E E) BR,GA (a "Twice") E (AH<|tC<|.str "the new name stands already"),BH (A7<|AE FY (AM (a "Store") "cell_of" (QY K a) E AB (AH AJ)) (tC .non)) (bC2 K a E E) BR])
example:Dc:=([0,2,3],[AO (AM (a "Store") "cell_of" (QY K a) E AB (AH AJ)) (AG 2),GA (a "NoName") E (AH<|tC<|.str "no such name stands"),BH (A7<|AE FX AR<|tC .non) (Dc1 K a E E) BR,AV<|BP K (AE (BK K) (AM (a "Store") "name_cells" (QX K a) E AB BC) AR) 1])
example:bD:=([0,1,2],[AO (AM (a "Hold") "change" (GK K a) E (AT K AB "book") (CO (AM (a "Layout") "name_at" (G1 K a) E (AT K AB "plan") (AH<|AM (a "Store") "cell_of" (QY K a) E AB (AH AJ))) (tC .non) AR)) (AG 3),FL (AT K AB "taken_out") AJ AY,AV AY])
example:Dl:=([0,4,5],[AO (BJ BC) (AG 3),AO (IF AR<|AM (a "Layout") "name_at" (G1 K a) E AB (AH BF)) (AG 5),CB<|D2 K "list" EE AY<|AH<|BP K BS 0,BH (A7<|AE FY BS<|tC .non) (Dl2 K a E E) BR,CL (CN<|AH<|BP K (AM (a "Layout") "counts" (HH K a) E AB BC) 0) (AG 4) (AF (Dl1 K a E E) (Dl3 K a E E)),AV<|AE (CF K) (AM (a "Store") "names" (YM K a) E AJ BC) (B7 (SS K) (AH AY))])
example:bE:=([0,1,2,3,4,5],[CB (AM (a "Store") "ask_for_new_name" (TY K a) E AB (BB AJ<|BJ<|AH AJ)),AO (BE (YH K a) E (BB (AT K AB "plan") (AT K AB "book"))) (AG 2),AO (BE (TU K a) E (BB (AT K AB "plan") (AT K AB "book"))) (AG 3),AO (AM (a "Hold") "change" (GK K a) E (AT K AB "book") (CO (AM (a "Layout") "record_mark" (IH K a) E (AT K AB "plan") (AH AR)) CD (BJ BC))) (AG 4),AO (AM (a "Hold") "change" (GK K a) E (AT K AB "book") (CO (AM (a "Layout") "record_at" (GH K a) E (AT K AB "plan") (AH AR)) (B9<|BB CD<|B9 BC) (BJ<|AH BF))) (AG 5),AV<|BJ<|CO BF BS<|AM (a "Store") "fill_cell" (T2 K a) E AB (CU AY AJ AR BS)])
example:bF:=([0,1,2,3,4],[CB (AM (a "Store") "ask_for_new_name" (TY K a) E AB (BB AR<|BJ<|BB AJ AR)),AO (AM (a "Store") "record_of" (MP K a) E AB (AH AJ)) (AG 3),AO (BE (TU K a) E (BB (AT K AB "plan") (AT K AB "book"))) (AG 4),AO (AM (a "Store") "recount" (QZ K a) E AB (CO AY CD<|BJ BC)) (AG 5),AV<|BJ<|BB BS<|AM (a "Store") "fill_cell" (T2 K a) E AB (CU BF AR AY BS)])
example:Eb:=([0,1,3,4],[AO (AM (a "Store") "record_of" (MP K a) E AB (AH AJ)) (AG 2),AO (AM (a "Store") "empty_cell" (T6 K a) E AB (BB AJ<|BJ BC)) (AG 3),AV<|BJ<|BB AY<|AM (a "Store") "recount" (QZ K a) E AB (CO AR (L4 MJ CD) (BJ<|AH AY)),BH (A7<|AE IB (BP K (AM (a "Store") "standing" (LH K a) E AB (AH AR)) 0) CD) (Eb2 K a E E) BR,AV<|AE (BN K) (BJ<|AH AY) (AM (a "Store") "drop_record" (YN K a) E AB (BB AR AY))])
example:Eh:=([0,2,3,4,5,6],[AO (AM (a "Store") "record_of" (MP K a) E AB (AH AJ)) (AG 3),GA (a "NoPiece") E (AH<|tC<|.str "the text is none of a piece"),BH (E4<|E6 K<|BE (YL K a) E (AH AR)) (Eh1 K a E E) BR,AO (BE (YI K a) E (BB (AT K AB "plan") (AT K AB "book"))) (AG 4),AO (AM (a "Hold") "change" (GK K a) E (AT K AB "book") (CO (AM (a "Layout") "piece_mark" (HG K a) E (AT K AB "plan") (AH BF)) CD (BJ BC))) (AG 5),AO (AM (a "Hold") "change" (GK K a) E (AT K AB "book") (CO (AM (a "Layout") "piece_at" (N0 K a) E (AT K AB "plan") (AH BF)) AR (BJ<|AH BS))) (AG 6),AV<|BJ<|CO BS DC<|AM (a "Store") "regroup" (T5 K a) E AB (CO AY (AE (BN K) (BP K (AM (a "Store") "standing" (LH K a) E AB (AH AY)) 1) (B9<|AH BF)) (BJ<|AH DC))])
example:El:=([0,1,3,4,5],[AO (AM (a "Store") "record_of" (MP K a) E AB (AH AJ)) (AG 3),AO (BP K (AM (a "Store") "standing" (LH K a) E AB (AH AY)) 1) (AG 4),GA (a "NoPiece") E (AH<|tC<|.str "the record has no piece at that place"),BH (E4<|A7<|FW E5 FU DI AR<|B7 (DJ K) (AH BF)) (El2 K a E E) BR,AO (AM (a "Store") "regroup" (T5 K a) E AB (CO AY (AE (BN K) (HY (IC K) BF IV (GE AR)) (HY (IC K) BF (GE<|AE (BN K) AR CD) IV)) (BJ BC))) (AG 5),AV<|BJ<|BB BS<|AM (a "Hold") "change" (GK K a) E (AT K AB "book") (CO (AM (a "Layout") "piece_mark" (HG K a) E (AT K AB "plan") (AH<|AE (BK K) BF AR)) DI (BJ<|AH BS))])
example:Em:=([0,1],[CB (BE (Y6 K a) E (BB AB AJ)),AV<|GD (a "Store") (N7 K a) E (BB AB AJ)])
example:Ew:=([0,1,2,3],[AO (AM (a "Store") "link" (T7 K a) E AB (BB AJ AR)) (AG 3),AO (AM (a "Store") "record_of" (MP K a) E AB (AH AJ)) (AG 4),AO (AM (a "Store") "empty_cell" (T6 K a) E AB (BB AJ<|BJ<|AH<|BP K AY 1)) (AG 5),AV<|AE (BN K) AY (BJ<|BB BS<|AM (a "Store") "recount" (QZ K a) E AB (CO BF (L4 MJ CD) (BJ<|AH BS)))])
example:bK:=([1,6,7,8,10,11],[AV (BE (Y7 K a) E (BB AB AJ)),BH (A7<|AE (CF K) (AE CS AY G4) DI) (bK0 K a E E) BR,CB<|AM (a "Store") "write" (UC K a) E AR (AH BS),CL (CN<|AH<|AM (a "Layout") "blocks" (MN K a) E AB BC) (AG 5) (bK2 K a E E),VC,BH (A7<|AE (CF K) (AM (a "Hold") "waiting" (YA K a) E (AM (a "Store") "hold" (TX K a) E AR BC) BC) (BJ BC)) (bK4 K a E E) BR,CL (CN<|AH<|AE (FV K) (DB 300) (AE KG (AE CS AY G4) CD)) (AG 4) (AF (bK3 K a E E) (bK5 K a E E)),AO (AM (a "Plank") "writings" (NV K a) E AJ BC) (AG 6),AO (GD (a "Store") (N7 K a) E (BB AB AJ)) (AG 7),AV<|tC .non,BH (A7<|AE (DE K) (AM (a "Plank") "writings" (NV K a) E AJ BC) DC) (bK9 K a E E) BR,AV D4])
example:bN:=([0,14,15],[AO (tC .non) (AG 5),AO (AM (a "Store") "make" (YO K a) E1 AB (AH AR)) (AG 5),AO (AM (a "Store") "link" (T7 K a) E1 AB (BB AR AY)) (AG 5),AO (AM (a "Store") "cut" (YQ K a) E1 AB (AH AR)) (AG 5),AO (AM (a "Store") "put" (YR K a) E1 AB (BB AR<|BE (UE K a) E1 (AH BF))) (AG 5),AO (AM (a "Store") "take" (YS K a) E1 AB (BB AR<|BE (UF K a) E1 (AH BF))) (AG 5),AO (AM (a "Store") "move" (YT K a) E1 AB (BB AR AY)) (AG 5),BH (A7<|AE (CF K) AJ RD) (bN5 K a E E1) (bN6 K a E E1),BH (A7<|AE FU AJ RD) (bN4 K a E E1) (bN7 K a E E1),BH (A7<|AE (CF K) AJ G4) (bN3 K a E E1) (bN8 K a E E1),BH (A7<|AE (CF K) AJ OB) (bN2 K a E E1) (bN9 K a E E1),BH (A7<|AE FU AJ OB) (bN1 K a E E1) (bN10 K a E E1),AO (tC .non) (AG 5),AO (tC .non) (AG 5),WG (λE1=>(bN11 K a E E1)) (PN (λcls=>W.exmAny K cls [.ref (a "NoName") ,.ref (a "Twice") ]) (bN13 K a E E) (PN (λcls=>W.exmAny K cls [.ref (a "NoPiece") ,.ref (a "NoRoom") ]) (bN12 K a E E) WF)),AV BS])
example:bQ:=([0,1,3,4,6,7,12,14,15],[AO (AE CS EL UI) (AG 12),AO (AE (BK K) JJ (AE CS (AE DA EL UI) MW)) (AG 13),AV<|BE (RC K a) E (A9 AB<|A9 AJ<|A9 AR<|CU D4 GP EM<|AE CS (AE DA EL UI) (AM (a "Layout") "blocks" (MN K a) E AB BC)),BH (A7<|AE (CF K) FO ZL) (bQ2 K a E E) BR,AO (BE (Y9 K a) E (A9 AR<|CU FO LR (AE (BK K) JJ (AE CS (AE DA EL<|DB 45) MW)) (AE DA EL<|DB 225))) (AG 14),AV<|tC<|.bl true,BH (A7<|AE FX UJ<|tC .non) (bQ5 K a E E) BR,AO (B7 (DJ K) (AH D4)) (AG 15),CB<|BE (ZA K a) E (A9 AB<|A9 BF<|CU BS D4 DC LR),CB<|BE (ZB K a) E (A9 AB<|A9 BF<|A9 BS<|A9 D4<|CU DC FO LR<|AE (BK K) JJ (AE CS (AE DA EL<|DB 45) MW)),CB<|BE (ZC K a) E (A9 AB<|A9 BF<|A9 BS<|CU D4 FO LR<|AE DA EL<|DB 225),BH (A7<|AE (SQ K) FO (B9<|CO OB G4 OC)) (bQ9 K a E E) (bQ10 K a E E),BH (A7<|AE FU FO OB) (bQ8 K a E E) (bQ11 K a E E),AV<|tC<|.bl false,BH (E4<|E6 K<|BE (ZD K a) E (CU AY UJ D4 RE)) (bQ13 K a E E) BR,AV<|BE (ZE K a) E (A9 AY<|CU BF BS D4 RE)])
example:bT:=([0,1,2,3,4,5,6,7,8,9,10,26,27],[AO (BE (X6 K a) E (BB AB DI)) (AG 1),AO (GD (a "Layout") (X0 K a) E (CU (AE (BN K) CD (AE CS AJ G4)) (AE (BN K) CD (AE CS (AE DA AJ G4) G4)) (AE (BN K) CD (AE CS (AE DA AJ UI) G4)) (AE (BN K) CD (AE CS (AE DA AJ<|DB 27) sR)))) (AG 2),AO (AM (a "Layout") "plank" (X3 K a) E AR BC) (AG 3),AO (GD (a "Store") (N7 K a) E (BB AR AY)) (AG 4),AO (BE (Y8 K a) E (AH<|AE DA AJ<|DB 108)) (AG 5),AO IX<|AG 6,AO IX<|AG 7,AO JY<|AG 8,AO (BJ BC) (AG 9),AO (BJ BC) (AG 10),AO IX<|AG 11,AO (BE (ZH K a) E (CU AR AY BF<|AE DA AJ<|DB 91)) (AG 4),AV<|tC<|.bl false,BH (A7<|AE FX BF<|tC .non) (bT12 K a E E) BR,AO (BE (ZG K a) E (BB AR AY)) (AG 6),AO (B7 (rM K) (AH DC)) (AG 11),AO IX<|AG 7,AO JY<|AG 8,AO (BJ BC) (AG 9),AO (BJ BC) (AG 10),BH (A7<|AE (CF K) (AE CS (AE DA AJ OC) (DB 13)) MW) (AF (bT11 K a E E) (AF (bT13 K a E E) (AF (bT14 K a E E) (AF (bT15 K a E E) (AF (bT16 K a E E) (AF (bT17 K a E E) (AF (bT18 K a E E) (bT19 K a E E)))))))) BR,AO (AM (a "Store") "hold" (TX K a) E BF BC) (AG 12),AV<|tC<|.bl false,BH (E4<|E6 K<|BE (ZK K a) E (A9 AR<|A9 AY<|A9 BF<|A9 FO<|A9 DC<|A9 D4<|A9 GP<|A9 EM<|CU EL JJ AJ BS)) (bT22 K a E E) BR,AV<|tC<|.bl false,BH (E4<|E6 K<|BE (ZI K a) E (CO AR BF DC)) (bT24 K a E E) BR,CL (C4 K<|HY (IC K) AB (GE CD) (GE<|DB 121)) (AG 1) (AF (bT20 K a E E) (AF (bT21 K a E E) (AF (bT23 K a E E) (bT25 K a E E)))),AV<|tC<|.bl true])
end
local macro_rules
 |`(tactic|erw [$l,*])=>do
  let g:=fun (s:String)=>((s.splitOn " ").map fun n=>Lean.mkIdent n.toName).toArray
  let a←(g "zbh zbi zbj zbk zbl zbm zbn zbo zbp zbq zgb zgd zbr zbs zbt zgh zgp zbu zbv zbw zbx zf4 zf2 zf6 zfz zf9 zby zbz zb0 zb1 zb2 zb3 zix zi0 zi3 zb4 zb5 zb6 zb7 zb8 ziu zb9 zca zii zcb zim zij zcc zin zcd zfo zfp XC zfq zfr zfs zft rE zfu zfv rG zgk zgl zgm zgn zce zcf zch zci zcj zcn zcp zco zgv zgu zgw zcq zcr zcl zck zcm zcs zg1 zg2 zg3 zg4 zg5 zg6 zg7 zg8 zg9 zha zhb zhc zhd zhe zhf zhg zhh zhi zhj zhk zhl zhm zct zhs zcu zhv zhy zh1 zh4 zh7 zia zid zeb zec zed zd8 zd7 zis zir ze1 zff zfg zfh zfi zc7 zc6 zfk zfl zif").mapM fun n=>`(Lean.Parser.Tactic.simpLemma|↓$n:term)
  let b←(g "KG CS DA rPw MJ zay Ends.drop start zfw zfx fj kd List.reduceReplicate xp Nat.reduceSub om pz List.getElem?_cons_zero List.getElem?_cons_succ wz Option.join_some List.set_cons_zero List.set_cons_succ V.int.injEq V.ref.injEq V.bl.injEq V.str.injEq uw and_true true_and q1 q2 q3 q4 qL qR reduceCtorEq false_and and_false or_false false_or qF decide_eq_true_eq xc Fi qD eq_self if_true rq if_false ite_true Bool.true_eq_false qC qA Int.reduceToNat Int.reduceLT Int.reduceLE Int.reduceEq Nat.reduceLeDiff bv not_true_eq_false not_false_eq_true").mapM fun n=>`(Lean.Parser.Tactic.simpLemma|$n:term)
  let c<-l.getElems.mapM fun r=>let n:Lean.Term:=⟨r.raw[1]⟩;if s!"{n.raw.getId}".endsWith "_" then `(Lean.Parser.Tactic.simpLemma|↓$n:term) else `(Lean.Parser.Tactic.simpLemma|$n:term)
  `(tactic|simp only [$a,*,$b,*,$c,*])
def nO{H:Hp}{t:Addr}{o:HO}{P:Hp->Prop}(h:H t=none)(k:∀ a,Same H a->a t=some o->P a):P (upd H t o):=k _ (AI h) AD
def GQ{H:Hp}{t:Addr}{o:HO}(h:H t=none):∃ a,upd H t o=a/\Same H a/\a t=some o:={_,rfl,AI h,AD}
section
variable{K:W.Frag}{a:Ad}{vs:tF}{H:Hp}{Q:VK}{E:XK}
local macro_rules
 |`(command|example:($n:ident,$x,*):=$t:term)=>do
  let q:=x.getElems
  let i:=Lean.mkIdent
  let l:Array Lean.Term:=(List.replicate (q[2]!.raw.isNatLit?.getD 0) (Lean.Syntax.mkStrLit "")).toArray
  let a<-`($(q[0]!) $(i `K) $(i `a) $(i `vs) $(i `H) $(i `Q) $(i `E))
  let b<-`($(q[1]!) $(i `K) $(i `a) (fun _=>$(i `E)) (AW $(i `Q)) (start [$l,*] $(i `vs)) $(i `H))
  if q.size=4 then `(command|def $n:ident ($(i `h):ident : $a) : $b := $t) else `(command|def $n:ident : $a → $b := $t)
example:(zvp,X6,ZV,2):=by
 apply u3;intro s ns k [rfl,b,d,q];erw[ZV,ZV1_];refine{_,(.inl {_,b,(η _).symm}),?_};split;rename_i c;refine CI b rfl  ?_ q;unfold QR;simp[(ck.mp c)]
 have:QR ns k=0:=by
  unfold QR;rw[vo,bt (by lia)];rfl
 rw[this]at q;exact q
example:(zvq,XG,ZT,3):=by
 apply u4;intro p J m w [rfl,T,x,y,h1,h2,q];erw[ZT,ZT0_];refine{i0,by lia,(MH (BW m<|oA y rfl) (λi ys c=>Same H c/\∃ g:List _,ys=g.map V.ref/\Paired (λt r=>c t=some (.tup r)) g (bd i<|bd w .non)) {Same.refl _,[],rfl,.nil} (λi ys c hi L d=>?_) (λys c L d M v=>?_))};let[s,g,e,P]:=d
 have fin:∀ (t':Addr) (j:Hp),Same c j->j t'=some _->Same H j/\∃ l:List _,ys++[V.ref t']=l.map _/\Paired (λt r=>j t=some (.tup r)) l (bd _ _):=λt' j A N=>by
  refine{s.trans A,g++[t'],by rw[e,au];rfl,?_};rw[List.replicate_succ'];exact Paired.snoc (Paired.mapP P λt r z=>A _ _ z) N
 refine{by decide,λt O=>.inr ?_}
 have B:Same c (upd c t<|.tup [V.non]):=λb o z=>by rw[AK (BG z O)];exact z
 refine x3 t w _ {rfl,rfl,SqT.of AD,by simp,by lia,by lia,BW _ (by simp;exact oA h2 rfl),λD=>?_,λD u U=>?_};refine fin t _ B ?_;rw[AD,(bh D)];rfl;rw[pH];exact fin u _ (B.trans λb o z=>by rw[AK (BG z U)];exact z) AD;let[s,g,e,P]:=d
 have n:=BG (s _ _ x) v;refine y3 {(by rw[AK n];exact s _ _ x),T.cl,T.nC,by decide,y3 {AD,T.cl,T.nW,KA (by decide),y3 {AD,T.cl,T.nN,KA  (oy (KA  (by decide))),?_}}};rw[HU,HU];refine q M _ (s.free v) {⟨J,AD⟩,{g,by rw[AK n.symm,AD,e],?_},λr Y=>?_,by simpa using y,h2} λb o I hb=>?_;refine Paired.mapP P λt r z=>?_;rw[AK (AZ z (s _ _ x) (by intro z';cases z')),AK<|BG z v];exact z;rw[pq Y,t9];rw[AK hb,AK<|BG (s _ _ I) v];exact s _ _ I
example:(zvr,QJ,uA,1):=by
 apply u5;intro p b w rows n [rfl,T,P,q];let[c,h2,h3]:=P.ls;let[d,h1]:=P.ob;refine y3 {h1,T.cl,T.nC,_,S5 _ _ _,_,.inl {_,SqL.of h2,?_},q};rw[η,h3.length]
example:(zvs,XH,uB,1):=by
 apply u5;intro p b w rows n [rfl,T,P,q];let[c,h1]:=P.ob;exact y3 {h1,T.cl,T.nW,_,rN _ _ _,q}
example:(zvt,NW,ZU,2):=by
 apply u6;intro p d w rows n b [rfl,T,P,q,c];let[e,h2,h3]:=P.ls;let[g,h1]:=P.ob;erw[ZU,ZU1_];split;rename_i h0;refine y3 {h1,T.cl,T.nC,_,S5 _ _ _,_,.inl {_,SqL.of h2,(by rw[η,h3.length])},?_};split;exact{by decide,c (by lia)};exact q h0 (by lia);exact{by decide,c (by lia)}
def Jb(b:Addr)(w n:Int):(pf b w n).lookup ("ask_for_block":Str)=none:=NU _ _ _ (by decide) (by decide) (by decide)
example:(zvu,KI,aD,2):=by
 apply u6;intro p d w rows n b [rfl,T,P,q,e];let[o,h1]:=P.ob;let[r,h2,h3]:=P.ls;erw[aD,aD0_,NW];refine y2 {h1,Jb _ _ _,T,x3 d w _ {⟨n,P⟩,λh0 g=>y3 {h1,T.cl,T.nC,_,S5 _ _ _,?_},e}};obtain⟨i,rfl⟩:∃ i:Nat,b=i:={_,(di h0).symm}
 have c:=ck.mp g;let[t,j,l]:=K7 h3<|ζ c;exact CI (SqL.of h2) rfl (v:=.ref t) (by rw[ρ,j];rfl) {_,.inr<|SqT.of l,q i _ rfl<|ζ c}
example:(zvv,S6,aE,3):=by
 apply u8;intro p g w rows n b v xs [rfl,T,P,y,M,q,A];let[B,h2,h3]:=P.ls;let[D,h1]:=P.ob
 have e:=P.ne;erw[aE,aE0_,aE2_,aE3_,aE4_,NW];refine y2 {h1,Jb _ _ _,T,x3 g w _ {⟨n,P⟩,λh0 I=>{_,.inl ⟨_,y,rfl⟩,y3 {h1,T.cl,T.nW,_,rN _ _ _,?_}},λz=>A<|z.imp id .inl}};obtain⟨i,rfl⟩:∃ i:Nat,b=i:={_,(di h0).symm}
 erw[];split;exact{by decide,A (.inr (.inr (by lia)))}
 have J:xs.length=w:=by lia
 refine{xs,.inl {y,λt l=>?_}}
 have d:=BG h1 l
 have j:=BG h2 l;refine y3 {by rw[AK d];exact h1,T.cl,T.nC,_,S5 _ _ _,(x4 g _ i i {rfl,rfl,by rw[AK j];exact h2,?_,?_})};unfold HC;rw[if_pos (i0),if_pos (by rw[η,h3.length];exact I),bv];refine y3 {by rw[AK e,AK d];exact h1,T.cl,T.nN,_,rO _ _ _,?_};erw[];refine y2 {by rw[AK e,AK d];exact h1,by show 3<1000;decide,(q i rfl (ck.mp I) J _ {⟨D,AD⟩,{B.set i t,?_,?_},λr L=>?_,by rw[f_];exact P.sz,P.sw} λx o ex c=>?_)};rw[AK e.symm,AD,Kf]
 have keep:∀ u r,H u=some (.tup r)->upd (upd (upd H t<|.tup xs) g (.lst<|(B.map V.ref).set i (.ref t))) p (.ins (a "Plank") D (pf g w<|n+1)) u=some _:=λu r s=>by
  rw[AK (AZ s h1 (by intro z;cases z)),AK (AZ s h2 (by intro z;cases z)),AK<|BG s l];exact s
 refine zcx ?_ i<|Paired.mapP h3 keep;rw[AK d.symm,AK j.symm,AD];let z||z:=o_ L
 exact P.wd r z;rw[z];exact J
 have c:x≠p/\x≠g:={λz=>c<|.inl z,λz=>c<|.inr z}
 rw[AK c.1,AK c.2,AK<|BG ex l];exact ex
def MX(b:Addr)(w n:Int):(pf b w n).lookup ("read":Str)=none:=NU _ _ _ (by decide) (by decide) (by decide)
def Jc(b:Addr)(w n:Int):(pf b w n).lookup ("write":Str)=none:=NU _ _ _ (by decide) (by decide) (by decide)
def FQ(h:fs.length<n):(BV f v fs).length<n+1:=cf (O0 f v fs) (oy h)
def SameBut.none{b:Addr}{H c:Hp}{x:Addr}(s:SameBut (· =b) H c)(d:c b≠wx)(h:c x=wx):H x=wx:=by
 cases e:H x with
 |none=>rfl
 |some o =>
  have:x≠b:=λz=>d<|z ▸ h;rw[s _ _ e this]at h;cases h
example:(zvw,X7,tM,4):=by
 apply u5;intro x c d v e [rfl,T,b,q];refine y3 {b,T.cc,T.nP,by decide,y3 {AD,T.cc,T.nV,FQ  (by decide),y3 {AD,T.cc,T.nN,FQ  (FQ  (by decide)),?_}}};rw[HU,HU];exact q
example:(zvx,TM,Z9,2):=by
 apply u7;intro b I cl N w rows n [rfl,T,TP,P,O,q];erw[Z9,Z90_,Z91_,Z92_]
 have e1:upd H b _ b=some (.ins (HI a) N (BV "ground" (.ref I) [])):=AD;refine y3 {O,T.cl,T.nG,by decide,by decide,?_}
 have s1:SameBut _ H (upd H b<|.ins (HI a) N (BV "ground" (.ref I) [])):=λx o e n=>by rw[AK n];exact e
 revert e1 s1;generalize upd H b _=H1;intro e1 s1 m hm
 have U:=s1.none (by rw[e1];intro z;cases z) hm
 have nbm:=BG e1 hm;refine y3 {by rw[AK nbm];exact e1,T.cl,T.nM,FQ  (by decide),?_}
 have J:SameBut _ H (upd (upd H1 m<|.lst []) b (.ins (HI a) N (BV "made" (.ref m) (BV "ground" (.ref I) [])))):=(s1.upd<|.inr U).upd (.inl rfl)
 have e2:upd (upd H1 m<|.lst []) b _ b=some (.ins (HI a) N (BV "made" (.ref m) (BV "ground" (.ref I) []))):=AD
 have m2:upd (upd H1 m<|.lst []) b (.ins (HI a) N (BV "made" (.ref m) (BV "ground" (.ref I) []))) m=some (.lst []):=by rw[AK nbm.symm,AD]
 revert J e2 m2;generalize upd _ b _=H2;intro J e2 m2
 have P2:PlankAt a H2 I cl w rows n:=by
  let[[dx',f1],[ts,f2,f3],r1,r2,r3]:=P;exact{{_,J _ _ f1 (AZ f1 O (NX (by simp[pf])))},{ts,J _ _ f2 (AZ f2 O (by intro z;cases z)),Paired.mapP f3 λt r z=>J _ _ z (AZ z O (by intro z;cases z))},r1,r2,r3}
 let[dp,hp]:=P2.ob;refine y2 {hp,NU _ _ _ (by decide) (by decide) (by decide),x5 I cl w _ n {rfl,TP,P2,i0,by have:=P.sz;lia,?_}};rw[bv];refine MH (BW _<|oA P.sz rfl) (λi ys g=>Same H2 g/\∃ u:List _,ys=u.map V.ref/\u.Nodup/\∀ l∈u,g l=some (.lst [])/\H2 l=none) {Same.refl _,[],rfl,lb,by simp} (λi ys g hi hl Y=>?_) (λys g hl Y A HQ=>?_);let[s,u,ey,nd,al]:=Y;refine{by decide,λl c=>{s.trans<|AI c,u++[l],by rw[ey,au];rfl,(m_.mpr {nd,by simp,λx L y hy e=>by rw[τ]at hy;subst hy e;rw[(al _ L).1]at c;cases c}),λx L=>?_}};let L||L:=bg.mp L
 exact{AI c _ _ (al x L).1,(al x L).2};rw[τ.mp L];exact{AD,s.free c};let[s,u,ey,nd,al]:=Y
 have s3:SameBut (· =b) H (upd g A<|.lst ys):=by
  intro x o e nx
  have e':=s _ _<|J _ _ e nx;rw[AK (BG e' HQ)];exact e'
 have e3:upd g A (.lst ys) b=some (.ins (HI a) N (BV "made" (.ref m) (BV "ground" (.ref I) []))):=by rw[AK (BG (s _ _ e2) HQ)];exact s _ _ e2
 have m3:upd g A (.lst ys) m=some (.lst []):=by rw[AK (BG (s _ _ m2) HQ)];exact s _ _ m2
 have i3:upd g A (.lst ys) A=some (.lst<|u.map V.ref):=by rw[AD,ey]
 have l3:∀ l∈u,upd g A (.lst ys) l=some _/\H l=none/\l≠A/\l≠m:=λl c=>by
  have z:=al l c
  have d:=BG z.1 HQ;exact{by rw[AK d];exact z.1,J.none (by rw[e2];intro z;cases z) z.2,d,λy=>by rw[y,m2]at z;cases z.2}
 have M:=J.none (by rw[e2];intro z;cases z) (s.free HQ);revert s3 e3 m3 i3 l3;generalize upd g A _=H3;refine λs3 e3 m3 i3 l3=>y3 {e3,T.cl,T.nI,FQ  (FQ  (by decide)),λlt A1=>?_}
 have B:=BG AD A1;rw[AK B.symm]at A1;refine y3 {by rw[AK B,AD],T.cl,T.nL,FQ  (FQ  (FQ  (by decide))),λou EB=>?_}
 have D:=BG AD EB;rw[AK D.symm]at EB
 have nl5:=BG AD EB;rw[AK nl5.symm,AK D.symm]at EB;refine y3 {by rw[AK D,AD],T.cl,T.nO,FQ  (FQ  (FQ  (FQ  (by decide)))),?_};rw[zjf];generalize eH:upd _ b _=H5
 have kp:∀ x,x≠b->x≠lt->x≠ou->H5 x=H3 x:=λx d n2 n3=>by rw[<-eH,AK d,AK n3,AK d,AK n2,AK d]
 have kk:∀ x o,H3 x=some o->x≠b->H5 x=some o:=λx o e d=>by rw[kp x d (BG e A1) (BG e EB)];exact e
 have s5:=λx o e d=>kk x o (s3 _ _ e d) d
 have nbx:∀ x xs,H3 x=some (.lst xs)->x≠b:=λx xs e=>AZ e e3 (by intro z;cases z);refine q m A lt ou u H5 U M (s3.none (by rw[e3];intro z;cases z) A1) (s3.none (by rw[e3];intro z;cases z) EB) (λl c=>(l3 l c).2.1) {{{N,by rw[<-eH,AD]},{[],kk _ _ m3<|nbx _ _ m3,.nil},kk _ _ i3<|nbx _ _ i3,λi l e=>?_,nd,{[],?_,λi j=>rfl,ο _},{[],(by rw[<-eH,AK D.symm,AD]),λk=>rfl,lb,by simp},by simp,by simp,by simp,{(BG (s _ _ m2) HQ),(λz=>(l3 _ z).2.2.2 rfl),(λz=>(l3 _ z).2.2.1 rfl),?_,?_,?_},by simp},?_,(by rw[<-hl,ey,η])} s5
 have z:=l3 l<|ι e;exact kk _ _ z.1<|nbx _ _ z.1;rw[<-eH,AK B.symm,AK nl5,AK B.symm,AD];let[ts,z,v]:=P.ls;exact BG z U;let[ts,z,v]:=P.ls;exact BG z M;let[ts,z,v]:=P.ls;exact λy=>by rw[(l3 _ y).2.1]at z;cases z
 let[[dx',f1],[ts,f2,f3],r1,r2,r3]:=P;exact{{_,s5 _ _ f1 (AZ f1 O (NX (by simp[pf])))},{ts,s5 _ _ f2 (AZ f2 O (by intro z;cases z)),Paired.mapP f3 λt r z=>s5 _ _ z (AZ z O (by intro z;cases z))},r1,r2,r3}
example:(zvy,X8,UL,2):=by
 apply u3;intro nl ns o [rfl,u,b,q];cases o with
 |none =>
  erw[UL,UL0_,UL1_];refine{ns,u,oC b rfl,λx o D c d e r m l=>{_,.inl {SqL.of AD,λt g=>q t c _ (((AI d).trans (AI e)).trans (AI g)) AD r (λy=>?_) (b_ l)}}};rw[m y];simp
 |some k =>
  erw[UL,UL1_,UL2_];refine{_,.inl u,λl i=>{by decide,λp v=>.inl ?_}}
  have j:Same H (upd _ p<|.lst [.int k]):=(AI i).trans (AI v)
  have n:upd (upd H l<|.lst<|ns.map V.int) p (.lst [.int k]) l=some (.lst<|ns.map V.int):=by rw[AK (BG AD v),AD]
  have s:upd (upd H l<|.lst<|ns.map V.int) p _ p=some (.lst [.int k]):=AD;revert j n s;refine λj n s=>x4 l p _ _ {rfl,rfl,n,s,BW _ (by simp;exact oA b rfl),λr w=>{r,rfl,ns++[(k:Int)],?_,by simp;exact oG b rfl,λx o D c d e z m A=>{_,.inl {SqL.of AD,λt g=>q t c _ ((((j.trans<|AI w).trans (AI d)).trans (AI e)).trans (AI g)) AD z (λy=>?_) (by simpa using A)}}}};rw[au];exact SqL.of AD;rw[m y];simp
example:(zvz,X9,vX,2):=by
 apply u9;intro A w rows n cs outs l i j [rfl,T,TP,B,c,q,b];let[o,d]:=B.bk.ob;let[r,e]:=B.pk.ob
 have g:∀ {m:Str},¬ m="contents"->¬ m="width"->¬ m="written"->(pf A.cl w n).lookup m=none:=λh1 h2 h3=>NU _ _ _ h1 h2 h3;refine BI c  rfl rfl ?_;erw[];split;rename_i h0;refine y3 {d,T.cl,T.nG,_,QK,y2 {e,g (by decide) (by decide) (by decide),x5 _ _ w _ n {rfl,TP,B.pk,?_}}};erw[];split;exact{by decide,b λz=>by lia};refine BI c  rfl rfl ?_;erw[];split;rename_i h2;refine y3 {d,T.cl,T.nG,_,QK,y2 {e,g (by decide) (by decide) (by decide),x5 _ _ w _ n {rfl,TP,B.pk,?_}}};erw[];split;exact{by decide,b λz=>by lia};exact q {h0,by lia,h2,by lia};exact{by decide,b λz=>by lia};exact{by decide,b λz=>by lia}
example:(zv0,QS,xK,2):=by
 apply u9;intro A w rows n cs outs g i j [rfl,T,TP,B,b,q,l];let[r,c]:=B.bk.ob;let[kvs,d,o,z]:=B.bk.lat;refine y2 {c,DM,x9 A w _ n cs _ g i j {rfl,T,TP,B,b,λh=>(y3 {c,T.cl,T.nL,_,rW,.inr {_,.inl d},_,K8 d b,?_}),l}};rw[o]
 have:=q h;cases e:D6 cs i j with
 |none=>rw[e]at this;exact this
 |some k=>rw[e]at this;exact this
def BookIn.len(B:BookIn C D H A w cs outs):∃ xs,H A.m=some (.lst xs)/\xs.length=cs.length:=by
 let[b,e,p]:=B.made;exact{_,e,by rw[η,p.length]}
example:(zv1,TN,tQ,3):=by
 apply u8;intro A w rows n cs outs nl ns [rfl,T,B,s,q,v];let[J,D]:=B.bk.ob;let[xs,I,o]:=B.bk.len;refine .inl {⟨_,s⟩,(ID  (λi j d=>d=H/\(∃ z,j=[some _,some _,z])/\∀ x∈ns.take i,known cs x) {rfl,⟨_,rfl⟩,by simp} (by intro i j d _ [e,_];exact e ▸ s) (λi x j d l b=>?_) (λj d b=>?_))};let[rfl,[z,rfl],r]:=b;rw[ρ,bc]at l;let[u,g,rfl]:=l
 have bad:¬ known cs u->1<=sizeLine/\E _ _ d:=λh=>{by decide,v {u,ι g,h}}
 erw[tQ0_,tQ1_];split;rename_i h0;refine y3 {D,T.cl,T.nM,_,KJ,_,.inl {_,SqL.of I,o.symm},?_};split;exact bad λz=>by lia
 intro y c;rw[gk,g]at c;let c||c:=bg.mp c
 exact r y c;simp only[Option.toList_some,τ]at c;subst c;exact{h0,by lia};exact bad λz=>by lia
 let[e,[z,L],r]:=b;subst e;refine q λx l=>r x ?_;rw[η,ce];exact l
example:(zv2,YA,tN,1):=by
 apply u6;intro A w rows n cs outs [rfl,T,B,q];let[xs,e,b]:=B.bk.len;let[o,c]:=B.bk.ob;let[r,g,j,z]:=B.bk.out
 have sz:=B.bk.sz;refine y3 {c,T.cl,T.nM,_,KJ,_,.inl {_,SqL.of e,b.symm},i0,by lia,(zd9 (λk=> !outs k) (BW _<|oA sz rfl) (λi s u l=>(y3 {c,T.cl,T.nO,_,QL,_,dI g,?_})) λp d=>(q p _ d (AI d) (by rw[AD];rfl)))};rw[j];exact l
example:(zv3,GK,yV,6):=by
 apply NA;intro A w rows n cs outs M nl v ns i j [rfl,T,TP,B,hp,hs,hl,hc,q,q1,q2];let[xs,hm,hml]:=B.bk.len;let[dx,hb]:=B.bk.ob;refine y2 {hb,DM,x9 A w _ n cs outs M i j {rfl,T,TP,B,hp,λhon=>(y2 {hb,DM,x8 A w rows n cs outs nl ns {rfl,T,B,hs,λhkn=>(y3 {hb,T.cl,T.nM,_,KJ,cs.length,.inl {_,SqL.of hm,hml.symm},(y3 {hb,T.cl,T.nM,_,KJ,.inl {rfl,_,SqL.of hm},x3 nl ns (D6 cs i j) {rfl,hs,hl,λt ks H1 s1 et kr km kl=>(λx L hx hdy ndy=>x5 x L M v t {rfl,T,AD,rfl,?_})}})}),q2 hon}}),q1}};rw[HU]
 have s2:Same H1 (upd (upd H1 L<|.own x) x (.ins (a "Change") L (GG M v t))):=(AI hdy).trans (AI (by rw[AK ndy.symm];exact hx))
 have ex:upd (upd H1 L<|.own x) x (.ins (a "Change") L (GG M v t)) x=some (.ins (a "Change") L (GG M v t)):=AD;revert s2 ex;generalize upd (upd H1 L<|.own x) x (.ins (a "Change") L (GG M v t))=H2;intro s2 ex
 have s:=s1.trans s2;replace et:=s2 _ _ et;let[chs,O,pch]:=B.bk.made
 have HQ:=B.bk.mil;let[kvs,A1,hv,GS]:=B.bk.lat;let[i0,i1,j0,j1]:=hon;let[DZ,EB,hvo,hko]:=B.bk.out;obtain⟨U,rfl⟩:∃ U:Nat,j=U:={j.toNat,(di j0).symm}
 obtain⟨g,rfl⟩:∃ g:Nat,i=g:={i.toNat,(di i0).symm}
 have Y:g<A.ls.length:=by rw[B.nb];exact ck.mp i1
 have el:=ζ Y
 have r:=B.bk.mic g _ el
 have b:=ud Y;revert el r b;generalize A.ls[g]=l;intro el r b
 have ap:=B.bk.ap
 have nml:A.m≠l:=λz=>ap.2.1<|z ▸ b
 have ncl:A.cl≠l:=λz=>ap.2.2.2.2.2<|z ▸ b
 have d:∀ {y:Addr} {o:HO},H2 y=some o->(∀ k,o≠.dT k)->y≠A.lt:=λe h=>AZ e (s _ _ A1) (h _)
 have I:∀ {y:Addr} {o:HO},H2 y=some o->(∀ k,o≠.lst k)->y≠A.m:=λe h=>AZ e (s _ _ O) (h _)
 have J:∀ {y:Addr} {o:HO},H2 y=some o->(∀ k,o≠.lst k)->y≠l:=λe h=>AZ e (s _ _ r) (h _)
 have D:=s _ _ hb
 have ER:=s _ _ hp;refine{_,s _ _ O,χ (show(chs.map V.ref).length<1000 by rw[η];exact oD (cf (ay pch.length) hc) rfl) (by decide),?_}
 have bb:=I D (by intro k z;cases z)
 have bl:=J D (by intro k z;cases z)
 have pm:=I ER (by intro k z;cases z)
 have pl':=J ER (by intro k z;cases z)
 have mt:=d (s _ _ O) (by intro k z;cases z)
 have lt':=d (s _ _ r) (by intro k z;cases z)
 have bln:=rS cs g;refine y3 {by rw[AK bb];exact D,T.cl,T.nI,_,XO,BI (by rw[AK pm];exact ER) (n:=0) rfl rfl (CI (SqL.of (by rw[AK ap.1.symm];exact s _ _ HQ)) (n:=g) (v:=.ref l) rfl (by rw[ρ,el];rfl) {.inl {rfl,_,SqL.of (by rw[AK nml.symm];exact s _ _ r)},{_,by rw[AK nml.symm];exact s _ _ r,χ (show((DG cs g).map λ(k:Nat)=>V.int k).length<1000 by rw[η];lia) (by decide),(y3 {by rw[AK bl,AK bb];exact D,T.cl,T.nL,_,rW,_,pT2 (by rw[AK lt'.symm,AK mt.symm];exact s _ _ A1) (by rw[AK pl',AK pm];exact ER) (oD (cf GS hc) rfl),?_})}})};generalize eH:upd (upd (upd H2 A.m _) l _) A.lt (.dT<|BL kvs [.inl ↑g,.inl ↑U] (.int ↑cs.length))=H5
 have N:∀ y,y≠A.m->y≠l->y≠A.lt->H5 y=H2 y:=λy n1 n2 n3=>by rw[<-eH,AK n3,AK n2,AK n1]
 have s5:SameBut (λy=>y=A.m\/y=l\/y=A.lt) H H5:=λy o e ny=>by
  rw[N y (λz=>ny<|.inl z) (λz=>ny<|.inr<|.inl z) (λz=>ny<|.inr<|.inr z)];exact s _ _ e
 have lo:∀ y,(y=A.m\/y=l\/y=A.lt)->EW (H y):=by
  rintro y (z|z|z)
  ·exact B.loose<|.inl z
  ·exact B.loose<|.inr<|.inr<|.inl<|z ▸ b
  ·exact B.loose<|.inr<|.inr<|.inr<|.inl z
 have hnd:∀ y∈ks,0<=y/\y<cs.length:=λy hy=>by
  let h||[k,e,rfl]:=(km y).mp hy
  ·exact hkn y h
  ·exact{iM rfl,by have:=S8 e;exact ck.mpr this}
 refine q ⟨i0,i1,j0,j1⟩ hkn ks H5 kr km {{{dx,by rw[N _ bb bl (d D (by intro k z;cases z))];exact D},{chs++[x],?_,Paired.snoc (Paired.mapP pch λy c h=>h.sb s5 lo) (x3 L M t {?_,?_,?_})},?_,λk l' e=>?_,B.bk.nd,{BL kvs [.inl ↑g,.inl ↑U] (.int ↑cs.length),(by rw[<-eH,AD]),λp q=>?_,?_},{DZ,?_,hvo,(hko.mono (by simp))},?_,λc hc'=>?_,λk c e=>?_,ap,λk c e j ej=>?_},B.pk.sbL s5 lo ?_,B.nb} (s5.wide λy z=>?_);rw[<-eH,AK mt,AK nml,AD,au];rfl;rw[N x (I ex (by intro k z;cases z)) (J ex (by intro k z;cases z)) (d ex (by intro k z;cases z))];exact ex
 ·rw[N M pm pl' (d ER (by intro k z;cases z))];exact ER
 rw[N t (I et (by intro k z;cases z)) (J et (by intro k z;cases z)) (d et (by intro k z;cases z))];exact et;rw[N _ ap.1.symm (λz=>ap.2.2.1<|z ▸ b) (d (s _ _ HQ) (by intro k z;cases z))];exact s _ _ HQ;rw[zjc];by_cases z:l'=l;subst z
 have ek:k=g:=by
  let[h1,h2]:=ε.mp e;let[h3,h4]:=ε.mp el;exact(Du B.bk.nd).mp (h2.trans h4.symm)
 subst ek;rw[<-eH,AK lt',AD];simp
 have nk:¬ g=k:=λy=>by subst y;rw[el]at e;cases e;exact z rfl
 have hl':=B.bk.mic k l' e;rw[N l' (λy=>ap.2.1<|y ▸ ι e) z (d (s _ _ hl') (by intro k z;cases z))];simp only[bv,if_neg nk];exact s _ _ hl';rw[FT,XJ];by_cases z:p=g/\q=U;let[rfl,rfl]:=z;simp;rw[if_neg (λy=>z (by simpa using y)),if_neg<|λy=>z ⟨y.1.symm,y.2.symm⟩];exact hv p q
 have:=GU kvs [.inl ↑g,.inl ↑U] (.int ↑cs.length);simp;lia;rw[N _ (I (s _ _ EB) (by intro k z;cases z)) (J (s _ _ EB) (by intro k z;cases z)) (d (s _ _ EB) (by intro k z;cases z))];exact s _ _ EB;simp;exact cy hc;let h||h:=bg.mp hc'
 exact B.bk.inn c h;rw[τ.mp h];exact{by rw[bv];exact Y,(show(U:Int).toNat<w by exact ck.mp j1)};let h||h:=dz k cs.length
 rw[ae h]at e;exact B.bk.need k c e;rw[ba h]at e
 have:k-cs.length=0:=by
  rcases me (k-cs.length)with z|z
  ·exact z
  ·rw[bt (by simp;exact z)]at e;cases e
 rw[this]at e;cases e;exact{λy hy=>{(hnd y hy).1,by have:=(hnd y hy).2;lia},kr,(show ks.length<=100 by lia)};let h||h:=dz k cs.length
 rw[ae h]at e;rw[List.take_append_of_le_length (by exact ig h)]at ej;exact B.bk.chn k c e j ej;rw[ba h]at e
 have:k-cs.length=0:=by
  rcases me (k-cs.length)with z|z
  ·exact z
  ·rw[bt (by simp;exact z)]at e;cases e
 have hk:k=cs.length:=by lia
 subst hk;rw[this]at e;cases e;exact(km _).mpr (.inr {j,by simpa using ej,rfl});rintro (z|z|z);exact ap.2.2.2.1 z;exact ncl z;let[ts,e,u]:=B.pk.ls;exact d (s _ _ e) (by intro k z;cases z) z;let z||z||z:=z
 exact .inl z;exact .inr<|.inr<|.inl<|z ▸ b;exact .inr<|.inr<|.inr<|.inl z
def BookIn.at{C D:Addr}{A:BA}{w:Nat}{cs:yE}{outs:tD}{H:Hp}(B:BookIn C D H A w cs outs){k:Nat}{c:Ch}(e:cs[k]? =some c):∃ xs x,H A.m=some (.lst xs)/\xs[k]? =some (.ref x)/\ChAt D H x c:=by
 let[b,h,p]:=B.made;let[x,ex,d]:=K7 p e;exact x2 _ x {h,by rw[ρ,ex];rfl,d}
def zv4(l:wE):AQ l=(l.map λ(k:Nat)=>(k:Int)).map V.int:=by simp[AQ]
def zv5{Q:Addr->Hp->Prop}{E:XK}(T:TB K a)(TP:DL K a)(P:PlankAt a d l i w rows n)
  (q:∀ (A:BA) (g:Hp),A.gp=l->A.cl=i->(∀ x o,d x=some o->x=i\/¬ A.F x)->D8 a g A w rows n [] (λ_=>false)->Same d g->Q A.b g) :
  ∀ x j,d x=none->d j=none->j≠x->TM K a [.ref x,.ref l] (upd (upd d j<|.own x) x (.ins (HI a) j [])) (λv g=>v=.non/\Q x g) E:=λb r J s u=>by
 have B:Same d (upd (upd d r<|.own b) b (.ins (HI a) r [])):=(AI s).trans (AI (by rw[AK u.symm];exact J));refine x7 b l i r w _ n {rfl,T,TP,P.same B,AD,λm mi lt ou ls L M N O U D Y I=>{rfl,(q _ L rfl rfl (λx o e=>?_) Y λy o e=>I _ _ (B _ _ e) (BG e J))}};by_cases z:x=i;exact .inl z;refine .inr ?_
 have c:=B _ _ e;rintro (y|y|y|y|y|y);rw[y,M]at c;cases c;rw[y,N]at c;cases c;rw[D x y]at c;cases c;rw[y,O]at c;cases c;rw[y,U]at c;cases c;exact z y
example:(zv6,N4,yW,3):=by
 apply u9;intro A w rows n cs outs D i j [rfl,T,TP,B,b,q,I];let[Y,c]:=B.bk.ob;let[dp,J]:=B.pk.ob;refine y2 {c,DM,x9 A w _ n cs _ D i j {rfl,T,TP,B,b,λh=>?_,I}}
 have q:=q h;unfold EX at q;cases e:D6 cs i j with
 |none =>
  rw[e]at q;refine y3 {c,T.cl,T.nG,_,QK,y2 {J,MX _ _ _,BI b  rfl rfl (x6 _ _ w _ n i {rfl,TP,B.pk,λg row L l vl d=>?_,λz=>absurd h λy=>by lia})}};subst L
  have r:=AI (o:=.lst row) d;refine BI (r _ _ b)  rfl rfl ?_
  have rl:=B.pk.wd _<|ι l
  have M:j.toNat<row.length:=by omega
  have s:=ζ M;refine CI (SqL.of AD)   (by omega) s (q _ _ ?_ r);rw[show((g:Int)).toNat=g from rfl,l];exact s
 |some k =>
  rw[e]at q;let[N,O,pc]:=B.bk.made
  have u:=ζ<|S8 e;let[x,ex,U,p1,n1,h1,h2,h3]:=K7 pc u;refine y3 {c,T.cl,T.nM,_,KJ,CI (SqL.of O)  (v:=.ref x) rfl (by rw[ρ,ex];rfl) (y3 {h1,T.cc,T.nV,_,rT,q _ _ ?_<|Same.refl _})}
  show(cs[k]?).map _=_;rw[u]
  rfl
example:(zv7,YD,tV,4):=by
 apply U9;intro A w rows n cs outs k c g d [rfl,T,B,J,L,q];let[dx,D]:=B.bk.ob;refine u2 ?_<|B.bk.at J;intro xs cx [M,ex,N];revert N;apply u3;intro dc pl nt [u,O,l];let[DZ,U,Y,v]:=B.bk.out;refine y3 {D,T.cl,T.nM,_,KJ,CI (SqL.of M) rfl ex (y3 {u,T.cc,T.nN,_,rV,.inr {{_,SqT.of l},(pG  (λi r s=>s=H/\(∀ x∈c.nd.take i,(outs x||EJ d x)=true)/\∃ z,r=[some _,some _,some _,z]) {rfl,by simp,_,rfl} (by intro i r s v [e,v];exact e ▸ SqT.of l) (λi x r s b j=>?_) (λr s j=>?_))}})};let[rfl,o,z,rfl]:=j;rw[ρ,bc]at b;let[y,I,rfl]:=b
 have step:(outs y||EJ _ y)=true->∀ x∈c.nd.take _,(outs x||EJ _ x)=true:=λh x b=>by
  rw[gk,I]at b;let b||b:=bg.mp b
  exact o x b
  have:x=y:=by simpa using b
  exact this ▸ h
 refine y3 {D,T.cl,T.nO,_,QL,_,dI U,?_};rw[Y];cases h1:outs y with
 |true =>
  erw[];exact step (by rw[h1];rfl)
 | false =>
  refine{_,dI L,?_};cases h2:(A8 d _).isSome with
  |true =>
   erw[];exact step (by show(outs y||(A8 d _).isSome)=true;rw[h2];simp)
  |false =>
   have e:IG c.nd (λx=>outs x||EJ d x)=some y:=by
    let[hi,e]:=ε.mp I;unfold IG;rw[lw];refine{by show(!(outs y||(A8 d _).isSome))=true;rw[h1,h2];rfl,x2 _ (c.nd.drop<|i+1) {?_,λx b=>by show(!!(outs x||EJ _ x))=true;rw[o x b];rfl}};rw[<-e,<-oz hi,mw]
   rw[e]at q;exact q
 let[e,o,z,ez]:=j;subst e;rw[η,ce]at o
 have e:IG _ (λx=>outs x||EJ _ x)=none:=jw.mpr λx b=>by show ¬ (!(outs x||EJ _ x))=true;rw[o x b];exact ax
 rw[e]at q;exact q
def zv8(s:Pass)(m:Nat)(i c:Hp)(g ol d:Addr):Prop:=∃ (b:vC) (e:uD),SameBut (λy=>y=g\/y=ol\/y=d) i c/\c g=some (.dK b)/\(∀ x:Int,EJ b x=s.gone x)/\b.length<=m/\c ol=some (.lst<|s.out.map λ(k:Nat)=>V.int k) /\
 c d=some (.lst<|e.map V.ref)/\Paired (λx (p:Nat × Int)=>c x=some (.tup [.int p.1,.int p.2])) e s.held
def Jd(kvs:vC)(k x:Int)(v:V):EJ (BL kvs (.inl k) v) x=(EJ kvs x||x==k):=by
 unfold EJ;rw[FT];by_cases e:x=k;subst e;simp;simp[e]
example:(zv9,YE,aB,8):=by
 apply u9;intro A w rows n cs outs b tk r [rfl,T,B,hbl,htk,hkt,q];let[dx,hb]:=B.bk.ob;erw[aB,aB0_,aB1_,aB2_];refine{_,htk,λg hg=>{by decide,λol M=>{by decide,λD N=>?_}}}
 have J:=BG AD M
 have s1:Same H (upd _ D<|.lst []):=((AI hg).trans (AI M)).trans (AI N)
 have O:=BG AD N
 have ngl:=BG (by rw[AK J];exact AD) N
 have eg:upd (upd (upd H g<|.dK r) ol (.lst [])) D (.lst []) g=some (.dK r):=by rw[AK ngl,AK J,AD]
 have eo:upd (upd (upd H g<|.dK r) ol (.lst [])) D (.lst []) ol=some (.lst []):=by rw[AK O,AD]
 have el:upd (upd (upd H g<|.dK r) ol (.lst [])) D _ D=some (.lst []):=AD
 have holH:=(AI hg).free M
 have hhlH:=((AI hg).trans (AI M)).free N;revert s1 eg eo el;generalize upd _ D _=H1;intro s1 eg eo el
 have hil:b<A.ls.length:=by rw[B.nb];exact hbl
 have U:=ζ hil
 have Y:=B.bk.mic b _ U;revert U Y;generalize A.ls[b]=l
 have bln:=rS cs b;refine λU Y=>y3 {s1 _ _ hb,T.cl,T.nI,_,XO,CI (SqL.of<|s1 _ _ B.bk.mil)  (v:=.ref l) rfl (by rw[ρ,U];rfl) (.inl {{_,SqL.of<|s1 _ _ Y},?_})}
 have sz:=B.bk.sz
 have G:∀ {H':Hp},SameBut (λy=>y=g\/y=ol\/y=D) H1 H'->Same H H':=λsb y o e=>sb _ _ (s1 _ _ e) (by
  rintro (z|z|z);rw[z,hg]at e;cases e;rw[z,holH]at e;cases e;rw[z,hhlH]at e;cases e)
 refine ID  (λi σ H'=>zv8 (((DG cs b).take i).foldl (CW cs outs) {[],[],EJ _}) (1000+i) H1 H' g ol D/\∃ z1 z2,σ=[some _,some _,some _,some _,some _,some _,z1,z2])
  {x2 _ [] {SameBut.refl _,eg,λu=>rfl,hkt,eo,el,.nil},_,_,rfl} (by intro i σ H' u [[d,hs,sb,u],u];exact SqL.of<|G sb _ _ Y) (λi x σ H' hx hzz=>?_) (λσ H' hzz=>?_)
 have hi:=(ε.mp hx).1;let[iv,z1,z2,rfl]:=hzz;rw[η]at hi;rw[ρ,bc]at hx;let[k,hk,rfl]:=hx
 have hkc:=XN<|ι hk
 have ec:=ζ hkc;revert ec;generalize cs[k]=c
 have L:=TC (cs:=cs) (outs:=outs) ((DG cs b).take i) {[],[],EJ r}
 have j:=rZ (CW cs outs) {[],[],EJ r} hk;intro ec;revert iv L j;generalize ((DG cs b).take i).foldl (CW cs _) _=s;generalize ((DG cs b).take _).foldl (CW cs _) _=s';intro iv L j;revert iv;apply u2;intro d hs [sb,e1,e2,e3,e4,e5,e6];simp only[kd,de]at L
 have sH:=G sb;let[DZ,ho,hv,u]:=B.bk.out;erw[aB3_,aB4_,aB5_,aB6_,aB7_,aB8_];refine y3 {sH _ _ hb,T.cl,T.nO,_,QL,_,dI<|sH _ _ ho,?_};rw[hv];unfold CW at j;cases h1:outs k with
 |true =>
  rw[h1,vb,if_pos rfl]at j;rw[j];exact x2 _ hs {sb,e1,e2,b_ e3,e4,e5,e6}
 | false =>
  rw[h1,Iz]at j
  have e2k:(A8 d _).isSome=s.gone k:=e2 k;refine{_,dI e1,?_};rw[e2k];cases h2:s.gone k with
  |true =>
   rw[h2]at j;rw[j];exact x2 d hs {sb,e1,e2,b_ e3,e4,e5,e6}
  | false =>
   rw[h2,if_neg ax,ec]at j;refine y2 {sH _ _ hb,DM,U8 A w _ n cs _ k c g _ {rfl,T,(B.same sH),ec,e1,?_}}
   have efn:(λx=>outs x||EJ d x)=λx=>outs x||s.gone x:=by funext x;rw[e2]
   rw[efn];simp only[Option.bind_some]at j;cases h3:IG _ (λx=>outs x||s.gone x)with
   |none =>
    rw[h3]at j;dsimp only [YC];refine{_,pI e1 (by lia),.inl {rfl,_,SqL.of (by rw[AK J.symm];exact e4)},{_,by rw[AK J.symm];exact e4,χ (show(s.out.map λ(k:Nat)=>V.int k).length<1000 by rw[η];lia) (by decide),?_}};rw[j];refine x2 _ hs {?_,by rw[AK J,AD],λx=>by rw[Jd,e2],?_,by rw[AD,au];rfl,by rw[AK O.symm,AK ngl.symm];exact e5,Paired.mapP e6 λx p e=>?_};intro y o e ny;rw[AK λz=>ny<|.inr<|.inl z,AK λz=>ny<|.inl z];exact sb _ _ e ny
    have:=GU d (.inl (k:Int)) (.bl true)
    lia
    rw[AK (AZ e e4 (by intro z;cases z)),AK (AZ e e1 (by intro z;cases z))];exact e
   |some l' =>
    rw[h3]at j;dsimp only at j;dsimp only [YC];rw[if_neg (by intro z;cases z)];refine{.inl {rfl,_,SqL.of e5},by decide,λtp I=>?_}
    have ntl:D≠tp:=BG e5 I;refine{_,by rw[AK ntl];exact e5,χ (show(hs.map V.ref).length<1000 by rw[η,e6.length];lia) (by decide),?_};rw[j]
    have s2:=AI (o:=.tup [.int (k:Int),.int l']) I
    have kp:∀ y,y≠D->y≠tp->upd (upd H' tp<|.tup [.int (k:Int),.int l']) D (.lst<|hs.map V.ref++[.ref tp]) y=H' y:=λy n1 n2=>by rw[AK n1,AK n2]
    refine x2 d (hs++[tp]) {?_,by rw[kp g ngl (BG e1 I)];exact e1,e2,b_ e3,by rw[kp ol O (BG e4 I)];exact e4,by rw[AD,au];rfl,Paired.snoc (Paired.mapP e6 λx p e=>?_) ?_}
    ·intro y o e ny
     have e':=sb _ _ e ny;rw[kp y (λz=>ny<|.inr<|.inr z) (BG e' I)];exact e'
    ·rw[kp x (AZ e e5 (by intro z;cases z)) (BG e I)];exact e
    ·rw[AK ntl.symm,AD]
 let[iv,z1,z2,rfl]:=hzz;rw[η,ce]at iv;erw[aB0_,aB1_,aB2_,aB3_,aB4_,aB5_,aB6_,aB7_,aB8_,aB9_,aB10_];revert iv;apply u2;intro d hs [sb,e1,e2,e3,e4,e5,e6];refine{by decide,λt ht=>?_}
 have s2:=AI (o:=.tup [.ref ol,.ref D]) ht;exact q t ol D _ holH hhlH O ((G sb).trans s2) {AD,s2 _ _ e4,hs,s2 _ _ e5,Paired.mapP e6 λx p e=>s2 _ _ e}
example:(zwa,YF,tY,5):=by
 apply u9;intro A w rows n cs outs b vl row [rfl,T,B,O,U,KQ,q];let[dx,J]:=B.bk.ob;let[DZ,ho,hv,z]:=B.bk.out;refine{_,.inl<|SqL.of U,λL j=>?_}
 have Y:=AI (o:=.lst row) j
 have hil:b<A.ls.length:=by rw[B.nb];exact O
 have d:=ζ hil
 have g:=B.bk.mic b _ d;revert d g;generalize A.ls[b]=l
 have sk:∀ o,Same H (upd H L o):=λo=>AI j;refine λd g=>y3 {Y _ _ J,T.cl,T.nI,_,XO,CI (SqL.of<|Y _ _ B.bk.mil)  (v:=.ref l) rfl (by rw[ρ,d];rfl) (.inl {{_,SqL.of<|Y _ _ g},?_})};refine ID  (λi M N=>N=upd H L (.lst<|((DG cs b).take i).foldl (HF cs outs) row)/\∃ z1,M=[some _,some _,some _,some _,z1])
  ⟨rfl,_,rfl⟩ (by intro i M N z [e,z];rw[e];exact SqL.of<|sk _ _ _ g) (λi x M N hx s=>?_) (λM N s=>?_)
 let[rfl,z1,rfl]:=s;rw[ρ,bc]at hx;let[k,hk,rfl]:=hx
 have hkc:=XN<|ι hk
 have y:=ζ hkc;revert y;generalize cs[k]=c
 have u:=rZ (HF cs outs) row hk
 have CC:=XR (cs:=cs) (outs:=outs) ((DG cs b).take i) row;intro y;revert u CC;generalize ((DG cs b).take i).foldl _ row=r;generalize ((DG cs b).take _).foldl _ _=r'
 have D:=sk<|.lst r;intro u CC;erw[tY1_,tY2_];refine y3 {D _ _ J,T.cl,T.nO,_,QL,_,dI<|D _ _ ho,?_};rw[hv];unfold HF at u;cases h1:outs k with
 |false =>
  rw[h1,if_neg ax]at u;erw[];rw[u]
 |true =>
  rw[h1,if_pos rfl,y]at u;refine u2 ?_<|(B.same D).bk.at y;intro xs cx [hm,ex,dc,pl,nt,I,hc2,hc3]
  have hcell:=(B.bk.inn c<|ι y).2;refine y3 {D _ _ J,T.cl,T.nM,_,KJ,CI (SqL.of hm) rfl ex (y3 {I,T.cc,T.nV,_,rT,(y3 {D _ _ J,T.cl,T.nM,_,KJ,CI (SqL.of hm) rfl ex (y3 {I,T.cc,T.nP,_,zjd,BI hc2  rfl rfl (x4 L r _ _ {rfl,rfl,AD,?_,(by rw[HU,u])})})})})};unfold HC;rw[if_pos (i0),if_pos (by lia),bv]
 let[rfl,z1,rfl]:=s;rw[η,ce];exact q L _ j (sk _) AD
example:(zwb,YG,xM,5):=by
 apply u7;intro A w rows n cs outs b [rfl,T,TP,B,q,qe];let[dp,hg]:=B.pk.ob;let[dx,hb]:=B.bk.ob;refine y3 {hb,T.cl,T.nG,_,QK,y2 {hg,MX _ _ _,x6 _ _ w _ n b {rfl,TP,B.pk,λI row eb er vl hvl=>?_,qe}}};subst eb;let[H1,zz0,s1,ev]:=GQ  hvl
 have hbl:=(ε.mp er).1;rw[zz0];refine y2 {s1 _ _ hb,DM,λe0 he0=>?_}
 have s2:=s1.trans<|AI (o:=.dK []) he0;refine x9 A w _ n cs _ I e0 [] {rfl,T,B.same s2,hbl,AD,by simp,λt ol hl N hol hhl nol s3 told=>?_}
 have EO:=s2.trans s3
 have ev3:=s3 _ _<|AI he0 _ _ ev
 have U:=s2.free hol
 have O:(EJ<|[])=λv=>false:=rfl
 have Y:=s2.free hhl;rw[O]at told;let[ht,J,hs,hh3,hpr]:=told;let[L,fresh,v]:=XV (cs:=cs) (outs:=outs) (b:=I)
 have eW:F5 cs _ I=λx=>outs x||(outcome cs _ (λv=>false) I).out.any _:=rfl
 replace q:=λH' a1 a2 a3=>q I _ t ol hl H' rfl er U Y nol a1 a2 a3;revert J hpr L fresh eW q;generalize outcome cs _ (λv=>false) I=oc;generalize F5 cs _ I=ow;refine λJ hpr L fresh eW q=>BI ht  rfl rfl (.inl {{_,SqL.of J},?_});let[DZ,EB,hvo,hko]:=B.bk.out
 have s:=EO _ _ EB
 have fO:=B.off U
 have nou:=λz=>fO<|.inr<|.inr<|.inr<|.inr<|.inl z;refine ID  (λi σ H'=>(∃ u,H'=upd N A.ou (.dK u)/\(∀ x:Int,(A8 u<|.inl x).isSome=(outs x||(oc.out.take i).any λk=>x==k))/\KeysOk u _)/\∃ z1,σ=[some _,some _,some _,some _,z1])
  {{_,?_,λx=>by rw[hvo];simp,hko},_,rfl} (by intro i σ H' v [[u,e,v],v];rw[e];exact SqL.of (by rw[AK nou];exact J)) (λi x σ H' hx hzz=>?_) (λσ H' hzz=>?_)
 funext y;by_cases e:y=A.ou;subst e;rw[AD];exact s;rw[AK e];let[[u,rfl,hv,hk],z1,rfl]:=hzz;rw[ρ,bc]at hx;let[k,ek,rfl]:=hx
 have hkm:=ι ek
 have hnone:A8 u (.inl k)=none:=by
  have:=hv k;rw[(fresh k hkm).1]at this
  have z:(oc.out.take i).any (λj=>k ==(j:Int))=false:=by
   rw[wq];intro j hj;let[m,hm,e]:=jk hj;rw[de]at hm;rw[Cn]at e;let[hi,e2]:=ε.mp ek
   have:=wk.mp L m i (by lia) hi (by lia);rw[e,e2]at this;simp;exact λz=>ja this<|bh z
  rw[z]at this;exact Option.isSome_eq_false_iff.mp this |> wm.mp
 have hb3:upd N A.ou (.dK u) A.b=some (.ins (HI a) dx (bf A.gp A.m A.mi A.lt A.ou)):=by
  rw[AK (AZ (EO _ _ hb) s (by intro z;cases z))];exact EO _ _ hb
 erw[xM2_];refine y3 {hb3,T.cl,T.nO,_,QL,_,pI AD (by have:=B.bk.sz;have:=hk.len;lia),_,HU,λx=>?_,hk.put (XN (fresh k hkm).2) hnone _}
 have:=Jd u k x<|.bl true;unfold EJ at this;rw[this,hv,gk,ek,um];simp;let[[u,rfl,hv,hk],z1,rfl]:=hzz;rw[η,ce]at hv;replace hv:∀ x:Int,(A8 u _).isSome=ow x:=λx=>by rw[hv,eW]
 have kb:∀ {y:Addr} {o:HO},H y=some o->y≠A.ou->upd N _ (.dK u) y=some o:=λe n=>by rw[AK n];exact EO _ _ e
 have M:SameBut _ H _:=λy o e n=>kb e n
 have B4:D8 a (upd N A.ou<|.dK u) A w rows n cs ow:=by
  have g:∀ x,x=A.ou->EW (H x):=λx e=>e ▸ (ML EB);let[[[dx',b1],[chs,b2,b2'],b3,b4,b5,[kvs,b6,b6'],v,b8,b9,b10,b11,b12],pk,nb]:=B;let[ts,pl1,pl2]:=pk.ls;refine{{{dx',kb b1 (AZ b1 EB (by intro z;cases z))},{chs,kb b2 (AZ b2 EB (by intro z;cases z)),Paired.mapP b2' λx c h=>h.sb M g},kb b3 (AZ b3 EB (by intro z;cases z)),λi l e=>kb (b4 i l e) (AZ (b4 i l e) EB (by intro z;cases z)),b5,{kvs,kb b6 (AZ b6 EB (by intro z;cases z)),b6'},⟨u,AD,hv,hk⟩,b8,b9,b10,b11,b12},pk.sbL M g (AZ pl1 EB (by intro z;cases z)),nb}
 have ev4:upd N A.ou (.dK u) vl=some (.lst row):=by rw[AK (AZ ev3 s (by intro z;cases z))];exact ev3
 have ht4:upd N A.ou (.dK u) t=some (.tup [.ref ol,.ref hl]):=by rw[AK (AZ ht s (by intro z;cases z))];exact ht
 have ho4:upd N A.ou (.dK u) ol=some (.lst<|oc.out.map λ(k:Nat)=>V.int k):=by rw[AK nou];exact J
 have hh4:upd N A.ou (.dK u) hl=some (.lst<|hs.map V.ref):=by rw[AK (AZ hh3 s (by intro z;cases z))];exact hh3
 have hp4:Paired (λx (p:Nat × Int)=>upd N A.ou (.dK u) x=some (.tup [.int p.1,.int p.2])) hs oc.held:=Paired.mapP hpr λx p e=>by rw[AK (AZ e s (by intro z;cases z))];exact e
 revert M B4 ev4 ht4 ho4 hh4 hp4;intro M B4 ev4 ht4 ho4 hh4 hp4;let[dx4,hb4]:=B4.bk.ob;let[dp4,hg4]:=B4.pk.ob;refine y3 {hb4,T.cl,T.nG,_,QK,y2 {hg4,Jc _ _ _,y2 {hb4,DM,x9 A w rows n cs ow I vl row {rfl,T,B4,hbl,ev4,B.pk.wd row<|ι er,λll H5 hll5 s5 ell5=>?_}}}}
 have B5:=B4.same s5;refine x8 A.gp A.cl w rows n I ll (E8 cs ow I row) {rfl,TP,B5.pk,SqL.of ell5,by rw[rY,B.pk.wd row<|ι er];have:=B.pk.sw;exact oA this rfl,λi ei hi hxw H6 P6 sb6=>?_,λz=>?_}
 have ei:=bh ei;subst ei;let[ts5,D,pt5]:=B5.pk.ls;let[dp5,hg5]:=B5.pk.ob
 have ap:=B5.bk.ap
 have gp_b:A.b≠A.gp:=by
  let[d5,hb5]:=B5.bk.ob;exact AZ hb5 hg5 (NX (by simp[bf,pf]))
 have k6:∀ {y:Addr} {o:HO},H5 y=some o->y≠A.gp->y≠A.cl->H6 y=some o:=λe n1 n2=>sb6 _ _ e (by rintro (z|z);exact n1 z;exact n2 z)
 have r:∀ {y:Addr} {o:HO},H5 y=some o->(∀ C d f,o≠.ins C d f)->y≠A.gp:=λe n=>AZ e hg5<|n _ _ _
 have B6:D8 a H6 A w (rows.set I<|E8 cs ow I row) (n+1) cs ow:=by
  let[[b1,b2,b3,b4,b5,b6,b7,b8,b9,b10,b11,b12],pk,nb]:=B5;let[dx',b1]:=b1;let[chs,b2,b2']:=b2;let[kvs,b6,b6']:=b6;let[kvo',b7,b7']:=b7;refine{{{dx',k6 b1 gp_b (AZ b1 D (by intro z;cases z))},{chs,k6 b2 (r b2 (by intro v v v z;cases z)) ap.2.2.2.1.symm,Paired.mapP b2' λx c h=>?_},k6 b3 (r b3 (by intro v v v z;cases z)) ap.2.2.2.2.1.symm,λi l e=>k6 (b4 i l e) (r (b4 i l e) (by intro v v v z;cases z)) (λz=>ap.2.2.2.2.2<|z ▸ ι e),b5,{kvs,k6 b6 (r b6 (by intro v v v z;cases z)) (AZ b6 D (by intro z;cases z)),b6'},{kvo',k6 b7 (r b7 (by intro v v v z;cases z)) (AZ b7 D (by intro z;cases z)),b7'},b8,b9,b10,b11,b12},P6,by rw[nb,f_]};revert h;apply u3;intro dc p1 n1 [h1,h2,h3];exact x3 dc p1 n1 {k6 h1 (AZ h1 hg5 (NX (by simp[GG,pf]))) (AZ h1 D (by intro z;cases z)),k6 h2 (r h2 (by intro v v v z;cases z)) (AZ h2 D (by intro z;cases z)),k6 h3 (r h3 (by intro v v v z;cases z)) (AZ h3 D (by intro z;cases z))}
 have ht5:=s5 _ _ ht4
 have ho5:=s5 _ _ ho4
 have hh5:=s5 _ _ hh4;refine q H6 {k6 ht5 (r ht5 (by intro v v v z;cases z)) (AZ ht5 D (by intro z;cases z)),k6 ho5 (r ho5 (by intro v v v z;cases z)) (λz=>fO<|.inr<|.inr<|.inr<|.inr<|.inr z),hs,k6 hh5 (r hh5 (by intro v v v z;cases z)) (λz=>(B.off Y) (.inr<|.inr<|.inr<|.inr<|.inr z)),Paired.mapP hp4 λx p e=>?_} B6 λy o e ny=>(k6 (s5 _ _<|M _ _ e λz=>ny<|.inl<|.inr<|.inr<|.inr<|.inr<|.inl z) (λz=>ny<|.inr z) (λz=>ny<|.inl<|.inr<|.inr<|.inr<|.inr<|.inr z))
 have e5:=s5 _ _ e;exact k6 e5 (r e5 (by intro v v v z;cases z)) (AZ e5 D (by intro z;cases z));let z||z||z:=z
 lia
 exact absurd (ck.mpr hbl) (rf.mpr z);exact absurd (by rw[rY,B.pk.wd row<|ι er]) z
example:(zwc,X0,uE,5):=by
 apply u6;intro p d n r c w [rfl,T,g,i,j,l,s,u,q];refine y3 {g,T.cl,T.n1,by decide,y3 {AD,T.cl,T.n2,KA (by decide),y3 {AD,T.cl,T.n3,KA  (oy (KA  (by decide))),y3 {AD,T.cl,T.n4,(KA  (oy (KA  (oy (KA  (by decide)))))),?_}}}};rw[HU,HU,HU];exact q _ {⟨d,AD⟩,i,j,l,s,u} λb o e v=>by rw[AK v];exact e
example:(zwd,MM,uH,3):=by
 apply u7;intro p n r c w k b [rfl,T,L,q];let[d,e]:=L.ob
 have:=L.h1
 have:=L.hw;refine y3 {e,T.cl,T.n4,_,NZ,({{by lia,by lia},y3 {e,T.cl,T.n4,_,NZ,?_}})};erw[];exact{by lia,by decide,q}
example:(zwe,G1,wU,2):=by
 apply u6;intro p n r c w k [rfl,T,L,q];let[b,e]:=L.ob;exact y2 {e,BM,x7 p n r c w k 0 ⟨rfl,T,L,q⟩}
example:(zwf,GH,wV,2):=by
 apply u6;intro p n r c w k [rfl,T,L,q];let[b,e]:=L.ob;exact y2 {e,BM,y3 {e,T.cl,T.n1,_,TJ,x7 p n r c w k _ ⟨rfl,T,L,q⟩}}
example:(zwg,N0,wW,2):=by
 apply u6;intro p n r c w k [rfl,T,L,q];let[b,e]:=L.ob;exact y2 {e,BM,y3 {e,T.cl,T.n1,_,TJ,y3 {e,T.cl,T.n2,_,QN,(x7 p n r c w k _ ⟨rfl,T,L,q⟩)}}}
example:(zwh,IH,wX,2):=by
 apply u6;intro p n r c w k [rfl,T,L,q];let[b,e]:=L.ob;exact y2 {e,BM,y2 {e,BM,x5 p n r c w {rfl,T,L,x7 p n r c w k _ ⟨rfl,T,L,q⟩}}}
example:(zwi,HG,wY,2):=by
 apply u6;intro p n r c w k [rfl,T,L,q];let[b,e]:=L.ob;exact y2 {e,BM,y2 {e,BM,x5 p n r c w {rfl,T,L,y3 {e,T.cl,T.n2,_,QN,(x7 p n r c w k _ ⟨rfl,T,L,q⟩)}}}}
example:(zwj,QQ,uG,1):=by
 apply u5;intro p n r c w [rfl,T,L,q];let[b,e]:=L.ob;exact y3 {e,T.cl,T.n1,_,TJ,y3 {e,T.cl,T.n2,_,QN,(y3 ⟨e,T.cl,T.n3,_,XZ,q⟩)}}
example:(zwk,MN,wZ,1):=by
 apply u5;intro p n r c w [rfl,T,L,q];let[b,e]:=L.ob;exact y2 {e,BM,x5 p n r c w {rfl,T,L,y3 {e,T.cl,T.n2,_,QN,(y3 ⟨e,T.cl,T.n3,_,XZ,q⟩)}}}
example:(zwl,HH,uF,1):=by
 apply u5;intro p n r c w [rfl,T,L,q];let[b,e]:=L.ob;let[z,d,g,i,j,l]:=L;refine y3 {e,T.cl,T.n1,_,TJ,y3 {e,T.cl,T.n4,_,NZ,({.inl {i0,by lia},y3 {e,T.cl,T.n2,_,QN,y3 {e,T.cl,T.n4,_,NZ,({.inl {i0,by lia},y3 {e,T.cl,T.n3,_,XZ,y3 {e,T.cl,T.n4,_,NZ,?_}}})}}})}};erw[];exact{.inl {i0,by lia},by decide,q}
example:(zwm,X3,xN,1):=by
 apply u5;intro p n r c w [rfl,T,TP,L,q];let[M,e]:=L.ob
 have s:=L;let[z,N,O,U,u,v]:=L;refine y2 {e,BM,x5 p n r c w {rfl,T,s,y3 {e,T.cl,T.n4,_,NZ,λx d g y i=>?_}}}
 have j:Same H (upd (upd H _<|.own x) x (.ins (a "Plank") d [])):=(AI y).trans (AI (by rw[AK i.symm];exact g));refine x4 x _ _ w {rfl,TP,AD,by lia,u,oA v rfl,λA B D I J=>{rfl,q x A B g (j.free D) I λb o l=>J _ _ (j _ _ l) (BG l g)}}
def zwn(b:i<m)(h:f i=true)(c:∀ j<i,f j=false):D3 f m=i:=by
 unfold D3
 have:(μ m).find? f=some i:=by
  let[d,rfl]:=ie<|show i+1<=m from b;rw[lw];refine{h,x2 (μ i) ((μ d).map (i+1+·)) {?_,λj e=>by rw[c j (ao.mp e)];rfl}};rw[dv,wb,wb];simp[dv,xg]
 rw[this]
def zwo(b:∀ j<m,f j=false):D3 f m= -1:=by
 unfold D3
 have:(μ m).find? f=none:=jw.mpr λj c=>by rw[b j (ao.mp c)];exact ax
 rw[this]
def zwp(b:∀ z∈xs,TQ z)(c:GoodV n H v)(d:IW v=true):O7 v xs=decide (v∈xs):=by
 rw[mj,decide_eq_true_iff];unfold O7
 have key:∀ z,TQ z->(JW z v=true↔z=v):=λz hz=>by
  let rfl||[i,rfl]:=hz<;>(cases v<;>first|exact{λy=>rfl,λy=>rfl}|(constructor<;>intro e<;>cases e<;>done)|exact{λe=>congrArg V.int<|eq_of_beq e,λe=>by cases e;exact beq_self_eq_true _}|(cases n<;>exact c.elim)|cases d)
 rw[fk];constructor;intro[z,hz,e];rw[<-(key z<|b z hz).mp e];exact hz;exact λh=>{v,h,(key v<|b v h).mpr rfl}
def B3(H c:Hp):Prop:=∀ b xs,H b=some (.tup xs)->c b=some (.tup xs)
theorem GoodV.keep(k:B3 H b):∀ {n:Nat} {v:V},GoodV n H v->GoodV n b v
 |0,_,h=>h
 |_+1,.int _,_=>trivial
 |_+1,.non,_=>trivial
 |_+1,.str _,h=>h
 |n+1,.ref p,⟨xs,h1,h2,h3⟩=>{xs,k _ _ h1,h2,λv c=>(h3 v c).keep k}
def Same.tk{H c:Hp}(s:Same H c):B3 H c:=λb xs e=>s _ _ e
def zwq(c:GoodV 4 H v)(g:H d=some (.tup xs))(b:∀ z∈xs,TQ z)(q:Q (.bl<|decide<|v∈xs) H):QE K v (.ref d) H Q:=by
 have flat:IW v=true->QE K v _ H Q:=λj=>.inl ⟨d,xs,rfl,.inr<|SqT.of g,j,(jp.mpr λz hz=>by let rfl||[i,rfl]:=b z hz<;>rfl),by
  rw[zwp b c j];exact q⟩
 cases v with
 |ref t =>
  have:decide ((V.ref t)∈xs)=false:=decide_eq_false λl=>by let z||[i,z]:=b _ l<;>cases z
  let[ys,e,y]:=c;rw[this]at q;exact .inr<|x4 t ys d xs {rfl,SqT.of e,rfl,SqT.of g,b,q}
 |int i=>exact flat rfl
 |non=>exact flat rfl
 |str z=>exact flat rfl
 |_=>exact c.elim
example:(zwr,N5,Aj,5):=by
 apply NA;intro A w rows n cs outs pl vl O xs f m [rfl,T,TP,B,M,N,U,Y,hx,hf,q,qe];let[dx,ho]:=B.bk.ob;refine{{_,SqL.of M},WY  (λi l r=>(Same H r/\∀ j<i,f j=false)/\∃ x y,l=[some _,some _,some _,x,y]) {{Same.refl _,λj J=>absurd J<|mf _},x2 _ _ rfl} (by intro i l r u [[s,u],u];exact SqL.of<|s _ _ M) (λi x l r t b c ht=>?_) (λl r c=>?_)};let[[s,lo],x0,y0,rfl]:=c;rw[ρ]at b;cases D:O[i]? with
 |none=>rw[D]at b;cases b
 | some L =>
  rw[D]at b;obtain rfl:=θ b;refine u3 ?_<|hf i L D;intro bi bj v [e1,on,ev,gv,ef]
  have d:=s.trans<|AI (o:=.tup [.int i,.ref L]) ht;refine{_,SqT.of AD,rfl,?_};revert d;refine λd=>y2 {d _ _ ho,DM,x9 A w _ n cs _ L bi bj {rfl,T,TP,B.same d,d _ _ e1,λu v' H3 e s3=>?_,λz=>absurd on z}};rw[ev]at e;obtain rfl:=θ e
  have I:=d.trans s3;refine zwq (gv.keep I.tk) (I _ _ Y) hx ?_;rw[<-ef];erw[];cases g:f i with
  |true=>exact q i (zwn (N ▸ ((ε.mp D).1)) g lo) _ I
  |false=>exact⟨I,λj J=>by
    let z||z:=dz j i
    exact lo j z;rw[show j=i by exact ka (cy J) z];exact g⟩
 let[[s,lo],x0,y0,ez]:=c;rw[η,N]at lo;exact{by decide,qe (zwo lo) _ s}
def OD{m w:Nat}{B:Nat->Int}{u:TE}{v:wE}{x:St}{H:Hp}{Q:VK}(I:m<=1000)(J:∀ i b y,i<m->Same H b->G0 (B i) (i%w:Nat) y b->u (some (.int<|0+(i:Int))::C3 v x) b y)
  (q:∀ (c:uD) (b:Hp) (l:Addr),c.length=m->Same H b->(∀ k t,c[k]? =some t->b t=some (.tup [.int (B k),.int (k%w:Nat)]))->b l=some (.lst<|c.map V.ref)->Q (.ref l) b):D5 (ET 0 m) (AG 0) CP u 1 v x H Q:=by
 refine MH (BW m<|oA I rfl) (λi ys b=>Same H b/\∃ c:List _,ys=c.map V.ref/\c.length=i/\∀ k t,c[k]? =some t->b t=some (.tup [.int (B k),.int<|k%w])) {Same.refl _,[],rfl,rfl,λk t h=>by simp at h} (λi ys b L A g=>?_) λys b A g l j=>?_;let[s,c,e,D,h]:=g;refine J i b _ L s λt n=>?_
 have st:=AI (o:=.tup [.int (B i),.int<|i%w]) n;refine{s.trans st,c++[t],by rw[e,au];rfl,by simp[D],λk t' d=>?_};let z||z:=dz k _
 rw[ae z]at d;exact st _ _<|h k t' d;rw[ba z]at d
 have r:k-c.length=0:=by
  let z||z:=me _
  exact z;rw[bt (z)]at d;cases d
 rw[r]at d;obtain rfl:=θ d
 have:k=i:=by lia
 subst this;exact AD;let[s,c,rfl,D,h]:=g
 have st:=AI (o:=.lst<|c.map V.ref) j;exact q c _ l (by simpa using A) (s.trans st) (λk t d=>st _ _<|h k t d) AD
def Jg{rows:wC}{w i j:Nat}(c:∀ r∈rows,r.length=w)(d:i<rows.length)(g:j<w)(cs:yE):∃ v,EX cs rows i j=some v:=by
 unfold EX;cases e:D6 cs i j with
 |some k =>
  exact{_,by show(cs[k]?).map _=_;rw[ζ (S8 e)];rfl}
 |none =>
  have b:=ζ d;exact{_,by rw[bv,b];exact ζ<|iz g (c _<|ι b).symm}
def zws{n r c w kind k:Nat}(b:kind<3)(h:k<A0 n r c w kind):AX n r c w kind k<n+r+c+r+c:=by
 unfold AX
 have hd:=ko (by rw[cm];exact h);rcases(c3 b)with z|z|z<;>subst z<;>simp at hd ⊢ <;>lia
def Jh{n r c w kind k:Nat}(h:k<A0 n r c w kind):1<=w:=by
 let z||z:=me w
 rw[z]at h;exact nZ h;exact z
def UN{n r c w kind:Nat}(h1:n<=6)(h2:r<=6)(h3:c<=6)(h4:w<=6):A0 n r c w kind<=36:=by
 have h:(if kind=0 then n else if kind=1 then r else if kind=2 then c else if kind=3 then r else c)<=6:=by
  split<;>(try split)<;>(try split)<;>(try split)<;>lia
 exact dq h h4
def RG(kind:Nat):tF:=if kind=0 then [.non]else [.non,.int 0]
def zwt(kind:Nat)(v:V):decide (v∈RG kind)=LE kind v:=by
 unfold RG LE;by_cases h:kind=0;subst h;simp;rw[if_neg h];simp[rn h]
def bU{kind:Nat}{A:BA}{n r c w:Nat}{rows:wC}{nn:Nat}{cs:yE}{outs:tD}{x:uD}{l:Addr}{b:Hp}(U:kind<3)(T:TB K a)(TP:DL K a)(s:Same H b)(B:D8 a H A w rows nn cs outs)(Y:rows.length=n+r+c+r+c)(h1:n<=6)(h2:r<=6)(h3:c<=6)(h4:w<=6)
  (gh:∀ i j v,EX cs rows i j=some v->GoodV 4 H v) (e:x.length=A0 n r c w kind) (ht:∀ k t,x[k]? =some t->b t=some (.tup [.int (AX n r c w kind k:Nat),.int (k%w:Nat)])) (el:b l=some (.lst<|x.map V.ref))
  (q:∀ k:Nat,D3 (MO cs rows n r c w kind) (A0 n r c w kind)=k->∀ b,Same H b->Q (.int k) b) (qe:D3 (MO cs rows n r c w kind) (A0 n r c w kind)= -1->∀ b,Same H b->E (.ref<|a "NoRoom") none b) :
  ∀ u,b u=none->N5 K a [.ref A.b,.ref l,.ref u] (upd b u<|.tup<|RG kind) Q E:=λu hu=>by
 have D:=AI (o:=.tup<|RG kind) hu
 have y:=s.trans D;refine M9 A w _ nn cs _ l u x _ _ _ {rfl,T,TP,B.same y,D _ _ el,e,oA (UN  h1 h2 h3 h4) rfl,AD,λz hz=>?_,λk t g=>?_,λk d I J=>q k d I<|y.trans J,λd I J=>qe d I<|y.trans J};unfold RG at hz;split at hz<;>simp at hz;exact .inl hz;let z||z:=hz
 exact .inl z;exact .inr {0,z}
 have N:=e ▸ ((ε.mp g).1)
 have hb:=zws U N
 have O:k%w<w:=nv _<|(Jh N);let[v,L]:=Jg (λr' M=>B.pk.wd r' M) (show AX n r c w kind k<rows.length by lia) O cs;refine x3 _ _ v {D _ _<|ht k t g,{i0,ck.mpr<|Y ▸ hb,i0,ck.mpr O},L,(gh _ _ _ L).keep y.tk,?_};unfold MO;rw[L,zwt]
example:(zwu,TU,aX,3):=by
 apply u2;intro p b [rfl,A,n,r,c,w,rows,nn,cs,outs,rfl,T,TP,u,L,h1,h2,h3,h4,B,v,x,q,y];let[N,e]:=L.ob;erw[aX,aX0_];refine y2 {e,BM,x5 p n r c w {rfl,u,L,λt z=>?_}}
 have d:=AI (o:=.tup [V.int (n*w),V.int<|r*w,V.int<|c*w]) z;refine BI AD  rfl rfl ?_;revert d
 have D:=UN (kind:=0) h1 h2 h3 h4
 have O:n*w=(A0 n r c w 0):=by unfold A0;simp
 refine λd=>{i0,by lia,OD   (oA D rfl) (λi I U Y g J=>(y2 {g _ _<|d _ _ e,BM,x6 p n r c w i {(by simp),u,(L.same d).same g,?_}})) λts I l j g s M=>{by decide,bU  (by decide) T TP (d.trans g) B v h1 h2 h3 h4 x j s M q y}}
 exact J
example:(zwv,YH,aY,3):=by
 apply u2;intro p b [rfl,A,n,r,c,w,rows,nn,cs,outs,rfl,T,TP,u,L,h1,h2,h3,h4,B,v,x,q,y];let[N,e]:=L.ob;erw[aY,aY0_];refine y2 {e,BM,x5 p n r c w {rfl,u,L,λt z=>?_}}
 have d:=AI (o:=.tup [V.int (n*w),V.int<|r*w,V.int<|c*w]) z;refine BI AD  rfl rfl ?_;revert d
 have D:=UN (kind:=1) h1 h2 h3 h4
 have O:r*w=(A0 n r c w 1):=by unfold A0;simp
 refine λd=>{i0,by lia,OD   (oA D rfl) (λi I U Y g J=>(y2 {g _ _<|d _ _ e,BM,x6 p n r c w i {(by simp),u,(L.same d).same g,?_}})) λts I l j g s M=>{by decide,bU  (by decide) T TP (d.trans g) B v h1 h2 h3 h4 x j s M q y}}
 exact J
example:(zww,YI,aZ,3):=by
 apply u2;intro p b [rfl,A,n,r,c,w,rows,nn,cs,outs,rfl,T,TP,u,L,h1,h2,h3,h4,B,v,x,q,y];let[N,e]:=L.ob;erw[aZ,aZ0_];refine y2 {e,BM,x5 p n r c w {rfl,u,L,λt z=>?_}}
 have d:=AI (o:=.tup [V.int (n*w),V.int<|r*w,V.int<|c*w]) z;refine BI AD  rfl rfl ?_;revert d
 have D:=UN (kind:=2) h1 h2 h3 h4
 have O:c*w=(A0 n r c w 2):=by unfold A0;simp
 refine λd=>{i0,by lia,OD   (oA D rfl) (λi I U Y g J=>(y2 {g _ _<|d _ _ e,BM,x6 p n r c w i {(by simp),u,(L.same d).same g,?_}})) λts I l j g s M=>{by decide,bU  (by decide) T TP (d.trans g) B v h1 h2 h3 h4 x j s M q y}}
 exact J
theorem bV:∀ {n:Nat} {v:V},GoodV n H v->∃ d,Dat K H n v d
 |_+1,.int i,_=>{_,Dat.int i}
 |_+1,.non,_=>⟨_,Dat.non⟩
 |_+1,.str z,h=>{_,.str z,h,aw _}
 | n+1,.ref p,⟨xs,h1,h2,h3⟩=>by
  have:∀ (l:tF),(∀ v∈l,GoodV n H v)->∃ c,Paired _ l c:=λl=>by
   induction l with
   |nil=>exact λy=>{[],.nil}
   |cons x r e =>
    intro h;let[d,hd]:=bV<|h x<|aa ..;let[c,b]:=e λv g=>h v<|ω _ g;exact{_,.cons hd b}
  let[c,b]:=this xs h3;exact{_,Dat.tup (SqT.of h1) b}
def zwx(h:∀ v∈l,GoodV n H v):∃ c,Paired (Dat K H n) l c:=by
 induction l with
 |nil=>exact{[],.nil}
 |cons x r e =>
  let[d,hd]:=bV  (h x<|aa ..);let[c,b]:=e λv g=>h v<|ω _ g;exact{_,.cons hd b}
def bW{cs:yE}{rows:wC}(g:goodH H cs rows){i j:Int}{v:V}(h:EX cs rows i j=some v):GoodV 4 H v:=by
 unfold EX at h;cases e:D6 cs i j with
 |some k =>
  rw[e]at h
  have h:(cs[k]?).map _=some v:=h;cases b:cs[k]? with
  |none=>rw[b]at h;cases h
  |some c =>
   rw[b]at h;obtain rfl:=θ h;exact g.2 c<|ι b
 |none =>
  rw[e]at h;cases d:rows[i.toNat]? with
  |none=>rw[d]at h;cases h
  |some r =>
   rw[d]at h;exact g.1 r (ι d) v (ι h)
def goodH.keep(g:goodH H cs rows)(k:B3 H b):goodH b cs rows:={λr d v e=>(g.1 r d v e).keep k,λc i=>(g.2 c i).keep k}
def zwy{cs:yE}{rows:wC}{i j:Int}{b c:Nat}{v:V}{nd:vE}:EX (cs++[⟨b,c,v,nd⟩]) rows i j=if(b:Int)=i/\(c:Int)=j then some v else EX cs rows i j:=by
 unfold EX;rw[XJ];by_cases h:b=i/\c=j;rw[if_pos h,if_pos h];simp;rw[if_neg h,if_neg h];cases e:D6 cs i j with
 |none=>rfl
 |some k =>
  show((cs++[_])[k]?).map _=(cs[k]?).map _;rw[ae (S8 e)]
def HK{G:zC}{H c:Hp}(s:SameBut G H c)(g:∀ x,G x->EW (H x)):B3 H c:=λb xs e=>s _ _ e λz=>(g _ z).1 _ e
def bX(b:GoodV 4 H v)(q:Q (.bl false) H):DE K v v H Q:=by
 cases v with
 |int i=>show Q _ _;simpa using q
 |non=>exact q
 |str z=>show Q _ _;simpa using q
 |ref p =>
  let[d,D]:=bV  b;exact NP (by decide) D D q
 |_=>exact b.elim
def Jj{z:Str}{i:Int}{n:Nat}{c:Nat}{Q:VK}(b:i=n)(d:z.cps.toList.length<=1000)(e:z.cps.toList[n]? =some c)(q:Q (.str {#[c]}) H):BK K (.str z) (.int i) H Q:=by
 subst b;exact .inr (.inr (x3 z n c {rfl,rfl,υ (d) (BW _ (by decide)),SB e,q}))
def zwz:[c]<(cj " ").cps.toList↔c<32:=by
 rw[show(cj _).cps.toList=[32] by decide +kernel,mx];simp
def zw0:(cj "~").cps.toList<[c]↔126<c:=by
 rw[show(cj _).cps.toList=[126] by decide +kernel,mx];simp
def zw1:[c]<(cj "a").cps.toList↔c<97:=by
 rw[show(cj _).cps.toList=[97] by decide +kernel,mx];simp
def zw2:(cj "z").cps.toList<[c]↔122<c:=by
 rw[show(cj _).cps.toList=[122] by decide +kernel,mx];simp
example:(zw3,YJ,ZR,1,h):=by
 let[c,rfl,q]:=h;erw[ZR,ZR0_,zwz,zw0];unfold N6 at q;split;rename_i h1;split;rename_i h2;rw[decide_eq_true (bx h1),decide_eq_true<|bx h2]at q
 have e:(!decide (((#[c].getD 0 0):Int)=37))=decide (c≠37):=by
  rw[show(#[c]).getD 0 0=c from rfl,<-decide_not];exact decide_eq_decide.mpr (by lia)
 refine{rfl,?_};rw[e];exact q;rw[show decide (c<=126)=false from decide_eq_false (by lia)]at q;simpa using q;rw[decide_eq_false (by lia)]at q;exact q
def Jk(hz:z.length<=1000)(l:∀ c (j:VK),j (.bl<|f c) H->n [some (.str {#[c]})] H j)(q:∀ d,Same H d->Q (.bl<|z.cps.toList.all f) d) :
  D5 (PR z) (AG 0) CP n 1 [] [some (.str z)] H λx o=>NO K [x] o Q:=by
 refine zc8 (BW _<|oA hz rfl) (λi ys d=>d=H/\ys=(z.cps.toList.take i).map λc=>V.bl<|f c) ⟨rfl,rfl⟩ (λi c ys d r s b=>?_) (λys d s b p u=>?_);let[rfl,e]:=b
 have g:z.cps.toList[i]? =some c:=by simpa using r
 refine l c _ {rfl,?_};rw[gk,g,e];simp;let[rfl,e]:=b
 have v:ys=(z.cps.toList.map f).map V.bl:=by
  rw[e,ip,jn (by simp)];rfl
 refine x2 p _ {rfl,by rw[<-v];exact SqL.of AD,?_};rw[Ce];exact(q _<|AI  u)
example:(zw4,YK,ZS,1,h):=by
 let[z,rfl,hz,q]:=h;erw[ZS,ZS0_];unfold B0 at q;refine{_,{BW _<|oA hz rfl,rfl},?_};split;rename_i h1;rw[decide_eq_true (by exact ck.mp h1)]at q;by_cases h2:z.length<=8;rw[decide_eq_true h2]at q;rw[if_pos (by lia)];refine Jk hz (λc d b=>?_) q;erw[zw1,zw2];unfold QU at b;split;rename_i h3;rw[decide_eq_true (bx h3)]at b;rw[show(!decide _)=decide (c<=122) by rw[<-decide_not];exact decide_eq_decide.mpr (by lia)];exact b;rw[decide_eq_false (by lia)]at b;exact b;rw[decide_eq_false h2]at q;rw[if_neg (by exact λz=>h2<|i_.mp z)];exact q _<|Same.refl _;rename_i h1;rw[decide_eq_false (λz=>h1<|i_.mpr z)]at q;exact q _<|Same.refl _
example:(zw5,YL,aC,1,h):=by
 let[z,rfl,hz,q]:=h;erw[aC,aC0_];unfold LG at q;refine{_,{BW _<|oA hz rfl,rfl},?_};split;rename_i h1;rw[decide_eq_true (by exact ck.mp h1)]at q;by_cases h2:z.length<=40;rw[decide_eq_true h2]at q;rw[if_pos (by lia)];exact Jk hz (λc d b=>⟨c,rfl,b⟩) q;rw[decide_eq_false h2]at q;rw[if_neg (by exact λz=>h2<|i_.mp z)];exact q _<|Same.refl _;rename_i h1;rw[decide_eq_false (λz=>h1<|i_.mpr z)]at q;exact q _<|Same.refl _
def Jl(x y:Str):(x++y).length=x.length+y.length:=PySem.strLen_append x y
def bY(x:Int){n:Nat}(h:1<=n):∃ b:Nat,x%(n:Int)=b/\b<n :=
 ⟨_,(di (ym x (show(n:Int)≠0 by exact λz=>ja h<|bh z))).symm,by
  have:=vh x (show(0:Int)<n by exact ck.mpr h)
  lia⟩
def zw6{z:Str}{i:Int}{n:Nat}{Q:VK}(b:i=n)(d:n<z.length)(hz:z.length<=1000)(q:∀ c,Q (.str {#[c]}) H):BK K (.str z) (.int i) H Q:=by
 subst b;exact .inr<|.inr<|x3 z n _ {rfl,rfl,BW _<|oA hz rfl,SB<|ζ<|d,q _}
section
variable{lp b tk:Addr}
def JK:(sf lp b tk).lookup ("plan":Str)=some (V.ref lp):=by simp[sf]
def IM:(sf lp b tk).lookup ("book":Str)=some (V.ref b):=by
 simp[sf,ai,BD (a:="book") (b:="plan") (by decide)]
def bZ:(sf lp b tk).lookup ("taken_out":Str)=some (V.ref tk):=by
 simp[sf,ai,BD (a:="taken_out") (b:="plan") (by decide),BD (a:="taken_out") (b:="book") (by decide)]
def CK{x:Str}(h:(DT x "plan" || DT x "book" || DT x "taken_out")=false:=by decide +kernel):(sf lp b tk).lookup x=none:=by
 simp only[oa]at h;let[[h1,h2],h3]:=h;simp[sf,ai,BD h1,BD h2,BD h3]
def zw7:BV "taken_out" (.ref tk) (BV "book" (.ref b) (BV "plan" (.ref lp) []))=sf lp b tk:=by
 rfl
end
def zw8{w k b:Nat}(h1:k/w=b/w)(h2:k%w=b%w):k=b:=by
 rw[<-qx k w,<-qx b w,h1,h2]
def zw9{f:xD}{m k:Nat}(h:D3 f m=k):k<m:=by
 unfold D3 at h;cases e:(μ m).find? f with
 |none=>rw[e]at h;simp at h
 |some b =>
  have:=ao.mp<|wn e
  lia
def Jm{z:Str}(h:B0 z=true):gu z=true:=by
 unfold B0 at h;rw[cb]at h
 have h:=h.2;unfold gu;rw[<-Fs];rw[jp]at h ⊢;intro c b
 have:=h c b;simp only[QU,cb,decide_eq_true_eq]at this ⊢;exact oC this.2 rfl
def RepC.keep(k:B3 H c):∀ {x:CV} {v:V},RepC H x v->RepC c x v
 |.no,_,h=>h
 |.nm _ _,_,⟨t,e,b⟩=>{t,e,k _ _ b}
 |.mk _,_,h=>h
 |.rc _ _,_,⟨t,u,e,b,d⟩=>{t,u,e,k _ _ b,k _ _ d}
 |.tx _,_,h=>h
theorem LaidA.keep(k:B3 H b)(h:LaidA n r c w H cs as):LaidA n r c w b cs as:=by
 induction h with
 |nil=>exact .nil
 |snoc _ d e g i j l o=>exact o.snoc d e (g.keep k) i j l
def SM.same(I:SM a H S n r c w rows nn cs outs b M)(s:Same H i):SM a i S n r c w rows nn cs outs b M:=by
 let[[j,l],o,q,u,x,y,z,A,B,d,e,g]:=I;exact{{j,s _ _ l},o.same s,q.same s,s _ _ u,x,y,z,A,B.keep s.tk,λkind k v h1 h2 D=>(d _ k v h1 h2 D).keep s.tk,e,g.keep s.tk}
example:(zxa,TX,t7,1):=by
 apply u5;intro x c d b tk [rfl,T,e,q];exact y3 ⟨e,T.cl,T.n2,_,IM,q⟩
def BookAt.ins1(B:BookAt a C H A w rows n cs outs)(s:SameBut (· =x) H j)(I:H x=some (.ins C' dx fs))(J:fs.length<=2):BookAt a C j A w rows n cs outs:=by
 let[[[L,M],[N,O,T],U,Y,e6,[kvs,e7,e8],[DZ,e9,q],r1,r2,r3,r4,r5],[[d2,f1],[ts,f2,f3],f4,f5,f6],nb]:=B
 have o:∀ {y:Addr} {o:HO},H y=some o->(∀ b g ,o≠.ins b g fs)->j y=some o:=λe h=>s _ _ e<|AZ e I<|h _ _
 have u:∀ {y:Addr} {b g:Addr} {gs:List _},H y=some _->2<gs.length->j y=some (.ins b g gs):=λe h=>o e λv v z=>by injection z with _ _ z;rw[z]at h;exact nL h J
 have ol:∀ {y:Addr} {D:HO},H y=some D->(∀ b g gs,D≠.ins b g gs)->j y=some D:=λe h=>o e λv v=>h _ _ _;exact{{{L,u M (by simp[bf])},{_,ol O (by simp),Paired.mapP T (by intro y c [d,pl,nt,g1,g2,g3];exact x3 d pl nt {u g1 (by simp[GG]),ol g2 (by simp),ol g3 (by simp)})},ol U (by simp),λi l h=>ol (Y i l h) (by simp),e6,{_,ol e7 (by simp),e8},{_,ol e9 (by simp),q},r1,r2,r3,r4,r5},{{d2,u f1 (by simp[pf])},{ts,ol f2 (by simp),Paired.mapP f3 λt r z=>ol z (by simp)},f4,f5,f6},nb}
example:(zxb,N7,yX,3):=by
 apply NA;intro x d i gp cl n r c w rows nn M [rfl,[T,TP,TL,TS],l,L,P,sz,g,N,hok,q];refine y3 {l,TS.cl,TS.n1,by decide,?_}
 have s:upd H x _ x=some (.ins (a "Store") d (BV "plan" (.ref i) [])):=AD
 have j:SameBut _ H (upd H x<|.ins (a "Store") d (BV "plan" (.ref i) [])):=λy o e n=>by rw[AK n];exact e
 revert s j;generalize upd H x _=H1;intro s j
 have P1:PlankAt a H1 gp cl w rows nn:=by
  let[[dx',f1],[ts,f2,f3],r1,r2,r3]:=P;exact{{_,j _ _ f1 (AZ f1 l (NX (by simp[pf])))},{ts,j _ _ f2 (AZ f2 l (by intro z;cases z)),Paired.mapP f3 λt r z=>j _ _ z (AZ z l (by intro z;cases z))},r1,r2,r3}
 refine zv5 T TP P1 λA I eg ec off B O=>?_
 have u:=O _ _ s;refine y3 {u,TS.cl,TS.n2,FQ  (by decide),λp D=>?_}
 have np:=BG AD D;rw[AK np.symm]at D;refine y3 {by rw[AK np,AD],TS.cl,TS.n3,FQ  (FQ  (by decide)),?_};rw[zw7]
 have J:SameBut _ I (upd (upd (upd I x<|.ins (a "Store") d (BV "book" (.ref A.b) (BV "plan" (.ref i) []))) p (.dK [])) x (.ins (a "Store") d (sf i A.b p))):=λy o e n=>by
  rw[AK n,AK<|BG e D,AK n];exact e
 have U:upd (upd (upd I x<|.ins (a "Store") d (BV "book" (.ref A.b) (BV "plan" (.ref i) []))) p (.dK [])) x _ x=some (.ins (a "Store") d (sf i A.b p)):=AD
 have p3:upd (upd (upd I x<|.ins (a "Store") d (BV "book" (.ref A.b) (BV "plan" (.ref i) []))) p (.dK [])) x (.ins (a "Store") d (sf i A.b p)) p=some (.dK []):=by rw[AK np.symm,AD]
 revert J U p3;generalize upd _ x _=H3;intro J U p3
 have sb:=(j.trans<|Same.sb O).trans J
 have tk:B3 H H3:=λb xs e=>sb _ _ e (AZ e l (by intro z;cases z));let[dl,el]:=L.ob;refine q ⟨A,x,i,p⟩ H3 rfl rfl eg ec (λy o e=>?_) (j.none (by rw[s];intro z;cases z) (O.free D)) {⟨d,U⟩,L.sb sb (AZ el l (NX (by simp[lf]))),(B.ins1 J u (υ (O0 _ _ _) (by simp))),p3,ο _,λz v h=>by simp[A8]at h,B.off D,sz,{λr hr v Y=>(g r hr v Y).keep tk,λc hc=>by cases hc},λkind k v h1 h2 Y=>(N _ k v h1 h2 Y).keep tk,hok,.nil} sb;by_cases hy:y=x;subst hy;exact(off _ _ s).imp id id;exact off y o<|j _ _ e hy
section
variable{X:SX}{cs:yE}{tks:vC}{M:Hs}
def UO{n r c w kind d k i:Nat}(h1:kind<5)(h2:d<5)(o:k<A0 n r c w kind)(j:i<A0 n r c w d)(l:AX n r c w kind k=AX n r c w d i)(q:k%w=i%w):kind=d/\k=i:=by
 have f:∀ {kind x:Nat},kind<5->x<(if kind=0 then n else if kind=1 then r else if kind=2 then c else if kind=3 then r else c)->∀ b,(if kind=0 then 0 else if kind=1 then n+r+c else if kind=2 then n+r+c+r else if kind=3 then n else n+r)+x=b->(if b<n then 0 else if b<n+r then 3 else if b<n+r+c then 4 else if b<n+r+c+r then 1 else 2)=kind:=by
  intro kind x h g b e
  match kind,h with
  |0,_=>rw[if_pos]<;>simp at g e<;>exact e ▸ g
  |1,_=>rw[if_neg]<;>simp at g e<;>lia
  |2,_=>rw[if_neg]<;>simp at g e<;>lia
  |3,_=>rw[if_neg]<;>simp at g e<;>lia
  |4,_=>rw[if_neg]<;>simp at g e<;>lia
 have key:kind=d/\k/w=i/w:=by
  obtain rfl:kind=d:=(f h1 (ko (by rw[cm];exact o)) _ l).symm.trans (f h2 (ko (by rw[cm];exact j)) _ rfl);exact{rfl,Nat.add_left_cancel l}
 exact{key.1,zw8 key.2 q}
def LaidA.newest{n r c w:Nat}{H:Hp}{cs:yE}{as:zE}(h:LaidA n r c w H cs as){kind k:Nat}(h1:kind<5)(d:k<A0 n r c w kind):D6 cs (AX n r c w kind k:Nat) (k%w:Nat)=EI kind k as/\cs.length=as.length:=by
 induction h with
 |nil=>exact⟨rfl,rfl⟩
 |@snoc cs as ch x _ g i o q j l b =>
  refine{?_,by rw[ψ,b.2];rfl};rw[XJ,b.1,b.2]
  show _=(if x.kind=kind/\x.k=k then some _ else EI _ k as);by_cases e:x.kind=kind/\x.k=k;rw[if_pos e,if_pos {by rw[g,e.1,e.2],by rw[i,e.2]}];rw[if_neg e,if_neg λz=>e (UO j h1 l d (by lia) (by lia))]
def SM.on(I:X.at a H cs tks M)(h1:kind<5)(b:k<A0 X.n X.r X.c X.w kind):AX X.n X.r X.c X.w kind k<X.rows.length/\k%X.w<X.w:=by
 refine{?_,nv _<|(Jh b)};rw[I.sz.2.2.2.2];unfold AX
 have hd:=ko (by rw[cm];exact b);rcases(c5 h1)with z|z|z|z|z<;>subst z<;>simp at hd ⊢ <;>lia
def SM.onPl(I:X.at a H cs tks M){kind k:Nat}(h1:kind<5)(b:k<A0 X.n X.r X.c X.w kind):onPl X.rows X.w (AX X.n X.r X.c X.w kind k:Nat) (k%X.w:Nat):=by
 have:=I.on h1 b;exact{jq _,by lia,jq _,ck.mpr this.2}
def SM.val(I:X.at a H cs tks M){kind k:Nat}(h1:kind<5)(c:k<A0 X.n X.r X.c X.w kind):∃ v,EX cs X.rows (AX X.n X.r X.c X.w kind k:Nat) (k%X.w:Nat)=some v/\RepC H (M kind k) v:=by
 let[e,g]:=I.on h1 c;let[v,d]:=Jg (λi b=>I.bk.pk.wd i b) e g cs;exact{v,d,I.rp _ k v h1 c d}
def SM.snoc{i:Hp}{kind k:Nat}{v:V}{x:CV}{nd:vE}{l:wE}(hd:∀ y:Int,y∈nd↔(∃ j∈l,y=(j:Nat))\/sM cs (AX X.n X.r X.c X.w kind k:Nat) (k%X.w:Nat) y)(I:X.at a H cs tks M)(h1:kind<5)(n:k<A0 X.n X.r X.c X.w kind)(B:D8 a i X.S.A X.w X.rows X.nn (cs++[{AX X.n X.r X.c X.w kind k,k%X.w,v,nd}]) X.outs)(s:SameBut X.S.A.F H i)(g:GoodV 4 i v)(J:RepC i x v)(ox:EF kind x):X.at a i (cs++[{AX X.n X.r X.c X.w kind k,k%X.w,v,nd}]) tks (M.put kind k x l):=by
 have lo:∀ x,X.S.A.F x->EW _:=λx U=>I.bk.loose U
 have tk:=HK s lo;let[[Y,L],N,e3,e4,e5,e6,O,e8,T,u,w,o]:=I;let[dl,el]:=N.ob;refine{{Y,s _ _ L λz=>(lo _ z).2 _ _ _ L},N.sb s λz=>(lo _ z).2 _ _ _ el,B,s _ _ e4 O,by rw[ψ];exact b_ e5,λz v h=>?_,O,e8,{(T.keep tk).1,λc hc=>?_},λb r v' d e q=>?_,λb r d e=>?_,(o.keep tk).snoc rfl rfl J (λy=>by rw[hd];unfold sM;rw[(o.newest h1 n).1]) h1 n};let[k,ek,n]:=e6 z v h;exact{k,ek,by rw[ψ];exact b_ n};let y||y:=bg.mp hc
 exact(T.keep tk).2 c y;rw[τ.mp y];exact g;rw[zwy]at q;rw[Hs.put_at];by_cases D:b=kind/\r=k;let[rfl,rfl]:=D;rw[if_pos ⟨rfl,rfl⟩]at q ⊢;obtain rfl:=θ q;exact J;rw[if_neg λy=>D (by
  have:=UO h1 d n e (bh y.1) (bh y.2);exact⟨this.1.symm,this.2.symm⟩)]at q
 rw[if_neg D];exact(u _ r v' d e q).keep tk;rw[Hs.put_at];split;rename_i y;rw[y.1];exact ox;exact w _ r d e
def IN{kind k:Nat}{v:V}{x:CV}{u nl:Addr}{ns:vE}(r:CM K a)(I:X.at a H cs tks M)(h1:kind<5)(c:k<A0 X.n X.r X.c X.w kind)(s:H u=some (.tup [.int (AX X.n X.r X.c X.w kind k:Nat),.int (k%X.w:Nat)]))(w:H nl=some (.lst<|ns.map V.int))(B:ns.length<=60)(d:cs.length<990)(i:∀ x∈ns,known cs x)(g:GoodV 4 H v)(D:RepC H x v)(ox:EF kind x)
  (q:∀ ch l,X.at a l (cs++[ch]) tks (M.put kind k x<|D9 ns)->SameBut X.S.A.F H l->Q (.int cs.length) l):GK K a [.ref X.S.A.b,.ref u,v,.ref nl] H Q E:=by
 let[T,TP,O,TS]:=r;refine M9 _ _ _ _ cs _ u nl v ns _ _ {rfl,T,TP,I.bk,s,SqL.of w,B,d,λz z nd J U mem L n=>?_,λy=>absurd (I.onPl h1 c) y,λz ⟨x,b,c⟩=>absurd (i x b) c}
 have tk:=HK n λx b=>I.bk.loose b;refine q _ J (I.snoc (λy=>?_) h1 c L n (g.keep tk) (D.keep tk) ox) n;rw[mem];refine or_congr {λh=>{_,az.mpr ⟨y,h,rfl⟩,(di<|(i y h).1).symm},λo=>?_} Ki;let[j,N,e]:=o;let[x,b,rfl]:=az.mp N
 have:=(i x b).1;rw[show y=x by lia];exact b
end
def NmX(H:Hp)(v:V):Option (Str × Nat)->Prop
 |none=>v=.non
 |some (z,k)=>∃ t,v=.ref t/\H t=some (.tup [.str z,.int k])
def NmX.keep(h:NmX H v x)(k:B3 H b):NmX b v x:=by
 cases x with
 |none=>exact h
 |some p=>let[t,e,c]:=h;exact{t,e,k _ _ c}
def RepC.nmv(h:RepC H (M 0 k) v)(ok:EF 0 (M 0 k)):NmX H v (C8 M k):=by
 unfold C8;cases e:M 0 k with
 |no=>rw[e]at h;exact h
 |nm z r=>rw[e]at h;exact h
 |mk i=>rw[e]at ok;exact ok.elim
 |rc m ps=>rw[e]at ok;exact ok.elim
 |tx z=>rw[e]at ok;exact ok.elim
example:(zxc,QX,aQ,1):=by
 apply u4;intro X cs O M [rfl,[T,TP,J,TS],I,q];let[S,n,r,c,w,rows,nn,outs]:=X;let[dx,j]:=I.ob;let[dl,L]:=I.ly.ob;let[db,U]:=I.bk.bk.ob
 have hz:=I.sz
 have l:=dq hz.1 hz.2.2.2.1;erw[aQ,aQ0_];refine y3 {j,TS.cl,TS.n1,_,JK,y2 {L,BM,x5 _ n r c w {rfl,J,I.ly,λt Y=>?_}}}
 have A:=AI (o:=.tup [V.int (n*w),V.int<|r*w,V.int<|c*w]) Y;refine BI AD  rfl rfl ?_;revert A
 have em:(n:Int)*w=(n*w:Nat):=rfl;intro A;rw[em];erw[];refine{i0,by lia,MH (BW _<|oA l rfl) (λi ys B=>Same H B/\ys.length=i/\∀ k v,ys[k]? =some v->EX cs rows (AX n r c w 0 k) (k%w)=some v) {A,rfl,λk v h=>by simp at h} (λi ys B hi e d=>?_) (λys B e d p hp=>?_)}
 ·let[s,x,D]:=d;refine y3 {s _ _ j,TS.cl,TS.n2,_,IM,y2 {s _ _ U,DM,y3 {s _ _ j,TS.cl,TS.n1,_,JK,y2 {s _ _ L,BM,x6 _ n r c w i {by simp,J,I.ly.same s,λu hu=>?_}}}}}
  have N:=s.trans<|AI (o:=.tup [.int (0+i/w),.int<|i%w]) hu;refine x9 _ w rows nn cs _ u (AX n r c w 0 i) (i%w) {rfl,T,TP,I.bk.same N,by rw[AD];simp[AX],λx v H3 ev g=>{N.trans g,by simp[e],λk v' b=>?_},λz=>absurd (SM.onPl I  (by decide) (hi)) z};let z||z:=dz k _
  rw[ae z]at b;exact D k v' b
  have:k=i:=by
   let y||y:=Nat.eq_or_lt_of_le z
   exact e ▸ y.symm;rw[bt (by simp;lia)]at b;cases b
  rw[ba z]at b;subst this;rw[e,kj]at b;obtain rfl:=θ b;exact ev
 let[s,x,D]:=d
 have g:=s.trans<|AI (o:=.lst ys) hp;exact q p ys _ g AD e λk v b=>((I.rp 0 k v (by decide) (by simp[A0];exact e ▸ ((ε.mp b).1)) (D k v b)).keep g.tk)
def Jp(b:i<m)(h:(C8 M i).any (λp=>decide<|p.1=z)=true)(c:∀ j<i,(C8 M j).any (λp=>decide<|p.1=z)=false):cellOf M m z=some i:=by
 unfold cellOf;let[d,rfl]:=ie<|show i+1<=m from b;rw[lw];refine{h,x2 (μ i) ((μ d).map (i+1+·)) {?_,λj e=>by rw[c j (ao.mp e)];rfl}};rw[dv,wb,wb];simp[dv,xg]
def Jq(b:∀ j<m,(C8 M j).any (λp=>decide<|p.1=z)=false):cellOf M m z=none:=jw.mpr λj c=>by rw[b j (ao.mp c)];exact ax
example:(zxd,QY,Cg,4):=by
 apply u5;intro X cs T M z [rfl,U,I,q];let[dx,Y]:=I.ob;refine y2 {Y,CK,x4 X cs _ M {rfl,U,I,λl xs J s1 L r hx=>({{_,SqL.of L},WY  (λi g d=>(Same H d/\Same J d/\∀ j<i,(C8 M j).any (λp=>decide<|p.1=z)=false)/\∃ x y,g=[some _,some _,x,y]) {{s1,Same.refl _,λj w=>absurd w<|mf _},x2 _ _ rfl} (by intro i g d v [[v,s,v],v];exact SqL.of<|s _ _ L) (λi x g d t e c N=>?_) (λg d c=>?_)})}};let[[A,s,lo],y1,y2,rfl]:=c
 have B:=(ε.mp e).1
 have n:=s.trans<|AI (o:=.tup [.int i,x]) N
 have b:=A.trans<|AI (o:=.tup [.int i,x]) N
 have nx:=((hx i x e).nmv (I.ok 0 i (by decide) (by rw[r]at B;exact B))).keep n.tk;refine{_,SqT.of AD,rfl,?_};revert n b nx;generalize upd d t _=O;intro n b nx
 have next:(C8 M i).any (λp=>decide _)=false->Same H O/\Same J O/\∀ j<i+1,(C8 M j).any (λp=>decide _)=false:=λh=>⟨b,n,λj w=>by
  let y||y:=dz j i
  exact lo j y;rw[show j=i by exact ka (cy w) y];exact h⟩
 erw[Cg1_,Cg0_];cases D:C8 M i with
 |none =>
  rw[D]at nx next;rw[nx];exact next rfl
 |some p =>
  rw[D]at nx next;let[u,rfl,eu]:=nx;refine BI eu  rfl rfl ?_;erw[];by_cases hz:p.1=z;rw[if_pos hz]
  have:=q _ b;rw[Jp  (r ▸ B) (by rw[D];simpa using hz) lo]at this;exact this;rw[if_neg hz];exact next (by simpa using hz)
 let[[A,s,lo],y1,y2,ez]:=c
 have:=q _ A;rw[Jq (by rw[<-r];exact lo)]at this;exact this
example:(zxe,YM,a0,1):=by
 apply u4;intro X cs O M [rfl,T,I,q]
 have hz:=I.sz;let[dx,U]:=I.ob
 have g:=dq hz.1 hz.2.2.2.1;erw[a0,a00_];refine y2 {U,CK (by decide),x4 X cs _ M {rfl,T,I,λl xs Y w A s hx=>(.inl {{_,SqL.of A},qO  (BW _<|oA (υ (ay s) g) rfl) (λi b ys j=>j=Y/\(∃ B,b=[B])/\ys=(G2 M i).map V.str) {rfl,⟨_,rfl⟩,rfl} (by intro i b ys j [e,z,d];exact{e ▸ SqL.of A,by rw[d,η];exact υ (jb _ _) (by simp)}) (λi x b ys j n v c=>?_) (λb ys j c p hp=>?_)})}};let[e,[B,es],d]:=c
 have nx:=(hx i x v).nmv (I.ok 0 i (by decide) (by rw[s]at n;simpa [A0]using n));subst e es
 have r:G2 M (i+1)=G2 M i++((C8 M i).map (·.1)).toList:=by
  unfold G2;rw[bq];cases e:C8 M i<;>simp[e]
 cases J:C8 M i with
 |none =>
  rw[J]at nx r;rw[nx];exact{_,by lia,rfl,n,by rw[r,d];simp}
 |some p =>
  rw[J]at nx r;let[u,rfl,eu]:=nx;exact{λy L=>y=.str _/\L=j,(by intro y L [e1,e2];exact{_,by lia,rfl,n,e2,by rw[r,d,e1];simp}),BI eu  rfl rfl ⟨rfl,rfl⟩}
 let[rfl,z,d]:=c
 have sp:=AI (o:=.lst ys) hp;exact x2 p (G2 M _) {rfl,by rw[<-s,<-d];exact SqL.of AD,cf (jb _ _) (by simp;exact oC g rfl),λD ks N pk hs=>(q D ks _ (w.free<|sp.free N) ((w.trans sp).trans (AI N)) AD pk hs)}
example:(zxf,TY,bC,3):=by
 apply u7;intro X cs B M z U r [rfl,D,I,u,J,L,q,q1,q2];let[Y,N]:=I.ob;erw[bC,bC1_];refine .inl {{_,SqL.of u},zcw  (BW _ (by rw[η];exact oA J rfl)) (λi ys g=>Same H g/\ys=((r.take i).map B0).map V.bl) {Same.refl _,rfl} (λi ys g y ⟨s,_⟩=>SqL.of<|s _ _ u) (λi x ys g d l c=>?_) (λys g l c p O=>?_)};let[s,j]:=c;rw[ρ,bc]at d;let[v,e,rfl]:=d;refine{v,rfl,L v<|ι e,λH2 b=>{s.trans b,?_}};rw[gk,e,j];simp;let[s,j]:=c;rw[η,ce]at j
 have b:=s.trans<|AI (o:=.lst ys) O;refine x2 p _ {rfl,by rw[<-j];exact SqL.of AD,?_};rw[Ce,Function.id_comp];revert b;intro b;cases n:r.all _ with
 |false =>
  exact{by decide,q1 n _ b}
 |true =>
  refine y2 {b _ _ N,CK,x5 X cs _ M z {rfl,D,I.same b,λH3 T=>?_}}
  have w:=b.trans T;cases A:cellOf M _ z with
  |none =>
   exact q n A _ w
  |some k =>
   exact{by decide,q2 n ⟨k,A⟩ _ w}
def KN{S:SA}{l n d e g lt i:Addr}{c:Str}{P:V->Prop}(TS:QW K a)(o:H S.st=some (.ins (a "Store") l (sf S.lp S.A.b S.tk)))(q:H S.A.b=some (.ins (a "Hold") n (bf d e g lt i)))(r:(bf d e g lt i).lookup c=none)(p:P (.ref S.A.b)) :
  ∃ x s x2,H S.st=some (.ins x s x2)/\Cls K x/\NoAttr K x "book"/\∃ v,x2.lookup ("book":Str)=some v/\CQ v λb=>∃ y j,H b=some (.ins (a "Hold") y j)/\j.lookup c=none/\P v:=y3 {o,TS.cl,TS.n2,_,IM,y2 ⟨q,r,p⟩}
def JL{S:SA}{g dl:Addr}{n r c w:Int}{d:Str}{P:V->Prop}(TS:QW K a)(i:H S.st=some (.ins (a "Store") g (sf S.lp S.A.b S.tk)))(j:H S.lp=some (.ins (a "Layout") dl (lf n r c w)))(l:(lf n r c w).lookup d=none)(p:P (.ref S.lp)) :
  ∃ x o x2,H S.st=some (.ins x o x2)/\Cls K x/\NoAttr K x "plan"/\∃ v,x2.lookup ("plan":Str)=some v/\CQ v λb=>∃ y e,H b=some (.ins (a "Layout") y e)/\e.lookup d=none/\P v:=y3 {i,TS.cl,TS.n1,_,JK,y2 ⟨j,l,p⟩}
section
variable{p:Addr}{n r c w k:Nat}
def RH(b:DH K a)(L:LayAt a H p n r c w)(q:G0 (0+k/w) (k%w) Q H):G1 K a [.ref p,.int k] H Q E:=x6 p n r c w k ⟨rfl,b,L,q⟩
def LS(b:DH K a)(L:LayAt a H p n r c w)(q:G0 (n+k/w) (k%w) Q H):GH K a [.ref p,.int k] H Q E:=x6 p n r c w k ⟨rfl,b,L,q⟩
def Jv(b:DH K a)(L:LayAt a H p n r c w)(q:G0 (n+r+k/w) (k%w) Q H):N0 K a [.ref p,.int k] H Q E:=x6 p n r c w k ⟨rfl,b,L,q⟩
def b0(b:DH K a)(L:LayAt a H p n r c w)(q:G0 (n+r+c+k/w) (k%w) Q H):IH K a [.ref p,.int k] H Q E:=x6 p n r c w k ⟨rfl,b,L,q⟩
def cA(b:DH K a)(L:LayAt a H p n r c w)(q:G0 (n+r+c+r+k/w) (k%w) Q H):HG K a [.ref p,.int k] H Q E:=x6 p n r c w k ⟨rfl,b,L,q⟩
end
theorem cB:∀ {l:wE},(∀ k∈l,f k=g k)->l.find? f=l.find? g
 | [],_=>rfl
 |k::l,h=>by
  rw[He,He,h k aa,cB λc b=>h c<|ω _ b]
def Jw(h:∀ k<m,f k=g k):D3 f m=D3 g m:=by
 unfold D3;rw[cB λk b=>h k<|ao.mp b]
section
variable{X:SX}{cs:yE}{tks:vC}{M:Hs}
def SM.free(I:X.at a H cs tks M){kind:Nat}(d:kind<3):D3 (MO cs X.rows X.n X.r X.c X.w kind) (A0 X.n X.r X.c X.w kind)=DV M kind (A0 X.n X.r X.c X.w kind):=Jw λk c=>by
 let[v,g,b]:=I.val (oA d rfl) c;unfold MO;rw[g];cases e:M _ k with
 |no=>rw[e]at b;rw[b];simp[LE,EG]
 |nm z r=>rw[e]at b;let[t,rfl,y]:=b;simp[LE,EG]
 |mk i =>
  rw[e]at b;rw[b];simp[LE,EG]
 |rc m ps=>rw[e]at b;revert b;apply u2;intro t u [rfl,y];simp[LE,EG]
 |tx z=>rw[e]at b;rw[b];simp[LE,EG]
def Jx(h:cellOf M m z=some cell):cell<m/\∃ k,M 0 cell=.nm z k:=by
 have h2:=Hf h;unfold C8 at h2;refine{(ao.mp<|wn h),?_};cases e:M 0 _ with
 |nm b k =>
  rw[e]at h2;simp at h2;exact{k,by rw[h2]}
 |_=>rw[e]at h2;simp at h2
def UP{kind:Nat}(d:CM K a)(I:X.at a H cs tks M)(c:kind<3)(q:∀ k:Nat,DV M kind (A0 X.n X.r X.c X.w kind)=k->k<A0 X.n X.r X.c X.w kind->∀ b,Same H b->Q (.int k) b)(g:DV M kind (A0 X.n X.r X.c X.w kind)= -1->E9 a H "NoRoom" E):TR kind K a X.S.lp X.S.A.b H Q E:=by
 let[l,n,o,r,u]:=I.sz;let[T,TP,w,TS]:=d;refine x9 _ _ _ _ _ _ _ cs _ {rfl,T,TP,w,I.ly,l,n,o,r,I.bk,u,λi j v x=>bW I.gd x,λk e b s=>?_,λe b s=>?_};rw[I.free c]at e;exact q k e (zw9 e) b s;rw[I.free c]at e;exact g e b s
end
example:(zxg,LH,aR,2):=by
 apply u5;intro X cs i M b [rfl,[T,TP,j,TS],I,l,q];let[B,c]:=I.ob;let[dl,n]:=I.ly.ob;let[D,r]:=I.bk.bk.ob
 have d:b<A0 X.n X.r X.c _ 3:=l;erw[aR,aR0_];refine KN TS (c) (r) (DM) (JL TS (c) (n) (BM) (LS j (I.ly) λu s=>?_))
 have e:=AI (o:=.tup [.int (X.n+b/X.w),.int<|b%X.w]) s;refine x9 _ _ _ _ cs _ u _ _ {rfl,T,TP,I.bk.same e,by rw[AD];simp[AX],λy v w x A=>?_,λz=>absurd (I.onPl  (by decide) d) z}
 have g:=e.trans A;exact q v w ((I.rp 3 _ v (by decide) d x).keep g.tk) g
example:(zxh,MP,Dc,3):=by
 apply u5;intro X cs o M z [rfl,d,I,q,r];let[y,g]:=I.ob;refine y2 {g,CK,x5 X cs _ M z {rfl,d,I,λA b=>?_}};cases e:cellOf M _ z with
 |none =>
  exact{by decide,r e _ b}
 |some cell =>
  let[i,k,j]:=Jx e;refine y2 {b _ _ g,CK,x4 X cs _ M {rfl,d,I.same b,λl xs B s u v w=>?_}}
  have ex:=ζ (by rw[v];exact i)
  have n:=w _ _ ex;rw[j]at n;let[t,x,c]:=n;exact CI (SqL.of u) rfl ex (by rw[x];exact BI c  rfl rfl (q _ k e i j _<|b.trans s))
def Jy{X:SX}{cs:yE}{g:vC}{M:Hs}{cell c need:Nat}{z:Str}{nl:Addr}{ns:vE}{i:Hp}(y:CM K a)(I:X.at a H cs g M)(N:cell<X.m0)(j:cs.length<980)(hz:gu z=true)(s:Same H i)(O:i nl=some (.lst<|ns.map V.int))(U:ns.length<=60)(Y:∀ x∈ns,known cs x)
  (q:TZ X a H cs g (M.put 0 cell (.nm z c) (D9 ns)) Q) :
  aT3 K a (λ_=>E) (λ_=>E) (AW Q) [some (.ref X.S.st),some<|.int cell,some<|.str z,some<|.int c,some<|.int need,some<|.ref nl] i:=by
 have l:=y;let[T,TP,TL,TS]:=y;let[dx,A]:=I.ob;let[dl,el]:=I.ly.ob;let[db,eb]:=I.bk.bk.ob;erw[aT3_];refine KN TS (s _ _ A) (s _ _ eb) (DM) (JL TS (s _ _ A) (s _ _ el) (BM) (RH TL (I.ly.same s) λu B=>?_))
 have r:=s.trans<|AI (o:=.tup [.int (0+cell/X.w),.int<|cell%X.w]) B
 have w:upd i u (.tup [.int (0+cell/X.w),.int<|cell%X.w]) u=some (.tup [.int (AX X.n X.r X.c X.w 0 cell),.int<|cell%X.w]):=by rw[AD];simp[AX]
 have d:=AI (o:=.tup [.int (0+cell/X.w),.int<|cell%X.w]) B _ _ O;revert r w d;generalize upd i u _=H3;refine λr w d=>{by decide,λt ht=>?_}
 have st:=AI (o:=.tup [V.str z,V.int c]) ht
 have D:=r.trans st
 have J:upd H3 t _ t=some (.tup [V.str z,V.int c]):=AD;refine IN l (I.same D)  (x:=.nm z _) (by decide) (N) (st _ _ w) (st _ _ d) U (oA j rfl) Y {_,J,by simp,λv L=>?_} ⟨t,rfl,J⟩ trivial λch H' I' sb=>q ch H' I' λb o e n=>sb _ _ (D _ _ e) n;simp only[af,ca,or_false]at L;let rfl||rfl:=L
 exact hz
 trivial
example:(zxi,T2,aT,6):=by
 apply u8;intro X cs i M cell u need z [rfl,[T,TP,l,TS],I,n,w,b,hz,q];let[A,r]:=I.ob;erw[aT,aT0_];refine{by decide,λnl c=>?_}
 have d:=AI (o:=.lst [V.int need]) c;refine y3 {d _ _ r,TS.cl,TS.n3,_,bZ,_,dS<|d _ _ I.tk,?_}
 have j:upd H nl _ nl=some (.lst [V.int need]):=AD
 have s:known cs _:={i0,ck.mpr w}
 cases e:A8 i _ with
 |none =>
  rw[show DQ _ z=[] by unfold DQ;rw[e]]at q;exact Jy (ns:=[need]) ⟨T,TP,l,TS⟩ I n b hz d j (by simp) (λx g=>by rw[τ.mp g];exact s) q
 |some v =>
  let[k,rfl,y]:=I.tv z v e;rw[show DQ _ z=[k] by unfold DQ;rw[e];rfl]at q;refine{.inl {rfl,_,SqL.of j},y3 {d _ _ r,TS.cl,TS.n3,_,bZ,_,QC (d _ _ I.tk) e,{_,j,(by show 1<sizeLine;decide),?_}}};rw[HU];refine Jy (ns:=[need,k]) ⟨T,TP,l,TS⟩ I n b hz (AI c) AD (by simp) (λx g=>?_) q;simp only[af,ca,or_false]at g;let rfl||rfl:=g
  exact s;exact{i0,ck.mpr y}
def zxj(ps:wE):∀ v∈AQ ps,GoodV (n+1) H v:=λv b=>by
 let[p,z,rfl]:=az.mp b
 trivial
def cC{H:Hp}{t u:Addr}{m:Nat}{ps:wE}(h1:H t=some (.tup [.int m,.ref u]))(h2:H u=some (.tup<|AQ ps))(c:ps.length<=100):GoodV 4 H (.ref t):=⟨_,h1,by simp,λv b=>by
 simp only[af,ca,or_false]at b;let rfl||rfl:=b
 trivial
 exact{_,h2,by simp[AQ];exact c,zxj ps}⟩
example:(zxk,QZ,Ck,5):=by
 apply OT;intro X cs Y M c m i more ps nl ns [rfl,B,I,D,eM,j,l,en,hl,kn,r,q]
 have g:=B;let[T,TP,TL,TS]:=B;let[dx,w]:=I.ob;let[dl,el]:=I.ly.ob;let[db,eb]:=I.bk.bk.ob;refine y2 {w,CK,x5 X cs _ M _ {rfl,g,I,D,λv J L s=>?_}};rw[eM]at L;revert L;apply u2;intro t0 y [rfl,N,HR];erw[Ck1_];refine KN TS (s _ _ w) (s _ _ eb) (DM) (JL TS (s _ _ w) (s _ _ el) (BM) (LS TL (I.ly.same s) λu hu=>?_))
 have d:=AI (o:=.tup [.int (X.n+c/X.w),.int<|c%X.w]) hu
 have z:upd J u (.tup [.int (X.n+c/X.w),.int<|c%X.w]) u=some (.tup [.int (AX X.n X.r X.c X.w 3 c),.int<|c%X.w]):=by rw[AD];simp[AX]
 revert d z;generalize upd J u _=H2;refine λd z=>BI (d _ _ N)  rfl rfl (BI (d _ _ N)  rfl rfl {by decide,λt ht=>?_});rw[j]
 have st:=AI (o:=.tup [V.int i,V.ref y]) ht
 have A:=(s.trans d).trans st
 have O:upd H2 t _ t=some (.tup [V.int i,V.ref y]):=AD
 have U:=st _ _<|d _ _ HR;exact IN g (I.same A)  (x:=.rc i ps) (by decide) (D) (st _ _ z) (A _ _ en) hl (oA r rfl) kn (cC O U l) (x2 t y ⟨rfl,O,U⟩) trivial λch H' I' sb=>q ch H' I' λb o e n=>sb _ _ (A _ _ e) n
example:(zxl,T5,bA,4):=by
 apply OT;intro X cs N M c m ps O j nl ns [rfl,z,I,A,U,l,r,Y,hl,kn,s,q]
 have d:=z;let[T,TP,TL,TS]:=z;let[dx,w]:=I.ob;let[dl,el]:=I.ly.ob;let[db,eb]:=I.bk.bk.ob;erw[bA,bA0_];refine KN TS (w) (eb) (DM) (JL TS (w) (el) (BM) (LS TL (I.ly) λu hu=>?_))
 have g:=AI (o:=.tup [.int (X.n+c/X.w),.int<|c%X.w]) hu
 have y:upd H u (.tup [.int (X.n+c/X.w),.int<|c%X.w]) u=some (.tup [.int (AX X.n X.r X.c X.w 3 c),.int<|c%X.w]):=by rw[AD];simp[AX]
 revert g y;refine λg y=>y2 {g _ _ w,CK,x5 X cs _ M _ {rfl,d,I.same g,A,λv H3 B D=>?_}};rw[U]at B;revert B;apply u2;intro t0 u0 [rfl,ES,HR];refine BI ES  rfl rfl {by decide,λt ht=>?_}
 have st:=AI (o:=.tup [V.int m,V.ref j]) ht
 have i:=(g.trans D).trans st
 have J:upd H3 t _ t=some (.tup [V.int m,V.ref j]):=AD
 have L:=i _ _ l;exact IN d (I.same i)  (x:=.rc m _) (by decide) (A) (st _ _<|D _ _ y) (i _ _ Y) hl (oA s rfl) kn (cC J L r) (x2 t j ⟨rfl,J,L⟩) trivial λch H' I' sb=>q ch H' I' λb o e n=>sb _ _ (i _ _ e) n
theorem MY{α b c :Type}{F: α -> b ->Prop}{G: α -> c ->Prop}{f: b -> c}:∀ {l:List α} {m:List b},Paired F l m->(∀ x y,F x y->G x (f y))->Paired G l (m.map f)
 |_,_,.nil,_=>.nil
 |_,_,.cons h t,k=>.cons (k _ _ h) (MY t k)
def zxm{j:TE}{l:wE}{d:St}{b:Addr}{xs:tF}(w:xs.length<=sizeLine)(Pv:Nat->tF->Hp->Prop)(h0:Pv 0 [] H)(r:∀ i ys H,i<=xs.length->Pv i ys H->SqT K H b xs)
  (s:∀ i x ys H,xs[i]? =some x->ys.length=i->Pv i ys H->j (some x::C3 l d) H λy u=>Pv (i+1) (ys++[y]) u)
  (hd:∀ ys H,ys.length=xs.length->Pv xs.length ys H->∀ p,H p=none->Q (.ref p) (upd H p<|.lst ys)) :
  D5 (IS K b) (AG 0) CP j 1 l d H Q:=by
 refine{λi m c ys H=>m=xs.length-i/\i<=xs.length/\ys.length=i/\(∃ n,c=n::C3 _ d)/\Pv i ys H,{xs.length,rfl,aw _,rfl,⟨_,rfl⟩,h0},?_};intro i m c ys H [rfl,v,g,[n,rfl],p]
 have q:=r i ys H v p;by_cases o:i<xs.length;refine .inr {x2 xs (xs[i]) {q,by simp[o]},by lia,λx z y=>?_};let[rfl,y]:=y;refine{_,λy A q=>{_,by lia,rfl,o,?_,⟨_,rfl⟩,q},s i x ys _ (y xs q) g p};rw[ψ,jx,g]
 have e:i=xs.length:=by lia
 subst e;exact .inl {{xs,q,ο _},hd ys H g p}
section
variable{X:SX}{cs:yE}{tks:vC}{M:Hs}
def SM.lput{l:Addr}{xs ys:tF}(I:X.at a H cs tks M)(e:H l=some (.lst xs))(f:¬ X.S.A.F l):X.at a (upd H l<|.lst ys) cs tks M:=by
 have s:SameBut _ H (upd H l<|.lst ys):=λy o u n=>by rw[AK n];exact u
 have g:∀ x,x=l->EW _:=λx b=>by rw[b];exact NY e
 have tk:=HK s g;let[[w,j],q,B,r,D,J,L,N,O,c,d,i]:=I;let[dl,T]:=q.ob;exact{{w,s _ _ j (AZ j e (by intro z;cases z))},q.sb s (AZ T e (by intro z;cases z)),B.sb s g λx b=>by rw[b];exact f,s _ _ r (AZ r e (by intro z;cases z)),D,J,L,N,O.keep tk,λkind k v h1 h2 U=>(c _ k v h1 h2 U).keep tk,d,i.keep tk}
def SM.taken(I:X.at a H cs tks M)(r:k<cs.length)(u:tks.length<cs.length):X.at a (upd H X.S.tk<|.dK<|BL tks (.inr z) (.int k)) cs (BL tks (.inr z) (.int k)) M:=by
 have s:SameBut _ H (upd H X.S.tk<|.dK<|BL tks (.inr z) (.int k)):=λy o w n=>by rw[AK n];exact w
 have g:∀ x,x=X.S.tk->EW _:=λx b=>by rw[b];exact ML I.tk
 have tk:=HK s g;let[[A,i],j,B,l,T,D,q,J,L,c,d,e]:=I;let[dl,N]:=j.ob;refine{{A,s _ _ i (AZ i l (by intro z;cases z))},j.sb s (AZ N l (by intro z;cases z)),B.sb s g λx b=>by rw[b];exact q,AD,υ (GU ..) (u),λy v h=>?_,q,J,L.keep tk,λkind k v h1 h2 O=>(c _ k v h1 h2 O).keep tk,d,e.keep tk};rw[FT]at h;split at h;obtain rfl:=θ h;exact⟨k,rfl,r⟩;exact D y v h
end
example:(zxn,T6,bD,4):=by
 apply u8;intro X cs w M cell z nl ns [rfl,r,I,A,B,D,J,L,b,q]
 have c:=r;let[dx,g]:=I.ob;let[dl,N]:=I.ly.ob;let[T,TP,O,TS]:=r;let[db,U]:=I.bk.bk.ob;erw[bD,bD0_];refine y3 {g,TS.cl,TS.n2,_,IM,y2 {U,DM,y3 {g,TS.cl,TS.n1,_,JK,y2 {N,BM,y2 {g,CK,x5 X cs _ M z {rfl,c,I,λY s=>?_}}}}}};rw[A];refine x6 _ _ _ _ _ _ {rfl,O,I.ly.same s,λu hu=>?_}
 have i:upd Y u (.tup [.int (0+cell/X.w),.int<|cell%X.w]) u=some (.tup [.int (AX X.n X.r X.c X.w 0 cell),.int<|cell%X.w]):=by rw[AD];simp[AX]
 have d:=s.trans<|AI (o:=.tup [.int (0+cell/X.w),.int<|cell%X.w]) hu;revert i d;refine λi d=>IN c (I.same d)  (x:=.no) (by decide) (B) i (d _ _ D) J (oA b rfl) L trivial rfl trivial λch H3 j sb=>?_;let[dx3,l]:=j.ob
 have v:=I.tl;refine y3 {l,TS.cl,TS.n3,_,bZ,_,pS j.tk<|oD (cf v b) rfl,(q ch _ (j.taken (by simp) (by simp;exact sv v)) λy o e n=>?_)};rw[AK λy=>n<|.inr y];exact sb _ _ (d _ _ e) λy=>n<|.inl y
def drI(a:Ad)(X:SX)(cs:yE)(c:vC)(M:Hs)(b gone:Nat)(j d:Addr)(e:List (Nat × Nat))(l:Hp)(i:Nat)(n:St)(g:Hp):Prop:=(∃ ex,ex.length=i+1/\X.at a g (cs++ex) c ((e.take i).foldl (λ(M:Hs) (y:Nat × Nat)=>M.put y.1 y.2 (.mk 0) [cs.length]) (M.put 3 b .no [gone]))/\g d=some (.lst (AQ ((μ<|i+1).map (cs.length+·))))/\SameBut (λx=>X.S.A.F x\/x=d) l g)/\∃ o,n=[some (.ref X.S.st),some<|.int b,some<|.int gone,some<|.ref j,some<|.int cs.length,some<|.ref d,o]
example:(zxp,YN,Cw,7):=by
 apply u8;intro X cs tks M c m gone ps [rfl,T4,I,hr,eM,hg,hps,B1,hcs,q]
 have T4':=T4;let[dx,ho]:=I.ob;let[T,TP,TL,TS]:=T4;refine y2 {ho,CK,x5 X cs _ M _ {rfl,T4',I,hr,λv H1 rv s=>?_}};rw[eM]at rv;revert rv;apply u2;intro t0 u0 [rfl,ES,HR]
 have I1:=I.same s;refine BI ES  rfl rfl ?_;let[dx1,ho1]:=I1.ob;let[dl1,el1]:=I1.ly.ob;let[db1,eb1]:=I1.bk.bk.ob;erw[Cw1_];refine KN TS (ho1) (eb1) (DM) (JL TS (ho1) (el1) (BM) (LS TL (I1.ly) λu hu=>{by decide,λnl hnl=>?_}))
 have sb:=AI (o:=.lst [V.int gone]) hnl
 have eu:=sb _ _ (show upd H1 u _ u=some (.tup [.int (AX X.n X.r X.c X.w 3 c),.int<|c%X.w]) by rw[AD];simp[AX])
 have en:upd (upd H1 u<|.tup [.int (X.n+c/X.w),.int<|c%X.w]) nl _ nl=some (.lst<|[(gone:Int)].map V.int):=AD
 have s2:=(AI  hu).trans sb;revert eu en s2;refine λeu en s2=>IN T4' (I1.same s2)  (x:=.no) (by decide) (hr) eu en (by simp) (oA hcs rfl) (λx l=>by rw[τ.mp l];exact{i0,ck.mpr hg}) trivial rfl trivial λch H3 I3 RS=>?_;erw[Cw2_];refine{by decide,λml hml=>?_}
 have sm:=AI (o:=.lst [V.int cs.length]) hml
 have I4:=I3.same sm
 have fml:=I3.bk.off hml
 have eu4:=sm _ _<|(HK RS λx l=>(I1.same s2).bk.loose l) _ _ (s2 _ _ HR)
 have B:upd H3 ml _ ml=some (.lst [V.int cs.length]):=AD
 have hmlH:H ml=none:=by
  cases e:H ml with
  |none=>rfl
  |some o=>have:=RS _ _ (s2 _ _<|s _ _ e) fml;rw[hml]at this;cases this
 have sb4:SameBut _ H _:=λy o e n=>sm _ _<|RS _ _ (s2 _ _<|s _ _ e) n;revert I4 eu4 B sb4;generalize upd H3 ml _=H4;intro I4 eu4 B sb4;let[dx4,ho4]:=I4.ob;let[dl4,el4]:=I4.ly.ob;erw[Cw4_];refine .inr {{_,SqT.of eu4},zxm  (BW _ (by simp[AQ];exact oA B1 rfl)) (λi ys H'=>Same H4 H'/\∃ us:List _,ys=us.map V.ref/\Paired (λu p=>H' u=some (.tup [.int (AX X.n X.r X.c X.w 2 p),.int<|p%X.w])) us (ps.take i)) {Same.refl _,[],rfl,.nil} (λi ys H' j ⟨s',_⟩=>SqT.of<|s' _ _ eu4) (λi x ys H' l D g=>?_) (λys H' D g lc hlc=>?_)};let[s',us,ey,pu]:=g;unfold AQ at l;rw[ρ,bc]at l;let[p,ep,rfl]:=l;erw[C3];refine y3 {s' _ _ ho4,TS.cl,TS.n1,_,JK,y2 {s' _ _ el4,BM,x6 _ _ _ _ _ p {rfl,TL,I4.ly.same s',λu' J=>?_}}}
 have su:=AI (o:=.tup [.int (X.n+X.r+X.c+X.r+(p:Int)/X.w),.int<|(p:Int)%X.w]) J;refine{s'.trans su,us++[u'],by rw[ey,au];rfl,?_};rw[gk,ep];exact Paired.snoc (Paired.mapP pu λt r z=>su _ _ z) (by rw[AD];simp[AX]);let[s',us,rfl,pu]:=g;rw[show(AQ ps).length=ps.length by simp[AQ],ce]at pu
 have sc:=AI (o:=.lst<|us.map V.ref) hlc
 have s5:=s'.trans sc;refine JL TS (s5 _ _ ho4) (s5 _ _ el4) (BM) (b0 TL (I4.ly.same s5) λd hur=>{by decide,λlr hlr=>.inl ?_})
 have se:=AI (o:=.lst [V.ref d]) hlr
 have sd:=AI (o:=.tup [.int (X.n+X.r+X.c+(c:Int)/X.w),.int<|(c:Int)%X.w]) hur;refine x4 lc lr _ _ {rfl,rfl,se _ _<|sd _ _ AD,AD,BW _ (by have:=pu.length;simp;exact oA (υ (ay this) B1) rfl),λl2 DX=>?_}
 have sf':=AI (o:=.lst<|us.map V.ref++[V.ref d]) DX
 have er:upd (upd (upd (upd H' lc<|.lst<|us.map V.ref) d (.tup [.int (X.n+X.r+X.c+(c:Int)/X.w),.int<|(c:Int)%X.w])) lr (.lst [V.ref d])) l2 (.lst<|us.map V.ref++[V.ref d]) d=some (.tup [.int (AX X.n X.r X.c X.w 1 c:Nat),.int (c%X.w:Nat)]):=(se.trans sf') _ _ (by rw[AD];simp[AX])
 have sg:=(sd.trans se).trans sf'
 have hl2F:¬ X.S.A.F l2:=by
  have:=((I4.same s5).same (sd.trans se)).bk.off DX;exact this
 have L:upd (upd (upd (upd H' lc<|.lst<|us.map V.ref) d (.tup [.int (X.n+X.r+X.c+(c:Int)/X.w),.int<|(c:Int)%X.w])) lr (.lst [V.ref d])) l2 (.lst<|us.map V.ref++[V.ref d]) l2=some (.lst<|(us++[d]).map V.ref):=by rw[AD];simp
 have s6:=s5.trans sg
 have nlm:=(BG (se _ _<|sd _ _<|s5 _ _ B) DX).symm
 have PP:Paired (λu (y:Nat × Nat)=>upd (upd (upd (upd H' lc<|.lst<|us.map V.ref) d (.tup [.int (X.n+X.r+X.c+(c:Int)/X.w),.int<|(c:Int)%X.w])) lr (.lst [V.ref d])) l2 (.lst<|us.map V.ref++[V.ref d]) u=some (.tup [.int (AX X.n X.r X.c X.w y.1 y.2:Nat),.int (y.2%X.w:Nat)])) (us++[d]) (ps.map (λp=>(2,p))++[(1,c)]) :=
  Paired.snoc (MY pu λu p z=>sg _ _<|sc _ _ z) er
 revert s6 L PP;generalize upd (upd (upd (upd H' lc<|.lst<|us.map V.ref) d (.tup [.int (X.n+X.r+X.c+(c:Int)/X.w),.int<|(c:Int)%X.w])) lr (.lst [V.ref d])) l2 (.lst<|us.map V.ref++[V.ref d])=H6;intro L s6 PP;generalize us++[d]=vs at L PP
 have N:∀ y∈ps.map (λp=>(2,p))++[(1,c)],(y.1=1\/y.1=2)/\y.2<A0 X.n X.r X.c X.w y.1:=λy hy=>by
  let hy||hy:=bg.mp hy
  ·let[p,hp,rfl]:=az.mp hy;exact{.inr rfl,by simpa [A0]using hps p hp}
  ·rw[τ.mp hy];exact{.inl rfl,by simpa [A0]using hr}
 have D:(ps.map (λp=>((2:Nat),p))++[(1,c)]).length=ps.length+1:=by simp
 have O:(ps.map (λp=>(2,p))++[(1,c)]).foldl (λ(M:Hs) (y:Nat × Nat)=>M.put y.1 y.2 (.mk 0) [cs.length]) (M.put 3 c .no [gone])=((M.put 3 c .no [gone]).unmark cs.length ps).put 1 c (.mk 0) [cs.length]:=by
  rw[io,List.foldl_map];rfl
 revert N D O PP;generalize ps.map (λp=>((2:Nat),p))++[(1,c)]=w;intro PP N D O;refine(.inl ⟨{_,SqL.of L},ID (xs:=vs.map V.ref) (drI a X cs tks M c gone u0 ml w H6)
  {{[ch],rfl,I4.same s6,by rw[s6 _ _ B];simp[AQ,bq],λy o e j=>e},_,rfl} (λi σ H' j {⟨_,_,_,_,sb'⟩,_}=>SqL.of<|sb' _ _ L ?_) (λi x σ H7 l g=>?_) (λσ H7 g=>?_)⟩)
 rintro (y|y);exact hl2F y;exact nlm y;let[[ex,RV,I7,U,sb7],y6,rfl]:=g
 have hi:=(ε.mp l).1;rw[η]at hi
 have hip:i<w.length:=by rw[<-PP.length];exact hi
 have ey:=ζ hip;let[u',eu',J]:=K7 PP ey;rw[ρ,eu']at l;obtain rfl:=θ l;let[Y,hky]:=N _<|ι ey
 have etk:w.take (i+1)=w.take i++[w[i]]:=by rw[gk,ey];rfl
 revert etk Y hky J;generalize w[i]=y;intro J Y hky etk;let[dx7,ho7]:=I7.ob;let[db7,eb7]:=I7.bk.bk.ob;erw[Cw3_]
 have k67:∀ b xs,H6 b=some (.tup xs)->H7 b=some (.tup xs):=λb xs e=>sb7 _ _ e λz=>z.elim (λz=>((I4.same s6).bk.loose z).1 _ e) λz=>by rw[z,s6 _ _ B]at e;cases e
 refine{.inl {rfl,_,SqL.of U},y3 {ho7,TS.cl,TS.n2,_,IM,y2 {eb7,DM,by decide,λn8 hn8=>?_}}}
 have s8:=AI (o:=.lst [V.int cs.length]) hn8;refine IN (ns:=[(cs.length:Int)]) T4' (I7.same s8) (kind:=y.1) (x:=.mk 0) (by lia) hky (s8 _ _<|k67 _ _ J) AD (by simp) (by simp;lia) (λx l=>by rw[τ.mp l];exact{i0,by simp;lia}) trivial rfl (by let z||z:=Y<;>rw[z]<;>exact aw _) λch9 H9 I9 OP=>?_
 have em9:=OP _ _ (s8 _ _ U) fml;refine{_,em9,χ (show(AQ ((μ<|i+1).map (cs.length+·))).length<1000 by simp[AQ];lia) (by decide),({{ex++[ch9],by simp[RV],by have:=I9.lput (ys:=AQ ((μ<|i+1).map (cs.length+·))++[V.int ((cs++ex).length:Nat)]) em9 fml;rw[etk,io,<-fu];exact this,by rw[AD];simp[AQ,bq,RV],λb o e n=>?_},_,rfl})};rw[AK λz=>n<|.inr z];exact OP _ _ (s8 _ _<|sb7 _ _ e n) λz=>n<|.inl z;let[[ex,RV,I7,U,sb7],y6,rfl]:=g
 have hvl:=PP.length;rw[η,hvl,D]at RV U;rw[η,hvl,ce,O]at I7;exact q ex ml H7 hmlH U RV I7 λy o e n=>(sb7 _ _ (s6 _ _<|sb4 _ _ e n) λy'=>y'.elim n λz=>by rw[z,hmlH]at e;cases e)
def MZ{X:SX}{cs:yE}{c:vC}{M:Hs}{d:Hp}{l:Addr}(I:X.at a d cs c M)(sb:SameBut (λx=>X.S.A.F x\/x=X.S.tk) H d)(b:d l=none):H l=none:=by
 cases e:H l with
 |none=>rfl
 |some o =>
  have:=sb _ _ e λz=>z.elim (I.bk.off b) λz=>by rw[z,I.tk]at b;cases b
  rw[b]at this;cases this
example:(zxq,YO,bE,6):=by
 apply u5;intro X cs tks M z [rfl,T4,I,hzl,j,q,q1,q2,q3];let[dx,s]:=I.ob
 have c:=T4
 have hm3:A0 X.n X.r X.c X.w 3=X.r*X.w:=by simp[A0]
 erw[bE,bE0_];refine y2 {s,CK,by decide,λgl hgl=>?_}
 have s1:=AI (o:=.lst [V.str z]) hgl;refine x7 X cs _ M z gl [z] {rfl,T4,I.same s1,AD,by simp,λy hy=>by rw[τ.mp hy];exact hzl,λg v H2 w=>?_,λg H2 w=>q1 (by simpa using g) _ (s1.trans w),λg v H2 w=>q2 (by simpa using g) v _ (s1.trans w)}
 have g:B0 z=true:=by simpa using g
 have B:=s1.trans w;let[T,TP,TL,TS]:=T4;refine y3 {B _ _ s,TS.cl,TS.n1,_,JK,y3 {B _ _ s,TS.cl,TS.n2,_,IM,x2 _ _ {rfl,UP c (I.same B) (by decide) (λb D KQ H3 J=>?_) λD H3 J=>q3 g v (.inl<|D) _ (B.trans J)}}}
 have d:=B.trans J;refine y3 {d _ _ s,TS.cl,TS.n1,_,JK,y3 {d _ _ s,TS.cl,TS.n2,_,IM,x2 _ _ {rfl,UP c (I.same d) (by decide) (λcell ec BQ H4 s4=>?_) λD H3 J=>q3 g v (.inr<|D) _ (d.trans J)}}}
 have L:=d.trans s4
 have N:=I.same L;let[dl4,el4]:=N.ly.ob;let[dx4,O]:=N.ob;let[db4,eb4]:=N.bk.bk.ob;erw[bE3_];refine KN TS (O) (eb4) (DM) (JL TS (O) (el4) (BM) (b0 TL (N.ly) λu hu=>{by decide,λl0 hl0=>?_}))
 have sb:=AI (o:=.lst []) hl0
 have eu:=sb _ _ (show upd H4 u _ u=some (.tup [.int (AX X.n X.r X.c X.w 1 b),.int<|b%X.w]) by rw[AD];simp[AX])
 have r:upd (upd H4 u<|.tup [.int (X.n+X.r+X.c+b/X.w),.int<|b%X.w]) l0 _ l0=some (.lst<|([]).map V.int):=AD
 have s5:=(AI (o:=.tup [.int (X.n+X.r+X.c+b/X.w),.int<|b%X.w]) hu).trans sb;revert eu r s5;refine λeu r s5=>IN c (N.same s5)  (x:=.mk 1) (by decide) (KQ) eu r (by simp) (oA j rfl) (λx hx=>by cases hx) trivial rfl (ο _) λc1 H6 U sb6=>?_;let[dx6,Y]:=U.ob;let[dl6,el6]:=U.ly.ob;let[db6,eb6]:=U.bk.bk.ob;erw[bE4_];refine KN TS (Y) (eb6) (DM) (JL TS (Y) (el6) (BM) (LS TL (U.ly) λu2 hu2=>({by decide,λe6 he6=>{by decide,λt6 ht6=>{by decide,λl6 hl6=>?_}}})))
 have sc:=AI (o:=.tup [.int 1,.ref e6]) ht6
 have sd:=AI (o:=.lst [.int cs.length]) hl6
 have sb:=AI (o:=.tup []) he6
 have i:=(((AI  hu2).trans sb).trans sc).trans sd
 have f1:=sd _ _ (sc _ _ (sb _ _ (show upd H6 u2 _ u2=some (.tup [.int (AX X.n X.r X.c X.w 3 b),.int<|b%X.w]) by rw[AD];simp[AX])))
 have f2:=sd _ _<|sc _ _<|AD   
 have f3:=sd _ _<|AD   
 have f4:=AD (H:=upd (upd (upd H6 u2<|.tup [.int (X.n+b/X.w),.int<|b%X.w]) e6 (.tup [])) t6 (.tup [.int 1,.ref e6])) (a:=l6) (o:=.lst [.int cs.length]);revert i f1 f2 f3 f4;refine λi f1 f2 f3 f4=>IN (ns:=[cs.length]) c (U.same i)  (x:=.rc 1 []) (by decide) (by exact KQ) f1 f4 (by simp) (by simp;exact oC j rfl) (λx hx=>by rw[τ.mp hx];exact{i0,by simp;exact zo _}) (cC (ps:=[]) f3 f2 (by simp)) (x2 t6 e6 ⟨rfl,f3,f2⟩) trivial λc2 H8 I8 sb8=>?_;let[dx8,ho8]:=I8.ob
 have CC:(cs++[c1]).length=cs.length+1:=by simp
 erw[bE5_];rw[CC];refine y2 {ho8,CK,x8 X _ _ _ _ _ _ z {rfl,c,I8,BQ,by simp,by simp;exact oH j rfl,Jm g,λc3 H9 I9 OP=>{by decide,λl hl=>?_}}}
 have sl:=AI (o:=.lst [V.int cs.length,V.int<|cs.length+1,V.int<|(cs++[c1]++[c2]).length]) hl
 have sbH:SameBut (λx=>X.S.A.F x\/x=X.S.tk) H H9:=λy o e n=>OP _ _ (sb8 _ _ (i _ _<|sb6 _ _ (s5 _ _<|L _ _ e) λz=>n<|.inl z) λz=>n<|.inl z) λz=>n<|.inl z;exact q g v _ _ D ec KQ BQ _ l _ rfl (MZ I9 sbH hl) (by rw[AD];simp[AQ,bq]) (by simpa using (I9.same sl)) λy o e n=>sl _ _<|sbH _ _ e n
example:(zxr,T7,bF,6):=by
 apply u6;intro X cs tks M y z [rfl,L,I,N,O,i,q,q1,q2,q3,q4]
 have d:=L;let[dx,j]:=I.ob;erw[bF,bF0_];refine y2 {j,CK,by decide,λgl U=>?_}
 have w:=AI (o:=.lst [V.str y,V.str z]) U;refine x7 X cs _ M z gl [y,z] {rfl,L,I.same w,AD,by simp,λx B=>?_,λb r H2 s=>?_,λb H2 s=>q1 (by simpa using b) _ (w.trans s),λb r H2 s=>?_};simp only[af,ca,or_false]at B;let rfl||rfl:=B
 exact N;exact O
 have b:B0 y=true/\B0 z=true:=by simpa using b
 have D:=w.trans s;let[T,TP,TL,TS]:=L;refine y2 {D _ _ j,CK,x5 X cs _ M y {rfl,d,I.same D,λold rec J Y eM H3 u=>?_,λJ H3 u=>q3 b.1 b.2 r J _<|D.trans u}}
 have c:=D.trans u;refine y3 {c _ _ j,TS.cl,TS.n1,_,JK,y3 {c _ _ j,TS.cl,TS.n2,_,IM,x2 _ _ {rfl,UP d (I.same c) (by decide) (λcell ec BQ H4 s4=>?_) λer H3 u=>q4 b.1 b.2 r ⟨_,J⟩ (er) _ (c.trans u)}}};let[hr,m,ps,eR,hps,q]:=q b.1 b.2 r _ _ _ J Y eM
 have g:=c.trans s4;refine y2 {g _ _ j,CK,by decide,λl0 hl0=>?_}
 have s5:=AI (o:=.lst []) hl0;refine HS X cs _ M _ m _ 1 ps l0 [] {rfl,d,(I.same g).same s5,hr,eR,rfl,hps,AD,by simp,(λx B=>by cases B),oA i rfl,λc1 H6 I6 sb6=>?_};let[dx6,ho6]:=I6.ob;erw[bF4_];refine y2 {ho6,CK,x8 X _ _ _ _ _ _ z {rfl,d,I6,BQ,by simp,by simp;exact oC i rfl,Jm b.2,λc2 H7 I7 sb7=>{by decide,λl hl=>?_}}}
 have sl:=AI (o:=.lst [V.int cs.length,V.int<|(cs++[c1]).length]) hl
 have v:SameBut (λx=>X.S.A.F x\/x=X.S.tk) H H7:=λy o e n=>sb7 _ _ (sb6 _ _ (s5 _ _<|g _ _ e) λz=>n<|.inl z) λz=>n<|.inl z;exact q ec BQ _ l _ rfl (MZ I7 v hl) (by rw[AD];simp[AQ,bq]) (by simpa using (I7.same sl)) λy o e n=>sl _ _<|v _ _ e n
 have b:B0 y=true/\B0 z=true:=by simpa using b
 exact q2 b.1 b.2 r _<|w.trans s
def zxs(n d:Nat):AQ ((μ<|d+1).map (n+·))=[V.int n]++AQ ((μ d).map (n+1+·)):=by
 rw[yf];simp[AQ,dv,s_ 1]
example:(zxt,YQ,Eb,4):=by
 apply u5;intro X cs tks M z [rfl,s,I,g,q,q1];let[dx,ho]:=I.ob;refine y2 {ho,CK,x5 X cs _ M z {rfl,s,I,λcell rec ec BQ eM H1 J=>?_,λeo H3 s3=>q1 eo _ s3}};let[L,m,ps,eR,N,B1,q2,q3]:=q _ _ ec BQ eM;refine y2 {J _ _ ho,CK,by decide,λl0 O=>?_}
 have s2:=AI (o:=.lst []) O;refine x8 X cs _ M _ z l0 [] {rfl,s,(I.same J).same s2,ec,BQ,AD,by simp,(λx T=>by cases T),oA g rfl,λU H3 Y RS=>?_}
 have sb:SameBut (λx=>X.S.A.F x\/x=X.S.tk) H H3:=λy o e n=>RS _ _ (s2 _ _<|J _ _ e) n
 have i:(M.put 0 cell .no<|D9 []) 3 _=.rc m ps:=eR;let[dx3,j]:=Y.ob;refine y2 {j,CK,x5 X _ _ _ _ {rfl,s,Y,L,λv H4 rv u=>?_}};rw[i]at rv;revert rv;apply u2;intro t0 u0 [rfl,ES,HR]
 have I4:=Y.same u;refine BI ES  rfl rfl ?_;erw[];split;rename_i hm;erw[Eb2_];refine y2 {u _ _ j,CK,by decide,λl5 c=>?_}
 have r:=AI (o:=.lst [V.int cs.length]) c;refine HS X _ _ _ _ m (m-1) _ ps l5 [cs.length] {rfl,s,I4.same r,L,i,by lia,oA B1 rfl,AD,by simp,(λx T=>by rw[τ.mp T];exact{i0,by simp;exact zo _}),by simp;exact oC g rfl,λc2 H6 w d=>{by decide,λl hl=>?_}}
 have B:=AI (o:=.lst [V.int cs.length,V.int<|(cs++[U]).length]) hl
 have b:SameBut (λx=>X.S.A.F x\/x=X.S.tk) H H6:=λy o e n=>d _ _ (r _ _<|u _ _<|sb _ _ e n) λz=>n<|.inl z;exact q2 (ck.mp hm) _ l _ rfl (MZ w b hl) (by rw[AD];simp[AQ,bq]) (by simpa using (w.same B)) λy o e n=>B _ _<|b _ _ e n;erw[Eb4_];refine{by decide,λl5 c=>?_}
 have r:=AI (o:=.lst [V.int cs.length]) c;refine y2 {r _ _<|u _ _ j,CK,x8 X _ _ _ _ m _ ps {rfl,s,(I4.same r),L,i,by simp,N,B1,by simp;exact oC g rfl,λex l H6 hl6 el6 hex w d=>.inl (x4 l5 l _ _ {rfl,rfl,d _ _ AD<|I4.bk.off c,el6,BW _ (by simp[AQ];lia),λl7 D=>?_})}}
 have B:=AI (o:=.lst ([V.int cs.length]++AQ ((μ<|ps.length+2).map ((cs++[U]).length+·)))) D
 have b:SameBut (λx=>X.S.A.F x\/x=X.S.tk) H H6:=λy o e n=>d _ _ (r _ _<|u _ _<|sb _ _ e n) λz=>n<|.inl z;exact q3 (by lia) (U::ex) l7 _ (by simp[hex]) (MZ w b D) (by rw[AD,zxs _<|ps.length+2];simp) (by simpa using (w.same B)) λy o e n=>B _ _<|b _ _ e n
def cat_tup(h1:H b=some (.tup xs))(h2:H d=some (.tup ys))(i:ys≠[])(j:xs.length+ys.length<=1000)(q:∀ p c,Same H c->c p=some (.tup<|xs++ys)->Q (.ref p) c):BN K (.ref b) (.ref d) H Q:=by
 by_cases g:xs=[];subst g;exact .inr<|.inr<|x3 b d ys {rfl,rfl,SqT.of h1,SqT.of h2,q d H (Same.refl _) h2};exact .inr<|.inl<|x4 b d xs ys {rfl,rfl,SqT.of h1,SqT.of h2,g,BW _<|oA j rfl,λe=>absurd e i,λz p l=>q p _ (AI l) AD}
example:(zxu,YR,Eh,7):=by
 apply u6;intro X cs tks M z t [rfl,T4,I,htl,hts,g,q,q1,q2,q3]
 have b:=T4;let[dx,ho]:=I.ob;refine y2 {ho,CK,x5 X cs _ M z {rfl,T4,I,λcell rec ec BQ eM H1 s1=>?_,λeo H3 s3=>q1 eo _ s3}};let[T,TP,TL,TS]:=T4;refine{t,rfl,htl,λH2 s2=>?_}
 have c:=s1.trans s2;cases hb:LG t with
 |false =>
  exact{by decide,q2 ⟨_,ec⟩ hb _ c}
 |true =>
  refine y3 {c _ _ ho,TS.cl,TS.n1,_,JK,y3 {c _ _ ho,TS.cl,TS.n2,_,IM,x2 _ _ {rfl,UP b (I.same c) (by decide) (λp ep B1 H4 s4=>?_) λer H3 s3=>q3 ⟨_,ec⟩ hb (er) _ (c.trans s3)}}};let[hr,m,ps,eR,r,q]:=q _ _ ec BQ eM hb p ep B1
  have s:=c.trans s4
  have w:=I.same s;let[dx4,B]:=w.ob;let[dl4,el4]:=w.ly.ob;let[db4,eb4]:=w.bk.bk.ob;erw[Eh4_];refine KN TS (B) (eb4) (DM) (JL TS (B) (el4) (BM) (cA TL (w.ly) λu hu=>{by decide,λl0 hl0=>?_}))
  have sb:=AI (o:=.lst []) hl0
  have j:=AI (o:=.tup [.int (X.n+X.r+X.c+X.r+p/X.w),.int<|p%X.w]) hu
  have eu:=sb _ _ (show upd H4 u _ u=some (.tup [.int (AX X.n X.r X.c X.w 2 p),.int<|p%X.w]) by rw[AD];simp[AX])
  have i:upd (upd H4 u<|.tup [.int (X.n+X.r+X.c+X.r+p/X.w),.int<|p%X.w]) l0 _ l0=some (.lst<|([]).map V.int):=AD
  have s5:=j.trans sb;revert eu i s5;refine λeu i s5=>IN b (w.same s5)  (x:=.mk 1) (by decide) (B1) eu i (by simp) (oA g rfl) (λx D=>by cases D) trivial rfl (ο _) λc1 H6 J sb6=>?_;let[dx6,L]:=J.ob;let[dl6,el6]:=J.ly.ob;let[db6,eb6]:=J.bk.bk.ob;erw[Eh5_];refine KN TS (L) (eb6) (DM) (JL TS (L) (el6) (BM) (Jv TL (J.ly) λu2 hu2=>{by decide,λl6 hl6=>?_}))
  have sb:=AI (o:=.lst [.int cs.length]) hl6
  have f1:=sb _ _ (show upd H6 u2 _ u2=some (.tup [.int (AX X.n X.r X.c X.w 4 p),.int<|p%X.w]) by rw[AD];simp[AX])
  have j:=AI (o:=.tup [.int (X.n+X.r+p/X.w),.int<|p%X.w]) hu2
  have f4:=AD (H:=upd H6 u2<|.tup [.int (X.n+X.r+p/X.w),.int<|p%X.w]) (a:=l6) (o:=.lst [.int cs.length])
  have d:=j.trans sb;revert d f1 f4;refine λf1 f4 d=>IN (ns:=[cs.length]) b (J.same d)  (x:=.tx t) (by decide) (by exact B1) f1 f4 (by simp) (by simp;exact oC g rfl) (λx D=>by rw[τ.mp D];exact{i0,by simp;exact zo _}) hts rfl trivial λc2 H8 I8 sb8=>?_;let[dx8,N]:=I8.ob
  have O:((M.put 2 p (.mk 1) (D9 [])).put 4 p (.tx t) (D9 [cs.length])) 3 rec=.rc m ps:=eR;erw[Eh6_];refine y2 {N,CK,y2 {N,CK,x5 X _ _ _ _ {rfl,b,I8,hr,λv H9 rv s9=>?_}}};rw[O]at rv;let[t0,u0,rfl,ES,HR]:=rv;refine BI ES  rfl rfl {by decide,λt9 ht9=>?_}
  have j:=AI (o:=.tup [V.int p]) ht9;refine cat_tup (j _ _ HR) AD (by simp) (by simp[AQ];exact oA r rfl) λpp H10 s10 epp=>{by decide,λl10 U=>?_}
  have sc:=AI (o:=.lst [V.int ((cs++[c1]).length)]) U
  have c:=((s9.trans j).trans s10).trans sc;refine HS X _ _ _ _ m ps (ps++[p]) pp _ [((cs++[c1]).length)] {rfl,b,I8.same c,hr,O,sc _ _ (by rw[epp];simp[AQ]),by simp;exact oA r rfl,AD,by simp,(λx D=>by rw[τ.mp D];exact{i0,by simp}),by simp;exact oH g rfl,λc3 H13 Y sb13=>{by decide,λl hl=>?_}}
  have sl:=AI (o:=.lst [V.int cs.length,V.int<|(cs++[c1]).length,V.int<|(cs++[c1]++[c2]).length]) hl
  have sbH:SameBut (λx=>X.S.A.F x\/x=X.S.tk) H _:=λy o e n=>sb13 _ _ (c _ _<|sb8 _ _ (d _ _<|sb6 _ _ (s5 _ _<|s _ _ e) λz=>n<|.inl z) λz=>n<|.inl z) λz=>n<|.inl z;exact q _ l _ rfl (MZ Y sbH hl) (by rw[AD];simp[AQ,bq]) (by simpa using (Y.same sl)) λy o e n=>sl _ _<|sbH _ _ e n
def Jz(h1:H b=some (.tup xs))(h2:H d=some (.tup ys))(g:xs.length+ys.length<=1000)(q:∀ p c,Same H c->c p=some (.tup<|xs++ys)->Q (.ref p) c):BN K (.ref b) (.ref d) H Q:=by
 by_cases i:ys=[];subst i;by_cases j:xs=[];subst j;exact .inr<|.inr<|x3 b d [] {rfl,rfl,SqT.of h1,SqT.of h2,q d H (Same.refl _) h2};exact .inr (.inl (x4 b d xs [] {rfl,rfl,SqT.of h1,SqT.of h2,j,BW _<|oA g rfl,λz=>q b H (Same.refl _) (by rw[h1];simp),λe=>absurd rfl e}));exact cat_tup h1 h2 i g q
example:(zxv,YS,El,6):=by
 apply u6;intro X cs tks M z x [rfl,w,I,b,q,q1]
 have c:=w;let[dx,L]:=I.ob;refine y2 {L,CK,x5 X cs _ M z {rfl,w,I,λcell N ec BQ eM H1 O=>?_,λeo H3 s3=>q1 eo _ s3}};let[hr,m,ps,eR,hps,q2,q3]:=q _ _ ec BQ eM;refine y2 {O _ _ L,CK,x5 X cs _ M N {rfl,w,I.same O,hr,λv H2 rv s2=>?_}};rw[eR]at rv;revert rv;apply u2;intro t0 u0 [rfl,ES,B]
 have D:=O.trans s2;refine BI ES  rfl rfl ?_;erw[El3_];split;rename_i h0;refine{ps.length,.inr {_,SqT.of B,by simp[AQ]},?_};split;exact{by decide,q2 (by lia) _ D};obtain⟨k,rfl⟩:∃ k:Nat,x=k:={_,(di h0).symm}
 have U:k<ps.length:=by lia
 have ek:=ζ U;let[hp,q3]:=q3 k _ rfl ek
 have e1:HT.sIx (AQ ps).length (AQ ps).length (some k)=k:=by
  simp[AQ];exact j_<|ig U
 refine y2 {D _ _ L,CK,?_}
 have e2:HT.sIx (AQ ps).length 0 (some<|k+1)=k+1:=by
  simp[AQ];exact j_ U
 have hnl:(AQ ps).length=ps.length:=by simp[AQ]
 refine .inr (x2 u0 _ {rfl,SqT.of B,λy=>by lia,λp1 GR=>?_})
 have J:=AI (o:=.tup<|EU (AQ ps) none (some k)) GR;refine .inr (x2 u0 _ {rfl,SqT.of<|J _ _ B,λy=>by lia,λp2 ER=>?_})
 have sb:=AI (o:=.tup<|EU (AQ ps) (some<|k+1) none) ER
 have Y:EU (AQ ps) none (some k)=AQ (ps.take k):=by rw[rP _ (i0),bv];simp[AQ]
 have c2:EU (AQ ps) (some<|k+1) none=AQ (ps.drop<|k+1):=by rw[XI _ (by exact i0)];simp[AQ]
 rw[Y,c2]at sb;rw[Y]at J;rw[Y,c2];refine Jz (sb _ _ AD) AD (by simp[AQ];lia) λpp H5 s5 epp=>{by decide,λl5 hl5=>?_}
 have sc:=AI (o:=.lst []) hl5
 have s6:=(((D.trans J).trans sb).trans s5).trans sc;refine HS X cs _ M _ m ps (ps.eraseIdx k) pp l5 [] {rfl,c,I.same s6,hr,eR,sc _ _ (by rw[epp,iu];simp[AQ]),(by rw[List.length_eraseIdx];split<;>lia),AD,by simp,(λx d=>by cases d),oA b rfl,λg H7 i j=>?_};let[T,TP,TL,TS]:=w;let[dx7,r]:=i.ob;let[dl7,el7]:=i.ly.ob;let[db7,eb7]:=i.bk.bk.ob;erw[El5_]
 have hm2:A0 X.n X.r X.c X.w 2=X.c*X.w:=by simp[A0]
 refine y3 {r,TS.cl,TS.n2,_,IM,y2 {eb7,DM,y3 {r,TS.cl,TS.n1,_,JK,y2 {el7,BM,BI ((HK j λx d=>(I.same s6).bk.loose d) _ _ ((((J.trans sb).trans s5).trans sc) _ _ B)) (n:=k) rfl (by unfold AQ;rw[ρ,ek];rfl) (x6 X.S.lp X.n X.r X.c X.w (ps[k]) {rfl,TL,i.ly,λu hu=>{by decide,λl8 hl8=>?_}})}}}}
 have se:=AI (o:=.lst [.int cs.length]) hl8
 have sd:=AI (o:=.tup [.int (X.n+X.r+X.c+X.r+(ps[k]:Int)/X.w),.int<|(ps[k]:Int)%X.w]) hu;refine IN (ns:=[(cs.length:Int)]) c (i.same<|sd.trans se) (kind:=2) (x:=.mk 0) (by decide) (by rw[hm2];exact hp) (se _ _ (show upd H7 u (.tup [.int (X.n+X.r+X.c+X.r+(ps[k]:Int)/X.w),.int<|(ps[k]:Int)%X.w]) u=some (.tup [.int (AX X.n X.r X.c X.w 2 ps[k]:Nat),.int (ps[k]%X.w:Nat)]) by rw[AD];simp[AX])) AD (by simp) (by simp;exact oC b rfl) (λx d=>by rw[τ.mp d];exact{i0,by simp;exact zo _}) trivial rfl (aw _) λc2' H9 I9 OP=>{by decide,λl hl=>?_}
 have sl:=AI (o:=.lst [V.int cs.length,V.int ((cs++[g]).length:Nat)]) hl
 have s:SameBut (λx=>X.S.A.F x\/x=X.S.tk) H H9:=λy o e n=>OP _ _ ((sd.trans se) _ _ (j _ _ (s6 _ _ e) λz=>n<|.inl z)) λz=>n<|.inl z;exact q3 [g,c2'] l _ rfl (MZ I9 s hl) (by rw[AD];simp[AQ,bq]) (by have:=I9.same sl;simpa using this) λy o e n=>sl _ _<|s _ _ e n;exact{by decide,q2 (by lia) _ D}
def OE{f:xD}{m k:Nat}(h:D3 f m=k):f k=true:=by
 unfold D3 at h;cases e:(μ m).find? f with
 |none=>rw[e]at h;simp at h
 |some b =>
  rw[e]at h
  have:=Hf e
  have  :=bh h;subst this
  assumption
def zxw(b:y≠z)(d:EG 0 (M 0 cell)=true):cellOf ((M.put 3 c x i).put 0 cell (.nm z c) j) m y=cellOf M m y:=by
 refine cB λk v=>?_;unfold C8;by_cases g:k=cell;subst g;rw[Hs.put_at];cases e:M 0 k with
 |nm l n=>rw[e]at d;simp[EG]at d
 |_=>simp;exact λh=>b h.symm
 rw[Hs.put_at,if_neg<|λz=>g z.2,Hs.put_at,if_neg<|nE rfl]
example:(zxx,YT,Ew,6):=by
 apply u6;intro X cs j M y z [rfl,T,I,hyl,hzl,d,q,q1,q2,q3,q4];let[dx,ho]:=I.ob;refine y2 {ho,CK,x6 X cs _ M y z {rfl,T,I,hyl,hzl,oA d rfl,λhy hz hc old c cell U r e0=>?_,q1,q2,q3,q4}};let[hr,m,ps,e3,s,q]:=q hy hz hc _ _ _ U r e0;refine{hr,x2 m ps {e3,s,λec BQ ex l1 H1 hex DO u I1 sb1=>?_}}
 have fc:=OE ec
 have e01:((M.put 3 c (.rc (m+1) ps) []).put 0 cell (.nm z c) (cs.length::DQ j z)) 0 old=.nm y c:=by rw[Hs.put_at,if_neg (λz=>(λh=>by rw[<-h,e0]at fc;simp[EG]at fc) z.2)];exact e0
 have g:cellOf ((M.put 3 c (.rc (m+1) ps) []).put 0 cell (.nm z c) (cs.length::DQ j z)) X.m0 y=some old:=by rw[zxw (λh=>by rw[h,hc]at U;cases U) fc];exact U
 let[dx1,w]:=I1.ob
 have i:¬ X.S.A.F l1/\l1≠X.S.tk:={λz=>(I.bk.off DO) z,λz=>by rw[z,I.tk]at DO;cases DO}
 refine y2 {w,CK,x5 X _ _ _ y {rfl,T,I1,λcell' k' B hc' D H2 J=>?_,λe=>by rw[g]at e;cases e}};rw[g]at B;obtain rfl:=θ B;rw[e01]at D;cases D;erw[Ew2_];refine y2 {J _ _ w,CK,CI (SqL.of<|J _ _ u)  (v:=.int<|cs.length+1) rfl (by simp[AQ]) {by decide,λl3 hl3=>?_}}
 have s3:=AI (o:=.lst [V.int (cs.length+1)]) hl3;refine x8 X _ _ _ _ y l3 [((cs.length+1))] {rfl,T,((I1.same J).same s3),g,r,AD,by simp,(λx hx=>by rw[τ.mp hx];exact{i0,by simp[hex]}),by simp[hex];exact oH d rfl,λc3 H4 I4 L=>?_};let[dx4,ho4]:=I4.ob
 have CC:(cs++ex).length=cs.length+2:=by simp[hex]
 rw[CC];erw[Ew3_];refine y2 {ho4,CK,by decide,λl5 hl5=>?_}
 have s5:=AI (o:=.lst [V.int (cs.length+2)]) hl5;refine HS X _ _ _ _ _ m _ ps l5 [((cs.length+2))] {rfl,T,I4.same s5,hr,(by rw[Hs.put_at,if_neg<|nE rfl];exact(by rw[Hs.put_at,if_neg<|nE rfl,Hs.put_at,if_pos ⟨rfl,rfl⟩])),by lia,s,AD,by simp,(λx hx=>by rw[τ.mp hx];exact{i0,by simp[hex]}),by simp[hex];exact oH d rfl,λc4 H6 I6 N=>{by decide,λl6 hl6=>.inl ?_}}
 have Y:=AI (o:=.lst [V.int (cs.length+2),V.int<|(cs++ex++[c3]).length]) hl6;refine x4 l1 l6 _ _ {rfl,rfl,Y _ _<|N _ _ (s5 _ _<|L _ _ (s3 _ _<|J _ _ u) λz=>z.elim i.1 i.2) i.1,AD,BW _ (by simp[AQ]),λl hl=>?_}
 have sl:=AI (o:=.lst (AQ ((μ 2).map (cs.length+·))++[V.int (cs.length+2),V.int<|(cs++ex++[c3]).length])) hl
 have h2:((cs.length:Int)+2).toNat=cs.length+2:=rfl
 have O:SameBut (λx=>X.S.A.F x\/x=X.S.tk) H _:=λb o e n=>Y _ _<|N _ _ (s5 _ _<|L _ _ (s3 _ _<|J _ _<|sb1 _ _ e n) n) λz=>n<|.inl z;exact(q ec BQ) (ex++[c3]++[c4]) l _ (by simp[hex]) (MZ (I6.same Y) O hl) (by rw[AD];simp[AQ,bq,hex]) (by simpa [hex,h2]using ((I6.same Y).same sl)) λb o e n=>sl _ _<|O _ _ e n
theorem Kb(C d:xD)(g:∀ j,C j=true->d j=true)(kind k:Nat):∀ as:zE,(∃ x,∀ M,sh M d as kind k=x)\/((∀ M,sh M d as kind k=M kind k)/\∀ M,sh M C as kind k=M kind k)
 | []=>.inr {λ_=>rfl,λ_=>rfl}
 |b::r=>by
  have i:=Kb C d g kind k r;by_cases e:kind=b.kind/\k=b.k;let[rfl,rfl]:=e;by_cases c:d r.length=true;exact .inl {_,λM=>by rw[CJ c,CY]};let[x,h]||[h1,h2]:=i
  exact .inl {x,λM=>by rw[DU c];exact h M};exact .inr {λM=>by rw[DU c];exact h1 M,λM=>by rw[DU (λz=>c<|g _ z)];exact h2 M}
  have far:∀ (D:xD) (M:Md),sh M D _ _ k=sh M D r _ k:=λD M=>by
   by_cases c:D r.length=true;rw[CJ c];exact if_neg e;rw[DU c]
  let[x,h]||[h1,h2]:=i
  exact .inl {x,λM=>by rw[far];exact h M};exact .inr {λM=>by rw[far];exact h1 M,λM=>by rw[far];exact h2 M}
def zxy(c:∀ j,C j=true->b j=true):sh (sh M C as) b as kind k=sh M b as kind k:=by
 let[x,h]||[h1,h2]:=Kb C b c _ k as
 rw[h,h];rw[h1,h1,h2]
def zxz:E8 (cs++[ch]) O b row=if ch.blk=b/\O cs.length=true then(E8 cs O b row).set ch.cell ch.val else E8 cs O b row:=by
 have st:∀ (l:List _) (row:tF),(∀ k∈l,k<cs.length)->l.foldl (HF (cs++[ch]) O) row=l.foldl (HF cs O) row:=by
  intro l
  induction l with
  |nil=>intro y y;rfl
  |cons k l d =>
   intro row h;rw[jh,jh,d _ λj g=>h j<|ω _ g];unfold HF;rw[ae (h k aa)]
 have lt:∀ k∈DG cs b,k<cs.length:=λk i=>by
  let[c,e,y]:=XT.mp i;exact(ε.mp e).1
 have n:DG (cs++[ch]) b=if ch.blk=b then DG cs b++[cs.length]else DG cs b:=by simp[DG,GZ]
 unfold E8;rw[n];by_cases e:ch.blk=b;rw[if_pos e,io,st _ _ lt];simp only[jh,List.foldl_nil];unfold HF;rw[ba (ο _),kj];by_cases o:O cs.length=true;rw[if_pos o,if_pos ⟨e,o⟩];rfl;rw[if_neg o,if_neg λz=>o z.2];rw[if_neg e,if_neg λz=>e z.1,st _ _ lt]
section
variable{n r c w:Nat}{cs:yE}{as:zE}
def LaidA.len(h:LaidA n r c w H cs as):cs.length=as.length:=by
 induction h with
 |nil=>rfl
 |snoc _ _ _ _ _ _ _ b=>rw[ψ,b];rfl
def LaidA.cut(h:LaidA n r c w H cs as)(b:QM cs outs):GI (λj=>outs (j:Nat)) as:=by
 induction h with
 |nil=>trivial
 |@snoc cs as ch x l s u v d z A g =>
  refine{g λk c e=>b k c (by rw[ae (ε.mp e).1];exact e),λo=>?_}
  have nd:=b _ ch (by rw[ba (ο _),kj];rfl) (by rw[l.len];exact o);exact{λy i=>nd _<|(d _).mpr (.inl ⟨y,i,rfl⟩),λj q=>nd _<|(d _).mpr (.inr ⟨j,q,rfl⟩)}
def LaidA.far(h:LaidA n r c w H cs as){C i:tD}(q:∀ (j:Nat) (ch:Ch),cs[j]? =some ch->ch.blk≠b->i j=C j)(u:AX n r c w kind k≠b):sh M (λj=>i (j:Nat)) as kind k=sh M (λj=>C (j:Nat)) as kind k:=by
 induction h with
 |nil=>rfl
 |@snoc cs as ch x l v y z A B I d =>
  have d:=d λj c s=>q j c (by rw[ae (ε.mp s).1];exact s);by_cases e:kind=x.kind/\k=x.k
  have g:=q _ ch (by rw[ba (ο _),kj];rfl) (by rw[v,<-e.1,<-e.2];exact u);rw[l.len]at g;by_cases o:C as.length=true;rw[CJ (C:=λj=>C j) o,CJ  (g.trans o),e.1,e.2,CY,CY];rw[DU (C:=λj=>C j) o,DU  (by rw[g];exact o)];exact d
  have far:∀ D:Nat->Bool,sh M D _ _ k=sh M D as _ k:=λD=>by
   by_cases o:D as.length=true;rw[CJ o];exact if_neg e;rw[DU o]
  rw[far,far];exact d
def LaidA.laid(h:LaidA n r c w H cs as)(B:∀ kind k v,kind<5->k<A0 n r c w kind->AX n r c w kind k=b->row[k % w]? =some v->RepC H (S kind k) v):∀ kind k v,kind<5->k<A0 n r c w kind->AX n r c w kind k=b->(E8 cs O b row)[k % w]? =some v->RepC H (sh S (λj=>O (j:Nat)) as kind k) v:=by
 induction h with
 |nil=>exact B
 |@snoc cs as ch x l q s D L I J g =>
  intro kind k v h1 u i d;rw[zxz]at d
  have g:=g _ k v h1 u i;by_cases e:kind=x.kind/\k=x.k;let[rfl,rfl]:=e;rw[q,i]at d;by_cases o:O as.length=true;rw[CJ  o,CY];rw[if_pos {rfl,by rw[l.len];exact o},s]at d
  have A:=(ε.mp d).1;rw[f_]at A;rw[fb A]at d;obtain rfl:=θ d;exact D;rw[DU  o];rw[if_neg λz=>o (by rw[<-l.len];exact z.2)]at d;exact g d
  have far:sh S (λj=>O j) (x::as) kind k=sh S (λj=>O j) as kind k:=by
   by_cases o:O as.length=true;rw[CJ  o];exact if_neg e;rw[DU  o]
  rw[far];refine g ?_;split at d;rename_i z
  have:ch.cell≠k%w:=λy=>e ((UO     h1 I u J (by rw[i,<-q];exact z.1.symm) (by rw[<-y,s])));rw[fz this]at d;exact d;exact d
end
def RowsAre.keep(h:RowsAre H n r c w rows S)(k:B3 H b):RowsAre b n r c w rows S:=λkind i v h1 h2 h3=>(h _ i v h1 h2 h3).keep k
def RowsAre.write{rows:wC}{outs:tD}(h:RowsAre H n r c w rows (sh B (λj=>outs (j:Nat)) as))(l:LaidA n r c w H cs as)(s:rows[b]? =some row) :
  RowsAre H n r c w (rows.set b<|E8 cs (F5 cs outs b) b row) (sh B (λj=>F5 cs outs b (j:Nat)) as):=λkind k v h1 o d=>by
 by_cases e:AX n r c w kind k=b;rw[e,fb<|(ε.mp s).1]at d
 have:=l.laid     (λkind k v h1 o e d=>h _ k v h1 o (by rw[e,s];exact d)) _ k v h1 o e d;rw[zxy   (λj e=>by unfold F5;rw[e];rfl)]at this;exact this;rw[fz (λz=>e z.symm)]at d;rw[l.far    (λj ch u x=>?_) e];exact h _ k v h1 o d;unfold F5
 have:(outcome cs outs (λy=>false) b).out.any (λi=>j ==(i:Int))=false:=by
  rw[B_];intro z;let[i,A,q]:=fk.mp z
  have q:=bh (beq_iff_eq.mp q).symm;subst q;let[I,g,D]:=XT.mp<|(XV.2.1 i A).2;rw[u]at g;obtain rfl:=θ g;exact x D
 rw[this,fi]
def zx0(l:D6 cs (b:Nat) (j:Nat)=none):(E8 cs O b row)[j]? =row[j]? :=by
 rw[zji,sB];cases n:JE cs _ j with
 |none=>simp
 |some c =>
  let[k,o,i,d,z]:=sC n;let[r,e,q]:=XT.mp (fe.mp o).1;rw[i]at e;obtain rfl:=θ e;refine u2 ?_<|XY i;intro s u [g,z];rw[q,d,l]at g;cases g
def zx1(h:v∈E8 cs O b row):v∈row\/∃ c∈cs,v=c.val:=by
 unfold E8 at h;revert h;generalize DG cs b=l
 induction l generalizing row with
 |nil=>exact .inl
 |cons k l d =>
  intro h;let h||h:=d h
  unfold HF at h;split at h;split at h;rename_i c e;let h||h:=o_ h
  exact .inl h;exact .inr {c,ι e,h};exact .inl h;exact .inl h;exact .inr h
theorem cD{α b :Type}{F: α -> b ->Prop}{x: α}:∀ {l:List α} {m:List b} {i:Nat},Paired F l m->l[i]? =some x->∃ y,m[i]? =some y/\F x y
 |_,_,0,.cons h _,e=>{_,rfl,by cases e;exact h}
 |_,_,i+1,.cons _ t,e=>cD (i:=i) t e
def DN{c A B:Prop}[Decidable c](h:c)(x:A):if c then A else B:=by rw[if_pos h];exact x
def CZ{c A B:Prop}[Decidable c](h:¬ c)(x:B):if c then A else B:=by rw[if_neg h];exact x
def zx2{α :Type}{l:List (Option α)}{k:Nat}{c: α}(h:A4 l k=some c):some c∈l:=by
 unfold A4 at h;cases e:l[k]? with
 |none=>rw[e]at h;cases h
 |some y =>
  rw[e]at h;exact h ▸ ι e
def FindsL.on{b:Hp}{l:Addr}{fs:wC}(h:FindsL H l fs)(c:∀ o,H l=some o->b l=some o)(tk:B3 H b):FindsL b l fs:=by
 let[ps,e,P]:=h;exact{ps,c _ e,Paired.mapP P λp f e=>tk _ _ e}
def NmV.keep(k:B3 H b)(h:NmV H v c):NmV b v c:=by
 cases c with
 |none=>exact h
 |some c=>let[p,e,h1]:=h;exact{p,e,k _ _ h1}
def RcV.keep(k:B3 H b)(h:RcV H v c):RcV b v c:=by
 cases c with
 |none=>exact h
 |some c=>revert h;apply u2;intro p q [e,h1,h2];exact x2 p q {e,k _ _ h1,k _ _ h2}
def PcV.keep(_:B3 H b)(h:PcV H v c):PcV b v c:=by
 cases c<;>exact h
def MkV.keep(_:B3 H b)(h:MkV H v c):MkV b v c:=by
 cases c<;>exact h
def LstAt.keep{α :Type}{R:Hp->V-> α ->Prop}{b:Hp}{p:Addr}{cs:List α}(h:LstAt R H p cs)(d:∀ v c,R H v c->R b v c)(g:∀ o,H p=some o->b p=some o):LstAt R b p cs:=by
 let[vs,e,P]:=h;exact{vs,g _ e,Paired.mapP P λv c=>d v c}
def FindsL.same(h:FindsL H l fs)(s:Same H b):FindsL b l fs:=by
 let[ps,e,P]:=h;exact{ps,s _ _ e,Paired.mapP P λp f e=>s _ _ e}
def ViewAt.same{b:Hp}{x:Addr}{A:VA}{d:Vw}(h:ViewAt a H x A d)(s:Same H b):ViewAt a b x A d:=by
 let[[g,e],h1,h2,h3,h4,h5,h6,h7,h8,ok]:=h;exact{{g,s _ _ e},h1.keep (λv c=>NmV.keep s.tk) (λo=>s _ _),h2.keep (λv c=>RcV.keep s.tk) (λo=>s _ _),h3.keep (λv c=>PcV.keep s.tk) (λo=>s _ _),h4.keep (λv c=>MkV.keep s.tk) (λo=>s _ _),h5.keep (λv c=>MkV.keep s.tk) (λo=>s _ _),s _ _ h6,s _ _ h7,s _ _ h8,ok}
def LstAt.at{α :Type}{R:Hp->V->Option α ->Prop}{p:Addr}{cs:List (Option α)}{k:Nat}(h:LstAt R H p cs)(b:k<cs.length):∃ vs v,H p=some (.lst vs)/\vs.length=cs.length/\vs[k]? =some v/\R H v (A4 cs k):=by
 let[vs,e,P]:=h;let[v,c,d]:=K7 P<|ζ b;refine x2 vs v {e,P.length,c,?_};unfold A4;rw[ζ b];exact d
def UQ{l:wE}{k:Nat}{m:Nat}(h:l[k]? =some m):(AQ l)[k]? =some (.int m):=by
 unfold AQ;rw[ρ,h]
 rfl
def OF{n k:Nat}{f:Nat->Nat}(h:k<n):((μ n).map f)[k]? =some (f k):=by
 rw[ρ,ph h]
 rfl
def RI{p:Addr}{n k:Nat}{f:Nat->Nat}{Q:VK}(h:H p=some (.lst<|AQ<|(μ n).map f))(b:k<n)(q:Q (.int<|f k) H):BK K (.ref p) (.int k) H Q :=
 CI (SqL.of h)  rfl (UQ<|OF b) q
def zx3:(vf A).lookup ("name_values":Str)=some (V.ref A.n):=by simp[vf]
def UR:(vf A).lookup ("record_values":Str)=some (V.ref A.r):=by
 simp[vf,ai,BD (a:="record_values") (b:="name_values") (by decide)]
def zx4:(vf A).lookup ("piece_values":Str)=some (V.ref A.p):=by
 simp[vf,ai,BD (a:="piece_values") (b:="name_values") (by decide),BD (a:="piece_values") (b:="record_values") (by decide)]
def Kc{A:VA}:(vf A).lookup ("record_marks":Str)=some (V.ref A.rm):=by
 simp[vf,ai,BD (a:="record_marks") (b:="name_values") (by decide),BD (a:="record_marks") (b:="record_values") (by decide),BD (a:="record_marks") (b:="piece_values") (by decide)]
def Kd{A:VA}:(vf A).lookup ("piece_marks":Str)=some (V.ref A.pm):=by
 simp[vf,ai,BD (a:="piece_marks") (b:="name_values") (by decide),BD (a:="piece_marks") (b:="record_values") (by decide),BD (a:="piece_marks") (b:="piece_values") (by decide),BD (a:="piece_marks") (b:="record_marks") (by decide)]
def cE{A:VA}:(vf A).lookup ("leads":Str)=some (V.ref A.ld):=by
 simp[vf,ai,BD (a:="leads") (b:="name_values") (by decide),BD (a:="leads") (b:="record_values") (by decide),BD (a:="leads") (b:="piece_values") (by decide),BD (a:="leads") (b:="record_marks") (by decide),BD (a:="leads") (b:="piece_marks") (by decide)]
def Kg{A:VA}:(vf A).lookup ("namings":Str)=some (V.ref A.ng):=by
 simp[vf,ai,BD (a:="namings") (b:="name_values") (by decide),BD (a:="namings") (b:="record_values") (by decide),BD (a:="namings") (b:="piece_values") (by decide),BD (a:="namings") (b:="record_marks") (by decide),BD (a:="namings") (b:="piece_marks") (by decide),BD (a:="namings") (b:="leads") (by decide)]
def zx5:(vf A).lookup ("reached":Str)=some (V.ref A.rh):=by
 simp[vf,ai,BD (a:="reached") (b:="name_values") (by decide),BD (a:="reached") (b:="record_values") (by decide),BD (a:="reached") (b:="piece_values") (by decide),BD (a:="reached") (b:="record_marks") (by decide),BD (a:="reached") (b:="piece_marks") (by decide),BD (a:="reached") (b:="leads") (by decide),BD (a:="reached") (b:="namings") (by decide)]
def M3{A:VA}{x:Str}(h:(DT x "name_values" || DT x "record_values" || DT x "piece_values" || DT x "record_marks" || DT x "piece_marks" || DT x "leads" || DT x "namings" || DT x "reached")=false):(vf A).lookup x=none:=by
 simp only[oa]at h;let[[[[[[[h1,h2],h3],h4],h5],h6],h7],h8]:=h;simp[vf,ai,BD h1,BD h2,BD h3,BD h4,BD h5,BD h6,BD h7,BD h8]
section
variable{tt:TT}{te:TE}{A6:wE}{σ:St}
def HL{c b:Hp}{l:Addr}{o:HO}(s:Same c b)(h:b l=none):Same c (upd b l o):=s.trans<|AI h
def FnW(H:Hp)(is:wE)(p:xD)(f:xC)(i:Nat)(ys:tF)(b:Hp):Prop:=Same H b/\∃ ps:uD,ys=ps.map V.ref/\Paired (λq g=>b q=some (.tup g)) ps (((is.take i).filter p).map f)
def JM{α :Type}{l:List α}{i:Nat}{x: α}(h:l[i]? =some x):l.take (i+1)=l.take i++[x]:=by
 let[g1,g2]:=ε.mp h;rw[<-g2,pi]
def FnW.yes{p:xD}{f:xC}(h:FnW H is p f i ys b)(d:is[i]? =some k)(j:p k=true)(c:b t=none):FnW H is p f (i+1) (ys++[.ref t]) (upd b t<|.tup<|f k):=by
 let[s,ps,e,P]:=h;refine{HL s c,ps++[t],by rw[e,au];rfl,?_};rw[JM d,ia,au]
 have:([k].filter p).map f=[f k]:=by simp[j]
 rw[this];exact Paired.snoc (Paired.mapP P λq g e=>AI c _ _ e) AD
def FnW.no{is:wE}{p:xD}{f:xC}{i k:Nat}{ys:tF}{b:Hp}(h:FnW H is p f i ys b)(c:is[i]? =some k)(d:p k=false):FnW H is p f (i+1) ys b:=by
 let[s,ps,e,P]:=h;refine{s,ps,e,?_}
 have:([k].filter p).map f=[]:=by simp[d]
 rw[JM c,ia,au,this,jz];exact P
def FnW.len{is:wE}{p:xD}{f:xC}{i:Nat}{ys:tF}{b:Hp}(h:FnW H is p f i ys b):ys.length<=i:=by
 let[s,ps,e,P]:=h;rw[e,η,P.length,η];exact υ (dg ..) (by rw[de];lia)
def FnW.fin{is:wE}{p:xD}{f:xC}{ys:tF}{b:Hp}{l:Addr}(h:FnW H is p f is.length ys b)(c:b l=none):H l=none/\Same H (upd b l<|.lst ys)/\FindsL (upd b l<|.lst ys) l ((is.filter p).map f):=by
 let[s,ps,rfl,P]:=h;rw[ce]at P;exact{s.free c,HL s c,ps,AD,Paired.mapP P λq g e=>AI c _ _ e}
def M4{b:Addr}{is:wE}(p:xD)(f:xC)(v:H b=some (.lst<|AQ is))(w:is.length<=1000)
  (y:∀ k∈is,∀ c,Same H c->∀ n:Bool->Hp->Prop,n (p k) c->tt (some (.int (k:Int))::C3 A6 σ) c n)
  (he:∀ k∈is,p k=true->∀ c (r:VK),Same H c->(∀ t,c t=none->r (.ref t) (upd c t<|.tup<|f k))->te (some (.int (k:Int))::C3 A6 σ) c r) (hd:newF ((is.filter p).map f) H Q):D5 (F8 K b) (AG 0) tt te 1 A6 σ H Q:=by
 have g:∀ {i:Nat} {x:V},(AQ is)[i]? =some x->∃ k,is[i]? =some k/\x=.int k:=λe=>by
  unfold AQ at e;rw[ρ,bc]at e;let[k,h1,h2]:=e;exact⟨k,h1,h2.symm⟩
 have s:(AQ is).length=is.length:=by simp[AQ]
 refine qX  (λi=>match is[i]? with
  |some k=>p k
  |none=>false) (BW _<|oA (υ (ay s) w) rfl) (FnW H is p f) {Same.refl _,[],rfl,.nil} (λi ys c _ h=>{SqL.of<|h.1 _ _ v,h.len}) (λi x ys c l h n u=>?_) (λi x ys c l j h=>?_) (λi x ys c l j h=>?_) (λys c h q z=>?_)
 let[k,d,rfl]:=g l;simp only[d]at u;exact y k (ι d) c h.1 n u;let[k,d,rfl]:=g l;simp only[d]at j;exact he k (ι d) j c _ h.1 λt o=>h.yes d j o;let[k,d,rfl]:=g l;simp only[d]at j;exact h.no d j;rw[s]at h;let[h1,h2,h3]:=h.fin z;exact hd q _ h1 h2 h3
def RJ{b:Addr}{xs:tF}(p:xD)(r:H b=some (.lst xs))(u:xs.length<=1000)
  (v:∀ i x,xs[i]? =some x->∀ c,Same H c->∀ d:Bool->Hp->Prop,d (p i) c->tt (some (.int (i:Int))::some x::C3 A6 σ) c d) (hd:newL (AQ<|(μ xs.length).filter p) H Q):D5 (K9 K b) (FH K 2<|DP (AG 0) (DP (AG 1) FG)) tt (DF 0) 2 A6 σ H Q:=by
 refine W3  p (BW _<|oA u rfl) (λi ys c=>Same H c/\ys=AQ ((μ i).filter p)) {Same.refl _,rfl} (λi ys c z ⟨s,e⟩=>{SqL.of<|s _ _ r,?_}) (λi ys c t o ⟨s,e⟩ h=>{HL s h,e}) (λi x ys c g ⟨s,e⟩ d w=>v i x g c s d w) (λi x ys c g j ⟨s,e⟩=>{s,by rw[e];unfold AQ;rw[bq];simp[j]}) (λi x ys c g j ⟨s,e⟩=>{s,?_}) (λys c l q n=>?_);rw[e];unfold AQ;rw[η];exact υ (dg ..) (by rw[cz];exact ο _);rw[e];rw[bq];simp[j];let[s,rfl]:=l;exact hd q _ (s.free n) (HL s n) AD
end
def ViewAt.rl{x:Addr}{A:VA}{b:Vw}(h:ViewAt a H x A b):∃ vs,H A.r=some (.lst vs)/\vs.length=b.rc.length:=by
 let[vs,e,P]:=h.r;exact⟨vs,e,P.length⟩
def cF(h:RcV H v c):decide (v=.non)=c.isNone:=by
 cases c with
 |none=>rw[h];rfl
 |some c=>revert h;apply u2;intro p q [rfl,z];rfl
def zx6{v:V}{c:N8}(h:NmV H v c):decide (v=.non)=c.isNone:=by
 cases c with
 |none=>rw[h];rfl
 |some c=>let[p,rfl,z]:=h;rfl
def zx7(h:PcV H v c):decide (v=.non)=c.isNone:=by
 cases c with
 |none=>rw[h];rfl
 |some c=>rw[h];rfl
example:(zx8,UA,sW,2):=by
 apply u5;intro x A d r c [rfl,T,I,b,q];let[o,e]:=I.ob
 have j:r<d.rc.length:=by
  unfold A4 at b;cases g:d.rc[r]? with
  |none=>rw[g]at b;cases b
  |some _=>exact(ε.mp g).1
 refine u2 ?_<|I.r.at j;intro us v [l,s,n,i];rw[b]at i;revert i;apply u2;intro p u [rfl,h1,h2];exact y3 {e,T.cl,T.n2,_,UR,CI (SqL.of l)  rfl n (BI h1  rfl rfl q)}
example:(zx9,T9,sU,1):=by
 apply u3;intro x A l [rfl,T,I,q];let[w,e]:=I.ob;let[us,c,P]:=I.r
 have d:=P.length;refine y3 {e,T.cl,T.n2,_,UR,{_,SqL.of c},RJ (λr=>(A4 l.rc r).isSome) c (oA (υ (ay d) I.ok.br) rfl) (λi v g y s B n=>?_) ?_};refine u2 ?_<|I.r.at  (d ▸ ((ε.mp g).1));intro o D [b,z,j,u];rw[c]at b;cases b;rw[g]at j;obtain rfl:=θ j;erw[];rw[cF u];simpa using n;rw[d];exact q
def cG(n:Nat):decide ((0:Int)<(n:Int))=decide (0<n):=by simp
def zya(n:Nat):decide ((1:Int)<(n:Int))=decide (1<n):=by
 lia
def zyb(n:Nat):decide ((n:Int)=(0:Int))=decide (n=0):=by simp
def HM(l:wE):(AQ l).length=l.length:=by simp[AQ]
def M5(n:Nat)(f:Nat->Nat):((μ n).map f).length=n:=by simp
example:(zyc,Q7,sV,1):=by
 apply u3;intro x A g [rfl,T,I,q];let[l,e]:=I.ob
 have c:=I.ng;refine y3 {e,T.cl,T.n7,_,Kg,{_,SqL.of c},RJ (λp=>decide<|0<FB g p) c (by rw[HM,M5];exact oA I.ok.bp rfl) (λi v b n s o j=>?_) ?_}
 have d:=(ε.mp b).1;rw[HM,M5]at d;rw[UQ (OF d)]at b;obtain rfl:=θ b;erw[];rw[cG];exact j;rw[HM,M5];exact q
example:(zyd,YU,sT,1):=by
 apply u4;intro x ar al g [rfl,T,[dx,fs,e,M],[N,O,I,l2],J,y,U,q];rw[e]at I
 have A:=J;cases I;let[us,B,P]:=J
 have w:=P.length;refine y3 {e,T.cl,T.n2,_,M,{_,SqL.of B},(W3  (λr=>decide<|0<led g r) (BW _<|oA (υ (ay w) U) rfl) (λi ys j=>Same H j/\Paired (RcV j) ys (((μ i).filter λr=>decide<|0<led g r).map (A4 g.rc))) {Same.refl _,.nil} (λi ys j z ⟨s,e⟩=>{SqL.of<|s _ _ B,?_}) (λi ys j t o ⟨s,d⟩ h=>{HL s h,Paired.mapP d λv c=>RcV.keep (AI h).tk}) (λi v ys j n b QB Y=>?_) (λi v ys j n l b=>?_) (λi v ys j n l ⟨s,d⟩=>{s,?_}) (λys j b p l=>?_))};rw[e.length,η];exact υ (dg ..) (by rw[cz];exact ο _);let[s,d]:=b;refine y3 {s _ _ e,T.cl,T.n6,_,l2,RI (s _ _ y) (w ▸ ((ε.mp n).1)) ?_};erw[];rw[cG];exact Y;let[s,d]:=b;refine u2 ?_<|A.at  (w ▸ ((ε.mp n).1));intro us' v' [u,z,L,D];rw[B]at u;cases u;rw[n]at L;obtain rfl:=θ L;refine{s,?_};rw[bq,ia,au]
 have:(([i].filter λr=>decide<|0<led g r).map (A4 g.rc))=[A4 g.rc i]:=by simp[l]
 rw[this];exact Paired.snoc d<|RcV.keep s.tk D;rw[bq,ia,au]
 have:(([i].filter λr=>decide<|0<led g r).map (A4 g.rc))=[]:=by simp[l]
 rw[this,jz];exact d;let[s,d]:=b;rw[w]at d;exact q p _ (s.free l) (HL s l) {ys,AD,Paired.mapP d λv c=>RcV.keep (AI l).tk}
def Kh(h:MkV b v c)(q:Q (.bl<|decide<|c=some 1) H):CF K v (.int 1) H Q:=by
 cases c with
 |none=>rw[h];exact q
 |some j=>rw[h];show Q _ _;simpa using q
def Kj{b:Hp}{v:V}{c:Option Int}{Q:VK}(h:MkV b v c)(q:Q (.bl<|!decide (c=some 1)) H):DE K v (.int 1) H Q:=by
 cases c with
 |none=>rw[h];exact q
 |some j=>rw[h];show Q _ _;simpa using q
def KO{n:Nat}{p q r:xD}{f:xC}(h:∀ k,k<n->(p k&&q k)=r k):(((μ n).filter p).filter q).map f=DK n r f:=by
 rw[List.filter_filter]
 congr 1
 refine Do λk b=>?_;rw[Bool.and_comm];exact h k<|ao.mp b
def LT{n:Nat}{p:xD}(h:n<=100):((μ n).filter p).length<=1000:=υ (dg ..) (by rw[cz];exact oA h rfl)
def LU{n k:Nat}{p:xD}(h:k∈(μ n).filter p):k<n/\p k=true:=by
 let[h1,h2]:=fe.mp h;exact{ao.mp h1,h2}
def newF.of{fs:wC}{b:Hp}(q:newF fs H Q)(s:Same H b):newF fs b Q:=λl c d e F=>q l c (s.free d) (s.trans e) F
def newL.of{xs:tF}{b:Hp}(q:newL xs H Q)(s:Same H b):newL xs b Q:=λl c d e F=>q l c (s.free d) (s.trans e) F
example:(zye,YZ,ZO,2):=by
 apply u3;intro x A n [rfl,T,I,q];let[O,e]:=I.ob
 have D:=I.ok.bp;let[us,d,P]:=I.pm
 have l2:=I.ok.l2
 have o:=P.length;erw[ZO,ZO0_];refine y3 {e,T.cl,T.n5,_,Kd,{_,SqL.of d},RJ (λp=>decide<|A4 n.pm p=some 1) d (by lia) (λi v r u s J g=>?_) λl U Y w j=>?_};refine u2 ?_<|I.pm.at  (o ▸ ((ε.mp r).1));intro L v' [b,z,y,M];rw[d]at b;cases b;rw[r]at y;obtain rfl:=θ y;erw[];exact Kh M g;rw[o,l2]at j;refine .inl {{_,SqL.of j},M4 (λp=>decide<|IJ n p=0) (λp=>[.str "left",.str "piece",.int p]) j (LT D) (λk c u s J g=>?_) (λk c hp u Q' s N=>?_) ?_};let[c,z]:=LU c
 have B:=w.trans s;refine y3 {B _ _ e,T.cl,T.n8,_,zx5,RI (B _ _ I.rh) c ?_};erw[];rw[zyb];exact g;erw[];exact{by decide,N};rw[KO λk z=>rfl];exact q.of w
example:(zyf,Y0,ZP,2):=by
 apply u3;intro x A w [rfl,T,I,q];let[Y,e]:=I.ob
 have M:=I.ok.br;let[us,g,P]:=I.rm
 have l2:=I.ok.l1
 have y:=P.length;erw[ZP,ZP0_];refine y3 {e,T.cl,T.n4,_,Kc,{_,SqL.of g},RJ (λp=>decide<|A4 w.rm p=some 1) g (by lia) (λi v B D s N j=>?_) λl H1 DO J n=>?_};refine u2 ?_<|I.rm.at  (y ▸ ((ε.mp B).1));intro o O [b,z,c,u];rw[g]at b;cases b;rw[B]at c;obtain rfl:=θ c;erw[];exact Kh u j;rw[y,l2]at n;refine .inl {{_,SqL.of n},M4 (λr=>(A4 w.rc r).isNone) (λr=>[.str "marked",.int r]) n (LT M) (λk d D s N j=>?_) (λk d hp D Q' s U=>?_) ?_};let[d,z]:=LU d
 have L:=J.trans s;refine u2 ?_<|(I.same L).r.at d;intro o O [b,z,c,u];refine y3 {L _ _ e,T.cl,T.n2,_,UR,CI (SqL.of b)  rfl c ?_};erw[];rw[cF u];exact j;erw[];exact{by decide,U};rw[KO λk z=>rfl];exact q.of J
theorem M6{α b :Type}{F: α -> b ->Prop}:∀ {l c:List α} {m d:List b},Paired F l m->Paired F c d->Paired F (l++c) (m++d)
 |_,_,_,_,.nil,h=>h
 |_,_,_,_,.cons x r,h=>.cons x<|M6 r h
def EA{n:Nat}{p:xD}{f:xC}(h:n<=100):(DK n p f).length<=100:=by
 unfold DK;rw[η];exact υ (dg ..) (by rw[cz];exact h)
def JN{b l2:Addr}{f1 f2:wC}{Q:VK}(h1:FindsL H b f1)(h2:FindsL H l2 f2)(i:f1.length+f2.length<=10000)(q:newF (f1++f2) H Q):BN K (.ref b) (.ref l2) H Q:=by
 let[p2,j,d]:=h2;let[p1,l,g]:=h1;exact .inl (x4 b l2 _ _ {rfl,rfl,l,j,BW _ (by rw[η,η,g.length,d.length];exact oA i rfl),λp c=>(q p _ c (AI c) {_,by rw[AD,au],Paired.mapP (M6 g d) λx f e=>AI c _ _ e})})
def US(ok:EK b):(Q0 b).length<=200/\(Q1 b).length<=300/\(Q2 b).length<=200/\(Q3 b).length<=200/\(Q4 b).length<=100/\(Q5 b).length<=100:=by
 unfold Q0 Q1 Q2 Q3 Q4 Q5;simp only[ψ];exact{tm (EA ok.bn) (EA ok.bn),tm (tm (EA ok.bp) (EA ok.bp)) (EA ok.br),tm (EA ok.br) (EA ok.bp),tm (EA ok.br) (EA ok.br),EA ok.bp,EA ok.br}
example:(zyg,UB,w5,1):=by
 apply u3;intro x A b [rfl,T,I,q];let[o,r,s,z]:=US I.ok;exact x3 x A b {rfl,T,I,λu v h1 c i=>x3 x A b {rfl,T,I.same c,λl2 w h2 d j=>JN (i.same d) j (by lia) λy B h3 e l=>x3 x A b {rfl,T,I.same<|(c.trans d).trans e,λD J h4 g n=>JN (l.same g) n (by simp only[ψ];lia) (q.of<|((c.trans d).trans e).trans g)}}}
example:(zyh,Y1,w8,1):=by
 apply u3;intro x A b [rfl,T,I,q];let[z,z,z,o,r,s]:=US I.ok;exact x3 x A b {rfl,T,I,λu v h1 c i=>x3 x A b {rfl,T,I.same c,λl2 w h2 d j=>JN (i.same d) j (by lia) λy B h3 e l=>x3 x A b {rfl,T,I.same<|(c.trans d).trans e,λD J h4 g n=>JN (l.same g) n (by simp only[ψ];lia) (q.of<|((c.trans d).trans e).trans g)}}}
example:(zyi,YX,Z8,4):=by
 apply u3;intro x A c [rfl,T,I,q];let[dx,e]:=I.ob
 have o:=I.ok.br
 have O:=I.ok.bp;erw[Z8,Z80_];refine y3 {e,T.cl,T.n6,_,cE,{_,SqL.of I.ld},RJ (λp=>decide<|0<led c p) I.ld (by rw[HM,M5];exact oA o rfl) (λi v u n s U g=>?_) λl H1 DO w y=>?_}
 have Y:=(ε.mp u).1;rw[HM,M5]at Y;rw[UQ (OF Y)]at u;obtain rfl:=θ u;erw[];rw[cG];exact g;rw[HM,M5]at y;erw[Z81_];refine .inl {{_,SqL.of y},M4 (λr=> !decide (A4 c.rm r=some 1)) (λr=>[.str "free",.str "record",.int r]) y (LT o) (λk b n s U g=>?_) (λk b hp n Q' s B=>?_) ?_};let[b,z]:=LU b
 have s':=w.trans s;refine u2 ?_ ((I.same s').rm.at  (by rw[I.ok.l1];exact b));intro D v' [d,z,J,L];erw[C3];exact y3 {s' _ _ e,T.cl,T.n4,_,Kc,CI (SqL.of d)  rfl J (Kj L g)};erw[];exact{by decide,B};rw[KO λk z=>rfl];intro l2 H2 DX s2 F2
 have M:=I.same<|w.trans s2;let[dx2,e2]:=M.ob;erw[Z82_];refine y2 {e2,M3 (by decide),x3 x A c {rfl,T,M,λl3 H3 hl3 N j=>(.inl {{_,SqL.of j},M4 (λp=> !decide (A4 c.pm p=some 1)) (λp=>[.str "free",.str "piece",.int p]) j (LT O) (λk b n s U g=>?_) (λk b hp n Q' s B=>?_) ?_})}};let[b,z]:=LU b
 have I':=(M.same N).same s;let[dx',e']:=I'.ob;refine u2 ?_ (I'.pm.at  (by rw[I.ok.l2];exact b));intro D v' [d,z,J,L];erw[C3];exact y3 {e',T.cl,T.n5,_,Kd,CI (SqL.of d)  rfl J (Kj L g)};erw[];exact{by decide,B};rw[KO λk z=>rfl];intro l4 H4 hl4 s4 F4
 have n2:=EA (p:=λp=>decide (0<FB c p) && !decide (A4 c.pm p=some 1)) (f:=λp=>[.str "free",.str "piece",.int p]) O
 have n1:=EA (p:=λr=>decide (0<led c r) && !decide (A4 c.rm r=some 1)) (f:=λr=>[.str "free",.str "record",.int r]) o;exact JN (F2.same<|N.trans s4) F4 (by omega) (q.of<|((w.trans s2).trans N).trans s4)
example:(zyj,YW,Z7,4):=by
 apply u3;intro x A b [rfl,T,I,q];let[dx,e]:=I.ob
 have U:=I.ok.br
 have B:=I.ok.bp;erw[Z7,Z70_];refine y2 {e,M3 (by decide),x3 x A b {rfl,T,I,λl1 H1 DO J l=>(.inl {{_,SqL.of l},M4 (λp=>decide<|1<FB b p) (λp=>[.str "shared",.int p]) l (LT B) (λk d n s Y i=>?_) (λk d hp n Q' s o=>?_) ?_})}};let[d,z]:=LU d
 have g:=(I.same J).same s;let[u,j]:=g.ob;refine y3 {j,T.cl,T.n7,_,Kg,RI g.ng d ?_};erw[];rw[zya];exact i;erw[];exact{by decide,o};rw[KO (r:=λp=>decide<|1<FB b p) λk z=>by
  by_cases h:1<FB b k;simp[h];exact υ (by decide) h
  ·simp[h]]
 intro l2 H2 DX s2 F2
 have D:=I.same<|J.trans s2;let[dx2,e2]:=D.ob;erw[Z71_];refine y2 {e2,M3 (by decide),x3 x A b {rfl,T,D,λl3 H3 hl3 L v=>(.inl {{_,SqL.of v},M4 (λp=>(A4 b.pc p).isNone) (λp=>[.str "empty",.int p]) v (LT B) (λk d n s Y i=>?_) (λk d hp n Q' s o=>?_) ?_})}};let[d,z]:=LU d
 have g:=(D.same L).same s;let[u,j]:=g.ob;refine u2 ?_<|g.p.at d;intro us' v' [M,z,ev,hr];refine y3 {j,T.cl,T.n3,_,zx4,CI (SqL.of M)  rfl ev ?_};erw[];rw[zx7 hr];exact i;erw[];exact{by decide,o};rw[KO λk z=>rfl];intro l4 H4 hl4 s4 F4
 have N:=(D.same L).same s4;let[dx4,e4]:=N.ob;erw[Z72_];refine y2 {e4,M3 (by decide),x3 x A b {rfl,T,N,λl5 H5 hl5 O w=>(.inl {{_,SqL.of w},M4 (JG b) (λr=>[.str "few",.int r]) w (LT U) (λk d n s Y i=>?_) (λk d hp n Q' s o=>?_) ?_})}};let[d,hs]:=LU d
 have g:=(N.same O).same s;let[u,j]:=g.ob;let[c,hc]:=c_.mp hs;refine y2 {j,M3 (by decide),x5 x A b k c {rfl,T,g,hc,x3 _ _ _ {j,T.cl,T.n6,_,cE,RI g.ld d ?_}}};unfold JG at i;rw[hc]at i;exact i;erw[];exact{by decide,o};rw[KO (r:=JG b) λk z=>by
  unfold JG;cases A4 _ k<;>simp]
 intro l6 H6 hl6 s6 F6
 have n2:=EA (p:=λp=>decide (0<FB b p)&&(A4 b.pc p).isNone) (f:=λp=>[.str "empty",.int p]) B
 have n1:=EA (p:=λp=>decide<|1<FB b p) (f:=λp=>[.str "shared",.int p]) B
 have n3:=EA (p:=JG b) (f:=λr=>[.str "few",.int r]) U
 have y:=((L.trans s4).trans O).trans s6;exact JN (F2.same y) (F4.same<|O.trans s6) (by lia) λl7 H7 hl7 s7 F7=>JN F7 (F6.same s7) (by simp only[ψ];lia) (q.of<|((J.trans s2).trans y).trans s7)
def TwoL(H:Hp)(b l2:Addr)(f1 f2:wC)(c:Hp):Prop:=SameBut (λy=>y=b\/y=l2) H c/\FindsL c b f1/\FindsL c l2 f2/\b≠l2
def TwoL.same(h:TwoL H b l2 f1 f2 c)(s:Same c d):TwoL H b l2 f1 f2 d:={h.1.trans s.sb,h.2.1.same s,h.2.2.1.same s,h.2.2.2}
def zyk(h:TwoL H c l2 f1 f2 b)(j:b t=some (.tup f)):TwoL H c l2 (f1++[f]) f2 (upd b c<|.lst<|((h.2.1).choose++[t]).map V.ref):=by
 let[s,d,[p2,l,r],n]:=h
 have k:∀ {y:Addr} {g:tF},b y=some (.tup g)->upd b c (.lst<|(d.choose++[t]).map V.ref) y=some _:=λe=>by rw[AK (AZ e d.choose_spec.1 (by intro z;cases z))];exact e
 exact{λy o e i=>by rw[AK λz=>i<|.inl z];exact s _ _ e i,{_,AD,Paired.snoc (Paired.mapP d.choose_spec.2 λq g e=>k e) (k j)},{p2,by rw[AK n.symm];exact l,Paired.mapP r λq g e=>k e},n}
def TwoL.flip{b l2:Addr}{f1 f2:wC}{c:Hp}(h:TwoL H b l2 f1 f2 c):TwoL H l2 b f2 f1 c:={h.1.wide λz=>Or.symm,h.2.2.1,h.2.1,h.2.2.2.symm}
def UT{b l2 t:Addr}{f1 f2:wC}{f:tF}{c:Hp}{Q:VK}(h:TwoL H b l2 f1 f2 c)(e:f1.length<=1000)(g:c t=some (.tup f))(q:∀ d,TwoL H b l2 (f1++[f]) f2 d->Q .non d):EE (.ref b) [.ref t] c Q:=by
 have:=q _<|zyk h g;refine{_,h.2.1.choose_spec.1,χ (show(h.2.1.choose.map _).length<10000 by rw[η,h.2.1.choose_spec.2.length];exact oC e rfl) (by decide),?_};rw[au]at this;exact this
def Kk:DK (n+1) p f=if p n=true then DK n p f++[f n]else DK n p f:=by
 unfold DK;rw[bq];split;rename_i h;simp[h];rename_i h;simp[h]
def HN(is:wE)(p:xD)(f:xC)(i:Nat):wC:=((is.take i).filter p).map f
def Kl{is:wE}{p:xD}{f:xC}{i k:Nat}(h:is[i]? =some k):HN is p f (i+1)=if p k=true then HN is p f i++[f k]else HN is p f i:=by
 unfold HN;rw[JM h];split;rename_i h;simp[h];rename_i h;simp[h]
def Km{is:wE}{p:xD}{f:xC}{i:Nat}(h:is.length<=1000):(HN is p f i).length<=1000:=by
 unfold HN;rw[η];exact υ (dg ..) (by rw[de];lia)
def ViewAt.two(I:ViewAt a b x A c)(d:Same b H)(g:b i=none)(j:b l2=none)(W:TwoL H i l2 f1 f2 l):ViewAt a l x A c :=
 I.same λy o e=>W.1 _ _ (d _ _ e) λz=>by
  let z||z:=z
  rw[z,g]at e;cases e;rw[z,j]at e;cases e
example:(zyl,YY,vS,5):=by
 apply u3;intro x A b [rfl,T,I,q]
 have O:=I.ok.br;refine{by decide,λn J=>{by decide,λl2 U=>?_}}
 have L:Same H (upd _ l2<|.lst []):=(AI J).trans (AI U)
 have s:=BG AD U
 have k1:FindsL (upd (upd H n<|.lst []) l2 (.lst [])) n []:={[],by rw[AK s,AD];rfl,.nil}
 have k2:FindsL (upd (upd H n<|.lst []) l2 (.lst [])) l2 []:={[],AD,.nil}
 have f2:=(AI J).free U;revert L k1 k2;generalize upd _ l2 _=H2;intro L k1 k2
 have I2:=I.same L;let[dx2,e2]:=I2.ob;refine y2 {e2,M3 (by decide),x3 x A b {rfl,T,I2,λl3 H3 w Y B=>(.inl {{_,SqL.of B},?_})}}
 have m1:n≠l3:=λz=>by
  let[ps,e,u]:=k1;rw[z,w]at e;cases e
 have m2:l2≠l3:=λz=>by
  let[ps,e,u]:=k2;rw[z,w]at e;cases e
 have EO:=L.trans Y
 let is:=(μ b.rc.length).filter λr=>(A4 b.rc r).isSome
 have D:is.length<=1000:=LT O;refine ID  (λi M N=>TwoL H3 n l2 (HN is (G3 b) (λr=>[.str "many",.int r,.int<|led b r]) i) (HN is (λr=>decide<|led b r=0) (λr=>[.str "left",.str "record",.int r]) i) N/\∃ y3 y4,M=[some _,some _,some _,y3,y4]) {{SameBut.refl _,k1.same Y,k2.same Y,s},x2 _ _ rfl} (by intro i M N u [W,u];exact SqL.of<|W.1 _ _ B λz=>z.elim (λz=>m1 z.symm) λz=>m2 z.symm) (λi v M N hx d=>?_) (λM N d=>?_);let[W,y3,y4,g]:=d;subst g;unfold AQ at hx;rw[ρ,bc]at hx;let[k,j,rfl]:=hx;let[hk,hsm]:=LU<|ι j
 have I':=I.two EO J f2 W;let[dx',e']:=I'.ob;let[c,hc]:=c_.mp hsm;refine x3 _ _ _ {e',T.cl,T.n6,_,cE,RI I'.ld hk ?_}
 have im:G3 b k=(decide (0<led b k)&&decide ((led b k)<c.1)):=by unfold G3;rw[hc]
 erw[vS6_];rw[Kl j,Kl j,im];by_cases h0:led b k=0;refine DN (congrArg _ h0) ?_;erw[vS3_];let[ps2,l,u]:=W.2.2.1;refine{.inl {rfl,_,SqL.of l},by decide,λt ht=>UT (W.same<|AI ht).flip (Km D) AD λH4 W4=>?_};rw[decide_eq_false (h0.symm ▸ by decide),if_pos h0];exact W4.flip;refine CZ (λz=>h0<|bh z) (y2 {e',M3 (by decide +kernel),x5 x A b k c {rfl,T,I',hc,?_}});erw[];by_cases h1:(led b k)<c.1;refine DN h1 ?_;erw[vS4_];let[ps2,l,u]:=W.2.1;refine{.inl {rfl,_,SqL.of l},by decide,λt ht=>UT (W.same<|AI ht) (Km D) AD λH4 W4=>?_};rw[decide_eq_true (show 0<led b k by exact rn h0),decide_eq_true h1,if_neg h0];exact W4;refine CZ h1 ?_;rw[decide_eq_false h1,Iv,if_neg h0];exact W;let[W,y3,y4,g]:=d;subst g;rw[HM]at W
 have g1:HN is (G3 b) (λr=>[.str "many",.int r,.int<|led b r]) is.length=DK b.rc.length (G3 b) (λr=>[.str "many",.int r,.int<|led b r]):=by
  unfold HN;rw[ce];exact KO λk u=>by
   unfold G3;cases A4 _ k<;>simp
 have g2:HN is (λr=>decide<|led b r=0) (λr=>[.str "left",.str "record",.int r]) is.length=DK b.rc.length (λr=>(A4 b.rc r).isSome&&decide (led b r=0)) (λr=>[.str "left",.str "record",.int r]):=by
  unfold HN;rw[ce];exact KO λk u=>rfl
 rw[g1,g2]at W
 have n1:=EA (p:=G3 b) (f:=λr=>[.str "many",.int r,.int<|led b r]) O
 have n2:=EA (p:=λr=>(A4 b.rc r).isSome&&decide (led b r=0)) (f:=λr=>[.str "left",.str "record",.int r]) O;exact JN W.2.1 W.2.2.1 (by lia) (q.of λy o e=>W.1 _ _ (EO _ _ e) λz=>by
  let z||z:=z
  rw[z,J]at e;cases e;rw[z,f2]at e;cases e)
def OG(b:Vw)(i:Nat)(s:Str):Bool:=(μ i).any λj=>match A4 b.nm j with
  |none=>false
  |some d=>decide<|d.1=s
structure NmW(H3:Hp)(vw:Vw)(l1 l2 sn:Addr)(i:Nat)(lo tw:wC)(j:Nat)(H':Hp):Prop where
 s:SameBut (λy=>y=l1\/y=l2\/y=sn) H3 H'
 f1:FindsL H' l1 lo
 f2:FindsL H' l2 tw
 d:∃ kvs:vC,H' sn=some (.dK kvs)/\(∀ s:Str,(A8 kvs<|.inr s).isSome=OG vw j s)/\kvs.length<=j
def NmW.two{g:Hp}{l:Vw}{d l2 sn:Addr}{i j:Nat}{lo q b c:wC}{n o:Hp}(h:NmW g l d l2 sn i lo q j n)(u:sn≠d)(v:sn≠l2)(W:TwoL n d l2 b c o):NmW g l d l2 sn i b c j o:=by
 let[kvs,e,r]:=h.d;exact{h.s.trans<|W.1.wide λy z=>z.elim .inl λz=>.inr<|.inl z,W.2.1,W.2.2.1,{_,W.1 _ _ e λz=>z.elim u v,r}}
def NmW.same{b:Hp}{c:Vw}{d l2 sn:Addr}{i j:Nat}{lo g:wC}{l n:Hp}(h:NmW b c d l2 sn i lo g j l)(s:Same l n):NmW b c d l2 sn i lo g j n:=by
 let[kvs,e,r]:=h.d;exact{h.s.trans s.sb,h.f1.same s,h.f2.same s,{_,s _ _ e,r}}
example:(zym,YV,tE,6):=by
  apply u3;intro x A b [rfl,T,I,q]
  have bn:=I.ok.bn;refine{by decide,λl DO=>{by decide,λl2 DX sn M=>?_}}
  have n12:=BG AD DX
  have s2:Same H (upd _ l2<|.lst []):=(AI DO).trans (AI DX)
  have k1:FindsL (upd (upd H l<|.lst []) l2 (.lst [])) l []:={[],by rw[AK n12,AD];rfl,.nil}
  have k2:FindsL (upd (upd H l<|.lst []) l2 (.lst [])) l2 []:={[],AD,.nil}
  have f2:=(AI DO).free DX;revert M s2 k1 k2;generalize upd _ l2 _=H2;intro M s2 k1 k2
  have fsn:=s2.free M;let[H3,zz0,s3,e3]:=GQ  M;rw[zz0]
  have EO:=s2.trans s3
  have I3:=I.same EO;let[dx3,ob3]:=I3.ob;let[us,en,P]:=I3.n
  have hl:=P.length;refine y3 {ob3,T.cl,T.n1,_,zx3,{_,SqL.of en},?_}
  have m1:sn≠l:=λz=>by
    let[ps,e,_]:=k1;rw[<-z,M]at e;cases e
  have m2:sn≠l2:=λz=>by
    let[ps,e,_]:=k2;rw[<-z,M]at e;cases e
  have vi:∀ {w:Hp} {i j:Nat} {lo tw:List _},NmW H3 b l l2 sn i lo tw j w->ViewAt a w x A b:=λh=>I.same λy o e=>h.s _ _ (EO _ _ e) λz=>by
    let z||z||z:=z
    rw[z,DO]at e;cases e;rw[z,f2]at e;cases e;rw[z,fsn]at e;cases e
  have nA:A.n≠l/\A.n≠l2/\A.n≠sn:=by
    let[us',e0,_]:=I.n;exact{λz=>(by rw[z,DO]at e0;cases e0),λz=>(by rw[z,f2]at e0;cases e0),λz=>(by rw[z,fsn]at e0;cases e0)}
  let B:=λi=>DK i (HJ b) (λk=>[.str "lost",.int k])
  let D:=λi=>DK i (IK b) (λk=>[.str "twice",.int k])
  refine WY  (λi N w=>NmW H3 b l l2 sn i (B i) (D i) i w/\∃ y4 y5,N=[some (.ref x),some<|.ref l,some<|.ref l2,some<|.ref sn,y4,y5]) {{SameBut.refl _,k1.same s3,k2.same s3,[],e3,λ_=>rfl,ο _},x2 _ _ rfl} (λi N w _ ⟨W,_⟩=>SqL.of<|W.s _ _ en λz=>z.elim nA.1 λz=>z.elim nA.2.1 nA.2.2) (λi v N w t hx hzz ht=>?_) (λN w hzz=>?_);let[W0,y4,y5,eσ]:=hzz;subst eσ
  have hi:=(ε.mp hx).1;erw[];refine{_,SqT.of AD,rfl,?_}
  have W:=W0.same<|AI (o:=.tup [.int (i:Int),v]) ht;revert W;generalize upd w t (.tup [.int (i:Int),v])=H4;intro W
  have I4:=vi W;let[dx4,ob4]:=I4.ob;refine u2 ?_<|I4.n.at (k:=i) (hl ▸ hi);intro us' v' [e1',_,ev,hr];rw[W.s _ _ en (λz=>z.elim nA.1 λz=>z.elim nA.2.1 nA.2.2)]at e1';cases e1';rw[hx]at ev;have bi:i<=100:=by lia
  obtain rfl:=θ ev
  have hLO:B (i+1)=if HJ b i=true then B i++[[.str "lost",.int i]]else B i:=Kk
  have hTW:D (i+1)=if IK b i=true then D i++[[.str "twice",.int i]]else D i:=Kk
  have n1:(B i).length<=100:=EA bi
  have n2:(D i).length<=100:=EA bi
  have sS:∀ s:Str,OG b (i+1) s=(OG b i s||match A4 b.nm i with
    |none=>false
    |some d=>decide<|d.1=s):=λs=>by
    unfold OG;rw[bq,Hi];simp
  erw[tE8_];cases J:A4 b.nm i with
  |none =>
    rw[J]at hr;refine CZ (λz=>z hr) ?_
    have z1:HJ b i=false:=by unfold HJ;rw[J]
    have z2:IK b i=false:=by unfold IK;rw[J]
    rw[hLO,hTW,z1,z2,if_neg ax,if_neg ax];let[kvs,ek,hv,GS]:=W.d;exact{W.s,W.f1,W.f2,kvs,ek,λs=>by rw[hv,sS,J,fi],b_ GS}
  | some c =>
    rw[J]at hr;let[p,rfl,hp]:=hr;refine DN (by simp) ?_
    have hm:some c∈b.nm:=by
      unfold A4 at J;cases e2:b.nm[i]? with
      |none=>rw[e2]at J;cases J
      |some y =>
        rw[e2]at J
        have J:y=some c:=J;exact J ▸ ι e2
    have hcr:=(I.ok.n1 c hm).1
    have z1:HJ b i=(A4 b.rc c.2).isNone:=by unfold HJ;rw[J]
    have z2:IK b i=OG b i c.1:=by unfold IK OG;simp only[J]<;>rfl
    have tail:∀ {H5:Hp},NmW H3 b l l2 sn i (B<|i+1) (D i) i H5->H5 p=some (.tup [.str c.1,.int c.2])->AF (tE6 K a (λ_=>E) (λ_=>E)) (tE7 K a (λ_=>E) (λ_=>E)) { nx:=λN w=>NmW H3 b l l2 sn (i+1) (B<|i+1) (D<|i+1) (i+1) w/\∃ y4 y5,N=[some (V.ref x),some<|V.ref l,some<|V.ref l2,some<|V.ref sn,y4,y5],rt:=Q,bk:=tE10 K a (λx=>E) (λx=>E) (AW Q),ct:=λN w=>NmW H3 b l l2 sn (i+1) (B<|i+1) (D<|i+1) (i+1) w/\∃ y4 y5,N=[some (V.ref x),some<|V.ref l,some<|V.ref l2,some<|V.ref sn,y4,y5] } [some (V.ref x),some<|V.ref l,some<|V.ref l2,some<|V.ref sn,some<|V.int ↑i,some<|V.ref p] H5:=λ{H5} W5 O=>by
      have last:∀ {Y:Hp},NmW H3 b l l2 sn i (B<|i+1) (D<|i+1) i Y->Y p=some (.tup [.str c.1,.int c.2])->tE7 K a (λ_=>E) (λ_=>E) { nx:=λN w=>NmW H3 b l l2 sn (i+1) (B<|i+1) (D<|i+1) (i+1) w/\∃ y4 y5,N=[some (V.ref x),some<|V.ref l,some<|V.ref l2,some<|V.ref sn,y4,y5],rt:=Q,bk:=tE10 K a (λx=>E) (λx=>E) (AW Q),ct:=λN w=>NmW H3 b l l2 sn (i+1) (B<|i+1) (D<|i+1) (i+1) w/\∃ y4 y5,N=[some (V.ref x),some<|V.ref l,some<|V.ref l2,some<|V.ref sn,y4,y5] } [some (V.ref x),some<|V.ref l,some<|V.ref l2,some<|V.ref sn,some<|V.int ↑i,some<|V.ref p] Y:=λ{Y} W6 hp6=>by
        let[kvs,ek,hv,GS]:=W6.d;erw[tE7_];refine BI hp6 (n:=0) rfl rfl {_,pS ek (by lia),?_}
        have s7:SameBut (· =sn) Y (upd Y sn<|.dK<|BL kvs (.inr c.1) (.bl true)):=λy o e ny=>by rw[AK ny];exact e
        let[q1,g1,P1]:=W6.f1;let[q2,g2,P2]:=W6.f2
        have kt:∀ {y:Addr} {g:tF},Y y=some (.tup g)->upd Y sn (.dK<|BL kvs (.inr c.1) (.bl true)) y=some (.tup g):=λe=>s7 _ _ e (AZ e ek (by intro z;cases z));refine{W6.s.trans<|s7.wide λy z=>.inr<|.inr z,{q1,s7 _ _ g1 m1.symm,Paired.mapP P1 λq g e=>kt e},{q2,s7 _ _ g2 m2.symm,Paired.mapP P2 λq g e=>kt e},_,AD,λs=>?_,?_}
        · rw[FT,sS,J,<-hv]
          by_cases z:s=c.1
          ·subst z;simp
          · rw[if_neg (by simpa using z)]
            have:decide (c.1=s)=false:=by simpa using λu=>z<|Eq.symm u
            simp only[this,fi]
        · have:=GU kvs (.inr c.1) (.bl true)
          lia
      let[kvs,ek,hv,GS]:=W5.d;erw[tE6_];refine BI O (n:=0) rfl rfl {_,dS ek,?_};rw[hv,<-z2];cases hz:IK b i with
      | true =>
        refine DN rfl ?_;erw[tE5_];let[ps2,ep2,_]:=W5.f2;refine{.inl {rfl,_,SqL.of ep2},by decide,λt2 U=>?_}
        have L:=W5.same<|AI (o:=.tup [V.str (cj "twice"),V.int ↑i]) U;refine UT (H:=upd H5 t2<|.tup [V.str (cj "twice"),V.int ↑i]) (l2:=l) (f2:=B<|i+1) {SameBut.refl _,L.f2,L.f1,n12.symm} (by lia) AD λY W6=>?_
        have W7:=L.two m1 m2 W6.flip;rw[show D i++[[V.str (cj "twice"),V.int ↑i]]=D (i+1) by rw[hTW,hz,if_pos rfl]]at W7;exact last W7 (W6.1 _ _ (AI U _ _ O) λz=>by
          let z||z:=z
          · let[ps,e,_]:=W5.f2
            rw[<-z,O]at e;cases e
          · let[ps,e,_]:=W5.f1
            rw[<-z,O]at e;cases e)
      |false =>
        refine CZ ax ?_;rw[show D i=D (i+1) by rw[hTW,hz,if_neg ax]]at W5;exact last W5 O
    refine u2 ?_<|I4.r.at hcr;intro us2 v2 [e2,_,ev2,RU];erw[tE4_];refine y3 {ob4,T.cl,T.n2,_,UR,BI hp (n:=1) rfl rfl (CI (SqL.of e2) (n:=c.2) rfl ev2 ?_)};erw[]
    have OQ:=cF RU;by_cases hz:v2=.non
    · refine DN hz ?_
      have hz':HJ b i=true:=by rw[z1,<-OQ];simpa using hz
      erw[tE3_];let[ps2,ep2,_]:=W.f1;refine{.inl {rfl,_,SqL.of ep2},by decide,λt2 U=>?_}
      have L:=W.same<|AI (o:=.tup [V.str (cj "lost"),V.int ↑i]) U;refine UT (H:=upd H4 t2<|.tup [V.str (cj "lost"),V.int ↑i]) (l2:=l2) (f2:=D i) {SameBut.refl _,L.f1,L.f2,n12} (by lia) AD λY W6=>?_
      have W7:=L.two m1 m2 W6;rw[show B i++[[V.str (cj "lost"),V.int ↑i]]=B (i+1) by rw[hLO,hz',if_pos rfl]]at W7;exact tail W7 (W6.1 _ _ (AI U _ _ hp) λz=>by
          let z||z:=z
          · let[ps,e,_]:=W.f1
            rw[<-z,hp]at e;cases e
          · let[ps,e,_]:=W.f2
            rw[<-z,hp]at e;cases e)
    · refine CZ hz ?_
      have hz':HJ b i=false:=by rw[z1,<-OQ];simpa using hz
      rw[show B i=B (i+1) by rw[hLO,hz',if_neg ax]]at W;exact tail W hp
  let[W,y4,y5,eσ]:=hzz;subst eσ;rw[hl]at W;exact JN W.f1 W.f2 (by have:=EA (p:=HJ b) (f:=λk=>[.str "lost",.int k]) bn;have:=EA (p:=IK b) (f:=λk=>[.str "twice",.int k]) bn;show(DK _ _ _).length+(DK _ _ _).length<=_;lia) (q.of λy o e=>W.s _ _ (EO _ _ e) λz=>by
    let z||z||z:=z
    ·rw[z,DO]at e;cases e
    ·rw[z,f2]at e;cases e
    ·rw[z,fsn]at e;cases e)
def zyn{n b:Nat}(h:b<n):HC n (b:Int)=some b:=by
 unfold HC;rw[if_pos (i0),if_pos<|ck.mpr h,bv]
theorem KP{α b :Type}{F: α -> b ->Prop}:∀ {l:List α} {m:List b} {i:Nat} {x: α},Paired F l m->l[i]? =some x->∃ y,m[i]? =some y/\F x y
 |_,_,_,_,.nil,h=>by simp at h
 |_,_,0,_,.cons h _,e=>by obtain rfl:=θ e;exact⟨_,rfl,h⟩
 |_,_,i+1,_,.cons _ r,e=>by
  let[y,h1,h2]:=KP  r (e);exact⟨y,h1,h2⟩
example:(zyo,LN,w9,2):=by
 apply u8;intro T U pl w rows m ts ps [rfl,TP,P,o,r,l,Y,q]
 have u:=r.length;refine .inl {{_,SqL.of o},qO  (BW _ (by rw[η];exact oA (υ (ay u) Y) rfl)) (λi b ys j=>Same H j/\ys=(ps.take i).map (λc=>LK rows c.1 c.2)/\∃ A B,b=[A,B,some _]) {Same.refl _,rfl,x2 _ _ rfl} (λi b ys j ⟨s,e,_⟩=>{SqL.of<|s _ _ o,by rw[e,η,de];lia}) (λi x b ys j D I d=>?_) (λb ys j d p J=>?_)};let[s,e,A,B,n]:=d;subst n;rw[η]at D;rw[ρ,bc]at I;let[t,ht,rfl]:=I;let[c,g,et]:=KP r ht
 have hb:=l c<|ι g
 have L:=P.same s;let[dp,M8]:=L.ob;erw[];refine{_,SqT.of<|s _ _ et,rfl,y2 {rfl,y2 {rfl,rfl,({λy M=>Same H M/\y=LK rows c.1 c.2,λy M ⟨s4,ey⟩=>cnx (by rw[η];exact D) {s4,?_},y2 {M8,MX _ _ _,x6 T U w _ m _ {rfl,TP,L,λb' row eb N l1 DO=>?_,λz=>by lia}}})}}};rw[ey,e,JM g,au]
 rfl;obtain rfl:c.1=b':=bh eb
 have O:=ζ   (χ hb.2<|ay (P.wd _<|ι N).symm);refine CI (SqL.of AD)  rfl O {HL s DO,?_};unfold LK;rw[N]
 show _=(row[c.2]?).getD _;rw[O];rfl;let[s,e,v]:=d;rw[η,u,ce]at e;subst e;exact q p _ (s.free J) (HL s J) AD
example:(zyp,Q6,ZQ,4):=by
 apply u3;intro many nl L [rfl,g,A,M,N,q];erw[ZQ,ZQ0_]
 have O:(μ many).map (λx=>V.int 0)=AQ ((μ many).map λk=>([]).count k):=by
  unfold AQ;rw[ip]
  rfl
 refine{i0,by lia,pF (BW _<|oA M rfl) (λx=>V.int 0) (λj d U T=>T) λl B=>?_};rw[O]
 have u:=AI (o:=.lst<|AQ<|(μ many).map λk=>([]).count k) B
 have D:upd H l _ l=some (.lst<|AQ<|(μ many).map λk=>([]).count k):=AD;revert u D;refine λu D=>.inl {{_,SqL.of<|u _ _ g},ID  (λi w n=>(Same H n/\n l=some (.lst<|AQ<|(μ _).map λk=>(L.take i).count k))/\∃ y,w=[some _,some _,some _,y]) {⟨u,D⟩,_,rfl} (by intro i w n x [[s,x],x];exact SqL.of<|s _ _ g) (λi v w n I b=>?_) (λw n b=>?_)};let[[s,e],y,c]:=b;subst c;unfold AQ at I;rw[ρ,bc]at I;let[k,r,rfl]:=I
 have J:=A k<|ι r;erw[ZQ1_];refine x2 _ k {rfl,SqL.of e,_,UQ<|OF J,?_};erw[];refine x4 l _ _ k {rfl,rfl,e,zyn (by rw[HM,M5];exact J),λy o e=>by rw[AK (BG e B)];exact s _ _ e,?_};rw[AD]
 congr 2
 unfold AQ;refine xb λj=>?_;by_cases d:j<many;rw[ρ,OF d,JM r,List.count_append];by_cases z:k=j;subst z;rw[fb (by simpa using d)];simp;rw[fz z,ρ,OF d]
 have:List.count j [k]=0:=by simp[z]
 rw[this]
 rfl;rw[bt (by simp;exact bx d),bt (by simp;exact bx d)];let[[s,e],y,c]:=b;subst c;rw[HM,ce]at e;exact q l _ B s e
example:(zyq,T8,tL,3):=by
 apply u2;intro rl cs [rfl,[us,w,P],L,A,q]
 have M:=P.length;refine{by decide,λl b=>?_}
 have n:=AI (o:=.lst []) b
 have u:upd H l _ l=some (.lst<|AQ<|FA []):=AD;revert n u
 have N:∀ i,(FA<|cs.take i).length<=i * 20:=λi=>by
  induction i with
  |zero=>exact ο _
  | succ i B =>
   cases e:cs[i]? with
   |none =>
    rw[jn (b_<|wo.mp e)];rw[jn ((wo.mp e))]at B
    lia
   | some c =>
    rw[JM e];unfold FA at B ⊢;rw[List.flatMap_append,ψ]
    have:(List.flatMap LI [c]).length<=20:=by
     cases c with
     |none=>simp[LI]
     |some c =>
      simp[LI];exact A c<|ι e
    lia
 refine λn u=>.inl {{_,SqL.of<|n _ _ w},ID  (λi r j=>(Same H j/\j l=some (.lst<|AQ<|FA<|cs.take i))/\∃ y,r=[some _,some _,y]) {⟨n,u⟩,_,rfl} (by intro i r j x [[s,x],x];exact SqL.of<|s _ _ w) (λi v r j D d=>?_) (λr j d=>?_)};let[[s,e],y,g]:=d;subst g;let[c,I,J]:=KP P D
 have O:=N i
 have T:FA (cs.take<|i+1)=FA (cs.take i)++LI c:=by
  rw[JM I];unfold FA;simp
 have U:=(ε.mp D).1;rw[T];erw[tL2_];cases c with
 |none =>
  refine CZ (λz=>z J) ?_;rw[show LI _=[]from rfl,jz];exact⟨s,e⟩
 |some c =>
  revert J;apply u2;intro p t [rfl,h1,h2]
  have Y:=A c<|ι I;erw[tL1_];refine{.inl {rfl,_,SqL.of e},BI (s _ _ h1)  rfl rfl (x4 l t _ _ {rfl,rfl,e,SqT.of<|s _ _ h2,BW _ (by rw[HM,HM];lia),{λy o e=>by rw[AK (BG e b)];exact s _ _ e,?_}})};rw[AD];unfold AQ;rw[au]
  rfl
 let[[s,e],y,g]:=d;subst g;rw[M,ce]at e;exact q l _ b s e
def HP{α :Type}{l b:List α}{a k:Nat}(h:l.length=a):(l++b)[a+k]? =b[k]? :=by
 subst h;rw[ba (xw _ _),Nat.add_sub_cancel_left]
theorem UU:∀ {rows:wC} {b j:Nat},(∀ r∈rows,r.length=w)->b<rows.length->j<w->rows.flatten[b*w+j]? =(rows[b]?).bind (·[j]?)
 | [],b,j,_,c,_=>by simp at c
 |r::e,0,j,h,_,d=>by
  rw[vd,tq,ii,ae<|χ d<|ay (h r aa).symm]
  rfl
 |r::e,b+1,j,h,c,d=>by
  rw[sy,s_<|b*w,dv,ii,HP<|h r aa,UU (λr g=>h r<|ω _ g) (by simpa using c) d]
  rfl
def Kp(h:∀ r∈rows,r.length=w)(c:1<=w)(d:k<n*w)(i:b+n<=rows.length):(rows.flatten[b*w+k]?)=some (LK rows (b+k/w) (k%w))/\b+k/w<rows.length/\k%w<w:=by
 have h2:k%w<w:=nv _<|c
 have h1:=ko (by rw[cm];exact d)
 have e:b*w+k=(b+k/w)*w+k%w:=by
  rw[dn,dv,Ft]
 refine{?_,by lia,h2};rw[e,UU h (by lia) h2];unfold LK
 have g:b+k/w<rows.length:=by lia
 rw[ζ _]
 show(rows[b+k/w])[k%w]? =some (((rows[b+k/w])[k%w]?).getD _);rw[ζ (χ h2<|ay (h _<|ud _).symm)]
 rfl
def zyr(h:∀ r∈rows,r.length=w)(g:1<=w)(i:b+n<=rows.length)(e:rows.flatten=pre++vs++post)(j:pre.length=b*w)(d:vs.length=n*w):(μ<|n*w).map (λk=>LK rows (b+k/w) (k%w))=vs:=by
 refine xb λk=>?_;by_cases c:k<n*w
 ·rw[ρ,ph c]
  show some _=_;rw[<-((Kp h g c i).1),e,fu,HP j,ae<|d ▸ c]
 ·rw[bt (by simp;exact bx c),bt<|d ▸ bx c]
def zys(r:N<=1000)
  (he:∀ k,k<N->∀ c (o:VK),Same H c->(∀ t,c t=none->o (.ref t) (upd c t<|.tup [.int ((b+k/w:Nat):Int),.int ((k%w:Nat):Int)]))->u (some (.int (k:Int))::C3 v x) c o)
  (hd:∀ (l:Addr) (d:uD) (c:Hp),H l=none->Same H c->c l=some (.lst<|d.map V.ref)->Paired (λt (g:Nat × Nat)=>c t=some (.tup [.int g.1,.int g.2])) d ((μ N).map λk=>(b+k/w,k%w))->Q (.ref l) c):D5 (ET 0 N) (AG 0) CP u 1 v x H Q:=by
 refine MH (BW _<|oA r rfl) (λi ys c=>Same H c/\∃ d:List _,ys=d.map V.ref/\Paired (λt (g:Nat × Nat)=>c t=some (.tup [.int g.1,.int g.2])) d ((μ i).map λk=>(b+k/w,k%w))) {Same.refl _,[],rfl,.nil} (λi ys c y z j=>?_) (λys c z j p n=>?_);let[s,d,e,P]:=j;rw[il];refine he i y c _ s λt q=>{HL s q,d++[t],by rw[e,au];rfl,?_}
 rw[bq,au];exact Paired.snoc (Paired.mapP P λt g e=>AI q _ _ e) AD;let[s,d,rfl,P]:=j;exact hd p d _ (s.free n) (HL s n) AD (Paired.mapP P λt g e=>AI n _ _ e)
def RK{n b w m:Nat}{g o:Addr}{rows:wC}{r:TE}{u:wE}{x:St}{y:VK}{pre us post:tF}(TP:DL K a)(P:PlankAt a H g o w rows m)(z:1<=w)(c:n*w<=1000)(A:b+n<=rows.length)(e:rows.flatten=pre++us++post)(D:pre.length=b*w)(I:us.length=n*w)
  (he:∀ k,k<n*w->∀ d (B:VK),Same H d->(∀ t,d t=none->B (.ref t) (upd d t<|.tup [.int ((b+k/w:Nat):Int),.int ((k%w:Nat):Int)]))->r (some (.int (k:Int))::C3 u x) d B)
  (q:newL us H y):D5 (ET 0<|n*w) (AG 0) CP r 1 u x H (λv J=>LN K a [.ref g,v] J y E):=by
 refine zys c he λL M d T s i N=>(x8 g o L w _ m M _ {rfl,TP,P.same s,i,N,λj l=>?_,by rw[η,cz];exact c,?_})
 let[k,O,rfl]:=az.mp l;exact(Kp P.wd z (ao.mp O) A).2;rw[ip,show((μ _).map ((λj:Nat × Nat=>LK _ j.1 j.2) ∘ λk=>(b+k/w,k%w)))=us from(zyr P.wd z A e D I)];exact q.of s
section
variable{u1 u2 u3 u4 u5 u6:V}{rest:xB}
def zyt:(("name_values",u1)::rest:xB).lookup ("name_values":Str)=some u1:=rfl
def Kq:(("name_values",u1)::("record_values",u2)::rest:xB).lookup ("record_values":Str)=some u2:=by
 simp[ai,BD (a:="record_values") (b:="name_values") (by decide)]
def zyu:(("name_values",u1)::("record_values",u2)::("piece_values",u3)::("record_marks",u4)::("piece_marks",u5)::("leads",u6)::rest:xB).lookup ("leads":Str)=some u6:=by
 simp[ai,BD (a:="leads") (b:="name_values") (by decide),BD (a:="leads") (b:="record_values") (by decide),BD (a:="leads") (b:="piece_values") (by decide),BD (a:="leads") (b:="record_marks") (by decide),BD (a:="leads") (b:="piece_marks") (by decide)]
end
def OH(b:yD)(as:uD):xB:=List.zipWith (λk l=>(k,V.ref l)) b as
theorem Kv:∀ {c:yD} {as:uD},c.length=as.length->c.all (λg=> !DT g f)=true->BV f (.ref l) (OH c as)=OH (c++[f]) (as++[l])
 | [],[],_,_=>rfl
 |k::c,b::as,h,e=>by
  simp only[uk,cb,xc]at e
  show BV f _ ((k,V.ref b)::OH c as)=_;rw[zje e.1,Kv (Ke h) e.2]
  rfl
structure VI(C:Addr)(H H':Hp)(x dx:Addr)(ks:yD)(as:uD)(ls:List (Addr × HO)):Prop where
 ob:H' x=some (.ins C dx<|OH ks as)
 s:SameBut (· =x) H H'
 al:∀ p∈ls,H' p.1=some p.2/\p.1≠x
section
variable{C x dx l:Addr}{ks:yD}{as:uD}{ls:List (Addr × HO)}{H1 H2:Hp}{o:HO}
def VI.same(I:VI C H H1 x dx ks as ls)(s:Same H1 H2):VI C H H2 x dx ks as ls:={s _ _ I.ob,I.s.trans s.sb,λp b=>{s _ _ (I.al p b).1,(I.al p b).2}}
def VI.add(I:VI C H H1 x dx ks as ls)(e:H1 l=some o)(no:∀ D d f,o≠.ins D d f:=by intro y y y z;cases z):VI C H H1 x dx ks as ((l,o)::ls):=⟨I.ob,I.s,λp b=>by
 let rfl||b:=af.mp b
 exact{e,λz=>by rw[show l=x from z,I.ob]at e;exact no _ _ _ (θ e).symm};exact I.al p b⟩
def VI.new(I:VI C H H1 x dx ks as ls)(h:H1 l=none)(no:∀ D d f,o≠.ins D d f:=by intro y y y z;cases z):VI C H (upd H1 l o) x dx ks as ((l,o)::ls):=(I.same<|AI h).add AD no
def VI.put{f:Str}{P:Hp->Prop}(I:VI C H H1 x dx ks as ls)(T:Cls K C)(i:NoAttr K C f)(q:∀ c,VI C H c x dx (ks++[f]) (as++[l]) ls->P c)(j:ks.length=as.length:=by rfl)(n:ks.all (λg=> !DT g f)=true:=by decide +kernel)(h9:ks.length<1000:=by decide) :
  ∃ D d gs,H1 x=some (.ins D d gs)/\Cls K D/\NoAttr K D f/\gs.length<1000/\P (upd H1 x<|.ins D d<|BV f (.ref l) gs) :=
 {_,_,_,I.ob,T,i,cf (by unfold OH;rw[List.length_zipWith];exact Nat.min_le_left _ _) h9,q _ {by rw[AD,Kv j n],I.s.trans λy o e r=>by rw[AK r];exact e,λp b=>{by rw[AK (I.al p b).2];exact(I.al p b).1,(I.al p b).2}}}
end
def RL{b k w:Nat}{z:Int}{Q:VK}(hz:z=b)(q:∀ t,H t=none->Q (.ref t) (upd H t<|.tup [.int ((b+k/w:Nat):Int),.int ((k%w:Nat):Int)])):G0 (z+(k:Int)/(w:Int)) ((k:Int)%(w:Int)) Q H:=by
 have c:z+k/w=((b+k/w:Nat)):=by rw[hz];simp
 rw[c];exact q
def PlankAt.off{c:Hp}{b d x j C:Addr}{w m:Nat}{rows:wC}{fs:xB}(P:PlankAt a H b d w rows m)(g:H x=some (.ins C j fs))(l:b≠x)(s:SameBut (· =x) H c):PlankAt a c b d w rows m:=by
 let[[n,o],[q,i,u],v,y,A]:=P;exact{{n,s _ _ o l},{q,s _ _ i (AZ i g (by intro z;cases z)),Paired.mapP u λt r e=>s _ _ e (AZ e g (by intro z;cases z))},v,y,A}
example:(zyv,Q8,yU,6):=by
 apply NA;intro x dx ly gp cl n r c w rows m B [rfl,T,TL,TP,hx,L,P,KQ,[[v1,J,v3,v4,v5,ef,P1,P2,P3,P4,P5],ln,lr,O,ok],q];let[dl,IP]:=L.ob;let[u,b1,b2,b3,b4,b5]:=id L
 have q1:=P1.length
 have q3:=P3.length
 have q2:=P2.length
 have q4:=P4.length
 have ok1:=ok.l1
 have q5:=P5.length
 have ok2:=ok.l2
 have br:=ok.br
 have bp:=ok.bp
 have bn:=ok.bn;refine y2 {IP,BM (by decide +kernel),x5 ly n r c w {rfl,TL,L,λt ht=>?_}};let[H1,zz0,s1,et]:=GQ (o:=.tup [.int ((n:Int)*w),.int<|(r:Int)*w,.int<|(c:Int)*w]) ht;rw[zz0];refine BI et (n:=1) rfl rfl (BI et (n:=2) rfl rfl ?_);erw[yU3_];refine BI et (n:=0) rfl rfl ?_
 have cn:∀ k:Nat,((k:Int)*w)=((k*w:Nat):Int):=λk=>by simp
 have ngx:gp≠x:=λz=>by
  let[dp,e]:=P.ob;rw[z,hx]at e
  have e:=(HO.ins.inj<|θ e).2.2;simp[pf]at e
 have nlx:ly≠x:=λz=>by
  rw[z,hx]at IP
  have IP:=(HO.ins.inj<|θ IP).2.2;simp[lf]at IP
 have L':∀ {j:Hp},SameBut (· =x) H j->LayAt a j ly n r c w:=λs=>L.sb s nlx
 have V1:VI (a "View") H H1 x dx [] [] []:={s1 _ _ hx,s1.sb,λp M=>by cases M}
 have P':∀ {j:Hp},SameBut (· =x) H j->PlankAt a j gp cl w rows m:=λs=>P.off hx ngx s;rw[cn n,cn r,cn c];refine{i0,by lia,?_};refine RK (n:=n) (b:=0) (us:=v1) (pre:=[]) (post:=J++v3++v4++v5) TP (P' V1.s) b4 (oA (υ (ay ln.symm) bn) rfl) (by lia) (by rw[ef];simp) (by simp) (ln ▸ q1) (λk A j Q' s U=>?_) λan H2 han s2 ean=>((V1.same s2).add ean).put T.cl T.n1 λH3 V2=>?_
 have D:=L'<|V1.s.trans s.sb;let[Y,g]:=D.ob;exact y2 {g,BM (by decide +kernel),x6 ly n r c w k {rfl,TL,D,RL (by simp) U}};erw[yU4_];refine{i0,by lia,RK (n:=r) (b:=n) (us:=J) (pre:=v1) (post:=v3++v4++v5) TP (P' V2.s) b4 (by lia) (by lia) (by simp[ef]) (by first|(simp only[ψ,dn];lia)|exact ln ▸ q1) (lr ▸ q2) (λk A j Q' s U=>?_) λar H4 h4 s4 e4=>((V2.same s4).add e4).put T.cl T.n2 λH5 V3=>?_}
 have D:=L'<|V2.s.trans s.sb;let[Y,g]:=D.ob;exact y2 {g,BM (by decide +kernel),x6 ly n r c w k {rfl,TL,D,RL (by simp) U}};erw[yU5_];refine{i0,by lia,RK (n:=c) (b:=n+r) (us:=v3) (pre:=v1++J) (post:=v4++v5) TP (P' V3.s) b4 (oA (υ (ay O.symm) bp) rfl) (by lia) (by simp[ef]) (by first|(simp only[ψ,dn];lia)|lia) (O ▸ q3) (λk A j Q' s U=>?_) λap H4 h4 s4 e4=>((V3.same s4).add e4).put T.cl T.n3 λH5 V4=>?_}
 have D:=L'<|V3.s.trans s.sb;let[Y,g]:=D.ob;exact y2 {g,BM (by decide +kernel),x6 ly n r c w k {rfl,TL,D,RL (by simp) U}};erw[yU6_];refine{i0,by lia,RK (n:=r) (b:=n+r+c) (us:=v4) (pre:=v1++J++v3) (post:=v5) TP (P' V4.s) b4 (by lia) (by lia) (by simp[ef]) (by first|(simp only[ψ,dn];lia)|lia) (by lia) (λk A j Q' s U=>?_) λam H4 h4 s4 e4=>((V4.same s4).add e4).put T.cl T.n4 λH5 V5=>?_}
 have D:=L'<|V4.s.trans s.sb;let[Y,g]:=D.ob;exact y2 {g,BM (by decide +kernel),x6 ly n r c w k {rfl,TL,D,RL (by simp) U}};erw[yU7_];refine{i0,by lia,RK (n:=c) (b:=n+r+c+r) (us:=v5) (pre:=v1++J++v3++v4) (post:=[]) TP (P' V5.s) b4 (oA (υ (ay O.symm) bp) rfl) (ay KQ.symm) (by simp[ef]) (by first|(simp only[ψ,dn];lia)|lia) (by lia) (λk A j Q' s U=>?_) λaq H4 h4 s4 e4=>((V5.same s4).add e4).put T.cl T.n5 λH5 V6=>?_}
 have D:=L'<|V5.s.trans s.sb;let[Y,g]:=D.ob;exact y2 {g,BM (by decide +kernel),x6 ly n r c w k {rfl,TL,D,RL (by simp) U}};erw[yU8_]
 have P1':=Paired.mapP P1 λv c=>NmV.keep λy xs e=>V6.s _ _ e (AZ e hx (by intro z;cases z))
 have ean2:=(V6.al (an,.lst v1) (by simp)).1;refine y3 {V6.ob,T.cl,T.n1,_,zyt,.inl {{_,SqL.of ean2},(qX (xs:=v1) (λi=>(A4 B.nm i).isSome) (BW _<|oA (υ (ay q1) bn) rfl) (λi ys j=>j=H5/\ys=AQ (MR<|B.nm.take i)) ⟨rfl,rfl⟩ (λi ys j u ⟨e,e'⟩=>{e ▸ SqL.of ean2,?_}) (λi v ys j hv hzz QB qb=>?_) (λi v ys j hv M hzz=>?_) (λi v ys j hv M ⟨e,e'⟩=>{e,?_}) (λys j hzz p M=>?_))}};rw[e',HM];exact υ (jb ..) (by rw[de];lia);let[c',ec,hr]:=KP P1' hv;erw[];rw[zx6 hr];unfold A4 at qb;rw[ec]at qb;simpa using qb;let[rfl,e']:=hzz;let[c',ec,hr]:=KP P1' hv
 have:c'.isSome=true:=by
  unfold A4 at M;rw[ec]at M;exact M
 let[d,rfl]:=c_.mp this;let[p,rfl,hp']:=hr;refine BI hp' (n:=1) rfl rfl {rfl,?_};rw[e',JM ec];unfold MR AQ;rw[yx,au]
 rfl;let[c',ec,hr]:=KP P1' hv
 have:c'=none:=by
  unfold A4 at M;rw[ec]at M;cases c' with
  |none=>rfl
  |some _=>cases M
 subst this;rw[e',JM ec];unfold MR AQ;simp;let[rfl,e']:=hzz;rw[q1,ce]at e';let[H12,zz0,CG,e12]:=GQ (o:=.lst<|AQ<|MR B.nm) M;subst e';rw[zz0];refine x3 (r*w) p (MR B.nm) {rfl,e12,λk A=>?_,by lia,oA (υ (jb ..) bn) rfl,λal H13 hal s13 eal=>((V6.same<|CG.trans s13).add eal).put T.cl T.n6 λH14 V7=>?_};let[d,h1,h2]:=qy.mp A;rw[bc]at h2;let[c2,rfl,rfl]:=h2;rw[<-lr];exact(ok.n1 c2 h1).1
 have tkx:∀ {j:Hp} {ks as ls},VI (a "View") H j x dx ks as ls->B3 H j:=λI y xs e=>I.s _ _ e (AZ e hx (by intro z;cases z))
 have rcs:∀ {j:Hp} {ks as ls},VI (a "View") H j x dx ks as ls->j ar=some (.lst J)->LstAt RcV j ar B.rc:=λI e=>{J,e,Paired.mapP P2 λv c=>RcV.keep<|tkx I}
 have n10:∀ d,some d∈B.rc->d.2.length<=20:=λd h=>(ok.n2 d h).2
 have pb:∀ (l:List JF),l.length<=100->(∀ d,some d∈l->d.2.length<=20)->(FA l).length<=2000:=λl hl h=>by
  have:(FA l).length<=l.length * 20:=by
   clear hl
   induction l with
   |nil=>simp[FA]
   |cons y l ih =>
    have ih:=ih λd hc=>h d<|ω _ hc;unfold FA at ih ⊢;rw[List.flatMap_cons,ψ,fj]
    have:(LI y).length<=20:=by
     cases y with
     |none=>simp[LI]
     |some c=>exact h c aa
    lia
  lia
 erw[yU9_];refine y3 {V7.ob,T.cl,T.n2,_,Kq,x2 ar B.rc {rfl,rcs V7 ((V7.al (ar,.lst J) (by simp)).1),br,n10,λpl H15 B1 s15 epl=>x3 (c*w) pl (FA B.rc) {rfl,epl,λk A=>?_,oA (υ (ay O.symm) bp) rfl,by have:=pb _ br n10;lia,λag H16 hag s16 eag=>((V7.same<|s15.trans s16).add eag).put T.cl T.n7 λH17 V8=>?_}}}
 ·unfold FA at A;let[d,h1,h2]:=uh.mp A;cases d with
  |none=>cases h2
  |some d =>
   rw[<-O];exact(ok.n2 d h1).1 k h2
 have hal':H17 al=some (.lst<|AQ<|(μ B.rc.length).map (led B)):=by rw[lr];exact(V8.al _<|.tail _<|.head _).1
 have ltm:∀ d,some d∈LJ B->some d∈B.rc:=λd h=>by
  unfold LJ at h;let[k,u,A]:=az.mp h;unfold A4 at A;cases e:B.rc[k]? with
  |none=>rw[e]at A;cases A
  |some y =>
   rw[e]at A
   have A:y=some d:=A;exact A ▸ ι e
 have ltl:(LJ B).length<=100:=by
  unfold LJ;rw[η];exact υ (dg ..) (by rw[cz];exact br)
 erw[yU10_];refine y2 {V8.ob,?_,x4 x ar al B {rfl,T,y2 ⟨V8.ob,Kq⟩,y2 ⟨V8.ob,zyu⟩,rcs V8 ((V8.al (ar,.lst J) (by simp)).1),hal',br,λlt H18 A1 s18 DD=>x2 lt (LJ B) {rfl,DD,ltl,λd h=>n10 d<|ltm d h,λpl2 H19 hpl2 s19 epl2=>x3 (c*w) pl2 (FA<|LJ B) {rfl,epl2,λk A=>?_,oA (υ (ay O.symm) bp) rfl,by have:=pb _ ltl<|λd h=>n10 d<|ltm d h;lia,λah H20 hah s20 eah=>((V8.same<|(s18.trans s19).trans s20).add eah).put T.cl T.n8 λH21 N=>?_}}}}
 ·simp[OH,ai,BD (a:="records_led_to") (b:="name_values") (by decide +kernel),BD (a:="records_led_to") (b:="record_values") (by decide +kernel),BD (a:="records_led_to") (b:="piece_values") (by decide +kernel),BD (a:="records_led_to") (b:="record_marks") (by decide +kernel),BD (a:="records_led_to") (b:="piece_marks") (by decide +kernel),BD (a:="records_led_to") (b:="leads") (by decide +kernel),BD (a:="records_led_to") (b:="namings") (by decide +kernel)]
 ·unfold FA at A;let[d,h1,h2]:=uh.mp A;cases d with
  |none=>cases h2
  |some d =>
   rw[<-O];exact(ok.n2 d<|ltm d h1).1 k h2
 have tk:=tkx N;refine q ⟨an,ar,ap,am,aq,al,ag,ah⟩ _ {⟨dx,N.ob⟩,{v1,(N.al (an,.lst v1) (by simp)).1,Paired.mapP P1 λv c=>NmV.keep tk},{J,(N.al (ar,.lst J) (by simp)).1,Paired.mapP P2 λv c=>RcV.keep tk},{v3,(N.al (ap,.lst v3) (by simp)).1,Paired.mapP P3 λv c=>PcV.keep tk},{v4,(N.al (am,.lst v4) (by simp)).1,Paired.mapP P4 λv c=>MkV.keep tk},{v5,(N.al (aq,.lst v5) (by simp)).1,Paired.mapP P5 λv c=>MkV.keep tk},by rw[lr];exact(N.al _<|.tail _<|.tail _<|.head _).1,by rw[O];exact(N.al _<|.tail _<|.head _).1,by rw[O];exact(N.al _<|.head _).1,ok} N.s
def PlV.same(h:PlV H rows n r c w b)(tk:B3 H d):PlV d rows n r c w b:=by
 let[[v1,e,g,v4,i,j,l,o,P3,q,s],u,x2,x3,x4]:=h;exact{x5 v1 e g v4 i {j,Paired.mapP l λv c=>NmV.keep tk,Paired.mapP o λv c=>RcV.keep tk,Paired.mapP P3 λv c=>PcV.keep tk,Paired.mapP q λv c=>MkV.keep tk,Paired.mapP s λv c=>MkV.keep tk},u,x2,x3,x4}
def Ground.same(g:Ground K a H b d e)(s:Same H i):Ground K a i b d e:=by
 revert g;apply u7;intro j n r c w rows m [T,l,TP,L,P,o,pv];exact x7 j n r c w _ m {T,l,TP,L.same s,P.same s,o,pv.same s.tk}
def Ground.ok{d e:Addr}{b:Vw}(g:Ground K a H d e b):EK b:=by
 revert g;apply u7;intro i n r c w rows m [T,j,TP,L,P,l,pv];exact pv.ok
def Kw{j l:Addr}{u:Vw}{Q:Addr->Hp->Prop}(g:Ground K a H j l u)(q:TV K a->∀ x A d,ViewAt a d x A u->Same H d->Q x d) :
  ∀ x b,H x=none->H b=none->b≠x->Q8 K a [.ref x,.ref j,.ref l] (upd (upd H b<|.own x) x (.ins (a "View") b [])) (λv d=>v=.non/\Q x d) E:=λx b z B nd=>by
 have i:Same H (upd (upd H b<|.own x) x (.ins (a "View") b [])):=(AI B).trans (AI (by rw[AK nd.symm];exact z));revert g;apply u7;intro D n r c w rows m [T,J,TP,L,P,M,pv];exact M9 x b j l D n r c w _ m u {rfl,T,J,TP,AD,L.same i,P.same i,M,pv.same i.tk,λA N I s=>{rfl,q T x A N I λy o e=>s _ _ (i _ _ e) (BG e z)}}
example:(zyw,Y2,Bv,3):=by
 apply u3;intro l n b [rfl,g,q];let[o,r,s,u,v,w]:=US g.ok;refine Kw g λT x A y I e=>(x3 x A b {rfl,T,I,λz B h2 c i=>x3 x A b {rfl,T,I.same c,λl2 D h3 d j=>JN (i.same d) j ?_ (q.of<|(e.trans c).trans d)}})
 unfold faults MS;simp only[ψ]
 lia
example:(zyx,Y3,aW,2):=by
 apply u3;intro n o b [rfl,g,q];erw[aW,aW0_];refine Kw g λT x A r I c=>x3 x A b {rfl,T,I,λs d h2 i j=>?_};let[ps,e,P]:=j;refine{_,.inl {_,SqL.of e,by rw[η,P.length]},?_}
 have l:decide (((faults b).length:Int)=0)=decide (faults b=[]):=by
  rw[decide_eq_decide];constructor;intro h;exact dr.mp (by lia);intro h;rw[h];rfl
 rw[l];exact(q d<|c.trans i)
def Kx(b:Vw):MS b=(FF b).map (sO b):=by
 unfold MS Q3 Q4 Q5 FF DK;simp only[au,ip]
 rfl
def LV{α :Type}{f:Nat->Option α}{n k:Nat}:A4 ((μ n).map f) k=if k<n then f k else none:=by
 unfold A4;by_cases h:k<n;rw[if_pos h,ρ,ph h]
 rfl;rw[if_neg h,bt (by simp;exact bx h)]
 rfl
def UV{α :Type}{l:List (Option α)}{k:Nat}(h:¬ k<l.length):A4 l k=none:=by
 unfold A4;rw[bt (bx h)]
 rfl
section
variable{vw:Vw}
def cH(r:Nat):A4 (mended vw).rc r=FN vw r:=by
 show A4 ((μ _).map _) r=_;rw[LV];split
 rfl;rename_i h;unfold FN;rw[UV h]
def cI(ok:EK vw)(r:Nat):A4 (mended vw).rm r=KL vw r:=by
 show A4 ((μ _).map _) r=_;rw[LV];split
 rfl;rename_i h;unfold KL;rw[UV h,(UV (by rw[ok.l1];exact h))];simp
def Ky(ok:EK vw)(p:Nat):A4 (mended vw).pm p=MT vw p:=by
 show A4 ((μ _).map _) p=_;rw[LV];split
 rfl;rename_i h;unfold MT;rw[(UV (by rw[ok.l2];exact h))];simp
def zyy{r:Nat}{d:Int × wE}(h:FN vw r=some d):∃ c,A4 vw.rc r=some c/\0<led vw r/\d=((led vw r:Int),c.2):=by
 unfold FN at h;cases e:A4 _ r with
 |none=>rw[e]at h;cases h
 |some c =>
  rw[e]at h;by_cases h0:led vw r=0;simp only[h0]at h;cases h;simp only[h0,if_false,wz]at h;exact{c,rfl,rn h0,h.symm}
def Kz{r:Nat}{c:Int × wE}(h:A4 vw.rc r=some c)(b:0<led vw r):FN vw r=some ((led vw r:Int),c.2):=by
 unfold FN;rw[h];simp only;rw[if_neg (ja b)]
def UW(ok:EK vw):EK (mended vw):=by
 refine{λc h=>?_,λc h=>?_,ok.n3,?_,?_,ok.bn,?_,ok.bp}
 show c.2<((μ _).map _).length/\_;simp only[η,cz];exact ok.n1 c h;let[r,z,b]:=az.mp h;let[d,hd,z,rfl]:=zyy b;exact ok.n2 d<|zx2 hd
 show((μ _).map _).length=((μ _).map _).length;simp
 show((μ _).map _).length=vw.pc.length;simp
 show((μ _).map _).length<=100;simp only[η,cz];exact ok.br
end
theorem OI{α b c :Type}{F: α -> b ->Prop}{G: α -> c ->Prop}{f: b -> c}(k:∀ x y,G x (f y)->F x y):∀ {l:List α} {m:List b},Paired G l (m.map f)->Paired F l m
 |_,[],h=>by cases h;exact .nil
 |_,y::m,h=>by
  cases h with
  |cons h t=>exact .cons (k _ _ h) (OI k t)
theorem RM{α d :Type}{F: α -> d ->Prop}:∀ {bs:List d} {l:List α} {c:List d},Paired F l (bs++c)->∃ x y,l=x++y/\Paired F x bs/\Paired F y c
 | [],l,c,h=>x2 [] l {rfl,.nil,h}
 |b::bs,l,c,h=>by
  cases h with
  |cons h t =>
   refine u2 ?_<|RM t;intro x y [rfl,p1,p2];exact x2 _ y {rfl,.cons h p1,p2}
def PlV.asC{rows:wC}{n r c w:Nat}{b:Vw}(h:PlV H rows n r c w b):Paired (CelV H) rows.flatten (DW b):=by
 refine u5 ?_ h.vs;intro v1 l o v4 q [d,e,g,P3,i,j];rw[d];exact M6 (M6 (M6 (M6 (MY e λz z h=>h) (MY g λz z h=>h)) (MY P3 λz z h=>h)) (MY i λz z h=>h)) (MY j λz z h=>h)
def PlV.of{rows:wC}{n r c w:Nat}{b:Vw}(P:Paired (CelV H) rows.flatten (DW b))(d:b.nm.length=n*w)(e:b.rc.length=r*w)(g:b.pc.length=c*w)(ok:EK b):PlV H rows n r c w b:=by
 refine u2 ?_<|RM P;intro x4 i [j,P,l];refine u2 ?_<|RM P;intro x3 v4 [o,P,q];refine u2 ?_<|RM P;intro x2 s [u,P,P3];refine u2 ?_<|RM P;intro v1 v [x,y,A];exact{x5 v1 v s v4 i {by rw[j,o,u,x],OI  (f:=Cel.nm) (λz z h=>h) y,OI  (f:=Cel.rc) (λz z h=>h) A,OI  (f:=Cel.pc) (λz z h=>h) P3,OI  (f:=Cel.mk) (λz z h=>h) q,OI  (f:=Cel.mk) (λz z h=>h) l},d,e,g,ok}
theorem CelV.keep{b:Hp}(tk:B3 H b){v:V}:∀ {c:Cel},CelV H v c->CelV b v c
 |.nm _,h=>NmV.keep tk h
 |.rc _,h=>RcV.keep tk h
 |.pc _,h=>PcV.keep tk h
 |.mk _,h=>MkV.keep tk h
def zyz{α :Type}{l:List (Option α)}{k:Nat}(h:k<l.length):l[k]? =some (A4 l k):=by
 unfold A4;rw[ζ h]
 rfl
def Lb(b:Vw)(ok:EK b):(DW b).length=b.nm.length+b.rc.length+b.pc.length+b.rc.length+b.pc.length:=by
 unfold DW;simp only[ψ,η,ok.l1,ok.l2]
def RN{α b :Type}{f:Option α -> b}{l:List (Option α)}{c:List b}{k:Nat}(h:k<l.length):(l.map f++c)[k]? =some (f<|A4 l k):=by
 rw[ae (by rwa [η]),ρ,zyz h]
 rfl
section
variable{vw:Vw}{N R P k:Nat}
def RO(vw:Vw):DW vw=vw.nm.map .nm++(vw.rc.map .rc++(vw.pc.map .pc++(vw.rm.map .mk++(vw.pm.map .mk++[])))):=by simp[DW]
def cJ(h1:vw.nm.length=N)(h:k<N):(DW vw)[k]? =some (.nm<|A4 vw.nm k):=by
 subst h1;rw[RO,RN h]
def OJ(h1:vw.nm.length=N)(h2:vw.rc.length=R)(h:k<R):(DW vw)[N+k]? =some (.rc<|A4 vw.rc k):=by
 subst h1 h2;rw[RO,HP<|η _,RN h]
def cK(h1:vw.nm.length=N)(h2:vw.rc.length=R)(h3:vw.pc.length=P)(h:k<P):(DW vw)[N+R+k]? =some (.pc<|A4 vw.pc k):=by
 subst h1 h2 h3;rw[RO,dv,HP<|η _,HP<|η _,RN h]
def RP(ok:EK vw)(h1:vw.nm.length=N)(h2:vw.rc.length=R)(h3:vw.pc.length=P)(h:k<R):(DW vw)[N+R+P+k]? =some (.mk<|A4 vw.rm k):=by
 subst h1 h2 h3;rw[RO,dv,dv,HP<|η _,HP<|η _,HP<|η _,RN<|ok.l1 ▸ h]
def UX(ok:EK vw)(h1:vw.nm.length=N)(h2:vw.rc.length=R)(h3:vw.pc.length=P)(h:k<P):(DW vw)[N+R+P+R+k]? =some (.mk<|A4 vw.pm k):=by
 subst h1 h2 h3;rw[RO,dv,dv,dv,HP<|η _,HP<|η _,HP<|η _,HP<|(η _).trans ok.l1,RN<|ok.l2 ▸ h]
def Lc{f:Nat}{A:Nat->Prop}(h0:f<N->A f)(h3:∀ k,k<R->A (N+k))(h4:∀ k,k<P->A (N+R+k))(h1:∀ k,k<R->A (N+R+P+k))(h2:∀ k,k<P->A (N+R+P+R+k))(b:f<N+R+P+R+P):A f:=by
 let h||h:=dz f N
 exact h0 h;let[f,rfl]:=ie h;let h||h:=dz f R
 exact h3 f h;let[f,rfl]:=ie h;rw[<-dv]at b ⊢;let h||h:=dz f P
 exact h4 f h;let[f,rfl]:=ie h;rw[<-dv]at b ⊢;let h||h:=dz f R
 exact h1 f h;let[f,rfl]:=ie h;rw[<-dv]at b ⊢;exact h2 f<|Nat.lt_of_add_lt_add_left b
end
def zy0(h:DK n p f=[])(b:k<n):p k=false:=by
 simpa using (yl.mp (zw.mp h) k (ao.mpr b))
def zy1(h:faults b=[])(c:r<b.rc.length):JG b r=false:=zy0 (tz.mp<|(tz.mp (tz.mp h).1).2).2 c
def Ld{b:Vw}{c:Lv}(h:c∈FF b):(∃ r,c=.many r/\r<b.rc.length/\G3 b r=true)\/(∃ r,c=.leftR r/\r<b.rc.length/\(A4 b.rc r).isSome=true/\led b r=0)\/(∃ p,c=.leftP p/\p<b.pc.length/\A4 b.pm p=some 1/\IJ b p=0)\/∃ r,c=.marked r/\r<b.rc.length/\A4 b.rm r=some 1/\A4 b.rc r=none:=by
 unfold FF at h;simp only[bg,az,fe,ao,cb,decide_eq_true_eq]at h;rcases h with((⟨r,h,rfl⟩|⟨r,h,rfl⟩)|⟨p,h,rfl⟩)|⟨r,h,rfl⟩
 exact .inl ⟨r,rfl,h.1,h.2⟩;exact .inr<|.inl ⟨r,rfl,h.1,h.2.1,h.2.2⟩;exact .inr<|.inr<|.inl ⟨p,rfl,h.1,h.2.1,h.2.2⟩;exact .inr<|.inr<|.inr {r,rfl,h.1,h.2.1,wm.mp h.2.2}
section
variable{vw:Vw}{n r c w:Nat}
def zy2(ok:EK vw)(q:vw.nm.length=n*w)(i:vw.rc.length=r*w)(j:vw.pc.length=c*w)(h:s∈FF vw)(b:l∈FC vw n r c w s):(DW<|mended vw)[l.1]? =some l.2:=by
 have g2:(mended vw).rc.length=r*w:=by
  show((μ vw.rc.length).map (FN vw)).length=_;simp[i]
 have g:=UW ok
 have g1:(mended vw).nm.length=n*w:=q
 have g3:(mended vw).pc.length=c*w:=j;let[k,rfl,e,v]||[k,rfl,e,u,o]||[k,rfl,e,h1,h2]||[k,rfl,e,h1,h2]:=Ld h
 ·simp only[FC,τ]at b;subst b;rw[OJ g1 g2 (i ▸ e),cH]
 ·let[d,hd]:=c_.mp u;simp only[FC,af,ca,or_false]at b;let rfl||rfl:=b
  ·rw[OJ g1 g2 (i ▸ e),cH];unfold FN;rw[hd];simp[o]
  ·simp only[dn];rw[RP g g1 g2 g3 (i ▸ e),cI ok];unfold KL;rw[hd];simp[o]
 ·simp only[FC,τ]at b;subst b;simp only[dn];rw[UX g g1 g2 g3 (j ▸ e),Ky ok];unfold MT;rw[if_pos ⟨h1,h2⟩]
 ·simp only[FC,τ]at b;subst b;simp only[dn];rw[RP g g1 g2 g3 (i ▸ e),cI ok];unfold KL;rw[h2];simp[h1]
def zy3(ok:EK vw)(l:vw.nm.length=n * w)(j:vw.rc.length=r * w)(o:vw.pc.length=c * w)(s:faults vw=[])(B:f<n * w+r * w+c * w+r * w+c * w):(∀ u∈FF vw,∀ v∈FC vw n r c w u,v.1≠f)->(DW<|mended vw)[f]? =(DW vw)[f]? :=by
 have g2:(mended vw).rc.length=r*w:=by
  show((μ vw.rc.length).map (FN vw)).length=_;simp[j]
 have q:=UW ok
 have g1:(mended vw).nm.length=n*w:=l
 have g3:(mended vw).pc.length=c*w:=o;refine Lc (A:=λf=>(∀ u∈FF vw,∀ v∈FC vw n r c w u,v.1≠f)->(DW<|mended vw)[f]? =(DW vw)[f]?) (λh b=>?_) (λk g b=>?_) (λk g b=>?_) (λk g b=>?_) (λk g b=>?_) B
 ·rw[cJ g1 h,cJ l h];rfl
 ·rw[OJ g1 g2 g,OJ l j g,cH]
  have i:k<vw.rc.length:=j.symm ▸ g
  congr 2
  cases e:A4 vw.rc k with
  |none=>unfold FN;rw[e]
  |some d =>
   have h0:0<led vw k:=by
    rcases me (led vw k)with z|z
    ·refine absurd rfl (b (.leftR k) ?_ (n*w+k,.rc none) (by simp[FC]));unfold FF;simp only[bg,az,fe,ao,cb,decide_eq_true_eq];exact .inl (.inl (.inr {k,{i,by rw[e];rfl,z},rfl}))
    ·exact z
   have h1:¬ ((led vw k:Int)<d.1):=λz=>by
    refine absurd rfl (b (.many k) ?_ (n*w+k,.rc<|FN vw k) (by simp[FC]));unfold FF;simp only[bg,az,fe,ao,cb,decide_eq_true_eq];refine .inl<|.inl<|.inl {k,{i,?_},rfl};unfold G3;rw[e];simp[h0,z]
   have h2:=zy1 s i;unfold JG at h2;rw[e]at h2;rw[Kz e h0]
   have:d.1=(led vw k:Int):=by lia
   rw[<-this]
 ·rw[cK g1 g2 g3 g,cK l j o g];rfl
 ·rw[RP q g1 g2 g3 g,RP ok l j o g,cI ok]
  have i:k<vw.rc.length:=j.symm ▸ g
  congr 2
  cases e:A4 vw.rc k with
  |none =>
   unfold KL;rw[e];simp only;rw[if_neg];intro z;refine absurd (by simp only[dn]) (b (.marked k) ?_ ((n+r+c)*w+k,.mk<|some 0) (by simp[FC]));unfold FF;simp only[bg,az,fe,ao,cb,decide_eq_true_eq];exact .inr {k,{i,z,by rw[e];rfl},rfl}
  |some d =>
   unfold KL;rw[e];simp only;rw[if_neg];intro z;refine absurd (by simp only[dn]) (b (.leftR k) ?_ ((n+r+c)*w+k,.mk<|some 0) (by simp[FC]));unfold FF;simp only[bg,az,fe,ao,cb,decide_eq_true_eq];exact .inl (.inl (.inr {k,{i,by rw[e];rfl,z},rfl}))
 ·rw[UX q g1 g2 g3 g,UX ok l j o g,Ky ok]
  congr 2
  unfold MT;rw[if_neg];intro[x,y];refine absurd (by simp only[dn]) (b (.leftP k) ?_ ((n+r+c+r)*w+k,.mk<|some 0) (by simp[FC]));unfold FF;simp only[bg,az,fe,ao,cb,decide_eq_true_eq];exact .inl<|.inr {k,{o.symm ▸ g,x,y},rfl}
end
def FE:Cel->vn
 |.nm none=>.none
 |.nm (some c)=>.tuple [.str c.1,.int c.2]
 |.rc none=>.none
 |.rc (some c)=>.tuple [.int c.1,.tuple<|c.2.map λ(k:Nat)=>v_ k]
 |.pc none=>.none
 |.pc (some s)=>.str s
 |.mk none=>.none
 |.mk (some i)=>.int i
def zy4(l:wE):∀ {n:Nat},Paired (Dat K H n) (AQ l) (l.map λ(k:Nat)=>v_ k):=by
 induction l with
 |nil=>exact .nil
 |cons x r b=>exact .cons (.int _) b
def CelV.dat:∀ {c:Cel},CelV H v c->c.ok->Dat K H 2 v (FE c)
 |.nm none,h,_=>by cases (h);exact Dat.non
 |.nm (some c),h,o=>by
  let[p,rfl,e]:=(h)
  exact Dat.tup  (SqT.of e) (.cons {.str _,o,aw _} (.cons (Dat.int _) .nil))
 |.rc none,h,_=>by cases (h);exact Dat.non
 |.rc (some c),h,_=>by
  refine u2 ?_<|h;intro p q [rfl,e,b];exact Dat.tup  (SqT.of e) (.cons (Dat.int _) (.cons (Dat.tup  (SqT.of b) (zy4 _)) .nil))
 |.pc none,h,_=>by cases (h);exact Dat.non
 |.pc (some s),h,o=>by
  cases (h);exact{.str s,o,aw _}
 |.mk none,h,_=>by cases (h);exact Dat.non
 |.mk (some i),h,_=>by cases (h);exact Dat.int i
theorem Lg:∀ (l m:wE),pr (l.map λ(k:Nat)=>v_ k) (m.map λ(k:Nat)=>v_ k)=decide (l=m)
 | [],[]=>rfl
 | [],_::_=>rfl
 |_::_,[]=>rfl
 |x::l,y::m=>by
  show((x ==(y:Int))&&pr _ _)=_;rw[Lg l m];simp
  lia
def zy5:∀ {c b:Cel},c.kind=b.kind->gz (FE c) (FE b)=decide (c=b)
 | .nm c,.nm b,_=>by
  cases c with
  |none=>cases b<;>simp[FE,gz]
  |some c =>
   cases b with
   |none=>simp[FE,gz]
   |some d =>
    let[s,k]:=c;let[e,g]:=d;simp[FE,gz,pr]
    lia
 | .rc c,.rc b,_=>by
  cases c with
  |none=>cases b<;>simp[FE,gz]
  |some c =>
   cases b with
   |none=>simp[FE,gz]
   |some d =>
    let[s,k]:=c;let[e,g]:=d;rw[mj];simp[FE,gz,pr,Lg]
 | .pc c,.pc b,_=>by
  cases c with
  |none=>cases b<;>simp[FE,gz]
  |some c =>
   cases b with
   |none=>simp[FE,gz]
   |some d =>
    rw[mj];simp[FE,gz]
 | .mk c,.mk b,_=>by
  cases c with
  |none=>cases b<;>simp[FE,gz]
  |some c =>
   cases b with
   |none=>simp[FE,gz]
   |some d =>
    rw[mj];simp[FE,gz]
 |.nm _,.rc _,h=>by cases h
 |.nm _,.pc _,h=>by cases h
 |.nm _,.mk _,h=>by cases h
 |.rc _,.nm _,h=>by cases h
 |.rc _,.pc _,h=>by cases h
 |.rc _,.mk _,h=>by cases h
 |.pc _,.nm _,h=>by cases h
 |.pc _,.rc _,h=>by cases h
 |.pc _,.mk _,h=>by cases h
 |.mk _,.nm _,h=>by cases h
 |.mk _,.rc _,h=>by cases h
 |.mk _,.pc _,h=>by cases h
theorem Lh:∀ {cs b:xE},cs.map Cel.kind=b.map Cel.kind->pr (cs.map FE) (b.map FE)=decide (cs=b)
 | [],[],_=>rfl
 | [],_::_,h=>by cases h
 |_::_,[],h=>by cases h
 |x::l,y::m,h=>by
  injection h with h1 h2
  show(gz _ _&&pr _ _)=_;rw[zy5 h1,Lh h2];simp
def Lj(h:Paired (CelV H) xs cs)(ok:∀ c∈cs,c.ok):Paired (Dat K H 2) xs (cs.map FE):=by
 induction h with
 |nil=>exact .nil
 |cons h t b=>exact .cons (h.dat<|ok _ aa) (b λc d=>ok c<|ω _ d)
def zy6{p q:Addr}{xs ys:tF}{cs b:xE}(h1:H p=some (.lst xs))(h2:H q=some (.lst ys))(g:Paired (CelV H) xs cs)(i:Paired (CelV H) ys b)(j:∀ c∈cs,c.ok)(l:∀ c∈b,c.ok)(n:cs.map Cel.kind=b.map Cel.kind)(o:Q (.bl<|!decide (cs=b)) H):MF K (.ref p) (.ref q) H Q:=by
 have d:Dat K H 3 _ _:=Dat.lst (SqL.of h1) (Lj g j)
 have e:Dat K H 3 _ _:=Dat.lst (SqL.of h2) (Lj i l);refine y2 {d.1,e.1,d.shp (by decide),e.shp (by decide),?_}
 show Q (.bl<|!PyData.eqvAll _ _) H;rw[Lh n];exact o
def Ll{w f g:Nat}(h:pk w f=pk w g):f=g:=by
 injection h with h1 h
 injection h with h2 _
 injection h1 with h1
 injection h2 with h2
 have b:=qx f w;rw[show f/w=g/w by exact bh h1,show f%w=g%w by exact bh h2]at b;exact b ▸ (qx g w)
def OK(b j:Nat):Int:=reduceHash<|Ix [hashInt b,hashInt j]
def zy7:∀ j,j<6->∀ b,b<31->∀ c,c<31->OK b j=OK c j->b=c:=by decide +kernel
def zy8{k:List AN}{v:V}:NR [(k,v)]:=λP w=>by simp
def zy9{w f g:Nat}{v u:V}(b:w<=6)(c:1<=w)(d:f/w<31)(i:g/w<31)(he:f%w=g%w)(ne:f/w≠g/w):NR [(pk w f,v),(pk w g,u)]:=λP W=>by
 have e:∀ h:Nat,(jf<|D0 P W).hash (pk w h)=OK (h/w) (h%w):=λh=>rfl;simp only[df,yg,ir,τ,ca,not_false_eq_true,lb,and_true];rw[e,he];exact λz=>ne<|zy7 (g%w) (χ (nv _ c) b) _ d _ i z
def RQ{w b k:Nat}{x:Int}(c:1<=w)(d:x=b):([.int (x+(k:Int)/(w:Int)),.int<|(k:Int)%(w:Int)]:tF)=(pk w<|b*w+k).map kV:=by
 unfold pk
 have h2:(b*w+k)%w=k%w:=by rw[cm,ke]
 have h1:(b*w+k)/w=b+k/w:=by rw[cm,kf<|c]
 rw[h1,h2,d];simp only[df,yg,kV];rw[Hn,Fu,F_]
def zza{c d:Addr}{w m f:Nat}{rows:wC}{cs:xE}{x:Cel}(P:PlankAt a H c d w rows m)(g:1<=w)(i:Paired (CelV H) rows.flatten cs)(l:cs[f]? =some x)(n:f/w<rows.length):∃ row v,rows[f/w]? =some row/\row[f%w]? =some v/\CelV H v x:=by
 let[v,o,q]:=K7 i l
 have e:=UU  (j:=f%w) P.wd n (nv _ g);rw[cm,qx,o]at e;cases b:rows[f/w]? with
 |none=>rw[b]at e;cases e
 |some row =>
  rw[b]at e;exact x2 _ v ⟨rfl,e.symm,q⟩
example:(zzb,Y4,aF,4):=by
 apply NA;intro ly gp cl fd n r c w rows m N lv [rfl,S,hlv,u,q]
 have J:=S.w1;let[dl,IP]:=S.la.ob
 have z2:=S.pv.lr
 have n6:=S.n6
 have r6:=S.r6
 have c6:=S.c6
 have q1:∀ {p t:Addr} {f:Nat} {x:Cel} {v:V} {A:Hp},H p=none->Same H A->A p=some (.dT [])->A t=some (.tup<|(pk w f).map kV)->CelV A v x->FC N n r c w lv=[(f,x)]->A p=some (.dT [])/\∃ kvs:xA,SW A [(.ref t,v)] kvs/\kvs.length<=15/\Q (.ref p) (upd A p<|.dT<|EV [] kvs):=λ{p t f x v A} B s e et hv ef=>by
  refine{e,[(pk w f,v)],.cons {⟨t,rfl,et⟩,rfl} .nil,by simp,?_};refine q p [(pk w f,v)] _ B (λy o M=>by rw[AK (BG M B)];exact s _ _ M) AD ?_ zy8;rw[ef];exact .cons {rfl,CelV.keep (λy ys M=>by rw[AK (AZ M e (λz=>nomatch z))];exact M) hv} .nil
 let[k,rfl,Y,O]||[k,rfl,Y,hsm,hl]||[k,rfl,Y,h1,h2]||[k,rfl,Y,h1,h2]:=Ld hlv
 obtain⟨d,hd⟩:∃ d,A4 N.rc k=some d:=by
  unfold G3 at O;cases e:A4 N.rc k with
  |none=>rw[e]at O;cases O
  |some d=>exact⟨d,rfl⟩
 have hl:0<led N k:=by
  unfold G3 at O;rw[hd]at O;simp at O;exact O.1
 refine BI u (n:=0) rfl rfl (y2 {IP,BM (by decide +kernel),BI u (n:=1) rfl rfl (x6 ly n r c w k {rfl,S.tl,S.la,λt T=>?_})});let[H1,g,s1,e1]:=GQ (o:=.tup [.int ((n:Int)+(k:Int)/(w:Int)),.int<|(k:Int)%(w:Int)]) T;rw[g];erw[aF1_];intro p B;let[A,g,j,U]:=GQ (o:=.dT []) B;rw[g]
 have EN:=s1.trans j
 have P2:=S.pl.same EN
 have f1:(n*w+k)/w=n+k/w:=by rw[cm,kf (by exact J)]
 have f2:(n*w+k)%w=k%w:=by rw[cm,ke]
 let[dp,M8]:=P2.ob
 have hkw:k/w<r:=by
  rw[ua (by exact J)];exact z2 ▸ Y
 refine u2 ?_ (zza (f:=n*w+k) (x:=.rc<|A4 N.rc k) P2 J (S.pv.same EN.tk).asC (OJ S.pv.ln z2<|z2 ▸ Y) (by rw[S.rl];lia));intro row v [er,ev,hv];rw[f1]at er;rw[f2]at ev;rw[hd]at hv;revert hv;apply u2;intro pv tv [rfl,hpv,htv];refine BI ((s1.trans j) _ _ u) (n:=2) rfl rfl (y2 {M8,MX _ _ _,BI (j _ _ e1) (n:=0) rfl rfl (x6 gp cl w rows m _ {rfl,S.tp,P2,λi row' eb er' l hnl=>?_,λz=>?_})})
 have ei:i=n+k/w:=by
  have:((n+k/w:Nat):Int)=(n:Int)+(k:Int)/(w:Int):=by rw[Hn,Fu]
  exact bh eb.symm
 subst ei;rw[er]at er';let[H3,g,I,L]:=GQ (o:=.lst row) hnl;obtain rfl:=θ er';rw[g];refine BI (I _ _<|j _ _ e1) (n:=1) rfl rfl (CI (SqL.of L) (n:=k%w) (by rw[F_]) ev (BI (I _ _ hpv) (n:=1) rfl rfl {by decide,λp1 GR=>?_}))
 have s4:=AI (o:=.tup [V.int ↑(led N k),V.ref tv]) GR
 have D:=I.trans s4;refine q1 (f:=n*w+k) (x:=.rc<|FN N k) (s1.free B) (EN.trans D) (D _ _ U) ?_ ?_ rfl;rw[<-RQ (x:=(n:Int)) J rfl];exact D _ _<|j _ _ e1;rw[Kz hd hl];exact x2 p1 tv {rfl,AD,D _ _ htv}
 have rl:=S.rl;let z||z:=z
 exact absurd z<|rf.mpr<|jq _
 ·have z:rows.length<=n+k/w:=i_.mp z
  lia
 refine BI u (n:=0) rfl rfl ?_;refine BI u (n:=0) rfl rfl ?_;refine BI u (n:=1) rfl rfl ?_;intro p B;let[A,g,j,U]:=GQ (o:=.dT []) B;rw[g];refine y2 {j _ _ IP,BM (by decide +kernel),BI (j _ _ u) (n:=2) rfl rfl (x6 ly n r c w k {rfl,S.tl,S.la.same j,λt T=>?_})}
 have I:=AI (o:=.tup [.int ((n:Int)+(k:Int)/(w:Int)),.int<|(k:Int)%(w:Int)]) T
 have L:upd A t (.tup [.int ((n:Int)+(k:Int)/(w:Int)),.int<|(k:Int)%(w:Int)]) t=some (.tup<|(pk w<|n*w+k).map kV):=by rw[AD,RQ (x:=(n:Int)) J rfl]
 revert I L;generalize upd A t (.tup [.int ((n:Int)+(k:Int)/(w:Int)),.int<|(k:Int)%(w:Int)])=H3;intro I L
 have EO:=j.trans I;refine y2 {EO _ _ IP,BM (by decide +kernel),BI (EO _ _ u) (n:=2) rfl rfl (x6 ly n r c w k {rfl,S.tl,S.la.same EO,λt2 ht2=>?_})}
 have s4:=AI (o:=.tup [.int ((n:Int)+r+c+(k:Int)/(w:Int)),.int<|(k:Int)%(w:Int)]) ht2
 have e4:upd H3 t2 (.tup [.int ((n:Int)+r+c+(k:Int)/(w:Int)),.int<|(k:Int)%(w:Int)]) t2=some (.tup<|(pk w<|(n+r+c)*w+k).map kV):=by rw[AD,RQ (x:=(n:Int)+r+c) (b:=n+r+c) J (by exact rfl)]
 revert s4 e4;intro s4 e4
 have D:=I.trans s4
 have f1:(n*w+k)/w=n+k/w:=by rw[cm,kf (by exact J)]
 have f2:(n*w+k)%w=k%w:=by rw[cm,ke]
 have g1:((n+r+c)*w+k)/w=n+r+c+k/w:=by rw[cm,kf (by exact J)]
 have g2:((n+r+c)*w+k)%w=k%w:=by rw[cm,ke]
 have hkw:k/w<r:=by
  rw[ua (by exact J)];exact z2 ▸ Y
 have mg:EV [] [(pk w<|n*w+k,V.non),(pk w<|(n+r+c)*w+k,.int 0)]=[(pk w<|n*w+k,V.non),(pk w<|(n+r+c)*w+k,.int 0)]:=SV _ [] (by
  simp only[pz,df,yg,ir,τ,ca,not_false_eq_true,lb,and_true];intro z
  have:=Ll z
  have e9:(n*w+k)/w=((n+r+c)*w+k)/w:=by rw[this]
  rw[f1,g1]at e9
  lia)
 refine{(D _ _ U),[(pk w<|n*w+k,V.non),(pk w<|(n+r+c)*w+k,.int 0)],.cons {{t,rfl,s4 _ _ L},rfl} (.cons {⟨t2,rfl,e4⟩,rfl} .nil),by simp,?_};rw[mg];refine q p _ _ B (λy o M=>by rw[AK (BG M B)];exact(j.trans D) _ _ M) AD (.cons ⟨rfl,rfl⟩ (.cons ⟨rfl,rfl⟩ .nil)) (zy9 S.w6 J (by rw[f1];lia) (by rw[g1];lia) (by rw[f2,g2]) (by rw[f1,g1];lia));refine BI u (n:=0) rfl rfl ?_;erw[];refine BI u (n:=0) rfl rfl ?_;erw[];erw[aF6_];refine BI u (n:=1) rfl rfl ?_;erw[];refine CZ (by decide +kernel) ?_;erw[aF7_];intro p B;let[A,g,j,U]:=GQ (o:=.dT []) B;rw[g];refine y2 {j _ _ IP,BM (by decide +kernel),BI (j _ _ u) (n:=2) rfl rfl (x6 ly n r c w k {rfl,S.tl,S.la.same j,λt T=>?_})}
 have I:=AI (o:=.tup [.int ((n:Int)+r+c+r+(k:Int)/(w:Int)),.int<|(k:Int)%(w:Int)]) T
 have L:upd A t (.tup [.int ((n:Int)+r+c+r+(k:Int)/(w:Int)),.int<|(k:Int)%(w:Int)]) t=some (.tup<|(pk w<|(n+r+c+r)*w+k).map kV):=by rw[AD,RQ (x:=(n:Int)+r+c+r) (b:=n+r+c+r) J (by exact rfl)]
 exact q1 (f:=(n+r+c+r)*w+k) (x:=.mk<|some 0) B (j.trans I) (I _ _ U) L rfl rfl
 ·have u:H fd=some (.tup [.str (cj "marked"),.int k]):=u;erw[aF,aF2_];refine BI u (n:=0) rfl rfl ?_;erw[];refine CZ (by decide +kernel) ?_;erw[aF4_];refine BI u (n:=0) rfl rfl ?_;erw[];erw[aF3_];intro p B;let[A,g,j,U]:=GQ (o:=.dT []) B;rw[g];refine y2 {j _ _ IP,BM (by decide +kernel),BI (j _ _ u) (n:=1) rfl rfl (x6 ly n r c w k {rfl,S.tl,S.la.same j,λt T=>?_})}
  have I:=AI (o:=.tup [.int ((n:Int)+r+c+(k:Int)/(w:Int)),.int<|(k:Int)%(w:Int)]) T
  have L:upd A t (.tup [.int ((n:Int)+r+c+(k:Int)/(w:Int)),.int<|(k:Int)%(w:Int)]) t=some (.tup<|(pk w<|(n+r+c)*w+k).map kV):=by rw[AD,RQ (x:=(n:Int)+r+c) (b:=n+r+c) J (by exact rfl)]
  exact q1 (f:=(n+r+c)*w+k) (x:=.mk<|some 0) B (j.trans I) (I _ _ U) L rfl rfl
theorem Lm{α b :Type}{F: α -> b ->Prop}:∀ {l:List α} {m:List b} (k:Nat),Paired F l m->Paired F (l.take k) (m.take k)
 |_,_,0,_=>.nil
 |_,_,_+1,.nil=>.nil
 |_,_,k+1,.cons h t=>.cons h<|Lm k t
theorem Lp{α b :Type}{F: α -> b ->Prop}:∀ {l:List α} {m:List b} (k:Nat),Paired F l m->Paired F (l.drop k) (m.drop k)
 |_,_,0,h=>h
 |_,_,_+1,.nil=>.nil
 |_,_,k+1,.cons h t=>Lp k t
def Lq{w b:Nat}{cs:xE}:DR w cs (b+1)=DR w (cs.drop w) b:=by
 unfold DR;rw[List.drop_drop,sy,s_]
theorem Lw{w:Nat}:∀ {rows:wC} {cs:xE},(∀ r∈rows,r.length=w)->Paired (CelV H) rows.flatten cs->∀ {b:Nat} {row:tF},rows[b]? =some row->Paired (CelV H) row (DR w cs b)
 | [],_,_,_,_,_,e=>by simp at e
 |d::g,cs,c,P,0,row,e=>by
  obtain rfl:=θ e
  have h0:=c d aa
  have:=Lm w P;rw[ii,<-h0,List.take_left]at this;unfold DR;rw[vd,<-h0];exact this
 |d::g,cs,c,P,b+1,row,e=>by
  have h0:=c d aa
  have:=Lp w P;rw[ii,<-h0,List.drop_left,h0]at this;rw[Lq];exact Lw (λr i=>c r<|ω _ i) this e
theorem Lx{w:Nat}:∀ {rows:wC} {cs:xE},cs.length=rows.length * w->(∀ {b:Nat} {row:tF},rows[b]? =some row->Paired (CelV H) row (DR w cs b))->Paired (CelV H) rows.flatten cs
 | [],cs,c,_=>by
  rw[kd,vd]at c;rw[dr.mp c];exact .nil
 |i::d,cs,c,h=>by
  rw[fj]at c
  have h0:=h (b:=0) rfl;unfold DR at h0;rw[vd,Iw]at h0
  have g:=Lx (w:=w) (rows:=d) (cs:=cs.drop w) (by rw[iy,c,sy,Nat.add_sub_cancel]) λ{b row} e=>by
   rw[<-Lq];exact h  e
  have:=M6 h0 g;rw[mw]at this;exact this
theorem UY{w:Nat}:∀ {rows:wC},(∀ r∈rows,r.length=w)->rows.flatten.length=rows.length*w
 | [],_=>by simp
 |r::c,h=>by
  rw[ii,ψ,UY λx b=>h x<|ω _ b,h r aa,fj,sy];exact s_ _ _
def zzc(b:Addr)(w n:Int):(pf b w n).lookup ("blocks":Str)=none:=NU _ _ _ (by decide) (by decide) (by decide)
def Ly{w b j:Nat}{cs:xE}(c:j<w):(DR w cs b)[j]? =cs[b*w+j]? :=by
 unfold DR;rw[wa,if_pos c,vp]
def zzd{w b:Nat}{cs c:xE}(h:c.map Cel.kind=cs.map Cel.kind):(DR w c b).map Cel.kind=(DR w cs b).map Cel.kind:=by
 unfold DR;rw[Ae,xq,Ae,xq,h]
def Lz{w b:Nat}{cs:xE}{c:Cel}(h:c∈DR w cs b):c∈cs:=zp<|zq h
def Mb{w i:Nat}{cs b:xE}:N9 w (i+1) cs b=N9 w i cs b+if DR w cs i=DR w b i then 0 else 1:=by
 unfold N9;rw[bq];by_cases h:DR w cs i=DR w b i;simp[h];simp[h]
def zze{w b j:Nat}(c:j<w):([.int (b:Int),.int (j:Int)]:tF)=(pk w<|b*w+j).map kV:=by
 unfold pk
 have h1:(b*w+j)/w=b:=by rw[cm,kf (by lia),Ga c,Nat.add_zero]
 have h2:(b*w+j)%w=j:=by rw[cm,ke,Ge c]
 rw[h1,h2]
 rfl
structure Mc(a:Ad)(gp cl:Addr)(w m M:Nat)(cs cs':xE)(H:Hp)(i:Nat)(rs:wC)(H':Hp):Prop where
 p:PlankAt a H' gp cl w rs (m+N9 w i cs cs')
 l:rs.length=M
 c:∀ {b:Nat} {row:tF},rs[b]? =some row->Paired (CelV H') row (if b<i then DR w cs' b else DR w cs b)
 s:SameBut (λx=>x=gp\/x=cl) H H'
example:(zzf,Y5,aG,5):=by
 apply u9;intro Y cl dl w rows m kvs cs d [rfl,TP,P,hM,w1,w6,M,PC,hk,o1,o2,hc,q];let[dp,M8]:=P.ob;let[tc,BQ,_]:=P.ls
 have n:cs.length=rows.length*w:=by
  rw[<-PC.length];exact UY P.wd
 have G8:d.length=cs.length:=by
  simpa using (congrArg nq hk)
 have ndl:dl≠Y/\dl≠cl:={AZ M M8 (λz=>nomatch z),AZ M BQ (λz=>nomatch z)}
 erw[aG,aG4_];refine y2 {M8,zzc _ _ _,x5 Y cl w _ m {rfl,TP,P,?_}};erw[];refine{i0,by lia,GW (λi σ u=>(∃ r,Mc a Y cl w m _ cs d H i r u)/\∃ y2 y3 y4,σ=[some _,some _,y2,y3,y4]) {{_,{P,rfl,λe=>Lw P.wd PC e,SameBut.refl _}},x3 _ _ _ rfl} (λi σ H1 hi g=>?_) (λσ H1 g=>?_)};let[[r,J],y2,y3,y4,eσ]:=g;subst eσ;let[dp1,hob1]:=J.p.ob
 have er:=ζ   (by rw[J.l];exact hi)
 have tk1:B3 H H1:=λy ys e=>J.s _ _ e λz=>by
  let z||z:=z
  rw[z,M8]at e;cases e;rw[z,BQ]at e;cases e
 revert er;generalize r[i]'(by rw[J.l];exact hi)=row;intro er
 have Pr:=J.c er;rw[if_neg (jo _)]at Pr
 have N:=J.p.wd _<|ι er;erw[il];refine x2 _ _ {hob1,MX _ _ _,x6 Y cl w r _ i {rfl,TP,J.p,λi' row' eb er' l hl=>?_,λz=>by rw[J.l]at z;lia}};obtain rfl:i=i':=bh eb;rw[er]at er';obtain rfl:=θ er';let[H2,O,s2,e2]:=GQ  hl;rw[O];erw[aG1_];refine{{_,SqL.of e2},W3  (λ_=>true) (BW _<|oA (υ (ay N) w6) rfl) (λj ys u=>Same H2 u/\Paired (CelV u) ys ((DR w d i).take j)) {Same.refl _,.nil} (λj ys u hj ⟨s,P⟩=>{SqL.of<|s _ _ e2,?_}) (λj ys u t o ⟨s,P⟩ h=>{HL s h,Paired.mapP P λv c=>CelV.keep (AI h).tk}) (λj x ys u hx _ QB qb=>qb) (λj x ys u hx _ g=>?_) (λj x ys u hx hp=>by cases hp) (λys H3 g l2 DX=>?_)};rw[P.length,de];lia
 have hj:j<w:=by rw[<-N];exact(ε.mp hx).1
 let[s,P]:=g
 have hd':=s _ _<|s2 _ _<|J.s _ _ M λz=>z.elim ndl.1 ndl.2;erw[C3]
 have A1:i*w+j<cs.length:=by
  rw[n]
  have:=og w<|hi
  lia
 refine{.inr {_,.inl hd'},by decide,λp hp=>{A8 kvs<|pk w<|i*w+j,?_,HL s hp,?_}}
 have sp:=AI (o:=.tup [V.int i,V.int j]) hp;exact DGet.t (sp _ _ hd') (by rw[AD,zze hj])
 have sp:=AI (o:=.tup [V.int i,V.int j]) hp
 have A:=ζ (l:=d)  (by rw[G8];exact A1);revert A;generalize d[i*w+j]'(by rw[G8];exact A1)=c';intro A;let[c,ec,hv]:=KP Pr hx;rw[Ly hj]at ec;rw[JM  (by rw[Ly hj];exact A)]
 have s1p:=(s2.trans s).trans sp;refine Paired.snoc (Paired.mapP P λv c=>CelV.keep sp.tk) ?_;let[e1,T]||[v,e1,T]:=hc _ c c' ec A
 rw[e1,T];exact CelV.keep s1p.tk hv;rw[e1];exact CelV.keep s1p.tk<|CelV.keep tk1 T
 have I:(DR w d i).length=w:=by
  unfold DR;rw[de,iy,G8,n]
  have:=og w<|hi
  lia
 let[s,P]:=g;rw[N,jn<|ay I]at P;let[H4,O,s4,e4]:=GQ  DX
 have B:=(s2.trans s).trans s4
 have P4:=Paired.mapP P λv c=>CelV.keep s4.tk
 have hys:ys.length=w:=by rw[P4.length,I]
 have D:Mc a Y cl w m _ cs _ H i r H4:={J.p.same B,J.l,λe=>Paired.mapP (J.c e) λv c=>CelV.keep B.tk,J.s.trans B.sb}
 rw[O];erw[aG3_];refine zy6 e4 ((s.trans s4) _ _ e2) P4 (Paired.mapP Pr λv c=>CelV.keep B.tk) (λc hc=>o2 c<|Lz hc) (λc hc=>o1 c<|Lz hc) (zzd hk) ?_;by_cases he:DR w d i=DR w cs i;refine CZ (by simp[he]) ({r,{by rw[Mb,if_pos he.symm];exact D.p,D.l,λ{b row} e=>?_,D.s}})
 have:=D.c e;by_cases U:b=i;rw[U,if_neg<|jo _]at this;rw[U,if_pos<|d_ _,he];exact this;simp only[propext {λh=>g_ (cy h) U,λh=>b_ h}];exact this;let[dp4,L]:=D.p.ob;let[tc4,hcl4,_]:=D.p.ls;refine DN (by simp[he]) ?_;erw[aG2_];refine x2 _ _ {L,Jc _ _ _,x8 Y cl w r _ _ l2 ys {rfl,TP,D.p,SqL.of e4,by lia,λi' eb hb' hyl H5 P5 JS=>?_,λz=>by rw[J.l]at z;lia}};obtain rfl:i=i':=bh eb
 have tk5:B3 H4 H5:=λy ys e=>JS _ _ e λz=>by
  let z||z:=z
  rw[z,L]at e;cases e;rw[z,hcl4]at e;cases e
 refine{r.set i ys,{?_,by rw[f_];exact J.l,λ{b row} e=>?_,D.s.trans JS}};rw[Mb,if_neg<|λz=>he z.symm];exact P5;by_cases U:b=i;subst U;rw[fb (by rw[J.l];exact hi)]at e;obtain rfl:=θ e;rw[if_pos (d_ _)];exact Paired.mapP P4 λv c=>CelV.keep tk5;rw[fz (λz=>U z.symm)]at e
 have:=D.c e;simp only[show(b<i+1)=(b<i)from propext {λh=>by exact g_ (cy h) U,λh=>by exact b_ h}];exact Paired.mapP this λv c=>CelV.keep tk5;let[[r,J],y2,y3,y4,eσ]:=g;refine q r H1 J.p J.l (Lx (w:=w) (by rw[J.l,G8,n]) λ{b row} e=>?_) J.s
 have:=J.c e;rw[if_pos (by rw[<-J.l];exact(ε.mp e).1)]at this;exact this
def cM{g:Vw}(ok:EK g):∀ c∈DW g,c.ok:=λc e=>by
 unfold DW at e;simp only[bg,az]at e;rcases e with(((⟨x,b,rfl⟩|⟨x,b,rfl⟩)|⟨x,b,rfl⟩)|⟨x,b,rfl⟩)|⟨x,b,rfl⟩
 cases x with
 |none=>exact trivial
 |some d=>exact(ok.n1 d b).2
 cases x<;>exact trivial;cases x with
 |none=>exact trivial
 |some d=>exact ok.n3 d b
 cases x<;>exact trivial;cases x<;>exact trivial
def JO{α :Type}{f: α ->Cel}(h:∀ x,(f x).kind=k)(l:List α):(l.map f).map Cel.kind=bd l.length k:=by
 rw[ip]
 induction l with
 |nil=>rfl
 |cons x r b=>rw[df,b];exact congrArg (· ::_) (h x)
def zzg{b:Vw}(ok:EK b):(DW<|mended b).map Cel.kind=(DW b).map Cel.kind:=by
 have c:=UW ok
 have d:(mended b).rc.length=b.rc.length:=by
  show((μ _).map _).length=_;simp
 unfold DW;simp only[au];rw[JO  (f:=Cel.nm) λz=>rfl,JO  (f:=Cel.rc) λz=>rfl,JO  (f:=Cel.pc) λz=>rfl,JO  (f:=Cel.mk) λz=>rfl,JO  (f:=Cel.mk) λz=>rfl,
  JO  (f:=Cel.nm) λz=>rfl,JO  (f:=Cel.rc) λz=>rfl,JO  (f:=Cel.pc) λz=>rfl,JO  (f:=Cel.mk) λz=>rfl,JO  (f:=Cel.mk) λz=>rfl,c.l1,c.l2,ok.l1,ok.l2,d]
 rfl
theorem Mg{P:List AN->V->Prop}:∀ {more kvs:xA},(∀ k v,A8 kvs k=some v->P k v)->(∀ b∈more,P b.1 b.2)->∀ k v,A8 (EV kvs more) k=some v->P k v
 | [],kvs,h,_=>h
 |p::r,kvs,h,d=>Mg  (kvs:=BL _ _ _) (λk v e=>by
   rw[FT]at e;by_cases z:k=p.1;rw[if_pos z]at e;obtain rfl:=θ e;rw[z];exact d p aa;rw[if_neg z]at e;exact h k v e) λb c=>d b<|ω _ c
theorem cN:∀ {more kvs:xA} {k:List AN},(A8 kvs k).isSome=true->(A8 (EV kvs more) k).isSome=true
 | [],_,_,h=>h
 |p::r,kvs,k,h=>cN  (kvs:=BL _ _ _) (by
   rw[FT];split
   rfl;exact h)
theorem Mh:∀ {more kvs:xA} {b:List AN × V},b∈more->(A8 (EV kvs more) b.1).isSome=true
 | [],_,_,h=>by cases h
 |p::r,kvs,b,h=>by
  let rfl||h:=af.mp h
  exact cN  (kvs:=BL _ _ _) (by rw[FT,if_pos rfl];rfl);exact Mh (more:=r) h
def zzh(b:Lv):(FC d n r c w b).length<=2:=by
 cases b<;>simp[FC]
structure DuI(vw:Vw)(n r c w:Nat)(dl:Addr)(H2:Hp)(i:Nat)(kvs:xA)(H':Hp):Prop where
 s:Same H2 H'
 e:H' dl=some (.dT kvs)
 A:∀ k v,A8 kvs k=some v->∃ lv∈FF vw,∃ fx∈FC vw n r c w lv,k=pk w fx.1/\CelV H' v fx.2
 B:∀ j lv,j<i->(FF vw)[j]? =some lv->∀ fx∈FC vw n r c w lv,(A8 kvs<|pk w fx.1).isSome=true
 l:kvs.length<=2*i
def zzj(ok:EK b):(FF b).length<=400:=by
 let[z,z,z,c,d,e]:=US ok
 have:=congrArg nq<|Kx b;unfold MS at this;simp only[ψ,η]at this
 lia
def Site.ground(S:Site K a H b d e n r c w rows m g):Ground K a H b d g:=x7 e n r c w _ m ⟨S.tv,S.tl,S.tp,S.la,S.pl,S.rl,S.pv⟩
def Site.same{b d e:Addr}{n r c w:Nat}{rows:wC}{m:Nat}{g:Vw}{i:Hp}(S:Site K a H b d e n r c w rows m g)(s:Same H i):Site K a i b d e n r c w rows m g:={S.tv,S.tl,S.tp,S.la.same s,S.pl.same s,S.rl,S.pv.same s.tk,S.w1,S.w6,S.n6,S.r6,S.c6}
example:(zzk,sP,bB,5):=by
 apply U9;intro ly M cl n r c w rows m s [rfl,S,hf,q]
 have z1:=S.pv.ln
 have z2:=S.pv.lr
 have z3:=S.pv.lp
 have ok:=S.pv.ok
 have n6:=S.n6
 have r6:=S.r6
 have c6:=S.c6
 have rl:=S.rl;refine x3 ly M s {rfl,S.ground,λH1 N=>?_};rw[decide_eq_true hf];refine x3 ly M s {rfl,S.ground.same N,λfo H2 u s2 F2=>?_};rw[hf,pz]at F2
 have F0:=F2;rw[Kx]at F2
 have EN:=N.trans s2;let[ps,O,PF]:=F2;intro dl T;let[H3,zz0,s3,e3]:=GQ  T
 have ln:=zzj ok
 have pl:ps.length=(FF s).length:=by rw[PF.length,η]
 rw[zz0];refine .inl {{_,SqL.of<|s3 _ _ O},ID  (λi σ H'=>(∃ kvs,DuI s n r c w dl H2 i kvs H')/\∃ y,σ=[some _,some _,some _,some _,y]) {{[],{s3,e3,λk v h=>(by cases h),λj A h=>absurd h<|mf _,ο _}},_,rfl} (by intro i σ H' _ [[_,J],_];exact SqL.of<|J.s _ _ O) (λi x σ H4 hx B=>?_) (λσ H4 B=>?_)};let[[kvs,J],y,D]:=B;subst D;rw[ρ,bc]at hx;let[fd,efd,rfl]:=hx;let[g,eg,E3]:=KP PF efd;rw[ρ,bc]at eg;let[A,I,rfl]:=eg
 have b:=ι I
 have hi:=(ε.mp I).1;erw[bB4_];refine{.inr<|.inr<|.inl {rfl,.inr ⟨_,J.e⟩},M9 ly M cl fd n r c w _ m s A {rfl,(S.same EN).same J.s,b,J.s _ _ E3,λdm more U hdm s5 e5 PM ap=>?_}}
 have ml:more.length<=2:=by rw[PM.length];exact zzh A
 have Y:B3 U (upd U dl<|.dT<|EV kvs more):=λy ys ey=>by rw[AK (AZ ey (s5 _ _ J.e) (λz=>nomatch z))];exact ey
 have jl:=J.l;refine x4 dl dm _ _ {rfl,rfl,BG J.e hdm,s5 _ _ J.e,e5,λ_=>ap,BW _ (by lia),_,{λy o ey=>?_,AD,?_,λj lv' hj L l d=>?_,?_}};rw[AK (BG ey T)];exact s5 _ _<|J.s _ _ ey;refine Mg (λk v e=>?_) λkv hkv=>?_;let[lv',h1,l,h2,h3,h4]:=J.A k v e;exact{_,h1,l,h2,h3,CelV.keep Y<|CelV.keep s5.tk h4};let[k,ek]:=S9 hkv;let[l,efx,h1,h2]:=KP PM ek;exact{A,b,l,ι efx,h1,CelV.keep Y h2};by_cases hji:j<i;exact cN<|J.B j _ hji L l d;obtain rfl:j=i:=ka (cy hj) (bx hji);rw[I]at L;obtain rfl:=θ L;let[k,ek]:=S9 d;let[kv,ekv,h1,_]:=K7 PM ek;rw[<-h1];exact Mh<|ι ekv
 have:=W8 more kvs
 lia
 let[[kvs,J],y,D]:=B
 have S4:=(S.same EN).same J.s;subst D;let[dp,hgp]:=S4.pl.ob;let[dp1,hgp1]:=(S.same N).pl.ob;let[tc1,hcl1,_]:=(S.same N).pl.ls;let[tc,BQ,_]:=S4.pl.ls
 have nfo:fo≠M/\fo≠cl:={(BG hgp1 u).symm,(BG hcl1 u).symm}
 have ok2:=UW ok
 have g2:(mended s).rc.length=r*w:=by
  show((μ _).map _).length=_;simp[z2]
 erw[bB6_];refine x9 M cl dl w _ m _ _ _ {rfl,S.tp,S4.pl,by lia,S.w1,S.w6,J.e,S4.pv.asC,zzg ok,cM ok,cM ok2,λf x x' ex lR=>?_,λrows' U P5 hl5 PC5 JS=>?_}
 have A1:f<n*w+r*w+c*w+r*w+c*w:=by
  have:=(ε.mp ex).1;rw[Lb s ok]at this
  lia
 cases ev:A8 _ (pk w f)with
 |none =>
  refine .inl {rfl,?_}
  have:=zy3 ok z1 z2 z3 hf A1 λA b l d e=>?_;rw[ex,lR]at this;exact θ this;let[j,L]:=S9 b
  have:=J.B j A (by rw[η,pl];exact(ε.mp L).1) L l d;rw[e,ev]at this;cases this
 |some v =>
  let[A,b,l,d,e1,e2]:=J.A _ v ev
  have h3:=zy2 ok z1 z2 z3 b d;rw[<-(Ll e1),lR]at h3;obtain rfl:=θ h3;exact .inr ⟨v,rfl,e2⟩
 have tk5:B3 H4 U:=λy ys e=>JS _ _ e λz=>by
  let z||z:=z
  rw[z,hgp]at e;cases e;rw[z,BQ]at e;cases e
 exact q fo _ U (N.free u) ((F0.same J.s).on (λo e=>JS _ _ e λz=>z.elim nfo.1 nfo.2) tk5) P5 (by rw[hl5,rl]) (PlV.of PC5 z1 g2 z3 ok2) ((EN.trans J.s).sb.trans JS)
theorem cO:∀ {b:zE},(∀ j,as.length<=j->C j=false)->sh M C (b++as)=sh M C as
 | [],_=>rfl
 |e::b,h=>by
  rw[om,DU (by rw[h _ (by simp)];exact ax)];exact cO h
def OL{b:vC}{z:Str}{k:Nat}:GL (BL b (.inr z) (.int (k:Nat)))=D7 (GL b) z k:=by
 funext y;unfold GL DQ D7;rw[FT];by_cases e:y=z;subst e;rw[if_pos rfl,if_pos rfl];rfl;rw[if_neg (λh=>e<|Gn h),if_neg e]
def cP{b:vC}{z:Str}{j:Nat}(h:GL b z=some j):j∈DQ b z:=List.mem_of_mem_head? h
def LaidA.off{n r c w:Nat}{cs:yE}{as:zE}{B:Md}(h:LaidA n r c w H cs as)(b:∀ kind k,¬ k<A0 n r c w kind->B kind k=.no){C:xD}{kind k:Nat}(d:¬ k<A0 n r c w kind):sh B C as kind k=.no:=by
 induction h with
 |nil=>exact b _ _ d
 |@snoc cs as ch x l j o q s u i g =>
  by_cases c:C as.length=true;rw[CJ c];unfold Md.put;rw[if_neg (λe=>d (by rw[e.1,e.2];exact i))];exact g;rw[DU c];exact g
def zzl(b:∀ kind k,EF kind<|B kind k)(h:∀ x∈as,EF x.kind x.x)(kind k:Nat):EF kind (sh B C as kind k):=by
 induction as with
 |nil=>exact b _ _
 |cons x r d =>
  have d:=d λy e=>h y<|ω _ e;by_cases c:C r.length=true;rw[CJ c];unfold Md.put;split;rename_i z;rw[z.1];exact h x aa;exact d;rw[DU c];exact d
section
variable{X:SX}{cs:yE}{tks:vC}{M:Hs}
theorem SM.out(I:X.at a H cs tks M){j:Nat}(i:cs.length<=j):X.outs j=false:=by
 let[l,e,c,d]:=I.bk.bk.out;cases b:X.outs j with
 |false=>rfl
 |true =>
  rw[<-c,<-MA]at b;let[p,g,n]:=fk.mp b
  have:=d.2 p g
  lia
def C6.more{g:Hp}{ex:yE}{b:vC}{d:Hs}(I:C6 a H X cs tks M)(s:X.at a g (cs++ex) b d)(sb:SameBut (λx=>X.S.A.F x\/x=X.S.tk) H g)(u:∃ o,Hist X.m0 d.b d.as (GL b) o)(n:d.b=M.b)(v:∃ i,d.as=i++M.as/\∀ x∈i,EF x.kind x.x):C6 a g X (cs++ex) b d:=by
 let[i,he,w]:=v
 have out:∀ j:Nat,cs.length<=j->X.outs j=false:=λj l=>I.st.out l;refine{s,u,n ▸ I.bo,λk c q o=>?_,?_,I.few,λx e=>?_,I.w1};by_cases r:k<cs.length;rw[ae r]at q;exact I.cut k c q o;rw[out k (bx r)]at o;cases o;rw[n,he,cO λj l=>out j (by rw[I.st.la.len];exact l)];exact I.rows.keep (HK sb λx e=>e.elim (λh=>I.st.bk.loose h) λh=>by rw[h];exact ML I.st.tk);rw[he]at e;let h||h:=bg.mp e
 exact w x h;exact I.ok x h
def UZ{m:Nat}{z:Str}(h:cellOf M m z=none):∀ j r,j<m->M 0 j≠.nm z r:=λj r b e=>by
 have:=jw.mp h j<|ao.mpr b;unfold C8 at this;rw[e]at this;simp at this
def cQ{cell:Nat}(h:EG 0 (M 0 cell)=true):M 0 cell=.no:=by
 cases e:M 0 _ with
 |no=>rfl
 |_=>rw[e]at h;simp[EG]at h
def Mj{kind k:Nat}(h:EG kind (M kind k)=true):M kind k≠.mk 1:=λe=>by
 rw[e]at h;simp[EG]at h
def C6.snd(I:C6 a H X cs tks M):Snd X.m0 (sh M.b X.C M.as):=by
 let[o,b]:=I.hi;exact b.sd _<|I.st.la.cut I.cut
def C6.now(I:C6 a H X cs tks M):Snd X.m0 M.f:=by
 let[o,b]:=I.hi;exact b.now
def C6.inl(I:C6 a H X cs tks M)(C:xD):InL X.n X.r X.c X.w (sh M.b C M.as):={λz z h=>I.st.la.off I.bo.no h,zzl I.bo.ok I.ok}
end
def Snd.few{n r c w:Nat}{S:Md}(s:Snd (n*w) S)(b:InL n r c w S){q m:Nat}{ps:wE}(h:S 3 q=.rc m ps):(∀ p∈ps,p<c*w)/\ps.length<=c*w:=by
 have lt:∀ p∈ps,p<c*w:=λp d=>by
  have e:=(s.pm q m ps h p d).1;let z||z:=dz p _
  exact z;rw[b.no 2 p (λg=>nL g z)]at e;cases e
 have:=ug (s.nd q m ps h)  λp d=>ao.mpr<|lt p d;rw[cz]at this;exact⟨lt,this⟩
def Snd.rl{n r c w:Nat}{S:Md}(s:Snd (n*w) S)(b:InL n r c w S){k q:Nat}{z:Str}(d:k<n*w)(e:S 0 k=.nm z q):∃ m ps,q<r*w/\S 3 q=.rc m ps:=by
 refine u2 ?_<|s.nl k z q d e;rintro m ps g;refine x2 m ps {?_,g};let h||h:=dz q _
 exact h;rw[b.no 3 q (λd=>nL d h)]at g;cases g
section
variable{X:SX}{cs:yE}{tks:vC}{M:Hs}
def C6.ps(I:C6 a H X cs tks M){r m:Nat}{ps:wE}(h:M 3 r=.rc m ps):(∀ p∈ps,p<X.c*X.w)/\ps.length<=18:=by
 have:=I.now.few (I.inl _) h;exact{this.1,υ this.2 I.few}
def C6.rl(I:C6 a H X cs tks M){k b:Nat}{z:Str}(c:k<X.m0)(e:M 0 k=.nm z b):∃ m ps,b<X.r*X.w/\M 3 b=.rc m ps:=I.now.rl (I.inl _) c e
def SM.sbG{G:zC}{e:Hp}(I:X.at a H cs tks M)(s:SameBut G H e)(g:∀ x,G x->EW (H x))(f:∀ x,G x->¬ X.S.A.F x/\x≠X.S.tk):X.at a e cs tks M:=by
 let[[l,i],j,n,o,q,r,u,w,y,b,c,d]:=I;let[dl,B]:=j.ob
 have tk:=HK s g;exact{{l,s _ _ i λz=>(g _ z).2 _ _ _ i},j.sb s λz=>(g _ z).2 _ _ _ B,n.sb s g λx D=>(f x D).1,s _ _ o λz=>(f _ z).2 rfl,q,r,u,w,y.keep tk,λkind k v h1 h2 J=>(b _ k v h1 h2 J).keep tk,c,d.keep tk}
def C6.sbG{G:zC}{b:Hp}(I:C6 a H X cs tks M)(s:SameBut G H b)(g:∀ x,G x->EW (H x))(f:∀ x,G x->¬ X.S.A.F x/\x≠X.S.tk):C6 a b X cs tks M:={I.st.sbG s g f,I.hi,I.bo,I.cut,I.rows.keep<|HK s g,I.few,I.ok,I.w1}
def C6.same{b:Hp}(I:C6 a H X cs tks M)(s:Same H b):C6 a b X cs tks M:={I.st.same s,I.hi,I.bo,I.cut,I.rows.keep s.tk,I.few,I.ok,I.w1}
def C6.write(I:C6 a H X cs tks M)(d:X.rows[b]? =some row)(g:(X.wr cs b row).at a c cs tks M)(sb:SameBut (λx=>X.S.A.F x\/x=X.S.A.gp) H c):C6 a c (X.wr cs b row) cs tks M:=by
 let[j,i]:=I.st.bk.pk.ob;exact{g,I.hi,I.bo,zjl I.cut b,(I.rows.write I.st.la d).keep (λy ys e=>sb _ _ e λz=>z.elim (λz=>(I.st.bk.loose z).1 _ e) λz=>by rw[z,i]at e;cases e),I.few,I.ok,I.w1}
end
def Ml:Nat->CV->Cel
 |0,x=>.nm<|OA x
 |1,x=>.mk<|GO x
 |2,x=>.mk<|GO x
 |3,x=>.rc<|MU x
 |_,x=>.pc<|Q9 x
def G5(n r c kind:Nat):Nat:=if kind=0 then 0 else if kind=1 then n+r+c else if kind=2 then n+r+c+r else if kind=3 then n else n+r
def Mm(b:kind<5)(ok:EF kind x):RepC H x v↔CelV H v (Ml kind x):=by
 let _||_||_||_||_||k:=kind
 all_goals cases x<;>first|exact ok.elim|exact Ki
section
variable{n r c w:Nat}{S:Md}
def Mp(k:Nat):A4 (B2 n r c w S).nm k=if k<n*w then OA (S 0 k)else none:=LV
def Mq(k:Nat):A4 (B2 n r c w S).rc k=if k<r*w then MU (S 3 k)else none:=LV
def Mv(k:Nat):A4 (B2 n r c w S).pc k=if k<c*w then Q9 (S 4 k)else none:=LV
def Mw(k:Nat):A4 (B2 n r c w S).rm k=if k<r*w then GO (S 1 k)else none:=LV
def Mx(k:Nat):A4 (B2 n r c w S).pm k=if k<c*w then GO (S 2 k)else none:=LV
def JP:(B2 n r c w S).nm.length=n*w:=by simp[B2]
def JQ:(B2 n r c w S).rc.length=r*w:=by simp[B2]
def LW:(B2 n r c w S).pc.length=c*w:=by simp[B2]
def InL.rc(b:InL n r c w S)(k:Nat):A4 (B2 n r c w S).rc k=MU (S 3 k):=by
 rw[Mq];split
 rfl;rename_i h;rw[b.no 3 k (h)];rfl
def InL.nm(b:InL n r c w S)(k:Nat):A4 (B2 n r c w S).nm k=OA (S 0 k):=by
 rw[Mp];split
 rfl;rename_i h;rw[b.no 0 k (h)];rfl
def InL.pc(b:InL n r c w S)(k:Nat):A4 (B2 n r c w S).pc k=Q9 (S 4 k):=by
 rw[Mv];split
 rfl;rename_i h;rw[b.no 4 k (h)];rfl
def InL.rm(b:InL n r c w S)(k:Nat):A4 (B2 n r c w S).rm k=GO (S 1 k):=by
 rw[Mw];split
 rfl;rename_i h;rw[b.no 1 k (h)];rfl
def InL.pm(b:InL n r c w S)(k:Nat):A4 (B2 n r c w S).pm k=GO (S 2 k):=by
 rw[Mx];split
 rfl;rename_i h;rw[b.no 2 k (h)];rfl
def zzm(h:OA x=some (z,q)):x=.nm z q:=by
 cases x<;>simp[OA]at h;rw[h.1,h.2]
def zzn(h:MU x=some d):∃ m:Nat,x=.rc m d.2/\d.1=m:=by
 cases x with
 |rc m ps=>cases h;exact⟨m,rfl,rfl⟩
 |_=>cases h
def zzo(h:Q9 x=some z):x=.tx z:=by
 cases x with
 |tx y=>cases h;rfl
 |_=>cases h
def RR(q:Nat):led (B2 n r c w S) q=ld (n * w) S q:=by
 unfold led ld MR B2;generalize μ _=l
 induction l with
 |nil=>rfl
 |cons k l b =>
  rw[df,Fn];cases e:S 0 k with
  |nm z d =>
   show List.count q (d::_)=_;rw[List.count_cons,b]
   rfl
  |_=>exact b
def My(h:0<ld (n*w) S q):∃ k z,k<n*w/\S 0 k=.nm z q:=by
 let[k,d,e]:=u_.mp h;cases b:S 0 k with
 |nm z g =>
  rw[b]at e
  have:g=q:=by simpa [GJ]using e
  exact x2 k z {ao.mp d,by rw[<-this];exact b}
 |_=>rw[b]at e;cases e
def zzp(b:k<n*w)(e:S 0 k=.nm z q):0<ld (n*w) S q:=u_.mpr {k,ao.mpr b,by rw[e];simp[GJ]}
def zzq(b:InL n r c w S)(h:0<FB (B2 n r c w S) p):∃ q m ps,S 3 q=.rc m ps/\p∈ps:=by
 let[d,hd,g]:=uh.mp<|At.mp h;let[k,i,rfl]:=az.mp hd;cases e:S 3 k with
 |rc m ps=>rw[e]at g;exact x3 k m ps ⟨e,g⟩
 |_=>rw[e]at g;cases g
def zzr(s:Snd (n * w) S)(p:Nat):FB (B2 n r c w S) p<=1:=by
 refine zm.mp (List.pairwise_flatMap.mpr {λd hd=>?_,xh.mpr<|ma.imp λ{i j} l x b y g z=>?_}) p;let[k,v,rfl]:=az.mp hd;cases e:S 3 k with
 |rc m ps=>exact s.nd k m ps e
 |_=>exact .nil
 cases e:S 3 i with
 |rc m ps =>
  cases o:S 3 j with
  |rc q u =>
   rw[e]at b;rw[o]at g;exact s.dj i j m q ps _ (bm l) e o x b (z ▸ g)
  |_=>rw[o]at g;cases g
 |_=>rw[e]at b;cases b
def M7(h:∀ k,k<n->p k=false):DK n p f=[]:=by
 unfold DK;rw[yl.mpr λk b=>by rw[h k (ao.mp b)];exact ax]
 rfl
def Snd.fault(s:Snd (n * w) S)(b:InL n r c w S):faults (B2 n r c w S)=[]:=by
 have pm:∀ {p},0<FB _ p->S 2 p=.mk 1/\∃ t,S 4 p=.tx t:=λ{p} h=>by
  refine u3 ?_<|zzq b h;intro q m ps [e,g];exact s.pm q m ps e p g
 have o:∀ k,k<(B2 n r c w S).nm.length->HJ _ k=false:=λk d=>by
  unfold HJ;rw[b.nm];cases e:S 0 k with
  |nm z q =>
   refine u2 ?_ (s.nl k z q (by rw[JP]at d;exact d) e);rintro m ps i
   show(A4 _ q).isNone=false;rw[b.rc,i];rfl
  |_=>rfl
 have u:∀ k,k<(B2 n r c w S).nm.length->IK _ k=false:=λk d=>by
  unfold IK;rw[b.nm];cases e:S 0 k with
  |nm z q =>
   show List.any _ _=false;rw[wq];intro j l
   have l:=ao.mp l;rw[b.nm];cases v:S 0 j with
   |nm x A =>
    have d:k<n*w:=by rw[JP]at d;exact d
    show ¬ decide _=true;rw[decide_eq_true_eq];rintro rfl
    have:=s.un j k x A q (ye l d) d v e
    lia
   |_=>exact ax
  |_=>rfl
 have B:∀ p,p<(B2 n r c w S).pc.length->decide (1<FB (B2 n r c w S) p)=false:=λp g=>by
  have:=zzr (r:=r) (c:=c) s p
  lia
 have D:∀ p,p<(B2 n r c w S).pc.length->(decide _&&(A4 _ p).isNone)=false:=λp g=>by
  by_cases h:0<FB (B2 n r c w S) p;let[y,t,e]:=pm h;rw[b.pc,e,decide_eq_true h];rfl;rw[decide_eq_false h];rfl
 have I:∀ q,q<(B2 n r c w S).rc.length->JG _ q=false:=λq J=>by
  unfold JG;rw[b.rc];cases e:S 3 q with
  |rc m ps =>
   have:=s.ct q m ps e
   show decide _=false;rw[RR];lia
  |_=>rfl
 have L:∀ q,q<(B2 n r c w S).rc.length->(decide (0<led (B2 n r c w S) q) && !decide (A4 (B2 n r c w S).rm q=some 1))=false:=λq J=>by
  rw[RR,b.rm];by_cases h:0<ld (n*w) S q;refine u2 ?_<|My h;intro k z [d,e];refine u2 ?_<|s.nl k z q d e;rintro m ps i;rw[s.mr q m ps i,decide_eq_true h];rfl;rw[decide_eq_false h];rfl
 have M:∀ p,p<(B2 n r c w S).pc.length->(decide _ && !decide (A4 (B2 n r c w S).pm p=some 1))=false:=λp g=>by
  by_cases h:0<FB (B2 n r c w S) p;rw[b.pm,(pm h).1,decide_eq_true h];rfl;rw[decide_eq_false h];rfl
 unfold faults Q0 Q1 Q2;rw[M7 o,M7 u,M7 B,M7 D,M7 I,M7 L,M7 M]
 rfl
end
section
variable{n r c w:Nat}{S:Md}
def zzs(e:S 3 k=.rc m ps)(h:0<ld (n*w) S k):FD n r c w S 3 k=.rc (ld (n*w) S k) ps:=by
 unfold FD;simp only[lq,if_false,if_true,e];rw[if_neg (ja h)]
def OM(h:FD n r c w S 3 k=.rc m ps):∃ b,S 3 k=.rc b ps/\0<ld (n*w) S k/\m=ld (n*w) S k:=by
 unfold FD at h;simp only[lq,if_false,if_true]at h;cases e:S 3 k with
 |rc b d =>
  rw[e]at h;simp only at h;split at h;cases h;cases h;exact{b,rfl,by lia,rfl}
 |_=>rw[e]at h;cases h
def Snd.mended(s:Snd (n*w) S)(b:InL n r c w S):Snd (n*w) (FD n r c w S):=by
 refine{λk z q i e=>?_,λq m ps e=>?_,λq m ps e=>?_,λq m ps e=>?_,λq m ps e p l=>?_,λq o m g ps u v e A=>?_,s.un};refine u2 ?_<|s.nl k z q i e;rintro m ps d;exact x2 _ _<|zzs d<|zzp i e;let[g,x,x,rfl]:=OM e;exact ay<|(λq=>rfl) q;let[g,d,h,x]:=OM e;unfold FD;simp only[d];rw[if_neg (ja h)];exact s.mr q g ps d;let[g,d,x,x]:=OM e;exact s.nd q g ps d;let[g,d,h,x]:=OM e;let[h2,h4]:=s.pm q g ps d p l;refine{?_,h4};unfold FD;simp only[h2]
 have:0<IJ (B2 n r c w S) p:=by
  refine At.mpr (uh.mpr {_,az.mpr {q,fe.mpr {ao.mpr ?_,?_},b.rc q},by rw[d];exact l});rw[JQ];refine u2 ?_<|My h;intro k y [i,B];refine u2 ?_<|s.rl b i B;intro x x [h',x];exact h';rw[RR];exact decide_eq_true h
 lia
 let[x,d,x,x]:=OM e;let[x,j,x,x]:=OM A;exact s.dj q o _ _ ps _ v d j
def InL.mended(b:InL n r c w S):InL n r c w (FD n r c w S):=by
 constructor;intro kind k h
 have e:=b.no _ k h;unfold FD;split;rename_i z;subst z;rw[e,b.no 3 k<|h];split;rename_i z;subst z;rw[e];split;rename_i z;subst z;rw[e];exact e;intro kind k
 have e:=b.ok kind k;unfold FD;split;rename_i z;subst z;cases g:S 3 k with
 |rc m ps =>
  show EF 1 (if _ then _ else _);split;exact aw 1;exact e
 |_ =>
  cases d:S 1 k with
  |mk i =>
   show EF 1 (if _ then _ else _);rw[d]at e;split;exact aw 1;exact e
  |_=>rw[d]at e;exact e
 split;rename_i z;subst z;cases d:S 2 k with
 |mk i =>
  show EF 2 (if _ then _ else _);rw[d]at e;split;exact aw 1;exact e
 |_=>rw[d]at e;exact e
 split;rename_i z;subst z;cases d:S 3 k with
 |rc m ps =>
  show EF 3 (if _ then _ else _);split
  trivial
  trivial
 |_=>rw[d]at e;exact e
 exact e
def cR{α :Type}{f g:Nat-> α}{m:Nat}(h:∀ k,k<m->f k=g k):(μ m).map f=(μ m).map g:=zy λk b=>h k<|ao.mp b
def zzt(b:InL n r c w S):mended (B2 n r c w S)=B2 n r c w (FD n r c w S):=by
 unfold mended;rw[JQ,LW]
 have d:(μ _).map (FN _)=(μ<|r*w).map λk=>MU (FD n r c w S 3 k):=cR λk y=>by
  unfold FN FD;rw[b.rc,RR];cases e:S 3 k with
  |rc m ps =>
   show(if ld _ S k=0 then none else some _)=MU _;split<;>rfl
  |_=>rfl
 have g:(μ _).map (KL _)=(μ<|r * w).map λk=>GO (FD n r c w S 1 k):=cR λk y=>by
  unfold KL FD;rw[b.rc,b.rm,RR];cases e:S 3 k with
  |rc m ps =>
   show(if ld _ S k=0 then some 0 else GO _)=GO _;split<;>rfl
  |_ =>
   cases d:S 1 k with
   |mk i =>
    show(if(some (i:Int))=some 1 then some 0 else some _)=GO (if i=1 then .mk 0 else .mk i);by_cases h:i=1;subst h;rfl;rw[if_neg h,if_neg (λz=>h (by exact bh<|θ z))];rfl
   |_=>rfl
 have j:(μ _).map (MT _)=(μ<|c*w).map λk=>GO (FD n r c w S 2 k):=cR λk y=>by
  unfold MT FD;rw[b.pm];cases d:S 2 k with
  |mk i =>
   show(if some (i:Int)=some 1/\IJ _ k=0 then some 0 else some _)=GO (if i=1/\IJ _ k=0 then .mk 0 else .mk i);by_cases h:i=1/\IJ (B2 n r c w S) k=0;rw[if_pos h,if_pos {by rw[h.1];rfl,h.2}];rfl;rw[if_neg h,if_neg<|λz=>h {bh<|θ z.1,z.2}];rfl
  |_=>rfl
 rw[d,g,j]
 rfl
def Mz(ok:EK (B2 n r c w S))(h1:kind<5)(b:k<A0 n r c w kind):(DW<|B2 n r c w S)[G5 n r c kind*w+k]? =some (Ml kind<|S kind k):=by
 unfold A0 at b;unfold G5;let _||_||_||_||_||kind:=kind
 ·simp only[if_true,vd,tq]at b ⊢;rw[cJ JP b,Mp,if_pos b];rfl
 ·simp only[lq,if_false,if_true,tq,dn]at b ⊢;rw[RP ok JP JQ LW b,Mw,if_pos b];rfl
 ·simp only[lq,if_false,if_true,tq,xp,dn]at b ⊢;rw[UX ok JP JQ LW b,Mx,if_pos b];rfl
 ·simp only[lq,if_false,if_true,tq,xp]at b ⊢;rw[OJ JP JQ b,Mq,if_pos b];rfl
 ·simp only[lq,if_false,if_true,tq,xp,dn]at b ⊢;rw[cK JP JQ LW b,Mv,if_pos b];rfl
 ·lia
def zzu(b:1<=w):AX n r c w kind k=(G5 n r c kind*w+k)/w/\k%w=(G5 n r c kind*w+k)%w:=by
 constructor;rw[cm,kf<|b];rfl;rw[cm,ke]
def zzv(b:f<(n+r+c+r+c)*w):∃ kind k,kind<5/\k<A0 n r c w kind/\f=G5 n r c kind*w+k:=by
 simp only[dn]at b;refine Lc (N:=n*w) (R:=r*w) (P:=c*w) (A:=λf=>∃ kind k,kind<5/\k<A0 n r c w kind/\f=G5 n r c kind*w+k) (λh=>x2 0 f {by decide,h,by simp[G5]}) (λk h=>x2 3 k {by decide,h,rfl}) (λk h=>x2 4 k {by decide,h,by simp[G5,dn]}) (λk h=>x2 1 k {by decide,h,by simp[G5,dn]}) (λk h=>x2 2 k {by decide,h,by simp[G5,dn]}) b
theorem Nb{α d :Type}{F: α -> d ->Prop}:∀ {l:List α} {m:List d},l.length=m.length->(∀ (i:Nat) x y,l[i]? =some x->m[i]? =some y->F x y)->Paired F l m
 | [],[],_,_=>.nil
 |x::l,y::m,h,f=>.cons (f 0 x y rfl rfl) (Nb (by simpa using h) λi a b e g=>f (i+1) a b e g)
 | [],_::_,h,_=>by simp at h
 |_::_,[],h,_=>by simp at h
def U0(P:PlankAt a H y z w rows m)(b:1<=w)(rl:rows.length=n+r+c+r+c)(h1:kind<5)(o:k<A0 n r c w kind):∃ v,(rows[AX n r c w kind k]?).bind (λq=>q[k%w]?)=some v/\rows.flatten[G5 n r c kind*w+k]? =some v/\∃ q∈rows,v∈q:=by
 let[g,s]:=zzu      b
 have u:G5 n r c kind*w+k<(n+r+c+r+c)*w:=by
  refine χ (Nat.add_lt_add_left o _) ?_;unfold A0;rw[<-dn];refine og _ ?_;unfold G5;let _||_||_||_||_||kind:=kind<;>simp<;>lia
 have i:AX n r c w kind k<rows.length:=by rw[rl,g];exact(ua<|b).mpr u
 have j:k%w<w:=nv _<|b
 have d:=ζ i
 have x:=P.wd _<|ι d
 have l:=ζ (show k%w<(rows[AX n r c w kind k]).length by rw[x];exact j)
 have e:(rows[AX n r c w kind k]?).bind (λq=>q[k%w]?)=some ((rows[AX n r c w kind k])[k%w]):=by rw[d];exact l
 refine{_,e,?_,_,ι d,ι l};rw[<-e,<-UU P.wd i j,g,s,Ft]
def zzw(P:PlankAt a H U Y w rows m)(u:1<=w)(sz:n<=6/\r<=6/\c<=6/\w<=6/\rows.length=n+r+c+r+c)(few:c*w<=18)(A:QT H rows)(R:RowsAre H n r c w rows S)(b:InL n r c w S)(s:Snd (n*w) S):EK (B2 n r c w S):=by
 let[D,I,z3,J,rl]:=sz
 have B:∀ {x:Nat},x<=6->x*w<=36:=λ{x} h=>dq h J;refine{λd hd=>?_,λd hd=>?_,λz hz=>?_,by simp[B2],by simp[B2],by rw[JP];exact oA (B D) rfl,by rw[JQ];exact oA (B I) rfl,by rw[LW];exact oA few rfl};let[k,g,e]:=az.mp hd
 have g:=ao.mp g
 have e:=zzm   e;rw[JQ];refine u2 ?_<|s.rl b g e;intro y y [L,y];refine{L,?_};let[v,o,y,q,j,i]:=U0    P u rl (kind:=0)  (by decide) (g)
 have l:=R 0 k v (by decide) (g) o;rw[e]at l;let[t,rfl,M]:=l;let[xs,ex,y,N]:=A q j _ i;rw[M]at ex;cases ex;exact N _ aa;let[k,g,e]:=az.mp hd;let[m,O,y]:=zzn e
 have:=s.few b O;exact{λp T=>by rw[LW];exact this.1 p T,oA (υ this.2 few) rfl};let[k,g,e]:=az.mp hz;let[v,o,y,q,j,i]:=U0    P u rl (kind:=4)  (by decide) (by simpa [A0]using g)
 have l:=R 4 k v (by decide) (by simpa [A0]using g) o;rw[(zzo e)]at l;rw[l]at i;exact A q j _ i
def RowsAre.plv{rows:wC}(R:RowsAre H n r c w rows S)(P:PlankAt a H q s w rows m)(l:1<=w)(rl:rows.length=n+r+c+r+c)(b:InL n r c w S)(ok:EK (B2 n r c w S)):PlV H rows n r c w (B2 n r c w S):=by
 refine PlV.of (Nb ?_ λf v x e g=>?_) JP JQ LW ok;rw[UY P.wd,Lb _ ok,JP,JQ,LW,rl];simp only[dn]
 have i:=(ε.mp e).1;rw[UY P.wd,rl]at i;refine u2 ?_<|zzv i;intro kind k [h1,d,rfl];rw[Mz ok h1 d]at g;let[u,o,j,z]:=U0 P l rl h1 d;obtain rfl:=θ g;rw[e]at j;obtain rfl:=θ j;exact(Mm h1<|b.ok _ _).mp (R _ k v h1 d o)
def PlV.rows{g i:Addr}{m:Nat}{rows:wC}(L:PlV H rows n r c w (B2 n r c w S))(P:PlankAt a H g i w rows m)(j:1<=w)(rl:rows.length=n+r+c+r+c)(b:InL n r c w S):RowsAre H n r c w rows S:=λkind k v h1 e l=>by
 let[s,d,o,z]:=U0 P j rl h1 e;rw[l]at d;obtain rfl:=θ d;let[x,ex,q]:=cD L.asC o;rw[Mz L.ok h1 e]at ex;obtain rfl:=θ ex;exact(Mm h1<|b.ok _ _).mpr q
def PlV.good{rows:wC}{g:Vw}(L:PlV H rows n r c w g):QT H rows:=λq l v o=>by
 let[f,s]:=my.mp<|List.mem_flatten.mpr ⟨q,l,o⟩;let[x,ex,b]:=cD L.asC s
 have ok:=cM L.ok x<|ι ex;cases x with
 | nm d =>
  cases d with
  |none=>rw[b];trivial
  |some d =>
   let[t,rfl,e]:=b;exact⟨_,e,by simp,λu j=>by
    simp only[af,ca,or_false]at j;let rfl||rfl:=j
    exact ok
    trivial⟩
 | rc d =>
  cases d with
  |none=>rw[b];trivial
  |some d =>
   revert b;apply u2;intro t u [rfl,e,A]
   have hd:some d∈g.rc:=by
    have:=ι ex;unfold DW at this;simp only[bg,az,reduceCtorEq,and_false,exists_false,false_or,or_false,Cel.rc.injEq,exists_eq_right]at this;exact this
   exact⟨_,e,by simp,λx b=>by
    simp only[af,ca,or_false]at b;let rfl||rfl:=b
    trivial
    refine{_,A,by simp[AQ];exact oA ((L.ok.n2 d hd).2) rfl,λy B=>?_};let[i,z,rfl]:=az.mp B
    trivial⟩
 |pc d =>
  cases d with
  |none=>rw[b];trivial
  |some d=>rw[b];exact ok
 |mk d =>
  cases d with
  |none=>rw[b];trivial
  |some d=>rw[b];trivial
end
def zzx(s:Snd m0 S):∃ o,Hist m0 S [] (GL []) o:={λz=>none,λz z=>s,λz z z z z=>rfl,λz z=>rfl,λz z z z z z z=>Ki}
def cS{Q:Addr->Hp->Prop}{E:XK}(G:Gnd K a b j l s n r c w rows nn S)
  (q:∀ (X:SX) (d:Hp),X.S.lp=j->X.S.A.gp=l->X.S.A.cl=s->X.n=n->X.r=r->X.c=c->X.w=w->(∀ y o,b y=some o->y=s\/¬ X.S.A.F y)->b X.S.tk=none->C6 a d X [] [] {S,[]}->Same b d->Q X.S.st d) :
  ∀ x g,b x=none->b g=none->g≠x->N7 K a [.ref x,.ref j,.ref l] (upd (upd b g<|.own x) x (.ins (a "Store") g [])) (λv d=>v=.non/\Q x d) E:=λx g B L nd=>by
 have i:Same b (upd (upd b g<|.own x) x (.ins (a "Store") g [])):=(AI L).trans (AI (by rw[AK nd.symm];exact B));refine M9 x g j l s n r c w _ nn S {rfl,G.t4,AD,G.la.same i,G.pl.same i,G.sz,λq M v u=>(G.gd q M v u).keep i.tk,λkind k v h1 N u=>(G.rj.keep i.tk) _ k v h1 N u,λkind k z z=>G.bo.ok _ k,λO d T U Y e4 off D I sb=>{rfl,?_}}
 have J:Same b d:=λy o e=>sb _ _ (i _ _ e) (BG e B)
 have:=q {O,n,r,c,w,_,nn,λz=>false} d U Y e4 rfl rfl rfl rfl (λy o e=>off y o<|i _ _ e) (by
  cases e:b _ with
  |none=>rfl
  |some o=>rw[i _ _ e]at D;cases D) {I,zzx G.sd,G.bo,λk c ec=>by simp at ec,G.rj.keep J.tk,G.few,λz h=>by simp at h,G.w1} J
 rw[<-T];exact this
def zzy(h:Y6 K a vs H Q E):bB K a (λ_=>E) (AW Q) (start ["layout","plank","finds","due","find"] vs) H:=zzk h
def Gnd.site(G:Gnd K a H d e g n r c w rows nn S):Site K a H d e g n r c w rows nn (B2 n r c w S):=by
 let[i,j,l,o,b]:=G.sz;exact{G.tv,G.t4.2.2.1,G.t4.2.1,G.la,G.pl,b,G.rj.plv G.pl G.w1 b G.bo<|zzw G.pl G.w1 G.sz G.few G.gd G.rj G.bo G.sd,G.w1,o,i,j,l}
example:(zzz,Y7,Em,2):=by
 apply U9;intro u g j n r c w rows nn S [rfl,G,q];let[dl,l]:=G.la.ob;let[dp,D]:=G.pl.ob;let[tc,I,x]:=G.pl.ls
 have v:¬ (u=g\/u=j):=λz=>by
  let z||z:=z
  rw[z,D]at l;injection l with z;injection z with _ _ z;exact absurd (congrArg nq z) (by simp[pf,lf])
  rw[z,I]at l;cases l
 refine U8 u g j n r c w _ nn _ {rfl,G.site,G.sd.fault G.bo,λfo rows2 J L F2 i B b s=>?_};rw[zzt G.bo]at b;refine cS  {G.tv,G.t4,G.la.sb s v,i,⟨G.sz.1,G.sz.2.1,G.sz.2.2.1,G.sz.2.2.2.1,B⟩,G.few,G.w1,b.good,b.rows i G.w1 B G.bo.mended,G.bo.mended,G.sd.mended G.bo} λX M N O T U Y e6 e7 off ht C s3=>?_
 have old:∀ y,J y=none->H y=none:=λy e=>by
  cases e':H y with
  |none=>rfl
  |some o =>
   by_cases z:y=g\/y=j;let z||z:=z
   let[x,d]:=i.ob;rw[z,d]at e;cases e;let[x,A,x]:=i.ls;rw[z,A]at e;cases e;rw[s _ _ e' z]at e;cases e
 refine q X M N O T U Y e6 e7 (λy o e=>?_) (old _ ht) C (s.trans<|Same.sb s3);by_cases z:y=g\/y=j;let z||z:=z
 let[x,d]:=i.ob;rw[z];exact off g _ d;exact .inl z;exact off y o<|s _ _ e z
def C6.gnd(I:C6 a H X cs b M)(c:TV K a)(d:CM K a):Gnd K a H X.S.lp X.S.A.gp X.S.A.cl X.n X.r X.c X.w X.rows X.nn (sh M.b X.C M.as):={c,d,I.st.ly,I.st.bk.pk,I.st.sz,I.few,I.w1,I.st.gd.1,I.rows,I.inl _,I.snd}
theorem ON:∀ {ps:wE} {M:Hs},(M.unmark d ps).as=(ps.map λp=>({2,p,.mk 0,[d]}:AC)).reverse++M.as/\(M.unmark d ps).b=M.b
 | [],_=>⟨rfl,rfl⟩
 |p::ps,M=>by
  have:=ON (d:=d) (ps:=ps) (M:=M.put 2 p (.mk 0) [d]);refine{?_,this.2};rw[df,iq,fu];exact this.1
def zz1:∀ i:Fin 26,(cj "abcdefghijklmnopqrstuvwxyz").cps.toList[i.val]? =some (97+i.val):=by decide
def zz2{i:Int}{n:Nat}{Q:VK}(b:i=n)(c:n<26)(q:Q (.str {#[97+n]}) H):BK K (.str<|cj "abcdefghijklmnopqrstuvwxyz") (.int i) H Q:=Jj b (by decide) (zz1 ⟨n,c⟩) q
def U1(q:∀ n:Nat,n<26->Q (.str {#[97+n]}) H):BK K (.str<|cj "abcdefghijklmnopqrstuvwxyz") (.int<|x%26) H Q:=by
 let[b,c,d]:=bY x (n:=26) (by decide);rw[show((26:Nat):Int)=26 from rfl]at c;rw[c];exact zz2 rfl d<|q b d
theorem Nd:∀ l:yD,(∀ x∈l,x.length=1)->(l.map (·.length)).sum=l.length
 | [],_=>rfl
 |x::r,h=>by
  rw[df,List.sum_cons,Nd r λy b=>h y<|ω _ b,h x aa];exact s_ _ _
section
variable{X:SX}{M:Hs}{y:Str}
end
def zz3:z∈G2 M m↔∃ k d,k<m/\M 0 k=.nm z d:=by
 unfold G2;rw[qy];constructor;intro[k,g,e];let[p,b,rfl]:=bc.mp e;unfold C8 at b;cases c:M 0 k with
 |nm y r=>rw[c]at b;cases b;exact x2 k r {ao.mp g,c}
 |no=>rw[c]at b;cases b
 |mk i=>rw[c]at b;cases b
 |rc m ps=>rw[c]at b;cases b
 |tx t=>rw[c]at b;cases b
 intro[k,d,g,e];exact{k,ao.mpr g,by unfold C8;rw[e];rfl}
section
variable{X:SX}{cs:yE}{tks:vC}{M:Hs}
def C6.cell(I:C6 a H X cs tks M){k b:Nat}{z:Str}(c:k<X.m0)(e:M 0 k=.nm z b):cellOf M X.m0 z=some k:=by
 cases d:cellOf M _ z with
 |none=>exact absurd e<|UZ d k _ c
 |some j =>
  let[g,i,l]:=Jx d;rw[I.now.un j k z i _ g c l e]
end
def zz4(x y:Str):(x++y).cps.toList=x.cps.toList++y.cps.toList:=by
 show(x.cps++y.cps).toList=_;simp
def cT(z:Str):z.cps.toList.length=z.length:=by simp[Ik]
def zz5{z:Str}{k:Nat}(h:k<=z.length):(Txt.slice z none<|some (k:Int)).cps.toList=z.cps.toList.take k:=by
 rw[eq_of_beq (slice_closes_to   {i0,by rw[cT];lia})];simp
def zz6{z:Str}{k:Nat}(h:k<=z.length):(Txt.slice z (some (k:Int)) none).cps.toList=z.cps.toList.drop k:=by
 rw[eq_of_beq (slice_closes_from   {i0,by rw[cT];omega})]
 have:((z.cps.toList.length:Int)-k).toNat=(z.cps.toList.drop k).length:=by rw[iy];lia
 simp only[bv,this,ce]
def Lts(z:Str)(n:Nat):Prop:=z.cps.toList.length=n/\z.cps.toList.all QU=true
def Lts.len{z:Str}{n:Nat}(h:Lts z n):z.length=n:=h.1
def Lts.cat{x y:Str}{n m:Nat}(h:Lts x n)(h':Lts y m):Lts (x++y) (n+m):=by
 unfold Lts;rw[zz4,ψ,List.all_append,h.1,h'.1,h.2,h'.2];exact⟨rfl,rfl⟩
def Lts.one{n:Nat}(h:n<26):Lts {#[97+n]} 1:={rfl,by simp[QU];exact uy (cy h) _}
def Lts.to{z:Str}{n k:Nat}(h:Lts z n)(b:k<=n):Lts (Txt.slice z none<|some (k:Int)) k:=by
 unfold Lts;rw[zz5 (by rw[h.len];exact b)];refine{by rw[de,h.1];exact j_ b,?_};rw[jp];exact λc d=>jp.mp h.2 c<|zq d
def Lts.from{z:Str}{n k:Nat}(h:Lts z n)(b:k<=n):Lts (Txt.slice z (some (k:Int)) none) (n-k):=by
 unfold Lts;rw[zz6 (by rw[h.len];exact b)];refine{by rw[iy,h.1],?_};rw[jp];exact λc d=>jp.mp h.2 c<|zp d
def Lts.name{z:Str}{n:Nat}(h:Lts z n)(h1:1<=n)(h8:n<=8):B0 z=true:=by
 unfold B0;rw[h.len,h.2];simp;exact⟨h1,h8⟩
def Ng{z:Str}(h:B0 z=true):Lts z z.length/\1<=z.length/\z.length<=8:=by
 unfold B0 at h;simp only[cb,decide_eq_true_eq]at h;exact{{cT z,h.2},h.1.1,h.1.2}
example:(zz7,Y8,ZW,9,h):=by
 let[x,rfl,q]:=h;obtain⟨m,I,d⟩:∃ m:Nat,1+x%6=m/\1<=m/\m<=6:=md _ 6 (by decide);erw[ZW,ZW0_,ZW1_,ZW2_,ZW5_];rw[I,bv];clear I;refine{{by decide,by decide},i0,iA d.2 rfl,GW (λi r s=>∃ (p:Str) (rest:Int),s=H/\Lts p i/\∃ y,r=[some (.int x),some<|.str<|cj "abcdefghijklmnopqrstuvwxyz",some<|.str p,some<|.int rest,y,none,none,none,none]) (x2 (cj "") _ {rfl,{by decide +kernel,by decide +kernel},_,rfl}) (λi r s hi ⟨p,rest,e,g,y,u⟩=>?_) (λr s ⟨p,rest,e,g,y,u⟩=>?_)};subst e u;erw[ZW3_,ZW4_]
 have:=g.len;refine{.inl {by decide,by decide},{by decide,by decide},.inl {i0,by omega},U1 λn J=>?_};erw[]
 have h1:=(Lts.one J).len;exact{BW _ (by omega),{by decide,by decide},.inl {by decide,by decide},_,g.cat<|Lts.one J,rfl}
 ·subst e u
  have j:=g.len;erw[ZW6_];refine{{by decide,by decide},m,{BW _<|oA (υ (ay j) d.2) rfl,j.symm},ck.mpr (χ (by decide) d.1),?_};let[b,v,o]:=bY (x/7) (n:=m) (d.1);rw[v];erw[ZW7_];refine{{by decide,by decide},U1 λL w=>?_};erw[ZW8_];refine{{by decide,by decide},{by decide,by decide},U1 λM A=>?_};erw[ZW9_];refine{rfl,zw6 (n:=b) rfl (j ▸ o) (oA (υ (ay j) d.2) rfl) λc=>y2 {rfl,rfl,?_}};erw[];refine{{by decide,by decide},U1 λT B=>?_};erw[ZW10_]
  have D:=Lts.one w
  have l2:=Lts.one A
  have N:=Lts.one B
  have lt:=g.to (k:=b) (ig o)
  have lf:=g.from (k:=b+1) (o)
  have d1:=D.len
  have d2:=l2.len
  have d3:=N.len
  have d4:=lt.len
  have d5:=lf.len
  have U:((b:Nat):Int)+1=((b+1:Nat):Int):=rfl;rw[U]
  have Y:=g.cat l2
  have e2:=D.cat g
  have e3:=(lt.cat N).cat lf
  have e4:=(g.cat l2).cat D;refine{BW _<|oC (υ (ay j) d.2) rfl,BW _ (by omega),BW _<|oA (υ (ay j) d.2) rfl,BW _ (by omega),BW _<|oA (υ (ay j) d.2) rfl,BW _ (by rw[Jl];omega),BW _<|oC (υ (ay j) d.2) rfl,BW _ (by rw[Jl];omega),by decide,λl O=>?_};refine q l [p,p++({#[97+M]}:Str),({#[97+L]}:Str)++p,Txt.slice p none (some (b:Int))++({#[97+T]}:Str)++Txt.slice p (some ((b+1:Nat):Int)) none,p++({#[97+M]}:Str)++({#[97+L]}:Str)] _ O (AI O) (by rw[AD];rfl) rfl λz hz=>?_;simp only[af,ca,or_false]at hz;let rfl||rfl||rfl||rfl||rfl:=hz
  ·exact g.name (d.1) (oA d.2 rfl)
  ·exact Y.name (ut _ _) (oC d.2 rfl)
  ·exact e2.name (xw _ _) (by omega)
  ·exact e3.name (by omega) (by omega)
  ·exact e4.name (ut _ _) (oG d.2 rfl)
theorem Nh{g:Str}{p:xD}(c:g.cps= #[]):∀ (l:yD) (b:Array Nat),b.all p=true->(∀ z∈l,z.cps.all p=true)->((l.foldl (λb p=>b++g.cps++p.cps) b).all p)=true
 | [],b,h,_=>h
 |z::l,b,h,d=>by
  refine Nh c l _ ?_ λy e=>d y<|ω _ e;rw[c,Gf,Gf,h,d z aa];simp
def Nj{g:Str}{p:xD}{l:yD}(b:g.cps= #[])(h:∀ z∈l,z.cps.all p=true):(Txt.join g l).cps.all p=true:=by
 cases l with
 |nil=>exact Array.all_empty
 |cons z l=>exact Nh b l _ (h z aa) λy c=>h y<|ω _ c
def zz8:∀ i:Fin 94,∃ c,LQ.cps.toList[i.val]? =some c/\c<1114112/\N6 c=true:=by
 have h:∀ i:Fin 94,LQ.cps.toList[i.val]? =some (LQ.cps.toList[i.val]!)/\LQ.cps.toList[i.val]! <1114112/\N6 (LQ.cps.toList[i.val]!)=true:=by decide +kernel
 exact λi=>{_,h i}
def cU(x:Int)(i:Nat):∃ b:Nat,(x/3+(1+x/19%93)*((0+(i:Int))/(1+x/7%3)))%94=b/\LQ.cps.toList[b]? =some (JH x i)/\JH x i<1114112/\N6 (JH x i)=true:=by
 let[b,d,g]:=bY _ (n:=94) (by decide);rw[show((94:Nat):Int)=94 from rfl]at d;let[c,h1,h2,h3]:=zz8 ⟨b,g⟩
 have e:JH x i=c:=by
  unfold JH;rw[d,bv,h1]
  rfl
 exact{b,d,by rw[e];exact h1,by rw[e];exact h2,by rw[e];exact h3}
def zz9(x:Int):1<=IL x/\IL x<=40:=by
 unfold IL;split<;>omega
def z0a(x:Int):LG (JI x)=true/\gu (JI x)=true/\(JI x).length<=40:=by
 have b:=zz9 x
 have d:(JI x).length=IL x:=by
  unfold JI;rw[W.KT.join_ones _ λz hz=>by
   let[i,y,rfl]:=az.mp hz
   rfl]
  simp
 refine{?_,?_,by lia};unfold LG
 have:=Nj (g:=cj "")  (l:=(μ<|IL x).map λi=>{#[JH x i]}) (by decide) λz hz=>by
  let[i,y,rfl]:=az.mp hz;simp;exact(cU x i).choose_spec.2.2.2
 rw[d,decide_eq_true b.1,decide_eq_true b.2,Fs];exact this
 have:=Nj (g:=cj "") (p:=λc=>decide<|c<1114112) (l:=(μ<|IL x).map λi=>{#[JH x i]}) (by decide) λz hz=>by
  let[i,y,rfl]:=az.mp hz;simp;exact(cU x i).choose_spec.2.2.1
 exact this
example:(z0b,UF,Z1,1,h):=by
 let[x,rfl,q]:=h;erw[Z1,Z10_,Z11_,Z12_];refine{{by decide,by decide},?_};unfold UD at q;split
 next h=>rw[if_pos h]at q;exact q
 next h=>rw[if_neg h]at q;exact q
example:(z0c,UE,Z0,5,h):=by
 let[x,rfl,q]:=h
 have tail:∀ m:Nat,m<=40->m=IL x->Z05 K a (λy=>E) (λy=>E) { nx:=AF (Z06 K a (λy=>E) (λy=>E)) (Z07 K a (λy=>E) (λy=>E)) (AW Q),rt:=Q } [some (.int x),some<|.str LQ,some<|.int m,none,none] H:=λm d e=>by
  erw[Z05_,Z06_,Z07_];refine{{by decide,by decide},{by decide,by decide},rfl,i0,by omega,?_};refine MH (BW _<|oA d rfl) (λi ys g=>g=H/\ys=((μ i).map λj=>({#[JH x j]}:Str)).map V.str) ⟨rfl,rfl⟩ (λi ys g v o c=>?_) (λys g o c p r=>?_)
  ·let[l,n]:=c;subst l;erw[C3];let[b,s,u,y]:=cU x i
   have hd:(0+(i:Int))/(1+x/7%3)<=40/\0<=(0+(i:Int))/(1+x/7%3):=by
    have h1:0<1+x/7%3:=by omega
    refine{?_,Int.ediv_nonneg (i0) (by omega)};exact Js (Int.ediv_le_self _<|i0) (by omega)
   refine{{by decide,by decide},{by omega,by omega},.inl {by omega,by omega},?_};rw[s];exact Jj rfl (by decide +kernel) u {rfl,by rw[n,bq,au,au];rfl}
  ·let[l,n]:=c;subst l e
   have h1:∀ z∈(μ<|IL x).map λj=>({#[JH x j]}:Str),z.length=1:=λz hz=>by
    let[i,y,rfl]:=az.mp hz
    rfl
   exact x3 _ p _ {rfl,rfl,by rw[n];exact SqL.of AD,by decide,by rw[Nd _ h1];simp;omega,q _<|AI r}
 erw[Z0,Z00_,Z01_,Z02_,Z04_,Z03_];refine{by decide +kernel,{by decide,by decide},?_};split;obtain⟨m,e,d⟩:∃ m:Nat,40-x/40%2=m/\m<=40:={(40-x/40%2).toNat,by omega,by omega}
 rw[e];exact{{by decide,by decide},tail m d (by unfold IL;rw[if_pos (by assumption)];omega)}
 ·obtain⟨m,e,d⟩:∃ m:Nat,1+x%5=m/\m<=40:={(1+x%5).toNat,by omega,by omega}
  rw[e];exact tail m d (by unfold IL;rw[if_neg (by assumption)];omega)
section
variable{X:SX}{cs:yE}{tks:vC}{M:Hs}
end
def FR{P:AC->Prop}{a:AC}{l:zE}(h:P a)(t:∀ x∈l,P x):∀ x∈a::l,P x:=λx b=>(af.mp b).elim (λe=>e ▸ h) (t x)
example:(z0d,Y9,bN,6):=by
 apply u8;intro X cs D M kind y z x [rfl,T4,TD,I,h12,hcs,hk,hy,hz,j1,q];let[dx,ho]:=I.st.ob;let[ly,u,hy8]:=Ng hy;let[lz,u,hz8]:=Ng hz;let[o,hi]:=I.hi
 have len:=I.st.la.len
 have rl:∀ {k z i},k<X.m0->M 0 k=.nm z i->∃ m ps,i<X.r*X.w/\M 3 i=.rc m ps:=λhk e=>I.rl hk e
 have P12:∀ {r m:Nat} {ps:wE},M 3 r=.rc m ps->(∀ p∈ps,p<X.c*X.w)/\ps.length<=12:=λh=>by
  have:=I.now.few (I.inl λu=>true) h;exact{this.1,υ this.2 h12}
 erw[bN,bN0_,bN14_]
 have bad:∀ c:String,(c="NoName"\/c="Twice"\/c="NoPiece"\/c="NoRoom")->∀ g,Same H g->PN (λcls=>W.exmAny K cls [.ref (a "NoName"),.ref<|a "Twice"]) (bN13 K a (λu=>E) λu=>E) (PN (λcls=>W.exmAny K cls [.ref (a "NoPiece"),.ref<|a "NoRoom"]) (bN12 K a (λu=>E) λu=>E) WF) (.ref<|a c) { nx:=bN15 K a (λu=>E) (λu=>E) (AW Q),rt:=Q } [some (.ref X.S.st),some<|.int kind,some<|.str y,some<|.str z,some<|.int x,some .non] g:=λc N g s=>by
  let rfl||rfl||rfl||rfl:=N
  ·refine .inl {TD.n1,?_};erw[bN13_,bN15_];exact j1 _ s
  ·refine .inl {TD.t1,?_};erw[bN13_,bN15_];exact j1 _ s
  ·refine .inr {TD.p1,.inl {TD.p2,?_}};erw[bN12_,bN15_];exact j1 _ s
  ·refine .inr {TD.r1,.inl {TD.r2,?_}};erw[bN12_,bN15_];exact j1 _ s
 have good:∀ {ex:yE} {O:vC} {M':Hs} {g:Hp} {d:Nat} {l:Addr},ex.length=d->d<=15->X.at a g (cs++ex) O M'->(∃ o,Hist X.m0 M'.b M'.as (GL O) o)->M'.b=M.b->(∃ es,M'.as=es++M.as/\∀ x∈es,EF x.kind x.x)->SameBut (λx=>X.S.A.F x\/x=X.S.tk) H g->H l=none->g l=some (.lst (AQ ((μ d).map (cs.length+·))))->Dn X D M y z x cs.length kind O M'->bN15 K a (λu=>E) (λu=>E) (AW Q) [some (.ref X.S.st),some<|.int kind,some<|.str y,some<|.str z,some<|.int x,some<|.ref l] g  :=λ{ex O M' g d l} h1 h2 U h3 h4 h5 sb Y el hd=>by
  erw[bN15_];exact q d ex O M' l g (I.more U sb h3 h4 h5) h1 h2 hd sb Y el
 have noY:B0 y=false->False:=λh=>by rw[hy]at h;cases h
 have noZ:(B0 y&&B0 z)=false->False:=λh=>by rw[hy,hz]at h;cases h
 erw[bN11_];by_cases k1:kind<2;refine DN (iB k1 rfl) ?_;refine y2 {ho,CK,x5 X cs D M y {rfl,T4,I.st,oA hy8 rfl,oA hcs rfl,λu N i cell er ec T J ex v g Y w G7 U sb=>(good Y (by decide) U ?_ rfl {[_,_,_],rfl,FR trivial<|FR trivial<|FR (ο _) nofun} sb w G7 (.make k1 N er ec T J)),λh=>(noY h).elim,λu ⟨k,N⟩ g s=>bad _ (.inr<|.inl rfl) g s,λu N h g s=>bad _ (.inr<|.inr<|.inr rfl) g s}}
 have:=hi.make (z:=y) (nd:=(cs.length+1)::DQ D y) J (cQ<|OE ec) (UZ N) (Mj (kind:=1) (OE er)) (by rw[len];simp) λj h=>ω _<|cP h;rw[<-len]at this;exact⟨_,this⟩;refine CZ (λz=>k1<|i_.mp z) ?_;erw[bN10_];by_cases k2:kind=2;subst k2;refine DN (by decide) ?_;erw[bN2_];refine y2 {ho,CK,x6 X cs D M y z {rfl,T4,I.st,oA hy8 rfl,oA hz8 rfl,oA hcs rfl,λu u N old i cell eo hol L=>?_,λh=>(noZ h).elim,λu u ⟨k,N⟩ g s=>bad _ (.inr<|.inl rfl) g s,λu u u u g s=>bad _ (.inl rfl) g s,λu u u u u g s=>bad _ (.inr<|.inr<|.inr rfl) g s}};refine u2 ?_<|rl hol L;intro m ps [T,B];refine{T,x2 m ps {B,by have:=(P12 B).2;exact oA this rfl,λec J ex v g Y w G7 U sb=>good Y (by decide) U ?_ rfl {[_,_],rfl,FR trivial<|FR trivial nofun} sb w G7 (.link N eo hol L B ec J T)}}
 have:=hi.link (z:=z) (nd:=cs.length::DQ D z) J (cQ<|OE ec) (UZ N) B (by rw[len];simp) λj h=>ω _<|cP h;exact⟨_,this⟩;refine CZ (λz=>k2<|bh z) ?_;erw[bN9_];by_cases k3:kind=3
 ·subst k3;refine DN (by decide) ?_;erw[bN3_];refine y2 {ho,CK,x5 X cs D M y {rfl,T4,I.st,oA hcs rfl,λcell i ec J L=>?_,λN g s=>bad _ (.inl rfl) g s}};refine u2 ?_<|rl J L;intro m ps [T,B];let[p1,p2]:=P12 B;refine{T,x2 m ps {B,p1,oA p2 rfl,λhm ex v g Y w G7 U sb=>good Y (by decide) U ?_ rfl {[_,_],rfl,FR trivial<|FR trivial nofun} sb w G7 (.cutOne ec J L B hm T),λhm ex v g Y w G7 U sb=>good Y (oE p2 rfl) U ?_ ?_ ?_ sb w G7 (.cutAll ec J L B hm T p1 p2)}}
  ·obtain⟨m',rfl⟩:∃ m',m=m'+1:={m-1,by omega}
   have:=hi.unlead (nd:=[]) J L B;rw[<-len]at this;rw[OL];exact⟨_,this⟩
  ·have:=hi.dropped (nd:=[]) J L B hm;rw[<-len]at this;rw[OL];refine{D7 o y cs.length,?_}
   show Hist X.m0 (Hs.unmark _ _ _).b ({1,i,.mk 0,[cs.length+1]}::(Hs.unmark _ _ _).as) _ _;rw[ON.1,ON.2];exact this
  ·exact ON.2
  ·refine{{1,i,.mk 0,[cs.length+1]}::((ps.map λp=>({2,p,.mk 0,[cs.length+1]}:AC)).reverse++[{3,i,.no,[cs.length]},{0,cell,.no,[]}]),?_,λx hx=>?_}
   ·show{1,i,.mk 0,[cs.length+1]}::(Hs.unmark _ _ _).as=_;rw[ON.1];simp[Hs.put]
   ·simp only[af,bg,Fo,az,ca,or_false]at hx;let rfl||[p,_,rfl]||rfl||rfl:=hx<;>first|exact aw _|exact trivial
 refine CZ (λz=>k3<|bh z) ?_;erw[bN8_];by_cases k4:kind<6
 ·refine DN (iB k4 rfl) ?_;erw[bN4_];let[tok,tst,tl]:=z0a x;refine y2 {ho,CK,x,rfl,λH1 s1=>?_};refine x6 X cs D M y (JI x) {rfl,T4,I.st.same s1,by omega,tst,oA hcs rfl,λcell i ec J L u p ep hp=>?_,λN g s=>bad _ (.inl rfl) g (s1.trans s),λu u g s=>bad _ (.inr<|.inr<|.inl rfl) g (s1.trans s),λu u u g s=>bad _ (.inr<|.inr<|.inr rfl) g (s1.trans s)};refine u2 ?_<|rl J L;intro m ps [T,B]
  have p2:=(P12 B).2;refine{T,x2 m ps {B,oA p2 rfl,λex v g Y w G7 U sb=>good Y (by decide) U ?_ rfl {[_,_,_],rfl,FR trivial<|FR trivial<|FR (ο _) nofun} (λb o e n=>sb _ _ (s1 _ _ e) n) (s1.free w) G7 (.put (by omega) ec J L B ep hp T p2)}}
  have:=hi.put (x:=JI x) (Mj (kind:=2) (OE ep)) B;rw[<-len]at this;exact⟨_,this⟩
 refine CZ (λz=>k4<|i_.mp z) ?_;erw[bN7_];by_cases k6:kind=6
 ·subst k6;refine DN (by decide) ?_;erw[bN5_];refine y2 {ho,CK,x,rfl,x6 X cs D M y (UD x) {rfl,T4,I.st,oA hcs rfl,λcell i ec J L=>?_,λN g s=>bad _ (.inl rfl) g s}};refine u2 ?_<|rl J L;intro m ps [T,B];let[p1,p2]:=P12 B;refine{T,x2 m ps {B,oA p2 rfl,λhx g s=>bad _ (.inr<|.inr<|.inl rfl) g s,λk p ek ep=>{p1 p<|ι ep,λex v g Y w G7 U sb=>good Y (by decide) U ?_ rfl {[_,_],rfl,FR (aw _) (FR trivial nofun)} sb w G7 (.take ec J L B ek ep T (p1 p<|ι ep) p2)}}}
  have:=hi.take B ep;rw[<-len]at this;exact⟨_,this⟩
 refine CZ (λz=>k6<|bh z) ?_
 have k7:kind=7:=by omega
 subst k7;erw[bN6_];refine y2 {ho,CK,x6 X cs D M y z {rfl,T4,I.st,oA hy8 rfl,oA hz8 rfl,hcs,λu u N old i cell eo hol L=>?_,λh=>(noZ h).elim,λu u ⟨k,N⟩ g s=>bad _ (.inr<|.inl rfl) g s,λu u u u g s=>bad _ (.inl rfl) g s,λu u u u u g s=>bad _ (.inr<|.inr<|.inr rfl) g s}};refine u2 ?_<|rl hol L;intro m ps [T,B];refine{T,x2 m ps {B,by have:=(P12 B).2;exact oA this rfl,λec J ex v g Y w G7 U sb=>good Y (by decide) U ?_ rfl {[_,_,_,_],rfl,FR trivial<|FR trivial<|FR trivial<|FR trivial nofun} sb w G7 (.move N eo hol L B ec J T)}}
 have f0:=cQ<|OE ec
 have noc:old≠cell:=λe=>by rw[e,f0]at L;cases L
 have l1:=hi.link (z:=z) (nd:=cs.length::DQ D z) J f0 (UZ N) B (by rw[len];simp) λj h=>ω _<|cP h
 have l2:=l1.unlead (z:=y) (nd:=[cs.length+1]) (m:=m) (ps:=ps) hol (by rw[II,D1 noc,II,N2 (by simp)];exact L) (by rw[II,N2 (by simp),II,CY])
 have l3:({0,cell,.nm z i,cs.length::DQ D z}::{3,i,.rc (m+1) ps,[]}::M.as:zE).length=cs.length+2:=by rw[len];rfl
 rw[l3]at l2;rw[OL];exact⟨_,l2⟩
example:(z0e,UC,yY,2):=by
 apply u6;intro X cs tks M b row [rfl,[T,TP,TL,TS],I,s,q];let[O,ho]:=I.ob;let[dp,w]:=I.bk.pk.ob
 have hb:=(ε.mp s).1;let[db,eb]:=I.bk.bk.ob;refine y3 {ho,TS.cl,TS.n2,_,IM,y2 {eb,DM (by decide),x7 _ _ _ _ cs _ b {rfl,T,TP,I.bk,λb' U t ol hl Y B n o1 o2 u o3 B' sb=>?_,λz=>by lia}}};obtain rfl:b=b':=bh B;rw[s]at n
 have lo:∀ x,X.S.A.F x->EW _:=λx hx=>I.bk.loose hx;obtain rfl:=θ n;let[[O,i],e2,e3,D,e5,e6,e7,o,e9,J,L,N]:=I
 have tk:B3 H Y:=λy ys e=>sb _ _ e λz=>z.elim (λz=>(lo _ z).1 _ e) λz=>by rw[z,w]at e;cases e
 let[dl,l]:=e2.ob;refine q t ol hl Y o1 o2 o3 {{O,sb _ _ i λz=>z.elim (λz=>(lo _ z).2 _ _ _ i) λz=>?_},e2.sb sb λz=>z.elim (λz=>(lo _ z).2 _ _ _ l) λz=>?_,B',sb _ _ D λz=>z.elim e7 λz=>?_,e5,e6,e7,{o.1,o.2.1,o.2.2.1,o.2.2.2.1,by show(X.rows.set b _).length=X.n+X.r+X.c+X.r+X.c;rw[f_];exact o.2.2.2.2},{λq r v d=>?_,(e9.keep tk).2},λkind k v h1 hk d=>?_,L,N.keep tk} sb;rw[show X.S.st=X.S.A.gp from z,w]at i;injection i with i
 injection i with _ _ i
 cases (congrArg (·.lookup ("plan":Str)) i);rw[z,w]at l;injection l with l
 injection l with _ _ l
 exact absurd (congrArg nq l) (by simp[pf,lf]);rw[show X.S.tk=X.S.A.gp from z,w]at D;cases D
 have g:=e9.keep tk;let r||r:=o_ r
 exact g.1 q r v d;rw[r]at d;let d||[c,hc,rfl]:=zx1 d
 exact g.1 _ (ι s) v d;exact g.2 c hc
 have d:EX cs (X.rows.set b _) (AX X.n X.r X.c X.w _ k) (k%X.w:Nat)=some v:=d;refine(J _ k v h1 hk ?_).keep tk;rw[<-d];unfold EX;cases en:D6 cs _ _ with
 |some j=>rfl
 |none =>
  rw[bv];by_cases e:AX X.n X.r X.c X.w kind k=b;rw[e]at en ⊢;rw[s,fb hb]
  show row[_]? =(E8 cs _ b _)[_]?;rw[bv,zx0 en];rw[fz (λz=>e z.symm)]
section
variable{B:zC}{hd la rj:Addr}{n r c w:Nat}{M:Hs}
theorem LaidL.keep{d:uD}{as:zE}{b:Hp}(L:LaidL n r c w B H d as)(tk:B3 H b)(s:∀ x (xs:tF),H x=some (.lst xs)->¬ B x->b x=some (.lst xs)):LaidL n r c w B b d as:=by
 induction L with
 |nil=>exact .nil
 |snoc _ g i j l e o q u v y=>exact y.snoc (tk _ _ g) (tk _ _ i) (j.keep tk) (s _ _ l e) e o q u v
def LaidL.set{b:zC}{d:uD}{as:zE}(L:LaidL n r c w B H d as)(h:∀ x (xs:tF),H x=some (.lst xs)->¬ B x->¬ b x):LaidL n r c w b H d as:=by
 induction L with
 |nil=>exact .nil
 |snoc _ g i j e l o q s u v=>exact v.snoc g i j e (h _ _ e l) o q s u
def LaidL.len{b:uD}{as:zE}(L:LaidL n r c w B H b as):b.length=as.length:=by
 induction L with
 |nil=>rfl
 |snoc _ _ _ _ _ _ _ _ _ _ d=>rw[ψ,d];rfl
def LM.keep{d:Hp}(I:LM B H hd la rj n r c w M)(tk:B3 H d)(s:∀ x (xs:tF),H x=some (.lst xs)->¬ B x->d x=some (.lst xs))(h1:∀ o,H hd=some o->d hd=some o)(h2:∀ o,H la=some o->d la=some o)(h3:∀ o,H rj=some o->d rj=some o):LM B d hd la rj n r c w M:=by
 let[[kh,e,g,i],[j,l,q,u],[y,z,A],ap,D,ok]:=I;refine{{kh,h1 _ e,g,λkind k a b=>(i _ k a b).imp id (by intro[v,p1,p2];exact{v,p1,p2.keep tk})},{j,h2 _ l,q,u},{y,h3 _ z,A.keep tk s},ap,D,ok}
def LM.same{b:Hp}(I:LM B H hd la rj n r c w M)(s:Same H b):LM B b hd la rj n r c w M:=I.keep s.tk (λz z e z=>s _ _ e) (λz e=>s _ _ e) (λz e=>s _ _ e) λz e=>s _ _ e
def Nk{kind k i j:Nat}{x:CV}{nd:wE}:EI i j (M.put kind k x nd).as=if i=kind/\j=k then some M.as.length else EI i j M.as:=by
 show(if kind=i/\k=j then some _ else EI i j _)=_;by_cases e:i=kind/\j=k;rw[if_pos ⟨e.1.symm,e.2.symm⟩,if_pos e];rw[if_neg λz=>e ⟨z.1.symm,z.2.symm⟩,if_neg e]
def cV{kind k b d:Nat}(h1:kind<5)(h2:b<5)(i:k<A0 n r c w kind)(g:d<A0 n r c w b)(e:pK n r c w b d=pK n r c w kind k):b=kind/\d=k:=by
 simp only[uw,Af,and_true]at e;exact UO h2 h1 g i (bh e.1) (bh e.2)
def LM.put{d:Hp}{kh L:xA}{o:uD}{kind k:Nat}{x:CV}{v:V}{nd:wE}{t N nl:Addr}{nds:vE}(I:LM B H hd la rj n r c w M)(q:H hd=some (.dT kh))(u:H la=some (.dT L))(A:H rj=some (.lst<|o.map V.ref))(h1:kind<5)(D:k<A0 n r c w kind)(ox:EF kind x)
  (tk:B3 H d) (s:∀ x (xs:tF),H x=some (.lst xs)->¬ B x->d x=some (.lst xs)) (O:RepC d x v) (Y:d hd=some (.dT<|BL kh (pK n r c w kind k) v)) (e2:d la=some (.dT<|BL L (pK n r c w kind k) (.int M.as.length))) (e3:d rj=some (.lst<|o.map V.ref++[.ref t]))
  (et:d t=some (.tup [.ref N,v,.ref nl])) (ep:d N=some (.tup [.int (AX n r c w kind k:Nat),.int (k%w:Nat)])) (en:d nl=some (.lst<|nds.map V.int)) (nB:¬ B nl) (ps:nds.Pairwise (· <·)) (hn:∀ y:Int,y∈nds↔(∃ j∈nd,y=(j:Nat))\/∃ j:Nat,EI kind k M.as=some j/\y=j):LM B d hd la rj n r c w (M.put kind k x nd):=by
 let[[kh',f1,f2,f3],[kl',T,f5,f6],[J,U,f8],ap,nb,ok]:=I;rw[q]at f1;cases f1;rw[u]at T;cases T
 have:J=o:=by
  rw[A]at U;exact(r_ λa b h=>V.ref.inj h).mp (HO.lst.inj<|θ U).symm
 have len:(M.put kind k x nd).as.length=M.as.length+1:=rfl;subst this;refine{{_,Y,υ (GU ..) (by lia),λi j g l=>?_},{_,e2,υ (GU ..) (uf f5),λi j g l=>?_},{_,by rw[e3,au];rfl,(LaidL.snoc  (f8.keep tk s) et ep O en nB ps hn h1 D)},ap,nb,λi j g l=>?_};rw[Nk,FT,Hs.put_at];by_cases e:i=kind/\j=k;rw[if_pos e,if_pos e,if_pos (by rw[e.1,e.2])];exact .inr ⟨v,rfl,O⟩;rw[if_neg e,if_neg e,if_neg λz=>e<|cV h1 g D l z];exact(f3 i j g l).imp id (by intro[v,p1,p2];exact{v,p1,p2.keep tk});rw[Nk,FT];by_cases e:i=kind/\j=k;rw[if_pos e,if_pos (by rw[e.1,e.2])];rfl;rw[if_neg e,if_neg λz=>e<|cV h1 g D l z];exact f6 i j g l;rw[Hs.put_at];by_cases e:i=kind/\j=k;rw[if_pos e,e.1];exact ox;rw[if_neg e];exact ok i j g l
end
example:(z0f,EY,Z6,6):=by
 apply NB;intro B hd A i pl nl n r c w kind k M x [v,ns,rfl,I,h1,hk,ox,ep,rx,en,hns,T,hM,hB,q];let[kl,b,lkl,GS]:=I.ls;let[kh,g,lkh,hkh]:=I.hn;let[rs,d,L]:=I.rs
 have hl:=GS _ k h1 hk
 have lrs:=L.len
 have tail:∀ (nl1:Addr) (N:List _) (U:Hp),Same H U->U _=some (.lst _)->N.length<=61->(∀ y:Int,y∈N↔y∈ns\/∃ j:Nat,EI _ k _=some j/\y=j)->AF (Z62 K a (λu=>E) λu=>E) (AF (Z63 K a (λu=>E) λu=>E) (AF (Z64 K a (λu=>E) λu=>E) (Z65 K a (λu=>E) λu=>E))) (AW Q) [some (.ref hd),some<|.ref A,some<|.ref i,some _,some v,some<|.ref _] U:=λnl1 N U J en1 l1 m1=>by
  erw[Z62_];refine{_,.inl {_,SqL.of<|J _ _ d,rfl},_,DPut.t (k:=pK n r c w kind k) (J _ _ b) (J _ _ ep) (χ (show kl.length<1000 by exact oC (υ lkl hM) rfl) (by decide)),?_};rw[η,lrs];erw[Z63_]
  have nlr:A≠i:=AZ b d (by intro z;cases z)
  have nhr:hd≠i:=AZ g d (by intro z;cases z)
  have g2:∀ {y:Addr} {o:HO},U y=some o->y≠A->upd U A (.dT<|BL kl (pK n r c w kind k) (.int M.as.length)) y=some o:=λe z=>by rw[AK z];exact e
  have gl:upd U A (.dT<|BL kl (pK n r c w kind k) (.int M.as.length)) A=some (.dT<|BL kl (pK n r c w kind k) (.int M.as.length)):=AD;revert g2 gl;generalize upd U A (.dT<|BL kl (pK n r c w kind k) (.int M.as.length))=H2;intro g2 gl
  have LY:nl1≠A:=AZ en1 (J _ _ b) (by intro z;cases z);refine{.inl {rfl,_,SqL.of<|g2 (J _ _ d) nlr.symm},N,SqL.of<|g2 en1 LY,oC l1 rfl,λa1 o D ks ha1 hD hp hm u=>{by decide,λt ht=>?_}}
  have s3:=(AI (o:=o) ha1).trans (AI (o:=.lst<|ks.map V.int) hD)
  have eD:upd (upd H2 a1 o) D (.lst<|ks.map V.int) D=some (.lst<|ks.map V.int):=AD
  have O:H2 D=none:=(AI (o:=o) ha1).free hD;revert s3 eD ht;generalize upd (upd H2 a1 o) D (.lst<|ks.map V.int)=H3;intro ht s3 eD
  have s4:=AI (o:=.tup [.ref pl,v,.ref D]) ht
  have et:upd H3 t (.tup [.ref pl,v,.ref D]) t=some (.tup [.ref pl,v,.ref D]):=AD;revert s4 et;generalize upd H3 t (.tup [.ref pl,v,.ref D])=H4;intro s4 et
  have l:=s3.trans s4
  have Y:=l _ _<|g2 (J _ _ d) nlr.symm
  have ekh4:=l _ _<|g2 (J _ _ g) I.ap
  have ep4:=l _ _ (g2 (J _ _ ep) (AZ ep b (by intro z;cases z)));refine{_,Y,BW _ (by rw[η];exact oC (υ (ay lrs) hM) rfl),?_}
  have g5:∀ {y:Addr} {o:HO},H4 y=some o->y≠i->upd H4 i (.lst<|rs.map V.ref++[.ref t]) y=some o:=λe z=>by rw[AK z];exact e
  have er5:upd H4 i (.lst<|rs.map V.ref++[.ref t]) i=some (.lst<|rs.map V.ref++[.ref t]):=AD;revert g5 er5;generalize upd H4 i (.lst<|rs.map V.ref++[.ref t])=H5;intro g5 er5
  have tne:∀ {y:Addr} {ys:tF},H4 y=some (.tup ys)->y≠i/\y≠hd:=λe=>{AZ e Y (by intro z;cases z),AZ e ekh4 (by intro z;cases z)}
  erw[Z64_];refine{_,DPut.t (k:=pK n r c w kind k) (g5 ekh4 nhr) (g5 ep4 (tne ep4).1) (χ (show kh.length<2000 by lia) (by decide)),?_}
  have g6:∀ {y:Addr} {o:HO},H5 y=some o->y≠hd->upd H5 hd (.dT<|BL kh (pK n r c w kind k) v) y=some o:=λe z=>by rw[AK z];exact e
  have eh6:upd H5 hd (.dT<|BL kh (pK n r c w kind k) v) hd=some (.dT<|BL kh (pK n r c w kind k) v):=AD;revert g6 eh6;generalize upd H5 hd (.dT<|BL kh (pK n r c w kind k) v)=H6;intro g6 eh6
  have far:∀ {y:Addr} {o:HO},H y=some o->y≠A->y≠i->y≠hd->H6 y=some o:=λe z1 z2 z3=>g6 (g5 (l _ _<|g2 (J _ _ e) z1) z2) z3
  have far4:∀ {y:Addr} {ys:tF},H4 y=some (.tup ys)->H6 y=some (.tup ys):=λe=>g6 (g5 e (tne e).1) (tne e).2
  have el6:=g6 (g5 (l _ _ gl) nlr) I.ap.symm
  have ep6:=far4 ep4
  have tk:B3 H H6:=λy ys e=>far e (AZ e b (by intro z;cases z)) (AZ e d (by intro z;cases z)) (AZ e g (by intro z;cases z))
  have sl:∀ y (xs:tF),H y=some (.lst xs)->¬ B y->H6 y=some (.lst xs):=λy xs e nb=>far e (AZ e b (by intro z;cases z)) (λz=>nb<|z ▸ I.nb.2.2) (AZ e g (by intro z;cases z))
  have s:H D=none:=by
   cases e:H D with
   |none=>rfl
   |some o =>
    by_cases z:D=A
    ·rw[z,gl]at O;cases O
    ·rw[g2 (J _ _ e) z]at O;cases O
  have dne:D≠i/\D≠hd:={λz=>(by rw[z,d]at s;cases s),λz=>(by rw[z,g]at s;cases s)}
  erw[Z65_];refine{_,QD el6 ep6 (by rw[FT,if_pos rfl]),q H6 (I.put g b d h1 hk ox tk sl (rx.keep tk) eh6 el6 (g6 er5 nhr.symm) (far4 et) ep6 (g6 (g5 (s4 _ _ eD) dne.1) dne.2) (hB D s) hp λy=>?_) λy o e nf=>far e (λz=>nf<|.inr<|.inl z) (λz=>nf<|.inr<|.inr z) λz=>nf<|.inl z};rw[hm,m1];refine or_congr {λh=>{y.toNat,az.mpr ⟨y,h,rfl⟩,by have:=T y h;exact(di this).symm},λhzz=>?_} Ki;let[j,hj,ej]:=hzz;let[y',hy',rfl]:=az.mp hj
  have:=T y' hy'
  have:y=y':=by omega
  rw[this];exact hy'
 erw[Z6,Z61_];refine{_,K8 b ep,?_};rw[show A8 kl [.inl ((AX n r c w kind k:Nat):Int),.inl ((k%w:Nat):Int)]=_ from hl];cases el:EI kind k M.as with
 |none =>
  refine CZ (by simp) ?_;exact tail nl ns H (Same.refl _) en (b_ hns) λy=>by rw[el];simp
 |some j =>
  refine DN (by simp) ?_;erw[Z60_];refine{.int j,QD b ep (by rw[show A8 kl [.inl ((AX n r c w kind k:Nat):Int),.inl ((k%w:Nat):Int)]=_ from hl,el];rfl),by decide,λp hp=>.inl (x4 nl p (ns.map V.int) [.int j] {rfl,rfl,(AI hp) _ _ en,AD,BW _ (by rw[η];simp;exact oA hns rfl),λl2 DX=>?_})}
  have e2:ns.map V.int++[V.int (j:Int)]=(ns++[(j:Int)]).map V.int:=by rw[au];rfl
  rw[e2];exact tail l2 (ns++[(j:Int)]) _ ((AI hp).trans (AI DX)) AD (by rw[ψ];simp;exact hns) λy=>by
   rw[el,bg];simp
def LM.get{B:zC}{hd b d:Addr}{n r c w kind k:Nat}{M:Hs}(I:LM B H hd b d n r c w M)(h1:kind<5)(g:k<A0 n r c w kind):∃ kh,H hd=some (.dT kh)/\RepC H (M kind k) ((A8 kh<|pK n r c w kind k).getD .non)/\(M kind k≠.no->∃ v,A8 kh (pK n r c w kind k)=some v/\RepC H (M kind k) v):=by
 let[kh,e,y,h]:=I.hn;refine{kh,e,?_};let[_,h4,h3]||[v,h2,h3]:=h _ k h1 g
 rw[h3,h4];exact{rfl,λz=>absurd rfl z};rw[h2];exact{h3,λy=>⟨v,rfl,h3⟩}
def z0g{f:xD}{m k:Nat}(b:k<m)(h:f k=true)(c:∀ j<k,f j=false):D3 f m=k:=by
 unfold D3
 have:(μ m).find? f=some k:=by
  rw[List.find?_eq_some_iff_getElem];refine{h,k,by simpa using b,by simp,λj d=>?_};rw[List.getElem_range,c j d];rfl
 rw[this]
def z0h{f:xD}{m:Nat}(b:∀ j<m,f j=false):D3 f m= -1:=by
 unfold D3
 have:(μ m).find? f=none:=jw.mpr λj c=>by rw[b j (ao.mp c)];exact ax
 rw[this]
example:(z0i,RA,vG,5):=by
 apply OT;intro B hd la rj p n r c w kind M [rfl,I,h3,[ts,ep,lt,N],hm,q];refine{i0,by lia,(GW (λi u s=>(s=H/\∀ j<i,EG kind (M kind j)=false)/\∃ y4,u=[some _,some _,some _,some _,y4]) {{rfl,λj O=>nZ O},_,rfl} (λi u s J {⟨e,L⟩,y4,T}=>?_) (λu s {⟨e,L⟩,y4,T}=>?_))};subst e T
 have U:=ζ (show i<ts.length by exact lt ▸ J)
 have x:=N i _ U
 have ok:=I.ok _ i (oA h3 rfl) J;let[kh,g,l,y]:=I.get  (oA h3 rfl) J
 have stop:∀ b:Bool,b=false->EG _ _=b->∀ j<i+1,EG _ (M _ j)=false:=λb hb h j O=>by
  by_cases z:j=i;rw[z,h,hb];exact L j<|g_ (cy O) z
 have A:∀ {Y:VK},Y _ s->BK K _ _ s Y:=λh=>CI  (SqL.of ep) rfl (by rw[ρ,U];rfl) h;erw[vG1_,il];refine{.inr {_,.inl g},A {_,K8 g x,?_}};revert l;generalize hv:(A8 kh _).getD _=v;intro l
 have D:EG _ _=true->vG0 K a (λy=>E) (λy=>E) { nx:=λu d=>d=s/\(∀ (j:Nat),j<i+1->EG kind (M.f kind j)=false)/\∃ y4,u=[some (V.int<|A0 n r c w kind),some<|V.ref hd,some<|V.ref p,some<|V.bl<|decide<|0<kind,y4],rt:=Q,bk:=vG3 K a (λy=>E) (λy=>E) (AW Q),ct:=λu d=>d=s/\(∀ (j:Nat),j<i+1->EG kind (M.f kind j)=false)/\∃ y4,u=[some (V.int<|A0 n r c w kind),some<|V.ref hd,some<|V.ref p,some<|V.bl<|decide<|0<kind,y4] } [some (V.int<|A0 n r c w kind),some<|V.ref hd,some<|V.ref p,some<|V.bl<|decide<|0<kind,some _] s:=λh=>by
  rw[show DV M _ (A0 n r c w _)=i from z0g J h L]at q;exact q
 cases o:M _ i with
 |no =>
  rw[o]at l;exact DN l (D (by rw[o];rfl))
 |nm z rec =>
  rw[o]at l ok;let[t0,rfl,y]:=l
  have k0:kind=0:=by
   rcases(show kind=0\/kind=1\/kind=2 by exact c3 h3)with h|h|h
   exact h;rw[h]at ok;exact ok.elim;rw[h]at ok;exact ok.elim
  exact CZ (by simp) (CZ (k0.symm ▸ by decide) {rfl,stop _ rfl (by rw[o];rfl)})
 |mk i0 =>
  rw[o]at l ok
  have k0:0<kind:=by
   rcases(show kind=0\/0<kind by omega)with h|h
   ·rw[h]at ok;exact ok.elim
   ·exact h
  refine CZ (by rw[l];simp) (DN k0 {.inr {_,.inl g},A {_,K8 g x,?_}});rw[hv,l];erw[];by_cases z:i0=0;exact DN (congrArg _ z) (D (by rw[o];simp[EG,k0,z]))
  ·exact CZ (by omega) (stop _ rfl (by rw[o];simp[EG,z]))
 |rc m ps =>
  rw[o]at ok;rcases(show kind=0\/kind=1\/kind=2 by exact c3 h3)with h|h|h<;>(rw[h]at ok;exact ok.elim)
 |tx z =>
  rw[o]at ok;rcases(show kind=0\/kind=1\/kind=2 by exact c3 h3)with h|h|h<;>(rw[h]at ok;exact ok.elim)
 subst e T;rw[show DV M kind (A0 n r c w kind)= -1 from z0h L]at q;exact q
example:(z0j,UG,aH,5):=by
 apply OT;intro B ly hd la rj n r c w M z [rfl,TL,L,I,hm,q];let[dl,el]:=L.ob;erw[aH,aH3_];refine y2 {el,BM,x5 ly n r c w {rfl,TL,L,λt ht=>?_}}
 have J:=AI (o:=.tup [V.int (n*w),V.int<|r*w,V.int<|c*w]) ht;refine BI AD  rfl rfl ?_;revert J;intro J
 have em:(n:Int)*w=(n*w:Nat):=rfl;rw[em];erw[];refine{i0,by lia,(GW (λi N x=>(Same H x/\∀ j<i,(C8 M j).any (λp=>decide<|p.1=z)=false)/\∃ y3 y4,N=[some _,some _,some _,y3,y4]) {{J,λj O=>nZ O},x2 _ _ rfl} (λi N x hi {⟨s,A⟩,y3,y4,es}=>?_) (λN x {⟨s,A⟩,y3,y4,es}=>?_))};subst es
 have b:i<A0 n r c w 0:=hi;erw[aH0_,il];let[kh,T,y]:=(I.same s).get  (by decide) b;refine{.inr {_,.inl T},y2 {s _ _ el,BM,RH TL (L.same s) λu hu=>?_}}
 have U:=AI (o:=.tup [.int (0+i/w),.int<|i%w]) hu
 have Y:upd x u (.tup [.int (0+i/w),.int<|i%w]) u=some (.tup [.int (AX n r c w 0 i),.int (i%w:Nat)]):=by rw[AD];simp[AX]
 revert U Y;intro U Y
 have D:=s.trans U;let[kh',g,d,y]:=(I.same D).get  (by decide) b;refine{_,K8 g Y,?_};revert d;generalize (A8 kh' _).getD _=v
 have ok:=I.ok 0 i (by decide) b
 have next:(C8 M i).any (λp=>decide _)=false->∀ j<i+1,(C8 M j).any (λp=>decide _)=false:=λh j O=>by
  by_cases c:j=i;rw[c];exact h;exact A j<|g_ (cy O) c
 intro d;erw[aH2_];cases l:M 0 i with
 |no =>
  rw[l]at d;rw[show v=.non from d];exact{D,next (by unfold C8;rw[l];rfl)}
 |nm z' rec =>
  rw[l]at d;let[t0,rfl,ES]:=d;rw[if_pos (by simp)];refine BI ES (n:=0) rfl rfl ?_;erw[]
  have en:C8 M i=some (z',rec):=by unfold C8;rw[l]
  by_cases c:z'=z
  ·refine DN c ?_;erw[aH1_]
   have:=Jp (M:=M) (z:=z) hi (by rw[en];simp[c]) A
   have e:KM M (n*w) z=i:=by unfold KM;rw[this]
   rw[e]at q;exact q _ D
  ·exact CZ c {D,next (by rw[en];simp[c])}
 |_=>rw[l]at ok;exact ok.elim
 have e:KM M (n*w) z= -1:=by unfold KM;rw[(Jq (M:=M) (z:=z) A)]
 rw[e]at q;exact q _ s
def TkL.same{c:Addr}{b:vC}{N:Nat}{d:Hp}(h:TkL H c b N)(s:Same H d):TkL d c b N:=by
 let[g,e,h]:=h;exact{g,s _ _ e,h}
def PlL.same{p:Addr}{n r c w kind:Nat}{b:Hp}(h:PlL H p n r c w kind)(s:Same H b):PlL b p n r c w kind:=by
 let[d,e,l,g]:=h;exact{d,s _ _ e,l,λk t i=>s _ _<|g k t i}
def cW{b:vC}{z:Str}:DQ b z=(GL b z).toList:=by
 unfold GL DQ;split<;>rfl
example:(z0k,RB,aJ,11):=by
 apply NB;intro B ly hd la rj td n r c w d need cell M [v,z,rfl,TL,L,I,[kt,ekt,lkt,N],hm,A,hc,hM,hB,q]
 have O:A0 n r c w 0=n*w:=by simp[A0]
 let[dl,el]:=L.ob;erw[aJ,aJ0_];refine y2 {el,BM,x5 ly n r c w {rfl,TL,L,λt ht=>?_}}
 have T:=AI (o:=.tup [V.int (n*w),V.int<|r*w,V.int<|c*w]) ht;refine BI AD  rfl rfl ?_;revert T;intro T
 have em:n*w=(A0 n r c w 0):=by unfold A0;simp
 erw[];refine{i0,by lia,OD (B:=λk=>(AX n r c w 0 k)) (w:=w) (hm) (λi H' Q' hi s' q'=>?_) λts H' l g s' U DD=>?_};refine y2 {s' _ _<|T _ _ el,BM,x6 ly n r c w i {(by simp),TL,(L.same T).same s',?_}};unfold AX at q';exact q'
 have sH:=T.trans s';refine{_,.inl {_,SqL.of DD,rfl},HS B hd la rj l n r c w 0 M {by rw[η,g];rfl,I.same sH,by decide,⟨ts,DD,g,U⟩,hm,?_}};rw[O,A]
 have Y:=ζ (show cell<ts.length by exact iz hc g.symm);refine CI  (SqL.of DD) rfl (by rw[ρ,Y];rfl) ?_
 have fin:∀ (nl:Addr) (js:List _) (s:Hp),Same H' s->s nl=some (.lst<|((need:Int)::js.map λ(j:Nat)=>j).map _)->js=DQ _ z->aJ5 K a (λx=>E) (λx=>E) (AW Q) [some (.ref ly),some<|.ref hd,some<|.ref la,some<|.ref rj,some<|.ref td,some<|.str z,some<|.int d,some<|.int need,some<|.ref l,some<|.ref<|ts[cell]'(iz hc g.symm),some<|.ref nl] s:=λnl js s J en ej=>by
  erw[aJ5_];refine{by decide,λtt htt'=>?_}
  have s3:=AI (o:=.tup [.str z,.int d]) htt'
  have e3:upd s tt (.tup [.str z,.int d]) tt=some (.tup [.str z,.int d]):=AD;revert s3 e3;generalize upd s tt (.tup [.str z,.int d])=H3;intro s3 e3
  have D:=(sH.trans J).trans s3
  have jl:js.length<=1:=by rw[ej,cW];cases GL v z<;>simp
  refine OS B hd la rj _ nl n r c w 0 cell M (.nm z d) (x2 _ _ {rfl,I.same D,by decide,by rw[O];exact hc,trivial,(J.trans s3) _ _ (U cell _ Y),⟨tt,rfl,e3⟩,s3 _ _ en,by simp;exact oA jl rfl,λy hy=>?_,hM,λy hy=>hB y<|D.free hy,λH4 I4 sb4=>q H4 ?_ λb o e nf=>sb4 _ _ (D _ _ e) nf})
  ·let rfl||hy:=af.mp hy
   ·exact i0
   ·let[j,x,rfl]:=az.mp hy;exact i0
  ·have:D9 ((need:Int)::js.map λ(j:Nat)=>(j:Int))=need::DQ v z:=by
    rw[<-ej];unfold D9;rw[df,ip]
    congr 1
    exact(zy λj x=>rfl).trans (List.map_id _)
   rw[this]at I4;exact I4
 erw[aJ2_];refine{by decide,λnl hnl=>(nO hnl λs J e2=>?_)}
 have u:=J _ _<|sH _ _ ekt;erw[aJ4_];refine{_,dS u,?_};rw[N];cases ez:GL v z with
 |none =>
  refine CZ (by simp) ?_;exact fin nl [] s J (by rw[e2];rfl) (by rw[cW,ez];rfl)
 |some j =>
  refine DN (by simp) ?_;erw[aJ3_];refine{.inl {rfl,_,SqL.of e2},.int j,QC u (by rw[N,ez];rfl),{_,e2,(show 1<sizeLine by decide),?_}};exact fin nl [j] _ (λb o e=>by rw[AK (BG e hnl)];exact J _ _ e) (by rw[AD];rfl) (by rw[cW,ez];rfl)
structure Gd(a:Ad)(H0:Hp)(B:zC)(ly hd la rj td:Addr)(X:SX)(tks:vC)(N:Nat)(M:Hs)(H:Hp):Prop where
 ly:LayAt a H ly X.n X.r X.c X.w
 lm:LM B H hd la rj X.n X.r X.c X.w M
 tk:TkL H td tks N
 hB:∀ y,H y=none->¬ B y
 sb:SameBut (λy=>LF hd la rj y\/y=td) H0 H
 tp:B3 H0 H
section
variable{H0:Hp}{B:zC}{ly hd la rj td:Addr}{X:SX}{tks:vC}{N:Nat}{M:Hs}{P:V->Hp->Prop}
def Gd.same{c:Hp}(J:Gd a H0 B ly hd la rj td X tks N M H)(s:Same H c):Gd a H0 B ly hd la rj td X tks N M c:={J.ly.same s,J.lm.same s,J.tk.same s,λy h=>J.hB y<|s.free h,λb o e n=>s _ _<|J.sb _ _ e n,λb ys e=>s _ _<|J.tp _ _ e}
def LM.off{y:Addr}{o:HO}(I:LM B H hd la rj X.n X.r X.c X.w M)(e:H y=some o)(h1:∀ k,o≠.dT k)(h2:∀ xs,o≠.lst xs):¬ LF hd la rj y:=λz=>by
 let[kh,f1,x]:=I.hn;let[c,f2,x]:=I.ls;let[d,b,x]:=I.rs;let z||z||z:=z
 rw[z,f1]at e;obtain rfl:=θ e;exact h1 _ rfl;rw[z,f2]at e;cases e;exact h1 _ rfl;rw[z,b]at e;cases e;exact h2 _ rfl
def Gd.step{c:Hp}{i:Hs}(J:Gd a H0 B ly hd la rj td X tks N M H)(I:LM B c hd la rj X.n X.r X.c X.w i)(sb:SameBut (LF hd la rj) H c):Gd a H0 B ly hd la rj td X tks N i c/\B3 H c:=by
 let[dl,j]:=J.ly.ob;let[l,d,g]:=J.tk
 have tk:B3 H c:=λy ys e=>sb _ _ e (J.lm.off e (by intro k z;cases z) (by intro k z;cases z));refine{{J.ly.sb sb (J.lm.off j (by intro k z;cases z) (by intro k z;cases z)),I,{l,sb _ _ d (J.lm.off d (by intro k z;cases z) (by intro k z;cases z)),g},λy h=>?_,λb o e n=>sb _ _ (J.sb _ _ e n) λz=>n<|.inl z,λb ys e=>tk _ _<|J.tp _ _ e},tk};cases e:H y with
 |none=>exact J.hB y e
 |some o =>
  by_cases z:LF hd la rj y;let[kh,f1,x]:=I.hn;let[r,f2,x]:=I.ls;let[s,q,x]:=I.rs;let z||z||z:=z
  rw[z,f1]at h;cases h;rw[z,f2]at h;cases h;rw[z,q]at h;cases h;rw[sb _ _ e z]at h;cases h
def Gd.chg{kind k:Nat}{c nl:Addr}{x:CV}{v:V}{ns:vE}(J:Gd a H0 B ly hd la rj td X tks N M H)(h1:kind<5)(d:k<A0 X.n X.r X.c X.w kind)(ox:EF kind x)(e:H c=some (.tup [.int (AX X.n X.r X.c X.w kind k:Nat),.int (k%X.w:Nat)]))(g:RepC H x v)(i:H nl=some (.lst<|ns.map V.int))(j:ns.length<=60)(h0:∀ y∈ns,0<=y)(l:M.as.length<=980)(q:∀ b,Gd a H0 B ly hd la rj td X tks N (M.put kind k x<|D9 ns) b->B3 H b->P (.int M.as.length) b):EY K a [.ref hd,.ref la,.ref rj,.ref c,v,.ref nl] H P E :=
 {B,hd,la,rj,c,nl,_,_,_,_,_,k,M,x,v,ns,rfl,J.lm,h1,d,ox,e,g,i,j,h0,l,J.hB,λb I sb=>q b (J.step I sb).1 (J.step I sb).2}
def Gd.led{b need cell:Nat}{z:Str}(d:DH K a)(J:Gd a H0 B ly hd la rj td X tks N M H)(e:N<=1000)(g:X.n*X.w<=1000)(i:DV M 0 (X.n*X.w)=cell)(j:cell<X.n*X.w)(l:M.as.length<=980)(q:∀ c,Gd a H0 B ly hd la rj td X tks N (M.put 0 cell (.nm z b) (need::DQ tks z)) c->B3 H c->P (.int M.as.length) c):RB K a [.ref ly,.ref hd,.ref la,.ref rj,.ref td,.str z,.int b,.int need] H P E:=by
 let[n,o,r,s]:=J.tk;exact OS B ly hd la rj td _ _ _ _ _ _ _ M<|x2 _ z {rfl,d,J.ly,J.lm,{n,o,υ r e,s},g,i,j,l,J.hB,λc I sb=>q c (J.step I sb).1 (J.step I sb).2}
end
def U2{M:Hs}{kind k m:Nat}{x:CV}{nd:wE}(h:kind≠0):DV (M.put kind k x nd) 0 m=DV M 0 m:=Jw λj y=>by rw[Hs.put_at,if_neg λz=>h z.1.symm]
example:(z0l,ZA,aM,10):=by
 apply NB;intro B ly hd la rj td X M M' tks tks' y z x [kind,N,rfl,U,L,I,Tk,hN,z1,z2,z3,z4,r,D,hM,hB,q];let[dl,el]:=L.ob
 have s:=dq z2 z4;cases D with
 |link=>exact absurd r (by decide)
 |move=>exact absurd r (by decide)
 |cutOne=>exact absurd r (by decide)
 |cutAll=>exact absurd r (by decide)
 |put h=>lia
 |take=>exact absurd r (by decide)
 |@make _ b cell h h1 h2 h3 h4 h5 =>
  have d:A0 X.n X.r X.c X.w 1=X.r*X.w:=by simp[A0]
  erw[aM,aM0_];refine y2 {el,BM,x5 ly X.n X.r X.c X.w {rfl,U,L,λt ht=>?_}}
  have A:=AI (o:=.tup [V.int ((X.n:Int)*X.w),V.int<|(X.r:Int)*X.w,V.int<|(X.c:Int)*X.w]) ht;refine BI AD (n:=1) rfl rfl ?_;revert A;intro A
  have em:(X.r:Int)*X.w=(A0 X.n X.r X.c X.w 1:Nat):=by rw[d];simp
  erw[];refine{i0,by omega,OD (B:=λk=>(AX X.n X.r X.c X.w 1 k:Nat)) (w:=X.w) (oA s rfl) (λi H' Q' hi Y q'=>?_) λts H2 l g Y J DD=>?_};refine y2 {Y _ _<|A _ _ el,BM,x6 ly X.n X.r X.c X.w i {(by simp),U,(L.same A).same Y,?_}};unfold AX at q';simpa using q'
  have sH:=A.trans Y;refine{_,.inl {_,SqL.of DD,rfl},HS B hd la rj l X.n X.r X.c X.w 1 M {by rw[η,g];rfl,I.same sH,by decide,⟨ts,DD,g,J⟩,oA s rfl,?_}};rw[d,h2]
  have O:=ζ (show b<ts.length by exact iz h4 g.symm);erw[aM2_];refine CI (n:=b) (SqL.of DD) rfl (by rw[ρ,O];rfl) {by decide,λn1 hn1=>?_}
  have s3:=AI (o:=.lst []) hn1
  have e3:upd H2 n1 (.lst []) n1=some (.lst<|([]:vE).map V.int):=AD;revert s3 e3;generalize upd H2 n1 (.lst [])=H3;intro s3 e3;refine((Gd.same (a:=a) {L,I,Tk,hB,λv v e v=>e,λv v e=>e} (sH.trans s3))).chg (kind:=1) (k:=b) (x:=.mk 1) (by decide) (by rw[d];exact h4) (by first|exact ο _|exact aw _) (s3 _ _<|J b _ O) rfl e3 (by decide) (λy hy=>(by cases hy)) (oA hM rfl) λH4 J4 v=>?_;erw[aM3_];let[dl4,el4]:=J4.ly.ob;refine y2 {el4,BM,LS U J4.ly λu hu=>?_}
  have s5:=AI (o:=.tup [.int (X.n+(b:Int)/X.w),.int<|(b:Int)%X.w]) hu
  have e5:upd H4 u (.tup [.int (X.n+(b:Int)/X.w),.int<|(b:Int)%X.w]) u=some (.tup [.int (AX X.n X.r X.c X.w 3 b:Nat),.int (b%X.w:Nat)]):=by rw[AD];simp[AX]
  revert s5 e5;generalize upd H4 u (.tup [.int (X.n+(b:Int)/X.w),.int<|(b:Int)%X.w])=H5;intro s5 e5;refine{by decide,λp1 GR=>{by decide,λp2 ER=>{by decide,λp3 hp3=>?_}}}
  have T:=AI (o:=.tup []) GR
  have j:=AI (o:=.tup [V.int 1,V.ref p1]) ER
  have c:=AI (o:=.lst [V.int M.as.length]) hp3;refine(J4.same<|s5.trans<|T.trans<|j.trans c).chg (kind:=3) (k:=b) (x:=.rc 1 []) (ns:=[(M.as.length:Int)]) (by decide) (by simpa [A0]using h4) trivial ((T.trans<|j.trans c) _ _ e5) (x2 p2 p1 {rfl,c _ _ AD,(j.trans c) _ _ AD}) AD (by simp) (λy hy=>by rw[τ.mp hy];exact i0) (by show M.as.length+1<=980;exact oC hM rfl) λH7 J7 v=>?_;erw[aM4_];refine J7.led U (oA hN rfl) (oA (dq z1 z4) rfl) ?_ h5 (by show M.as.length+2<=980;exact oE hM rfl) λH8 J8 v=>?_
  ·rw[U2 (by decide),U2 (by decide)];exact h3
  ·let[kt,f1,f2,f3]:=J8.tk;exact q H8 J8.lm {kt,f1,b_ f2,f3} J8.sb
def Dn.old{X:SX}{d c:vC}{M e:Hs}{y z:Str}{x:Int}{N kind:Nat}(D:Dn X d M y z x N kind c e)(g:2<=kind):∃ old b m ps,cellOf M X.m0 y=some old/\old<X.m0/\M 0 old=.nm y b/\M 3 b=.rc m ps/\b<X.r*X.w:=by
 cases D with
 |make h=>exact nL h g
 |link h1 h2 h3 h4 h5 h6 h7 h8=>exact y4 ⟨h2,h3,h4,h5,h8⟩
 |move h1 h2 h3 h4 h5 h6 h7 h8=>exact y4 ⟨h2,h3,h4,h5,h8⟩
 |cutOne h1 h2 h3 h4 h5 h6=>exact y4 ⟨h1,h2,h3,h4,h6⟩
 |cutAll h1 h2 h3 h4 h5 h6=>exact y4 ⟨h1,h2,h3,h4,h6⟩
 |put h h1 h2 h3 h4 h5 h6 h7=>exact y4 ⟨h1,h2,h3,h4,h7⟩
 |take h1 h2 h3 h4 h5 h6 h7=>exact y4 ⟨h1,h2,h3,h4,h7⟩
def LM.at{B:zC}{hd g i e:Addr}{n r c w kind k:Nat}{M:Hs}{P:V->Prop}(I:LM B H hd g i n r c w M)(h1:kind<5)(j:k<A0 n r c w kind)(b:M kind k≠.no)(l:H e=some (.tup [.int (AX n r c w kind k:Nat),.int (k%w:Nat)]))(q:∀ v,RepC H (M kind k) v->P v):∃ v,DGet H hd (.ref e) (some v)/\P v:=by
 let[kh,d,z,h]:=I.get h1 j;let[v,o,s]:=h b;exact{v,QD d l o,q v s}
def Gd.taken{l:Hp}{B:zC}{q hd r u g:Addr}{X:SX}{i j:vC}{N k:Nat}{M:Hs}{y:Str}(J:Gd a l B q hd r u g X i N M H)(d:H g=some (.dK j)):Gd a l B q hd r u g X (BL i (.inr y) (.int k)) (N+1) M (upd H g<|.dK<|BL j (.inr y) (.int k))/\B3 H (upd H g<|.dK<|BL j (.inr y) (.int k)):=by
 let[dl,v]:=J.ly.ob;let[w,f1,f2,A]:=J.tk;rw[d]at f1;cases f1
 have s:SameBut _ H (upd H g<|.dK<|BL j (.inr y) (.int k)):=λb o e n=>by rw[AK n];exact e
 have tk:B3 H _:=λb ys e=>s _ _ e (AZ e d (by intro z;cases z));let[kh,g1,x]:=J.lm.hn;let[D,g3,x]:=J.lm.rs;let[I,g2,x]:=J.lm.ls;refine{{J.ly.sb s (AZ v d (by intro z;cases z)),J.lm.keep tk (λb xs e x=>s _ _ e (AZ e d (by intro z;cases z))) (λo e=>s _ _ e (AZ g1 d (by intro z;cases z))) (λo e=>s _ _ e (AZ g2 d (by intro z;cases z))) (λo e=>s _ _ e (AZ g3 d (by intro z;cases z))),{_,AD,υ (GU ..) (uf f2),λz=>?_},λb h=>?_,λb o e n=>s _ _ (J.sb _ _ e n) λz=>n<|.inr z,λb ys e=>tk _ _<|J.tp _ _ e},tk};rw[FT,OL];unfold D7;by_cases c:z=y;rw[if_pos (by rw[c]),if_pos c];rfl;rw[if_neg λh=>c<|Gn h,if_neg c];exact A z;by_cases c:b=g;rw[c,AD]at h;cases h;rw[AK c]at h;exact J.hB b h
def Gd.tkAt{e:Hp}{B:zC}{g hd i l d:Addr}{X:SX}{b:vC}{N:Nat}{M:Hs}{y:Str}(J:Gd a e B g hd i l d X b N M H):∃ c,H d=some (.dK c)/\c.length<=N/\A8 c (.inr y)=(GL b y).map λ(j:Nat)=>V.int j:=by
 let[c,f1,f2,n]:=J.tk;exact{c,f1,f2,n y}
example:(z0m,ZB,aO,17):=by
 apply NB;intro B ly hd la rj td X M M' tks tks' y z x [kind,N,rfl,TL,L,I,Tk,hN,z1,z2,z3,z4,hk,D,hM,hB,q];let[dl,el]:=L.ob
 have bnw:=dq z1 z4;refine u4 ?_ (D.old (by omega));intro old c m ps [eo,ho,e0,e3,hr]
 have eci:KM M (X.n*X.w) y=old:=by unfold KM;rw[eo]
 have hm0:old<A0 X.n X.r X.c X.w 0:=by simpa [A0]using ho
 have T:c<A0 X.n X.r X.c X.w 3:=by simpa [A0]using hr
 have J0:Gd a H B ly hd la rj td X tks N M H:={L,I,Tk,hB,λt t e t=>e,λt t e=>e}
 erw[aO,aO0_];refine y2 {el,BM,HS B ly hd la rj X.n X.r X.c X.w M y {rfl,TL,L,I,oA bnw rfl,λH1 s1=>?_}};rw[eci];refine RH TL (L.same s1) λu hu=>?_
 have s2:=AI (o:=.tup [.int (0+(old:Int)/X.w),.int<|(old:Int)%X.w]) hu
 have eu:upd H1 u (.tup [.int (0+(old:Int)/X.w),.int<|(old:Int)%X.w]) u=some (.tup [.int (AX X.n X.r X.c X.w 0 old:Nat),.int (old%X.w:Nat)]):=by rw[AD];simp[AX]
 revert s2 eu;generalize upd H1 u (.tup [.int (0+(old:Int)/X.w),.int<|(old:Int)%X.w])=H2;intro s2 eu
 have J2:=J0.same<|s1.trans s2;refine J2.lm.at (by decide) hm0 (by rw[e0];intro z;cases z) eu λv rv=>?_;rw[e0]at rv;let[t0,rfl,ES]:=rv;refine BI ES (n:=1) rfl rfl ?_;erw[aO2_];let[dl2,el2]:=J2.ly.ob;refine y2 {el2,BM,LS TL J2.ly λu3 hu3=>?_}
 have s3:=AI (o:=.tup [.int (X.n+(c:Int)/X.w),.int<|(c:Int)%X.w]) hu3
 have w:upd H2 u3 (.tup [.int (X.n+(c:Int)/X.w),.int<|(c:Int)%X.w]) u3=some (.tup [.int (AX X.n X.r X.c X.w 3 c:Nat),.int (c%X.w:Nat)]):=by rw[AD];simp[AX]
 revert s3 w;generalize upd H2 u3 (.tup [.int (X.n+(c:Int)/X.w),.int<|(c:Int)%X.w])=H3;intro s3 w
 have J3:=J2.same s3
 have eu':=s3 _ _ eu;erw[aO3_];refine J3.lm.at (by decide) T (by rw[e3];intro z;cases z) w λv rv=>?_;rw[e3]at rv;revert rv;apply u2;intro t1 u1 [rfl,et1,eu1];refine{_,SqT.of et1,rfl,?_};erw[aO10_];by_cases k3:kind=3
 ·subst k3;refine CZ (by simp) ?_;erw[aO11_];refine{by decide,λn1 hn1=> ?_}
  have s4:=AI (o:=.lst []) hn1;refine(J3.same s4).chg (kind:=0) (k:=old) (x:=.no) (ns:=[]) (by decide) hm0 trivial (s4 _ _ eu') rfl AD (by decide) (λy i=>(by cases i)) (oA hM rfl) λH5 J5 tk5=>?_
  have eu35:=tk5 _ _<|s4 _ _ w
  have eu15:=tk5 _ _<|s4 _ _ eu1;let[kt,U,lkt,t]:=J5.tkAt (y:=y);refine{_,pS U<|oC (υ lkt hN) rfl,?_};let[Y,A]:=J5.taken (y:=y) (k:=M.as.length) U;revert Y A;generalize upd H5 td (.dK<|BL kt (.inr y) (.int M.as.length))=H6;intro Y A
  have eu36:=A _ _ eu35
  have eu16:=A _ _ eu15;let[kt6,ekt6,lkt6,hv6]:=Y.tkAt (y:=y)
  have hv6:A8 kt6 (.inr y)=some (.int M.as.length):=by rw[hv6,OL];unfold D7;rw[if_pos rfl];rfl
  erw[aO14_];cases D with
  |make h=>exact absurd h (by decide)
  |put h=>exact absurd h (by decide)
  |@cutOne cell' rec' m' ps' g1 g2 g3 g4 g5 g6 =>
   rw[eo]at g1;cases g1;rw[e0]at g3;cases g3;rw[e3]at g4;cases g4;refine DN (ck.mpr g5) ?_;erw[aO12_];refine{by decide,λp2 ER=>{.int M.as.length,QC ((AI ER) _ _ ekt6) hv6,by decide,λn3 r=>?_}}
   have g:=AI (o:=.tup [V.int ((m:Int)-1),V.ref u1]) ER
   have ea:upd H6 p2 (.tup [V.int ((m:Int)-1),V.ref u1]) p2=some (.tup [V.int ((m-1:Nat):Int),V.ref u1]):=by rw[AD];congr 4;omega
   revert g ea r;generalize upd H6 p2 (.tup [V.int ((m:Int)-1),V.ref u1])=H7;intro r g ea
   have sb:=AI (o:=.lst [V.int M.as.length]) r;refine(Y.same<|g.trans sb).chg (kind:=3) (k:=c) (x:=.rc (m-1) ps) (ns:=[(M.as.length:Int)]) (by decide) T trivial ((g.trans sb) _ _ eu36) (x2 p2 u1 {rfl,sb _ _ ea,(g.trans sb) _ _ eu16}) AD (by simp) (λy i=>by rw[τ.mp i];exact i0) (by show M.as.length+1<=980;exact oC hM rfl) λH8 J8 t=>?_;erw[aO13_];exact q H8 J8.lm J8.tk J8.sb
  |@cutAll cell' rec' m' ps' g1 g2 g3 g4 g5 g6 g7 g8 =>
   rw[eo]at g1;cases g1;rw[e0]at g3;cases g3;rw[e3]at g4;cases g4;refine CZ (by omega) ?_;erw[aO15_];refine{.int M.as.length,QC ekt6 hv6,by decide,λn3 r=>?_}
   have sb:=AI (o:=.lst [V.int M.as.length]) r;refine(Y.same sb).chg (kind:=3) (k:=c) (x:=.no) (ns:=[(M.as.length:Int)]) (by decide) T trivial (sb _ _ eu36) rfl AD (by simp) (λy i=>by rw[τ.mp i];exact i0) (by show M.as.length+1<=980;exact oC hM rfl) λH8 J8 tk8=>?_
   have eu18:=tk8 _ _<|sb _ _ eu16;erw[aO17_]
   have ulen:∀ (M1:Hs) (d:Nat) (l:wE),(M1.unmark d l).as.length=l.length+M1.as.length:=λM1 d l=>by rw[ON.1];simp
   have usn:∀ (M1:Hs) (d j p:Nat),ps[j]? =some p->(M1.unmark d<|ps.take j).put 2 p (.mk 0) [d]=M1.unmark d (ps.take<|j+1):=λM1 d j p e=>by
    unfold Hs.unmark;rw[gk,e,io]
    rfl
   have hM8:((M.put 0 old CV.no<|D9 []).put 3 c CV.no (D9 [(M.as.length:Int)])).as.length=M.as.length+2:=rfl;refine .inr {{_,SqT.of eu18},pG (xs:=AQ ps) (λj σ H'=>(Gd a H B ly hd la rj td X (BL tks (.inr y) (.int M.as.length)) (N+1) (((M.put 0 old CV.no<|D9 []).put 3 c CV.no (D9 [(M.as.length:Int)])).unmark (M.as.length+1) (ps.take j)) H'/\B3 H8 H')/\∃ y16,σ=[some (.ref ly),some<|.ref hd,some<|.ref la,some<|.ref rj,some<|.ref td,some<|.int (3:Nat),some<|.str y,some<|.str z,some<|.ref u,some<|.int c,some<|.ref u3,some<|.int m,some<|.ref u1,none,none,some<|.int (M.as.length+1:Nat),y16]) {{J8,λt t e=>e},_,rfl} (λj σ H' hj {⟨_,tk⟩,_}=>SqT.of<|tk _ _ eu18) (λj v σ H9 hx hzz=>?_) (λσ H9 hzz=>?_)}
   ·let[[J,tk9],y16,es]:=hzz;subst es;unfold AQ at hx;rw[ρ,bc]at hx;let[p,ep,rfl]:=hx
    have hpc:=g7 p<|ι ep
    have hj:=(ε.mp ep).1;erw[aO16_];let[dl9,el9]:=J.ly.ob;refine y2 {el9,BM,cA TL J.ly λu9 hu9=>?_}
    have g:=AI (o:=.tup [.int (X.n+X.r+X.c+X.r+(p:Int)/X.w),.int<|(p:Int)%X.w]) hu9
    have ea:upd H9 u9 (.tup [.int (X.n+X.r+X.c+X.r+(p:Int)/X.w),.int<|(p:Int)%X.w]) u9=some (.tup [.int (AX X.n X.r X.c X.w 2 p:Nat),.int (p%X.w:Nat)]):=by rw[AD];simp[AX]
    revert g ea;generalize upd H9 u9 (.tup [.int (X.n+X.r+X.c+X.r+(p:Int)/X.w),.int<|(p:Int)%X.w])=H10;intro g ea;refine{by decide,λn4 hn4=>?_}
    have sb:=AI (o:=.lst [V.int ((M.as.length+1:Nat):Int)]) hn4;refine(J.same<|g.trans sb).chg (kind:=2) (k:=p) (x:=.mk 0) (ns:=[((M.as.length+1:Nat):Int)]) (by decide) (by simpa [A0]using hpc) (by first|exact ο _|exact aw _) (sb _ _ ea) rfl AD (by simp) (λy i=>by rw[τ.mp i];exact i0) (by rw[ulen,hM8,de];omega) λH11 O tk11=>?_;refine{?_,λb ys e=>tk11 _ _<|(g.trans sb) _ _ (tk9 _ _ e)}
    have:D9 [((M.as.length+1:Nat):Int)]=[M.as.length+1]:=rfl;rw[this,usn _ _ j p ep]at O;exact O
   ·let[[J,tk9],y16,es]:=hzz;subst es
    have hll:(AQ ps).length=ps.length:=by simp[AQ]
    rw[hll,ce]at J;erw[aO18_];let[dl9,el9]:=J.ly.ob;refine y2 {el9,BM,b0 TL J.ly λu9 hu9=>?_}
    have g:=AI (o:=.tup [.int (X.n+X.r+X.c+(c:Int)/X.w),.int<|(c:Int)%X.w]) hu9
    have ea:upd H9 u9 (.tup [.int (X.n+X.r+X.c+(c:Int)/X.w),.int<|(c:Int)%X.w]) u9=some (.tup [.int (AX X.n X.r X.c X.w 1 c:Nat),.int (c%X.w:Nat)]):=by rw[AD];simp[AX]
    revert g ea;generalize upd H9 u9 (.tup [.int (X.n+X.r+X.c+(c:Int)/X.w),.int<|(c:Int)%X.w])=H10;intro g ea;refine{by decide,λn4 hn4=>?_}
    have sb:=AI (o:=.lst [V.int ((M.as.length+1:Nat):Int)]) hn4;refine(J.same<|g.trans sb).chg (kind:=1) (k:=c) (x:=.mk 0) (ns:=[((M.as.length+1:Nat):Int)]) (by decide) (by simpa [A0]using hr) (by first|exact ο _|exact aw _) (sb _ _ ea) rfl AD (by simp) (λy i=>by rw[τ.mp i];exact i0) (by rw[ulen,hM8];omega) λH11 O t=>?_;exact q H11 O.lm O.tk O.sb
 ·refine DN (λz=>k3<|bh z) ?_;erw[aO4_];refine{by decide,λp1 GR=>{by decide,λn1 hn1=>?_}}
  have s41:=AI (o:=.tup [V.int ((m:Int)+1),V.ref u1]) GR
  have s42:=AI (o:=.lst []) hn1;refine(J3.same<|s41.trans s42).chg (kind:=3) (k:=c) (x:=.rc (m+1) ps) (ns:=[]) (by decide) T trivial ((s41.trans s42) _ _ w) (x2 p1 u1 {rfl,s42 _ _ AD,(s41.trans s42) _ _ eu1}) AD (by decide) (λy i=>(by cases i)) (oA hM rfl) λH5 J5 tk5=>?_
  have s4:=s41.trans s42;erw[aO5_]
  have mono:∀ {H':Hp} {tks1:vC} {N1:Nat},N1<=N+1->TkL H' td tks1 N1->TkL H' td tks1 (N+1):=λhle ⟨kt,f1,f2,f3⟩=>{kt,f1,υ f2 hle,f3}
  cases D with
  |make h=>omega
  |cutOne=>exact absurd k3 (by decide)
  |cutAll=>exact absurd k3 (by decide)
  |put h=>omega
  |take=>exact absurd hk (by decide)
  |@link old' rec' cell m' ps' g1 g2 g3 g4 g5 g6 g7 g8 =>
   rw[eo]at g2;cases g2;rw[e0]at g4;cases g4;rw[e3]at g5;cases g5;refine J5.led TL (oA hN rfl) (oA bnw rfl) (by rw[U2 (by decide)];exact g6) g7 (by show M.as.length+1<=980;exact oC hM rfl) λH6 Y t=>?_;erw[aO8_];refine CZ (by decide) ?_;erw[aO9_];exact q H6 Y.lm (mono (ic _) Y.tk) Y.sb
  |@move old' rec' cell m' ps' g1 g2 g3 g4 g5 g6 g7 g8 =>
   rw[eo]at g2;cases g2;rw[e0]at g4;cases g4;rw[e3]at g5;cases g5;refine J5.led TL (oA hN rfl) (oA bnw rfl) (by rw[U2 (by decide)];exact g6) g7 (by show M.as.length+1<=980;exact oC hM rfl) λH6 Y A=>?_;erw[aO8_];refine DN (by decide) ?_;erw[aO6_];refine{by decide,λn2 hn2=>?_}
   have s7:=AI (o:=.lst [V.int ((M.put 3 c (.rc (m+1) ps) (D9 [])).as.length)]) hn2
   have keep6:B3 H3 (upd H6 n2<|.lst [V.int ((M.put 3 c (.rc (m+1) ps) (D9 [])).as.length)]):=λb ys e=>s7 _ _<|A _ _<|tk5 _ _<|s4 _ _ e;refine(Y.same s7).chg (kind:=0) (k:=old) (x:=.no) (ns:=[((M.put 3 c (.rc (m+1) ps) (D9 [])).as.length:Int)]) (by decide) hm0 trivial (keep6 _ _ eu') rfl AD (by simp) (λy i=>by rw[τ.mp i];exact i0) (by show M.as.length+2<=980;exact oE hM rfl) λH8 J8 tk8=>?_;let[kt,U,lkt,t]:=J8.tkAt (y:=y);refine{_,pS U<|oC (υ lkt hN) rfl,?_};let[J,tk9]:=J8.taken (y:=y) (k:=M.as.length+2) U
   have s:B3 H3 (upd H8 td<|.dK<|BL kt (.inr y) (.int ((M.as.length+2:Nat):Int))):=λb ys e=>tk9 _ _<|tk8 _ _<|keep6 _ _ e;revert J s;clear tk9
   show _->_->aO7 K a (λt=>E) (λt=>E) _ _ (upd H8 td<|.dK<|BL kt (.inr y) (.int ((M.as.length+2:Nat):Int)));generalize upd H8 td (.dK<|BL kt (.inr y) (.int ((M.as.length+2:Nat):Int)))=H9;intro J s;let[kt9,ekt9,lkt9,hv9]:=J.tkAt (y:=y)
   have hv9:A8 kt9 (.inr y)=some (.int ((M.as.length+2:Nat):Int)):=by rw[hv9,OL];unfold D7;rw[if_pos rfl];rfl
   erw[aO7_];refine{by decide,λp2 ER=>{.int ((M.as.length+2:Nat):Int),QC ((AI ER) _ _ ekt9) hv9,by decide,λn3 r=>?_}}
   have g:=AI (o:=.tup [V.int (m:Int),V.ref u1]) ER
   have sb:=AI (o:=.lst [V.int ((M.as.length+2:Nat):Int)]) r;refine(J.same<|g.trans sb).chg (kind:=3) (k:=c) (x:=.rc m ps) (ns:=[((M.as.length+2:Nat):Int)]) (by decide) T trivial ((g.trans sb) _ _ (s _ _ w)) (x2 p2 u1 {rfl,sb _ _ AD,(g.trans sb) _ _ (s _ _ eu1)}) AD (by simp) (λy i=>by rw[τ.mp i];exact i0) (by show M.as.length+3<=980;exact oE hM rfl) λH10 J10 t=>?_;erw[aO9_];exact q H10 J10.lm J10.tk J10.sb
example:(z0n,ZC,aP,16):=by
 apply NB;intro B ly hd la rj td X M M' tks tks' y z x [kind,N,rfl,U,L,I,Tk,hN,z1,z2,z3,z4,r,hk7,D,hM,hB,q];let[dl,el]:=L.ob
 have bcw:X.c*X.w<=36:=dq z3 z4;refine u4 ?_ (D.old (υ (by decide) r));intro old c m ps [eo,ho,e0,e3,hr]
 have eci:KM M (X.n*X.w) y=old:=by unfold KM;rw[eo]
 have hm0:old<A0 X.n X.r X.c X.w 0:=by simpa [A0]using ho
 have Y:c<A0 X.n X.r X.c X.w 3:=by simpa [A0]using hr
 have J0:Gd a H B ly hd la rj td X tks N M H:={L,I,Tk,hB,λj j e j=>e,λj j e=>e}
 have mono:∀ {H':Hp} {J:vC} {N1:Nat},N1<=N+1->TkL H' td J N1->TkL H' td J (N+1):=λhle ⟨kt,f1,f2,f3⟩=>{kt,f1,υ f2 hle,f3}
 erw[aP,aP0_];refine y2 {el,BM,y2 {el,BM,HS B ly hd la rj X.n X.r X.c X.w M y {rfl,U,L,I,oA (dq z1 z4) rfl,λH1 s1=>?_}}};rw[eci];refine RH U (L.same s1) λu hu=>?_
 have s2:=AI (o:=.tup [.int (0+(old:Int)/X.w),.int<|(old:Int)%X.w]) hu
 have eu:upd H1 u (.tup [.int (0+(old:Int)/X.w),.int<|(old:Int)%X.w]) u=some (.tup [.int (AX X.n X.r X.c X.w 0 old:Nat),.int (old%X.w:Nat)]):=by rw[AD];simp[AX]
 revert s2 eu;generalize upd H1 u (.tup [.int (0+(old:Int)/X.w),.int<|(old:Int)%X.w])=H2;intro s2 eu
 have J2:=J0.same<|s1.trans s2;refine J2.lm.at (by decide) hm0 (by rw[e0];intro z;cases z) eu λv rv=>?_;rw[e0]at rv;let[t0,rfl,ES]:=rv;refine BI ES (n:=1) rfl rfl ?_;refine LS U J2.ly λu3 hu3=>?_
 have s3:=AI (o:=.tup [.int (X.n+(c:Int)/X.w),.int<|(c:Int)%X.w]) hu3
 have d:upd H2 u3 (.tup [.int (X.n+(c:Int)/X.w),.int<|(c:Int)%X.w]) u3=some (.tup [.int (AX X.n X.r X.c X.w 3 c:Nat),.int (c%X.w:Nat)]):=by rw[AD];simp[AX]
 revert s3 d;generalize upd H2 u3 (.tup [.int (X.n+(c:Int)/X.w),.int<|(c:Int)%X.w])=H3;intro s3 d
 have J3:=J2.same s3;erw[aP1_];refine J3.lm.at (by decide) Y (by rw[e3];intro z;cases z) d λv rv=>?_;rw[e3]at rv;revert rv;apply u2;intro t1 u1 [rfl,et1,s];refine{_,SqT.of et1,rfl,?_};erw[aP6_];by_cases k6:kind=6
 ·subst k6;refine DN (by decide) ?_;erw[aP2_];refine{x,rfl,?_};cases D with
  |make h=>omega
  |put h=>omega
  |@take cell' rec' m' k p ps' g1 g2 g3 g4 g5 g6 g7 g8 g9 =>
   rw[eo]at g1;cases g1;rw[e0]at g3;cases g3;rw[e3]at g4;cases g4;rw[g5];erw[aP3_]
   have GS:=(ε.mp g6).1
   have e1:HT.sIx (AQ ps).length (AQ ps).length (some (k:Int))=k:=by
    show(if(k:Int)<0 then((k:Int)+((AQ ps).length:Int)).toNat else min (k:Int).toNat (AQ ps).length)=_;rw[if_neg (by exact rf.mpr i0)];simp[AQ];exact j_<|ig GS
   have e2:HT.sIx (AQ ps).length 0 (some<|(k:Int)+1)=k+1:=by
    show(if((k:Int)+1)<0 then((k:Int)+1+((AQ ps).length:Int)).toNat else min ((k:Int)+1).toNat (AQ ps).length)=_;rw[if_neg (by exact rf.mpr i0)];simp[AQ];exact j_ GS
   have hnl:(AQ ps).length=ps.length:=by simp[AQ]
   refine .inr (x2 u1 _ {rfl,SqT.of s,λy=>by rw[e1]at y;omega,λp1 GR=>?_})
   have sa:=AI (o:=.tup<|EU (AQ ps) none (some (k:Int))) GR;refine .inr (x2 u1 _ {rfl,SqT.of<|sa _ _ s,λy=>by rw[e2]at y;omega,λp2 ER=>?_})
   have sb:=AI (o:=.tup<|EU (AQ ps) (some<|(k:Int)+1) none) ER
   have c1:EU (AQ ps) none (some (k:Int))=AQ (ps.take k):=by rw[rP _ (by exact i0),bv];simp[AQ]
   have c2:EU (AQ ps) (some<|(k:Int)+1) none=AQ (ps.drop<|k+1):=by rw[XI _ (by exact i0),show((k:Int)+1).toNat=k+1 by exact rfl];simp[AQ]
   rw[c1,c2]at sb;rw[c1]at sa;rw[c1,c2]
   have DO:(AQ<|ps.take k).length+(AQ<|ps.drop<|k+1).length<=1000:=by simp[AQ];omega
   refine Jz (sb _ _ AD) AD DO λpp H5 s5 epp=>{by decide,λpt hpt=>{by decide,λn1 hn1=>?_}}
   have epp':H5 pp=some (.tup<|AQ<|ps.eraseIdx k):=by rw[epp,iu];simp[AQ]
   have O:=AI (o:=.tup [V.int (m:Int),V.ref pp]) hpt
   have sd:=AI (o:=.lst []) hn1
   have lO:=(sa.trans sb).trans s5;refine(J3.same<|lO.trans<|O.trans sd).chg (kind:=3) (k:=c) (x:=.rc m<|ps.eraseIdx k) (ns:=[]) (by decide) Y trivial ((lO.trans<|O.trans sd) _ _ d) (x2 pt pp {rfl,sd _ _ AD,(O.trans sd) _ _ epp'}) AD (by decide) (λy A=>(by cases A)) (oA hM rfl) λH6 J6 tk6=>?_;erw[aP4_];let[dl6,el6]:=J6.ly.ob;refine y2 {el6,BM,BI (tk6 _ _<|(lO.trans<|O.trans sd) _ _ s) (n:=k) rfl (by unfold AQ;rw[ρ,g6];rfl) (cA U J6.ly λu7 hu7=>{by decide,λn2 hn2=>?_})}
   have s7:=AI (o:=.tup [.int (X.n+X.r+X.c+X.r+(p:Int)/X.w),.int<|(p:Int)%X.w]) hu7
   have e7:upd H6 u7 (.tup [.int (X.n+X.r+X.c+X.r+(p:Int)/X.w),.int<|(p:Int)%X.w]) u7=some (.tup [.int (AX X.n X.r X.c X.w 2 p:Nat),.int (p%X.w:Nat)]):=by rw[AD];simp[AX]
   have s8:=AI (o:=.lst [V.int M.as.length]) hn2;refine(J6.same<|s7.trans s8).chg (kind:=2) (k:=p) (x:=.mk 0) (ns:=[(M.as.length:Int)]) (by decide) (by simpa [A0]using g8) (by first|exact ο _|exact aw _) (s8 _ _ e7) rfl AD (by simp) (λy A=>by rw[τ.mp A];exact i0) (by show M.as.length+1<=980;exact oC hM rfl) λH9 J9 j=>?_;erw[aP5_];exact q H9 J9.lm (mono (ic _) J9.tk) J9.sb
 ·refine CZ (λz=>k6<|bh z) ?_;cases D with
  |make h=>omega
  |link=>exact absurd r (by decide)
  |move=>exact absurd hk7 (by decide)
  |cutOne=>exact absurd r (by decide)
  |cutAll=>exact absurd r (by decide)
  |take=>exact absurd k6 (by decide)
  |@put _ cell' rec' m' p ps' g g1 g2 g3 g4 g5 g6 g7 g8 =>
   rw[eo]at g1;cases g1;rw[e0]at g3;cases g3;rw[e3]at g4;cases g4;erw[aP7_];let[dl3,el3]:=J3.ly.ob;refine y2 {el3,BM,x5 ly X.n X.r X.c X.w {rfl,U,J3.ly,λt ht=>?_}}
   have s4:=AI (o:=.tup [V.int ((X.n:Int)*X.w),V.int<|(X.r:Int)*X.w,V.int<|(X.c:Int)*X.w]) ht;refine BI AD (n:=2) rfl rfl ?_;revert s4;generalize upd H3 t (.tup [V.int ((X.n:Int)*X.w),V.int<|(X.r:Int)*X.w,V.int<|(X.c:Int)*X.w])=H4;intro s4
   have ekm:A0 X.n X.r X.c X.w 2=X.c*X.w:=by simp[A0]
   have em:(X.c:Int)*X.w=(A0 X.n X.r X.c X.w 2:Nat):=by rw[ekm];simp
   rw[em];erw[];refine{i0,by omega,OD (B:=λk=>(AX X.n X.r X.c X.w 2 k:Nat)) (w:=X.w) (oA bcw rfl) (λi H' Q' hi s' q'=>?_) λts H5 l hts s' htt DD=>?_}
   ·erw[C3];refine y2 {s' _ _<|s4 _ _ el3,BM,x6 ly X.n X.r X.c X.w i {(by simp),U,(J3.ly.same s4).same s',?_}};unfold AX at q';simpa using q'
   have s35:=s4.trans s'
   have J5:=J3.same s35;erw[aP8_];refine{_,.inl {_,SqL.of DD,rfl},HS B hd la rj l X.n X.r X.c X.w 2 M {by rw[η,hts];rfl,J5.lm,by decide,⟨ts,DD,hts,htt⟩,oA bcw rfl,?_}};rw[ekm,g5]
   have ect:=ζ (show p<ts.length by exact iz g6 hts.symm)
   have epl:=htt p _ ect;erw[aP9_];refine CI (n:=p) (SqL.of DD) rfl (by rw[ρ,ect];rfl) {by decide,λn1 hn1=>?_}
   have s6:=AI (o:=.lst []) hn1;refine(J5.same s6).chg (kind:=2) (k:=p) (x:=.mk 1) (ns:=[]) (by decide) (by rw[ekm];exact g6) (by first|exact ο _|exact aw _) (s6 _ _ epl) rfl AD (by decide) (λy A=>(by cases A)) (oA hM rfl) λH7 J7 tk7=>?_
   have kp:B3 H3 H7:=λb ys e=>tk7 _ _<|s6 _ _<|s35 _ _ e;erw[aP10_];let[dl7,el7]:=J7.ly.ob;refine y2 {el7,BM,Jv U J7.ly λu7 hu7=>{x,rfl,λH9 s9=>{by decide,λn2 hn2=>?_}}}
   have s8:=AI (o:=.tup [.int (X.n+X.r+(p:Int)/X.w),.int<|(p:Int)%X.w]) hu7
   have e8:upd H7 u7 (.tup [.int (X.n+X.r+(p:Int)/X.w),.int<|(p:Int)%X.w]) u7=some (.tup [.int (AX X.n X.r X.c X.w 4 p:Nat),.int (p%X.w:Nat)]):=by rw[AD];simp[AX]
   have s10:=AI (o:=.lst [V.int M.as.length]) hn2
   have s79:=s8.trans<|s9.trans s10;refine(J7.same s79).chg (kind:=4) (k:=p) (x:=.tx<|JI x) (ns:=[(M.as.length:Int)]) (by decide) (by simpa [A0]using g6) trivial ((s9.trans s10) _ _ e8) rfl AD (by simp) (λy A=>by rw[τ.mp A];exact i0) (by show M.as.length+1<=980;exact oC hM rfl) λH11 J11 tk11=>?_
   have T:B3 H3 H11:=λb ys e=>tk11 _ _<|s79 _ _<|kp _ _ e;erw[aP11_];refine{by decide,λpa hpa=>?_}
   have sa:=AI (o:=.tup [V.int (p:Int)]) hpa;refine cat_tup (sa _ _<|T _ _ s) AD (by simp) (by simp[AQ];exact oA g8 rfl) λpp H12 CG epp=>{by decide,λpt hpt=>{by decide,λn3 hn3=>?_}}
   have sb:=AI (o:=.tup [V.int (m:Int),V.ref pp]) hpt
   have O:=AI (o:=.lst [V.int (((M.put 2 p (.mk 1) (D9 [])).as.length:Nat):Int)]) hn3
   have sz:=(sa.trans CG).trans (sb.trans O);refine(J11.same sz).chg (kind:=3) (k:=c) (x:=.rc m<|ps++[p]) (ns:=[(((M.put 2 p (.mk 1) (D9 [])).as.length:Nat):Int)]) (by decide) Y trivial (sz _ _<|T _ _ d) (x2 pt pp {rfl,O _ _ AD,(sb.trans O) _ _ (by rw[epp];simp[AQ])}) AD (by simp) (λy A=>by rw[τ.mp A];exact i0) (by show M.as.length+2<=980;exact oE hM rfl) λH13 J13 j=>?_;exact q H13 J13.lm (mono (ic _) J13.tk) J13.sb
example:(z0o,YB,aA,2):=by
 apply u7;intro A w rows n cs outs x [rfl,T,B,q,i];let[L,c]:=B.bk.ob;erw[aA,aA0_];refine y2 {c,DM,by decide,λl j=>?_}
 have b:=AI (o:=.lst [.int x]) j;refine x8 A w _ n cs _ l [x] {rfl,T,B.same b,SqL.of AD,λs=>?_,λ⟨y,u,d⟩=>?_}
 have M:=s x<|τ.mpr rfl;obtain⟨k,rfl⟩:∃ k:Nat,x=k:={x.toNat,by lia}
 have v:k<cs.length:=by omega
 have e:=ζ v;refine u2 ?_<|B.bk.at e;intro xs p [z,D,I,N,O,J,U,c3];refine y3 {b _ _ c,T.cl,T.nM,_,KJ,CI (SqL.of<|b _ _ z) rfl D ?_};exact y3 {b _ _ J,T.cc,T.nN,_,rV,{_,.inr<|SqT.of<|b _ _ c3,λr g=>(q k _ r _ rfl e (b.free g) (b.trans<|AI g) AD)}};rw[τ.mp u]at d;exact i d _ b
example:(z0p,NV,uC,1):=by
 apply u5;intro p b w rows n [rfl,T,P,q];let[c,h1]:=P.ob;exact y3 {h1,T.cl,T.nN,_,rO _ _ _,q}
section
variable{X:SX}{cs:yE}{tks:vC}{M:Hs}
end
def Nl(ps:wE):AQ ps=(ps.map λ(k:Nat)=>(k:Int)).map V.int:=by rw[ip];rfl
def Nm{x:CV}{v j:V}{Q:VK}(h:RepC H x v)(h':RepC H x j)(g:GoodV 4 H v)(q:Q (.bl false) H):DE K v j H Q:=by
 cases x with
 |no=>rw[h',<-h];exact bX g q
 |mk i=>rw[h',<-h];exact bX g q
 |tx z=>rw[h',<-h];exact bX g q
 |nm z k =>
  let[t,rfl,d]:=h;let[xs,ex,y,n]:=g;let[t',rfl,b]:=h';rw[d]at ex;cases ex;let[o,D]:=zwx  n;exact NP  (by decide) (Dat.tup (SqT.of d) D) (Dat.tup (SqT.of b) D) q
 |rc m ps =>
  revert h;apply u2;intro t u [rfl,d,l];revert h';apply u2;intro t' r [rfl,b,c];rw[Nl]at l c
  have D:∀ {u:Addr},H u=some _->Dat K H 2 _ (.tuple<|(ps.map λ(k:Nat)=>(k:Int)).map _):=λe=>Dat.tup  (SqT.of e) (KC _);exact NP  (by decide) (Dat.tup (SqT.of d) (.cons (.int _) (.cons (D l) .nil))) (Dat.tup (SqT.of b) (.cons (.int _) (.cons (D c) .nil))) q
theorem Np:∀ {l m:vE},l.Pairwise (· <·)->m.Pairwise (· <·)->(∀ x,x∈l↔x∈m)->l=m
 | [],[],_,_,_=>rfl
 | [],y::_,_,_,h=>absurd ((h y).mpr (by simp)) (by simp)
 |x::_,[],_,_,h=>absurd ((h x).mp (by simp)) (by simp)
 |x::l,y::m,g,i,h=>by
  let[c,l2]:=h_.mp g;let[d,j]:=h_.mp i
  have n:x=y:=by
   rcases af.mp ((h x).mp (by simp))with e|e
   exact e;rcases af.mp ((h y).mpr (by simp))with b|b
   exact b.symm
   have:=c y b;have:=d x e;lia
  subst n
  congr 1
  refine Np l2 j λz=>{λhz=>?_,λhz=>?_}
  have:=c z hz;exact(af.mp<|(h z).mp (ω _ hz)).resolve_left (Kn this);exact(af.mp<|(h z).mpr (ω _ hz)).resolve_left (Kn<|d z hz)
def U3{B:zC}{n r c w:Nat}{cs:yE}{as:zE}{o:uD}(A:LaidA n r c w H cs as)(L:LaidL n r c w B H o as)(z:∀ ch∈cs,ch.nd.Pairwise (· <·)):∀ (k:Nat) ch t,cs[k]? =some ch->o[k]? =some t->∃ j nl v x kind b,H t=some (.tup [.ref j,v,.ref nl])/\H j=some (.tup [.int (AX n r c w kind b:Nat),.int (b % w:Nat)])/\RepC H x v/\RepC H x ch.val/\H nl=some (.lst<|ch.nd.map V.int)/\¬ B nl/\kind<5/\b<A0 n r c w kind/\ch.blk=AX n r c w kind b/\ch.cell=b % w/\∃ d,as.reverse[k]? =some ⟨kind,b,x,d⟩:=by
 induction A generalizing o with
 |nil=>intro k ch t e;simp at e
 |@snoc cs as q x0 A J M N O e5 e6 T =>
  cases L with
  |@snoc s _ t0 U Y _ v0 nds L f1 f2 f3 D f5 f6 f7 f8 f9 =>
   have len:=A.len
   have g:=L.len;intro k ch t i l;by_cases I:k<cs.length;rw[ae I]at i;rw[ae (by lia)]at l;refine u6 ?_<|T L (λc hc=>z c<|jc _ hc) k ch t i l;intro j nl v x kind b [p1,p2,p3,p4,p5,p6,p7,p8,p9,p10,d,p11];exact x6 j nl v x _ b {p1,p2,p3,p4,p5,p6,p7,p8,p9,p10,_,by rw[iq,ae (by rw[bz];exact len ▸ I)];exact p11}
   have u:=(ε.mp i).1
   have:k=cs.length:=by simp at u;lia
   subst this;rw[ba (ο _),kj]at i;rw[show cs.length=s.length by exact len.trans g.symm,ba<|ο _,kj]at l;obtain rfl:=θ l
   have  :=Np f6 (z q (by simp)) λy=>by rw[f7,O]
   obtain rfl:=θ i;rw[this]at D;exact x6 _ _ v0 _ _ _ {f1,f2,f3,N,D,f5,f8,f9,J,M,_,by rw[iq,ba (by rw[bz];exact ay len.symm),bz,show cs.length-as.length=0 by omega];rfl}
example:(z0q,ZD,aK,5):=by
 apply OT;intro B hd la rj l X cs tks M N d [rfl,[T,TP,TL,TS],C,I,ecs,w,q];let[U,e,L]:=I.rs
 have lrs:=L.len
 have c990:=C.st.bk.bk.sz
 have lcs:=C.st.la.len;let[db,eb]:=C.st.bk.bk.ob
 have need:∀ ch∈cs,ch.nd.Pairwise _:=λch hc=>by
  let[k,hk]:=my.mp hc;exact(C.st.bk.bk.need k ch hk).2.1
 have c:(U.map V.ref).length=N+d:=by rw[η];lia
 erw[aK,aK1_];refine K6 (.inl<|.lst w) (.ty _)  rfl ?_;refine{_,.inl {_,SqL.of e,rfl},i0,by omega,i0,by omega,?_};rw[c,show(((N+d:Nat):Int)-N).toNat=d by omega];refine pF (BW _ (by omega)) (λi=>V.int<|N+i) (λi Y Q' hq=>?_) λl2 DX=>?_;exact hq
 have g:=AI (o:=.lst<|(μ d).map λi=>V.int<|(N:Int)+(i:Nat)) DX
 have r:upd H l2 (.lst<|(μ d).map λi=>V.int<|(N:Int)+(i:Nat)) l2=some (.lst (AQ ((μ d).map (N+·)))):=by rw[AD];simp[AQ,xg]
 revert g r;intro g r
 have j:=g _ _ w;rw[zv4]at j r;refine nC (NP (n:=2) (by decide) (Dat.lst (n:=1) (SqL.of j) (KC _)) (Dat.lst (n:=1) (SqL.of r) (KC _)) ?_);erw[aK4_];refine{_,.inl {_,SqL.of<|g _ _ e,rfl},i0,by omega,i0,by omega,?_};rw[c,show(((N+d:Nat):Int)-(N:Nat)).toNat=d by omega];refine GW (λi y D=>Same H D/\∃ y4,y=[some (.ref X.S.A.b),some<|.ref l,some<|.ref rj,some<|.int N,y4]) ⟨g,_,rfl⟩ (λi y D Y ⟨s,y4,es⟩=>?_) (λy D ⟨s,y4,es⟩=>?_);subst es;erw[aK3_];rw[show((N:Int)+(i:Nat)-(N:Nat))=((i:Nat):Int) by omega];refine CI (n:=i) (v:=.int ((N+i:Nat):Int)) (SqL.of<|s _ _ w) rfl (by unfold AQ;rw[ρ,ρ,ph Y];rfl) (K6 (.inl<|.int _) (.ty _) (b:=false) rfl ?_)
 have et:=ζ (show N+i<U.length by omega);refine y2 {s _ _ eb,DM,x7 X.S.A X.w X.rows X.nn cs X.outs _ {rfl,T,C.st.bk.same s,λk ch l3 H3 ek J hl3 s3 O=>?_,λhn=>absurd {i0,by omega} hn}}
 have  :=bh ek.symm;subst this
 have u:=s.trans s3;refine u6 ?_<|U3 C.st.la L need _ _ _ J et;intro pl nl v x kind kk [f1,f2,f3,f4,f5,z];refine CI (n:=N+i) (SqL.of<|u _ _ e) (rfl) (by rw[ρ,et];rfl) (BI (u _ _ f1) (n:=2) rfl rfl (nC (NP (n:=2) (by decide) (Dat.lst (n:=1) (SqL.of O) (KC _)) (Dat.lst (n:=1) (SqL.of<|u _ _ f5) (KC _)) ?_)));exact u;erw[aK5_];exact q _ s
example:(z0r,ZE,Aq,6):=by
 apply u9;intro B hd la rj X cs tks M N [rfl,[T,TP,TL,TS],C,I,hN,q];let[A,ers,L]:=I.rs
 have lrs:=L.len
 have lcs:=C.st.la.len;let[db,eb]:=C.st.bk.bk.ob
 have need:∀ ch∈cs,ch.nd.Pairwise _:=λch hc=>by
  let[k,hk]:=my.mp hc;exact(C.st.bk.bk.need k ch hk).2.1
 have j:EU (A.map V.ref) (some N) none=(A.drop N).map V.ref:=by rw[XI _ (i0),bv,xq]
 refine rQ (SqL.of ers) λrr hrr=>?_;rw[j]
 have D:=AI (o:=.lst<|(A.drop N).map V.ref) hrr
 have J:upd H rr _ rr=some (.lst<|(A.drop N).map V.ref):=AD;revert D J;generalize upd H rr _=H1;refine λD J=>(.inl {{_,SqL.of J},ID  (λi O U=>Same H1 U/\∃ y5,O=[some _,some _,some _,some _,some _,y5]) {Same.refl _,_,rfl} (λi O U y ⟨s,_⟩=>SqL.of<|s _ _ J) (λi v O U ev ⟨s,y5,es⟩=>?_) (λO U ⟨s,y5,es⟩=>?_)})
 subst es;rw[ρ,bc]at ev;let[t,et,rfl]:=ev;rw[vp]at et
 have hk:N+i<cs.length:=by have:=(ε.mp et).1;lia
 have l:=ζ hk;refine u6 ?_<|U3 C.st.la L need _ _ _ l et;intro pl nl v x kind e [f1,f2,f3,f4,f5,y,h1,c,eb1,eb2,y]
 have Y:=(C.st.la.newest h1 c).1
 have r:=D.trans s;refine u2 ?_<|XY l;intro j0 c0 [d,y];rw[eb1,eb2,Y]at d
 have C':=C.same r
 have Y:D6 cs (AX X.n X.r X.c X.w kind e) (e%X.w:Nat)=some j0:=by rw[Y];exact d
 have u:=C.st.onPl h1 c;refine y2 {r _ _ eb,DM,BI (r _ _ f1)  rfl rfl (x9 _ _ _ _ cs _ pl _ _ {rfl,T,TP,C'.st.bk,r _ _ f2,λy v1 H2 w s2=>?_,λz=>absurd u z})}
 have b:=r.trans s2;let[kh,ekh,y,hkh]:=(I.same b).hn
 have OQ:∃ g,A8 kh (pK X.n X.r X.c X.w kind e)=some g/\RepC H2 (M kind e) g:=by
  let[h2,_]||[g,h2,h3]:=hkh _ e h1 c
  rw[h2]at d;cases d;exact⟨g,h2,h3⟩
 let[g,OQ,rv2]:=OQ;refine BI (b _ _ f1)  rfl rfl {g,QD ekh (b _ _ f2) OQ,?_};refine Nm ((C.st.rp kind e v1 h1 c w).keep b.tk) rv2 (bW (C.same b).st.gd w) ?_;let[kl,ekl,y,GS]:=(I.same b).ls;refine y2 {b _ _ eb,DM,BI (b _ _ f1) (n:=0) rfl rfl (x9 X.S.A X.w X.rows X.nn cs X.outs pl _ _ {rfl,T,TP,(C.same b).st.bk,b _ _ f2,λy=>?_,λz=>absurd u z})};rw[Y];refine BI (b _ _ f1) (n:=0) rfl rfl {.int j0,QD ekl (b _ _ f2) (by rw[show A8 kl [.inl ((AX X.n X.r X.c X.w kind e:Nat):Int),.inl ((e%X.w:Nat):Int)]=_ from GS kind e h1 c,d];rfl),?_};rw[show TK (some j0)=.int (j0:Nat)from rfl];erw[];exact s.trans s2;erw[Aq3_];exact q _<|D.trans s
def z0s{n r c w b y:Nat}(j:b<n+r+c+r+c)(i:y<w):∃ kind k,kind<5/\k<A0 n r c w kind/\AX n r c w kind k=b/\k%w=y:=by
 have key:∀ s t:Nat,s<=b->b<s+t->((b-s)*w+y)/w=b-s/\((b-s)*w+y)%w=y/\(b-s)*w+y<t*w:=λs t h1 h2=>by
  refine{?_,?_,?_};rw[cm,kf (by lia),Ga i];rfl;rw[cm,ke,Ge i]
  have:(b-s+1)*w<=t*w:=og w (by lia);rw[dn]at this;omega
 by_cases h0:b<n;let[g,d,e]:=key 0 n (ut _ _) (by lia);exact x2 0 _ {by decide,e,by simp only[AX];lia,d};by_cases h1:b<n+r;let[g,d,e]:=key n r (bx h0) (h1);exact x2 3 _ {by decide,e,by simp[AX];omega,d};by_cases h2:b<n+r+c;let[g,d,e]:=key _ c (bx h1) (h2);exact x2 4 _ {by decide,e,by simp[AX];omega,d};by_cases h3:b<n+r+c+r;let[g,d,e]:=key _ r (bx h2) (h3);exact x2 1 _ {by decide,e,by simp[AX];omega,d};let[g,d,e]:=key _ c (bx h3) (j);exact x2 2 _ {by decide,e,by simp[AX];omega,d}
def z0t{x:CV}{v:V}{Q:VK}(h:RepC H x v)(q:Q (.bl false) H):MG K [v,.ty "bool"] H Q:=by
 cases x with
 |no=>rw[h];exact K6 (.inl .non) (.ty _)  rfl q
 |nm z k =>
  let[t,rfl,b]:=h;exact K6 (.inl<|.tup b) (.ty _)  rfl q
 |mk i=>rw[h];exact K6 (.inl<|.int _) (.ty _)  rfl q
 |rc m ps =>
  revert h;apply u2;intro t u [rfl,b,y];exact K6 (.inl<|.tup b) (.ty _)  rfl q
 |tx z=>rw[h];exact K6 (.inl<|.str _) (.ty _)  rfl q
example:(z0u,ZF,aL,6):=by
 apply u6;intro X cs tks M sd N [rfl,[T,TP,TL,TS],C,[ks,g,y,A],q];let[z1,z2,z3,z4,z5]:=C.st.sz
 have L:=C.st.ly;let[dl,el]:=L.ob;erw[aL,aL4_];refine y2 {el,BM,x5 _ _ _ _ _ {rfl,TL,L,i0,by lia,?_}};refine GW (λi c l=>Same H l/\∃ y3 y4 y5,c=[some _,some _,some _,y3,y4,y5]) {Same.refl _,x3 _ _ _ rfl} (λi c l hi ⟨s,y3,y4,y5,d⟩=>?_) (λc l ⟨s,y3,y4,y5,d⟩=>?_)
 have B:=C.st.bk.pk.same s;subst d;let[dp,ep]:=B.ob;erw[aL0_,il];refine y2 {ep,MX _ _ _,x6 _ _ _ _ _ i {rfl,TP,B,λb' row eb D vl I=>?_,λz=>by omega}};obtain rfl:i=b':=bh eb
 have n:=B.wd _<|ι D;refine nO I λH2 U J=>?_;erw[aL3_];refine{_,.inl {_,SqL.of J,rfl},i0,by lia,?_};rw[n];refine GW (λj c l=>Same H2 l/\∃ y5,c=[some _,some _,some _,some _,some _,y5]) {Same.refl _,_,rfl} (λj c Y hj ⟨e,y5,d⟩=>?_) (λc Y ⟨e,y5,d⟩=>?_)
 have x:=ζ (show j<row.length by exact n ▸ hj);subst d
 have r:=(s.trans U).trans e;refine u2 ?_<|z0s    hi hj;intro kind k [u,hk,v,w]
 have rv:=(C.rows _ k _ u hk (by rw[v,w,D];exact x)).keep r.tk;erw[aL2_,il];refine CI (SqL.of<|e _ _ J) rfl x {.inr {_,.inl<|r _ _ g},by decide,λp hp=>?_}
 have b:=AI (o:=.tup [V.int i,V.int (j:Int)]) hp
 have O:upd Y p (.tup [V.int (i:Int),V.int (j:Int)]) p=some (.tup [V.int (i:Int),V.int (j:Int)]):=AD;revert b O;intro b O
 have rs:=(A kind k u hk).keep (r.trans b).tk;rw[show pK X.n X.r X.c X.w kind k=[.inl (i:Int),.inl (j:Int)] by show [_,_]=_;rw[v,w]]at rs;refine{_,K8 ((r.trans b) _ _ g) O,Nm (rv.keep b.tk) rs ((C.same<|r.trans b).st.gd.1 row (ι D) _ (ι x)) ?_};refine CI (SqL.of<|(e.trans b) _ _ J) rfl x (z0t (rv.keep b.tk) ?_);exact e.trans b;subst d;erw[];exact(s.trans U).trans e;erw[aL5_];exact q _ s
structure WI(H2:Hp)(cs:yE)(M:Hs)(outs:tD)(b n r c w N:Nat)(gn sd ol hl:Addr)(i:Nat)(H':Hp):Prop where
 g:∃ gs:List Bool,H' gn=some (.lst<|gs.map V.bl)/\i<=gs.length/\gs.length<=cs.length/\(∀ (k:Nat) q,gs[k]? =some q->(outs k||(BO cs outs b i).gone k)=q)/\∀ k:Nat,gs.length<=k->outs k=false
 o:H' ol=some (.lst<|AQ (BO cs outs b i).out)
 h:∃ hs:uD,H' hl=some (.lst<|hs.map V.ref)/\Paired (λx (p:Nat × Int)=>H' x=some (.tup [.int p.1,.int p.2])) hs (BO cs outs b i).held
 s:ShL H' sd n r c w (sh M.b (λj=>outs (j:Nat)||(BO cs outs b i).gone (j:Nat)) M.as) (N+i)
 f:SameBut (λx=>x=gn\/x=sd\/x=ol\/x=hl) H2 H'
def WI.up{s g:Hp}{cs:yE}{M:Hs}{outs:tD}{b n r c w N i:Nat}{gn u ol v:Addr}{gs:List Bool}(W:WI s cs M outs b n r c w N gn u ol v i g)(e:BO cs outs b (i+1)=BO cs outs b i)(x:g gn=some (.lst<|gs.map V.bl))(y:i<gs.length):WI s cs M outs b n r c w N gn u ol v (i+1) g:=by
 let[[j,d,J,l,z,q],o,h,[A,B,D,I],f]:=W
 have:j=gs:=by
  rw[x]at d;exact(r_ λa b h=>V.bl.inj h).mp (HO.lst.inj<|θ d).symm
 subst this;exact{{_,d,y,l,by rw[e];exact z,q},by rw[e];exact o,by rw[e];exact h,{A,B,b_ D,by rw[e];exact I},f}
def WI.same{j l q:Hp}{cs:yE}{M:Hs}{outs:tD}{b n r c w N i:Nat}{gn u ol v:Addr}(W:WI j cs M outs b n r c w N gn u ol v i l)(s:Same l q):WI j cs M outs b n r c w N gn u ol v i q:=by
 let[[z,d,g],o,[A,B,D],[I,J,L,O],f]:=W;exact{{_,s _ _ d,g},s _ _ o,{A,s _ _ B,Paired.mapP D λx p h=>s _ _ h},{I,s _ _ J,L,λkind k T U=>(O _ k T U).keep s.tk},λy o e n=>s _ _<|f _ _ e n}
theorem Nq{α b :Type}{F: α -> b ->Prop}{x: α}{y: b}:∀ {l:List α} {m:List b},Paired F l m->F x y->Paired F (l++[x]) (m++[y])
 |_,_,.nil,h=>.cons h .nil
 |_,_,.cons h t,h'=>.cons h<|Nq t h'
def z0v{cs:yE}{outs:tD}{b i:Nat}(h:outs (i:Nat)=true):BO cs outs b (i+1)=BO cs outs b i:=by
 let e||e:=sJ    
 exact e;rw[e];unfold CW;rw[h]
 rfl
theorem Nv{cs:yE}{outs:tD}:∀ (l:wE) (P:Pass),(∀ x,P.gone x=P.out.any λ(k:Nat)=>x ==(k:Int))->∀ x,(l.foldl (CW cs outs) P).gone x=(l.foldl (CW cs outs) P).out.any λ(k:Nat)=>x ==(k:Int)
 | [],_,h=>h
 |i::l,P,h=>by
  refine Nv l _ λx=>?_;unfold CW;split;exact h x;split;simp only[Hi,mq,List.any_nil,fi,h];exact h x
def z0w{cs:yE}{outs:tD}{b i:Nat}(x:Int):(BO cs outs b i).gone x=(BO cs outs b i).out.any λ(k:Nat)=>x ==(k:Int):=Nv _ _ (λz=>rfl) x
theorem Ny{K:W.Frag}{H:Hp}:∀ {b:uD} {held:List (Nat × Int)},Paired (λx (p:Nat × Int)=>H x=some (.tup [.int p.1,.int p.2])) b held->Paired (Dat K H 1) (b.map V.ref) (held.map λp=>Ko [.int p.1,.int p.2])
 |_,_,.nil=>.nil
 |_,_,.cons h t=>.cons (.tup (SqT.of h) (.cons (.int _) (.cons (.int _) .nil))) (Ny t)
def ToldAt.datX{K:W.Frag}{H:Hp}{t ol b:Addr}{out:wE}{held:List (Nat × Int)}(h:ToldAt H t ol b out held):Dat K H 3 (.ref t) (.tuple [.list (out.map λ(k:Nat)=>v_ k),.list<|held.map λp=>Ko [.int p.1,.int p.2]]):=by
 let[h1,h2,c,h3,h4]:=h
 have e:∀ l:List _,Paired _ _ _:=λl=>by
  have:=KC (K:=K) (H:=H) (n:=1) (l.map λ(k:Nat)=>k);rw[ip,ip]at this;exact this
 exact .tup (SqT.of h1) (.cons (.lst (SqL.of h2) (e _)) (.cons (.lst (SqL.of h3) (Ny h4)) .nil))
example:(z0x,RC,aV,13):=by
  apply NA;intro B hd la rj gn J X cs tks M b N [rfl,T4,C,I,hb,[gs0,d,lg0,hg0,hg1],[ks0,s,lks0,hks0],hN,nsh,nsl,ngr,[Bgn,Bsd,hF],Bst,q]
  have T4':=T4;let[rs,ers,L]:=I.rs
  have lrs:=L.len;let[T,TP,TL,TS]:=T4
  have lcs:=C.st.la.len
  have c990:=C.st.bk.bk.sz
  have lrc:rs.length=cs.length:=lrs.trans lcs.symm;clear lrs
  have need:∀ ch∈cs,ch.nd.Pairwise (· <·):=λch hc=>by
    let[k,hk]:=my.mp hc;exact(C.st.bk.bk.need k ch hk).2.1
  erw[aV,aV0_,aV1_];refine{by decide,λol U=>{by decide,λr u=>?_}}
  have nol:ol≠r:=BG AD u
  have s1:=(AI (o:=.lst []) U).trans (AI (o:=.lst []) u)
  have eol:upd (upd H ol<|.lst []) r (.lst []) ol=some (.lst []):=by rw[AK nol,AD]
  have ehl:upd (upd H ol<|.lst []) r (.lst []) r=some (.lst []):=AD
  have u:H r=none:=by rw[AK nol.symm]at u;exact u
  revert s1 eol ehl;generalize upd (upd H ol<|.lst []) r (.lst [])=H2;intro s1 eol ehl;erw[aV11_]
  have lrs':(rs.map V.ref).length=cs.length:=by rw[η];exact lrc
  refine{_,.inl {_,SqL.of<|s1 _ _ ers,rfl},i0,by omega,?_};rw[lrs']
  have W0:WI H2 cs M X.outs b X.n X.r X.c X.w N gn J ol r 0 H2:=by
    refine{{gs0,s1 _ _ d,aw _,lg0,λk q e=>?_,hg1},eol,{[],ehl,.nil},{ks0,s1 _ _ s,lks0,λkind k h1 h2=>?_},λ_ _ e _=>e}
    ·rw[X5];simp only[fi];exact hg0 k q e
    ·rw[X5];simp only[fi];exact(hks0 kind k h1 h2).keep s1.tk
  have rwk:∀ {w:Hp} {i:Nat},WI H2 cs M X.outs b X.n X.r X.c X.w N gn J ol r i w->B3 H w/\w rj=some (.lst<|rs.map V.ref)/\∀ x (xs:tF),H x=some (.lst xs)->¬ B x->w x=some (.lst xs):=λW=>by
    have far:∀ {y:Addr} {o:HO},H y=some o->y≠gn->y≠J->_:=λ{y o} e z1 z2=>W.f _ _ (s1 _ _ e) λz=>by
      let z||z||z||z:=z
      ·exact z1 z
      ·exact z2 z
      ·rw[z,U]at e;cases e
      ·rw[z,u]at e;cases e
    exact{λy ys e=>far e (AZ e d (by intro z;cases z)) (AZ e s (by intro z;cases z)),far ers ngr.symm (AZ ers s (by intro z;cases z)),λy xs e nb=>far e (λz=>nb<|z ▸ Bgn) (AZ e s (by intro z;cases z))}
  have stp : ∀ {D:Ends} {y10:Option V} {w:Hp} {i:Nat} {gs:List Bool},i<cs.length->WI H2 cs M X.outs b X.n X.r X.c X.w N gn J ol r i w->w gn=some (.lst<|gs.map V.bl)->i<gs.length->(∀ H'' y10',WI H2 cs M X.outs b X.n X.r X.c X.w N gn J ol r (i+1) H''->D.nx [some (.ref X.S.lp),some<|.ref X.S.A.gp,some<|.ref X.S.st,some<|.ref rj,some<|.ref gn,some<|.ref J,some<|.int b,some<|.ref ol,some<|.ref r,some<|.int (i:Nat),y10',none,none] H'')->aV10 K a (λ_=>E) (λ_=>E) D [some (.ref X.S.lp),some<|.ref X.S.A.gp,some<|.ref X.S.st,some<|.ref rj,some<|.ref gn,some<|.ref J,some<|.int b,some<|.ref ol,some<|.ref r,some<|.int (i:Nat),y10,none,none] w:=λ{D y10 w i gs} hi W eg A1 hD=>by
    let[g,eg',li,lgs,hg,hgo]:=W.g
    have:g=gs:=by
      rw[eg]at eg'
      have:=HO.lst.inj<|θ eg';exact(r_ λa b h=>V.bl.inj h).mp this.symm
    subst this;let[tk,er9,nlk]:=rwk W
    have ech:=ζ hi
    have et:=ζ (lrc ▸ hi:i<rs.length);refine u6 ?_<|U3 C.st.la L need _ _ _ ech et;intro pl nl v x kind kk [f1,f2,f3,f4,f5,nB,h1,hkm,eb1,eb2,nda,eac]
    have egi:=ζ A1
    have hgi:X.outs (i:Nat)=g[i]:=by have:=hg i _ egi;rw[N3 (ο _),fi]at this;exact this
    have ixr:∀ {Q':VK},Q' (.ref<|rs[i]'(lrc ▸ hi)) w->BK K (.ref rj) (.int (i:Nat)) w Q':=λh=>CI (n:=i) (SqL.of er9) rfl (by rw[ρ,et];rfl) h;erw[aV10_];refine CI (n:=i) (v:=.bl g[i]) (SqL.of eg) rfl (by rw[ρ,egi];rfl) ?_;erw[];by_cases hq:g[i]=true
    ·exact CZ (by rw[hq];simp) (hD _ _ (W.up (z0v (by rw[hgi];exact hq)) eg A1))
    · have hq:g[i]=false:=by simpa using hq
      refine DN hq<|ixr<|BI (tk _ _ f1) (n:=0) rfl rfl (BI (tk _ _ f2) (n:=0) rfl rfl ?_);erw[];by_cases hbk:AX X.n X.r X.c X.w kind kk=b
      · refine DN (congrArg _ hbk) ?_
        erw[aV4_];let[nd1,_,nd3]:=C.st.bk.bk.need i _ ech
        have LY:=nlk _ _ f5 nB;refine ixr (BI (tk _ _ f1) (n:=2) rfl rfl (.inl {{_,SqL.of LY},zea (λv=>match v with|.int y=> !(X.outs y||(BO cs X.outs b i).gone y)|_=>false) (BW _ (by rw[η];exact oA nd3 rfl)) (SqL.of LY) (λv hv QB hqb=>?_) λlk hlk=>?_}))
        · let[y,hy,rfl]:=az.mp hv
          let[y0,yi]:=nd1 y hy
          have hyl:y.toNat<g.length:=by omega
          have ey:=ζ hyl
          have hgy:=hg _ _ ey;rw[show((y.toNat:Nat):Int)=y by exact di y0]at hgy;erw[C3];refine CI (n:=y.toNat) (v:=.bl g[y.toNat]) (SqL.of eg) ((di y0).symm) (by rw[ρ,ey];rfl) ?_;erw[];rw[<-hgy];exact hqb
        have efl:((cs[i].nd.map V.int).filter λv=>match v with|.int y=> !(X.outs y||(BO cs X.outs b i).gone y)|_=>false)=(cs[i].nd.filter λy=> !(X.outs y||(BO cs X.outs b i).gone y)).map V.int:=by
          rw[Ha];rfl
        rw[efl];refine nO hlk λH3 s3 e3=>?_;erw[aV9_];refine{by decide,λpe hpe=>?_}
        have s4:=AI (o:=.lst []) hpe
        have e4:upd H3 pe (.lst []) pe=some (.lst []):=AD;revert s4 e4;generalize upd H3 pe (.lst [])=H4;intro s4 e4
        have s34:=s3.trans s4
        have W4:=W.same s34
        have eg4:=s34 _ _ eg
        have e34:=s4 _ _ e3;refine qM (n:=1) (by decide) (SqL.of e34) (KC _) (SqL.of e4) ?_;erw[]
        have pst:BO cs X.outs b (i+1)=CW cs X.outs (BO cs X.outs b i) i:=zjq ech (by rw[eb1];exact hbk)
        have ho:X.outs (i:Nat)=false:=by rw[hgi];exact hq
        have hps:CW cs X.outs (BO cs X.outs b i) i=(match IG cs[i].nd λx=>X.outs x||(BO cs X.outs b i).gone x with
          |none=>{(BO cs X.outs b i).out++[i],(BO cs X.outs b i).held,λx=>(BO cs X.outs b i).gone x||x ==(i:Int)}
          |some l=>{(BO cs X.outs b i).out,(BO cs X.outs b i).held++[(i,l)],(BO cs X.outs b i).gone}):=by
          unfold CW;rw[ho,N3<|ο _,ech]
          rfl
        cases lP:cs[i].nd.filter λy=> !(X.outs y||(BO cs X.outs b i).gone y)with
        | nil =>
          have hlack:IG cs[i].nd (λx=>X.outs x||(BO cs X.outs b i).gone x)=none:=by
            unfold IG;rw[<-Ds,lP]
            rfl
          rw[hlack]at hps;refine DN (by simp) ?_;erw[aV5_];refine x4 gn (g.map V.bl) i i {rfl,rfl,eg4,by rw[η];unfold HC;rw[if_pos (by exact i0),if_pos (by exact ck.mpr A1)];rfl,?_}
          have neo:gn≠ol/\gn≠r:={λz=>(by rw[z,U]at d;cases d),λz=>(by rw[z,u]at d;cases d)}
          have nsd:gn≠J:=AZ d s (by intro z;cases z)
          have nso:J≠ol/\J≠r:={λz=>(by rw[z,U]at s;cases s),λz=>(by rw[z,u]at s;cases s)}
          have e5:upd H4 gn (.lst<|(g.map V.bl).set i (.bl true)) gn=some (.lst<|(g.set i true).map V.bl):=by rw[AD,Kf]
          have g5:∀ {y:Addr} {o:HO},H4 y=some o->y≠gn->upd H4 gn (.lst<|(g.map V.bl).set i (.bl true)) y=some o:=λe n=>by rw[AK n];exact e
          revert e5 g5;generalize upd H4 gn (.lst<|(g.map V.bl).set i (.bl true))=H5;intro e5 g5;let[_,o4,[hs,eh1,eh2],[ks,j3,j4,q5],f6]:=W4
          have o5:=g5 o4 neo.1.symm
          have lo:(BO cs X.outs b i).out.length<=i:=by
            have h1:=TC (cs:=cs) (outs:=X.outs) ((μ i).filter λ(k:Nat)=>(cs[k]?).any λc=>c.blk==b) {[],[],λ_=>false}
            have h2:=dg (λ(k:Nat)=>(cs[k]?).any λc=>c.blk==b) (μ i);rw[cz]at h2;unfold BO;simp only[kd]at h1;omega
          erw[aV6_];refine{.inl {rfl,_,SqL.of o5},{_,o5,BW _ (by unfold AQ;rw[η];omega),?_}}
          have e6:upd H5 ol (.lst<|AQ (BO cs X.outs b i).out++[.int (i:Nat)]) ol=some (.lst<|AQ<|(BO cs X.outs b i).out++[i]):=by rw[AD];unfold AQ;rw[au];rfl
          have g6:∀ {y:Addr} {o:HO},H5 y=some o->y≠ol->upd H5 ol (.lst<|AQ (BO cs X.outs b i).out++[.int (i:Nat)]) y=some o:=λe n=>by rw[AK n];exact e
          revert e6 g6;generalize upd H5 ol (.lst<|AQ (BO cs X.outs b i).out++[.int (i:Nat)])=H6;intro e6 g6
          have O:B3 H4 H6:=λy ys e=>g6 (g5 e (AZ e eg4 (by intro z;cases z))) (AZ e o4 (by intro z;cases z))
          have tk6:B3 H H6:=λy ys e=>O _ _<|s34 _ _<|tk _ _ e
          have erw6:H6 rj=some (.lst<|rs.map V.ref):=g6 (g5 (s34 _ _ er9) ngr.symm) λz=>(by rw[<-z,ers]at U;cases U)
          have esd6:=g6 (g5 j3 nsd.symm) nso.1;erw[aV7_]
          have ixr6:∀ {Q':VK},Q' (.ref<|rs[i]'(lrc ▸ hi)) H6->BK K (.ref rj) (.int (i:Nat)) H6 Q':=λh=>CI (n:=i) (SqL.of erw6) rfl (by rw[ρ,et];rfl) h;refine ixr6 (BI (tk6 _ _ f1) (n:=1) rfl rfl (ixr6 (BI (tk6 _ _ f1) (n:=0) rfl rfl {_,DPut.t (k:=pK X.n X.r X.c X.w kind kk) esd6 (tk6 _ _ f2) (χ (show ks.length<100000 by omega) (by decide)),hD _ _ ?_})))
          have Y:BO cs X.outs b (i+1)={(BO cs X.outs b i).out++[i],(BO cs X.outs b i).held,λx=>(BO cs X.outs b i).gone x||x ==(i:Int)}:=pst.trans hps
          have g7:∀ {y:Addr} {o:HO},H6 y=some o->y≠J->upd H6 J (.dT<|BL ks (pK X.n X.r X.c X.w kind kk) v) y=some o:=λe n=>by rw[AK n];exact e
          have tk7:B3 H6 (upd H6 J<|.dT<|BL ks (pK X.n X.r X.c X.w kind kk) v):=λy ys e=>g7 e (AZ e esd6 (by intro z;cases z))
          have esh:sh M.b (λj=>X.outs (j:Nat) || (BO cs X.outs b<|i+1).gone (j:Nat)) M.as=(sh M.b (λj=>X.outs (j:Nat) || (BO cs X.outs b i).gone (j:Nat)) M.as).put kind kk x:=by
            refine sL (x:=⟨kind,kk,x,nda⟩) eac (λj=>?_) ?_ λj y hij ey hy hk=>?_
            · rw[Y]
              simp only[um]
              congr 2
              by_cases z:j=i
              ·subst z;simp
              ·rw[beq_eq_false_iff_ne.mpr z,beq_eq_false_iff_ne.mpr (by omega)]
            ·rw[ho,N3<|ο _];rfl
            · rw[N3 (by exact ig hij),fi]at hy
              have hj:j<M.as.length:=by
                have:=(ε.mp ey).1;rw[bz]at this;exact this
              have ecj:=ζ (show j<cs.length by exact lcs ▸ hj)
              have etj:=ζ (show j<rs.length by exact(lrc.trans lcs) ▸ hj);refine u6 ?_<|U3 C.st.la L need _ _ _ ecj etj;intro _ _ _ x' kind' kk' [_,_,_,_,_,_,_,_,eb1',eb2',nd'',eac'];rw[ey]at eac';cases eac';let[z1,z2]:=hk;simp only at z1 z2;subst z1 z2
              have:=sE C.cut C.st.bk.bk.chn j i j _ _ (ο _) hij ech ecj (by rw[eb1,eb1']) (by rw[eb2,eb2']) hy;rw[ho]at this;cases this
          refine{{g.set i true,g7 (g6 e5 neo.1) nsd,by rw[f_];exact A1,by rw[f_];exact lgs,λk q e=>?_,λk hk=>hgo k (by rw[f_]at hk;exact hk)},by rw[Y];exact g7 e6 nso.1.symm,{hs,g7 (g6 (g5 eh1 neo.2.symm) nol.symm) nso.2.symm,by rw[Y];exact Paired.mapP eh2 λx p h=>tk7 _ _<|O _ _ h},{_,AD,by have:=GU ks (pK X.n X.r X.c X.w kind kk) v;omega,λkind' k' a1 a2=>?_},λy o e n=>?_}
          · rw[Y]
            by_cases z:k=i
            · subst z
              rw[fb A1]at e;cases e;simp
            · rw[fz (eh z)]at e
              rw[<-hg k q e];simp only;rw[show((k:Int) ==(i:Int))=false from beq_eq_false_iff_ne.mpr (by omega),fi]
          · rw[esh,FT]
            unfold Md.put;by_cases z:kind'=kind/\k'=kk
            · rw[if_pos z,if_pos (by rw[z.1,z.2])]
              exact f3.keep λy ys e=>tk7 _ _<|tk6 _ _ e
            · rw[if_neg z,if_neg λz'=>z<|cV h1 a1 hkm a2 z']
              exact(q5 kind' k' a1 a2).keep λy ys e=>tk7 _ _<|O _ _ e
          ·exact g7 (g6 (g5 (f6 _ _ e n) λz=>n<|.inl z) λz=>n<|.inr<|.inr<|.inl z) λz=>n<|.inr<|.inl z
        | cons l rest =>
          have hlack:IG cs[i].nd (λx=>X.outs x||(BO cs X.outs b i).gone x)=some l:=by
            unfold IG;rw[<-Ds,lP]
            rfl
          rw[hlack]at hps;rw[lP]at e34;refine CZ (by simp) ?_;erw[aV8_];let[hs,eh1,eh2]:=W4.h;refine{.inl {rfl,_,SqL.of eh1},CI (n:=0) (SqL.of e34) rfl rfl {by decide,λtt htt=>?_}}
          have s5:=AI (o:=.tup [.int (i:Nat),.int l]) htt
          have e5:upd H4 tt (.tup [.int (i:Nat),.int l]) tt=some (.tup [.int (i:Nat),.int l]):=AD;revert s5 e5;generalize upd H4 tt (.tup [.int (i:Nat),.int l])=H5;intro s5 e5
          have lh:hs.length<=i:=by
            have h1:=TC (cs:=cs) (outs:=X.outs) ((μ i).filter λ(k:Nat)=>(cs[k]?).any λc=>c.blk==b) {[],[],λ_=>false}
            have h2:=dg (λ(k:Nat)=>(cs[k]?).any λc=>c.blk==b) (μ i);rw[cz]at h2
            have h3:=eh2.length;unfold BO at h3;simp only[kd]at h1;omega
          refine{_,s5 _ _ eh1,BW _ (by rw[η];omega),hD _ _ ?_}
          have Y:BO cs X.outs b (i+1)={(BO cs X.outs b i).out,(BO cs X.outs b i).held++[(i,l)],(BO cs X.outs b i).gone}:=pst.trans hps
          have ehl2:=s5 _ _ eh1
          have far:∀ {y:Addr} {o:HO},H5 y=some o->y≠r->upd H5 r (.lst<|hs.map V.ref++[.ref tt]) y=some o:=λe n=>by rw[AK n];exact e
          have O:B3 H5 (upd H5 r<|.lst<|hs.map V.ref++[.ref tt]):=λy ys e=>far e (AZ e ehl2 (by intro z;cases z));let[[gs5,eg5,_,_,hg5,hgo5],o5,_,[ks,j3,j4,q5],f6]:=W4.same s5
          have:gs5=g:=by
            rw[s5 _ _ eg4]at eg5
            have:=HO.lst.inj<|θ eg5;exact(r_ λa b h=>V.bl.inj h).mp this.symm
          subst this;refine{{gs5,far eg5 λz=>(by rw[z,u]at d;cases d),A1,lgs,by rw[Y];exact hg5,hgo5},by rw[Y];exact far o5 nol,{hs++[tt],by rw[AD,au];rfl,by rw[Y];exact Nq (Paired.mapP eh2 λx p h=>O _ _<|s5 _ _ h) (O _ _ e5)},{ks,far j3 (AZ j3 ehl2 (by intro z;cases z)),b_ j4,λkind k a1 a2=>by rw[Y];exact(q5 kind k a1 a2).keep O},λy o e n=>by rw[AK λz=>n<|.inr<|.inr<|.inr z];exact f6 _ _ e n}
      ·exact CZ (λz=>hbk<|bh z) (hD _ _ (W.up (zjp ech (by rw[eb1];exact hbk)) eg A1))
  refine GW (λi σ w=>WI H2 cs M X.outs b X.n X.r X.c X.w N gn J ol r i w/\∃ y9 y10,σ=[some (.ref X.S.lp),some<|.ref X.S.A.gp,some<|.ref X.S.st,some<|.ref rj,some<|.ref gn,some<|.ref J,some<|.int b,some<|.ref ol,some<|.ref r,y9,y10,none,none]) {W0,x2 _ _ rfl} (λi σ w hi hzz=>?_) (λσ w hzz=>?_)
  · let[W,y9,y10,es]:=hzz
    subst es;let[gs,eg,li,lgs,hg,hgo]:=W.g;erw[aV3_,il];refine{_,.inl {_,SqL.of eg,rfl},?_};rw[η];by_cases hin:i=gs.length
    · refine DN (congrArg _ hin) ?_
      erw[aV2_];refine{.inl {rfl,_,SqL.of eg},{_,eg,BW _ (by rw[η];omega),?_}}
      have neo:gn≠ol/\gn≠r:={λz=>(by rw[z,U]at d;cases d),λz=>(by rw[z,u]at d;cases d)}
      have nsd:gn≠J:=AZ d s (by intro z;cases z)
      have W':WI H2 cs M X.outs b X.n X.r X.c X.w N gn J ol r i (upd w gn<|.lst<|gs.map V.bl++[.bl false]):=by
        have far:∀ {y:Addr} {o:HO},w y=some o->y≠gn->upd w gn (.lst<|gs.map V.bl++[.bl false]) y=some o:=λe n=>by rw[AK n];exact e
        have O:B3 w (upd w gn<|.lst<|gs.map V.bl++[.bl false]):=λy ys e=>far e (AZ e eg (by intro z;cases z));let[_,o,[hs,e1,e2],[ks,e3,e4,e5],f]:=W;refine{{gs++[false],by rw[AD,au];rfl,by rw[ψ];exact b_<|ay hin,by rw[ψ];simp;omega,λk q e=>?_,λk hk=>hgo k (by rw[ψ]at hk;exact ig hk)},far o neo.1.symm,{hs,far e1 neo.2.symm,Paired.mapP e2 λx p h=>O _ _ h},{ks,far e3 nsd.symm,e4,λkind k a1 a2=>(e5 kind k a1 a2).keep O},λy o e n=>by rw[AK λz=>n<|.inl z];exact f _ _ e n};by_cases hk:k<gs.length
        · rw[ae hk]at e
          exact hg k q e
        · have hk2:=(ε.mp e).1
          rw[ψ]at hk2
          have:k=gs.length:=by simp at hk2;exact ka (cy hk2) (bx hk)
          subst this;rw[ba (ο _),kj]at e;cases e;rw[hgo _ (ο _),N3 (by exact li)]
          rfl
      exact stp (gs:=gs++[false]) hi W' (by rw[AD,au];rfl) (by simp;exact sv<|ay hin) λH'' y10' W''=>{W'',x2 _ _ rfl}
    ·exact CZ (λz=>hin<|bh z) (stp hi W eg (g_ li hin) λH'' y10' W''=>{W'',x2 _ _ rfl})
  · let[W,y9,y10,es]:=hzz
    subst es;erw[aV12_]
    have sbf:SameBut (λx=>x=gn\/x=J) H w:=λy o e n=>W.f _ _ (s1 _ _ e) λz=>by
      let z||z||z||z:=z
      ·exact n<|.inl z
      ·exact n<|.inr z
      ·rw[z,U]at e;cases e
      ·rw[z,u]at e;cases e
    have lse:∀ x,x=gn\/x=J->EW (H x):=λx hx=>by
      let rfl||rfl:=hx
      ·rw[d];exact{λ_ z=>(by cases z),λ_ _ _ z=>by cases z}
      ·rw[s];exact{λ_ z=>(by cases z),λ_ _ _ z=>by cases z}
    have C5:=C.sbG sbf lse λx hx=>by
      let rfl||rfl:=hx
      ·exact{hF.1,AZ d C.st.tk (by intro z;cases z)}
      ·exact{hF.2,AZ s C.st.tk (by intro z;cases z)}
    let[dp,ep]:=C5.st.bk.pk.ob;let[dx,eo]:=C5.st.ob;refine y2 {ep,rfl,y5 {rfl,TP,C5.st.bk.pk,?_}};erw[aV13_]
    have er:=ζ (show b<X.rows.length by have:=C.st.sz.2.2.2.2;exact iz hb this.symm);refine y2 {eo,rfl,x6 X cs tks M b _ {rfl,T4',C5.st,er,λt ol' hl' H6 _ _ TA I' sb=>?_}}
    have C6:=C5.write er I' sb;erw[aV15_]
    have fol:¬ X.S.A.F ol/\¬ X.S.A.F r:={C.st.bk.off U,C.st.bk.off u}
    have tk6:B3 w H6:=λy ys e=>sb _ _ e λz=>z.elim (λz=>(C5.st.bk.loose z).1 _ e) λz=>by rw[z,ep]at e;cases e
    let[[gs,eg,li,lgs,hg,hgo],o,[hs,eh1,eh2],[ks,e3,e4,e5],f]:=W
    have g6:∀ {y:Addr} {o:HO},w y=some o->¬ X.S.A.F y->(∀ C dx fs,o≠.ins C dx fs)->H6 y=some o:=λ{y o} e n1 n2=>sb _ _ e λz=>z.elim n1 λz=>by rw[z,ep]at e;exact n2 _ _ _ (θ e).symm
    refine K6 (.inl<|.tup TA.1) (.ty _) (b:=true) rfl ?_;rw[rG];refine CZ (by simp) {by decide,λp hp=>?_}
    have s7:=AI (o:=.tup [.ref ol,.ref r]) hp
    have e7:upd H6 p (.tup [.ref ol,.ref r]) p=some (.tup [.ref ol,.ref r]):=AD;revert s7 e7;generalize upd H6 p (.tup [.ref ol,.ref r])=H7;intro s7 e7
    have TB:ToldAt H7 p ol r (BO cs X.outs b cs.length).out (BO cs X.outs b cs.length).held:={e7,s7 _ _ (g6 o fol.1 λ_ _ _ z=>by cases z),hs,s7 _ _ (g6 eh1 fol.2 λ_ _ _ z=>by cases z),Paired.mapP eh2 λx p h=>s7 _ _<|tk6 _ _ h}
    rw[sI]at TB;refine NP (n:=3) (by decide) (TA.same s7).datX TB.datX ?_;simp only[XC,rE]
    have C7:=C6.same s7;let[dp7,ep7]:=C7.st.bk.pk.ob;refine y2 {ep7,rfl,y5 {rfl,TP,C7.st.bk.pk,?_}};erw[];refine CZ (by simp[SX.wr]) ?_;erw[aV16_]
    have eo:∀ x:Int,F5 cs X.outs b x=(X.outs x||(BO cs X.outs b cs.length).gone x):=λx=>by
      unfold F5;rw[z0w,sI]
    have S7:ShL H7 J X.n X.r X.c X.w (sh M.b (λj=>F5 cs X.outs b (j:Nat)) M.as) (N+990):=by
      simp only[eo];exact{ks,s7 _ _ (g6 e3 hF.2 λ_ _ _ z=>by cases z),by omega,λkind k a1 a2=>(e5 kind k a1 a2).keep λy ys e=>s7 _ _<|tk6 _ _ e}
    refine x6 (X.wr cs b (X.rows[b]'(by have:=C.st.sz.2.2.2.2;exact iz hb this.symm))) cs tks M J (N+990) {rfl,T4',C7,S7,λH8 s8=>?_}
    have eg8:=s8 _ _ (s7 _ _ (g6 eg hF.1 λ_ _ _ z=>by cases z));let[ks7,z1,z2,z3]:=S7;refine q _ _ _ H8 (C7.same s8) {gs,eg8,lgs,λk v e=>by rw[eo];exact hg k v e,λk hk=>by rw[eo,hgo k hk,N3 (by omega)];rfl} {ks7,s8 _ _ z1,z2,λkind k a1 a2=>(z3 kind k a1 a2).keep s8.tk} λy o e n=>s8 _ _<|s7 _ _<|sb _ _ (sbf _ _ e λz=>n<|.inr<|.inr z) λz=>n<|z.imp id .inl
def z0y:∀ (b:Fin 15) (j:Fin 4) (c:Fin 15) (k:Fin 4),OK b j=OK c k->b=c/\j=k:=by decide +kernel
structure Nz(H:Hp)(d:Addr)(rows:wC)(w b j:Nat)(kvs:xA):Prop where
 e:H d=some (.dT kvs)
 l:kvs.length<=b*w+j
 nd:(kvs.map (·.1)).Nodup
 k:∀ p∈kvs,∃ x y:Nat,x<15/\y<4/\p.1=[.inl (x:Int),.inl (y:Int)]
 n:∀ x y:Nat,A8 kvs [.inl (x:Int),.inl (y:Int)]≠none->x<b\/x=b/\y<j
 v:∀ x y:Nat,(x<b\/x=b/\y<j)->y<w->A8 kvs [.inl (x:Int),.inl (y:Int)]=MV ((rows[x]?).bind λq=>q[y]?)
example:(z0z,ZG,yL,6):=by
 apply u9;intro ly gp cl n r c w rows m [rfl,TL,TP,L,P,rl,r30,w6,q];let[dl,el]:=L.ob;intro d hd
 have N:=AI (o:=.dT []) hd
 have M:upd H d (.dT []) d=some (.dT []):=AD;revert N M;intro N M;erw[yL5_];refine x2 _ _ {N _ _ el,BM (by decide +kernel),x5 ly n r c w {rfl,TL,L.same N,by lia,by lia,?_}};rw[show((n:Int)+r+c+r+c).toNat=rows.length by lia];refine GW (λi D B=>(Same H B/\∃ kvs,Nz B d rows w i 0 kvs)/\∃ y3 y4 y5,D=[some (.ref ly),some<|.ref gp,some<|.ref d,y3,y4,y5]) {{N,[],M,aw _,.nil,λp l=>(by cases l),λx y h=>absurd rfl h,λx y h=>by lia},x3 _ _ _ rfl} (λi D B hi {⟨s,kvs,T⟩,y3,y4,y5,I}=>?_) (λD B {⟨s,kvs,T⟩,y3,y4,y5,I}=>?_)
 have P':=P.same s;subst I;let[dp,ep]:=P'.ob;erw[yL1_,il];refine x2 _ _ {ep,MX _ _ _,x6 gp cl w rows m i {rfl,TP,P',λb' row eb er vl J=>?_,λz=>by lia}};obtain rfl:i=b':=by lia
 have rw1:=P'.wd row<|ι er
 have s2:=AI (o:=.lst row) J
 have e2:upd B vl (.lst row) vl=some (.lst row):=AD;revert s2 e2;intro s2 e2;erw[yL4_];refine{row.length,.inl {_,SqL.of e2,rfl},by lia,by lia,?_};refine GW (λj D B=>(Same H B/\B vl=some (.lst row)/\∃ kvs,Nz B d rows w i j kvs)/\∃ y5,D=[some (.ref ly),some<|.ref gp,some<|.ref d,some<|.int i,some<|.ref vl,y5]) {{s.trans s2,e2,kvs,s2 _ _ T.e,T.l,T.nd,T.k,T.n,T.v},_,rfl} (λj D H3 hj {⟨s3,O,A,g⟩,y5,I}=>?_) (λD H3 {⟨s3,O,A,g⟩,y5,I}=>?_);subst I
 have U:=ζ (show j<row.length by lia)
 have l3:=g.l
 have en:A8 A [.inl (i:Int),.inl (j:Int)]=none:=by
  cases e:A8 A [.inl (i:Int),.inl (j:Int)]with
  |none=>rfl
  |some v=>have:=g.n i j (by rw[e];simp);lia
 erw[yL3_,il];refine CI (SqL.of O) rfl U ?_;generalize row[j]'(by lia)=v at U;by_cases c:v=.non
 ·subst c;refine CZ (by simp) ?_;refine{s3,O,A,g.e,by lia,g.nd,g.k,λx y h=>by have:=g.n x y h;lia,λx y hxy Y=>?_};by_cases z:x=i/\y=j
  ·let[rfl,rfl]:=z;rw[en,er]
   show none=MV (row[y]?);rw[U];rfl
  ·exact g.v x y (by lia) Y
 ·refine DN (by simpa using c) ?_;erw[yL2_];refine CI (SqL.of O) rfl U {by decide,λp l=> ?_}
  have sp:=AI (o:=.tup [V.int (i:Int),V.int (j:Int)]) l
  have l4:i*w<=15*4:=dq (by lia) w6;refine{_,DPut.t (k:=[.inl (i:Int),.inl (j:Int)]) (sp _ _ g.e) AD (BW _ (by lia)),λb o e=>?_,?_,_,AD,?_,oN _ g.nd en,λp l=>?_,λx y h=>?_,λx y hxy Y=>?_}
  ·rw[AK (BG e hd)];exact sp _ _<|s3 _ _ e
  ·rw[AK (λz=>by rw[z,T.e]at J;cases J)];exact sp _ _ O
  ·exact υ (GU ..) (by lia)
  ·rw[VU _ en]at l;let l||l:=bg.mp l
   ·exact g.k p l
   ·rw[τ.mp l];exact x2 i j {by lia,by lia,rfl}
  ·rw[FT]at h;by_cases z:x=i/\y=j
   ·lia
   ·rw[if_neg λe=>z (by
     simp only[uw,Af,and_true]at e
     lia)]at h
    have:=g.n x y h;lia
  ·rw[FT];by_cases z:x=i/\y=j
   ·let[rfl,rfl]:=z;rw[if_pos rfl,er]
    show some v=MV (row[y]?);rw[U];unfold MV;rw[if_neg (by simpa using c)]
   ·rw[if_neg λe=>z (by
     simp only[uw,Af,and_true]at e
     lia)]
    exact g.v x y (by lia) Y
 ·subst I;erw[];exact{s3,A,g.e,by have:=g.l;rw[dn];lia,g.nd,g.k,λx y h=>by have:=g.n x y h;lia,λx y h Y=>g.v x y (by lia) Y}
 ·subst I;erw[yL6_];refine q d kvs B hd s T.e (by have:=T.l;have:rows.length*w<=15*4:=dq r30 w6;lia) (λP W=>?_) λb k hb hk=>T.v b k (.inl hb) hk;rw[wc,ip,xh]
  have nd:=T.nd;rw[wc,xh]at nd;refine nd.imp_of_mem λ{p p'} l hp' ne z=>ne ?_;refine u2 ?_<|T.k p l;intro x y [x1,y1,e];refine u2 ?_<|T.k p' hp';intro x' y' [x2,y2,e']
  have M:∀ x y:Nat,(jf<|D0 P W).hash [.inl (x:Int),.inl (y:Int)]=OK x y:=λu u=>rfl
  have z:(jf<|D0 P W).hash p.1=(jf<|D0 P W).hash p'.1:=z;rw[e,e',M,M]at z;let[z1,z2]:=z0y ⟨x,x1⟩ ⟨y,y1⟩ ⟨x',x2⟩ ⟨y',y2⟩ z;cases z1;cases z2;rw[e,e']
section
variable{X:SX}{cs:yE}{tks:vC}{M:Hs}
def C6.nx(I:C6 a H X cs tks M){b:SX}{d:Hp}(g:b.S=X.S)(i:b.n=X.n/\b.r=X.r/\b.c=X.c/\b.w=X.w)(sb:SameBut (λx=>X.S.A.F x\/x=X.S.tk\/x=X.S.A.gp) H d):Nx H X d b:=by
 let[y,j]:=I.st.bk.pk.ob;refine{by rw[g],i,λl o e no c=>{sb _ _ e λz=>?_,by show ¬ (b.S.A.F l\/l=b.S.tk);rw[g];exact c}};let z||z||z:=z
 exact c<|.inl z;exact c<|.inr z;exact no _ _ _<|θ<|e.symm.trans<|z ▸ j
def Nx.refl{X:SX}:Nx H X H X:={rfl,⟨rfl,rfl,rfl,rfl⟩,λl o e z n=>⟨e,n⟩}
def Nx.of{X:SX}{b:Hp}(s:Same H b):Nx H X b X:={rfl,⟨rfl,rfl,rfl,rfl⟩,λl o e z n=>{s _ _ e,n}}
def Nx.trans{X b c:SX}{d g:Hp}(h:Nx H X d b)(h':Nx d b g c):Nx H X g c:={h'.lp.trans h.lp,{h'.sz.1.trans h.sz.1,h'.sz.2.1.trans h.sz.2.1,h'.sz.2.2.1.trans h.sz.2.2.1,h'.sz.2.2.2.trans h.sz.2.2.2},λl o e no n=>h'.o l o (h.o l o e no n).1 no (h.o l o e no n).2}
end
example:(z00,ZH,bK,8):=by
 apply u5;intro X cs B M x [rfl,tv,T4,I,q]
 have J:=T4;let[T,TP,TL,TS]:=T4;erw[bK,bK1_];by_cases c:x%3=0;refine DN c ?_
 have Fc:X.S.A.F X.S.A.cl:=.inr<|.inr<|.inr<|.inr<|.inr rfl;let[v,Y]:=I.st.bk.pk.ob;refine U8 X.S.lp X.S.A.gp X.S.A.cl X.n X.r X.c X.w X.rows X.nn _ {rfl,I.gnd tv J,λX' H2 b1 b2 b3 b4 b5 b6 b7 off ht C' sb=>q X' _ H2 C' {b1,⟨b4,b5,b6,b7⟩,λy o e no nG=>?_} b2}
 have ycl:y≠X.S.A.cl:=λz=>nG<|.inl<|z ▸ Fc;exact{sb _ _ e λz=>z.elim (λz=>no _ _ _<|θ<|e.symm.trans<|z ▸ Y) ycl,λz=>z.elim (λz=>(off y _ e).elim ycl λw=>w z) λz=>by rw[z,ht]at e;cases e};refine CZ c ?_
 have fin:∀ (b:SX) (L:Hp) (y4 y5:Option V),C6 a L b cs B M->b.S=X.S->Nx H X L b->AF (bK7 K a (λv=>E) λv=>E) (AF (bK8 K a (λv=>E) λv=>E) (AF (bK10 K a (λv=>E) λv=>E) (bK11 K a (λv=>E) λv=>E))) (AW Q) [some (.ref X.S.lp),some<|.ref X.S.A.gp,some<|.ref X.S.st,some<|.int x,y4,y5,none,none] L:=λb L y4 y5 r s nx=>by
  let[dp,Y]:=r.st.bk.pk.ob;rw[s]at Y
  have P1:=r.st.bk.pk;rw[s]at P1;erw[bK7_];refine x2 _ _ {Y,rfl,x5 _ _ _ _ _ {rfl,TP,P1,?_}};erw[bK8_]
  have G:=r.gnd tv J;rw[s]at G;refine cS G λg H2 b1 b2 b3 b4 b5 b6 b7 off ht C2 s2=>?_;erw[bK10_];refine x2 _ _ {s2 _ _ Y,rfl,x5 _ _ _ _ _ {rfl,TP,P1.same s2,?_}};erw[bK11_];refine q g _ H2 C2 (nx.trans {by rw[b1,s],⟨b4,b5,b6,b7⟩,λy o e no nG=>{s2 _ _ e,λz=>?_}}) b2
  have Fc:b.S.A.F X.S.A.cl:=by rw[s];exact .inr<|.inr<|.inr<|.inr<|.inr rfl
  exact z.elim (λz=>(off y _ e).elim (λw=>nG<|.inl<|w ▸ Fc) λw=>w z) λz=>by rw[z,ht]at e;cases e
 erw[bK6_];refine{.inl {by decide,by decide},by lia,by lia,GW (λv N H'=>(∃ b,C6 a H' b cs B M/\b.S=X.S/\Nx H X H' b)/\∃ y4 y5,N=[some (.ref X.S.lp),some<|.ref X.S.A.gp,some<|.ref X.S.st,some<|.int x,y4,y5,none,none]) {⟨X,I,rfl,Nx.refl⟩,x2 _ _ rfl} (λi N L hi {⟨b,r,s,nx⟩,y4,y5,O}=>?_) (λN L {⟨b,r,s,nx⟩,y4,y5,O}=>?_)};subst O;let[dl,el]:=r.st.ly.ob;rw[s]at el
 have L1:=r.st.ly;rw[s]at L1;erw[bK3_];refine x2 _ _ {el,BM (by decide +kernel),x5 X.S.lp _ _ _ _ {rfl,TL,L1,by lia,by have:=r.st.sz;lia,?_}};rw[show((b.n:Int)+b.r+b.c+b.r+b.c).toNat=b.rows.length by have:=r.st.sz;lia];refine GW (λv N H'=>(∃ g,C6 a H' g cs B M/\g.S=X.S/\g.rows.length=b.rows.length/\Nx H X H' g)/\∃ y5,N=[some (.ref X.S.lp),some<|.ref X.S.A.gp,some<|.ref X.S.st,some<|.int x,some<|.int<|0+(i:Nat),y5,none,none]) {⟨b,r,s,rfl,nx⟩,_,rfl} (λj N H2 hj {⟨g,u,d,el2,D⟩,y5,O}=>?_) (λN H2 {⟨g,u,d,el2,D⟩,y5,O}=>?_);subst O;let[dx,U]:=u.st.ob
 have er:=ζ (show j<g.rows.length by lia);erw[bK2_,il];rw[d]at U;exact x2 _ _ {U,rfl,x6 g cs B M j _ {by rw[d],J,u.st,er,λt ol hl H3 v v v I3 sb=>({g.wr cs j _,u.write er I3 sb,d,by show(g.rows.set _ _).length=_;rw[f_];exact el2,D.trans<|u.nx rfl ⟨rfl,rfl,rfl,rfl⟩ λy o e n=>sb _ _ e λz=>n<|z.imp id .inr})}};let[dx,U]:=u.st.ob;subst O;let[db,eb]:=u.st.bk.bk.ob
 have Bk:=u.st.bk;rw[d]at U eb Bk;refine x2 _ _ {U,rfl,x5 _ _ _ _ _ {rfl,TS,U,?_}};erw[];refine x2 _ _ {eb,DM,x6 X.S.A _ _ _ cs _ {rfl,T,Bk,λl H3 hl s3 e3=>{by decide,λp hp=>?_}}}
 have s4:=AI (o:=.lst []) hp;rw[Nl]at e3;erw[];refine qM (n:=1) (by decide) (SqL.of<|s4 _ _ e3) (KC _) (SqL.of AD) ?_;erw[]
 have s5:=s3.trans s4;split
 ·erw[bK4_];exact fin g _ _ _ (u.same s5) d (D.trans<|Nx.of s5)
 ·exact{g,u.same s5,d,D.trans<|Nx.of s5}
 ·subst O;exact fin b L _ _ r s nx
def C6.nms{X:SX}{cs:yE}{b:vC}{M:Hs}(I:C6 a H X cs b M){k c:Nat}{z:Str}(g:k<X.m0)(e:M 0 k=.nm z c):gu z=true:=by
 let[v,i,d]:=I.st.val (kind:=0) (by decide) (g);rw[e]at d;let[t,rfl,j]:=d;let[xs,ex,y,h]:=bW I.st.gd i;rw[j]at ex;cases ex;exact h _ aa
example:(z01,ZI,Dl,6):=by
 apply u8;intro B hd la rj X cs Y M [rfl,T4,C,I,q]
 have T4':=T4
 have L:=C.st.ly;let[dl,el]:=L.ob;let[T,TP,TL,TS]:=T4
 have b36:=dq C.st.sz.1 C.st.sz.2.2.2.1;refine{by decide,λl hl=>?_}
 have j:=AI (o:=.lst []) hl
 have e1:upd H l _ l=some (.lst []):=AD;revert j e1;generalize upd H l _=H1;intro j e1;erw[Dl4_];refine y2 {j _ _ el,BM,x5 _ _ _ _ _ {rfl,TL,L.same j,λt ht=>?_}}
 have O:=AI (o:=.tup [V.int (X.n*X.w),V.int<|X.r*X.w,V.int<|(X.c:Int)*X.w]) ht;refine BI AD (n:=0) rfl rfl ?_;revert O;intro O
 have em:(X.n:Int)*X.w=(X.n*X.w:Nat):=by simp
 rw[em];erw[]
 have len:∀ i,(G2 M i).length<=i:=λi=>by
  have:=jb (λk=>(C8 M k).map (·.1)) (μ i);rw[cz]at this;exact this
 have r:∀ i,G2 M (i+1)=G2 M i++((C8 M i).map (·.1)).toList:=λi=>by
  unfold G2;rw[bq,yx];cases e:C8 M i<;>simp[e]
 refine{i0,by lia,(GW (λi σ w=>(Same H w/\w l=some (.lst<|(G2 M i).map V.str))/\∃ y4 y5,σ=[some (.ref X.S.lp),some<|.ref X.S.st,some<|.ref hd,some<|.ref l,y4,y5]) {{j.trans O,O _ _ e1},x2 _ _ rfl} (λi σ w hi {⟨s,e⟩,y4,y5,es}=>?_) (λσ w {⟨s,e⟩,y4,y5,es}=>?_))};subst es
 have c:i<A0 X.n X.r X.c X.w 0:=by simpa [A0]using hi
 erw[Dl1_,il];let[kh,ekh,y]:=(I.same s).get (kind:=0) (by decide) c;refine{.inr {_,.inl ekh},y2 {s _ _ el,BM,RH TL (L.same s) λu hu=>?_}}
 have x:=AI (o:=.tup [.int (0+(i:Int)/X.w),.int<|(i:Int)%X.w]) hu
 have eu:upd w u (.tup [.int (0+(i:Int)/X.w),.int<|(i:Int)%X.w]) u=some (.tup [.int (AX X.n X.r X.c X.w 0 i:Nat),.int (i%X.w:Nat)]):=by rw[AD];simp[AX]
 revert x eu;intro x eu
 have d:=s.trans x;let[kh',A,g,y]:=(I.same d).get (kind:=0) (by decide) c;refine{_,K8 A eu,?_};revert g;generalize (A8 kh' [.inl ((AX X.n X.r X.c X.w 0 i:Nat):Int),.inl ((i%X.w:Nat):Int)]).getD .non=v
 have ok:=I.ok 0 i (by decide) c;intro g;erw[Dl3_];cases J:M 0 i with
 |no =>
  rw[J]at g;rw[show v=.non from g];erw[];refine{d,?_};rw[r,show C8 M i=none by unfold C8;rw[J]];simpa using x _ _ e
 |nm z' N =>
  rw[J]at g;let[t0,rfl,ES]:=g;rw[if_pos (by simp)];erw[Dl2_]
  have U:=x _ _ e;refine{.inl {rfl,_,SqL.of U},BI ES (n:=0) rfl rfl ?_};refine{_,U,BW _ (by rw[η];have:=len i;lia),λb o eb=>?_,?_}
  ·rw[AK (BG eb hl)];exact d _ _ eb
  ·rw[r,show C8 M i=some (z',N) by unfold C8;rw[J],AD,au];rfl
 |_=>rw[J]at ok;exact ok.elim
 let[dx,ho]:=C.st.ob;subst es;refine y2 {s _ _ ho,CK,x4 X cs Y M {rfl,T4',(C.same s).st,λp ks H3 hp d U pm so=>(x2 l _ {rfl,SqL.of<|d _ _ e,by have:=len<|X.n*X.w;lia,λD ks' hD pm' so'=>?_})}}
 have  :=zeq so' so<|pm'.trans pm.symm;subst this
 have s4:=AI (o:=.lst<|ks'.map V.str) hD;refine zc0 (SqL.of<|s4 _ _ U) (SqL.of AD) (λv hv=>?_) (q _<|(s.trans d).trans s4);let[z,hz,rfl]:=az.mp hv;refine u2 ?_<|zz3.mp<|pm.mem_iff.mp hz;intro k N [hk,ek];exact C.nms hk ek
theorem Pb{j:Nat}:∀ {ps:wE} {M:Hs},∃ l,(M.unmark j ps).as=l++M.as/\(M.unmark j ps).b=M.b
 | [],M=>{[],rfl,rfl}
 |p::ps,M=>by
  let[l,b,c]:=Pb   (M:=M.put 2 p _ _);exact{l++[{2,p,_,_}],b.trans (by rw[fu];rfl),c}
def Dn.ext{X:SX}{c b:vC}{M d:Hs}{y z:Str}{x:Int}{N kind:Nat}(h:Dn X c M y z x N kind b d):∃ l,d.as=l++M.as/\d.b=M.b:=by
 cases h with
 |make=>exact{[_,_,_],rfl,rfl}
 |link=>exact{[_,_],rfl,rfl}
 |move=>exact{[_,_,_,_],rfl,rfl}
 |cutOne=>exact{[_,_],rfl,rfl}
 |@cutAll cell e m ps =>
  let[l,g,i]:=Pb;exact{{1,_,_,_}::(l++[{3,_,_,_},{0,_,_,[]}]),(congrArg _ g).trans (by rw[om,fu];rfl),i}
 |put=>exact{[_,_,_],rfl,rfl}
 |take=>exact{[_,_],rfl,rfl}
def GnL.same{gn:Addr}{N:Nat}{outs:tD}{b:Hp}(G:GnL H gn outs N)(s:Same H b):GnL b gn outs N:=by
 let[gs,g1,g2]:=G;exact{gs,s _ _ g1,g2}
def ShL.keep{b:Addr}{n r c w:Nat}{e:Md}{N:Nat}{d:Hp}(G:ShL H b n r c w e N)(tk:B3 H d)(k:∀ o,H b=some o->d b=some o):ShL d b n r c w e N:=by
 let[g,k1,k2,k3]:=G;exact{g,k _ k1,k2,λkind k i j=>(k3 _ k i j).keep tk}
def z02{p:Addr}{x:Nat}{Q:VK}(h:H p=some (.tup [.int 2,.int 3,.int 7]))(q:Q (.bl<|decide<|x=2\/x=3\/x=7) H):SQ K (.int x) (.ref p) H Q:=by
 have:O7 (.int x) [.int 2,.int 3,.int 7]=decide (x=2\/x=3\/x=7):=by
  show((2:Int)==x||((3:Int)==x||((7:Int)==x||false)))=_;rw[mj];simp
  lia
 refine x2 p _ {rfl,.inr<|SqT.of h,rfl,rfl,?_};rw[this];exact q
section
variable{X:SX}{cs:yE}{tks:vC}{M:Hs}{L:LA}{i:Nat}
def S65.obs(J:S65 a H X cs tks M L i):(∃ kh,H L.hd=some (.dT kh))/\(∃ b,H L.la=some (.dT b))/\(∃ c,H L.td=some (.dK c))/\(∃ d,H L.rj=some (.lst d))/\(∃ gs,H L.gn=some (.lst gs))/\∃ e,H L.sd=some (.dT e):=by
 let[kh,h1,z]:=J.m.hn;let[c,h3,z]:=J.t;let[b,h2,z]:=J.m.ls;let[d,h4,z]:=J.m.rs;let[e,h6,z]:=J.s;let[gs,h5,z]:=J.g;exact{⟨_,h1⟩,⟨_,h2⟩,⟨_,h3⟩,⟨_,h4⟩,⟨_,h5⟩,⟨_,h6⟩}
def S65.off{x:Addr}(J:S65 a H X cs tks M L i)(b:H x=none):¬ CT X L x:=by
 let[[y,h1],[y,h2],[y,h3],[y,h4],[y,h5],[y,h6]]:=J.obs;let[y,d]:=J.c.st.bk.pk.ob;intro z;let z||z||z||z||z||z||z||z||z:=z
 exact J.c.st.bk.off b z
 all_goals rw[z]at b
 rw[J.c.st.tk]at b;cases b;rw[d]at b;cases b;rw[h1]at b;cases b;rw[h2]at b;cases b;rw[h3]at b;cases b;rw[h4]at b;cases b;rw[h5]at b;cases b;rw[h6]at b;cases b
def S65.same{b:Hp}(J:S65 a H X cs tks M L i)(s:Same H b):S65 a b X cs tks M L i:={J.c.same s,J.cw,J.l,J.m.same s,J.t.same s,J.g.same s,J.s.keep s.tk λz e=>s _ _ e,J.f,J.ne}
def S65.up(J:S65 a H X cs tks M L i):S65 a H X cs tks M L (i+1):=by
 let[b,c,g,d]:=J.t;let[e,k1,k2,k3]:=J.s;exact{J.c,J.cw,by have:=J.l;lia,J.m,{b,c,by lia,d},J.g,{e,k1,by lia,k3},J.f,J.ne}
def S65.wr{b:Nat}{P:V->Hp->Prop}(D:CM K a)(J:S65 a H X cs tks M L i)(hi:i<=61)(I:b<X.n+X.r+X.c+X.r+X.c)(q:∀ j g,j.S=X.S->(j.n=X.n/\j.r=X.r/\j.c=X.c/\j.w=X.w)->S65 a g j cs tks M L (i+1)->UH (CT X L) H g->P (.bl true) g):RC K a [.ref X.S.lp,.ref X.S.A.gp,.ref X.S.st,.ref L.rj,.ref L.gn,.ref L.sd,.int (b:Nat)] H P E:=by
 let[[v,h1],[v,h2],[v,h3],[v,h4],[v,h5],[v,h6]]:=J.obs
 have s:=J.f L.hd (by simp[LA.is])
 have u:=J.f L.la (by simp[LA.is])
 have w:=J.f L.td (by simp[LA.is])
 have fr:=J.f L.rj (by simp[LA.is]);refine M9 _ _ _ _ _ _ X cs _ M b _ {rfl,D,J.c,J.m,I,J.g,J.s,by lia,J.ne.1,J.ne.2.1,J.ne.2.2,{by simp[CT,LA.is],by simp[CT,LA.is],(J.f _ (by simp[LA.is])).1,(J.f _ (by simp[LA.is])).1},λx n=>by let n||n||n:=n<;>simp[CT,n],λrows nn outs g N O T sb=>?_};let[dp,U]:=J.c.st.bk.pk.ob
 have k2:∀ {x:Addr} {o:HO},H x=some o->¬ X.S.A.F x->x≠X.S.A.gp->x≠L.gn->x≠L.sd->g x=some o:=λe Y n2 n3 n4=>sb _ _ e λz=>by
  let z||z||z||z:=z
  exact Y z;exact n2 z;exact n3 z;exact n4 z
 have B:∀ {x:Addr} {o:HO},H x=some o->¬ CT X L x->g x=some o:=λe d=>k2 e (λz=>d<|.inl z) (λz=>d (by simp[CT,z])) (λz=>d (by simp[CT,LA.is,z])) λz=>d (by simp[CT,LA.is,z]);let[kt,r,t2,t3]:=J.t
 have l:=J.l;let[ks,c1,c2,c3]:=T;exact q { X with rows:=rows,nn:=nn,outs:=outs } g rfl ⟨rfl,rfl,rfl,rfl⟩ {N,J.cw,by lia,J.m.keep (λy ys e=>k2 e (λz=>(J.c.st.bk.loose z).1 _ e) (λz=>by rw[z,U]at e;cases e) (AZ e h5 (by intro z;cases z)) (AZ e h6 (by intro z;cases z))) (λx xs e d=>B e d) (λo e=>k2 e s.1 s.2.2 (AZ h1 h5 (by intro z;cases z)) J.ne.1.symm) (λo e=>k2 e u.1 u.2.2 (AZ h2 h5 (by intro z;cases z)) J.ne.2.1.symm) (λo e=>k2 e fr.1 fr.2.2 J.ne.2.2.symm (AZ h4 h6 (by intro z;cases z))),{kt,k2 r w.1 w.2.2 (AZ r h5 (by intro z;cases z)) (AZ r h6 (by intro z;cases z)),by lia,t3},O,{ks,c1,by lia,c3},J.f,J.ne} λx xs e d=>B e d
end
section
variable{X:SX}{cs:yE}{tks:vC}{M:Hs}{L:LA}{i:Nat}
def S65.done{s u:Hp}{ex:yE}{d:vC}{q:Hs}{y z:Str}{x:Int}{kind:Nat}(J:S65 a H X cs tks M L i)(O:C6 a s X (cs++ex) d q)(T:ex.length<=15)(D:Dn X tks M y z x cs.length kind d q)(w:SameBut (λx=>X.S.A.F x\/x=X.S.tk) H s)(U:LM (CT X L) u L.hd L.la L.rj X.n X.r X.c X.w q)(Y:TkL u L.td d (i+1))(sb:SameBut (λy=>LF L.hd L.la L.rj y\/y=L.td) s u):S65 a u X (cs++ex) d q L (i+1):=by
 let[[v,h1],[v,h2],[v,h3],[v,h4],[v,h5],[v,h6]]:=J.obs
 have r:∀ {x:Addr} {o:HO},H x=some o->L.is x->s x=some o:=λe n=>w _ _ e λz=>z.elim (J.f _ n).1 (J.f _ n).2.1
 have g:∀ x,LF _ _ _ x\/x=L.td->EW _:=λx b=>by
  rcases b with(b|b|b)|b<;>rw[b]
  exact XQ (r h1 (by simp[LA.is]));exact XQ (r h2 (by simp[LA.is]));exact NY (r h4 (by simp[LA.is]));exact ML (r h3 (by simp[LA.is]))
 have f:∀ x,LF L.hd L.la L.rj x\/x=L.td->¬ X.S.A.F x/\x≠X.S.tk:=λx b=>by
  have:=J.f x (by rcases b with(b|b|b)|b<;>simp[LA.is,b]);exact⟨this.1,this.2.1⟩
 have N:∀ {x:Addr} {o:HO},s x=some o->x≠L.hd->x≠L.la->x≠L.rj->x≠L.td->u x=some o:=λe n1 n2 n3 n4=>sb _ _ e λz=>by
  rcases z with(z|z|z)|z
  exact n1 z;exact n2 z;exact n3 z;exact n4 z
 let[gs,B,g2,g3,g4]:=J.g;let[ks,k1,k2,k3]:=J.s;let[lx,e1,e2]:=D.ext
 have l:=J.l
 have I:sh q.b X.C q.as=sh M.b X.C M.as:=by
  rw[e1,e2];exact cO λj hj=>J.c.st.out (by rw[J.c.st.la.len];exact hj)
 refine{O.sbG sb g f,J.cw,by rw[ψ];lia,U,Y,{gs,N (r B (by simp[LA.is])) (AZ B h1 (by intro z;cases z)) (AZ B h2 (by intro z;cases z)) J.ne.2.2 (AZ B h3 (by intro z;cases z)),by rw[ψ];lia,g3,g4},?_,J.f,J.ne};rw[I];exact{ks,N (r k1 (by simp[LA.is])) J.ne.1 J.ne.2.1 (AZ k1 h4 (by intro z;cases z)) (AZ k1 h3 (by intro z;cases z)),by lia,λkind k b1 b2=>(k3 _ k b1 b2).keep (λy ys e=>HK sb g _ _ ((HK w λx b=>b.elim (λh=>J.c.st.bk.loose h) λh=>by rw[h];exact ML J.c.st.tk) _ _ e))}
end
example:(z03,ZK,bQ,16):=by
 apply u9;intro X cs r M L i x nl zs [rfl,T4,TDk,J,hi,[en,hz5,hzn],nB,q]
 have B:=T4;let[T,TP,TL,TS]:=T4
 have nm:∀ i:Int,∃ z,B0 z=true/\∀ {H9:Hp} {QV:VK},H9 nl=some (.lst<|zs.map V.str)->QV (.str z) H9->BK K (.ref nl) (.int<|i%5) H9 QV:=λi=>by
  obtain⟨j,ej,hj⟩:∃ j:Nat,i%5=j/\j<5:=mn i 5 (by decide)
  have h5:j<zs.length:=hz5 ▸ hj;rw[ej];refine{zs[j]'h5,hzn _<|ud h5,λe9 qv=>CI (n:=j) (SqL.of e9) rfl ?_ qv};rw[ρ,ζ h5]
  rfl
 let[z1,hz1,n1]:=nm<|x/9;let[z2,hz2,n2]:=nm<|x/45;obtain⟨I,ek,hk⟩:∃ b:Nat,x%9=b/\b<9:=mn x 9 (by decide);erw[bQ,bQ0_,bQ1_];refine{{by decide,by decide},n1 en ?_};rw[ek];clear ek;let[dl,el]:=J.c.st.ly.ob;erw[bQ3_];split;erw[bQ2_]
 have sz:=J.c.st.sz
 have pk:=J.cw.2;obtain⟨b,eb,hb⟩:∃ b:Nat,x/9%((X.n+X.r+X.c+X.r+X.c:Nat):Int)=b/\b<X.n+X.r+X.c+X.r+X.c:=mn _ _ (by lia);refine{{by decide,by decide},y2 {el,BM,x5 X.S.lp X.n X.r X.c X.w {rfl,TL,J.c.st.ly,?_}}};refine{by lia,?_}
 show RC K a [.ref X.S.lp,.ref X.S.A.gp,.ref X.S.st,.ref L.rj,.ref L.gn,.ref L.sd,.int<|x/9%((X.n:Int)+X.r+X.c+X.r+X.c)] _ _ _;rw[show((X.n:Int)+X.r+X.c+X.r+X.c)=((X.n+X.r+X.c+X.r+X.c:Nat):Int) by exact rfl,eb];exact J.wr B hi hb λX' H' eS ez J' st=>q X' cs r M H' eS ez J' st
 ·erw[bQ4_];refine{{by decide,by decide},n2 en {{by decide,by decide},?_}}
  have lcs:=J.l;refine x8 X cs r M I z1 z2 (x/225) {rfl,B,TDk,J.c,J.cw.1,by lia,by lia,hz1,hz2,λu s1=>?_,λd ex g U l u Y ed h15 D N hl0 el1=>?_}
  ·erw[bQ6_,bQ5_];exact q X cs r M u rfl ⟨rfl,rfl,rfl,rfl⟩ (J.same s1).up λv v e v=>s1 _ _ e
  ·subst ed
   have kk1:∀ {x:Addr} {o:HO},H x=some o->¬ X.S.A.F x->x≠X.S.tk->u x=some o:=λe n1 n2=>N _ _ e λz=>z.elim n1 n2
   have kL:∀ {x:Addr} {o:HO},H x=some o->L.is x->u x=some o:=λe n=>kk1 e (J.f _ n).1 (J.f _ n).2.1
   have tk1:B3 H u:=HK N λx hx=>hx.elim (λh=>J.c.st.bk.loose h) λh=>by rw[h];exact ML J.c.st.tk
   have st1:UH (CT X L) H u:=λx xs e nb=>kk1 e (λz=>nb<|.inl z) λz=>nb<|.inr<|.inl z
   have m1:LM (CT X L) u L.hd L.la L.rj X.n X.r X.c X.w M:=J.m.keep tk1 st1 (λo e=>kL e (by simp[LA.is])) (λo e=>kL e (by simp[LA.is])) λo e=>kL e (by simp[LA.is])
   have t1:TkL u L.td r i:=by
    let[kt,e,h]:=J.t;exact{kt,kL e (by simp[LA.is]),h}
   have w:∀ y,u y=none->¬ CT X L y:=λy O=>by
    cases e:H y with
    |none=>exact J.off e
    |some o =>
     by_cases z:X.S.A.F y\/y=X.S.tk
     ·exfalso;let z||z:=z
      ·exact Y.st.bk.off O z
      ·rw[z,Y.st.tk]at O;cases O
     ·rw[N _ _ e z]at O;cases O
   have len:=J.c.st.la.len
   have D':Dn X r M z1 z2 (x/225) M.as.length I g U:=by rw[<-len];exact D
   let[q1',q2',q3',q4',v]:=Y.st.sz;let[rs,er,Lr]:=m1.rs;erw[bQ6_,bQ7_];refine{cs.length,.inl {_,SqL.of er,by rw[η,Lr.len,len]},?_}
   have fin:∀ s H1',Same u H1'->LM (CT X L) s L.hd L.la L.rj X.n X.r X.c X.w U->TkL s L.td g (i+1)->SameBut (λy=>LF L.hd L.la L.rj y\/y=L.td) H1' s->AF (bQ14 K a (λv=>E) λv=>E) (bQ15 K a (λv=>E) λv=>E) (AW Q) [some (.ref X.S.lp),some<|.ref X.S.A.gp,some<|.ref X.S.st,some<|.ref X.S.A.b,some<|.ref L.hd,some<|.ref L.la,some<|.ref L.td,some<|.ref L.rj,some<|.ref L.gn,some<|.ref L.sd,some<|.int x,some<|.ref nl,some<|.int I,some<|.str z1,some<|.ref l,some<|.int cs.length] s:=λs H1' sH K1 K2 sb=>by
    have J2:=J.done (Y.same sH) h15 D (λy o e n=>sH _ _<|N _ _ e n) K1 K2 sb
    have el2:s l=some (.lst (AQ ((μ ex.length).map (cs.length+·)))):=sb _ _ (sH _ _ el1) λz=>J.off hl0 (by rcases z with(z|z|z)|z<;>simp[CT,LA.is,z])
    have st2:UH (CT X L) H s:=λx xs e nb=>sb _ _ (sH _ _<|st1 x xs e nb) λz=>nb (by rcases z with(z|z|z)|z<;>simp[CT,LA.is,z]);erw[bQ14_];refine HS _ L.hd L.la L.rj l X _ g U cs.length ex.length {rfl,B,J2.c,J2.m,by rw[ψ],el2,λH3 s3=>?_};erw[bQ15_];refine x9 _ L.hd L.la L.rj X _ g U cs.length {rfl,B,(J2.same s3).c,(J2.same s3).m,by rw[ψ];lia,λH4 s4=>?_};exact q X _ g U H4 rfl ⟨rfl,rfl,rfl,rfl⟩ (J2.same<|s3.trans s4) λx xs e nb=>(s3.trans s4) _ _ (st2 x xs e nb)
   have fin0:=λs K1 K2 sb=>fin s u (Same.refl _) K1 K2 sb;erw[bQ12_];split
   ·erw[bQ8_];exact OS _ X.S.lp L.hd L.la L.rj L.td X M U r g z1 z2 (x/225) (x2 I i {rfl,TL,Y.st.ly,m1,t1,by lia,q1',q2',q3',q4',by lia,D',by lia,w,λs k1 k2 k3=>fin0 s k1 k2 k3})
   ·erw[bQ11_];refine{by decide,λp hp=>z02 AD ?_};simp only[XC]
    have sp:=AI (o:=.tup [.int 2,.int 3,.int 7]) hp;by_cases hk3:I=2\/I=3\/I=7
    ·rw[if_pos (decide_eq_true hk3)];erw[bQ9_];refine{{by decide,by decide},n2 (sp _ _<|st1 _ _ en nB) ?_};exact OS _ X.S.lp L.hd L.la L.rj L.td X M U r g z1 z2 (x/225) (x2 I i {rfl,TL,Y.st.ly.same sp,m1.same sp,t1.same sp,by lia,q1',q2',q3',q4',hk3,D',by lia,λy O=>w y<|sp.free O,λs k1 k2 k3=>fin s _ sp k1 k2 k3})
    ·rw[if_neg (by rw[decide_eq_true_eq];exact hk3)];erw[bQ10_];refine{{by decide,by decide},?_};exact OS _ X.S.lp L.hd L.la L.rj L.td X M U r g z1 z2 (x/225) (x2 I i {rfl,TL,Y.st.ly.same sp,m1.same sp,t1.same sp,by lia,q1',q2',q3',q4',by lia,by lia,D',by lia,λy O=>w y<|sp.free O,λs k1 k2 k3=>fin s _ sp k1 k2 k3})
def z04(ns:vE)(k:Int):∃ b:vE,EU (ns.map V.int) (some 1) (some k)=b.map V.int/\b.length<=ns.length-1:=by
 unfold EU;rw[<-xq,<-Ae];refine{_,rfl,?_};simp[HT.sIx];omega
section
variable{X:SX}{L:LA}{S:Md}{i:Nat}
def S65.new{kh:xA}(C:C6 a H X [] [] {S,[]})(d:X.c*X.w<=12/\1<=X.n)(g:H L.hd=some (.dT kh))(j:kh.length<=180)(c:∀ kind k,kind<5->k<A0 X.n X.r X.c X.w kind->S kind k=.no/\A8 kh (pK X.n X.r X.c X.w kind k)=none\/∃ v,A8 kh (pK X.n X.r X.c X.w kind k)=some v/\RepC H (S kind k) v)
  (l:H L.la=some (.dT [])) (n:H L.td=some (.dK [])) (o:H L.rj=some (.lst [])) (q:H L.gn=some (.lst [])) (r:H L.sd=some (.dT kh)) (f:∀ x,L.is x->¬ X.S.A.F x/\x≠X.S.tk/\x≠X.S.A.gp) (ne:L.sd≠L.hd/\L.sd≠L.la/\L.gn≠L.rj) (ap:L.hd≠L.la):S65 a H X [] [] {S,[]} L i:=by
 refine{C,d,aw _,{{kh,g,j,λkind k h1 h2=>(c _ k h1 h2).imp (λh=>⟨rfl,h⟩) id},{[],l,aw _,λz z z z=>rfl},{[],o,.nil},ap,{by simp[CT,LA.is],by simp[CT,LA.is],by simp[CT,LA.is]},C.st.ok},{[],n,aw _,λz=>rfl},{[],q,aw _,λk b e=>(by simp at e),λk z=>C.st.out<|aw _},{kh,r,by lia,λkind k h1 h2=>?_},f,ne}
 show RepC H (S _ k) _;let[h3,h4]||[v,h3,h4]:=c _ k h1 h2
 rw[h3,h4];rfl;rw[h3];exact h4
def z05{kvs:xA}(C:C6 a H X [] [] {S,[]})(h:∀ b k:Nat,b<X.rows.length->k<X.w->A8 kvs [.inl (b:Int),.inl (k:Int)]=MV ((X.rows[b]?).bind λq=>q[k]?))(kind k:Nat)(h1:kind<5)(h2:k<A0 X.n X.r X.c X.w kind):S kind k=.no/\A8 kvs (pK X.n X.r X.c X.w kind k)=none\/∃ v,A8 kvs (pK X.n X.r X.c X.w kind k)=some v/\RepC H (S kind k) v:=by
 let[v,d,e]:=C.st.val h1 h2
 have d:(X.rows[((AX _ _ _ _ _ k):Int).toNat]?).bind (λq=>q[((k%X.w:Nat):Int).toNat]?)=some v:=d
 have g:AX X.n X.r X.c X.w kind k<X.rows.length:=by
  let[q,eq,y]:=si.mp d;exact(ε.mp eq).1
 rw[bv,bv]at d
 have:=h _ _ g<|nv k C.w1;rw[d]at this
 have e:RepC H (S _ k) v:=e;by_cases c:v=.non;subst c;refine .inl {?_,this};revert e;cases S _ k with
 |no=>intro y;rfl
 |nm z r=>intro[y,z,y];cases z
 |mk i=>intro z;cases z
 |rc m ps=>intro[y,y,z,y];cases z
 |tx z=>intro z;cases z
 refine .inr {v,?_,e};rw[this];unfold MV;rw[if_neg (by simpa using c)]
end
structure P65(a:Ad)(H:Hp)(X:SX)(cs:yE)(tks:vC)(M:Hs)(L:LA)(i:Nat)(lp gp nl rr:Addr)(zs:yD)(ms:vE):Prop where
 j:S65 a H X cs tks M L i
 lp:X.S.lp=lp
 gp:X.S.A.gp=gp
 sz:X.n<=3/\X.r<=3/\X.c<=3/\X.w<=4
 n:ZJ H nl zs
 r:H rr=some (.lst<|ms.map V.int)
 f1:¬ CT X L nl
 f2:¬ CT X L rr
abbrev U4(s c d nl st:Addr)(L:LA)(e b:Option V):St:=[some (.ref s),e,some<|.ref c,some<|.ref d,some<|.ref st,some<|.ref nl,some<|.ref L.hd,some<|.ref L.la,some<|.ref L.td,some<|.ref L.rj,some<|.ref L.gn,some<|.ref L.sd,b]
def Pc(a:Ad)(s d e nl g:Addr)(j:yD)(l:vE)(i:Nat)(n:St)(H:Hp):Prop:=∃ X cs b M L,P65 a H X cs b M L i d e nl g j l/\∃ o c,n=U4 s d e nl X.S.st L o c
section
variable{X:SX}{cs:yE}{tks:vC}{M:Hs}{L:LA}{i:Nat}{s lp gp nl rr:Addr}{zs:yD}{ms:vE}
def P65.one{D:Ends}{e:Option V}{x:Int}(g:CM K a)(l:TD K a)(J:P65 a H X cs tks M L i lp gp nl rr zs ms)(I:i<=61)(N:∀ v w,Pc a s lp gp nl rr zs ms (i+1) v w->D.nx v w):AF (bT21 K a (λ_=>E) λ_=>E) (AF (bT23 K a (λ_=>E) λ_=>E) (bT25 K a (λ_=>E) λ_=>E)) D (U4 s lp gp nl X.S.st L (some<|.int x) e) H:=by
 let[j,rfl,rfl,sz,n,r,f1,f2]:=J;let[T,y]:=j.c.st.ob;erw[bT21_];refine y2 {y,CK,y5 {rfl,g.2.2.2,y,?_}};refine x9 X cs _ M L i x nl zs {rfl,g,l,j,I,n,f1,λo O z A U b d q st=>?_}
 have B:CT o L=CT X L:=by unfold CT;rw[b]
 rw[<-b];refine x8 _ _ _ _ o _ _ A {rfl,g,q.c,q.m,λY u=>?_};refine N _ _ (x5 o _ _ A L {{q.same u,by rw[b],by rw[b],by rw[d.1,d.2.1,d.2.2.1,d.2.2.2];exact sz,{u _ _<|st _ _ n.1 f1,n.2},u _ _<|st _ _ r f2,by rw[B];exact f1,by rw[B];exact f2},x2 _ _ (by rw[b])})
end
section
variable{X:SX}{cs:yE}{tks:vC}{M:Hs}{L:LA}{i:Nat}{s lp gp nl rr:Addr}{zs:yD}{ms:vE}
def P65.fresh{S:Md}{kh:xA}{b:Hp}(c:C6 a b X [] [] {S,[]})(e:Same b H)(sz:1<=X.n/\X.n<=3/\X.r<=3/\X.c<=3/\X.w<=4)(o:∀ x,L.is x->b x=none)(n:ZJ H nl zs)(r:H rr=some (.lst<|ms.map V.int))(f1:¬ CT X L nl)(f2:¬ CT X L rr)
  (g:H L.hd=some (.dT kh)) (j:kh.length<=180) (l:∀ kind k,kind<5->k<A0 X.n X.r X.c X.w kind->S kind k=.no/\A8 kh (pK X.n X.r X.c X.w kind k)=none\/∃ v,A8 kh (pK X.n X.r X.c X.w kind k)=some v/\RepC b (S kind k) v)
  (u:H L.la=some (.dT [])) (w:H L.td=some (.dK [])) (y:H L.rj=some (.lst [])) (B:H L.gn=some (.lst [])) (D:H L.sd=some (.dT kh)) (ne:L.sd≠L.hd/\L.sd≠L.la/\L.gn≠L.rj) (ap:L.hd≠L.la):P65 a H X [] [] {S,[]} L i X.S.lp X.S.A.gp nl rr zs ms:=by
 let[J,I]:=c.st.bk.pk.ob;refine{S65.new (c.same e) {υ (dq sz.2.2.2.1 sz.2.2.2.2) (by decide),sz.1} g j (λkind k h1 h2=>(l _ k h1 h2).imp id (by intro[v,p,q];exact{v,p,q.keep e.tk})) u w y B D (λx d=>{c.st.bk.off<|o x d,λz=>?_,λz=>?_}) ne ap,rfl,rfl,sz.2,n,r,f1,f2}
 have:=o x d;rw[z,c.st.tk]at this;cases this
 have:=o x d;rw[z,I]at this;cases this
def P65.begun{D:Ends}{A:Option V}{x:Int}(tv:TV K a)(T4:CM K a)(J:P65 a H X cs tks M L i lp gp nl rr zs ms)(hD:∀ l S L' H',P65 a H' l [] [] {S,[]} L' i lp gp nl rr zs ms->D.nx (U4 s lp gp nl l.S.st L' (some<|.int x) A) H'):AF (bT11 K a (λ_=>E) λ_=>E) (AF (bT13 K a (λ_=>E) λ_=>E) (AF (bT14 K a (λ_=>E) λ_=>E) (AF (bT15 K a (λ_=>E) λ_=>E) (AF (bT16 K a (λ_=>E) λ_=>E) (AF (bT17 K a (λ_=>E) λ_=>E) (AF (bT18 K a (λ_=>E) λ_=>E) (bT19 K a (λ_=>E) λ_=>E))))))) D (U4 s lp gp nl X.S.st L (some<|.int x) A) H:=by
 let[j,rfl,rfl,sz,n,r,f1,f2]:=J;erw[bT11_];refine{{by decide,by decide},x5 X cs _ M _ {rfl,tv,T4,j.c,λl S H1 C nx eg=>?_}}
 have rl:=C.st.sz.2.2.2.2
 have L1:=C.st.ly;let[z1,z2,z3,z4]:=nx.sz
 have P1:=C.st.bk.pk;rw[nx.lp]at L1;rw[eg]at P1;refine x9 _ _ _ _ _ _ _ _ _ {rfl,T4.2.2.1,T4.2.1,L1,P1,rl,by lia,by lia,λd kvs H2 hd v ed lk ap hv=>?_};refine x2 d _ {rfl,ed,ap,λsd o=>nO o λH3 w e3=>?_};refine λla b=>nO b λH4 B e4=>?_;refine λtd I=>nO I λH5 N e5=>?_;refine{by decide,λrj O=>nO O λH6 T e6=>?_};refine{by decide,λgn q=>nO q λH7 U e7=>?_}
 have ls:∀ {y:Addr} {xs:tF},H y=some _->¬ CT X L y->H1 y=some (.lst xs)/\¬ l.G y:=λe nb=>nx.o _ _ e nofun λz=>nb<|z.elim .inl λz=>.inr<|.inl z;let[n1,gn1]:=ls n.1 f1
 have Y:=(((w.trans B).trans N).trans T).trans U
 have u:=v.trans Y;let[r1,gr1]:=ls r f2;let[dp,ep]:=C.st.bk.pk.ob
 have fr:∀ y,LA.is ⟨d,la,td,rj,gn,sd⟩ y->H1 y=none:=λy c=>by
  let c||c||c||c||c||c:=c<;>rw[c]
  exact hd;exact(v.trans w).free b;exact((v.trans w).trans B).free I;exact(((v.trans w).trans B).trans N).free O;exact((((v.trans w).trans B).trans N).trans T).free q;exact v.free o
 have nb:∀ {y:Addr} {xs:tF},H1 y=some (.lst xs)->¬ l.G y->¬ CT l _ y:=λe g z=>by
  let z||z||z||z:=z
  exact g<|.inl z;exact g<|.inr z;rw[z,ep]at e;cases e;rw[fr _ z]at e;cases e
 refine hD l S ⟨d,la,td,rj,gn,sd⟩ H7 ?_;rw[<-nx.lp,<-eg];exact P65.fresh C u {by rw[z1];exact j.cw.2,by rw[z1,z2,z3,z4];exact sz} fr {u _ _ n1,n.2} (u _ _ r1) (nb n1 gn1) (nb r1 gr1) (Y _ _ ed) lk (z05 C hv) (((N.trans T).trans U) _ _ e4) ((T.trans U) _ _ e5) (U _ _ e6) e7 ((((B.trans N).trans T).trans U) _ _ e3) {(BG ed o).symm,BG e3 b,(BG e6 q).symm} (BG (w _ _ ed) b)
end
example:(z06,sQ,bT,13):=by
 apply u2;intro s ns [rfl,tv,T4,TDk,hs,hl,q]
 have B:=T4;let[T,TP,TL,TS]:=T4;erw[bT,bT0_];refine x3 s ns 0 {rfl,hs,oA hl rfl,?_};generalize QR ns 0=x;obtain⟨r,er,hr⟩:∃ n:Nat,1+x/3%3=n/\1<=n/\n<=3:=md _ 3 (by decide);obtain⟨c,ec,hc⟩:∃ n:Nat,1+x/9%3=n/\1<=n/\n<=3:=md _ 3 (by decide);obtain⟨n,en,hn⟩:∃ n:Nat,1+x%3=n/\1<=n/\n<=3:=md _ 3 (by decide);obtain⟨w,ew,hw⟩:∃ n:Nat,1+x/27%4=n/\1<=n/\n<=4:=md _ 4 (by decide);erw[bT1_,en,er,ec,ew];clear en er ec ew;refine{{by decide,by decide},{by decide,by decide},{by decide,by decide},λlp dl hlp hdl ndl=>?_}
 have s0:Same H (upd (upd H dl<|.own lp) lp (.ins (a "Layout") dl [])):=(AI hdl).trans (AI (by rw[AK ndl.symm];exact hlp));refine x6 lp dl n r c w {rfl,TL,AD,oA hn.2 rfl,oA hr.2 rfl,oA hc.2 rfl,hw.1,oA hw.2 rfl,λH2 L2 OO=>{rfl,?_}}
 have s2:Same H H2:=λy o e=>OO _ _ (s0 _ _ e) (BG e hlp);replace hs:=s2.seq hs;let[dl2,el]:=L2.ob;refine y2 {el,BM,x5 lp n r c w {rfl,TL,TP,L2,λgp cl H3 hgp BQ P3 s3=>?_}}
 have fw:c*w<=18:=υ (dq hc.2 hw.2) (by decide)
 have hN:∀ r'∈bd (n+r+c+r+c) (bd w V.non),∀ v∈r',v=.non:=λr' N v hv=>by
  rw[pq N]at hv;exact pq hv
 refine cS (S:=λu u=>.no) {tv,B,L2.same s3,P3,{by lia,by lia,by lia,by lia,by simp},fw,hw.1,(λr' N v hv=>by rw[hN r' N v hv];trivial),(λkind k v u u hv=>?_),{λu u u=>rfl,λkind u=>by cases kind<;>trivial},{λu u u u e=>(by cases e),λu u u e=>(by cases e),λu u u e=>(by cases e),λu u u e=>(by cases e),λu u u e=>(by cases e),λu u u u u u u e=>(by cases e),λu u u u u u u e=>(by cases e)}} λX H5 a1 a2 a3 a4 a5 a6 a7 off htk C5 s5=>?_;let[r',er',ev]:=si.mp hv;exact hN r' (ι er') _ (ι ev);refine{{by decide,by decide},_,rfl,λnl zs H6 hnl s6 LY hzl hzn=>?_};refine λhd hhd=>nO hhd λH7 s7 e7=>?_;refine λla O=>nO O λH8 s8 e8=>?_;refine λtd htd=>nO htd λH9 U e9=>?_;refine{by decide,λrj hrw=>nO hrw λH10 g Y=>?_};refine{by decide,λgn hgn=>nO hgn λH11 d e11=>?_};refine λsd D=>nO D λH12 l e12=>?_
 have s78:=s7.trans s8;let[ms,ems,hms]:=z04 ns 121
 have s79:=s78.trans U
 have s7a:=s79.trans g
 have s7b:=s7a.trans d
 have s7c:=s7b.trans l
 have s6c:=s6.trans s7c;erw[bT26_];refine rQ (s6c.seq<|s5.seq<|s3.seq hs) λrr hrr=>?_;rw[ems];let[H14,zz0,j,e14]:=GQ (o:=.lst<|ms.map V.int) hrr;rw[zz0]
 have s6e:=s6c.trans j;let[u,ep]:=C5.st.bk.pk.ob
 have I:∀ {y:Addr},H5 y=none->¬ X.S.A.F y/\y≠X.S.tk/\y≠X.S.A.gp:=λb=>{C5.st.bk.off b,λz=>(by rw[z,C5.st.tk]at b;cases b),λz=>by rw[z,ep]at b;cases b}
 have fr:∀ y,LA.is ⟨hd,la,td,rj,gn,sd⟩ y->H6 y=none:=λy b=>by
  let b||b||b||b||b||b:=b<;>rw[b]
  ·exact hhd
  ·exact s7.free O
  ·exact s78.free htd
  ·exact s79.free hrw
  ·exact s7a.free hgn
  ·exact s7b.free D
 have th:∀ y,LA.is ⟨hd,la,td,rj,gn,sd⟩ y->H12 y≠none:=λy b=>by
  let b||b||b||b||b||b:=b<;>rw[b]
  ·rw[((((s8.trans U).trans g).trans d).trans l) _ _ e7];nofun
  ·rw[(((U.trans g).trans d).trans l) _ _ e8];nofun
  ·rw[((g.trans d).trans l) _ _ e9];nofun
  ·rw[(d.trans l) _ _ Y];nofun
  ·rw[l _ _ e11];nofun
  ·rw[e12];nofun
 have f1:¬ CT X ⟨hd,la,td,rj,gn,sd⟩ nl:=λz=>by
  let[o1,o2,o3]:=I hnl;let z||z||z||z:=z
  ·exact o1 z
  ·exact o2 z
  ·exact o3 z
  ·rw[fr _ z]at LY;cases LY
 have f2:¬ CT X ⟨hd,la,td,rj,gn,sd⟩ rr:=λz=>by
  let[o1,o2,o3]:=I<|s6c.free hrr;let z||z||z||z:=z
  ·exact o1 z
  ·exact o2 z
  ·exact o3 z
  ·exact th _ z hrr
 have P0:P65 a H14 X [] [] {λu u=>.no,[]} ⟨hd,la,td,rj,gn,sd⟩ 0 X.S.lp X.S.A.gp nl rr zs ms:=P65.fresh (kh:=[]) C5 s6e {by lia,by lia,by lia,by lia,by lia} (λy b=>s6.free<|fr y b) {(s7c.trans j) _ _ LY,hzl,hzn} e14 f1 f2 ((((((s8.trans U).trans g).trans d).trans l).trans j) _ _ e7) (aw _) (λu u u u=>.inl ⟨rfl,rfl⟩) (((((U.trans g).trans d).trans l).trans j) _ _ e8) ((((g.trans d).trans l).trans j) _ _ e9) (((d.trans l).trans j) _ _ Y) ((l.trans j) _ _ e11) (j _ _ e12) {(BG ((((s8.trans U).trans g).trans d) _ _ e7) D).symm,(BG (((U.trans g).trans d) _ _ e8) D).symm,(BG Y hgn).symm} (BG e7 O);rw[a1,a2]at P0;refine .inl {{_,SqL.of e14},ID (xs:=ms.map V.int) (Pc a s lp gp nl rr zs ms) (x5 X [] [] _ _ {P0,x2 _ _ rfl}) (λi σ H' u h=>?_) (λi v σ H' ev h=>?_) (λσ H' h=>?_)}
 ·revert h;refine u5 ?_;intro X cs tks M L [J,u];exact SqL.of J.r
 ·revert h;refine u5 ?_;intro X cs tks M L [J,y1,y12,rfl];rw[ρ,bc]at ev;let[y,ey,rfl]:=ev
  have hi:=(ε.mp ey).1;erw[bT20_]
  have i61:i<=61:=by lia
  refine{{by decide,by decide},?_};split
  ·exact J.begun tv B λX' S L' H2 J'=>J'.one B TDk i61 λu u h=>h
  ·exact J.one B TDk i61 λu u h=>h
 ·erw[bT27_];exact q _
end
def JR:Expr->yD
 |.Name x _=>[x]
 |.Tuple [.Name x _,.Name y _] _ _=>[x,y]
 |_=>[]
def Pd(N:yD)(a:wE):yD:=a.filterMap λi=>N[i]?
def FnScope.cq{X:Cx}{scope outer:Scope}{N P b:yD}{a:wE}(_:FnScope N P outer)(h:SK scope outer N (Pd N a) a=true:=by decide +kernel)(h1:X.env.scope=outer:=by exact rfl)(h2:X.N=N:=by exact rfl):J1 X scope b (Pd N a) a:=pE h1 h2 h
section
variable{X:Cx}{tg iter DD:Expr}{EZ:wD}{scope:Scope}{pos:Pos}{wi:TI}{td:TE}{g:TG}{tt:TT}{te:TE}{cn:yD}{A6:wE}
def pcm(S:J1 X scope (JR tg) cn A6)(d:X.calm=true)(e:PI X tg iter wi)(i:∀ a s H b C c,PG (X.block a s H (JR tg++cn) scope b C c) tg g)(j:∀ a s H b C c,K4 (X.block a s H (JR tg++cn) scope b C c) EZ tt)(he:∀ a s H b C c,PE (X.block a s H (JR tg++cn) scope b C c) DD te)
  (l:∀ x,mz iter X.env x=pure x:=by intro _;rfl):PE X (.ListComp DD [{tg,iter,EZ,0}] scope pos) (BZ wi g tt te (JR tg).length A6):=zad S d e i j he l
def pcs{i:Nat}{x:Str}{l a:Pos}(S:J1 X scope (JR tg) cn A6)(n:X.calm=true)(o:X.N.Nodup)(e:X.N[i]? =some x)(q:X.env.scope.names.lookup x=some .local)(r:PI X tg iter wi)(u:∀ b s H c C d,PG (X.block b s H (JR tg++cn) scope c C d) tg g)(v:∀ b s H c C d,K4 (X.block b s H (JR tg++cn) scope c C d) EZ tt)(he:∀ b s H c C d,PE (X.block b s H (JR tg++cn) scope c C d) DD te)
  (j:ve (.ListComp DD [{tg,iter,EZ,0}] scope pos) (some<|.Name x l) a.line X.env=pure true:=by rfl)
  (w:∀ x,mz iter X.env x=pure x:=by intro _;rfl):PS X (.Assign [.Name x l] (.ListComp DD [{tg,iter,EZ,0}] scope pos) a) (AO (BZ wi g tt te (JR tg).length A6) (AG i)):=zae S n o e q r u v he j w
end
def top(i:Nat):Stmt:=PySem.Challenge.pw_holdback_k65_whole_deeds_behind_a_coming.main.body.getD i<|.Pass {0,0,0,0}
structure Txt(K:W.Frag)(mg:Str->Option Value)(a:Ad):Prop where
 z4b:Cls K (a "Change")
 Pp:Cls K (a "Hold")
 Pq:Cls K (a "Layout")
 Pw:Cls K (a "Plank")
 Px:Cls K (a "Store")
 Py:Cls K (a "View")
 z4c:GV mg "MOST_LETTERS" (.int 8)
 z4d:GV mg "MOST_PIECE_SIGNS" (.int 40)
 z4f:mg "NoBlock"=some (.ref<|a "NoBlock")
 z7m:GV mg "NoBlock" (.ref<|a "NoBlock")
 z4i:Exc K (a "NoBlock")
 z4g:mg "NoChange"=some (.ref<|a "NoChange")
 z7n:GV mg "NoChange" (.ref<|a "NoChange")
 z4j:Exc K (a "NoChange")
 Pz:mg "NoName"=some (.ref<|a "NoName")
 z7o:GV mg "NoName" (.ref<|a "NoName")
 z4k:Exc K (a "NoName")
 Qb:mg "NoPiece"=some (.ref<|a "NoPiece")
 z7p:GV mg "NoPiece" (.ref<|a "NoPiece")
 z4l:Exc K (a "NoPiece")
 Qc:mg "NoRoom"=some (.ref<|a "NoRoom")
 z7q:GV mg "NoRoom" (.ref<|a "NoRoom")
 z4m:Exc K (a "NoRoom")
 z4h:mg "NotSound"=some (.ref<|a "NotSound")
 z7r:GV mg "NotSound" (.ref<|a "NotSound")
 z4n:Exc K (a "NotSound")
 z4e:GV mg "PERCENT" (.int 37)
 Qd:mg "Twice"=some (.ref<|a "Twice")
 z7s:GV mg "Twice" (.ref<|a "Twice")
 z4o:Exc K (a "Twice")
 z34:mg "all"=none
 z35:mg "bool"=none
 Ph:mg "dict"=none
 z36:mg "enumerate"=none
 z37:mg "isinstance"=none
 z38:mg "len"=none
 Pj:mg "list"=none
 z39:mg "ord"=none
 Pk:mg "range"=none
 z4a:mg "set"=none
 Pl:mg "sorted"=none
 Pm:mg "tuple"=none
section
variable(P:bu)(w:World){K:W.Frag}{mg:Str->Option Value}(base:Heap){a:Ad}{f:Addr}{fd:gi}
seal wpAny
seal HV HY QE W9 JU L8 NI FZ FX BJ DJ MI JB IB FH E4 PY AG B9 IV PK C4 tB qI DF AE R0 BR A7 DE PQ L6 PL C9 EE AF O5 KH L4 L5 GA PU R8 AT FY XA PD CL GD BN E7 BE E5 NJ JA GE ST IX AO AV JC WW tC E6 DP FU FV JD FM P9 FW D2 A9 B7 FL FG IF PJ LC LD BH SR JY CB AM CN BC O2 NO IT OV W2 O1 CF SS PE PT FS PS PA PI PG K4 IR PW B8 IxR
def dvT:Nat->List String->Array Lean.Term->Lean.MacroM (Lean.Term × List String)
 |0,_,_=>Lean.Macro.throwUnsupported
 |n+1,l,a=>match l with
  |"("::r=>do
   let x<-dvT n r #[]
   dvT n x.2 (a.push x.1)
  |")"::r=>pure (Lean.Syntax.mkApp a[0]! (a.extract 1 a.size),r)
  |[]=>pure (Lean.Syntax.mkApp a[0]! (a.extract 1 a.size),[])
  |s::r=>do
   let x:Lean.Term<-match s with
    |"?"=>`(?_)
    |"_"=>`(_)
    |"1"=>`(by assumption)
    |"2"=>`(by rfl)
    |"3"=>`(by with_unfolding_all rfl)
    |"4"=>`(show List.Nodup (_++_) by decide +kernel)
    |"5"=>`(fun _ _=>rfl)
    |"6"=>`(fun _ _ _ _ _ _=>?_)
    |"7"=>`(⟨rfl,rfl,rfl,rfl⟩)
    |"8"=>let h:=Lean.mkIdent `hx1;let e:=Lean.mkIdent `E1;`(fun $e _ _ $h=>?_)
    |"9"=>`(by simp)
    |"10"=>`(fun _=>rfl)
    |"11"=>`(fun _=>?_)
    |_=>pure<|Lean.mkIdent s.toName
   dvT n r (a.push x)
def dvC(R:Array String):Nat->StateT (List Char) Lean.MacroM Lean.Term
 |0=>Lean.Macro.throwUnsupported
 |n+1=>do
  let c::l<-get|Lean.Macro.throwUnsupported
  set l
  let k:=c.toNat
  let x<-dvT 99 ((R[if k<58 then k-48 else if k<91 then k-55 else if k<123 then k-61 else k-130]!).splitOn " ") #[]
  return ⟨<-x.1.raw.replaceM fun s=>if s.isOfKind `Lean.Parser.Term.syntheticHole then do return some (<-dvC R n).raw else return none⟩
def dvR:="pvr _|qT ?|Sg ? ?|Sh ?|lW|psl _ nd ?|pFl ( Vv ? rfl )|Sl ?|SY ( pmx ? ? 1 hr hx ? )|qU ? ?|mW o8 ? ? 5|XD ( pcx 1 hr hx ? )|Sv ? ? ?|T.Pq|Wd ?|L7 ? ?|Sd|OY zar ? ?|qS _ 4|Wc ?|T.Px|Sk ?|SY ( pmz ? ? 1 hr hx )|Rk|pei ?|Rj|qS _ nd|qV ? ? ?|zeu ? ? ? ?|OY zgy ? ?|R9|Tp hx.po rfl ? ? ?|pR1 ( Tj rfl T.Pk ? )|OY zgz ? ?|T.Pp|Sx ? ?|pSq ( zba ? )|pSf ( Vx ? ? rfl )|LB ( KS ( rJ hr.units ) ? ? ( KR _ ) )|pcm sc.cq rfl ? 6 6 6|zaa|NK zht rfl T.z38 2 ?|Rh|T.Pw|zab ?|pcs sc.cq rfl nd rfl rfl ? 6 6 6|O8 PySem.F.plainAttrs_list PySem.F.slot_list_append PySem.F.type_list_append zi6 ? ?|SY ( WC ? ? 1 hr.m oY ? )|Ry ?|Sy rfl ?|Sw|PW.pt ?|pTr ( Vb ? 10 )|pDg ( Yw ( K0 hr ) ? ? 5 )|LB ( KS ( rK hr.units ) ? ? ( KR _ ) )|pDp ( Yz ( K0 hr ) ? ? ? rfl )|pEn ( zel rfl T.z36 ? )|LB ( KS zhq ? ? ( KR _ ) )|pGc ?|LB ( KS zhp ? ? ( KR _ ) )|pTb ( Rp ? 3 )|OY za2 ? ?|pPt ( Wz ? )|pMk ( zai 1 hr.m hx.passes rfl ? )|Xb za6 ? ? ?|Rx ? ?|T.Py|LB ( KS za3 ? ? ( KR _ ) )|Wy|Rv ?|Zd|Zc|Rw ? ?|Rq ?|OY zgx ? ?|pD1 ( Zm ( K0 hr ) ? ? 7 )|SY ( WC ? ? 1 hr.m hx1.passes ? )|pTp ?|pGn ?|pDi ( Yx ( K0 hr ) ? ? )|pDn ( Yy ( K0 hr ) ? ? )|pCt ( Ux WK oZ ? ? ? )|Tb ? ?|LB ( KS oZ ? ? ( KR _ ) )|Zh ? ? ?|O4 zhw rfl T.Pj 2 ?|pCh ( Uw WK WK ? ? ? )|lZ nd rfl ( zg rfl ) ?|Ty zg0 ?|zfe ( K0 hr ) ? rfl rfl 9 9|Zg|NK zbg rfl T.z37 2 ?|O4 zhz rfl T.Pm 2 ?|zd5 rfl rfl T.Pl rfl T.z4a ?|Sz ? ? pA|pAv ( Sb ? ? )|Rz ?|NK ( zc5 rfl ) rfl T.z34 2 ?|ME hx T.z4i rfl T.z4f ?|Sq|zc3 ?|XD ( WB 1 hr.m oY rfl ? )|Tl rfl T.Pk ?|VB rfl T.z35 2 rfl|mE ( rJ hr.units ) ? ? ( KR _ )|NK ( zep rfl ) rfl T.Pl 2 ?|ME hx T.z4k rfl T.Pz ?|ME hx T.z4l rfl T.Qb ?|XD ( WB 1 hr.m hx1.passes rfl ? )|zam ? 11 ?|ze2 ? ? ? mK|O8 PySem.F.plainAttrs_list PySem.F.slot_list_extend PySem.F.type_list_extend ze4 ? ?|ME hx T.z4j rfl T.z4g ?|mE ( rK hr.units ) ? ? ( KR _ )|NK zc4 rfl T.z39 2 ?|WD T.z4e rfl|WD T.z4c rfl|O8 PySem.F.plainAttrs_str PySem.F.slot_str_find PySem.F.type_str_find zer ? ?|O8 PySem.F.plainAttrs_str PySem.F.slot_str_join PySem.F.type_str_join zef ? ?|O4 zd6 rfl T.Ph 2 ?|WD T.z4d rfl|Vy ? ? mK|lY nd rfl ( zg rfl )|Zp ( K0 hr ) ? ? ? 7|VB rfl T.Pj 2 rfl|LB ( KS ( zen hr.units ) ? ? 3 )|ME hx T.z4m rfl T.Qc ?|VB rfl T.Pm 2 rfl|ME hx T.z4n rfl T.z4h ?|O8 PySem.F.plainAttrs_dict PySem.F.slot_dict_update PySem.F.type_dict_update ? ? ?|zfb ( K0 hr )|ME hx T.z4o rfl T.Qd ?|Sj|zan rfl rfl rfl rfl 8 ?|rC rfl T.Pz rfl T.Qd|rC rfl T.Qb rfl T.Qc|zaj|LB ( KS ( qJ hr.units ) ? ? 3 )|O4 ? rfl T.Ph 2 ?|zi7 ?|zi8 hr".splitOn "|"
local macro_rules
 |`(command|example:($v:str,$x,*):=$t:term)=>do
  let a:=x.getElems
  let i:=fun (n:Lean.Name)=>Lean.mkIdent n
  let j:=fun (k:Nat)=>i (a[k]!).raw.getId
  let [v,c]:=v.getString.splitOn " "|Lean.Macro.throwUnsupported
  let d<-(dvC dvR.toArray 99).run' c.toList
  let f<-`(fun _ _ _ _ _ $(i `E) $(i `hr) $(i `hx)=>have $(i `sc):ident:=$(j 2);have $(i `nd):ident:=$(i `sc.nd);$d)
  let u:Array Lean.Term:=#[i `P,i `w,i `mg,i `base,a[4]!,<-`($(a[3]!) $(i `K) $(i `a)),j 2,a[7]!]
  let e<-if a.size=9 then `($(i `F.oK) $u* ($(i `len):ident:=$(a[8]!)) $f) else `($(i `F.oK) $u* $f)
  return Lean.mkNullNode #[<-`(command|abbrev $(j 1):ident:Stmt:=$t),<-`(command|def $(j 2):ident:A5 $(a[6]!) $(a[5]!) (AS $(j 1)):=.go),<-`(command|def $(j 0):ident ($(i `T):ident:Txt $(i `K) $(i `mg) $(i `a)) ($(i `F):ident:Fun $(i `K) $(Lean.Syntax.mkStrLit ((v.splitOn ".").getLast!)) $(Lean.Syntax.mkStrLit v) $(j 1) $(i `f) $(i `fd)):=$e)]
example:("View.records_led_to 37du160nZIZIoiÅA60040",z09,cX,cY,sT,0,1,["self"],zyd):=BT (top 11) 1
example:("View.records_standing 37du160nZIZIoiv0P0",z1a,cZ,c7,sU,0,1,["self"],zx9):=BT (top 11) 2
example:("View.pieces_named 37du160nZIZIoiÅ040",z1b,c8,c9,sV,0,1,["self"],zyc):=BT (top 11) 3
example:("View.count_of 37AA6004",z1c,dA,dB,sW,0,2,["self","record"],zx8):=BT (top 11) 4
example:("faults_of_names 25EU25EU25É2Vu160ÏnwZQwZQÐo3Cv0P2CxA60O0P3Lk01J9N0G2CyÑO003Lk01J9N0G3t0O0gG37H00",z1d,dC,dD,tE,0,1,["view","lost","twice","seen","k","value"],zym):=top 15
example:("left_pieces 2ju160nZIZIoic04037da0IicA6004JRNN0",z1e,dE,dF,ZO,0,1,["view","marked"],zye):=top 20
example:("marked_records 2ju160nZIZIoic04037da0IixA600PJ9N0",z1f,dG,dH,ZP,0,1,["view","marked"],zyf):=top 21
example:("tally 2jW10Ie42Va0Q3ð004370",z1g,dJ,dM,ZQ,0,2,["many","numbers","counts","number"],zyp):=top 23
example:("pieces_in 25EU2Va0Q3Cv0P3Lñ01O0G370",z1h,dN,dO,tL,0,1,["records","pieces","value"],zyq):=top 24
example:("Change.__init__ 2b002b003b00",z1i,dP,dQ,tM,0,4,["self","place","value","needs"],zvw):=BT (top 30) 0
example:("Book.waiting 37dW1f160IiyÒ0600",z1j,dR,dU,tN,0,1,["self"],zv2):=BT (top 31) 4
example:("Book.ask_for_changes 3Va0Q3CmÓ40f1603ò1NG",z1k,dW,dX,tQ,0,2,["self","numbers","number"],zv1):=BT (top 31) 10
example:("needs_with 2Cx0P37Þ1ß0G37Þ1ßH×10E10",z1l,dY,dZ,UL,0,2,["needs","ahead"],zvy):=top 32
example:("Hold.lack_of 2Va6A600Q3CpÊyÒ060ËyÒ00370G37P",z1m,d0,d6,tV,0,3,["self","number","gone","need"],zv7):=BT (top 34) 2
example:("Hold.laid_over 25×102VaA600Q3CyÑ0603Ô6A600à0A6A6004G370",z1n,d7,d8,tY,0,3,["self","values","block","laid","number"],zwa):=BT (top 34) 3
example:("is_sign 37áØN0Nâóô10õ",z1o,d9,eA,ZR,0,1,["sign"],zw3):=top 37
example:("is_name 37áØ4f10öâã1dæ0IeØN0N",z1p,eC,eE,ZS,0,1,["thing"],zw4):=top 41
example:("Store.hold 3760",z1q,eF,eG,t7,0,1,["self"],zxa):=BT (top 48) 12
example:("Plank.__init__ 2b0dW10IezJ1P02b003b04",z1r,eI,eJ,ZT,0,3,["self","blocks","cells"],zvq):=BT (top 52) 0
example:("Plank.blocks 37f160",z1s,eK,eL,uA,0,1,["self"],zvr):=BT (top 52) 1
example:("Plank.cells 3760",z1t,eO,eP,uB,0,1,["self"],zvs):=BT (top 52) 2
example:("Plank.writings 3760",z1u,eQ,eU,uC,0,1,["self"],z0p):=BT (top 52) 3
example:("Plank.ask_for_block 3CmÓ40f1603ä1NG",z1v,eV,eX,ZU,0,2,["self","block"],zvt):=BT (top 52) 6
example:("Layout.__init__ 2b002b002b003b00",z1w,eY,eZ,uE,0,5,["self","names","records","pieces","cells"],zwc):=BT (top 54) 0
example:("Layout.counts 37JRz6060z6060z6060",z1x,fA,fB,uF,0,1,["self"],zwl):=BT (top 54) 6
example:("Layout.blocks_ahead_of_marks 37HH606060",z1y,fC,fD,uG,0,1,["self"],zwj):=BT (top 54) 9
example:("Layout.place_from 37J9H0X060T060",z1z,fE,fF,uH,0,3,["self","block","k"],zwd):=BT (top 54) 10
example:("_law_cell_at 2CÕ0f1037A00G374",z10,fG,fH,ZV,0,2,["script","k"],zvp):=top 56
example:("_law_names 25N25N25X042VW1H4T04Q25H0A0TH0zz40TX044435HX04z4025TX04f1025A0TX04425A0THHX044TX044425A0THH÷01A004TX044437EF0SH00H00HHÂ0ÆÀ00Â0ÀH04ÆHH000",z11,fI,fJ,ZW,0,1,["cell","letters","base","rest","k","at","first","last","turned"],zz7):=top 57
example:("_law_text 2ÙN2ÙH0N25H4T042CcTX044435Ì4TX044G2ÙH4TX0442ÙH4TX04437øN1dW10IeA0THX04z0X004",z12,fK,fL,Z0,0,1,["cell","signs","many","step","wide"],z0c):=top 58
example:("_law_at 2CcTX044437ÌT044G37ÌT044",z13,fM,fN,Z1,0,1,["cell"],z0b):=top 59
example:("_law_free 2VW10Q3CpÃxÍ0A00PÇpÊq0ËcÍ0A004370G37Ú4",z14,fP,fQ,vG,0,4,["many","hand","places","also","k"],z0i):=top 62
example:("_law_change 2CyÑ0035H0E1r00G2t00f102Lk01JR00ß02t00037r00",z15,fR,fS,Z6,0,6,["hand","last","rows","place","value","needs"],z0f):=top 63
variable(z7d:BY P w K mg base (a "View") 1 "pieces_named" c9 (Q7 K a))(z7f:BY P w K mg base (a "View") 1 "records_standing" c7 (T9 K a))(z7c:BY P w K mg base (a "View") 1 "count_of" dB (UA K a))
example:("faults_of_things 2jaM0ÄIiÅA6004J9N02jaM0ÄIixA600PJ9N02jaM0ÄIiÕl0Ä10A600J9N037HH000",z16,fT,fU,Z7,1,1,["view","shared","empty","few"],zyj):=top 16
example:("faults_of_marks 2ju160nZIZIoiÅ0402ja0IisA6004JRNN02jaM0ÄIisA6004JRNN037H00",z17,fV,fW,Z8,1,1,["view","led_to","records","pieces"],zyi):=top 17
example:("leavings_of_records 25EU25EU2VaM0ÄQ25A6003Cc043Lk01JRNN03CÅ80Ä1003Lk01JRN00G37H00",z18,fX,fY,vS,1,1,["view","many","left","record","leads"],zyl):=top 19
variable(z6o:BY P w K mg base (a "Plank") 1 "blocks" eL (QJ K a))
example:("Book.__init__ 2b002b0EU2b0dW1M0hIeEU2b0È3b0É",z19,fZ,gA,Z9,1,2,["self","plank"],zvx):=BT (top 31) 0
variable(z52:BY P w K mg base (a "Hold") 1 "ask_for_changes" dX (TN K a))
example:("Book.needed 2L80Y1E1037×16A600",z2a,gB,gC,aA,1,2,["self","number"],z0o):=BT (top 31) 5
variable(z6p:BY P w K mg base (a "Plank") 1 "cells" eP (XH K a))
example:("Book.ask_for_place 3CpÃmÓ4O0M60hÇmÓ4O0M60h3ä1NG",z2b,gD,gE,vX,1,2,["self","place"],zvz):=BT (top 31) 9
variable(z56:BY P w K mg base (a "Hold") 1 "lack_of" d6 (YD K a))
example:("Hold.outcome 25ù1025EU25EU2VaA600Q3CpÊyÒ060ËyÒ002580Y9003Cx0P2t00g3Lk0103Lk01J900G37J900",z2c,gF,gG,aB,1,3,["self","block","taken","gone","out","held","number","lack"],zv9):=BT (top 34) 1
variable(z43:CA P w K mg base 1 "is_sign" eA (YJ K a))
example:("is_piece 37áØ4f10úâã1dæ0Ieç10",z2d,gH,gI,aC,1,1,["thing"],zw5):=top 42
variable(z6n:BY P w K mg base (a "Plank") 1 "ask_for_block" eX (NW K a))
example:("Plank.read 2L80h1037×1A600",z2e,gJ,gK,aD,1,2,["self","block"],zvu):=BT (top 52) 4
example:("Plank.write 2L80h102Csf10603ä1NG2ÔÞ10à6003û04",z2f,gL,gM,aE,1,3,["self","block","values"],zvv):=BT (top 52) 5
variable(z6j:BY P w K mg base (a "Layout") 1 "place_from" fF (MM K a))
example:("Layout.name_at 3780D940",z2g,gO,gP,wU,1,2,["self","k"],zwe):=BT (top 54) 1
example:("Layout.record_at 3780D9600",z2h,gQ,gR,wV,1,2,["self","k"],zwf):=BT (top 54) 2
example:("Layout.piece_at 3780D9H60600",z2i,gS,gT,wW,1,2,["self","k"],zwg):=BT (top 54) 3
variable(z6e:BY P w K mg base (a "Layout") 1 "blocks_ahead_of_marks" fD (QQ K a))
example:("Layout.record_mark 3780D9M0D0",z2j,gU,gW,wX,1,2,["self","k"],zwh):=BT (top 54) 4
example:("Layout.piece_mark 3780D9HM0D600",z2k,gX,gY,wY,1,2,["self","k"],zwi):=BT (top 54) 5
example:("Layout.blocks 37HHM0D6060",z2l,gZ,hE,wZ,1,1,["self"],zwk):=BT (top 54) 7
variable(z4w:CA P w K mg base 1 "faults_of_names" dD (YV K a))(z4x:CA P w K mg base 2 "faults_of_things" fU (YW K a))(z4v:CA P w K mg base 2 "faults_of_marks" fW (YX K a))
example:("faults_in 37HHB10B10B10",z2m,hG,hR,w5,2,1,["view"],zyg):=top 14
variable(z5q:CA P w K mg base 2 "leavings_of_records" fY (YY K a))(z5r:CA P w K mg base 1 "left_pieces" dF (YZ K a))(z5t:CA P w K mg base 1 "marked_records" dH (Y0 K a))
example:("leavings_in 37HHB10B10B10",z2n,hU,hV,w8,2,1,["view"],zyh):=top 18
variable(z6q:BY P w K mg base (a "Plank") 2 "read" gK (KI K a))
example:("values_at 37da0nZIZIoeAl0h100",z2o,hW,hX,w9,2,2,["plank","places"],zyo):=top 22
variable(z6l:BY P w K mg base (a "Layout") 2 "record_at" gR (GH K a))(z6m:BY P w K mg base (a "Layout") 2 "record_mark" gW (IH K a))(z6i:BY P w K mg base (a "Layout") 2 "piece_mark" gY (HG K a))
example:("mended_cells 2CcO0N2580D1O037ÛÖ0J9O0AA80h1O0O04ÜG2CcO0N37ÛÖ80D1O04ÜG2CcO0N37ÛÖ80D1O0PÖ80D1O04ÜG37ÛÖ80D1O04Ü",z2p,hZ,iC,aF,2,3,["layout","plank","find","place"],zzb):=top 27
variable(z6r:BY P w K mg base (a "Plank") 2 "write" gM (S6 K a))
example:("write_due 3VW1M0hü2580h102ju10nZIZIoeý0J90003Cs003L80h900G",z2q,iD,iE,aG,2,2,["plank","due","block","before","after"],zzf):=top 28
variable(z53:BY P w K mg base (a "Hold") 2 "ask_for_place" gE (X9 K a))
example:("Book.newest 2L80Y1037Í600",z2r,iF,iG,xK,2,2,["self","place"],zv0):=BT (top 31) 3
variable(z6a:BY P w K mg base (a "Hold") 2 "outcome" gG (YE K a))(z57:BY P w K mg base (a "Hold") 1 "laid_over" d8 (YF K a))
example:("Hold.write 25860h102580Y90É2VaO0Q3t600g2L860h9080Y900370",z2s,iH,iI,xM,2,2,["self","block","values","told","number"],zwb):=BT (top 34) 0
variable(z6d:BY P w K mg base (a "Layout") 2 "blocks" hE (MN K a))(z7j:NQ P w K mg base (a "Plank") 1 "Plank" eJ (XG K a))
example:("Layout.plank 37Á9M0D60",z2t,iJ,iK,xN,2,1,["self"],zwm):=BT (top 54) 8
variable(z6f:BY P w K mg base (a "Layout") 1 "counts" fB (HH K a))(z6g:BY P w K mg base (a "Layout") 2 "name_at" gP (G1 K a))
example:("_law_cell_of 2VW1AM0D4Q25Í080D103CpÊv0PËcO00370G37Ú4",z2u,iL,iN,aH,2,3,["layout","hand","name","k","value"],z0j):=top 61
variable(z5b:CA P w K mg base 1 "_law_free" fQ (RA K a))(z49:CA P w K mg base 1 "_law_change" fS (EY K a))
example:("_law_lead 2jW1AM0D4Iel0D1025A0BSf1000g25E102CyÑ003Lk01r00G37BF0F0S00J9000",z2v,iO,iP,aJ,2,8,["layout","hand","last","rows","taken","name","number","need","names","place","needs"],z0k):=top 64
variable(z58:BY P w K mg base (a "Hold") 2 "needed" gC (YB K a))
example:("_law_told_right 2CpÃmqÝ90þÇs0dè90f10Ie037gG2Vè90f10Q3CpÃqÝ9A0Ì00éÇs80Y10AA00437gG37g",z2w,iQ,iR,aK,2,4,["hold","told","rows","start","k"],z0q):=top 68
example:("_law_shown 2VW1M0DQ2580h103VW1f10Q3CpÃsA00Í0J900ÇqÝ9A00é37gG37g",z2x,iS,iT,aL,2,3,["layout","plank","shown","block","values","k"],z0u):=top 70
example:("_law_plank 25È2VW1M0DQ2580h103VW1f10Q3CvA00P3t0J900A00G370",z2y,iU,iV,yL,2,2,["layout","plank","there","block","values","k"],z0z):=top 72
variable(z5z:CA P w K mg base 3 "values_at" hX (LN K a))(z6h:BY P w K mg base (a "Layout") 2 "piece_at" gT (N0 K a))(z5y:CA P w K mg base 1 "tally" dM (Q6 K a))(z5x:CA P w K mg base 1 "pieces_in" dO (T8 K a))(z7e:BY P w K mg base (a "View") 1 "records_led_to" cY (YU K a))
example:("View.__init__ 25M0D25O025O02b0B90dW1O0Iel0D102b0B90dW10Iel0D102b0B90dW10Iel0D102b0B90dW10Iel0D102b0B90dW10Iel0D102b0B90da60Iiv0PO02b0B90B1603b0B90B1M0Ä",z2z,iW,iX,yU,3,3,["self","layout","plank","counts","records","pieces"],zyv):=BT (top 11) 0
variable(z59:BY P w K mg base (a "Hold") 3 "newest" iG (QS K a))(z5w:CA P w K mg base 1 "needs_with" dZ (X8 K a))(z7g:NQ P w K mg base (a "Change") 1 "Change" dQ (X7 K a))
example:("Book.change 2580Y102L80Y1025f1602Lk601ÁR00B9002LkA60O0102t6000370",z20,iY,iZ,yV,3,4,["self","place","value","needs","ahead","number"],zv3):=BT (top 31) 1
example:("Book.in_hand 2580Y102Cx0P37A860h1O0O0G376A600",z21,i4,i5,yW,3,2,["self","place","number"],zv6):=BT (top 31) 2
variable(z7h:NQ P w K mg base (a "Hold") 2 "Hold" gA (TM K a))
example:("Store.__init__ 2b002b0Á103b0É",z22,i6,i7,yX,3,3,["self","layout","plank"],zxb):=BT (top 48) 0
variable(z6c:BY P w K mg base (a "Hold") 3 "write" iI (YG K a))
example:("Store.write 37860Y10",z23,i8,i9,yY,3,2,["self","block"],z0e):=BT (top 48) 10
variable(z5d:CA P w K mg base 3 "_law_lead" iP (RB K a))
example:("_law_make 2jW1AM0D4Iel0D1025BSf1000g25BF0F0S0A004EU25BF0F0S080D10J94JUE103LBF0F0F0F0S0000",z24,jA,jB,aM,3,6,["layout","hand","last","rows","taken","name","marks","number","mark","record"],z0l):=top 65
variable(z48:CA P w K mg base 3 "_law_cell_of" iN (UG K a))
example:("_law_way 2580D1BR00025Ar0042580D102Ôr00ÏnwZQwZQÐo2Cs0425BF0F0S00J9H040EU25BF0F0F0F0S00002Cc042t00BF0F0S00PE103LBF0F0S00J900E1r00G3åG2t00BF0F0S00PEU2CÅ042LBF0F0S00J9Ì040E1r003åG25BF0F0S00PE1r002Va0Q3LBF0F0S080D104E103LBF0F0S080D104E10",z25,jC,jD,aO,3,8,["layout","hand","last","rows","taken","kind","one","other","place","number","record","count","pieces","more","led","gone","p"],z0m):=top 66
variable(z45:CA P w K mg base 1 "_law_at" fN (UF K a))(z5l:CA P w K mg base 1 "_law_text" fL (UE K a))
example:("_law_pieces 2580D1Ar080D1BR00042Ôr00ÏnwZQwZQÐo2Cc0425B1025BF0F0S00J90HÂ0ÆÀ0Â0ÀH04ÆEU2LBF0F0S080D1A004E103åG2jW1AM0D4Iel0D1025BSf1000g25BF0F0S0A004EU25BF0F0S080D10B10E103LBF0F0S00J90H0J10E10",z26,jE,jF,aP,3,7,["layout","hand","last","rows","kind","one","cell","record","count","pieces","at","gone","marks","p","mark","piece"],z0n):=top 67
variable(z55:BY P w K mg base (a "Hold") 4 "in_hand" i5 (N4 K a))
example:("lowest_with 2Vu10ÏnwZQwZQÐo3Cÿ80Y100370G3Ā1N",z27,jG,jH,Aj,4,3,["hold","places","values","k","place"],zwr):=top 46
example:("Store.name_cells 37dW1AM60D4Iel60Y1l60D10",z28,jI,jJ,aQ,4,1,["self"],zxc):=BT (top 48) 16
example:("Store.standing 37860Y1860D10",z29,jK,jL,aR,4,2,["self","record"],zxg):=BT (top 48) 17
variable(z54:BY P w K mg base (a "Hold") 4 "change" iZ (GK K a))
example:("Store.fill_cell 25E102CyÑ0603Lk01r600G37860YR860D10J9000",z3a,jM,jN,aT,4,5,["self","cell","name","record","need","needs"],zxi):=BT (top 48) 18
example:("_law_hand_right 2VaÂ0À0ÆQ3CpÃs80Y1O0r0O0Çs80Y1O0r0O037gG37g",z3b,jO,jP,Aq,4,5,["hold","hand","last","rows","start","row"],z0r):=top 69
variable(z6s:BY P w K mg base (a "Plank") 1 "writings" eU (NV K a))(z7b:BY P w K mg base (a "Store") 4 "write" i9 (UC K a))(z5k:CA P w K mg base 3 "_law_shown" iT (ZF K a))
example:("_law_written 25EU25EU2VW1f10Q2Cc0f103Lk01gG3CpÊmqA00ËcAAA004402jaAA004IimqA0003Cc0EU2Ôgà002Lk0103t0AA004AA0043Lk01J90O0G25M0h2580K102CpÃmqÝ90āÃs0J900ÇsM0hH0437gG37BR000",z3c,jQ,jR,aV,4,7,["layout","plank","store","rows","gone","shown","block","out","held","k","lacking","before","told"],z0x):=top 71
variable(z7l:NQ P w K mg base (a "View") 4 "View" iX (Q8 K a))(z4u:CA P w K mg base 3 "faults_in" hR (UB K a))(z5p:CA P w K mg base 3 "leavings_in" hV (Y1 K a))
example:("walk 25Á90037HB10B10",z3d,jS,jT,Bv,5,2,["layout","plank","view"],zyw):=top 12
example:("is_sound 37êf1B1Á9004",z3e,jU,jV,aW,5,2,["layout","plank"],zyx):=top 13
variable(z5s:CA P w K mg base 5 "lowest_with" jH (N5 K a))
example:("free_name 2jW1AM0D4Iel0D1037BR00J1P",z3f,jW,jX,aX,5,2,["layout","hold","places"],zwu):=top 43
example:("free_record 2jW1AM0D4Iel0D1037BR00J9P4",z3g,jY,jZ,aY,5,2,["layout","hold","marks"],zwv):=top 44
example:("free_piece 2jW1AM0D4Iel0D1037BR00J9P4",z3h,j2,j5,aZ,5,2,["layout","hold","marks"],zww):=top 45
variable(z63:BY P w K mg base (a "Store") 5 "name_cells" jJ (QX K a))
example:("Store.names 37ë1daM0KIiv0PO0",z3i,j6,j7,a0,5,1,["self"],zxe):=BT (top 48) 7
example:("Store.cell_of 2Vu1M0KÏnwZQwZQÐo3CpÊv0PËcO00370G37P",z3j,j8,j9,Cg,5,2,["self","name","cell","value"],zxd):=BT (top 48) 15
variable(z69:BY P w K mg base (a "Store") 5 "standing" jL (LH K a))
example:("Store.recount 2580K1037860YR860D10J9HO00O00",z3k,kA,kC,Ck,5,4,["self","record","more","needs","value"],zxk):=BT (top 48) 20
example:("Store.regroup 37860YR860D10J9A80K10400",z3l,kD,kE,bA,5,4,["self","record","pieces","needs"],zxl):=BT (top 48) 21
example:("Store.drop_record 25A80K10425860YR860D10PE1025E102VaHda0Iel60D10E1860D10Q3Lk01860YR04E10370",z3m,kF,kG,Cw,5,3,["self","record","gone","pieces","dropped","made","mark"],zxp):=BT (top 48) 22
variable(z44:CA P w K mg base 6 "is_sound" jV (Y3 K a))(z50:CA P w K mg base 6 "walk" jT (Y2 K a))(z5v:CA P w K mg base 3 "mended_cells" iC (Y4 K a))(z51:CA P w K mg base 3 "write_due" iE (Y5 K a))
example:("mend 2CmqB9003Ă1NG25B90025È2Va0Q3LăĄ01BR0002LB900370",z3n,kH,kI,bB,6,2,["layout","plank","finds","due","find"],zzy):=top 26
variable(z41:CA P w K mg base 1 "is_name" eE (YK K a))(z6u:BY P w K mg base (a "Store") 6 "cell_of" j9 (QY K a))
example:("Store.ask_for_new_name 2Cmqã1da0Ieç103ì1NG3Cv80K10P3ą1NG",z3o,kJ,kK,bC,6,3,["self","new","given"],zxf):=BT (top 48) 13
example:("Store.record_of 2580K102Cx0P3ì1NG37AAM0K04",z3p,kM,kO,Dc,6,2,["self","name","cell"],zxh):=BT (top 48) 14
example:("Store.empty_cell 25860YR860D180K10P02t6000370",z3q,kP,kQ,bD,6,3,["self","name","needs","gone"],zxn):=BT (top 48) 19
variable(z64:BY P w K mg base (a "Store") 6 "names" j7 (YM K a))
example:("_law_names_right 25EU2VW1AM0D4Q25Í080D103Cv0P3Lk01O0G37êM0Kë10",z3r,kR,kS,Dl,6,3,["layout","store","hand","due","k","value"],z01):=top 74
variable(z6t:BY P w K mg base (a "Store") 7 "ask_for_new_name" kK (TY K a))(z40:CA P w K mg base 6 "free_record" jZ (YH K a))(z4y:CA P w K mg base 6 "free_name" jX (TU K a))(z6y:BY P w K mg base (a "Store") 5 "fill_cell" jN (T2 K a))
example:("Store.make 2L80K90E1025B9606025B9606025860YR860D104EU25860YR860D10J94JUE1037ER0080KS0000",z3s,kT,kU,bE,7,2,["self","name","record","cell","mark","stands"],zxq):=BT (top 48) 1
variable(z66:BY P w K mg base (a "Store") 7 "record_of" kO (MP K a))(z67:BY P w K mg base (a "Store") 6 "recount" kC (QZ K a))
example:("Store.link 2L80K90E9002580K1025B960602580KR04EU37E9080KS0000",z3t,kW,kX,bF,7,3,["self","old","new","record","cell","more"],zxr):=BT (top 48) 2
variable(z6x:BY P w K mg base (a "Store") 7 "empty_cell" kQ (T6 K a))(z6w:BY P w K mg base (a "Store") 6 "drop_record" kG (YN K a))
example:("Store.cut 2580K102580K90EU2CÅA80K104437E9080KR0Ú4E10G37HE1080K900",z3u,kY,kZ,Eb,7,2,["self","name","record","gone"],zxt):=BT (top 48) 3
variable(z42:CA P w K mg base 2 "is_piece" gI (YL K a))(z4z:CA P w K mg base 6 "free_piece" j5 (YI K a))(z68:BY P w K mg base (a "Store") 6 "regroup" kE (T5 K a))
example:("Store.put 2580K102CmqB103í1NG25B9606025860YR860D104EU25860YR860D100E1037ER0080KR0HA80K104J10E10",z3v,k8,k9,Eh,7,3,["self","name","text","record","piece","mark","filled"],zxu):=BT (top 48) 4
example:("Store.take 2580K1025A80K1042CmÓ40f103í1NG2580KR0HÂ0ÆÀ0Â0ÀH04ÆEU37E90860YR860D1A004E10",z3w,lA,lB,El,7,3,["self","name","at","record","pieces","without"],zxv):=BT (top 48) 5
variable(z5u:CA P w K mg base 7 "mend" kI (Y6 K a))(z7k:NQ P w K mg base (a "Store") 4 "Store" i7 (N7 K a))
example:("come_up 2LB90037Á900",z3x,lC,lD,Em,7,2,["layout","plank"],zzz):=top 50
variable(z60:BY P w K mg base (a "Store") 8 "link" kX (T7 K a))
example:("Store.move 2580K9002580K102580K90E1O037H0E9080KR0Ú4E10",z3y,lE,lF,Ew,8,3,["self","old","new","linked","record","gone"],zxx):=BT (top 48) 6
variable(z4t:CA P w K mg base 8 "come_up" lD (Y7 K a))(z6z:BY P w K mg base (a "Store") 1 "hold" eG (TX K a))(z6b:BY P w K mg base (a "Hold") 1 "waiting" dU (YA K a))
example:("_law_begun 2CcT04437B900G2VW1z4ÌT044Q2VW1M0DQ3L80K103CcMM0KYEU3ĆG25M0h25Á9002CsM0h037PG370",z3z,lG,lH,bK,8,4,["layout","plank","store","cell","turn","block","before","found"],z00):=top 73
variable(z61:BY P w K mg base (a "Store") 8 "make" kU (YO K a))(z6v:BY P w K mg base (a "Store") 8 "cut" kZ (YQ K a))(z65:BY P w K mg base (a "Store") 8 "put" k9 (YR K a))(z7a:BY P w K mg base (a "Store") 8 "take" lB (YS K a))(z62:BY P w K mg base (a "Store") 9 "move" lF (YT K a))
example:("_law_done 25P2ć3CÕ0435Î0K103Cc0435Î0K9003Cc0435Î0K103CÕ0435Î0K90î103Cc0435Î0K90î1035Î0K900ïĈ35Pïĉ35PĊ370",z30,lI,lJ,bN,9,5,["store","kind","one","other","cell","told"],z0d):=top 60
variable(z5o:CA P w K mg base 5 "_law_written" jR (RC K a))(z5a:CA P w K mg base 10 "_law_done" lJ (Y9 K a))(z5e:CA P w K mg base 4 "_law_make" jB (ZA K a))(z5n:CA P w K mg base 4 "_law_way" jD (ZB K a))(z5i:CA P w K mg base 4 "_law_pieces" jF (ZC K a))(z5m:CA P w K mg base 3 "_law_told_right" iR (ZD K a))(z5c:CA P w K mg base 5 "_law_hand_right" jP (ZE K a))
example:("_law_one 25T0425A0TX0442Cc0437BF0F0F0S000TX04M0DG25BF0S00A0TX044X042Cx0P37gG25f102CÕ043LBF0F0S00003Cċ0JR4443LBF0F0F0F0S000A0TX0443LBF0F0F0S000X042CmqBS000037gG37BF0S0000",z31,lK,lL,bQ,10,12,["layout","plank","store","hold","hand","last","taken","rows","gone","shown","cell","names","kind","one","told","start"],z03):=top 75
variable(z47:CA P w K mg base 1 "_law_cell_at" fH (X6 K a))(z7i:NQ P w K mg base (a "Layout") 1 "Layout" eZ (X0 K a))(z6k:BY P w K mg base (a "Layout") 3 "plank" iK (X3 K a))(z5f:CA P w K mg base 1 "_law_names" fJ (Y8 K a))(z46:CA P w K mg base 9 "_law_begun" lH (ZH K a))(z5j:CA P w K mg base 3 "_law_plank" iV (ZG K a))(z5h:CA P w K mg base 11 "_law_one" lL (ZK K a))(z5g:CA P w K mg base 7 "_law_names_right" kS (ZI K a))
example:("law 25B90425ÁSH4T04H4TX044H4TX044H4TX04425M0D25Á90025B1X0425È25È25É25EU25EU25È2VaÂ0À4À4Q2CcTX044425BS000X042Cx0P37gG25B90025ČčĎ1025È25É25EU35EUG25M0K2CmqBF0F0F0F0F0F0F0F0S000037gG3CmqBR00037gG37g",z32,lM,Pg,bT,11,1,["script","cell","layout","plank","store","names","hand","last","taken","rows","gone","shown","hold"],z06):=top 76
end
def z33(b c d e g i j l n o q r u:Addr):∃ a:Ad,a "NoBlock"=b/\a "NoChange"=c/\a "NoRoom"=d/\a "NoName"=e/\a "Twice"=g/\a "NoPiece"=i/\a "NotSound"=j/\a "View"=l/\a "Change"=n/\a "Hold"=o/\a "Store"=q/\a "Plank"=r/\a "Layout"=u :=
 {λs=>(([("NoBlock",b),("NoChange",c),("NoRoom",d),("NoName",e),("Twice",g),("NoPiece",i),("NotSound",j),("View",l),("Change",n),("Hold",o),("Store",q),("Plank",r),("Layout",u)]:List (String × Addr)).lookup s).getD 0,rfl,rfl,rfl,rfl,rfl,rfl,rfl,rfl,rfl,rfl,rfl,rfl,rfl}
def lN(K:W.Frag):Sp:=λvs H Q _=>∃ (s:Addr) (ns:List Int),vs=[.ref s]/\SqL K H s (ns.map V.int)/\ns.length<=63/\∀ a,Q (.bl true) a
local macro_rules
 | `(tactic| injections)=>`(tactic| skip)
 | `(tactic| injections $x:ident $y*)=>`(tactic| ((first|have:=gmc (ok:=by intro _ _ F;apply $x<;>assumption)|have:=gfc (ok:=by intro _ _ F;apply $x<;>assumption)|have:=gnc (ok:=by intro _ _ F;apply $x<;>assumption));injections $y*))
def all_mk{P:bu}{w:World}{K:W.Frag}{h:Heap}{mg:Str->Option Value}{fa:Addr}{u x n j l o y g r c b i d:Addr}{tk_MOST_LETTERS:Tok}{tk_MOST_PIECE_SIGNS:Tok}{tk_PERCENT:Tok}(X:K.In h)(G:h.Ns bw mg)(I:mg "law"=some (.ref fa))
  (A:GX K u "NoBlock")
  (q1:GX K x "NoChange")
  (q2:GX K n "NoRoom")
  (q3:GX K j "NoName")
  (q4:GX K l "Twice")
  (B:GX K o "NoPiece")
  (D:GX K y "NotSound")
  (q7:GC K g "View")
  (q8:GC K r "Change")
  (q9:GC K c "Hold")
  (qa:GC K b "Store")
  (qb:GC K i "Plank")
  (qc:GC K d "Layout")
  (qd:W.nsIn K bw "MOST_LETTERS"=some (some<|.int 8 tk_MOST_LETTERS))
  (qe:W.nsIn K bw "MOST_PIECE_SIGNS"=some (some<|.int 40 tk_MOST_PIECE_SIGNS))
  (qf:W.nsIn K bw "PERCENT"=some (some<|.int 37 tk_PERCENT))
  (qg:W.nsIn K bw "all"=some none)
  (qh:W.nsIn K bw "bool"=some none)
  (qi:W.nsIn K bw "dict"=some none)
  (qj:W.nsIn K bw "enumerate"=some none)
  (qk:W.nsIn K bw "isinstance"=some none)
  (ql:W.nsIn K bw "len"=some none)
  (qm:W.nsIn K bw "list"=some none)
  (qn:W.nsIn K bw "ord"=some none)
  (qo:W.nsIn K bw "range"=some none)
  (qp:W.nsIn K bw "set"=some none)
  (qq:W.nsIn K bw "sorted"=some none)
  (qr:W.nsIn K bw "tuple"=some none)
  (qs:GF K "law" lM)
  (_:GM K g "pieces_named" "View.pieces_named" c8)
  (_:GM K g "records_standing" "View.records_standing" cZ)
  (_:GM K g "count_of" "View.count_of" dA)
  (_:GM K i "blocks" "Plank.blocks" eK)
  (_:GM K c "ask_for_changes" "Book.ask_for_changes" dW)
  (_:GM K i "cells" "Plank.cells" eO)
  (_:GM K c "lack_of" "Hold.lack_of" d0)
  (_:GF K "is_sign" d9)
  (_:GM K i "ask_for_block" "Plank.ask_for_block" eV)
  (_:GM K d "place_from" "Layout.place_from" fE)
  (_:GM K d "blocks_ahead_of_marks" "Layout.blocks_ahead_of_marks" fC)
  (_:GF K "faults_of_names" dC)
  (_:GF K "faults_of_things" fT)
  (_:GF K "faults_of_marks" fV)
  (_:GF K "leavings_of_records" fX)
  (_:GF K "left_pieces" dE)
  (_:GF K "marked_records" dG)
  (_:GM K i "read" "Plank.read" gJ)
  (_:GM K d "record_at" "Layout.record_at" gQ)
  (_:GM K d "record_mark" "Layout.record_mark" gU)
  (_:GM K d "piece_mark" "Layout.piece_mark" gX)
  (_:GM K i "write" "Plank.write" gL)
  (_:GM K c "ask_for_place" "Book.ask_for_place" gD)
  (_:GM K c "outcome" "Hold.outcome" gF)
  (_:GM K c "laid_over" "Hold.laid_over" d7)
  (_:GM K d "blocks" "Layout.blocks" gZ)
  (_:GN K i "Plank" "Plank.__init__" eI)
  (_:GM K d "counts" "Layout.counts" fA)
  (_:GM K d "name_at" "Layout.name_at" gO)
  (_:GF K "_law_free" fP)
  (_:GF K "_law_change" fR)
  (_:GM K c "needed" "Book.needed" gB)
  (_:GF K "values_at" hW)
  (_:GM K d "piece_at" "Layout.piece_at" gS)
  (_:GF K "tally" dJ)
  (_:GF K "pieces_in" dN)
  (_:GM K g "records_led_to" "View.records_led_to" cX)
  (_:GM K c "newest" "Book.newest" iF)
  (_:GF K "needs_with" dY)
  (_:GN K r "Change" "Change.__init__" dP)
  (_:GN K c "Hold" "Book.__init__" fZ)
  (_:GM K c "write" "Hold.write" iH)
  (_:GF K "_law_lead" iO)
  (_:GF K "_law_cell_of" iL)
  (_:GF K "_law_at" fM)
  (_:GF K "_law_text" fK)
  (_:GM K c "in_hand" "Book.in_hand" i4)
  (_:GM K c "change" "Book.change" iY)
  (_:GM K i "writings" "Plank.writings" eQ)
  (_:GM K b "write" "Store.write" i8)
  (_:GF K "_law_shown" iS)
  (_:GN K g "View" "View.__init__" iW)
  (_:GF K "faults_in" hG)
  (_:GF K "leavings_in" hU)
  (_:GF K "lowest_with" jG)
  (_:GM K b "name_cells" "Store.name_cells" jI)
  (_:GM K b "standing" "Store.standing" jK)
  (_:GF K "is_sound" jU)
  (_:GF K "walk" jS)
  (_:GF K "mended_cells" hZ)
  (_:GF K "write_due" iD)
  (_:GF K "is_name" eC)
  (_:GM K b "cell_of" "Store.cell_of" j8)
  (_:GM K b "names" "Store.names" j6)
  (_:GM K b "ask_for_new_name" "Store.ask_for_new_name" kJ)
  (_:GF K "free_record" jY)
  (_:GF K "free_name" jW)
  (_:GM K b "fill_cell" "Store.fill_cell" jM)
  (_:GM K b "record_of" "Store.record_of" kM)
  (_:GM K b "recount" "Store.recount" kA)
  (_:GM K b "empty_cell" "Store.empty_cell" kP)
  (_:GM K b "drop_record" "Store.drop_record" kF)
  (_:GF K "is_piece" gH)
  (_:GF K "free_piece" j2)
  (_:GM K b "regroup" "Store.regroup" kD)
  (_:GF K "mend" kH)
  (_:GN K b "Store" "Store.__init__" i6)
  (_:GM K b "link" "Store.link" kW)
  (_:GF K "come_up" lC)
  (_:GM K b "hold" "Store.hold" eF)
  (_:GM K c "waiting" "Book.waiting" dR)
  (_:GM K b "make" "Store.make" kT)
  (_:GM K b "cut" "Store.cut" kY)
  (_:GM K b "put" "Store.put" k8)
  (_:GM K b "take" "Store.take" lA)
  (_:GM K b "move" "Store.move" lE)
  (_:GF K "_law_written" jQ)
  (_:GF K "_law_done" lI)
  (_:GF K "_law_make" jA)
  (_:GF K "_law_way" jC)
  (_:GF K "_law_pieces" jE)
  (_:GF K "_law_told_right" iQ)
  (_:GF K "_law_hand_right" jO)
  (_:GF K "_law_cell_at" fG)
  (_:GN K d "Layout" "Layout.__init__" eY)
  (_:GM K d "plank" "Layout.plank" iJ)
  (_:GF K "_law_names" fI)
  (_:GF K "_law_begun" lG)
  (_:GF K "_law_plank" iU)
  (_:GF K "_law_one" lK)
  (_:GF K "_law_names_right" kR)
  (J:W.findIn K (.ref i) "contents"=some none)
  (L:W.findIn K (.ref i) "width"=some none)
  (M:W.findIn K (.ref i) "written"=some none)
  (N:W.findIn K (.ref c) "ground"=some none)
  (O:W.findIn K (.ref c) "made"=some none)
  (U:W.findIn K (.ref c) "made_in"=some none)
  (Y:W.findIn K (.ref c) "latest"=some none)
  (q3t:W.findIn K (.ref c) "outs"=some none)
  (q3u:W.findIn K (.ref r) "place"=some none)
  (q3v:W.findIn K (.ref r) "value"=some none)
  (q3w:W.findIn K (.ref r) "needs"=some none)
  (q3x:W.findIn K (.ref d) "name_blocks"=some none)
  (q3y:W.findIn K (.ref d) "record_blocks"=some none)
  (q3z:W.findIn K (.ref d) "piece_blocks"=some none)
  (q40:W.findIn K (.ref d) "width"=some none)
  (q41:W.findIn K (.ref b) "plan"=some none)
  (q42:W.findIn K (.ref b) "book"=some none)
  (q43:W.findIn K (.ref b) "taken_out"=some none)
  (q44:W.findIn K (.ref g) "name_values"=some none)
  (q45:W.findIn K (.ref g) "record_values"=some none)
  (q46:W.findIn K (.ref g) "piece_values"=some none)
  (q47:W.findIn K (.ref g) "record_marks"=some none)
  (q48:W.findIn K (.ref g) "piece_marks"=some none)
  (q49:W.findIn K (.ref g) "leads"=some none)
  (q4a:W.findIn K (.ref g) "namings"=some none)
  (q4b:W.findIn K (.ref g) "reached"=some none)
  (q4c:W.exmAny K (.ref j) [.ref j,.ref l]=some true)
  (q4d:W.exmAny K (.ref l) [.ref j,.ref l]=some true)
  (q4e:W.exmAny K (.ref o) [.ref j,.ref l]=some false)
  (q4f:W.exmAny K (.ref o) [.ref o,.ref n]=some true)
  (q4g:W.exmAny K (.ref n) [.ref j,.ref l]=some false)
  (q4h:W.exmAny K (.ref n) [.ref o,.ref n]=some true) :
  ∃ fd:gi,(∀ (s:ν) (v:Value),wu s fd {[v],[]} [("script",v)])/\∀ base:Heap,K.In base->base.Ns bw mg->FnOk P w K mg base (ED P w) 12 fa fd ["script"] (lN K):=by
 let[a,rfl,rfl,rfl,rfl,rfl,rfl,rfl,rfl,rfl,rfl,rfl,rfl,rfl]:=z33 u x n j l o y g r c b i d
 have T:Txt K mg a:={q8.c,q9.c,qc.c,qb.c,qa.c,q7.c,{_,W.mg_of X G qd,_,rfl},{_,W.mg_of X G qe,_,rfl},W.mg_of X G A.ac,{_,W.mg_of X G A.ac,rfl},{⟨_,A.ac⟩,A.ex},W.mg_of X G q1.ac,{_,W.mg_of X G q1.ac,rfl},{⟨_,q1.ac⟩,q1.ex},W.mg_of X G q3.ac,{_,W.mg_of X G q3.ac,rfl},{⟨_,q3.ac⟩,q3.ex},W.mg_of X G B.ac,{_,W.mg_of X G B.ac,rfl},{⟨_,B.ac⟩,B.ex},W.mg_of X G q2.ac,{_,W.mg_of X G q2.ac,rfl},{⟨_,q2.ac⟩,q2.ex},W.mg_of X G D.ac,{_,W.mg_of X G D.ac,rfl},{⟨_,D.ac⟩,D.ex},{_,W.mg_of X G qf,_,rfl},W.mg_of X G q4.ac,{_,W.mg_of X G q4.ac,rfl},{⟨_,q4.ac⟩,q4.ex},W.mg_none_of X G qg,W.mg_none_of X G qh,W.mg_none_of X G qi,W.mg_none_of X G qj,W.mg_none_of X G qk,W.mg_none_of X G ql,W.mg_none_of X G qm,W.mg_none_of X G qn,W.mg_none_of X G qo,W.mg_none_of X G qp,W.mg_none_of X G qq,W.mg_none_of X G qr}
 have TPk:DL K a:=⟨T.Pw,J,L,M⟩
 have TBk:rX K (a "Hold") (a "Change"):=⟨T.Pp,N,O,U,Y,q3t,T.z4b,q3u,q3v,q3w⟩
 have TLy:DH K a:=⟨T.Pq,q3x,q3y,q3z,q40⟩
 have TSt:QW K a:=⟨T.Px,q41,q42,q43⟩
 have TVw:TV K a:=⟨T.Py,q44,q45,q46,q47,q48,q49,q4a,q4b⟩
 have TRm:TD K a:=⟨q4c,q4d,q4e,q4f,q4g,q4h⟩
 let[fd,hb,F]:=qs.law X G I<|λz z z z z z z z=>.of_eq rfl;refine{fd,hb,λbase z z=>?_}
 injections z09 z1a z1b z1c z1d z1e z1f z1g z1h z1i z1j z1k z1l z1m z1n z1o z1p z1q z1r z1s z1t z1u z1v z1w z1x z1y z1z z10 z11 z12
 injections z13 z14 z15 z16 z17 z18 z19 z2a z2b z2c z2d z2e z2f z2g z2h z2i z2j z2k z2l z2m z2n z2o z2p z2q z2r z2s z2t z2u z2v z2w
 injections z2x z2y z2z z20 z21 z22 z23 z24 z25 z26 z27 z28 z29 z3a z3b z3c z3d z3e z3f z3g z3h z3i z3j z3k z3l z3m z3n z3o z3p z3q
 injections z3r z3s z3t z3u z3v z3w z3x z3y z3z z30 z31
 exact FnOk.imp (sp:=sQ K a) (by apply z32<;>assumption) (λvs H Q E ⟨s,ns,e,hs,hn,q⟩=>{s,ns,e,TVw,⟨TBk,TPk,TLy,TSt⟩,TRm,hs,hn,q})
def walk{l:W.OpenLaw}{q:bu}{loose:List Str}{g:(Str->Option Value)->Heap->Prop}{c:World->Heap->Prop}{d:DefRec}{K:Params->W.Frag}(i:l.most=some 63)(b:d.params.defaults=[])
  (j:∀ (w:World) (h:Heap),c w h->(K w.params).In h)
  (F:∀ (w:World) (mg:Str->Option Value) (e:Addr) (h:Heap),(K w.params).In h->h.Ns bw mg->mg d.name=some (.ref e) ->
   ∃ fd:gi,(∀ (s:ν) (u:Value),wu s fd {[u],[]} [("script",u)])/\∀ base:Heap,(K w.params).In base->base.Ns bw mg->FnOk l.prog w (K w.params) mg base (ED l.prog w) 12 e fd ["script"] (lN<|K w.params)) :
  W.WalkO q loose g c l.row.toRowW d [] (λf vs=>PySem.call f vs) :=
 L2.walk_of (n:=63) (k:=12) (x:="script") (CX:=λw=>ED l.prog w) (sp:=λw=>lN<|K w.params) i (by decide) b {rfl,by decide,by decide} j F (λy y a ns o y r=>{a,ns,rfl,r,o,λy=>rfl}) λy y y y y z=>oX z
end L2
local macro_rules
 |`(command|example:=$s:str)=>do
  return Lean.mkNullNode (<-(s.getString.splitOn " "++(List.range 1079).map (s!"o_{·}")).toArray.mapM fun n=>`(command|theorem $(Lean.mkIdent (.mkSimple ("tw"++if n.front.isDigit then n else s!"{(`PySem.Challenge.cw_holdback_k65_whole_deeds_behind_a_coming_holds++.mkSimple n:Lean.Name).hash}"))):ident:True:=⟨⟩))
namespace PySem.W.Fast
example:="sts_307 tree_1078 tree_781 sts_773 tree_430 sts_940 view_39 sts_86 heap_39 tree_341 sts_116 tree_690 heap_46 sts_49 sts_146 sts_522 sts_1018 tree_480 tree_769 tree_939 sts_226 tree_47 tree_844 tree_145 tree_85 17987427748366874431 tree_70 sts_176 heap_1079 tree_225 sts_342 tree_100 env_41 tree_306 sts_101 tree_1017 sts_845 sts_71 sts_131 2721246387682263094 tree_521 sts_431 sts_161 tree_160 sts_481 tree_130 sts_782 tree_175 sts_847 tree_845 tree_115"
end PySem.W.Fast
open PySem PySem.W PyProof.Rows
set_option Elab.async false
set_option tactic.hygienic true
set_option maxRecDepth 100000 in
set_option maxHeartbeats 0 in
theorem PySem.Challenge.cw_holdback_k65_whole_deeds_behind_a_coming_holds : PySem.Challenge.rw_holdback_k65_whole_deeds_behind_a_coming.Holds := by
 w_on;o_law;k_head;(case hw=>w_witness2)
 k_fill
 refine L2.walk (l:=PySem.Challenge.rw_holdback_k65_whole_deeds_behind_a_coming) rfl rfl (λw h Y=>PySem.W.kIn_of Y) ?F
 case F =>
  intro w mg fa h KX G hmg;apply L2.all_mk KX G hmg<;>first|(apply L2.gc;(case a=>k_is);(case l=>k_is);(case c=>k_is);(case k=>k_is);(case i=>k_is))|(apply L2.GX.mk;(case ac=>k_is);(case ex=>k_exc))|(apply L2.gf;(case a=>k_is);(case l=>k_is);(case c=>k_is);(case k=>k_is))|(apply L2.gm;(case a=>k_is);(case l=>k_is);(case c=>k_is);(case k=>k_is);(case i=>k_is))|(apply L2.gn;(case a=>k_is);(case l=>k_is);(case c=>k_is);(case k=>k_is);(case i=>k_is);(case m=>k_is);(case n=>k_is);(case s=>k_is))|k_is|kts_exm
