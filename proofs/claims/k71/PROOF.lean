import PyProof.Rows.All
import KE.RegKTryMore
import KE.KDictOf
import KE.KIntText
import KE.KItem
import KE.KRevIter
import KE.KTabLook
import PySem.Challenge.RW_holdback_k71_rows_answered
set_option linter.all false
set_option maxRecDepth 100000
set_option maxHeartbeats 8000000
set_option tactic.hygienic false
set_option compiler.extract_closed false
open PySem PySem.Spec PyProof.Rows
def pT (s:Lean.Syntax):Lean.Syntax:=
 let N:=Lean.Syntax.node .none;let T s:=`Lean.Parser.Tactic++.mkSimple s;let R s:=T "rcasesPat"++.mkSimple s
 s.rewriteBottomUp fun
  |s@(.ident _ _ _ _)=>N (R "one") #[s]
  |s@(.node _ k a)=>if k== `«term[_]» then N (R "tuple") #[a[0]!,N `null (a[1]!.getArgs.mapIdx fun i x=>if i%2==0 then N (T "rcasesPatLo") #[N (T "rcasesPatMed") #[N `null #[x]],N `null #[]] else x),a[2]!] else if k== `Lean.Parser.Term.hole then N (R "ignore") a else if k== `«term_||_» then N `u (if a[0]!.isOfKind `u then a[0]!.getArgs++a[1:] else a) else s
  |s=>s
theorem A'2{z:Prop}(k:A->B->z)(h:A/\B):z:=k h.1 h.2
theorem A'3{z:Prop}(k:A->B->C->z)(h:A/\B/\C):z:=A'2 (λx=>A'2 (k x)) h
theorem A'4{z:Prop}(k:A->B->C->D->z)(h:A/\B/\C/\D):z:=A'2 (λx=>A'3 (k x)) h
theorem A'5{z:Prop}(k:A->B->C->D->F->z)(h:A/\B/\C/\D/\F):z:=A'2 (λx=>A'4 (k x)) h
theorem A'6{z:Prop}(k:A->B->C->D->F->G->z)(h:A/\B/\C/\D/\F/\G):z:=A'2 (λx=>A'5 (k x)) h
theorem A'7{z:Prop}(k:A->B->C->D->F->G->I->z)(h:A/\B/\C/\D/\F/\G/\I):z:=A'2 (λx=>A'6 (k x)) h
theorem A'8{z:Prop}(k:A->B->C->D->F->G->I->J->z)(h:A/\B/\C/\D/\F/\G/\I/\J):z:=A'2 (λx=>A'7 (k x)) h
theorem A'9{z:Prop}(k:A->B->C->D->F->G->I->J->L->z)(h:A/\B/\C/\D/\F/\G/\I/\J/\L):z:=A'2 (λx=>A'8 (k x)) h
theorem A'10{z:Prop}(k:A->B->C->D->F->G->I->J->L->M->z)(h:A/\B/\C/\D/\F/\G/\I/\J/\L/\M):z:=A'2 (λx=>A'9 (k x)) h
theorem A'1{p:α->Prop}{z:Prop}(k:∀ x,p x->z)(h:∃ x,p x):z:=h.elim k
local macro_rules
 |`(tactic|let [$p,$ps,*]:=$e)=>do
  let q:=pT (<-`([$p,$ps,*]));let o<-`(tactic|obtain $(⟨.node .none `Lean.Parser.Tactic.rcasesPatMed #[.node .none `null (if q.isOfKind `u then q.getArgs else #[q])]⟩):rcasesPatMed:=$e)
  let s:=ps.getElems
  if s.isEmpty then return o
  let c<-`(tactic|try clear $(⟨e⟩))
  let c:=if e.raw.isIdent then #[c] else #[]
  let g f (x:Lean.Term) (s:Array Lean.Term):Lean.MacroM (Lean.TSyntax `tactic):=do
   let f:=Lean.mkIdent f
   let r<-if c.isEmpty&&(s.push x).all fun t=>t.raw.isOfKind `Lean.Parser.Term.hole||t.raw.isIdent&&t.raw.getId≠`rfl then pure #[<-`(tactic|refine $f (fun $x $s*=>?_) $e)] else pure (#[<-`(tactic|refine $f ?_ $e)]++c++#[<-`(tactic|intro $x $s*)])
   `(tactic|($[$r];*))
  let r<-if s.size==1 then pure s else pure #[<-`([$ps,*])]
  `(tactic|first|$(<-g (.mkSimple s!"A'{s.size+1}") p s):tactic|$(<-g `A'2 p r):tactic|$(<-g `A'1 p r):tactic|$o:tactic)
 |`(tactic|let $p:term:=$e)=>if p.raw.isOfKind `«term_||_» then let q:=pT p;`(tactic|obtain $(⟨.node .none `Lean.Parser.Tactic.rcasesPatMed #[.node .none `null (if q.isOfKind `u then q.getArgs else #[q])]⟩):rcasesPatMed:=$e) else Lean.Macro.throwUnsupported
local macro_rules|`(tactic|intro $ts*)=>do
  let f:=(·.raw.isOfKind `«term[_]»)
  let h (t:Lean.Term):=t.raw.isIdent&&t.raw.getId== `rfl
  unless ts.any f||ts.any h do Lean.Macro.throwUnsupported
  let v:=Lean.mkIdent `v9
  let mut r:=#[]
  let mut a:Array Lean.Term:=#[]
  for t in ts do
   if f t then
    a:=a.push v
    r:=(r.push (<-`(tactic|intro $a*))).push (<-`(tactic|let $t:term:=$v));a:=#[]
   else if h t then
    unless a.isEmpty do r:=r.push (<-`(tactic|intro $a*))
    r:=r.push (<-`(tactic|rintro $(⟨.node .none `Lean.Parser.Tactic.rintroPat.one #[pT t]⟩)));a:=#[]
   else a:=a.push t
  unless a.isEmpty do r:=r.push (<-`(tactic|intro $a*))
  `(tactic|($[$r];*))
local macro_rules|`({$xs:term,*})=>`(⟨$xs,*⟩)
open _root_.Array renaming length_toList->dg,getElem?_eq_getElem->dq,getElem?_eq_some_iff->il,getElem?_toList->jt,all_toList->um,getElem?_eq_none->yl,size_push->yw,mem_toList_iff->zd,append_assoc->Be,size_append->Ct,toList_push->Ds,isEmpty_iff->En,all_append->Gu,toList->Ke
open _root_.Bool renaming false_ne_true->ay,and_eq_true->bv,or_eq_false_iff->ff,eq_iff_iff->jd,or_assoc->ku,false_eq_true->l8,or_eq_true->mh,true_or->n_,or_false->pq,not_eq_true'->xf,false_or->xn,not_eq_true->xz,eq_false_iff->Cu,and_false->Iy
open _root_.Eq renaming symm->Aa
open _root_.False renaming elim->jm
open _root_.ForInStep renaming yield->jc
open _root_.Function renaming comp_def->Et
open _root_.Iff renaming rfl->Ko
open _root_.Int renaming toNat_natCast->cj,ofNat_lt->c_,toNat_of_nonneg->fm,natCast_nonneg->jk,ofNat_le->j_,zero_add->vj,emod_lt_of_pos->vp,not_lt->vy,emod_nonneg->yp,lt_succ->zu,le_of_lt->Ca,natCast_ediv->Gr,natCast_emod->Gs,min_eq_left->Ho,natCast_add->Ic,le_trans->J_
open _root_.Int.ofNat renaming inj->ca
open _root_.List renaming length_map->ε,getElem?_eq_some_iff->η,mem_of_getElem?->θ,getElem?_eq_getElem->ι,range->ο,mem_cons_of_mem->τ,mem_cons_self->χ,getElem?_map->ψ,mem_singleton->aa,length_append->ae,mem_cons->af,map_append->ak,mem_range->ao,lookup_cons->au,size_toArray->aw,replicate->az,mem_map->a_,getElem?_append_left->bc,getElem?_eq_none->bd,mem_append->bh,map_cons->bu,not_mem_nil->bw,range_succ->bx,take_length->bz,getElem?_append_right->b_,length_range->ce,length_cons->cf,mem_append_right->ci,length_filter_le->cr,take_add_one->cu,length_take->cz,mem_filter->di,append_assoc->dk,any_eq_true->dt,take_of_length_le->dv,length_eq_zero_iff->fb,all_eq_true->fe,mem_append_left->fz,length->f_,pairwise_cons->gb,foldl_cons->gg,getElem?_set_self->gk,length_reverse->gu,lookup->gx,length_filterMap_le->gy,nodup_cons->g_,getElem?_set_ne->ia,length_drop->ic,flatten_cons->ii,pairwise_lt_range->ip,append_nil->iq,forIn_cons->ir,length_singleton->ix,cons_lt_cons_iff->iy,getElem_of_mem->jf,map_map->jh,nodup_nil->jn,find?_eq_none->js,take_append_drop->ju,drop_eq_getElem_cons->jv,length_set->jx,nil_append->jy,foldl_append->kf,take_append_getElem->kq,eraseIdx_eq_take_drop_succ->kx,replicate_succ->kz,find?_eq_some_iff_append->lj,mem_filterMap->lm,filter_append->l_,length_nil->mn,nodup_append->mz,reverse_cons->na,cons_append->oa,Perm->og,pairwise_iff_getElem->o_,mem_or_eq_of_mem_set->pd,getElem?_eq_none_iff->pe,filterMap_cons->ph,any_cons->pr,eq_of_mem_replicate->pz,countP_append->sx,filter_congr->t_,append_eq_nil_iff->ub,length_replicate->uc,getElem_mem->uj,mem_flatMap->uo,all_cons->uv,reverse_reverse->ux,find?_cons->u_,map_congr_left->vb,countP_pos_iff->vc,getElem?_range->vd,map_nil->vh,getD_eq_getElem?_getD->vz,length_eraseIdx_of_lt->v_,range_add->wg,mem_of_find?_eq_some->wq,any_eq_false->wt,ext_getElem?->xc,not_lt->xg,sum_cons->xt,getElem?_replicate->xv,countP_cons->x_,foldl->yi,range_succ_eq_map->yk,filter_eq_nil_iff->yo,of_mem_zip->yt,filter_map->yv,getElem?_toArray->y_,length_take_le'->zh,pairwise_append->zm,nodup_iff_count->zr,mem_of_mem_drop->zv,mem_of_mem_take->zw,map_eq_nil_iff->Ai,map_take->At,map_drop->Au,getElem?_drop->Bn,filter_filter->Bo,count_pos_iff->Bs,take_sublist->Ce,all_map->C_,getElem_take->Dn,getElem?_set->Er,countP_congr->Es,getElem_inj->E_,perm_middle->Fu,range'_succ->Gf,mem_reverse->Gn,map_reverse->G_,range'->Hn,countP_nil->Hu,any_append->HJ,find?_some->H_,drop_zero->I_,map->Kt,map_id->Ku
open _root_.List.Nodup renaming length_le_of_subset->ul
open _root_.List.Pairwise renaming nil->Cs
open _root_.List.cons renaming injEq->yx
open _root_.Nat renaming le_refl->π,le_trans->υ,lt_of_lt_of_le->ω,le_of_eq->ba,ne_of_lt->bm,zero_le->bt,lt_of_le_of_lt->cg,le_succ_of_le->ck,le_of_not_lt->cm,mul_comm->da,le_of_lt_succ->du,add_mul->dw,add_assoc->dz,lt_or_ge->ee,lt_succ_self->fh,exists_eq_add_of_le->ie,le_of_ble_eq_true->iu,ne_of_gt->i_,lt_irrefl->ji,le_succ->jj,mul_le_mul->jp,le_antisymm->jz,le_of_lt->ka,zero_add->kg,div_lt_of_lt_mul->kh,reduceEqDiff->lh,lt_of_le_of_ne->lz,eq_zero_or_pos->ma,not_lt_zero->me,mul_add_mod->mo,mul_add_div->mq,lt_succ_of_lt->my,succ_lt_succ->oq,min_eq_left->rf,div_add_mod->rn,mod_lt->sq,pos_of_ne_zero->sr,succ_mul->tm,add_comm->tq,add_le_add->ua,div_lt_iff_lt_mul->ue,le_add_right->ui,mul_le_mul_right->uy,sub_self->vk,zero_mul->vm,lt_succ_of_le->wu,reduceAdd->xr,succ_le_succ->xy,lt_trans->yj,le_of_succ_le_succ->yn,le_add_left->yq,sub_eq_zero_of_le->yz,add_le_add_left->Ae,ble->Bt,lt_trichotomy->Df,min_eq_right->Ff,div_add_mod'->Go,not_lt->Ii
open _root_.Nat.succ renaming inj->Kn
open _root_.Ne renaming symm->fg
open _root_.Option renaming map_eq_some_iff->ai,isSome_iff_exists->cw,map_some->mf,isSome_map->tz,isNone_iff_eq_none->wp,none->wy,bind_eq_some_iff->xx,map_map->zn,filter->As,bind_some->Gi
open _root_.Option.some renaming inj->μ,injEq->w_
open _root_.Or renaming inr->zj,inl->Fo
open _root_.PyProof.Rows renaming slot_tuple_getitem->je,callWith_type1->jg,IntsAre->rg,AllBare->s_,size_push'->uk,step_dedup->wa,firstMet->wb,firstMet_length_le->wc,envOfC->xi,subscriptTail_builtinR->yf,sortedS->z_,Subscript_->Bi
open _root_.PyProof.Rows.F renaming entry_set_update_loop->pi,plain_set_update_loop->Af
open _root_.PyProof.Rows.IntsAre renaming length->zp
open _root_.PyProof.Rows.IsTup renaming new->Js
open _root_.PySem renaming wpAny_bind->δ,Shared->ν,wpAny_pure->ρ,starEach->ax,mainGlobals->bg,Program->bq,Around->de,compareOp->dr,wpAny_callSpecial?_slot->e_,wpAny_holding->fi,wpAny_call_entry->fj,sizeLine_eq->fk,wpAny_newObj_type->fu,FuncData->gq,sysModules->gr,wpAny_truthy_bool->ig,call_meets->ik,binaryOp->iw,tupleKind_room_in1->iz,backTo->ja,wpAny_field->jb,wpAny_setField_rec->jr,wpAny_passesOwn->jw,wpAny_setState_of->ke,wpAny_attempt->ko,intKind->ky,wpAny_setEntries_of->k_,wpAny_askSetting->lb,keywordEach->li,codeAny_mono->lq,typeIs_str->lu,rawInt->lx,codeAny_builtin->mj,behindInMarks->mw,foldedSetIterable->mx,wpAny_dictEntries->m_,wpAny_mono->ni,tupleKind->nv,bootBuiltins->nz,wpAny_isInstance->om,strLen_append->py,wpAny_execs_nil->q_,wpAny_ite_false->rj,wpAny_Call_Name_kw->si,wpAny_rule->sj,holding->tf,wpAny_setField->t9,getMethod->ug,codeAny->ut,attributeBase->uu,backToKw->uw,wpAny_specialOf->uz,call_meetsIn->ve,Builtin->vg,swapsWith->vn,scanBound->vo,entryOfKey->vq,assignEach->vx,wpAny_fieldsOf->we,wpAny_FormattedValue_plain->wf,wpAny_binaryOp_repeat_ref->wm,BindsTo->ww,storedH->wx,wpAny_pyIter_list->wz,fits_of_scanBound->xa,wpAny_comprehension_free->xj,ExceptHandler->xl,PyData->xm,plainId_quiet->xo,NameKind->xu,noFill_tuple_add->xw,standAt->ya,wpAny_call->yb,getItem->yd,wpAny_typeOf->ye,typeIs_int->yh,letOwnedTupleGo->yr,wpAny_updateSeq->yu,wpAny_isTrue_Compare1->yy,wpAny_formatField_int->za,pyNext->zb,callWith->zf,IsPart->zg,subscripted->zi,codeAny_call_builtin->zk,wpAny_seqItems->zl,isSubtype_stop->zo,wpAny_pyIter_revIter->zq,Keyword->zx,ElemsOf->zy,length_partsBetween->An,wpAny_standAt->Ao,seq_tuple_add->Ar,GenState->Bu,wpAny_assign_Name->B_,concat_meets->Cf,seqIndex_neg->Ci,slot_list_getitem->Cn,valueAt->Co,wpAny_Call_method->Cr,relayAll->Do,wpAny_storeSet_of->Dt,setNext->Du,wpAny_pyIter_slot->D_,wpAny_setEpoch_of->Ea,wpAny_pyIter_enum->Ei,wpAny_execs_cons->Fa,pyIter->Fe,wpAny_Dict_empty->Fn,setFlight->Fs,checkBuiltinCall->Ft,DictEntry->F_,wpAny_forIn_list->Ge,seqIndex_of->He,sliceBounds->Hf,wpAny_of_eq->Hi,callerA->Ig,limitOf->Ih,builtinsNs->Ik,wpAny_Name->Il,typeLookup->Ip,isInstance->Ir,intKind_is->Iw,PassesOwn->Ji,cellsFrom->Jr,noteFrame->Jt,pickOrder->Ju,isTrue->Ka,assign->Kf,setItem->Ki
open _root_.PySem.AutoSeq1 renaming wpAny_loadPart'->xq
open _root_.PySem.Builtin.Dict renaming mergeDict->ym
open _root_.PySem.Builtin.Frozenset renaming updateFrom->Ht
open _root_.PySem.Builtin.List renaming listTooLong->kj,listSameRef->xp
open _root_.PySem.Builtin.Range renaming rangeSize->Jo
open _root_.PySem.Builtin.Slice renaming sliceAdjust->wj,slicePlaces->wk,slicePartIndex->Hr,sliceApplied->Im
open _root_.PySem.Builtin.SmallTypes renaming nextOf->wo
open _root_.PySem.Builtin.Tuple renaming tupleItemsOf->Io,tupleTooMany->Iq,tupleHashOf->Ja
open _root_.PySem.Calls renaming evalArgs_plain->nj,spliced_cons->r_,callWith_builtin->tj,Name_function_global->vt,spliced_nil->wv,Constant_str->Bf
open _root_.PySem.CmpOp renaming NotIn->Ks
open _root_.PySem.Heap renaming get?_push_of_some->ξ,get?_push_size->aj,lt_size->av,get?_update_other->cy,get?_update_self->d_,SameBut->gz,ExtBut->nq,size_push->ze
open _root_.PySem.Heap.IsSliceOf renaming new->K_
open _root_.PySem.Heap.SameBut renaming update->fq,refl->xb
open _root_.PySem.NameKind renaming free->gi,cell->gj
open _root_.PySem.Obj renaming data_mapFields->jo,mapSeq->lw,data_mapDictKeys->nu,isFreed_of_fields->ud,isFreed_of_dict->va,mapFields->xk,data_mapDict->Ga,putSet->Ix
open _root_.PySem.PyData renaming strOk->dn,eqv->io,eqvAll->p_,int->Br,canLayAll0->Ee,depth->Ef
open _root_.PySem.SeqAt renaming in_tupleAt->Fi,EqAt->La
open _root_.PySem.SeqAt.EqAt renaming int_str->A_,str_int->Ba
open _root_.PySem.SetTable renaming below->jq,grown->nr,Probe->Iv,slot->Jf
open _root_.PySem.SetTable.below renaming go->De
open _root_.PySem.SetTable.probe renaming go->Di
open _root_.PySem.Str renaming ofString->ζ,empty->uh,length->yg,join->Eo
open _root_.PySem.StrLaws renaming occBody->h_,partsBetween_eq->lg,partsFrom->xh,occ_eq->Iz
open _root_.PySem.Value renaming ref->eq,none->ki,type->nc,isInt_shape->sy,int->uf,str->Eu,isInt->Ha,bool->Ij,isStrOf->Je
open _root_.PySem.Walks renaming list->Le
open _root_.PySem.pickOrder renaming go->Dr
open _root_.Std.Legacy.Range renaming forIn_eq_forIn_range'->zt
open _root_.Sum renaming inl->uq,inr->Ie
open _root_.Sum.inr renaming inj->Kr
open _root_.True renaming intro->rq
namespace L2
def md(y:Int)(k:Nat)(h:0<k):∃ n:Nat,1+y%(k:Int)=n/\1<=n/\n<=k:=by
 let[b,e]:=Int.eq_ofNat_of_zero_le (yp y (show(k:Int)≠0 by omega))
 have:=vp y (show 0<(k:Int) by omega);exact{1+b,by omega,by omega,by omega}
section
variable{a b c k:Nat}{z:Int}
def c3(h:a<3):a=0\/a=1\/a=2:=by
 let _||_||_||n:=a
 exact .inl rfl;exact .inr<|.inl rfl;exact .inr<|.inr rfl;exact absurd h<|Ii.mpr<|yq 3 n
def c5{a:Nat}(h:a<5):a=0\/a=1\/a=2\/a=3\/a=4:=by revert a;decide
def cq{n i:Nat}(h:i<n):n-(i+1)<n-i:=Nat.sub_lt_sub_left h<|fh i
def oA(h:a<=b)(d:Bt b c=true):a<=c:=υ h<|iu d
def oB(h:a<b)(d:Bt b (c+1)=true):a<=c:=du<|ω h<|iu d
def oC(h:a<=b)(d:Bt (b+1) c=true):a<c:=cg h<|iu d
def oD(h:a<b)(d:Bt b c=true):a<c:=ω h<|iu d
def oG(h:a<=b)(d:Bt (b+k+1) c=true):a+k<c:=cg (Nat.add_le_add_right h k) (iu d)
def oH(h:a<b)(d:Bt (b+k) c=true):a+k<c:=ω (Nat.add_lt_add_right h k) (iu d)
def iA(h:a<=b)(d:decide ((b:Int)<z)=true):(a:Int)<z:=Int.lt_of_le_of_lt (j_.mpr h) (of_decide_eq_true d)
def iM(d:decide (z<=0)=true):z<=(a:Int):=J_ (of_decide_eq_true d) (jk a)
def i0:(0:Int)<=(a:Int):=jk a
def nE{P:Prop}(d:Nat.beq a b=false):¬(a=b/\P):=λh=>by rw[h.1,Nat.beq_refl]at d;cases d
def nL{α :Prop}(h:a<b)(g:b<=a): α :=absurd h<|Ii.mpr g
def nZ{α :Prop}(h:a<0): α :=absurd h<|me a
end
def x2{p:A->B->Prop}(a b)(h:p a b):∃ a b,p a b:=⟨_,_,h⟩
def x3{p:A->B->C->Prop}(a b c)(h:p a b c):∃ a b c,p a b c:=⟨_,_,_,h⟩
def x4{p:A->B->C->D->Prop}(a b c d)(h:p a b c d):∃ a b c d,p a b c d:=⟨_,_,_,_,h⟩
def x5{p:A->B->C->D->F->Prop}(a b c d e)(h:p a b c d e):∃ a b c d e,p a b c d e:=⟨_,_,_,_,_,h⟩
def x6{p:A->B->C->D->F->G->Prop}(a b c d e f)(h:p a b c d e f):∃ a b c d e f,p a b c d e f:=⟨_,_,_,_,_,_,h⟩
def x7{p:A->B->C->D->F->G->I->Prop}(a b c d e f g)(h:p a b c d e f g):∃ a b c d e f g,p a b c d e f g:=⟨_,_,_,_,_,_,_,h⟩
def x8{p:A->B->C->D->F->G->I->J->Prop}(a b c d e f g i)(h:p a b c d e f g i):∃ a b c d e f g i,p a b c d e f g i:=⟨_,_,_,_,_,_,_,_,h⟩
def x9{p:A->B->C->D->F->G->I->J->L->Prop}(a b c d e f g i j)(h:p a b c d e f g i j):∃ a b c d e f g i j,p a b c d e f g i j:=⟨_,_,_,_,_,_,_,_,_,h⟩
def TZ{p:A->B->C->D->F->G->I->J->L->M->Prop}(a b c d e f g i j l)(h:p a b c d e f g i j l):∃ a b c d e f g i j l,p a b c d e f g i j l:=⟨_,_,_,_,_,_,_,_,_,_,h⟩
def KI{p:A->B->C->D->F->G->I->J->L->M->N->Prop}(a b c d e f g i j l m)(h:p a b c d e f g i j l m):∃ a b c d e f g i j l m,p a b c d e f g i j l m:=⟨_,_,_,_,_,_,_,_,_,_,_,h⟩
def QL{p:A->B->C->D->F->G->I->J->L->M->N->O->Prop}(a b c d e f g i j l m n)(h:p a b c d e f g i j l m n):∃ a b c d e f g i j l m n,p a b c d e f g i j l m n:=⟨_,_,_,_,_,_,_,_,_,_,_,_,h⟩
def y2{p:A->B->Prop}(h:p a b):∃ a b,p a b:=⟨_,_,h⟩
def y3{p:A->B->C->Prop}(h:p a b c):∃ a b c,p a b c:=⟨_,_,_,h⟩
def y4{p:A->B->C->D->Prop}(h:p a b c d):∃ a b c d,p a b c d:=⟨_,_,_,_,h⟩
def y5{p:A->B->C->D->F->Prop}(h:p a b c d e):∃ a b c d e,p a b c d e:=⟨_,_,_,_,_,h⟩
def u2{p:A->B->Prop}{z:Prop}(k:∀ a b,p a b->z):(∃ a b,p a b)->z:=λh=>by let[y,y,h]:=h;exact k _ _ h
def u3{p:A->B->C->Prop}{z:Prop}(k:∀ a b c,p a b c->z):(∃ a b c,p a b c)->z:=λh=>by let[y,y,y,h]:=h;exact k _ _ _ h
def u4{p:A->B->C->D->Prop}{z:Prop}(k:∀ a b c d,p a b c d->z):(∃ a b c d,p a b c d)->z:=λh=>by let[y,y,y,y,h]:=h;exact k _ _ _ _ h
def u5{p:A->B->C->D->F->Prop}{z:Prop}(k:∀ a b c d e,p a b c d e->z):(∃ a b c d e,p a b c d e)->z:=λh=>by let[y,y,y,y,y,h]:=h;exact k _ _ _ _ _ h
def u6{p:A->B->C->D->F->G->Prop}{z:Prop}(k:∀ a b c d e f,p a b c d e f->z):(∃ a b c d e f,p a b c d e f)->z:=λh=>by let[y,y,y,y,y,y,h]:=h;exact k _ _ _ _ _ _ h
def u7{p:A->B->C->D->F->G->I->Prop}{z:Prop}(k:∀ a b c d e f g,p a b c d e f g->z):(∃ a b c d e f g,p a b c d e f g)->z:=λh=>by let[y,y,y,y,y,y,y,h]:=h;exact k _ _ _ _ _ _ _ h
def u8{p:A->B->C->D->F->G->I->J->Prop}{z:Prop}(k:∀ a b c d e f g i,p a b c d e f g i->z):(∃ a b c d e f g i,p a b c d e f g i)->z:=λh=>by let[y,y,y,y,y,y,y,y,h]:=h;exact k _ _ _ _ _ _ _ _ h
def u9{p:A->B->C->D->F->G->I->J->L->Prop}{z:Prop}(k:∀ a b c d e f g i j,p a b c d e f g i j->z):(∃ a b c d e f g i j,p a b c d e f g i j)->z:=λh=>by let[y,y,y,y,y,y,y,y,y,h]:=h;exact k _ _ _ _ _ _ _ _ _ h
def QM{p:A->B->C->D->F->G->I->J->L->M->Prop}{z:Prop}(k:∀ a b c d e f g i j l,p a b c d e f g i j l->z):(∃ a b c d e f g i j l,p a b c d e f g i j l)->z:=λh=>by let[y,y,y,y,y,y,y,y,y,y,h]:=h;exact k _ _ _ _ _ _ _ _ _ _ h
def T2{p:A->B->C->D->F->G->I->J->L->M->N->Prop}{z:Prop}(k:∀ a b c d e f g i j l m,p a b c d e f g i j l m->z):(∃ a b c d e f g i j l m,p a b c d e f g i j l m)->z:=λh=>by let[y,y,y,y,y,y,y,y,y,y,y,h]:=h;exact k _ _ _ _ _ _ _ _ _ _ _ h
def QN{p:A->B->C->D->F->G->I->J->L->M->N->O->Prop}{z:Prop}(k:∀ a b c d e f g i j l m n,p a b c d e f g i j l m n->z):(∃ a b c d e f g i j l m n,p a b c d e f g i j l m n)->z:=λh=>by let[y,y,y,y,y,y,y,y,y,y,y,y,h]:=h;exact k _ _ _ _ _ _ _ _ _ _ _ _ h
def Vv{p:A->B->C->D->F->G->I->J->L->M->N->O->P->R->Prop}{z:Prop}(k:∀ a b c d e f g i j l m n o q,p a b c d e f g i j l m n o q->z):(∃ a b c d e f g i j l m n o q,p a b c d e f g i j l m n o q)->z:=λh=>by let[y,y,y,y,y,y,y,y,y,y,y,y,y,y,h]:=h;exact k _ _ _ _ _ _ _ _ _ _ _ _ _ _ h
end L2
set_option Elab.async false
namespace L2
abbrev AN:=Sum Int Str
def N7:AN->Value->Bool
 |.inl k,v=>Ha k v
 |.inr x,v=>Je x v
def Vx(w:World):AN->Int
 |.inl k=>hashInt k
 |.inr x=>hashStr w x
def KJ:∀ {k:AN} {v:Value},N7 k v=true->(∃ i t,k=uq i/\v=uf i t)\/(∃ x t,k=Ie x/\v=Eu x t)
 |.inl i,v,h=>by
  let[t,e]:=sy   h;exact .inl<|x2 i t ⟨rfl,e⟩
 |.inr x,v,h=>by
  let[t,e]:=Value.isStrOf_shape   h;exact .inr<|x2 x t ⟨rfl,e⟩
def Vy(i:Int)(t:Tok):N7 (.inl i) (.int i t)=true:=by simp[N7,Ha]
def Vz(x:Str)(t:Tok):N7 (.inr x) (.str x t)=true:=by simp[N7,Je]
def Wb(a b:Int):decide ((uq a:AN)=uq b)=(a==b):=by
 by_cases e:a=b;subst e;simp;rw[decide_eq_false (λq=>e<|Sum.inl.inj q)];exact(beq_eq_false_iff_ne.mpr e).symm
def Wc(a b:Str):decide ((Ie a:AN)=Ie b)=decide (a=b):=by
 by_cases e:a=b;simp;rw[decide_eq_false (λq=>e<|Kr q),decide_eq_false e]
def Wd(a:Int)(b:Str):decide ((uq a:AN)=Ie b)=false:=decide_eq_false (λq=>nomatch q)
def Wg(a:Str)(b:Int):decide ((Ie a:AN)=uq b)=false:=decide_eq_false (λq=>nomatch q)
def EW(prog:bq)(w:World):PySem.KeyKind prog w AN where
 is:=N7
 hash:=Vx w
 inj:=λv a b l g=>by
  let[i,t,rfl,rfl]||[x,t,rfl,rfl]:=KJ l
  ·let[j,u,rfl,e]||[y,u,rfl,e]:=KJ g
   ·injection e with c _;rw[c]
   ·exact nomatch e
  ·let[j,u,rfl,e]||[y,u,rfl,e]:=KJ g
   ·exact nomatch e
   ·injection e with c _;rw[c]
 byValue:=λk v h=>by
  let[i,t,rfl,rfl]||[x,t,rfl,rfl]:=KJ h<;>rfl
 pyHash:=λd h=>by
  let[i,t,rfl,rfl]||[x,t,rfl,rfl]:=KJ d
  ·exact wpAny_pyHash_int h
  ·exact wpAny_pyHash_str h
 eqBool:=λn d h=>by
  let[i,t,rfl,rfl]||[x,t,rfl,rfl]:=KJ n
  ·let[j,u,rfl,rfl]||[y,u,rfl,rfl]:=KJ d
   ·rw[Wb]at h;exact wpAny_eqBool_int h
   ·rw[Wd]at h;exact A_ i t y u _ _ _ _ h
  ·let[j,u,rfl,rfl]||[y,u,rfl,rfl]:=KJ d
   ·rw[Wg]at h;exact Ba x t j u _ _ _ _ h
   ·rw[Wc]at h;exact wpAny_eqBool_str h
 «strs» :=λk x t v h=>by
  let[i,u,rfl,e]||[y,u,rfl,e]:=KJ h
  ·exact nomatch e
  ·injection e with c _
   subst c;cases v<;>rfl
def Wh(prog:bq)(w:World)(i:Int)(t:Tok):(EW prog w).is (.inl i) (.int i t)=true:=Vy i t
def Wj(prog:bq)(w:World)(x:Str)(t:Tok):(EW prog w).is (.inr x) (.str x t)=true:=Vz x t
inductive V where
 |non|bl (b:Bool)|int (i:Int)|str (x:Str)|byt (b:Array UInt8)|flt (b:UInt64)|ref (a:Addr)|ty (n:String)
 deriving DecidableEq
def RelV:V->Value->Prop
 |.non,u=>u=ki
 |.bl b,u=>u=Ij b
 |.int i,u=>∃ t,u=uf i t
 |.str x,u=>∃ t,u=Eu x t
 |.byt b,u=>∃ t,u=Value.bytes b t
 |.flt b,u=>∃ t,u=Value.float b t
 |.ref a,u=>u=eq a
 |.ty n,u=>u=nc n
abbrev _root_.eI:=List V
abbrev _root_.wE:=List Value
abbrev Vals:eI->wE->Prop:=Paired RelV
def Vals.length{xs:eI}{us:wE}(r:Vals xs us):xs.length=us.length:=Paired.length r
def Wk{α a :Type}{F: α -> a ->Prop}{l:List α}{m:List a}{i:Nat}{x: α}(h:Paired F l m)(e:l[i]? =some x):∃ y,m[i]? =some y/\F x y:=by
 induction h generalizing i with
 |nil=>cases e
 |cons h t b=>cases i with
  |zero=>cases e;exact⟨_,rfl,h⟩
  |succ i=>exact b e
def Vals.get:∀ {xs:eI} {us:wE} {i:Nat} {x:V},Vals xs us->xs[i]? =some x->∃ u,us[i]? =some u/\RelV x u:=λh e=>Wk h e
theorem Vals.set{x:V}{u:Value}(r:RelV x u):∀ {xs:eI} {us:wE} (i:Nat),Vals xs us->Vals (xs.set i x) (us.set i u)
 |_,_,_,.nil=>.nil
 |_,_,0,.cons _ t=>.cons r t
 |_,_,i+1,.cons q t=>.cons q<|Vals.set r i t
def Vals.append:∀ {xs ys:eI} {us ws:wE},Vals xs us->Vals ys ws->Vals (xs++ys) (us++ws):=λh s=>by
 induction h with
 |nil=>exact s
 |cons r t a=>exact .cons r a
theorem Vals.take:∀ {xs:eI} {us:wE} (n:Nat),Vals xs us->Vals (xs.take n) (us.take n)
 |_,_,0,_=>.nil
 |_,_,_+1,.nil=>.nil
 |_,_,n+1,.cons r t=>.cons r<|Vals.take n t
theorem Vals.drop:∀ {xs:eI} {us:wE} (n:Nat),Vals xs us->Vals (xs.drop n) (us.drop n)
 |_,_,0,r=>r
 |_,_,_+1,.nil=>.nil
 |_,_,n+1,.cons _ t=>Vals.drop n t
def RelO:Option V->Option Value->Prop
 |some v,some u=>RelV v u
 |none,none=>True
 |_,_=>False
def KV{a :Type}:List (a × V)->List (a × Value)->Prop:=Paired λ(p: a × V) (q: a × Value)=>p.1=q.1/\RelV p.2 q.2
def kV:AN->V
 |.inl i=>.int i
 |.inr x=>.str x
abbrev _root_.cD:=List (AN × V)
abbrev _root_.zA:=List (List AN × V)
abbrev _root_.zE:=Int->Bool
abbrev _root_.cC:=List (Str × V)
inductive HO where
 /-- a list -/
 |lst (xs:eI)
 /-- a tuple (never changes) -/
 |tup (xs:eI)
 /-- a dict whose keys are ints and texts;one whose keys are tuples of ints and texts (the empty one is both) -/
 |dK (kvs:cD)|dT (kvs:zA)
 /-- a set of ints: AK members,AK size -/
 |set (S:zE) (n:Nat)
 /-- an instance of the class at C,AK dict at dx,AK attributes -/
 |ins (C dx:Addr) (fs:cC)
 /-- the dict of the instance at x -/
 |own (x:Addr)
 /-- the dict of an exception -/
 |xd (fs:cC)
 /-- a bound method,f of x -/
 |met (f x:Addr)
 /-- a range object lo,lo+1,.. below hi -/
 |rng (lo hi:Int)
 /-- a thing that is known to the object (the script;a dict while a loop walks it): read,never written while it is so -/
 |frz (o:Obj) (u:HO)
 /-- a code object's table -/
 |tbl (ps:Array Value)
 /-- any other thing,by what is true of AK one object (a def of one's own: SetO a S n:=HO.ext λh=>..) -/
 |ext (φ :Heap->Prop)
abbrev Hp:=Addr->Option HO
def upd(H:Hp)(a:Addr)(o:HO):Hp:=λb=>if b=a then some o else H b
def AG{H:Hp}{a:Addr}{o:HO}:upd H a o a=some o:=by unfold upd;rw[if_pos rfl]
def AJ{H:Hp}{a b:Addr}{o:HO}(h:b≠a):upd H a o b=H b:=by unfold upd;rw[if_neg h]
def GJ:upd (upd H a o) a u=upd H a u:=by
 funext b;unfold upd;split<;>rfl
def BI{H:Hp}{a b:Addr}{o u:HO}(h:H a=some o)(h':H b=some u)(d:o≠u):a≠b:=by
 rintro rfl;rw[h]at h';exact d<|μ h'
def BJ{H:Hp}{a b:Addr}{o:HO}(h:H a=some o)(h':H b=none):a≠b:=by
 rintro rfl;rw[h]at h';cases h'
section
variable(P:bq)(w:World)
abbrev _root_.eA:=List (List AN × Addr × Value)
def ObjOk(H:Hp)(h:Heap)(a:Addr):HO->Prop
 |.lst xs=>xs.length<=sizeLine/\∃ (c:wE) (n:Nat),Vals xs c/\h.get? a=some { cls:=.type "list",data:=.seq c.toArray n }
 |.tup xs=>xs.length<=sizeLine/\∃ c:wE,Vals xs c/\IsTup h a c.toArray
 |.dK kvs=>kvs.length<=sizeLine/\(a==gr)=false/\∃ vs,KV kvs vs/\h.DictOf (EW P w) a vs
 |.dT kvs=>kvs.length<=sizeLine/\(a==gr)=false/\∃ xs:eA,
   Paired (λ(p:List AN × V) (q:List AN × Addr × Value)=>p.1=q.1/\H q.2.1=some (.tup<|p.1.map kV)/\RelV p.2 q.2.2) kvs xs /\
   ∃ o g i,h.get? a=some o/\o.ExactDict/\o.data=.dict g i/\g.toList=xs.map (vq<|nv<|EW P w)/\(xs.map (·.1)).Nodup
 |.set S n=>h.SetOf (ky P w) a S n
 |.ins C d fs=>H d=some (.own a)/\fs.length<=1000/\d≠a/\h.get? a=some (W.instObj C d) /\
   ∃ b,h.Ns1 d b/\(∀ f,RelO (fs.lookup f) (b f))/\PySem.Within b (fs.map (·.1))
 |.own _=>∃ o,h.get? a=some o
 |.xd fs=>∃ b,h.Ns1 a b/\∀ f,RelO (fs.lookup f) (b f)
 |.rng lo j=>∃ t u v,h.get? a=some { cls:=.type "range",data:=.fields #[.int lo t,.int j u,.int 1 v] }
 |.frz o u=>h.get? a=some o/\ObjOk H h a u
 |.tbl ps=>h.get? a=some { cls:=.none,data:=.fields ps }
 |.met f x=>h.get? a=some (W.methodObj (.ref f) (.ref x))
 |.ext e => e h/\(∃ o,h.get? a=some o)/\∀ h1 h2:Heap,e h1->(∀ o,h1.get? a=some o->h2.get? a=some o)-> e h2
def HOk(H:Hp)(h:Heap):Prop:=∀ a o,H a=some o->ObjOk P w H h a o
end
section
variable{P:bq}{w:World}{H H':Hp}{h h':Heap}{a:Addr}{o:HO}
theorem ObjOk.lt(x:ObjOk P w H h a o):a<h.objs.size:=by
 cases o with
 |lst xs=>let[z,z,z,z,e]:=x;exact av e
 |tup xs=>let[z,z,z,p]:=x;exact p.lt
 |dK kvs=>let[z,z,z,z,o,z,z,e,z]:=x;exact av e
 |dT kvs=>let[z,z,z,z,o,z,z,e,z]:=x;exact av e
 |set S n=>revert x;apply u4;intro o z z z [e,z];exact av e
 |ins C b fs=>let[z,z,z,e,z]:=x;exact av e
 |own y=>let[z,e]:=x;exact av e
 |xd fs=>let[z,[z,z,z,e,z],z]:=x;exact av e
 |rng lo c=>revert x;apply u3;rintro z z z e;exact av e
 |frz ob u=>let[e,z]:=x;exact av e
 |tbl ps=>exact av<|x
 |met f y=>exact av<|x
 |ext d =>let[z,[z,e],z]:=x;exact av e
def MZ{α b :Type}{F: α -> b ->Prop}{x: α}{l:List α}{m:List b}(h:Paired F (x::l) m):∃ y c,m=y::c/\F x y/\Paired F l c:=by
 cases h;exact{_,_,rfl,‹_›,‹_›}
def N8{α b :Type}{F: α -> b ->Prop}{m:List b}(h:Paired F [] m):m=[]:=by cases h;rfl
def Paired.mapP{α e :Type}{F G: α -> e ->Prop}:∀ {c:List α} {d:List e},Paired F c d->(∀ a b,F a b->G a b)->Paired G c d:=λh k=>by
 induction h with
 |nil=>exact .nil
 |cons h t g=>exact .cons (k _ _ h) g
def ObjOk.stay(x:ObjOk P w H h a o)(k:∀ b u,(b=a\/H b=some (.own a))->h.get? b=some u->h'.get? b=some u)
  (l:∀ b,H b=some (.own a)->H' b=some (.own a)) (s:∀ b xs,H b=some (.tup xs)->H' b=some (.tup xs)):ObjOk P w H' h' a o:=by
 induction o with
 |lst xs=>let[z,A,n,r,e]:=x;exact{z,x2 _ n {r,k _ _ (.inl rfl) e}}
 |tup xs=>let[z,A,r,ob,e,c]:=x;exact{z,_,r,ob,k _ _ (.inl rfl) e,c}
 |dK kvs=>let[z,y,vs,r,ob,g,i,e,c]:=x;exact{z,y,vs,r,x3 ob g i {k _ _ (.inl rfl) e,c}}
 |dT kvs =>
  let[z,y,xs,r,ob,g,i,e,c]:=x;exact{z,y,xs,Paired.mapP r λp q z=>{z.1,s _ _ z.2.1,z.2.2},x3 ob g i {k _ _ (.inl rfl) e,c}}
 |set S n=>revert x;apply u4;intro ob g i t [e,c];exact x4 ob g i t {k _ _ (.inl rfl) e,c}
 |ins C E fs =>
  let[d,z,ne,e,j,[od,g,i,B,c],r]:=x;exact{l _ d,z,ne,k _ _ (.inl rfl) e,j,x3 od g i {k _ _ (.inr d) B,c},r}
 |own y=>let[ob,e]:=x;exact{ob,k _ _ (.inl rfl) e}
 |xd fs=>let[j,[od,g,i,e,c],r]:=x;exact{j,x3 od g i {k _ _ (.inl rfl) e,c},r}
 |rng lo I=>revert x;apply u3;rintro t u v e;exact x3 t u v<|k _ _ (.inl rfl) e
 |frz ob u D=>let[e,q]:=x;exact{k _ _ (.inl rfl) e,D q}
 |tbl ps =>
  have e:h.get? a=some _:=x;exact k a _ (.inl rfl) e
 |met f y =>
  exact k a _ (.inl rfl) x
 |ext J =>let[p,[o,e],st]:=x;exact{st _ _ p λo q=>k _ _ (.inl rfl) q,{o,k _ _ (.inl rfl) e},st}
def HOk.lt(x:HOk P w H h)(e:H a=some o):a<h.objs.size:=(x a o e).lt
def HOk.fresh(x:HOk P w H h)(e:h.objs.size<=a):H a=none:=by
 cases q:H a with
 |none=>rfl
 |some u=>exact absurd (ω (x.lt q) e) (ji _)
def HOk.kept(x:HOk P w H h)(k:∀ b u,h.get? b=some u->h'.get? b=some u):HOk P w H h':=λa o e =>
 (x a o e).stay (λb u z q=>k b u q) (λz q=>q) λz z q=>q
def HOk.laid(x:HOk P w H h)(k:∀ b u,h.get? b=some u->h'.get? b=some u)(i:h.objs.size<=a)(new:ObjOk P w (upd H a o) h' a o):HOk P w (upd H a o) h':=λb u e=>by
 have d:=x.fresh i;by_cases g:b=a;subst g;rw[AG]at e;obtain rfl:=μ e;exact new;rw[AJ g]at e;exact(x b u e).stay (λc v z q=>k c v q) (λc q=>by rw[AJ (BJ q d)];exact q) λc xs q=>by rw[AJ (BJ q d)];exact q
end
def Rd(H:Hp)(a:Addr)(u:HO):Prop:=H a=some u\/∃ o,H a=some (.frz o u)
def Rd.ok(r:Rd H a u)(x:HOk P w H h):ObjOk P w H h a u:=by
 let r||[o,r]:=r
 exact x a u r;let[z,q]:=x a _ r;exact q
def QQ:Option HO->Prop
 |some (.lst _)=>True
 |some (.dK _)=>True
 |some (.dT _)=>True
 |some (.set _ _)=>True
 |some (.ins _ _ _)=>True
 |some (.ext _)=>True
 |_=>False
section
variable{P:bq}{w:World}{H:Hp}{h h':Heap}{x e:Addr}{o':HO}
def HOk.write(ok:HOk P w H h)(g:QQ (H x))(he:e=x\/H e=some (.own x))(k:∀ b u,b≠e->h.get? b=some u->h'.get? b=some u)(l:∃ u,h'.get? e=some u)
  (new:ObjOk P w (upd H x o') h' x o'):HOk P w (upd H x o') h':=λb u q=>by
 have d:∀ c y,H c=some (.own y)->c≠x:=λc y r z=>by subst z;rw[r]at g;exact g
 by_cases i:b=x;subst i;rw[AG]at q;obtain rfl:=μ q;exact new;rw[AJ i]at q;by_cases a:b=e
 have n:H b=some (.own x):=by
  let z||z:=he
  exact absurd (a.trans z) i;rw[a];exact z
 rw[q]at n;let[v,o]:=l;obtain rfl:=μ n;exact{v,by rw[a];exact o};refine(ok b u q).stay (λc v j r=>k c v ?_ r) (λc r=>by rw[AJ (d c b r)];exact r) λc xs r=>by rw[AJ ((λc xs r z=>by subst z;rw[r]at g;exact g) c xs r)];exact r
 let rfl||j:=j
 exact a;rintro rfl;let z||z:=he
 exact d c b j z;rw[j]at z;cases z;exact i rfl
end
abbrev _root_.eF:=List Addr
structure Un(fs ex:eF)(H H':Hp)(h h':Heap):Prop where
 keep:∀ b o,h.get? b=some o->H b=none->b∉fs->b∉ex->h'.get? b=some o
 slot:∀ b o,h.get? b=some o->H b=none->b∈fs->b∉ex->∃ sl,h'.get? b=some { o with slots:=sl }
 free:∀ b o,h.get? b=some o->H b=none->b∉ex->H' b=none
 there:∀ b o,h.get? b=some o->b∉ex->∃ o',h'.get? b=some o'
 tups:∀ b xs,H b=some (.tup xs)->H' b=some (.tup xs)
 frzs:∀ b o u,H b=some (.frz o u)->H' b=some (.frz o u)
 tbls:∀ b ps,H b=some (.tbl ps)->∃ more,H' b=some (.tbl<|ps++more)
section
variable{fs fs' ex pN:eF}{H H1 H2:Hp}{h h1 h2 h':Heap}{a x e:Addr}{o:HO}
def Un.any(u:Un fs ex H H1 h h1)(q:h.get? b=some ob)(n:H b=none)(c:b∉ex):∃ g,h1.get? b=some { ob with slots:=g }:=by
 by_cases d:b∈fs;exact u.slot b ob q n d c;exact{_,u.keep b ob q n d c}
def Un.kept(k:∀ b u,h.get? b=some u->h'.get? b=some u):Un fs ex H H h h' :=
 {λb ob q z z z=>k b ob q,λb ob q z z z=>{_,k b ob q},λz z z n z=>n,λb ob q z=>{ob,k b ob q},λz z q=>q,λz z z q=>q,λz ps q=>{#[],by rw[q];simp}}
def Un.refl:Un fs ex H H h h:=Un.kept λz z q=>q
def Un.laid(k:∀ b u,h.get? b=some u->h'.get? b=some u)(d:h.objs.size<=a)(c:H a=none):Un fs ex H (upd H a o) h h' where
 keep:=λb u q z z z=>k b u q
 slot:=λb u q z z z=>{_,k b u q}
 free:=λb u q n z=>by rw[AJ (bm<|ω (av q) d)];exact n
 there:=λb u q z=>{u,k b u q}
 tups:=λb xs q=>by rw[AJ (BJ q c)];exact q
 frzs:=λb u xs q=>by rw[AJ (BJ q c)];exact q
 tbls:=λb ps q=>{#[],by rw[AJ (BJ q c),q];simp}
def Un.write(d:QQ (H x))(he:e=x\/H e=some (.own x))(k:∀ b u,b≠e->h.get? b=some u->h'.get? b=some u)(g:∃ u,h'.get? e=some u):Un fs ex H (upd H x o) h h':=by
 have j:∀ b,H b=none->b≠x:=λb n z=>by subst z;rw[n]at d;exact d
 have i:∀ b u,H b=some u->¬ QQ (some u)->b≠x:=λb u q nm z=>by subst z;rw[q]at d;exact nm d
 have l:∀ b,H b=none->b≠e:=λb n z=>by
  subst z;let r||r:=he
  exact j b n r;rw[n]at r;cases r
 refine⟨λb u q n y y=>k b u (l b n) q,λb u q n y y=>{_,k b u (l b n) q},λb u q n y=>by rw[AJ (j b n)];exact n,λb u q y=>?_,
  λb xs q=>by rw[AJ (i b _ q λz=>z)];exact q,λb u xs q=>by rw[AJ (i b _ q λz=>z)];exact q,λb ps q=>{#[],by rw[AJ (i b _ q λz=>z),q];simp}⟩
 by_cases c:b=e;subst c;exact g;exact{u,k b u c q}
end
def Wl(h:Heap)(H:Hp):eF:=(ο h.objs.size).filter λa=>(H a).isSome
def N9(h:Heap)(H:Hp):Heap:=W.hideAll h<|Wl h H
def Wm(h:Heap)(H:Hp):(N9 h H).objs.size=h.objs.size:=W.hideAll_size _ _
def Wp(e:h.get? b=some o)(n:H b=none):(N9 h H).get? b=some o :=
 W.hideAll_get _ e λa=>by
  have q:=(di.mp a).2;rw[n]at q;simp at q
def Wq(e:(N9 h H).get? b=some o):h.get? b=some o/\H b=none:=by
 have a:=W.of_hideAll _ e;refine{a,?_};cases q:H b with
 |none=>rfl
 |some x =>
  have z:(N9 h H).get? b=none:=W.hideAll_none _ (di.mpr {ao.mpr<|av a,by simp[q]});rw[z]at e;cases e
abbrev _root_.eB:=List (Addr × Obj)
def Wv(g h:Heap)(L:Addr):eB:=(ο h.objs.size).filterMap λa=>if a=L\/(g.get? a).isSome=true then none else(h.get? a).map λo=>(a,o)
def rest(g h:Heap)(L d:Addr):eB:=(Wv g h L).filter λp=>decide<|p.1≠d
abbrev _root_.xB:=Str->Option Value
structure Mod(K:W.Frag)(mg:xB)(base:Heap):Prop where
 kin:K.In base
 glob:base.Ns bg mg
 blt:∃ mb,base.Ns Ik mb/\∀ x:Str,x≠"__name__"->mb x=nz x
 nolimit:base.NoLimit
abbrev _root_.eG:=List Str
abbrev _root_.xG:=List Env
structure Cx where
 prog:bq
 w:World
 K:W.Frag
 mg:Str->Option Value
 base:Heap
 A:de
 N:eG
 s₀:ν
 H₀:Hp
 env:Env
 outer:xG
 stack:xG
 ex:eF
 fn:Str->Bool
 calm:Bool
 pn:eB
 xe:Value->ν->Prop
def EK(l:xG):eF:=l.filterMap (·.frame)
abbrev Cx.fs(X:Cx):eF:=EK X.outer
def T3(a:Scope)(x:Str):Prop:=a.names.lookup x=some .local\/a.names.lookup x=some .cell\/a.names.lookup x=some .free
def OA(a:Scope)(x:Str):Prop:=a.names.lookup x=some .local\/a.names.lookup x=some .cell
def Ww(env:Env)(h:Heap)(m:xB)(x:Str)(u:Value):Prop :=
 (env.kindOf x=some .local/\m x=some u)\/((env.kindOf x=some .cell\/env.kindOf x=some .free)/\∃ c,env.cells.lookup x=some c/\h.IsCell c (some u))
structure Cx.Ok(X:Cx):Prop where
 mod:Mod X.K X.mg X.base
 kind:X.env.scope.kind=.function
 glob:X.env.globals=bg
 blt:X.env.builtins=Ik
 above:X.s₀.heap.objs.size<=X.env.locals
 inj:∀ x y c,X.env.cells.lookup x=some c->X.env.cells.lookup y=some c->x=y
 has:∀ x,(X.env.kindOf x=some .cell\/X.env.kindOf x=some .free)->∃ c,X.env.cells.lookup x=some c
 cab:∀ x c,X.fn x=true->X.env.cells.lookup x=some c->X.s₀.heap.objs.size<=c
 hd:X.calm=true->X.A.handled=none
 frames:X.A.frames=some X.stack
 stk:X.stack=X.outer\/(X.stack=X.env::X.outer/\X.env.frame=some X.env.locals)
 exf:∀ b∈X.ex,b≠X.env.locals/\∀ x c,X.env.cells.lookup x=some c->c≠b
 bs:∀ b o,X.base.get? b=some o->X.s₀.heap.get? b=some o/\X.H₀ b=none
 bsz:X.base.objs.size<=X.s₀.heap.objs.size
 noex:∀ b o,X.base.get? b=some o->b∉X.ex
 exfs:∀ b∈X.ex,b∉X.fs
 funs:X.s₀.heap.FunFrames X.base X.outer
 frf:∀ b∈X.fs,X.H₀ b=none
structure Inv(X:Cx)(AA:eB)(σ:List (Option V))(H:Hp)(s:ν):Prop where
 ok:X.Ok
 os:s.os=X.s₀.os
 bare:s_ s.gens
 base:Un X.fs X.ex X.H₀ H X.s₀.heap s.heap
 loc:∃ m,s.heap.Ns X.env.locals m/\∀ (i:Nat) (x:Str) (v:V),X.N[i]? =some x->σ[i]? =some (some v)->T3 X.env.scope x->∃ u,RelV v u/\Ww X.env s.heap m x u
 cell:∀ x c,X.env.cells.lookup x=some c->∃ v,s.heap.IsCell c v
 free:H X.env.locals=none
 freeC:∀ x c,X.env.cells.lookup x=some c->H c=none
 pin:∀ p∈X.pn++AA,s.heap.get? p.1=some p.2/\H p.1=none/\p.1≠X.env.locals/\p.1∉X.fs/\∀ v,p.2.data≠.cell v
 hok:HOk X.prog X.w H s.heap
 len:σ.length=X.N.length
section
variable{X:Cx}{AA:eB}{σ:List (Option V)}{H H':Hp}{s:ν}{h':Heap}
def Cx.Ok.nofr(ok:X.Ok)(e:X.base.get? b=some o):b∉X.fs:=λa=>by
 have:=(ok.funs.mem a).1;rw[e]at this;cases this
def Inv.bs(I:Inv X AA σ H s):∀ b o,X.base.get? b=some o->s.heap.get? b=some o/\H b=none:=λb o e =>
 {I.base.keep b o (I.ok.bs b o e).1 (I.ok.bs b o e).2 (I.ok.nofr e) (I.ok.noex b o e),I.base.free b o (I.ok.bs b o e).1 (I.ok.bs b o e).2 (I.ok.noex b o e)}
def Inv.bk(I:Inv X AA σ H s):∀ b o,X.base.get? b=some o->s.heap.get? b=some o:=λb o e=>(I.bs b o e).1
def Inv.mod(I:Inv X AA σ H s):Mod X.K X.mg X.base:=I.ok.mod
def Inv.kIn(I:Inv X AA σ H s):X.K.In s.heap:=I.ok.mod.kin.keeps I.bk
def Inv.lt(I:Inv X AA σ H s):X.env.locals<s.heap.objs.size:=let ⟨_,a,_⟩:=I.loc;a.lt
def Inv.sz(I:Inv X AA σ H s):X.s₀.heap.objs.size<=s.heap.objs.size:=υ I.ok.above<|ka I.lt
def Inv.nofs(I:Inv X AA σ H s)(h:s.heap.objs.size<=a):a∉X.fs:=λb=>by
 let[z,o,c,z]:=I.ok.funs.mem b;exact absurd (ω (av c) (υ I.sz h)) (ji _)
def Inv.cne(I:Inv X AA σ H s):∀ x c,X.env.cells.lookup x=some c->c≠X.env.locals:=λx c e z=>by
 let[m,[g,i,j,a,b,y],y]:=I.loc;let[v,o,d,hd]:=I.cell x c e;rw[z,a]at d;obtain rfl:=μ d;rw[b]at hd;cases hd
def Inv.funs(I:Inv X AA σ H s):s.heap.FunFrames X.base X.outer:=by
 have all:∀ (l:List _),(∀ b∈EK l,b∈X.fs)->X.s₀.heap.FunFrames X.base l->s.heap.FunFrames X.base l:=by
  intro l
  induction l with
  |nil=>intro y y;trivial
  |cons env r d =>
   intro hs [g,[L,o,hf,i,j,hd],n]
   have a:=hs L (by unfold EK;rw[ph,hf];exact χ);let[p,e]:=I.base.slot L o j (I.ok.frf L a) a λz=>I.ok.exfs L z a;exact{g,x2 L _ ⟨hf,i,e,hd⟩,d (λb c=>hs b (by unfold EK;rw[ph,hf];exact τ _ c)) n}
 exact all _ (λy c=>c) I.ok.funs
def Inv.stack(I:Inv X AA σ H s):s.heap.FunFrames X.base X.stack:=by
 let e||[e,hf]:=I.ok.stk
 rw[e];exact I.funs;let[m,a,z]:=I.loc;rw[e];exact .cons (by rw[I.ok.kind];decide) hf a (Heap.get?_none_of_le<|υ I.ok.bsz I.ok.above) I.funs
def Inv.stkSub(I:Inv X AA σ H s):∀ b∈EK X.stack,b∈X.env.locals::X.fs:=λb a=>by
 let e||[e,hf]:=I.ok.stk
 rw[e]at a;exact τ _ a;rw[e]at a;unfold EK at a;rw[ph,hf]at a;exact a
def Inv.stkFree(I:Inv X AA σ H s):∀ b∈EK X.stack,H b=none:=λb a=>by
 rcases af.mp (I.stkSub b a)with e|a
 rw[e];exact I.free;let[y,o,c,y]:=I.ok.funs.mem a;exact I.base.free b o c (I.ok.frf b a) λz=>I.ok.exfs b z a
def Inv.step{O:Array Bu}{t':Nat}{Y:Drawn}{ch:eF}(I:Inv X AA σ H s)
  (E:∀ b∈ch,(b∈X.ex\/X.s₀.heap.objs.size<=b)/\b≠X.env.locals/\(∀ x c,X.env.cells.lookup x=some c->c≠b)/\∀ p∈X.pn++AA,p.1≠b)
  (keep:∀ b o,b≠X.env.locals->b∉X.fs->b∉ch->s.heap.get? b=some o->H b=none->h'.get? b=some o)
  (slot:∀ b o,b≠X.env.locals->b∈X.fs->b∉ch->s.heap.get? b=some o->H b=none->∃ N,h'.get? b=some { o with slots:=N }) (free:∀ b o,b∉ch->s.heap.get? b=some o->H b=none->H' b=none)
  (there:∀ b o,b∉ch->s.heap.get? b=some o->∃ J,h'.get? b=some J)
  (tups:∀ b xs,H b=some (.tup xs)->H' b=some (.tup xs)) (frzs:∀ b o u,H b=some (.frz o u)->H' b=some (.frz o u)) (tbls:∀ b ps,H b=some (.tbl ps)->∃ more,H' b=some (.tbl<|ps++more))
  (ns:∀ m,s.heap.Ns X.env.locals m->h'.Ns X.env.locals m) (hok:HOk X.prog X.w H' h') (hg:s_ O) :
  Inv X AA σ H' { s with heap:=h',gens:=O,drawn:=Y,toks:=t' }:=by
 have L:∀ b o,X.s₀.heap.get? b=some o->b≠X.env.locals:=λb o e=>bm<|ω (av e) I.ok.above
 have w:∀ b o,X.s₀.heap.get? b=some o->b∉X.ex->b∉ch:=λb o e a B=>by
  let z||z:=(E b B).1
  exact a z;exact absurd (ω (av e) z) (ji _)
 have g:∀ x c,X.env.cells.lookup x=some c->∀ v,s.heap.IsCell c v->h'.IsCell c v:=λx c e v ⟨o,D,hd⟩=>by
  have j:=λz=>(E c z).2.2.1 x c e rfl;by_cases Q:c∈X.fs;let[N,q]:=slot c o (I.cne x c e) Q j D (I.freeC x c e);exact⟨_,q,hd⟩;exact{o,keep c o (I.cne x c e) Q j D (I.freeC x c e),hd}
 refine{I.ok,I.os,hg,{λb o e n B a=>(keep b o (L b o e) B (w b o e a) (I.base.keep b o e n B a) (I.base.free b o e n a)),λb o e n B a=>?_,λb o e n a=>?_,λb o e a=>?_,λb xs e=>tups b xs<|I.base.tups b xs e,λb o xs e=>frzs b o xs<|I.base.frzs b o xs e,λb ps e=>?_},?_,λx c e=>?_,?_,λx c e=>?_,λp T=>?_,hok,I.len};let[N,A]:=I.base.slot b o e n B a;let[sl',M]:=slot b _ (L b o e) B (w b o e a) A (I.base.free b o e n a);exact⟨_,M⟩;let[J,A]:=I.base.there b o e a;exact free b J (w b o e a) A (I.base.free b o e n a);let[J,A]:=I.base.there b o e a;exact there b J (w b o e a) A;let[m1,A]:=I.base.tbls b ps e;let[m2,M]:=tbls b _ A;exact{_,by rw[M,Be]};let[m,hn,hl]:=I.loc;refine{m,ns m hn,λi x v A M e3=>?_};let[u,r,l]:=hl i x v A M e3;refine{u,r,?_};let l||[k,c,e,z]:=l
 exact .inl l;exact .inr {k,c,e,g x c e _ z};let[v,z]:=I.cell x c e;exact{v,g x c e v z};let[m,[o,y,y,D,y],y]:=I.loc;exact free _ o (λz=>(E _ z).2.1 rfl) D I.free;let[v,o,D,hd]:=I.cell x c e;exact free c o (λz=>(E c z).2.2.1 x c e rfl) D (I.freeC x c e)
 have j:=λz=>(E _ z).2.2.2 p T rfl;let[e,n,ne,U,d]:=I.pin p T;exact{keep _ _ ne U j e n,free _ _ j e n,ne,U,d}
def Inv.un{t':Nat}(I:Inv X AA σ H s)(u:Un X.fs [] H H' s.heap h')(hok:HOk X.prog X.w H' h'):Inv X AA σ H' { s with heap:=h',toks:=t' }:=by
 let[m,[o,q,v,d,r],_]:=id I.loc;let[w,g]:=u.any d I.free (by simp);exact I.step   (ch:=[]) (λ_ z=>nomatch z) (λb o _ c _ e n=>u.keep b o e n c (by simp)) (λb o _ c _ e n=>u.slot b o e n c (by simp)) (λb o _ e n=>u.free b o e n (by simp)) (λb o _ e=>u.there b o e (by simp)) u.tups u.frzs u.tbls (λx i=>by
  revert i;apply u3;intro y j l [a,p];rw[d]at a;obtain rfl:=μ a;exact x3 _ _ _ ⟨g,p⟩) hok I.bare
def Inv.call{i:Array Bu}{t':Nat}{q:Drawn}{ch:eF}(I:Inv X AA σ H s)(u:Un (EK X.stack) ch H H' s.heap h')(hok:HOk X.prog X.w H' h')(v:s_ i)
  (j:∀ b∈ch,(b∈X.ex\/X.s₀.heap.objs.size<=b)/\b≠X.env.locals/\(∀ x c,X.env.cells.lookup x=some c->c≠b)/\∀ p∈X.pn++AA,p.1≠b) :
  Inv X AA σ H' { s with heap:=h',gens:=i,drawn:=q,toks:=t' }:=by
 let[m,[o,J,L,l,r],y]:=id I.loc;let[M,g]:=u.any l I.free λz=>(j _ z).2.1 rfl;exact I.step  j (λb o g w a e n=>u.keep b o e n (λz=>(af.mp<|I.stkSub b z).elim g w) a) (λb o y y a e n=>u.any e n a) (λb o a e n=>u.free b o e n a) (λb o a e=>u.there b o e a) u.tups u.frzs u.tbls (λN A=>by
  revert A;apply u3;intro O B D [d,E];rw[l]at d;obtain rfl:=μ d;exact x3 _ _ _ ⟨g,E⟩) hok v
def Inv.turned{t':Nat}{it:Addr}(I:Inv X AA σ H s)(k:∀ b o,b≠it->s.heap.get? b=some o->h'.get? b=some o)(i:H it=none)(g:it≠X.env.locals)
  (h1:it∈X.ex\/X.s₀.heap.objs.size<=it) (h2:∀ x c,X.env.cells.lookup x=some c->c≠it) (h3:∀ p∈X.pn++AA,p.1≠it):Inv X AA σ H { s with heap:=h',toks:=t' }:=by
 have d:∀ b u,H b=some u->b≠it:=λb u e z=>by rw[z,i]at e;cases e
 refine I.step   (ch:=[it]) (λb j=>?_) (λb o y y a e y=>k b o (λz=>a (by simp[z])) e) (λb o y y a e y=>{_,k b o (λz=>a (by simp[z])) e}) (λy y y y n=>n)
  (λb o a e=>{o,k b o (λz=>a (by simp[z])) e}) (λy y e=>e) (λy y y e=>e) (λb ps e=>{#[],by rw[e];simp}) (λm l=>?_) (λb u e=>?_) I.bare
 have e:b=it:=by simpa using j
 subst e;exact⟨h1,g,h2,h3⟩;revert l;apply u3;intro o w A [B,r];exact x3 o w A {k _ o (fg g) B,r};refine(I.hok b u e).stay (λc v a q=>k c v ?_ q) (λy q=>q) λy y q=>q;let z||z:=a
 rw[z];exact d b u e;exact d c _ z
def Inv.tok(I:Inv X AA σ H s)(t:Nat):Inv X AA σ H { s with toks:=t }:=I.un   Un.refl I.hok
def Inv.kept(I:Inv X AA σ H s)(k:∀ b u,s.heap.get? b=some u->h'.get? b=some u):Inv X AA σ H { s with heap:=h',toks:=t' }:=I.un (Un.kept k) (I.hok.kept k)
def Inv.laid{a:Addr}{o:HO}{t':Nat}(I:Inv X AA σ H s)(k:∀ b u,s.heap.get? b=some u->h'.get? b=some u)(c:s.heap.objs.size<=a)(new:ObjOk X.prog X.w (upd H a o) h' a o) :
  Inv X AA σ (upd H a o) { s with heap:=h',toks:=t' }:=I.un (Un.laid k c<|I.hok.fresh c) (I.hok.laid k c new)
def Inv.write(I:Inv X AA σ H s)(c:QQ (H x))(he:e=x\/H e=some (.own x))(k:∀ b u,b≠e->s.heap.get? b=some u->h'.get? b=some u)(a:∃ u,h'.get? e=some u)
  (new:ObjOk X.prog X.w (upd H x o) h' x o):Inv X AA σ (upd H x o) { s with heap:=h',toks:=t' }:=I.un (Un.write c he k a) (I.hok.write c he k a new)
def Inv.pins_of(I:Inv X AA σ H s)(h:∀ p∈a,s.heap.get? p.1=some p.2/\H p.1=none/\p.1≠X.env.locals/\p.1∉X.fs/\∀ v,p.2.data≠.cell v):Inv X a σ H s :=
 {I.ok,I.os,I.bare,I.base,I.loc,I.cell,I.free,I.freeC,λp b=>(bh.mp b).elim (λz=>I.pin p<|fz _ z) (h p),I.hok,I.len}
def pO{N:eG}(c:N.Nodup){i j:Nat}{x:Str}(a:N[i]? =some x)(b:N[j]? =some x):i=j:=by
 let[h1,d]:=η.mp a;let[h2,e]:=η.mp b;exact(E_ c).mp (d.trans e.symm)
abbrev _root_.yC:=Value->ν->Prop
def pP{M:Model}{A:de}{E:yC}{i:Nat}{x:Str}{v:V}{u:Value}{Q:Unit->ν->Prop}(I:Inv X AA σ H s)(hN:X.N.Nodup)(Y:X.N[i]? =some x)(w:OA X.env.scope x)(r:RelV v u)
  (h:∀ s',Inv X AA (σ.set i<|some v) H s'->(∃ a,gz a s.heap s'.heap/\(a=X.env.locals\/X.env.cells.lookup x=some a))->Q () s') (hf:X.fn x=true\/X.env.scope.names.lookup x=some .local:=by first|exact .inl rfl|exact .inr rfl|assumption):wpAny M A (storeName X.env x u) Q E s:=by
 let[m,hn,hl]:=id I.loc
 have J:i<σ.length:=by rw[I.len];exact(η.mp Y).1
 have cne:=I.cne
 have tracked:∀ {a:Addr} {h':Heap},(∃ o,s.heap.get? a=some o/\H a=none)->gz a _ h'->HOk _ _ H h':=λ{a h'} ha hs b ob e=>by
  let[t,t,B]:=ha;refine(I.hok b ob e).stay (λc w' l q=>(hs.2 c ?_).trans q) (λt q=>q) λt t q=>q;rintro rfl;let rfl||l:=l
  rw[B]at e;cases e;rw[B]at l;cases l
 let L||L:=w
 refine wpAny_storeName_local L hn (λh' hn' hs=>(u3 ?_<|id hn)) (by rw[I.ok.kind];rfl);intro oL t t [hoL,t];refine h _ {I.ok,I.os,I.bare,{λb o e n O w=>((hs.2 b<|bm<|ω (av e) I.ok.above).trans (I.base.keep b o e n O w)),λb o e n O w=>?_,I.base.free,λb o e w=>?_,I.base.tups,I.base.frzs,I.base.tbls},{_,hn',λj y v' g D e3=>?_},λy c e=>?_,I.free,I.freeC,λp hp=>?_,tracked ⟨oL,hoL,I.free⟩ hs,by simpa using I.len} {_,hs,.inl rfl};let[sl,g]:=I.base.slot b o e n O w;exact{sl,(hs.2 b<|bm<|ω (av e) I.ok.above).trans g};let[o',g]:=I.base.there b o e w;exact{o',(hs.2 b<|bm<|ω (av e) I.ok.above).trans g};by_cases T:j=i;subst T;rw[Y]at g;obtain rfl:=μ g;rw[gk J]at D;cases D;exact{u,r,.inl {L,by simp}};rw[ia (fg T)]at D;let[u',r',q]:=hl j y v' g D e3;refine{u',r',?_};let[k,e]||[k,c,e,z]:=q
 have:y≠x:=λe=>T<|pO hN g<|e ▸ Y;refine .inl {k,?_};simp[this,e];exact .inr {k,c,e,z.sameBut hs<|cne y c e};let[w',z]:=I.cell y c e;exact{w',z.sameBut hs<|cne y c e};let[e,n,ne,nf,d]:=I.pin p hp;exact{(hs.2 _ ne).trans e,n,ne,nf,d};let[c,l]:=I.ok.has x<|.inl L
 have U:X.fn x=true:=by
  let z||z:=hf
  exact z;rw[z]at L;cases L
 let[w',z]:=I.cell x c l;refine wpAny_storeName_cell I.ok.kind L l z<|λh' hc' hs=>?_;let[oc,hoc,hocd]:=id z;refine h _ {I.ok,I.os,I.bare,{λb o e n O w=>((hs.2 b<|bm<|ω (av e) (I.ok.cab x c U l)).trans (I.base.keep b o e n O w)),λb o e n O w=>?_,I.base.free,λb o e w=>?_,I.base.tups,I.base.frzs,I.base.tbls},{m,hn.sameBut hs<|fg<|cne x c l,λj y v' g D e3=>?_},λy c' e=>?_,I.free,I.freeC,λp hp=>?_,tracked {oc,hoc,I.freeC x c l} hs,by simpa using I.len} {c,hs,.inr l};let[sl,g]:=I.base.slot b o e n O w;exact{sl,(hs.2 b<|bm<|ω (av e) (I.ok.cab x c U l)).trans g};let[o',g]:=I.base.there b o e w;exact{o',(hs.2 b<|bm<|ω (av e) (I.ok.cab x c U l)).trans g};by_cases T:j=i;subst T;rw[Y]at g;obtain rfl:=μ g;rw[gk J]at D;cases D;exact{u,r,.inr {.inl L,c,l,hc'}};rw[ia (fg T)]at D;let[u',r',q]:=hl j y v' g D e3;refine{u',r',?_};let q||[k,c',e,z']:=q
 exact .inl q;refine .inr {k,c',e,z'.sameBut hs ?_};rintro rfl;exact T<|pO hN g<|I.ok.inj _ _ _ e l ▸ Y;by_cases hcc:c'=c;subst hcc;exact⟨_,hc'⟩;let[w2,z2]:=I.cell y c' e;exact{w2,z2.sameBut hs hcc};let[e,n,ne,nf,d]:=I.pin p hp;refine{(hs.2 _ ?_).trans e,n,ne,nf,d};intro q;rw[q,hoc]at e;exact d w' (by rw[<-(μ e)];exact hocd)
def pQ(I:Inv X AA σ H s)(b:X.N.Nodup)(c:X.N[i]? =some x)(d:OA X.env.scope x)(r:RelV v u)
  (h:∀ a,Inv X AA (σ.set i<|some v) H a->Q () a) (hf:X.fn x=true\/X.env.scope.names.lookup x=some .local:=by first|exact .inl rfl|exact .inr rfl|assumption):wpAny M A (storeName X.env x u) Q E s :=
 pP I b c d r (λa e z=>h a e) hf
def Inv.call'(I:Inv X AA σ H s)(d:a.os=s.os)(u:Un (EK X.stack) ch H H' s.heap a.heap)(hok:HOk X.prog X.w H' a.heap)(e:s_ a.gens)
  (g:∀ b∈ch,(b∈X.ex\/X.s₀.heap.objs.size<=b)/\b≠X.env.locals/\(∀ x c,X.env.cells.lookup x=some c->c≠b)/\∀ p∈X.pn++AA,p.1≠b):Inv X AA σ H' a:=by
 let[h',i,j,t',l]:=a;subst d;exact I.call    u hok e g
end
abbrev XK:=Value->Option Addr->Hp->Prop
abbrev St:=List<|Option V
abbrev VK:=V->Hp->Prop
abbrev TE:=St->Hp->VK->Prop
abbrev TT:=St->Hp->(Bool->Hp->Prop)->Prop
abbrev TA:=St->Hp->(eI->Hp->Prop)->Prop
structure Ends where
 nx:St->Hp->Prop
 rt:VK
 bk:St->Hp->Prop:=λ_ _=>False
 ct:St->Hp->Prop:=λ_ _=>False
abbrev TS:=Ends->St->Hp->Prop
def EP(X:Cx)(a:eB)(b:St)(Q:VK)(u:Value)(c:ν):Prop:=∃ v H',Inv X a b H' c/\RelV v u/\Q v H'
abbrev _root_.zC:=Bool->Hp->Prop
def TP(X:Cx)(a:eB)(c:St)(Q:zC)(b:Bool)(d:ν):Prop:=∃ H',Inv X a c H' d/\Q b H'
def AP(X:Cx)(a:eB)(b:St)(Q:eI->Hp->Prop)(us:wE)(c:ν):Prop:=∃ vs H',Inv X a b H' c/\Vals vs us/\Q vs H'
def SP(X:Cx)(b:eB)(D:Ends)(f:Flow)(c:ν):Prop :=
 match f with
 |.next=>∃ a H',Inv X b a H' c/\D.nx a H'
 |.brk=>∃ a H',Inv X b a H' c/\D.bk a H'
 |.cont=>∃ a H',Inv X b a H' c/\D.ct a H'
 |.ret u=>∃ v a H',Inv X b a H' c/\RelV v u/\D.rt v H'
def PE(X:Cx)(e:Expr)(t:TE):Prop :=
 ∀ (b:eB) (s:ν) (a:St) (H:Hp) (Q:VK),Inv X b a H s->t a H Q->wpAny (model X.prog X.w) X.A (eval e X.env) (EP X b a Q) X.xe s
def PT(X:Cx)(e:Expr)(t:TT):Prop :=
 ∀ (b:eB) (s:ν) (a:St) (H:Hp) (Q:zC),Inv X b a H s->t a H Q->wpAny (model X.prog X.w) X.A (Ka e X.env<|eval e X.env) (TP X b a Q) X.xe s
def PW(X:Cx)(e:Expr)(t:TT):Prop :=
 ∀ (whole:Sem Value) (b:eB) (s:ν) (a:St) (H:Hp) (Q:zC),Inv X b a H s->t a H Q->wpAny (model X.prog X.w) X.A (Ka e X.env whole) (TP X b a Q) X.xe s
def PW.pt(h:PW X e t):PT X e t:=h _
abbrev _root_.wF:=List Expr
def PA(X:Cx)(c:wF)(t:TA):Prop :=
 ∀ (pos:Pos) (b:eB) (s:ν) (a:St) (H:Hp) (Q:eI->Hp->Prop),Inv X b a H s->t a H Q->wpAny (model X.prog X.w) X.A (spliced<|ja pos<|ax c X.env) (AP X b a Q) X.xe s
def PS(X:Cx)(st:Stmt)(t:TS):Prop :=
 ∀ (a:eB) (s:ν) (b:St) (H:Hp) (D:Ends),Inv X a b H s->t D b H->wpAny (model X.prog X.w) X.A (exec st X.env) (SP X a D) X.xe s
def FN(X:Cx)(st:List Stmt)(t:TS):Prop :=
 ∀ (a:eB) (s:ν) (b:St) (H:Hp) (D:Ends),Inv X a b H s->t D b H->wpAny (model X.prog X.w) X.A (execs st X.env) (SP X a D) X.xe s
def AU{α :Type}{t:Sem α}{Q b: α ->ν->Prop}{M:Model}{A:de}{E:yC}{s:ν}(h:wpAny M A t Q E s)(c:∀ a s,Q a s->b a s):wpAny M A t b E s:=ni h c λz z x=>x
section
variable{X:Cx}
def T5(i:Nat):TE:=λa H Q=>∃ v,a[i]? =some (some v)/\Q v H
def tC(v:V):TE:=λ_ H Q=>Q v H
def pR(g:X.N[i]? =some x)(j:T3 X.env.scope x)(hd:(x ==("__debug__":Str))=false:=by decide)(n:(x ==("__classdict__":Str))=false:=by decide):PE X (.Name x pos) (T5 i):=by
 intro y s o H Q I [v,e,h];let[m,p,q]:=I.loc;let[u,r,l]:=q i x v g e j
 have fin:EP X _ o Q u s:=x2 v H ⟨I,r,h⟩;let[b,w]||[b,c,d,a]:=l
 exact Il (wpAny_loadName_local I.ok.kind b p w fin) hd;let b||b:=b
 exact Il (wpAny_loadName_cell I.ok.kind b d a fin) hd;exact Il (wpAny_loadName_free I.ok.kind b d a fin n) hd
def pT{i j pos}:PE X (.Constant (.int i) j pos) (tC<|.int i):=λz z z H z I h=>wpAny_Constant_int<|x2 (.int i) H {I.tok _,⟨_,rfl⟩,h}
def Wx{b j pos}:PE X (.Constant (.bool b) j pos) (tC<|.bl b):=λz z z H z I h=>Constant_bool<|x2 (.bl b) H ⟨I,rfl,h⟩
def Wy{j pos}:PE X (.Constant .none j pos) (tC .non):=λz z z H z I h=>Constant_none<|x2 (.non) H ⟨I,rfl,h⟩
def Wz{x j pos}:PE X (.Constant (.str x) j pos) (tC<|.str x):=λz z z H z I h=>Bf<|x2 (.str x) H {I.tok _,⟨_,rfl⟩,h}
def Gl(X:Cx)(x:Str):Prop:=X.env.kindOf x=some .globalImplicit
def QR(I:Inv X c d H s)(a:Gl X x)(b:X.mg x=some u)(h:Q u s)
  (hd:(x ==("__debug__":Str))=false:=by decide):wpAny (model X.prog X.w) X.A (eval (.Name x pos) X.env) Q E s :=
 vt I.ok.kind a (Calls.loadGlobal_global (by rw[I.ok.glob];exact I.mod.glob.keeps I.bk) b h) hd
def OB{E:yC}{a:eB}{s:ν}{b:St}{H:Hp}{x:Str}{u:Value}{pos:Pos}{Q:yC}(I:Inv X a b H s)(c:Gl X x)(d:X.mg x=none)(e:nz x=some u)(h:Q u s)
  (g:x≠"__name__":=by decide) (hd:(x ==("__debug__":Str))=false:=by decide):wpAny (model X.prog X.w) X.A (eval (.Name x pos) X.env) Q E s:=by
 let[i,h1,h2]:=I.mod.blt;exact vt I.ok.kind c (Calls.loadGlobal_builtin (by rw[I.ok.glob];exact I.mod.glob.keeps I.bk) d (by rw[I.ok.blt];exact h1.keeps I.bk) ((h2 x g).trans e) h) hd
def Xb(a:Gl X x)(b:X.mg x=some u)(r:RelV v u)(hd:(x ==("__debug__":Str))=false:=by decide):PE X (.Name x pos) (tC v) :=
 λz z z H z I h=>QR I a b (x2 v H ⟨I,r,h⟩) hd
def Xc(a:Gl X x)(b:X.mg x=none)(c:nz x=some u)(r:RelV v u)(d:x≠"__name__":=by decide)(hd:(x ==("__debug__":Str))=false:=by decide):PE X (.Name x pos) (tC v) :=
 λz z z H z I h=>OB I a b c (x2 v H ⟨I,r,h⟩) d hd
variable{a b:Expr}{ta tb:TE}{pos:Pos}
def PC(X:Cx)(op:CmpOp)(a b:Expr)(t:TE):Prop :=
 ∀ (g:eB) (s:ν) (e:St) (H:Hp) (Q:VK),Inv X g e H s->t e H Q ->
  wpAny (model X.prog X.w) X.A (eval a X.env) (λv c=>wpAny (model X.prog X.w) X.A (eval b X.env) (λu d=>wpAny (model X.prog X.w) X.A (dr op v u) (EP X g e Q) X.xe d) X.xe c) X.xe s
def Xd(b:Expr)(h:op≠.In)(h2:op≠.NotIn):mw op b=false:=by
 have c:(op==CmpOp.In)=false:=by cases op<;>first|rfl|exact absurd rfl h
 have d:(op==Ks)=false:=by cases op<;>first|rfl|exact absurd rfl h2
 cases b<;>simp[mw,c,d]
def tB(t:TE):TT:=λd H Q=>t d H λx e=>∃ c,x=.bl c/\Q c e
def Xg{t:TE}(h:PC X op a b t)(h1:mw op b=false:=by first|exact Xd _ (by decide) (by decide)|rfl):PT X (.Compare a [op] [b] pos) (tB t):=by
 refine λo s g H Q I i=>yy (AU (h _ s g H _ I i) λv p h1=>AU h1 λu r h2=>AU h2 λc w e=>?_) h1;let[x,j,l,n,[d,rfl,q]]:=e;subst n;exact ig ⟨j,l,q⟩
variable{tA tB':TT}{rest:wF}
def M3(t u:TT):TT:=λd H Q=>t d H λc e=>if c=true then u d e Q else Q false e
def M4(t u:TT):TT:=λd H Q=>t d H λc e=>if c=true then Q true e else u d e Q
def FB(t:TT):TT:=λd H Q=>t d H λc e=>Q (!c) e
def Xh(d:PT X a tA):PW X (.BoolOp .And [a] pos) tA:=by
 refine λi j s g H Q I h=>isTrue_and<|AU (d _ s g H Q I h) λc l e=>?_;cases c with
 |true=>exact isTrue_and_nil e
 |false=>exact e
def Xj(d:PT X a tA):PW X (.BoolOp .Or [a] pos) tA:=by
 refine λi j s g H Q I h=>isTrue_or<|AU (d _ s g H Q I h) λc l e=>?_;cases c with
 |false=>exact isTrue_or_nil e
 |true=>exact e
def Xk(j:PT X a tA)(l:PW X (.BoolOp .And (b::rest) pos) tB'):PW X (.BoolOp .And (a::b::rest) pos) (M3 tA tB'):=by
 refine λn p s e H Q I h=>isTrue_and<|AU (j _ s e H _ I h) λc o d=>?_;let[g,i,q1]:=d;cases c with
 |true=>exact l n _ o e g Q i q1
 |false=>exact⟨g,i,q1⟩
def Xl(j:PT X a tA)(l:PW X (.BoolOp .Or (b::rest) pos) tB'):PW X (.BoolOp .Or (a::b::rest) pos) (M4 tA tB'):=by
 refine λn p s e H Q I h=>isTrue_or<|AU (j _ s e H _ I h) λc o d=>?_;let[g,i,q1]:=d;cases c with
 |true=>exact⟨g,i,q1⟩
 |false=>exact l n _ o e g Q i q1
def Xm(d:PT X a tA):PT X (.UnaryOp .Not a pos) (FB tA):=λi s e H Q I h=>isTrue_not<|d _ s e H (λc g=>Q _ g) I h
def QS(ta tb:TE):TE:=λd H Q=>ta d H λx e=>∃ c,x=.bl c/\if c=true then tb d e Q else Q (.bl false) e
def T6(ta tb:TE):TE:=λd H Q=>ta d H λx e=>∃ c,x=.bl c/\if c=true then Q (.bl true) e else tb d e Q
def Xp{op}(h:PE X a t):PE X (.BoolOp op [a] pos) t:=λe s c H Q I d=>BoolOp_one<|h _ s c H Q I d
def Xq(j:PE X a ta)(l:PE X (.BoolOp .And (b::rest) pos) tb):PE X (.BoolOp .And (a::b::rest) pos) (QS ta tb):=by
 refine λp s e H Q I h=>BoolOp_and<|AU (j _ s e H _ I h) λv n d=>?_;let[x,g,i,o,[c,rfl,q1]]:=d;subst o;refine ig ?_;cases c with
 |true=>exact l _ n e g Q i q1
 |false=>exact x2 (.bl _) g ⟨i,rfl,q1⟩
def Xv(l:PE X a ta)(n:PE X (.BoolOp .Or (b::rest) pos) tb):PE X (.BoolOp .Or (a::b::rest) pos) (T6 ta tb):=by
 refine λe s g H Q I h=>BoolOp_or<|AU (l e s g H _ I h) λv o d=>?_;let[x,i,j,p,q1]:=d;let[c,rfl,q1]:=q1;cases p;refine ig ?_;cases c with
 |false=>exact n e o g i Q j q1
 |true=>exact x2 (.bl true) i ⟨j,rfl,q1⟩
def T7(t:TT)(ta tb:TE):TE:=λd H Q=>t d H λc e=>if c=true then ta d e Q else tb d e Q
def Xw{c:Expr}(o:PT X c tA)(p:PE X a ta)(q:PE X b tb):PE X (.IfExp c a b pos) (T7 tA ta tb):=by
 refine λe s g H Q I h=>wpAny_IfExp<|AU (o e s g H _ I h) λd j i=>?_;let[l,n,q1]:=i;cases d with
 |true=>exact p e j g l Q n q1
 |false=>exact q e j g l Q n q1
end
def SqL(K:W.Frag)(H:Hp)(a:Addr)(xs:eI):Prop :=
 Rd H a (.lst xs) ∨
  ∃ (o:Obj) (b:Array Value) (n:Nat),K.lookup a=some o/\o.cls=.type "list"/\o.dict=none/\o.data=.seq b n/\b.size<=sizeLine/\Vals xs b.toList
def SqT(K:W.Frag)(H:Hp)(a:Addr)(xs:eI):Prop :=
 Rd H a (.tup xs) ∨
  ∃ (o:Obj) (b:Array Value) (n:Nat),K.lookup a=some o/\o.cls=.type "tuple"/\o.data=.seq b n/\b.size<=sizeLine/\Vals xs b.toList
def Xx:Value->Option V
 |.none=>some .non
 |.bool b=>some<|.bl b
 |.int i _=>some<|.int i
 |.str x _=>some<|.str x
 |.bytes b _=>some<|.byt b
 |.float b _=>some<|.flt b
 |.ref a=>some<|.ref a
 |.type n=>some<|.ty n
 |_=>none
def RelV.abs(r:RelV x u):Xx u=some x:=by
 cases x with
 |non=>subst r;rfl
 |bl _=>subst r;rfl
 |int _=>let[t,rfl]:=r;rfl
 |str _=>let[t,rfl]:=r;rfl
 |byt _=>let[t,rfl]:=r;rfl
 |flt _=>let[t,rfl]:=r;rfl
 |ref _=>subst r;rfl
 |ty _=>subst r;rfl
def RelV.inj{x y:V}{u:Value}(r:RelV x u)(q:RelV y u):x=y:=μ<|r.abs.symm.trans q.abs
theorem Vals.inj:∀ {xs ys:eI} {us:wE},Vals xs us->Vals ys us->xs=ys:=by
 intro xs ys us h h'
 induction h generalizing ys with
 |nil=>cases h';rfl
 |cons r t a=>cases h' with|cons b t'=>rw[r.inj b,a t']
section
variable{X:Cx}{AA:eB}{σ:St}{H:Hp}{s:ν}{a:Addr}{xs ys:eI}
def SqL.of{K:W.Frag}(h:H a=some (.lst xs)):SqL K H a xs:=.inl<|.inl h
def SqT.of{K:W.Frag}(h:H a=some (.tup xs)):SqT K H a xs:=.inl<|.inl h
def Inv.list(I:Inv X AA σ H s)(h:SqL X.K H a xs):∃ b:wE,Vals xs b/\PlainL s.heap a b.toArray/\xs.length<=sizeLine:=by
 let h||[o,b,n,c,d,hd,hs,hz,r]:=h
 let[z,b,n,r,e]:=h.ok I.hok;exact{_,r,x2 _ n ⟨e,rfl,rfl,rfl⟩,z};refine{_,r,x2 o n {I.kIn a o c,d,hd,hs},?_};exact r.length ▸ hz
def Inv.tuple(I:Inv X AA σ H s)(h:SqT X.K H a xs):∃ b:wE,Vals xs b/\IsTup s.heap a b.toArray/\xs.length<=sizeLine:=by
 let h||[o,b,n,c,d,hs,hz,r]:=h
 let[z,b,r,p]:=h.ok I.hok;exact⟨_,r,p,z⟩;refine{_,r,{o,I.kIn a o c,d,n,hs},?_};exact r.length ▸ hz
def Inv.list_inj(I:Inv X AA σ H s)(h:SqL X.K H a xs)(h':SqL X.K H a ys):xs=ys:=by
 let[i,r,[o,n,e,z,z,d],z]:=I.list h;let[b,j,[p,q,c,z,z,g],z]:=I.list h';rw[e]at c;obtain rfl:=μ c;rw[d]at g;injection g with l _
 have:i=b:=congrArg Ke l;subst this;exact r.inj j
def Inv.tuple_inj(I:Inv X AA σ H s)(h:SqT X.K H a xs)(h':SqT X.K H a ys):xs=ys:=by
 let[i,r,[o,e,z,n,d],z]:=I.tuple h;let[b,j,[p,c,z,q,g],z]:=I.tuple h';rw[e]at c;obtain rfl:=μ c;rw[d]at g;injection g with l _
 have:i=b:=congrArg Ke l;subst this;exact r.inj j
end
section
variable{X:Cx}{AA:eB}{σ:St}{H:Hp}{s:ν}{E:yC}
end
section
variable{X:Cx}{st:Stmt}{rest:List Stmt}{t u:TS}{e:Expr}{te:TE}{pos:Pos}
def BV:TS:=λD a H=>D.nx a H
def AH(t u:TS):TS:=λD a H=>t { D with nx:=u D } a H
def Xy:FN X [] BV:=λz z a H z I h=>q_<|x2 a H ⟨I,h⟩
def Xz(h1:PS X st t)(h2:FN X rest u):FN X (st::rest) (AH t u):=by
 refine λg s a H D I h=>Fa<|AU (h1 _ s a H _ I h) λf b q=>?_;cases f with
 |next =>
  revert q;apply u2;intro c H' [d,q];exact h2 _ b _ H' D d q
 |ret v=>exact q
 |brk=>exact q
 |cont=>exact q
def Yb(h1:PS X st t):FN X [st] t:=by
 refine λb s a H D I h=>Fa<|AU (h1 _ s a H D I h) λf c q=>?_;cases f with
 |next=>exact q_ q
 |ret v=>exact q
 |brk=>exact q
 |cont=>exact q
def Inv.quiet{a:eB}{b:St}{H:Hp}{s:ν}(I:Inv X a b H s):interactive X.env=false:=by simp[interactive,I.ok.kind]
def CM(te:TE):TS:=λD a H=>te a H λ_ b=>D.nx a b
def Yc(he:PE X e te)(hs:vn e none pos.line X.env=pure false:=by rfl):PS X (.Expr e pos) (CM te):=λd s a H D I h=>wpAny_Expr_any (AU (he _ s a H _ I h) (by intro v g [x,b,c,i,q1];exact x2 a b ⟨c,q1⟩)) I.quiet hs
def AV(te:TE):TS:=λD a H=>te a H D.rt
def Yd(he:PE X e te):PS X (.Return (some e) pos) (AV te):=λg s a H D I h=>wpAny_Return_some (AU (he _ s a H _ I h) (by intro v i [x,b,c,d,q1];exact x3 x a b ⟨c,d,q1⟩))
def BH(c:TT)(t u:TS):TS:=λD a H=>c a H λb d=>if b=true then t D a d else u D a d
def Yg{j:TT}(p:PT X c j)(q:FN X a t)(r:FN X b u):PS X (.If c a b pos) (BH j t u):=by
 refine λv s g H D I h=>wpAny_If<|AU (p _ s g H _ I h) λd l i=>?_;let[n,o,q1]:=i;cases d with
 |true=>exact q _ l g n D o q1
 |false=>exact r _ l g n D o q1
end
abbrev TG:=V->St->Hp->(St->Hp->Prop)->Prop
abbrev HL:=eI->St->Hp->(St->Hp->Prop)->Prop
def PG(X:Cx)(target:Expr)(t:TG):Prop :=
 ∀ (b:eB) (s:ν) (c:St) (H:Hp) (v:V) (u:Value) (Q:St->Hp->Prop),Inv X b c H s->RelV v u->t v c H Q ->
  wpAny (model X.prog X.w) X.A (Kf target X.env u) (λ_ d=>∃ a H',Inv X b a H' d/\Q a H') X.xe s
def JD(X:Cx)(d:wF)(t:HL):Prop :=
 ∀ (b:eB) (s:ν) (c:St) (H:Hp) (vs:eI) (us:wE) (Q:St->Hp->Prop),Inv X b c H s->Vals vs us->t vs c H Q ->
  wpAny (model X.prog X.w) X.A (assignInOrder ((vx d X.env).map (·.2)) us) (λ_ e=>∃ a H',Inv X b a H' e/\Q a H') X.xe s
abbrev XT:=V->V->V->Hp->(Hp->Prop)->Prop
def XU(X:Cx)(t:XT):Prop :=
 ∀ (a:eB) (s:ν) (b:St) (H:Hp) (o i v:V) (c iv u:Value) (Q:Hp->Prop),Inv X a b H s->RelV o c->RelV i iv->RelV v u->t o i v H Q ->
  wpAny (model X.prog X.w) X.A (Ki c iv u) (λ_ d=>∃ H',Inv X a b H' d/\Q H') X.xe s
abbrev pU:=V->V->Hp->VK->Prop
section
variable{X:Cx}{pos:Pos}
def AF(i:Nat):TG:=λv a H Q=>Q (a.set i<|some v) H
def pV(a:X.N.Nodup)(b:X.N[i]? =some x)(c:OA X.env.scope x)(hf:X.fn x=true\/X.env.scope.names.lookup x=some .local:=by first|exact .inl rfl|exact .inr rfl|assumption):PG X (.Name x pos) (AF i):=λe s g H v u Q I r h=>B_<|pQ I a b c r (λj d=>x2 _ H ⟨d,h⟩) hf
def FO:HL:=λvs a H Q=>vs=[]/\Q a H
def DX(t:TG)(u:HL):HL:=λvs b H Q=>∃ v r,vs=v::r/\t v b H λa H'=>u r a H' Q
def Yh:JD X [] FO:=by
 intro b s a H vs us Q I r [rfl,h];exact assignInOrder_nil<|x2 a H ⟨I,h⟩
def Yj{e:Expr}{a:wF}{t:TG}{u:HL}(h1:PG X e t)(h2:JD X a u)
  (hs:(vx (e::a) X.env).map (·.2)=Kf e X.env::(vx a X.env).map (·.2):=by rfl):JD X (e::a) (DX t u):=by
 intro l s b H vs us Q I r h;revert h;apply u2;intro v n [rfl,h];cases r with
 |cons r c =>
  rw[hs];exact assignInOrder_cons (AU (h1 _ s b H _ _ _ I r h) (by intro z d [g,i,j,q1];exact(h2 _ d _ i _ _ Q j c q1)))
def FQ(K:W.Frag)(n:Nat)(t:HL):TG:=λv b H Q=>∃ a xs,v=.ref a/\SqT K H a xs/\xs.length=n/\t xs b H Q
def Yk(l:X.calm=true)(h:JD X c t)
  (p:(vx c X.env).length=n:=by rfl) (d:(vx c X.env).findIdx? (·.1)=none:=by rfl):PG X (.Tuple c k pos) (FQ X.K n t):=by
 intro A s i H v u Q I r g;revert g;apply u2;intro a xs [rfl,q,w,g];subst r;let[B,j,x,hz]:=I.tuple q;refine assign_Tuple_tuple (I.ok.hd l) x (by simp[p,<-w,j.length]) d λh' y=>?_
 have z:Inv X _ i H { s with heap:=h' }:=I.kept  λb o e=>y b o (bm<|av e) e;exact h _ _ i H xs _ Q z (j) g
def QT(to b:TE)(t:XT):TG:=λv a H Q=>to a H λo c=>b a c λi d=>t o i v d λe=>Q a e
def Yl{to c:TE}{t:XT}(d:PE X o to)(e:PE X i c)(hs:XU X t)
  (E:∀ v,Kf (.Subscript o i pos) X.env v=(do
   let a ← tf [v] (eval o X.env)
   let iv ← tf [v,a] (eval i X.env)
   ya pos
   tf [v,a,iv] (Ki a iv v)
   release [v,a,iv] []):=by intro z;rfl):PG X (.Subscript o i pos) (QT to c t):=λJ s b H v u Q I r h=>δ (fi (AU (d _ s b H _ I h) (by intro a g [x,j,l,n,q1];exact(δ (fi (AU (e _ g b j _ l q1) (by intro iv p [y,q,w,A,q2];exact(δ (Ao (δ (fi (AU (hs _ p b q x y v a iv u _ w n A r q2) (by intro z L [B,D,q3];exact(wpAny_release<|x2 b B ⟨D,q3⟩))))))))))))))
def AO(b:TE)(g:TG):TS:=λD a H=>b a H λx c=>g x a c D.nx
def Ym{c:TE}(he:PE X e c)(i:PG X a g)(hs:swapsWithSole [a] e pos.line X.env=pure false:=by rfl)(j:swappedStores [a] e X.env=pure none:=by rfl)
  (h1:(vx [a] X.env).map (·.2)=[Kf a X.env]:=by rfl):PS X (.Assign [a] e pos) (AO c g):=by
 refine λr s d H D I h=>wpAny_Assign_stores (AU (he _ s d H _ I h) λv l b=>?_) hs j;let[x,n,o,p,q1]:=b;rw[h1];exact AU (i _ l d n x v _ o p q1) λz u q=>q
def pW{b:TE}(c:X.N.Nodup)(d:X.N[i]? =some x)(g:OA X.env.scope x)(he:PE X e b)(hs:vn e (some<|.Name x a) pos.line X.env=pure false:=by rfl)(hf:X.fn x=true\/X.env.scope.names.lookup x=some .local:=by first|exact .inl rfl|exact .inr rfl|assumption) :
  PS X (.Assign [.Name x a] e pos) (AO b<|AF i):=λq s j H D I h=>wpAny_Assign_Name (AU (he _ s j H _ I h) (by intro v r [y,l,n,o,q1];exact(pQ n c d g o (λu p=>x2 _ l ⟨p,q1⟩) hf))) hs
def Yp(f:Int->Int->Int):pU:=λx y H Q=>∃ i j,x=.int i/\y=.int j/\Q (.int<|f i j) H
end
section
variable{X:Cx}{pos:Pos}
def pX(c:TT)(i:TS):TS:=λD a H=>∃ W:Nat->St->Hp->Prop,(∃ m,W m a H)/\∀ m a H,W m a H ->
 c a H λb e=>if b=true then ∃ N:St->Hp->Prop,(∀ d H',N d H'->∃ g,g<m/\W g d H')/\i { D with nx:=N,ct:=N,bk:=D.nx } a e else D.nx a e
def Yq(q:Ji (model X.prog X.w) X.A X.env X.xe)(y:PT X c z)(A:FN X body B):PS X (.While c body [] pos) (pX z B):=by
 intro Y s E H D I [W,[m0,J],a];refine wpAny_While<|codeAny_whileLoop (λn L=>∃ d H',Inv X _ d H' L/\W n d H') ?_ m0 (x2 E H ⟨I,J⟩);intro n M [O,r,Q,T];refine jw q<|AU (y _ M _ r _ Q<|a n _ r T) λb U g=>?_;let[u,w,q2]:=g;cases b with
 |true =>
  let[N,x,q2]:=q2;refine jw q<|AU (A _ U _ u _ w q2) λf s3 q3=>?_;cases f with
  |next =>
   revert q3;apply u2;intro i e [j,l];let[o,p,w3]:=x _ e l;exact{o,p,x2 _ e ⟨j,w3⟩}
  |cont =>
   revert q3;apply u2;intro i e [j,l];let[o,p,w3]:=x _ e l;exact{o,p,x2 _ e ⟨j,w3⟩}
  |brk=>exact q3
  |ret v=>exact q3
 |false =>
  exact q_<|x2 _ u ⟨w,q2⟩
end
structure It where
 go:Nat->Hp->Prop
 yld:Nat->Hp->V->Hp->Prop
 stop:Nat->Hp->Prop
def FpOk(X:Cx)(a:eB)(H:Hp)(b:Addr):Prop :=
 H b=none/\b≠X.env.locals/\b∉X.fs/\(b∈X.ex\/X.s₀.heap.objs.size<=b)/\(∀ x c,X.env.cells.lookup x=some c->c≠b)/\∀ p∈X.pn++a,p.1≠b
def Inv.fpOk(I:Inv X d j H s)(a:s.heap.objs.size<=b)(g:H' b=none):FpOk X d H' b:=by
 refine{g,i_<|ω I.lt a,I.nofs a,.inr<|υ I.sz a,λx c e z=>?_,λp i z=>(absurd (ω (av (I.pin p i).1) (by rw[z];exact a)) (ji _))};let[v,q]:=I.cell x c e;exact absurd (ω q.lt (by rw[z];exact a)) (ji _)
structure LK(P:bq)(w:World)(K:W.Frag)(tg:Expr)(J:It)(fp:eF)(it:Addr)(tn:Nat->Heap->Prop):Prop where
 mem:it∈fp
 obj:∀ i h,tn i h->∀ b∈fp,∃ o,h.get? b=some o/\∀ v,o.data≠.cell v
 keep:∀ i h h',tn i h->(∀ b∈fp,∀ o,h.get? b=some o->h'.get? b=some o)->tn i h'
 item:∀ (X:Cx),X.prog=P->X.w=w->X.K=K->X.calm=true->∀ (i:Nat) (AA:eB) (s:ν) (σ:St) (H:Hp) (E:yC),Inv X AA σ H s->(∀ b∈fp,FpOk X AA H b)->tn i s.heap->J.go i H ->
  wpAny (model P w) X.A (zb<|.ref it) (λr s1=>∃ u,r=some u /\
   wpAny (model P w) X.A (yr tg (.ref it) u) (λ_ s2=>∃ x H',Inv X AA σ H' s2/\RelV x u/\J.yld i H x H'/\tn (i+1) s2.heap/\∀ b∈fp,H' b=none) E s1) E s
 done:∀ (X:Cx),X.prog=P->X.w=w->X.K=K->X.calm=true->∀ (i:Nat) (AA:eB) (s:ν) (σ:St) (H:Hp) (E:yC),Inv X AA σ H s->(∀ b∈fp,FpOk X AA H b)->tn i s.heap->J.stop i H ->
  wpAny (model P w) X.A (zb<|.ref it) (λr s1=>r=none/\Inv X AA σ H s1) E s
 self:∀ (A:de) (i:Nat) (s:ν) (Q:yC) (E:yC),tn i s.heap->Q (.ref it) s->wpAny (model P w) A (Fe<|.ref it) Q E s
abbrev TI:=St->Hp->(It->Hp->Prop)->Prop
def pY(X:Cx)(c:eB)(i:St)(j:Expr)(R:It->Hp->Prop)(a:Value)(d:ν):Prop :=
 ∃ (it:Addr) (e:eF) (g:Nat->Heap->Prop) (J:It) (H':Hp),a=.ref it/\Inv X c i H' d/\LK X.prog X.w X.K j J e it g/\g 0 d.heap/\(∀ b∈e,FpOk X c H' b)/\R J H'
def PI(X:Cx)(c iter:Expr)(d:TI):Prop :=
 ∀ (b:eB) (s:ν) (a:St) (H:Hp) (R:It->Hp->Prop),Inv X b a H s->d a H R ->
  wpAny (model X.prog X.w) X.A (eval iter X.env) (λv e=>wpAny (model X.prog X.w) X.A (Fe v) (pY X b a c R) X.xe e) X.xe s
def QU(b:s.heap.get? it=some o)(c:o.cls=.type n)(hd:o.data=.fields vs)
    (d:["enumerate","zip","dict_itemiterator","dict_reverseitemiterator","odict_iterator","itertools.zip_longest","itertools.pairwise"].contains n=false) (a:Q () s):wpAny M A (yr e (.ref it) u) Q E s:=by
  cases e<;>first
    |exact ρ a
    | (cases u<;>first
        |exact ρ a
        | (refine δ (wpAny_load b ?_)
           rw[c,hd]
           show wpAny M A (if(["enumerate","zip","dict_itemiterator","dict_reverseitemiterator","odict_iterator","itertools.zip_longest","itertools.pairwise"].contains n&&vs[0]? == some _)=true then _ else _) Q E s;rw[if_neg (by intro h;rw[d]at h;cases h)];exact ρ a))
def GK(K:W.Frag)(a:Addr):It :=
 {λi H=>∃ xs x,SqL K H a xs/\xs[i]? =some x,λi H x H'=>H'=H/\∀ xs,SqL K H a xs->xs[i]? =some x,λi H=>∃ xs,SqL K H a xs/\xs.length<=i}
def JE(K:W.Frag)(a:Addr):It :=
 {λi H=>∃ xs x,SqT K H a xs/\xs[i]? =some x,λi H x H'=>H'=H/\∀ xs,SqT K H a xs->xs[i]? =some x,λi H=>∃ xs,SqT K H a xs/\xs.length<=i}
def FR(lo:Int)(n:Nat):It:={λi _=>i<n,λi H x H'=>H'=H/\x=.int (lo+i),λi _=>n<=i}
def Yv{P:bq}{w:World}{K:W.Frag}{Q:Expr}(a it:Addr):LK P w K Q (GK K a) [it] it (λi h=>h.IsListIter it a i) where
 mem:=by simp
 obj:=λi h st b g=>by
  have e:b=it:=by simpa using g
  subst e;let[o,e,c,d]:=st;exact{o,e,λv z=>by rw[d]at z;cases z}
 keep:=λi h h' st k=>st.at λo e=>k it (by simp) o e
 item:=by
  intro X q r A N i T s O H E I hf st U;subst q r A;revert U;apply u2;intro xs x [l,n];let[Y,B,p,hz]:=I.list l;let[D,f1,f2,J,L,M]:=hf it (by simp);let[u,hu,ru]:=B.get n;refine wpAny_pyNext_list_item st p.isList  (by simpa using hu) λh' j sb=>?_
  have I1:Inv X _ O H { s with heap:=h' }:=I.turned  (λb o g e=>(sb.2 b g).trans e) D f1 J L M;let[o,e,c,d]:=id j;exact{u,rfl,QU  e c d (by decide) (x2 x H {I1,ru,{rfl,λys hy=>by rw[I.list_inj hy l];exact n},j,λb g=>(hf b g).1})}
 done:=by
  intro X q r A N i T s O H E I hf st [xs,l,n];subst q r A;let[Y,B,p,hz]:=I.list l;let[D,f1,f2,J,L,M]:=hf it (by simp);exact wpAny_pyNext_list_end (I.ok.hd N) st p.isList (by simp;exact B.length ▸ n) λh' eb=>{rfl,I.turned  (λb o g e=>eb b o g e) D f1 J L M}
 self:=λy y y y y st h=>wpAny_pyIter_listiter st h
def Yw{P:bq}{w:World}{K:W.Frag}{Q:Expr}(a it:Addr):LK P w K Q (JE K a) [it] it (λi h=>h.IsTupleIter it a i) where
 mem:=by simp
 obj:=λi h st b g=>by
  have e:b=it:=by simpa using g
  subst e;let[o,e,c,d]:=st;exact{o,e,λv z=>by rw[d]at z;cases z}
 keep:=λi h h' st k=>st.at λo e=>k it (by simp) o e
 item:=by
  intro X q r A N i T s O H E I hf st U;subst q r A;revert U;apply u2;intro xs x [l,n];let[Y,B,p,hz]:=I.tuple l;let[D,f1,f2,J,L,M]:=hf it (by simp);let[u,hu,ru]:=B.get n;refine wpAny_pyNext_tuple_item st (p)  (by simpa using hu) λh' j sb=>?_
  have I1:Inv X _ O H { s with heap:=h' }:=I.turned  (λb o g e=>(sb.2 b g).trans e) D f1 J L M;let[o,e,c,d]:=id j;exact{u,rfl,QU  e c d (by decide) (x2 x H {I1,ru,{rfl,λys hy=>by rw[I.tuple_inj hy l];exact n},j,λb g=>(hf b g).1})}
 done:=by
  intro X q r A N i T s O H E I hf st [xs,l,n];subst q r A;let[Y,B,p,hz]:=I.tuple l;let[D,f1,f2,J,L,M]:=hf it (by simp);exact wpAny_pyNext_tuple_end (I.ok.hd N) st (p) (by simp;exact B.length ▸ n) λh' eb=>{rfl,I.turned  (λb o g e=>eb b o g e) D f1 J L M}
 self:=λy y y y y st h=>wpAny_pyIter_tupleiter st h
def Yx{P:bq}{w:World}{K:W.Frag}{u:Expr}(it:Addr)(lo:Int)(n:Nat):LK P w K u (FR lo n) [it] it (λi h=>IsRangeIter h it (lo+(i:Nat) * 1) ((n:Int) - (i:Nat)) 1) where
 mem:=by simp
 obj:=λi h st b a=>by
  have e:b=it:=by simpa using a
  subst e;exact⟨_,st,λv z=>by
   cases z⟩
 keep:=λi h h' st k=>k it (by simp) _ st
 item:=by
  intro X x A B d i D s r H E I hf st g;let[j,f1,f2,l,p,q]:=hf it (by simp);refine(Walks.range   (I.ok.hd d) it lo 1 n).item i s _ _ g st λv h' tk J c L=>?_;let[t,rfl]:=J
  have M:Inv X _ r H { s with heap:=h',toks:=tk }:=I.turned (λb o a e=>L b o (by simpa using a) e) j f1 l p q;refine{_,rfl,QU   c rfl rfl (by decide) (x2 (.int _) H {M,{t,?_},⟨rfl,rfl⟩,c,λb a=>(hf b a).1})};rw[Int.mul_one]
 done:=by
  intro X x A B d i D s r H E I hf st g;let[j,f1,f2,l,p,q]:=hf it (by simp);exact wpAny_pyNext_range_end (I.ok.hd d) st (by have:n<=i:=g;lia) λh' N=>{rfl,I.turned  (λb o a e=>N b o a e) j f1 l p q}
 self:=λy y y y y st h=>wpAny_pyIter_rangeiter st h
section
variable{X:Cx}{tg:Expr}
def Yy{g:eB}{c:St}{H:Hp}{s:ν}{R:It->Hp->Prop}{E:yC}{lo a:Int}{t u v:Tok}{tk:Nat}(I:Inv X g c H s)(h1: -(2^62)<=lo)(h2:lo<2^62)(h3: -(2^62)<=a)(h4:a<2^62)
  (q:R (FR lo (a-lo).toNat) H):wpAny (model X.prog X.w) X.A (Fe<|.ref s.heap.objs.size) (pY X g c tg R) E { s with heap:=s.heap.push { cls:=.type "range",data:=.fields #[.int lo t,.int a u,.int 1 v] },toks:=tk }:=by
 refine wpAny_pyIter_range (IsRange.new ..) (small_one h1 h2 h3 h4) ?_
 have d:Inv X _ c H { s with heap:=s.heap.push { cls:=.type "range",data:=.fields #[.int lo t,.int a u,.int 1 v] },toks:=tk }:=I.kept λb o e=>ξ _ e;refine⟨_,_,_,_,H,rfl,
  d.kept  λb o e=>ξ _ e,Yx _ lo _,?_,λb i=>?_,q⟩
 have j:lo+((0:Nat))*1=lo:=by simp
 have l:(((a-lo).toNat))-((0:Nat))=Jo lo a 1:=by rw[rangeSize_one];split<;>omega
 rw[j,l];exact aj _ rfl
 have e:b=(s.heap.push { cls:=.type "range",data:=.fields #[.int lo t,.int a u,.int 1 v] }).objs.size:=by simpa using i
 subst e;exact d.fpOk (π _) (d.hok.fresh<|π _)
def T8(a:TA):TI:=λb H R=>a b H λvs c=>∃ j:Int,vs=[.int j]/\ -(2^62)<=j/\j<2^62/\R (FR 0 j.toNat) c
def Yz{a:Expr}{c:TA}{p pos:Pos}(d:Gl X "range")(e:X.mg "range"=none)(g:PA X [a] c)(hs:ax [a] X.env=[(false,eval a X.env)]:=by rfl):PI X tg (.Call (.Name "range" p) [a] [] pos) (T8 c):=by
 refine λu s i H R I h=>Call_<|OB I d e boot_range<|jg (AU (g _ _ s i H _ I h) λus v b=>?_) hs rfl;let[vs,w,l,n,[j,rfl,q1,q2,q]]:=b;cases n with
 |cons r o =>
  cases o;let[t,rfl]:=r;exact call_range_1 (Yy l (by decide) (by decide) q1 q2 (by simpa using q))
def DT(e:TI)(g:TG)(j:TS):TS:=λD a H=>e a H λJ l=>∃ W:Nat->Nat->St->Hp->Prop,(∃ m,W 0 m a l)/\∀ i m a H,W i m a H ->
 (J.stop i H/\D.nx a H)\/(J.go i H/\∃ N:St->Hp->Prop,(∀ b H',N b H'->∃ d,d<m/\W (i+1) d b H')/\∀ x H',J.yld i H x H'->g x a H' λc n=>j { D with nx:=N,ct:=N,bk:=D.nx } c n)
def T9(a:eF)(h:Heap):eB:=a.filterMap λb=>(h.get? b).map λo=>(b,o)
def UA(a:b∈c)(e:h.get? b=some o):(b,o)∈T9 c h:=lm.mpr {b,a,by rw[e];rfl}
def Zb(a:p∈T9 c h):p.1∈c/\h.get? p.1=some p.2:=by
 let[b,d,e]:=lm.mp a;cases q:h.get? b with
 |none=>rw[q]at e;cases e
 |some o =>
  rw[q]at e
  have g:=μ e;subst g;exact⟨d,q⟩
def Inv.pinned(I:Inv X a j H s)(hf:∀ b∈c,FpOk X a H b)(l:∀ b∈c,∃ o,s.heap.get? b=some o/\∀ v,o.data≠.cell v):Inv X (a++T9 c s.heap) j H s :=
 I.pins_of λp n=>(bh.mp n).elim (λz=>I.pin p<|ci _ z) λz=>by
  let[g,e]:=Zb z;let[q,f1,f2,y]:=hf _ g;let[o,i,d]:=l _ g;rw[e]at i;obtain rfl:=μ i;exact⟨e,q,f1,f2,d⟩
def Inv.unpinned(I:Inv X (a++d) b H s):Inv X a b H s:=I.pins_of λp c=>I.pin p<|ci _<|fz _ c
def Zc(B:Ji (model X.prog X.w) X.A X.env X.xe)(hc:X.calm=true)(hi:PI X tg iter wi)(hg:PG X tg g)(c:FN X body tb)
  (hs:∀ x,mx iter X.env x=pure x:=by intro z;rfl):PS X (.For tg iter body [] pos) (DT wi g tb):=by
 refine λAA s σ H D I h=>wpAny_For (AU (hi _ s σ H _ I h) λv s1 h1=>AU h1 λitv s2 h2=>?_) hs;revert h2;apply u5;intro it Q tn J H2 [rfl,I2,T,Y,f2,W,[m0,w0],E]
 have j:∀ {H':Hp},(∀ b∈Q,H' b=none)->∀ b∈Q,FpOk X _ H' b:=λhn b c=>{hn b c,(f2 b c).2}
 refine codeAny_forLoop_any (λn s'=>∃ i l H',Inv X _ l H' s'/\tn i s'.heap/\(∀ b∈Q,H' b=none)/\W i n l H') ?_ m0 (x3 0 σ H2 {I2,Y,λb c=>(f2 b c).1,w0});intro n s3 [i,σ3,U,I3,L,M,w3];let[stop,qn]||[go,N,hN,step]:=E i n _ U w3
 refine jw B<|AU (T.done X rfl rfl rfl hc i _ s3 _ U _ I3 (j M) L stop) λr s4 p=>?_;let[rfl,I4]:=p;exact q_<|x2 _ U ⟨I4,qn⟩;refine jw B<|AU (T.item X rfl rfl rfl hc i _ s3 _ U _ I3 (j M) L go) λr s4 p=>?_;let[u,rfl,h4]:=p;refine jw B<|AU h4 λz s5 p=>?_;let[x,H5,I5,r5,y5,A,fr5]:=p;refine jw B<|AU (hg _ s5 _ H5 x u _ (I5.pinned (j fr5) (T.obj _ _ A)) r5 (step x H5 y5)) λz s6 ⟨σ6,H6,I6,q6⟩=>(jw B<|AU (c _ s6 _ H6 _ I6 q6) λf s7 y=>?_)
 have again:∀ {a:St} {q:Hp},Inv X _ _ q s7->N _ q->∃ m,m<n/\∃ i l H',Inv X AA l H' s7/\tn i _/\(∀ b∈Q,H' b=none)/\W i m l H':=λ{a q} w O=>by
  let[m',hm,w7]:=hN _ q O;refine{m',hm,x3 _ a q {w.unpinned,T.keep _ _ _ A λb c o e=>(w.pin _<|ci _<|ci _<|UA c e).1,λb c=>?_,w7}};let[o,e,d]:=T.obj _ _ A b c;exact(w.pin _<|ci _<|ci _<|UA c e).2.1
 cases f with
 |next=>revert y;apply u2;intro a q [w,O];exact again w O
 |cont=>revert y;apply u2;intro a q [w,O];exact again w O
 |brk=>revert y;apply u2;intro a q [w,y];exact x2 _ q ⟨w.unpinned,y⟩
 |ret v=>revert y;apply u3;intro x7 a q [w,r7,y];exact x3 x7 _ q ⟨w.unpinned,r7,y⟩
end
abbrev _root_.yB:=Nat->St->Hp->Prop
def Zd{K:PySem.W.Frag}{a:Addr}{xs:eI}{g:TG}{l:TS}{D:Ends}{b:St}{H:Hp}(Pv:yB)(h0:Pv 0 b H)(r:∀ i b H,i<=xs.length->Pv i b H->SqL K H a xs)
  (hs:∀ i x b H,xs[i]? =some x->Pv i b H->g x b H λc j=>l { D with nx:=Pv<|i+1,ct:=Pv<|i+1,bk:=D.nx } c j) (hd:∀ b H,Pv xs.length b H->D.nx b H) :
  ∃ W:Nat->Nat->St->Hp->Prop,(∃ m,W 0 m b H)/\∀ i m b H,W i m b H ->
   ((GK K a).stop i H/\D.nx b H)\/((GK K a).go i H/\∃ N:St->Hp->Prop,(∀ d H',N d H'->∃ n,n<m/\W (i+1) n d H')/\∀ x H',(GK K a).yld i H x H'->g x b H' λc j=>l { D with nx:=N,ct:=N,bk:=D.nx } c j):=by
 refine{λi m b H=>m=xs.length-i/\i<=xs.length/\Pv i b H,{xs.length,rfl,bt _,h0},?_};intro i m b H [rfl,s,p]
 have q:=r i b H s p;by_cases o:i<xs.length;refine .inr {x2 xs (xs[i]) {q,by simp[o]},_,λd H' u=>{_,cq ‹_›,rfl,o,u},λx H' y=>?_};let[rfl,y]:=y;exact hs i x b _ (y xs q) p
 have e:i=xs.length:=by lia
 subst e;exact .inl {{xs,q,π _},hd b H p}
def Zg{K:PySem.W.Frag}{a:Addr}{xs:eI}{g:TG}{l:TS}{D:Ends}{b:St}{H:Hp}(Pv:yB)(h0:Pv 0 b H)(r:∀ i b H,i<=xs.length->Pv i b H->SqT K H a xs)
  (hs:∀ i x b H,xs[i]? =some x->Pv i b H->g x b H λc j=>l { D with nx:=Pv<|i+1,ct:=Pv<|i+1,bk:=D.nx } c j) (hd:∀ b H,Pv xs.length b H->D.nx b H) :
  ∃ W:Nat->Nat->St->Hp->Prop,(∃ m,W 0 m b H)/\∀ i m b H,W i m b H ->
   ((JE K a).stop i H/\D.nx b H)\/((JE K a).go i H/\∃ N:St->Hp->Prop,(∀ d H',N d H'->∃ n,n<m/\W (i+1) n d H')/\∀ x H',(JE K a).yld i H x H'->g x b H' λc j=>l { D with nx:=N,ct:=N,bk:=D.nx } c j):=by
 refine{λi m b H=>m=xs.length-i/\i<=xs.length/\Pv i b H,{xs.length,rfl,bt _,h0},?_};intro i m b H [rfl,s,p]
 have q:=r i b H s p;by_cases o:i<xs.length;refine .inr {x2 xs (xs[i]) {q,by simp[o]},_,λd H' u=>{_,by omega,rfl,o,u},λx H' y=>?_};let[rfl,y]:=y;exact hs i x b _ (y xs q) p
 have e:i=xs.length:=by lia
 subst e;exact .inl {{xs,q,π _},hd b H p}
def Zh{lo:Int}{n:Nat}{g:TG}{l:TS}{D:Ends}{a:St}{H:Hp}(Pv:yB)(h0:Pv 0 a H)
  (hs:∀ i a H,i<n->Pv i a H->g (.int<|lo+i) a H λb d=>l { D with nx:=Pv<|i+1,ct:=Pv<|i+1,bk:=D.nx } b d) (hd:∀ a H,Pv n a H->D.nx a H) :
  ∃ W:Nat->Nat->St->Hp->Prop,(∃ m,W 0 m a H)/\∀ i m a H,W i m a H ->
   ((FR lo n).stop i H/\D.nx a H)\/((FR lo n).go i H/\∃ N:St->Hp->Prop,(∀ c H',N c H'->∃ o,o<m/\W (i+1) o c H')/\∀ x H',(FR lo n).yld i H x H'->g x a H' λb d=>l { D with nx:=N,ct:=N,bk:=D.nx } b d):=by
 refine{λi m a H=>m=n-i/\i<=n/\Pv i a H,{n,rfl,bt _,h0},?_};intro i m a H [rfl,r,p];by_cases j:i<n;refine .inr {j,_,λc H' q=>{_,cq ‹_›,rfl,j,q},λx H' y=>?_};let[e,y]:=y;subst e y;exact hs i a _ j p
 have e:i=n:=by lia
 subst e;exact .inl {π _,hd a H p}
abbrev R2:=V->V->Hp->VK->Prop
abbrev _root_.yA:=Value->Value->Sem Value
def CH(X:Cx)(f:yA)(r:R2):Prop :=
 ∀ (a:eB) (s:ν) (b:St) (H:Hp) (x y:V) (v u:Value) (Q:VK),Inv X a b H s->RelV x v->RelV y u->r x y H Q ->
  wpAny (model X.prog X.w) X.A (f v u) (EP X a b Q) X.xe s
def UB(X:Cx)(f:Value->Sem Value)(r:V->Hp->VK->Prop):Prop :=
 ∀ (a:eB) (s:ν) (b:St) (H:Hp) (x:V) (v:Value) (Q:VK),Inv X a b H s->RelV x v->r x H Q ->
  wpAny (model X.prog X.w) X.A (f v) (EP X a b Q) X.xe s
def EL(X:Cx)(f:Value)(r:eI->Hp->VK->Prop):Prop :=
 ∀ (a:eB) (s:ν) (b:St) (H:Hp) (xs:eI) (us:wE) (Q:VK),Inv X a b H s->Vals xs us->r xs H Q ->
  wpAny (model X.prog X.w) X.A (call f us) (EP X a b Q) X.xe s
def Zj(X:Cx)(r:V->Hp->(Bool->Hp->Prop)->Prop):Prop :=
 ∀ (a:eB) (s:ν) (b:St) (H:Hp) (x:V) (v:Value) (Q:zC),Inv X a b H s->RelV x v->r x H Q ->
  wpAny (model X.prog X.w) X.A (truthy v) (TP X a b Q) X.xe s
def AD(r:R2)(b c:TE):TE:=λa H Q=>b a H λx d=>c a d λy e=>r x y e Q
def OC(r:V->Hp->VK->Prop)(a:TE):TE:=λb H Q=>a b H λx c=>r x c Q
def rI(C:Int->Int->Prop)(g:Int->Int->V):R2:=λx y H Q=>∃ i j,x=.int i/\y=.int j/\C i j/\Q (g i j) H
def KK(g:Int->Int->V):R2:=λx y H Q=>∃ i j,x=.int i/\y=.int j/\Q (g i j) H
def rU(g:Int->V):V->Hp->VK->Prop:=λx H Q=>∃ i,x=.int i/\Q (g i) H
section
variable{X:Cx}{a b c:Expr}{ta tb tc:TE}{pos:Pos}
def XV(n:PE X a ta)(o:PE X b tb){R:V->V->Hp->Prop}(I:Inv X p e H s)
  (h:ta e H λx l=>tb e l λy d=>R x y d) {Q:yC} {f:yA}
  (hf:∀ v u j x y d,Inv X p e d j->RelV x v->RelV y u->R x y d->wpAny (model X.prog X.w) X.A (f v u) Q X.xe j) :
  wpAny (model X.prog X.w) X.A (eval a X.env) (λv g=>wpAny (model X.prog X.w) X.A (eval b X.env) (λu i=>wpAny (model X.prog X.w) X.A (f v u) Q X.xe i) X.xe g) X.xe s:=AU (n _ s e H _ I h) λv q ⟨x,l,r,w,q1⟩=>(AU (o _ q e l _ r q1) λu j ⟨y,d,z,A,q2⟩=>(hf v u j x y d z w A q2))
def QW{r:R2}(d:CH X (iw op) r)(e:PE X a ta)(g:PE X b tb):PE X (.BinOp a op b pos) (AD r ta tb):=λw s i H Q I h=>wpAny_BinOp<|XV e g I h λv u j x y l n o p q=>d _ j i l x y v u Q n o p q
def Zk(e:UB X (unaryOp op) r)(g:PE X a ta):PE X (.UnaryOp op a pos) (OC r ta):=λo s d H Q I h=>UnaryOp_ (AU (g _ s d H _ I h) (by intro v i [x,j,l,n,q1];exact e _ i d j x v Q l n q1))
def XW{f:yA}{C:Int->Int->Prop}{g:Int->Int->Int}
  (rule:∀ (i j:Int) (t u:Tok) (s:ν) (Q:yC) (E:yC),C i j->Q (.int (g i j) s.toks) { s with toks:=s.toks+1 }->wpAny (model X.prog X.w) X.A (f (.int i t) (.int j u)) Q E s) :
  CH X f (rI C λi j=>.int<|g i j):=by
 intro n s o H x y v u Q I d e h;revert h;apply u2;intro i j [rfl,rfl,l,q];let[t,rfl]:=d;let[t',rfl]:=e;exact rule i j t t' s _ _ l<|x2 (.int _) H {I.tok _,⟨_,rfl⟩,q}
def pZ{f:yA}{g:Int->Int->Int}
  (rule:∀ (i j:Int) (t u:Tok) (s:ν) (Q:yC) (E:yC),Q (.int (g i j) s.toks) { s with toks:=s.toks+1 }->wpAny (model X.prog X.w) X.A (f (.int i t) (.int j u)) Q E s) :
  CH X f (KK λi j=>.int<|g i j):=by
 intro l s n H x y v u Q I d e h;revert h;apply u2;intro i j [rfl,rfl,q];let[t,rfl]:=d;let[t',rfl]:=e;exact rule i j t t' s _ _<|x2 (.int _) H {I.tok _,⟨_,rfl⟩,q}
def XX{f:yA}{g:Int->zE}
  (rule:∀ (i j:Int) (t u:Tok) (s:ν) (Q:yC) (E:yC),Q (.bool<|g i j) s->wpAny (model X.prog X.w) X.A (f (.int i t) (.int j u)) Q E s) :
  CH X f (KK λi j=>.bl<|g i j):=by
 intro l s n H x y v u Q I d e h;revert h;apply u2;intro i j [rfl,rfl,q];let[t,rfl]:=d;let[t',rfl]:=e;exact rule i j t t' s _ _<|x2 (.bl _) H ⟨I,rfl,q⟩
def p0(i j:Int):Prop:=0<j/\j<1073741824
def Zl(i j:Int):Prop:=0<=j/\j<=1000000/\i.natAbs<2^64
def CMul(i j:Int):Prop:=(-(2^64)<i/\i<2^64)\/(-(2^64)<j/\j<2^64)
def CMul.ok(h:CMul i j):IntMulOk i j:=by
 let[h1,h2]||[h1,h2]:=h
 exact .of_left<|intBits_le_64 h1 h2;exact .of_right<|intBits_le_64 h1 h2
def Zm:CH X (iw .Add) (KK λi j=>.int<|i+j):=pZ λz z z z z z z q=>add_int q
def Zp:CH X (iw .Sub) (KK λi j=>.int<|i-j):=pZ λz z z z z z z q=>sub_int q
def Zq:CH X (iw .Mult) (rI CMul λi j=>.int<|i*j):=XW λz z z z z z z d q=>mul_int q d.ok
def Zv:CH X (iw .FloorDiv) (rI p0 λi j=>.int<|i/j):=XW λi j z z z z z d q=>by
 have h1:=d.1
 have h2:=d.2;exact floordiv_int (by omega) (by rw[Int.fdiv_eq_ediv_of_nonneg i (Ca ‹_›)];exact q) (.inl (PyProof.noPylong_small (by omega)))
def Zw:CH X (iw .Mod) (rI (λ_ j=>0<j) λi j=>.int<|i%j):=XW λi j z z z z z d q=>mod_int' (by lia) (by rw[Int.fmod_eq_emod_of_nonneg i (Ca ‹_›)];exact q)
def Zx{f:Value->Sem Value}{g:Int->Int}
  (rule:∀ (i:Int) (t:Tok) (s:ν) (Q:yC) (E:yC),Q (.int (g i) s.toks) { s with toks:=s.toks+1 }->wpAny (model X.prog X.w) X.A (f<|.int i t) Q E s) :
  UB X f (rU λi=>.int<|g i):=by
 intro e s j H x v Q I d [i,rfl,q];let[t,rfl]:=d;exact rule i t s _ _<|x2 (.int _) H {I.tok _,⟨_,rfl⟩,q}
def Zy:UB X (unaryOp .USub) (rU λi=>.int (-i)):=Zx λz z z z z q=>neg_int q
end
section
variable{X:Cx}{a b c:Expr}{ta tb tc:TE}{pos:Pos}
def GL(I:Inv X d g H s)(q:Q (.bl k) H)(e:k=i):EP X d g Q (.bool i) s:=by
 subst e;exact x2 (.bl k) H ⟨I,rfl,q⟩
def Zz:CH X (dr .Lt) (KK λi j=>.bl<|decide<|i<j):=XX λz z z z z z z q=>lt_int q
def zaa:CH X (dr .LtE) (KK λi j=>.bl<|decide<|i<=j):=XX λz z z z z z z q=>le_int q
def zab:CH X (dr .Gt) (KK λi j=>.bl<|decide<|j<i):=XX λz z z z z z z q=>gt_int q
def zac:CH X (dr .Is) (λx y H Q=>y=.non/\Q (.bl<|decide<|x=.non) H):=by
 intro g s i H x y v u Q I d e [rfl,q];subst e;refine is_none_gen<|GL I q ?_;cases x<;>first
  |(rfl)
  |(let[t,rfl]:=d;rfl)
def zad:CH X (dr .IsNot) (λx y H Q=>y=.non/\Q (.bl<|!decide (x=.non)) H):=by
 intro g s i H x y v u Q I d e [rfl,q];subst e;refine isnot_none_gen<|GL I q ?_;cases x<;>first
  |(rfl)
  |(let[t,rfl]:=d;rfl)
def LM(b:Expr)(h:op≠.In:=by decide)(h2:op≠.NotIn:=by decide):mw op b=false:=by
 have d:(op==CmpOp.In)=false:=by cases op<;>first|rfl|exact absurd rfl h
 have e:(op==Ks)=false:=by cases op<;>first|rfl|exact absurd rfl h2
 cases b<;>simp[mw,d,e]
def p5{r:R2}(d:CH X (dr op) r)(e:PE X a ta)(g:PE X b tb)(i:mw op b=false):PE X (.Compare a [op] [b] pos) (AD r ta tb):=λz s j H Q I h=>wpAny_Compare1 (XV e g I h λv u l x y n o p w q=>d _ l j n x y v u Q o p w q) i
def M5(t:TE):TT:=λd H Q=>t d H λx H'=>∃ k,x=.bl k/\Q k H'
def LN(i:CH X (dr op) r)(j:PE X a ta)(l:PE X b tb)(n:mw op b=false):PT X (.Compare a [op] [b] pos) (M5<|AD r ta tb):=by
 intro N s d H Q I h;refine yy (AU (j _ s d H _ I h) λv o ⟨x,p,q,w,q1⟩=>AU (l _ o d p _ q q1) λu A ⟨y,B,D,E,q2⟩ =>
  AU (i _ A d B x y v u _ D w E q2) λc O g=>?_) n
 let[z,J,L,M,k,e,q3]:=g;subst e;subst M;exact ig ⟨J,L,q3⟩
def M6(r g:R2)(ta tb tc:TE):TE:=λd H Q=>ta d H λx i=>tb d i λy j=>r x y j λz e=>∃ k,z=.bl k /\
 (if k=true then tc d e λl n=>g y l n Q else Q (.bl false) e)
def zae(q:CH X (dr op) r)(j:CH X (dr g) w)(A:PE X a ta)(B:PE X b tb)(D:PE X c tc)
  (E:lastMarks [op,g] [b,c]=false:=by with_unfolding_all rfl):PE X (.Compare a [op,g] [b,c] pos) (M6 r w ta tb tc):=by
 intro AA s i H Q I h;refine Compare_chain (AU (A _ s i H _ I h) λv J ⟨x,L,M,N,q1⟩=>chain_link (AU (B _ J i L _ M q1) λu O ⟨y,T,U,n,q2⟩ =>
  AU (q _ O i T x y v u _ U N n q2) λd Y l=>?_)) E
 let[z,o,p,r3,k,e,q3]:=l;subst e;subst r3;refine ig ?_;cases k with
 |false=>exact ite_ff<|x2 (.bl _) o ⟨p,rfl,q3⟩
 |true=>exact ite_tt (chain_last (AU (D _ Y i o _ p q3) (by intro w' s4 [z',H4,I4,r4,q4];exact j _ s4 i H4 y z' u w' Q I4 n r4 q4)))
def p6(q:CH X (dr op) r)(l:CH X (dr i) w)(A:PE X a ta)(B:PE X b tb)(D:PE X c tc)
  (E:lastMarks [op,i] [b,c]=false:=by with_unfolding_all rfl):PT X (.Compare a [op,i] [b,c] pos) (M5<|M6 r w ta tb tc):=by
 intro AA s j H Q I h;refine isTrue_chain (AU (A _ s j H _ I h) λv J ⟨x,L,M,N,q1⟩=>test_link (AU (B _ J j L _ M q1) λu O ⟨y,T,U,n,q2⟩ =>
  AU (q _ O j T x y v u _ U N n q2) λd Y g=>?_)) E
 let[z,o,p,r3,k,e,q3]:=g;subst e;subst r3;refine ig ?_;cases k with
 |false =>
  let[k',e',q']:=q3;cases e';exact ite_ff ⟨o,p,q'⟩
 |true =>
  refine ite_tt<|test_last<|AU (D _ Y j o _ p q3) λw' s4 ⟨z',H4,I4,r4,q4⟩=>AU (l _ s4 j H4 y z' u w' _ I4 n r4 q4) λd' s5 g=>?_;let[z2,H5,I5,r5,k2,rfl,q5]:=g;subst r5;exact ig ⟨H5,I5,q5⟩
def LP(K:W.Frag)(x:V)(H:Hp)(k:Bool):Prop :=
 match x with
 |.non=>k=false
 |.bl b=>k=b
 |.int i=>k=(i != 0)
 |.str y=>y.length<=sizeLine/\k=((y.length:Int) != 0)
 |.byt y=>y.size<=sizeLine/\k=((y.size:Int) != 0)
 |.ref p=>(∃ xs,SqL K H p xs/\k= !xs.isEmpty)\/(∃ xs,SqT K H p xs/\k= !xs.isEmpty)\/∃ kvs,H p=some (.dK kvs)/\k= !kvs.isEmpty
 |_=>False
def zaf{d :Type}{kvs:List (d × V)}{vs:List (d × Value)}(r:KV kvs vs):(!vs.isEmpty)= !kvs.isEmpty:=by
 cases r<;>rfl
def p7{xs:eI}{d:wE}(r:Vals xs d):(!d.toArray.isEmpty)= !xs.isEmpty:=by
 cases r<;>simp
def QX:(sizeLine:Nat)<2^63:=by decide
def zag:Zj X (λx H Q=>∃ k,LP X.K x H k/\Q k H):=by
 have hs:=fk;intro z s A H x v Q I g [k,e,q];cases x with
 |non =>
  subst e;subst g;exact truthy_none ⟨H,I,q⟩
 |bl b =>
  subst g;subst e;exact ig ⟨H,I,q⟩
 |int i =>
  let[t,rfl]:=g;subst e;exact PySem.P.truthy_int ⟨H,I,q⟩
 |str y =>
  let[t,rfl]:=g;obtain⟨n,d⟩:y.length<=sizeLine/\k=((y.length:Int) != 0):=e;subst d;exact PySem.P.truthy_str (by omega) {H,I.tok _,q}
 |byt y =>
  let[t,rfl]:=g;obtain⟨n,d⟩:y.size<=sizeLine/\k=((y.size:Int) != 0):=e;subst d;exact W.truthy_bytes (oA n rfl) {H,I.tok _,q}
 |ref p =>
  cases g
  have d:(∃ xs,SqL X.K H p xs/\k= !xs.isEmpty)\/(∃ xs,SqT X.K H p xs/\k= !xs.isEmpty)\/∃ kvs,H p=some (.dK kvs)/\k= !kvs.isEmpty:=e;let[xs,j,d]||[xs,j,d]||[kvs,j,d]:=d
  ·subst d;let[u,r,l,hz]:=I.list j
   have o:=r.length;exact wpAny_truthy_list l.isList (by simp only[aw];omega) {H,I.tok _,by rw[p7 r];exact q}
  ·subst d;let[u,r,l,hz]:=I.tuple j
   have o:=r.length;exact truthy_tuple l (by simp only[aw];omega) {H,I.tok _,by rw[p7 r];exact q}
  ·subst d;obtain⟨hz,w,vs,r,m⟩:kvs.length<=sizeLine/\(p==gr)=false/\∃ vs,KV kvs vs/\s.heap.DictOf (EW X.prog X.w) p vs:=I.hok p _ j
   have o:kvs.length=vs.length:=Paired.length r;exact wpAny_truthy_dict w m (by omega) {H,I.tok _,by rw[zaf r];exact q}
 |_=>exact(show False from e).elim
def zah(e:PE X a ta)(he:∀ whole,Ka a X.env whole=(do let v ← whole;ya a.pos;tf [v] (truthy v))) :
  PT X a (λd H Q=>ta d H λx H'=>∃ k,LP X.K x H' k/\Q k H'):=λn s d H Q I h=>isTrue_plain (AU (e _ s d H _ I h) (by intro v g [x,i,j,l,q1];exact zag _ g d i x v Q j l q1)) (he _)
def zai:CH X (iw .Add) (λx y H Q=>∃ i j,x=.str i/\y=.str j/\i.length+j.length<=sizeLine/\Q (.str<|i++j) H):=by
 intro g s l H x y v u Q I d e h;revert h;apply u2;intro i j [rfl,rfl,hz,q];let[t,rfl]:=d;let[t',rfl]:=e;exact add_str (λt' tk=>x2 (.str _) H {I.tok _,⟨_,rfl⟩,q}) hz
def G6(r:Vals [x] us):∃ u,us=[u]/\RelV x u:=by
 cases r with
 |cons d e=>cases e;exact⟨_,rfl,d⟩
def zaj(r:Vals [x,y] us):∃ u d,us=[u,d]/\RelV x u/\RelV y d:=by
 cases r with
 |cons e g =>
  cases g with
  |cons i j=>cases j;exact y2 ⟨rfl,e,i⟩
def zak:EL X (.builtin "ord") (λxs H Q=>∃ x,xs=[.str x]/\x.length=1/\Q (.int (x.cps.getD 0 0:Nat)) H):=by
 intro d s e H xs us Q I r [x,rfl,hz,q];let[u,rfl,t,rfl]:=G6 r;exact ord_of_one hz<|x2 (.int _) H {I.tok _,⟨_,rfl⟩,q}
def UC(K:W.Frag)(x:V)(H:Hp)(n:Nat):Prop :=
 match x with
 |.str y=>y.length<=sizeLine/\n=y.length
 |.byt y=>y.size<=sizeLine/\n=y.size
 |.ref p=>(∃ xs,SqL K H p xs/\n=xs.length)\/∃ xs,SqT K H p xs/\n=xs.length
 |_=>False
def zal:EL X (.builtin "len") (λxs H Q=>∃ x n,xs=[x]/\UC X.K x H n/\Q (.int n) H):=by
 intro z s A H xs us Q I r h;revert h;apply u2;intro x n [rfl,e,q];let[u,rfl,g]:=G6 r
 have hs:=fk;cases x with
 |str y =>
  let[t,rfl]:=g;obtain⟨v,rfl⟩:y.length<=sizeLine/\n=y.length:=e;exact len_str (by omega) (x2 (.int _) H {I.tok _,⟨_,rfl⟩,q})
 |byt y =>
  let[t,rfl]:=g;obtain⟨v,rfl⟩:y.size<=sizeLine/\n=y.size:=e;exact W.len_bytes (oA v rfl) (x2 (.int _) H {I.tok _,⟨_,rfl⟩,q})
 |ref p =>
  subst g
  have d:=e;let[xs,i,d]||[xs,i,d]:=d
  subst d;let[w,j,l,hz]:=I.list i
  have o:=j.length;exact Calls.call_len_list l.isList (by simp only[aw];omega) (x2 (.int _) H {I.tok _,{_,by simp only[aw];rw[o]},q});subst d;let[w,j,l,hz]:=I.tuple i
  have o:=j.length;exact len_tuple l (by simp only[aw];omega) (x2 (.int _) H {I.tok _,{_,by simp only[aw];rw[o]},q})
 |_=>exact(e).elim
end
structure ObjM(h:Heap)(x dx C:Addr)(mA:xB):Prop where
 obj:h.get? x=some (W.instObj C dx)
 ns:h.Ns1 dx mA
 ne:dx≠x
set_option tactic.hygienic true in
def zam{h:Heap}{c:xB}(n:h.Ns1 d c):∃ od,h.get? d=some od/\∀ name,W.lookIn name od=some (c name):=by
 revert n;apply u3;intro o g r [i,hd,j,_,l];refine{o,i,λname=>?_}
 have e:=l name;unfold nsFind findBy at e;rw[<-Array.find?_toList]at e;unfold W.lookIn;rw[hd];dsimp only;split
 ·rename_i y q;rw[q]at e;exact congrArg some e
 ·rename_i q;rw[q]at e
  have a:g.toList.any (·.refKey)=false:=by
   rw[wt];refine λy p=>u2 ?_<|j y<|zd.mp p;rintro z t b;simp[DictEntry.refKey,b]
  rw[if_neg (by rw[a];exact ay)];exact congrArg some e
def ObjM.look(I:ObjM h x a C b):∃ od,W.InstAt h x (W.instObj C a) C (some od)/\∀ name,W.lookIn name od=some (b name) :=
 let ⟨od,c,d⟩:=zam I.ns
 {od,⟨I.obj,rfl,rfl,c⟩,d}
section
variable{prog:bq}{w:World}{A:de}{E:yC}{s:ν}{K:W.Frag}{x dx C f:Addr}{mA:xB}{name:Str}{v:Value}
def zan(X:K.In s.heap)(I:ObjM s.heap x dx C mA)(b:W.plainGet K C name=true)(c:W.hasDictIn K C=true)
  (d:W.findIn K (.ref C) name=some none) (e:mA name=some v) (a:W.handedIn v=true) (h:Q v { s with toks:=s.toks+1 }) :
  wpAny (model prog w) A (getAttr (.ref x) name expr) Q E s:=by
 let[od,J,g]:=I.look;exact W.get_value X J (W.plainGet_of b).1 (W.findObj_own c d rfl (by rw[g,e])) a h
def zao(X:K.In s.heap)(I:ObjM s.heap x dx C mA)(a:W.plainGet K C name=true)
  (hf:W.findIn K (.ref C) name=some (some<|.ref f)) (b:W.isFn K (.ref f)=true) (c:mA name=none) (h:Q (.ref f,[.ref x]) s) :
  wpAny (model prog w) A (ug (.ref x) name e) Q E s:=by
 let[od,J,d]:=I.look;exact W.method_fn X J (W.plainGet_of a).1 (W.plainGet_of a).2 hf (beq_iff_eq.mp b) (by show(W.lookIn _ od).map _=some _;rw[d,c];rfl) h
def zap(X:K.In s.heap)(I:ObjM s.heap x dx C mA)
  (hs:W.findIn K (.ref C) "__setattr__"=some (some<|.builtin "object.__setattr__")) (j:W.plainOver K C=true) (l:W.takerIn K C name=some none) (n:W.hasDictIn K C=true)
  (o:PySem.Within mA ns) (hsz:ns.length<=sizeLine)
  (h:∀ h',ObjM h' x dx C (λy=>if y=name then some v else mA y)->gz dx s.heap h'->Q () { s with heap:=h',toks:=s.toks+2 }) :
  wpAny (model prog w) A (setAttr (.ref x) name v) Q E s:=by
 let[od,J,u]:=I.look;let[z,p,d]:=W.any_some n;refine W.set_plain X J hs<|W.osa_open   X J j l λb=>(δ<|ρ<|δ<|δ<|wpAny_loadPart I.obj<|δ<|W.Looks.here  (W.looks_clsIn X p) ?_);rw[d];refine ρ  (δ<|ρ<|δ<|wpAny_nsSet1  I.ns λh' a c=>(u3 ?_<|a.count<|PySem.Within.cons _ v o));intro oD q r [e,g,i];exact δ (wpAny_lookBehind e (by rw[g];exact pastItsLine_dict<|υ i<|wu hsz) (ρ<|h _ {(c.2 _<|fg I.ne).trans I.obj,a,I.ne} c))
def zaq(X:K.In s.heap)(b:W.makesIn K C=true)
  (c:W.findIn K (.ref C) "__init__"=some (some<|.ref f)) (hf:W.typeIn K (.ref f)=some (.type "function"))
  (h:ut (model prog w) (A.under<|.builtin "type.__call__" {.ref C::vs,a}) (.call (.ref f) {.ref (s.heap.objs.size+1)::vs,a}) (W.InitBack (s.heap.objs.size+1) R)
   { s with heap:=(s.heap.push W.emptyDict).push (W.instObj C s.heap.objs.size) }) :
  ut (model prog w) A (.call (.ref C) ⟨vs,a⟩) R s:=W.make_core (W.makes_of X b) (W.looks_findIn X c) (λself=>W.bind_fn X _ hf) (.inl rfl) h
end
def BO(f:Str)(v:V):cC->cC
 | []=>[(f,v)]
 |(g,x)::r=>if g=f then(g,v)::r else(g,x)::BO f v r
theorem p8(f g:Str)(v:V):∀ fs:cC,(BO f v fs).lookup g=if g=f then some v else fs.lookup g
 | []=>by
  show gx g [(f,v)]=_;by_cases h:g=f;simp only[gx,(beq_iff_eq.mpr h),if_pos h];simp only[gx,(beq_eq_false_iff_ne.mpr h),if_neg h]
 |(k,x)::r=>by
  rw[show BO f v _=(if k=f then(k,v)::r else(k,x)::BO f v r)from rfl];by_cases a:k=f;rw[if_pos a];by_cases h:g=k;simp only[gx,(beq_iff_eq.mpr h),if_pos<|h.trans a];simp only[gx,(beq_eq_false_iff_ne.mpr h),if_neg (λe:g=f=>h<|e.trans a.symm)];rw[if_neg a];by_cases h:g=k;simp only[gx,(beq_iff_eq.mpr h),if_neg (λe:g=f=>a<|h.symm.trans e)];simp only[gx,(beq_eq_false_iff_ne.mpr h)];exact(p8 f g v r)
theorem XY(f:Str)(v:V):∀ fs:cC,f∈(BO f v fs).map (·.1)/\∀ g,g∈fs.map (·.1)->g∈(BO f v fs).map (·.1)
 | []=>{by simp[BO],λg h=>by simp at h}
 |(k,x)::r=>by
  let[b,c]:=XY f v r;rw[show BO f v _=(if k=f then(k,v)::r else(k,x)::BO f v r)from rfl];by_cases a:k=f;subst a;exact{by simp,λg h=>by simpa using h};rw[if_neg a];refine{(τ _ b),λg h=>?_};let e||e:=af.mp h
  exact af.mpr<|.inl e;exact τ _<|c g e
theorem QY(f:Str)(v:V):∀ fs:cC,(BO f v fs).length<=fs.length+1
 | []=>by simp[BO]
 |(k,x)::r=>by
  rw[show BO f v _=(if k=f then(k,v)::r else(k,x)::BO f v r)from rfl];by_cases a:k=f;rw[if_pos a];exact jj _;rw[if_neg a];exact wu<|QY f v r
def RelO.some_of(r:RelO (some v) o):∃ u,o=some u/\RelV v u:=by
 cases o with
 |none=>exact(r).elim
 |some u=>exact⟨u,rfl,r⟩
def RelO.none_of(r:RelO none o):o=none:=by
 cases o with
 |none=>rfl
 |some u=>exact(r).elim
def zar(r:RelV v u):W.handedIn u=true:=by
 cases v with
 |non=>cases (r);rfl
 |bl b=>cases (r);rfl
 |int i=>let[t,rfl]:=(r);rfl
 |str x=>let[t,rfl]:=(r);rfl
 |byt b=>let[t,rfl]:=(r);rfl
 |flt b=>let[t,rfl]:=(r);rfl
 |ref a=>cases (r);rfl
 |ty n=>cases (r);rfl
section
variable{P:bq}{w:World}{H H':Hp}{h h':Heap}{a C dx:Addr}{fs fs':cC}
def UD(hok:HOk P w H h)(e:H a=some (.ins C dx fs)):∃ b,ObjM h a dx C b/\(∀ f,RelO (fs.lookup f) (b f))/\PySem.Within b (fs.map (·.1))/\fs.length<=1000/\H dx=some (.own a):=by
 let[d,z,ne,ob,b,n,r,q]:=(hok a _ e)
 exact{b,⟨ob,n,ne⟩,r,q,z,d}
end
structure Cls(K:W.Frag)(C:Addr):Prop where
 pg:W.plainGet K C uh=true
 hd:W.hasDictIn K C=true
 po:W.plainOver K C=true
 sa:W.findIn K (.ref C) "__setattr__"=some (some<|.builtin "object.__setattr__")
def Cls.get{K:W.Frag}{C:Addr}(c:Cls K C)(f:Str):W.plainGet K C f=true:=c.pg
def NoAttr(K:W.Frag)(C:Addr)(f:Str):Prop:=W.findIn K (.ref C) f=some none
def NoAttr.taker{K:W.Frag}{C:Addr}{f:Str}(n:NoAttr K C f):W.takerIn K C f=some none:=by
 unfold W.takerIn;rw[n]
 rfl
structure Con(K:W.Frag)(C:Addr)(f:Str)(v:V)(u:Value):Prop where
 at_:W.findIn K (.ref C) f=some (some u)
 rel:RelV v u
 get:W.specialIn K u "__get__"=some none
 cp:W.copiedNames.contains f=false
structure UE(K:W.Frag)(C:Addr)(m:Str)(f:Addr):Prop where
 at_:W.findIn K (.ref C) m=some (some<|.ref f)
 fn:W.isFn K (.ref f)=true
 kp:W.keepIn K (.ref f)=true
section
variable{X:Cx}{AA:eB}{σ:St}{H:Hp}{s:ν}{a C dx:Addr}{fs:cC}{f:Str}{v:V}{A:de}{E:yC}
def p9(I:Inv X AA σ H s)(e:H a=some (.ins C dx fs))(c:Cls X.K C)(n:NoAttr X.K C f)(l:fs.lookup f=some v)
  (h:∀ u d,Inv X AA σ H d->RelV v u->Q u d):wpAny (model X.prog X.w) A (getAttr (.ref a) f b) Q E s:=by
 let[j,O,r,z,z,z]:=UD I.hok e;let[u,i,g]:=RelO.some_of   (by rw[<-l];exact r f);exact zan I.kIn O (c.get f) c.hd n i (zar g) (h u _ (I.tok _) g)
def qB(I:Inv X AA σ H s)(e:H a=some (.ins C dx fs))(c:Cls X.K C)(k:UE X.K C m g)(l:fs.lookup m=none)
  (h:Q (.ref g,[.ref a]) s):wpAny (model X.prog X.w) A (ug (.ref a) m b) Q E s:=by
 let[d,O,r,z,z,z]:=UD I.hok e;exact zao I.kIn O (c.get m) k.at_ k.fn (RelO.none_of (by rw[<-l];exact r m)) h
def qG(I:Inv X AA σ H s)(e:H a=some (.ins C dx fs))(c:Cls X.K C)(n:NoAttr X.K C f)(i:fs.length<1000)(w:RelV y u)
  (h:∀ j,Inv X AA σ (upd H a<|.ins C dx<|BO f y fs) j->Q () j):wpAny (model X.prog X.w) A (setAttr (.ref a) f u) Q E s:=by
 let[B,O,r,l,x,p]:=UD I.hok e;refine zap I.kIn O c.sa c.po n.taker c.hd l (by rw[ε];exact oB i rfl) λh' d sb=>h _ (I.write   (by rw[e];exact rq) (.inr p) (λb q D z=>(sb.2 b D).trans z) (let ⟨o,_,_,J,_⟩:=d.ns;⟨o,J⟩) {by rw[AJ O.ne];exact p,?_,O.ne,d.obj,_,d.ns,λg=>?_,λg L=>?_});exact υ (QY f y fs) i;rw[p8];by_cases q:g=f;rw[if_pos q,if_pos q];exact w;rw[if_neg q,if_neg q];exact r g;by_cases q:g=f;rw[q];exact(XY f y fs).1;refine(XY f y fs).2 g (l g λz=>L ?_)
 show(if g=f then some u else B g)=none;rw[if_neg q];exact z
def Inv.made(I:Inv X AA σ H s):Inv X AA σ (upd (upd H s.heap.objs.size<|.own<|s.heap.objs.size+1) (s.heap.objs.size+1) (.ins C s.heap.objs.size []))
  { s with heap:=(s.heap.push W.emptyDict).push (W.instObj C s.heap.objs.size) }:=by
 have c:(s.heap.push _).get? _=some W.emptyDict:=aj _ rfl
 have d:((s.heap.push W.emptyDict).push (W.instObj C s.heap.objs.size)).get? (s.heap.objs.size+1)=some (W.instObj C s.heap.objs.size):=by
  have:=aj (s.heap.push W.emptyDict) (o:=W.instObj C s.heap.objs.size) rfl
  rwa [ze]at this
 have ne:s.heap.objs.size≠s.heap.objs.size+1:=bm<|fh _;refine(I.laid  (o:=.own _)  (t':=s.toks) (λb u q=>ξ _ q) (π _) ⟨_,c⟩).laid    (λb u q=>ξ _ q) (ba<|ze _ _) ({by rw[AJ ne,AG],bt _,ne,d,λz=>none,(Heap.Ns1.of_empty (x3 _ _ _ {c,rfl,(λe he=>absurd he (by simp)),λz=>rfl})).at λo q=>ξ _ q,λz=>rq,λy g=>absurd rfl g})
def zas(c:uu e f env (eval e env)=eval e env)
  (h:wpAny (model prog w) A (eval e env) (λo b=>wpAny (model prog w) A (getAttr o f true) Q E b) E s):wpAny (model prog w) A (eval (.Attribute e f pos) env) Q E s :=
 Attribute_any_ h (by rw[arm_eval_Attribute,c])
end
def QZ(K:W.Frag)(c:TE)(f:Str):TE:=λd H Q=>c d H λx b=>∃ a C e fs v,x=.ref a/\b a=some (.ins C e fs)/\Cls K C/\NoAttr K C f/\fs.lookup f=some v/\Q v b
def Q0(K:W.Frag)(e g:TE)(f:Str):TS:=λD b H=>g b H λy i=>e b i λx c=>∃ a C d fs,x=.ref a/\c a=some (.ins C d fs)/\Cls K C/\NoAttr K C f/\fs.length<1000 /\
 D.nx b (upd c a<|.ins C d<|BO f y fs)
def XZ(X:Cx)(op:Operator)(c:V->V->Hp->VK->Prop):Prop :=
 ∀ (a:eB) (s:ν) (b:St) (H:Hp) (x y:V) (u v:Value) (Q:VK),Inv X a b H s->RelV x u->RelV y v->c x y H Q->wpAny (model X.prog X.w) X.A (inplaceOp op u v) (EP X a b Q) X.xe s
def UF(K:W.Frag)(i j:TE)(l:V->V->Hp->VK->Prop)(f:Str):TS:=λD d H=>i d H λx e=>∃ a C n fs v,x=.ref a/\e a=some (.ins C n fs)/\Cls K C/\NoAttr K C f/\fs.lookup f=some v /\
 j d e λy o=>l v y o λz g=>∃ c b,g a=some (.ins C c b)/\b.length<1000/\D.nx d (upd g a<|.ins C c<|BO f z b)
section
variable{X:Cx}{o e value:Expr}{f:Str}{pos pos' tpos:Pos}{ta tv:TE}
def zat(he:PE X e ta)(d:uu e f X.env (eval e X.env)=eval e X.env):PE X (.Attribute e f pos) (QZ X.K ta f):=by
 refine λz s g H Q I h=>zas d<|AU (he _ s g H _ I h) λu A b=>?_;let[x,i,j,p,a,C,B,fs,v,rfl,r,c,n,l,q]:=b;obtain rfl:u=eq a:=p;exact p9 j r c n l λD E w y=>x2 v i ⟨w,y,q⟩
def zau(g:PE X o ta)(i:PE X value tv)(hs:vn value (some<|.Attribute o f pos') pos.line X.env=pure false):PS X (.Assign [.Attribute o f pos'] value pos) (Q0 X.K ta tv f):=by
 refine λJ s b H D I h=>plainObj_wpAny_Assign_Attribute (AU (i _ s b H _ I h) λu j ⟨y,p,r,v,q⟩=>AU (g _ j b p _ r q) λw L d=>?_) hs;let[x,M,z,A,a,C,N,fs,rfl,B,c,n,l,q2]:=d;obtain rfl:w=eq a:=A;exact qG z B c n l v λO E=>x2 b _ ⟨E,q2⟩
def zav(j:PE X o ta)(p:PE X value tv)(d:XZ X op r):PS X (.AugAssign (.Attribute o f tpos) op value pos) (UF X.K ta tv r f):=by
 refine λAA s b H D I h=>wpAny_AugAssign_AttributeAny<|AU (j _ s b H _ I h) λw s1 g=>?_;let[x,A,B,E,a,C,dx,fs,v,rfl,J,c,n,l,q]:=g;obtain rfl:w=eq a:=E;exact p9 B J c n l λu L M N=>AU (p _ L b A _ M q) (by intro w3 O [y,Q,T,U,q3];exact AU (d _ O b Q v y u w3 _ T N U q3) (by intro w4 s4 [z,H3,Y,rz,dx',fs',i,l',q4];exact(qG Y i c n l' rz λs5 I5=>x2 b _ ⟨I5,q4⟩)))
def Q1:V->V->Hp->VK->Prop:=λx y H Q=>∃ i j,x=.int i/\y=.int j/\Q (.int<|i+j) H
def qH:XZ X .Add Q1:=by
 intro c s d H x y u v Q I a b [i,j,rfl,rfl,q];let[t,rfl]:=(a)
 let[t',rfl]:=(b)
 exact PyProof.Rows.iadd_int<|x2 (.int _) H {I.tok _,⟨_,rfl⟩,q}
end
section
variable{X:Cx}{AA:eB}{σ:St}{H:Hp}{s:ν}{A:de}{E:yC}{Q:yC}{c:Value}{b:Bool}
inductive HM(K:W.Frag)(H:Hp):V->Value->Prop where
 |non:HM K H .non (.type "NoneType")
 |bl (x:Bool):HM K H (.bl x) (.type "bool")
 |int (i:Int):HM K H (.int i) (.type "int")
 |str (x:Str):HM K H (.str x) (.type "str")
 |flt (x:UInt64):HM K H (.flt x) (.type "float")
 |lst {a:Addr} {xs:eI} (e:H a=some (.lst xs)):HM K H (.ref a) (.type "list")
 |frz {a:Addr} {o:Obj} {xs:eI} (e:H a=some (.frz o<|.lst xs)):HM K H (.ref a) (.type "list")
 |tup {a:Addr} {xs:eI} (e:H a=some (.tup xs)):HM K H (.ref a) (.type "tuple")
 |dK {a:Addr} {kvs:cD} (e:H a=some (.dK kvs)):HM K H (.ref a) (.type "dict")
 |dT {a:Addr} {kvs:zA} (e:H a=some (.dT kvs)):HM K H (.ref a) (.type "dict")
 |ins {a C dx:Addr} {fs:cC} (e:H a=some (.ins C dx fs)) (cl:Cls K C) (ha:W.findIn K (.ref C) "__class__"=some (some<|.builtin "object.__class__"))
   (hn:W.specialIn K (.builtin "object.__class__") "__get__"=some (some<|.builtin "getset_descriptor.__get__")) (htk:W.takesIn K (.builtin "object.__class__")=some true)
   (hm:W.mroIn K C (.type "object")=some true):HM K H (.ref a) (.ref C)
end
structure Room(k:Nat)(A:de):Prop where
 hd:A.handled=none
 dp:A.depth+3*k+5<recursionLimit
 un:A.units+16*k+200<cLine
def Room.mono(r:Room k A)(h:j<=k):Room j A:={r.hd,by have:=r.dp;lia,by have:=r.un;lia}
def Room.deeper(r:Room (k+1) A)(env:Env):Room k (A.deeper env) :=
 {r.hd,by have:=r.dp;show A.depth+1+3*k+5<_;lia,by have:=r.un;show A.units+3+16*k+200<_;lia}
def zaw{A:de}:(A.under<|.builtin "type.__call__" {.ref C::us,a}).depth=A.depth+1:=by
 first|rfl|simp[guardIds]
def zax{A:de}:(A.under<|.builtin "type.__call__" {.ref C::us,a}).units=A.units+1:=by
 first|rfl|simp[Code.isFrame]
abbrev _root_.cB:=List (Str × Value)
def Room.make(r:Room (k+1) A)(C:Addr)(us:wE)(a:cB):Room k (A.under<|.builtin "type.__call__" {.ref C::us,a}) :=
 {r.hd,by have:=r.dp;rw[zaw];lia,by have:=r.un;rw[zax];lia}
def Room.depth(r:Room k A):A.depth<recursionLimit:=by have:=r.dp;lia
def Room.units(r:Room k A):A.units+64<cLine:=by have:=r.un;lia
def BK:TA:=λ_ H Q=>Q [] H
def DN(b:TE)(c:TA):TA:=λa H Q=>b a H λx d=>c a d λxs e=>Q (x::xs) e
section
variable{X:Cx}{e:Expr}{es:wF}{te:TE}{t:TA}{pos:Pos}
def UG:PA X [] BK:=λz z z z H Q I h=>wv<|x2 [] H {I,.nil,h}
def M7(b:PE X e te)(c:PA X es t)(hs:ax (e::es) X.env=(false,eval e X.env)::ax es X.env:=by rfl):PA X (e::es) (DN te t):=by
 intro pos p s a H Q I h;rw[hs];exact r_ (AU (b _ s a H _ I h) (by intro u d [x,g,i,j,q1];exact(AU (c _ _ d a g _ i q1) (by intro us q [xs,l,n,o,q2];exact x2 _ l {n,.cons j o,q2}))))
def DL(t:TA):TE:=λb H Q=>t b H λxs a=>xs.length<=sizeLine/\∀ p,a p=none->Q (.ref p) (upd a p<|.tup xs)
def CD(t:TA):TE:=λb H Q=>t b H λxs a=>xs.length<=sizeLine/\∀ p,a p=none->Q (.ref p) (upd a p<|.lst xs)
def zay{c}(h:PA X es t):PE X (.Tuple es c pos) (DL t):=λj s d H Q I g=>wpAny_Tuple_spliced (AU (h _ _ s d H _ I g) λus l ⟨xs,i,a,r,z,q⟩=>{by rw[<-r.length];exact z,(x2 (.ref _) (upd i _<|.tup xs) {a.laid  (λb u e=>ξ _ e) (π _) ({z,us,r,{_,aj _ rfl,rfl,_,rfl}}),rfl,q _<|a.hok.fresh<|π _})})
def zaz(h:PA X es t):PE X (.List es pos) (CD t):=λi s c H Q I d=>wpAny_List_spliced (AU (h _ _ s c H _ I d) λus j ⟨xs,g,a,r,z,q⟩=>{by rw[<-r.length];exact z,(x2 (.ref _) (upd g _<|.lst xs) {a.laid  (λb u e=>ξ _ e) (π _) ({z,x2 us 0 {r,aj _ rfl}}),rfl,q _<|a.hok.fresh<|π _})})
end
abbrev Sp:=eI->Hp->VK->XK->Prop
abbrev II:=xG->Hp->ν->XK->Value->ν->Prop
structure Env0(P:bq)(w:World)(K:W.Frag)(mg:xB)(base:Heap)(A:de)(outer:xG)(s:ν)(H:Hp):Prop where
 frames:A.frames=some outer
 mod:Mod K mg base
 bs:∀ b o,base.get? b=some o->s.heap.get? b=some o/\H b=none
 bsz:base.objs.size<=s.heap.objs.size
 funs:s.heap.FunFrames base outer
 frf:∀ b∈EK outer,H b=none
 hok:HOk P w H s.heap
 bare:s_ s.gens
def CE(outer:xG)(P:bq)(w:World)(H:Hp)(s:ν)(Q:VK)(u:Value)(a:ν):Prop :=
 ∃ v H',a.os=s.os/\s_ a.gens/\Un (EK outer) [] H H' s.heap a.heap/\HOk P w H' a.heap/\RelV v u/\Q v H'
def CR(CX:II)(outer:xG)(P:bq)(w:World)(H:Hp)(s:ν)(Q:VK)(E:XK)(r:Result)(a:ν):Prop :=
 match r with
 |.ok (.ret u)=>CE outer P w H s Q u a
 |.ok _=>False
 |.error e=>CX outer H s E e a
structure FnOk(P:bq)(w:World)(K:W.Frag)(mg:xB)(base:Heap)(CX:II)(k:Nat)(f:Addr)(fd:gq)(ps:eG)(sp:Sp):Prop where
 len:∀ vs H Q E,sp vs H Q E->vs.length=ps.length
 run:∀ (A:de) (outer:xG) (s:ν) (H:Hp) (args:Args) (us:wE) (vs:eI) (Q:VK) (E:XK),Room k A->Env0 P w K mg base A outer s H->ww s fd args (ps.zip us)->Vals vs us->sp vs H Q E ->
  ut (model P w) A (.call (.ref f) args) (CR CX outer P w H s Q E) s
def FnOk.imp{P:bq}{w:World}{K:W.Frag}{mg:xB}{base:Heap}{CX:II}{k:Nat}{f:Addr}{fd:gq}{ps:eG}{sp a:Sp}(F:FnOk P w K mg base CX k f fd ps sp)
  (h:∀ vs H Q E,a vs H Q E->sp vs H Q E):FnOk P w K mg base CX k f fd ps a :=
 {λvs H Q E q=>F.len vs H Q E<|h _ _ _ _ q,λA outer s H args us vs Q E b he c d hs=>F.run A _ s H _ us vs Q E b he c d<|h _ _ _ _ hs}
def Env0.make{P:bq}{w:World}{K:W.Frag}{mg:xB}{base:Heap}{A:de}{outer:xG}{s:ν}{H:Hp}(e:Env0 P w K mg base A outer s H)(C:Addr)(us:wE)(a:cB) :
  Env0 P w K mg base (A.under<|.builtin "type.__call__" {.ref C::us,a}) outer s H:={by first|exact e.frames|(exact e.frames),e.mod,e.bs,e.bsz,e.funs,e.frf,e.hok,e.bare}
section
variable{X:Cx}{AA:eB}{σ:St}{H:Hp}{s s':ν}
def Inv.env0(I:Inv X AA σ H s):Env0 X.prog X.w X.K X.mg X.base X.A X.stack s H :=
 {I.ok.frames,I.ok.mod,I.bs,υ I.ok.bsz I.sz,I.stack,I.stkFree,I.hok,I.bare}
def Inv.after(I:Inv X AA σ H s)(h:CE X.stack X.prog X.w H s Q u s'):EP X AA σ Q u s':=by
 revert h;apply u2;intro v H' [os,bare,un,hok,r,q];let[c,g,d,t,a]:=s';obtain rfl:a=s.os:=os;exact x2 v H' {I.call      un hok bare (λb z=>absurd z (by simp)),r,q}
end
def M8(sp:Sp)(b:eI)(E:St->XK)(t:TA):TE:=λa H Q=>t a H λvs c=>sp (vs++b) c Q (E a)
def JF(C:Addr)(m:Str)(sp:Sp)(d:eI)(E:St->XK)(e:TE)(t:TA):TE:=λb H Q=>e b H λx c=>∃ a g fs,x=.ref a/\c a=some (.ins C g fs)/\fs.lookup m=none /\
 t b c λvs i=>sp (x::(vs++d)) i Q (E b)
def OD(C:Addr)(sp:Sp)(d:eI)(E:St->XK)(t:TA):TE:=λc H Q=>t c H λvs b=>∀ x a,b x=none->b a=none->a≠x ->
 sp (.ref x::(vs++d)) (upd (upd b a<|.own x) x (.ins C a [])) (λv e=>v=.non/\Q (.ref x) e) (E c)
def Binds(K:W.Frag)(fd:gq)(ps:eG)(a:wE):Prop :=
 ∀ (s:ν) (us:wE),K.In s.heap->(us++a).length=ps.length->ww s fd {us,[]} (ps.zip<|us++a)
def Binds.all{K:W.Frag}{fd:gq}{ps:eG}(h:∀ us:wE,us.length=ps.length->bindArgs fd {us,[]}=pure (ps.zip us)):Binds K fd ps []:=λs us z a=>by
 rw[iq]at a ⊢;exact .of_eq<|h us a
def HN(CX:II)(X:Cx)(E:St->XK):Prop:=∀ (c:eB) (a:St) (H:Hp) (s:ν) (e:Value) (b:ν),Inv X c a H s->CX X.stack H s (E a) e b->X.xe e b
section
variable{X:Cx}{CX:II}{k:Nat}{f C:Addr}{fd:gq}{ps:eG}{sp:Sp}{EV:eI}{ds:wE}{E:St->XK}{x m:Str}{p pos C9:Pos}{e o:Expr}{es:wF}{ta:TE}{t:TA}
def X0(F:FnOk X.prog X.w X.K X.mg X.base CX k f fd ps sp)(d:Room k X.A)(g:Binds X.K fd ps ds)(hd:Vals EV ds)(i:HN CX X E)
  (I:Inv X j b H s) (r:Vals vs us) (h:sp (vs++EV) H Q (E b)):wpAny (model X.prog X.w) X.A (call (.ref f) us) (EP X j b Q) X.xe s:=by
 have c:=r.append hd;refine yb (lq (F.run _ _ s H _ _ _ Q _ d I.env0 (g s us I.kIn (by rw[<-c.length];exact F.len _ _ _ _ h)) c h) λr l a=>?_);cases r with
 |error e=>exact i _ b H s e l I a
 |ok n =>
  cases n with
  |ret u=>exact I.after a
  |next=>exact jm a
  |brk=>exact jm a
  |cont=>exact jm a
def za0(F:FnOk X.prog X.w X.K X.mg X.base CX k f fd ps sp)(c:Room k X.A)(d:Gl X x)(g:X.mg x=some (.ref f))(i:W.keepIn X.K (.ref f)=true)(j:Binds X.K fd ps ds)(hd:Vals EV ds)(l:HN CX X E)
  (n:PA X (e::es) t) (a:(x ==("__debug__":Str))=false:=by decide) (he:ax (e::es) X.env=(false,eval e X.env)::ax es X.env:=by rfl) (u:(ja pos<|ax es X.env).any (·.1)=false:=by rfl) :
  PE X (.Call (.Name x p) (e::es) [] pos) (M8 sp EV E t):=λw s v H Q I h=>si (QR I d g (W.callWith_K  I.ok.mod.kin i (AU (n _ _ s v H _ I h) (by intro us y [vs,z,b,r,q];exact{b.kIn,(X0 F c j hd l b r q)})) he u) a)
def za1(he:PE X o ta)(c:Cls X.K C)(g:UE X.K C m f)(F:FnOk X.prog X.w X.K X.mg X.base CX k f fd ps sp)(w:Room k X.A)(y:Binds X.K fd ps ds)(hd:Vals EV ds)(z:HN CX X E)(A:PA X (e::es) t)
  (b:ax (e::es) X.env=(false,eval e X.env)::ax es X.env:=by rfl) (B:(ja pos<|ax es X.env).any (·.1)=false:=by rfl)
  (D:eval (.Call (.Attribute o m C9) (e::es) [] pos) X.env=(do
   let i ← eval o X.env
   ya C9.atName
   let (f,first) ← tf [i] (ug i m O)
   zf pos f first (ja pos<|ax (e::es) X.env) (uw pos<|li [] X.env)):=by rfl) :
  PE X (.Call (.Attribute o m C9) (e::es) [] pos) (JF C m sp EV E ta t):=by
 refine λT s j H Q I h=>W.methodCall_KW  (AU (he _ s j H _ I h) λu J d=>?_) D;let[x,L,n,M,a,U,fs,rfl,N,l,q]:=d;obtain rfl:u=eq a:=M;exact qB n N c g l (W.callWith_K   I.ok.mod.kin g.kp (AU (A _ _ J j L _ n q) (by intro us Y [vs,H2,v,r,q2];exact{v.kIn,(X0  (vs:=.ref a::vs) F w y hd z v (.cons rfl r) q2)})) b B)
def za2(he:PE X o ta)(c:Cls X.K C)(g:UE X.K C m f)(F:FnOk X.prog X.w X.K X.mg X.base CX k f fd ps sp)(j:Room k X.A)(n:Binds X.K fd ps ds)(hd:Vals EV ds)(r:HN CX X E)
  (v:eval (.Call (.Attribute o m C9) [] [] pos) X.env=(do
   let i ← eval o X.env
   ya C9.atName
   let (f,first) ← tf [i] (ug i m A)
   zf pos f first (ja pos<|ax [] X.env) (uw pos<|li [] X.env)):=by rfl) :
  PE X (.Call (.Attribute o m C9) [] [] pos) (JF C m sp EV E ta BK):=by
 refine λB s w H Q I h=>W.methodCall_KW  (AU (he _ s w H _ I h) λu D b=>?_) v;let[x,J,d,y,a,L,fs,rfl,z,l,q]:=b;obtain rfl:u=eq a:=y;exact qB d z c g l<|W.callWith_K0  d.kIn g.kp (X0  (vs:=[.ref a]) F j n hd r d (.cons rfl .nil) q)
structure Mk(K:W.Frag)(C f:Addr):Prop where
 makes:W.makesIn K C=true
 init:W.findIn K (.ref C) "__init__"=some (some<|.ref f)
 fn:W.isFn K (.ref f)=true
 kp:W.keepIn K (.ref C)=true
def za3(M:Mk X.K C f)(F:FnOk X.prog X.w X.K X.mg X.base CX k f fd ps sp)(j:Room (k+1) X.A)(l:Binds X.K fd ps ds)(hd:Vals EV ds)
  (n:HN CX X E) (I:Inv X q d H s) (r:Vals vs us)
  (h:∀ x b,H x=none->H b=none->b≠x->sp (.ref x::(vs++EV)) (upd (upd H b<|.own x) x (.ins C b [])) (λv w=>v=.non/\Q (.ref x) w) (E d)) :
  wpAny (model X.prog X.w) X.A (call (.ref C) us) (EP X q d Q) X.xe s:=by
 have g:=h _ _ (I.hok.fresh<|jj _) (I.hok.fresh<|π _) (bm<|fh _)
 have c:=Inv.made (C:=C) I
 have i:Vals (V.ref (s.heap.objs.size+1)::(vs++EV)) _:=.cons rfl<|r.append hd
 have y:(eq (s.heap.objs.size+1)::us++ds).length=ps.length:=by
  have e:=i.length;rw[F.len _ _ _ _ g]at e;exact e.symm
 refine yb (zaq  I.kIn M.makes M.init (beq_iff_eq.mp M.fn) (lq (F.run _ _ _ _ _ _ _ _ _ (j.make C us [])
  (c.env0.make C us []) (l _ _ c.kIn y) i g) λr z a=>?_))
 cases r with
 |error e=>exact n _ d _ _ e z c a
 |ok A =>
  cases A with
  |ret u =>
   refine u2 ?_<|c.after a;intro v H' [B,D,rfl,q3];exact{D,x2 (V.ref _) H' ⟨B,rfl,q3⟩}
  |next=>exact jm a
  |brk=>exact jm a
  |cont=>exact jm a
def za4(M:Mk X.K C f)(F:FnOk X.prog X.w X.K X.mg X.base CX k f fd ps sp)(c:Room (k+1) X.A)(d:Gl X x)(g:X.mg x=some (.ref C))(i:Binds X.K fd ps ds)(hd:Vals EV ds)(j:HN CX X E)
  (l:PA X (e::es) t) (a:(x ==("__debug__":Str))=false:=by decide) (he:ax (e::es) X.env=(false,eval e X.env)::ax es X.env:=by rfl) (n:(ja pos<|ax es X.env).any (·.1)=false:=by rfl) :
  PE X (.Call (.Name x p) (e::es) [] pos) (OD C sp EV E t):=λv s u H Q I h=>si (QR I d g (W.callWith_K  I.ok.mod.kin M.kp (AU (l _ _ s u H _ I h) (by intro us w [vs,y,b,r,q];exact{b.kIn,(za3 M F c i hd j b r q)})) he n) a)
end
section
variable{X:Cx}{CX:II}{k:Nat}{f C:Addr}{fd:gq}{ps ks:eG}{sp:Sp}{E:St->XK}{x m:Str}{p pos C9 kpos:Pos}{e o:Expr}{es:wF}{kws:List zx}{te ta:TE}{t tk:TA}{nm:Option Str}
structure z8q(K:W.Frag)(fd:gq)(ps ks:eG)(g:wE->wE->wE)(gV:eI->eI->eI):Prop where
 to:∀ (s:ν) (us ws:wE),K.In s.heap->(g us ws).length=ps.length->ww s fd {us,ks.zip ws} (ps.zip<|g us ws)
 rel:∀ {vs:eI} {us:wE} {zs:eI} {ws:wE},Vals vs us->Vals zs ws->Vals (gV vs zs) (g us ws)
variable{g:wE->wE->wE}{gV:eI->eI->eI}
end
structure FnScope(N P:eG)(sc:Scope):Prop where
 kind:sc.kind=.function
 co:sc.isCoroutine=false
 gen:sc.isGenerator=false
 nd:N.Nodup
 pre:N.take P.length=P
 par:∀ x∈P,sc.names.lookup x=some .local\/sc.names.lookup x=some .cell
 nofree:∀ y∈sc.names,y.2≠.free
theorem qI{kindOf:Str->Option xu}:∀ {binds:cB} {m:xB},(∀ v,(x,v)∉binds)->bindL kindOf binds m x=m x
 | [],_,_=>rfl
 |(n,v)::r,m,h=>by
  unfold bindL;rw[qI λw a=>h w<|τ _ a];split
  have:x≠n:=by rintro rfl;exact h v χ
  simp[this]
  rfl
theorem qJ{kindOf:Str->Option xu}:∀ {binds:cB} {m:xB},(∀ v,(x,v)∉binds)->bindC kindOf binds m x=m x
 | [],_,_=>rfl
 |(n,v)::r,m,h=>by
  unfold bindC;rw[qJ λw a=>h w<|τ _ a];split
  rfl
  have:x≠n:=by rintro rfl;exact h v χ
  simp[this]
theorem qK{kindOf:Str->Option xu}:∀ {P:eG} {vs:wE} {i:Nat} {m:xB},P.Nodup->P[i]? =some x->vs[i]? =some v->kindOf x=some .local ->
  bindL kindOf (P.zip vs) m x=some v
 | [],_,_,_,_,h,_,_=>by simp at h
 |_::_,[],_,_,_,_,h,_=>by simp at h
 |p::P,w::vs,0,m,nd,h1,h2,a=>by
  simp at h1 h2;subst h1 h2
  show bindL _ ((p,w)::P.zip vs) m p=_;unfold bindL;rw[qI λv b=>(g_.mp nd).1 (yt b).1,if_pos a];simp
 |p::P,w::vs,i+1,m,nd,h1,h2,a=>by
  unfold bindL;exact qK  (g_.mp nd).2 (h1) (h2) a
theorem qM{kindOf:Str->Option xu}:∀ {P:eG} {vs:wE} {i:Nat} {m:xB},P.Nodup->P[i]? =some x->vs[i]? =some v->kindOf x≠some .local ->
  bindC kindOf (P.zip vs) m x=some v
 | [],_,_,_,_,h,_,_=>by simp at h
 |_::_,[],_,_,_,_,h,_=>by simp at h
 |p::P,w::vs,0,m,nd,h1,h2,a=>by
  simp at h1 h2;subst h1 h2
  show bindC _ ((p,w)::P.zip vs) m p=_;unfold bindC;rw[qJ λv b=>(g_.mp nd).1 (yt b).1,if_neg a];simp
 |p::P,w::vs,i+1,m,nd,h1,h2,a=>by
  unfold bindC;exact qM  (g_.mp nd).2 (h1) (h2) a
def AX(N:eG)(vs:eI):St:=vs.map some++az (N.length-vs.length) none
def JG(CX:II)(P:bq)(w:World)(K:W.Frag)(mg:xB)(base:Heap)(N:eG)(a:Str)(scope:Scope)(f:Addr)(c:Value)(A:de)(outer:xG)(s:ν)(H:Hp)(E:XK):Cx where
 prog:=P
 w:=w
 K:=K
 mg:=mg
 base:=base
 A:=A.deeper<|xi a scope s.heap.objs.size f c
 N:=N
 s₀:=s
 H₀:=H
 env:=xi a scope s.heap.objs.size f c
 outer:=outer
 stack:=xi a scope s.heap.objs.size f c::outer
 ex:=[]
 calm:=true
 fn:=λ_=>true
 pn:=[]
 xe:=λe d=>wpAny (model P w) (A.deeper<|xi a scope s.heap.objs.size f c) (leaving (xi a scope s.heap.objs.size f c) e) (λ_ b=>CX outer H s E e b) (λg b=>CX outer H s E g b) d
def qN{a:Scope}(h:a.names.lookup x=some .cell):∃ c,(Jr n a.names []).lookup x=some c:=cw.mp<|W.cellsFrom_some _ n [] (.inl h)
def za5{CX:II}{P:bq}{w:World}{K:W.Frag}{mg:xB}{base:Heap}{N ps:eG}{d:Str}{scope:Scope}{f:Addr}{D:Value}{A:de}{outer:xG}{s I:ν}{H:Hp}{E:XK}{us:wE}{vs:eI}
  (S:FnScope N ps scope) (hd:A.handled=none) (g:Env0 P w K mg base A outer s H) (M:vs.length=ps.length) (r:Vals vs us)
  (x:InCallC s s.heap.objs.size (bindL (xi d scope s.heap.objs.size f D).kindOf (ps.zip us) λ_=>none) (Jr (s.heap.objs.size+1) scope.names []) (bindC (xi d scope s.heap.objs.size f D).kindOf (ps.zip us) λ_=>none) I) :
  Inv (JG CX P w K mg base N d scope f D A outer s H E) [] (AX N vs) H I:=by
 have T:ps.length<=N.length:=by have:=congrArg f_ S.pre;rw[cz]at this;lia
 refine u2 ?_ x.done;intro h1 tk [rfl,J]
 have j:∀ b:Addr,b∉(JG CX P w K mg base N d scope f D A outer s H E).ex:=λb z=>absurd (show b∈([])from z) (by simp);refine⟨{g.mod,S.kind,rfl,rfl,π _,λy z c h1 h2=>(name_of_addr x.apart (PySem.mem_of_lookup h1) (PySem.mem_of_lookup h2)),λy l=>?_,λy c t h=>(ka<|x.above y c<|PySem.mem_of_lookup h),λt=>hd,Around.frames_deeper g.frames,.inr ⟨rfl,rfl⟩,λb z=>absurd z<|j b,g.bs,g.bsz,λb t t=>j b,λb z=>absurd z<|j b,g.funs,g.frf},
  rfl,g.bare,Un.kept J,{_,x.toInCall.ns,λi y v h1 h2 h3=>?_},λy c h=>{_,x.cell y c h},g.hok.fresh<|π _,λy c h=>(g.hok.fresh<|ka<|x.above y c<|PySem.mem_of_lookup h),λp n=>absurd (show p∈([])from n) (by simp),g.hok.kept J,?_⟩
 let l||l:=l
 exact qN l;exact absurd rfl<|S.nofree _<|PySem.mem_of_lookup l
 have o:i<vs.length:=by
  unfold AX at h2;by_cases o:i<vs.length;exact o;rw[b_ (by simpa using o),xv]at h2;split at h2<;>cases h2
 have O:vs[i]? =some v:=by
  unfold AX at h2;rw[bc (by simpa using o),ψ]at h2;cases e:vs[i]? with
  |none=>rw[e]at h2;cases h2
  |some a=>rw[e]at h2;cases h2;rfl
 have n:ps[i]? =some y:=by
  rw[<-S.pre,List.getElem?_take_of_lt<|M ▸ o];exact h1
 have B:ps.Nodup:=by rw[<-S.pre];exact S.nd.sublist<|Ce _ _
 let[u,L,Q]:=r.get O;refine{u,Q,?_};rcases S.par y (θ n)with k|k
 exact .inl {k,qK B n L k};let[c,e]:=qN  k;refine .inr {.inl k,c,e,?_}
 have q:=x.cell y c e;rw[qM B n L (by show scope.names.lookup y≠_;rw[k];decide)]at q;exact q;unfold AX
 show _=N.length;rw[ae,ε,uc]
 lia
def za6{CX:II}{P:bq}{w:World}{K:W.Frag}{mg:xB}{base:Heap}{k:Nat}{f:Addr}{name a:Str}{c:Arguments}{body:List Stmt}{scope:Scope}{M kV j pm i ct U:Value}{O od:Option Addr}
  {B:Array (Option Value)} {N ps:eG} {sp:Sp} (Y:K.lookup f=some {U,od,.func<|W.fnOf name a c body scope M kV j pm O i ct,B}) (G4:W.codeIn K i a=true) (S:FnScope N ps scope)
  (len:∀ vs H Q E,sp vs H Q E->vs.length=ps.length)
  (pM:∀ (A:de) (outer:xG) (s:ν) (H:Hp) (vs:eI) (Q:VK) (E:XK),Room k (A.deeper<|xi a scope s.heap.objs.size f i)->sp vs H Q E ->
   ∃ t,FN (JG CX P w K mg base N a scope f i A outer s H E) body t/\t { nx:=λz H'=>Q .non H',rt:=Q } (AX N vs) H) :
  FnOk P w K mg base CX (k+1) f (W.fnOf name a c body scope M kV j pm O i ct) ps sp:=by
 refine{len,λA outer s H args us vs Q E D l hb r p=>?_}
 have T:=l.mod.kin.keeps λb o e=>(l.bs b o e).1
 have g:∀ y∈ps.zip us,scope.names.lookup y.1=some _\/(scope.names.lookup y.1=some _/\((Jr (s.heap.objs.size+1) _ []).lookup y.1).isSome=true):=λ⟨n,v⟩ hy=>by
  let q||q:=S.par n (yt hy).1
  exact .inl q;exact .inr {q,W.cellsFrom_some _ _ _<|.inl q}
 refine codeAny_call_function D.depth (T _ _ Y) rfl S.co S.gen rfl (W.codeRec_of T G4) (hb _ _ _ _<|wpAny_newFunctionEnv_cells S.kind g λenv he s1 x=>?_);subst he;let[t,ht,hq]:=pM A _ s H vs Q E (D.deeper _) p;refine{(l.mod.nolimit.keeps λb o e=>(l.bs b o e).1).keeps x.toInCall.keep,codeAny_func<|ni (ht [] s1 _ H _ (za5 S D.hd l (len _ _ _ _ p) r x) hq) (λfl I hs=>?_) λe I hs=>hs}
 have fin:∀ {d:St} {H':Hp} {v:V} {u:Value},Inv (JG CX P w K mg base N a scope f i A _ s H E) [] d H' I->RelV v u->Q v H'->CE outer P w H s Q u I :=
  λ{d H' v u} J L q=>x2 v H' ⟨J.os,J.bare,J.base,J.hok,L,q⟩
 cases fl with
 |ret u =>
  revert hs;apply u3;intro v d H' [J,L,q];exact fin J L q
 |next =>
  revert hs;apply u2;intro d H' [J,q];exact fin (v:=V.non)  J rfl q
 |brk =>
  revert hs;apply u2;intro z z [z,q];exact jm q
 |cont =>
  revert hs;apply u2;intro z z [z,q];exact jm q
section
variable{X:Cx}{x:Str}{p pos:Pos}{e:Expr}{es:wF}{t:TA}{id T:String}{r:eI->Hp->VK->Prop}
def CA(r:eI->Hp->VK->Prop)(t:TA):TE:=λa H Q=>t a H λvs b=>r vs b Q
def OE(c:EL X (.builtin id) r)(d:Gl X x)(g:X.mg x=none)(i:nz x=some (.builtin id))(j:PA X (e::es) t)(l:x≠"__name__":=by decide)(a:(x ==("__debug__":Str))=false:=by decide)
  (he:ax (e::es) X.env=(false,eval e X.env)::ax es X.env:=by rfl) (n:(ja pos<|ax es X.env).any (·.1)=false:=by rfl):PE X (.Call (.Name x p) (e::es) [] pos) (CA r t):=λw s b H Q I h=>si (OB I d g i (PyProof.Rows.callWith_builtin1 (AU (j _ _ s b H _ I h) (by intro us o [vs,q,u,v,q1];exact c _ o b q vs us Q u v q1)) he n) l a)
def OF(c:EL X (.type T) r)(d:Gl X x)(g:X.mg x=none)(i:nz x=some (.type T))(j:PA X (e::es) t)(l:x≠"__name__":=by decide)(a:(x ==("__debug__":Str))=false:=by decide)
  (he:ax (e::es) X.env=(false,eval e X.env)::ax es X.env:=by rfl) (n:(ja pos<|ax es X.env).any (·.1)=false:=by rfl):PE X (.Call (.Name x p) (e::es) [] pos) (CA r t):=λw s b H Q I h=>si<|OB I d g i (jg (AU (j _ _ s b H _ I h) λus o ⟨vs,q,u,v,q1⟩=>c _ o b q vs us Q u v q1) he n) l a
end
end L2
namespace HT
open PySem PyProof.Rows
section
open PySem.SeqAt
open PySem.AutoSeq1 (wpAny_loadPart')
open PySem.MeetsSeq PySem.MeetsSeq2 PySem.MeetsSeq3
end
section
variable{prog:bq}{w:World}{A:de}{E:yC}{s:ν}
def cat_tup(q:IsTup s.heap t vs.toArray)(r:IsTup s.heap b ws.toArray)(j:vs≠[])
  (h1:ws=[]->Q (.ref t) s) (h2:ws≠[]->Q (.ref s.heap.objs.size) { s with heap:=s.heap.push { cls:=.type "tuple",data:=.seq (vs++ws).toArray } })
  (hsz:vs.length+ws.length<=sizeLine):wpAny (model prog w) A (iw .Add (.ref t) (.ref b)) Q E s:=by
 let[[cls,dd,data,l],c,u,n,hd]:=id q;let[[o,v,data2,x],a,g,p,i]:=id r;subst u hd g i
 have e:vs.toArray++ws.toArray=(vs++ws).toArray:=by simp
 by_cases d:ws=[];exact Cf ⟨_,c,rfl⟩ ⟨_,a,rfl⟩ xw Ar PySem.F.slot_tuple_add PySem.F.entry_tuple_add (PySem.F.args_tuple_add_2 _ _)
  (tuple_addW1 t b _ _ n p dd _ l _ (by simpa using j) (by simp[d])) {c,a,h1 d}
 refine Cf ⟨_,c,rfl⟩ ⟨_,a,rfl⟩ xw Ar PySem.F.slot_tuple_add PySem.F.entry_tuple_add (PySem.F.args_tuple_add_2 _ _)
  (tuple_addW2 t b _ _ n p dd _ l _ (by simpa using j) (by simpa using d) (by exact hsz)) {c,a,?_}
 rw[e];exact h2 d
def sIx(n d:Nat):Option Int->Nat
 |none=>d
 |some v=>if v<0 then(v+(n:Int)).toNat else min v.toNat n
def sIx_none(n d:Nat):sIx n d none=d:=rfl
def clip_eq(v:Int)(n d:Nat):(if v<0 then max (v+(n:Int)) 0 else min v (n:Int))=((sIx n d (some v):Nat):Int):=by
 show _=(((if v<0 then(v+n).toNat else min v.toNat n):Nat):Int);by_cases a:v<0;rw[if_pos a,if_pos a,Int.ofNat_toNat]
 have e:=fm<|vy.mp a;rw[if_neg a,if_neg a];let h||h:=Nat.le_total v.toNat n
 rw[rf h,e];exact Ho<|e ▸ j_.mpr h;rw[Ff h];exact Int.min_eq_right<|e ▸ j_.mpr h
def za7(lo a:Option Int)(n:Nat):wj lo a 1 (n:Int)=(((sIx n 0 lo:Nat):Int),((sIx n n a:Nat):Int)):=by
 refine Prod.ext ?_ ?_;cases lo with
 |none=>rfl
 |some v=>exact clip_eq v n 0
 cases a with
 |none=>rfl
 |some v=>exact clip_eq v n n
def za8(i j:Nat):wk (i:Int) (j:Int) 1=j-i:=by
 show(if(i:Int)<j then((j:Int)-i-1)/1+1 else 0).toNat=_;by_cases h:(i:Int)<j;rw[if_pos h,Int.ediv_one,Int.sub_add_cancel,Int.toNat_sub];rw[if_neg h];exact(yz<|j_.mp<|vy.mp h).symm
def qO(p:zg v o)(h:Q o s):wpAny (model prog w) A (Hr v) Q E s:=by
 cases p with
 |none=>exact slicePart_none h
 |int i t=>exact slicePart_int h
def za9{d:Addr}{e g:Value}{lo c:Option Int}{n:Nat}{Q:Int × Int × Nat->ν->Prop}(hs:s.heap.IsSliceOf d e g .none)(i:zg e lo)(j:zg g c)
  (h:Q (((sIx n 0 lo:Nat):Int),1,sIx n n c-sIx n 0 lo) s):wpAny (model prog w) A (Im (.ref d) (pure (n:Int))) Q E s:=by
 let[os,a,l,b]:=id hs;refine δ<|δ<|jb a b  rfl (δ<|jb a b  rfl (δ<|jb a b  rfl (ρ<|δ<|slicePart_none<|δ<|qO i<|δ<|qO j<|δ<|ρ ?_)))
 show wpAny _ _ (match wj lo c 1 n with|(lo,c)=>pure (lo,(1:Int),wk lo c 1)) _ _ s;rw[za7 lo c n]
 show wpAny _ _ (pure _) _ _ s;rw[za8];exact ρ h
def zba(xs:Array Value)(i k:Nat):((ο k).filterMap λ(m:Nat)=>xs[((i:Int)+(m:Int)*1).toNat]?).toArray=((xs.toList.drop i).take k).toArray:=by
 have e:(λ(m:Nat)=>xs[(i+(m:Int)*1).toNat]?)=λm=>xs[i+m]? :=by
  funext m
  have:(i+(m:Int)*1).toNat=i+m:=by lia
  rw[this]
 have:=pick_run xs i k;rw[e];rw[List.filterMap_map]at this
 have a:((λx=>xs[x]?) ∘ λx=>i+x)=λm=>xs[i+m]? :=rfl;rw[a]at this;rw[this]
def getItem_tuple_cut{t j:Addr}{a:Array Value}{l n:Value}{lo c:Option Int}{Q:yC}(d:IsTup s.heap t a)(hs:s.heap.IsSliceOf j l n .none)(o:zg l lo)(p:zg n c)
  (r:¬ (sIx a.size 0 lo=0/\sIx a.size a.size c=a.size))
  (h:Q (.ref s.heap.objs.size) { s with heap:=s.heap.push { cls:=.type "tuple",data:=.seq ((a.toList.drop<|sIx a.size 0 lo).take (sIx a.size a.size c-sIx a.size 0 lo)).toArray } })
  (hsz:a.size<=sizeLine):wpAny (model prog w) A (yd (.ref t) (.ref j)) Q E s:=by
 let[os,e,g,u]:=id hs
 have b:sizeOk (.seq ((a.toList.drop<|sIx a.size 0 lo).take (sIx a.size a.size c-sIx a.size 0 lo)).toArray):=by
  show((a.toList.drop _).take _).toArray.size<=sizeLine;rw[aw];exact υ (zh ..) (by rw[ic];exact υ (Nat.sub_le ..) hsz)
 unfold yd
 try with_reducible refine fi ?_
 refine δ (wpAny_sequenceKey d.typeIs (by decide) ?_);refine δ (e_  d.typeIs je
  (fj je d.typeIs entry_tuple_getitem ?_<|args_tuple_getitem _ _))
 show wpAny _ _ (Io _>>=_) _ _ s;refine δ<|tupleItemsOf_ d<|δ<|ye ⟨os,e,g⟩ (δ<|za9 hs o p ?_)
 have i:¬ ((((sIx a.size 0 lo):Int)==0&&(1:Int)==1&&(sIx a.size a.size c-sIx a.size 0 lo)==a.size)=true):=by
  intro q;rw[bv,bv]at q
  have q1:=eq_of_beq q.1.1
  have q2:=eq_of_beq q.2;exact r {ca q1,by omega}
 show wpAny _ _ (if(((sIx _ 0 lo):Int)==0&&1==1&&(sIx _ _ c-sIx _ 0 lo)==a.size)=true then _ else _) _ _ s;rw[if_neg i,zba]
 first
  |exact δ  _
  |exact δ  (fu (δ<|ρ<|ρ {_,rfl,ρ h}) b)
  |exact δ _
  |exact δ _
end
end HT
namespace L2
abbrev TO:=St->Hp->(Option Int->Hp->Prop)->Prop
def PO(X:Cx)(e:Option Expr)(t:TO):Prop :=
 ∀ (b:eB) (s:ν) (a:St) (H:Hp) (Q:Option Int->Hp->Prop),Inv X b a H s->t a H Q ->
  wpAny (model X.prog X.w) X.A (evalPart e X.env) (λu c=>∃ o H',Inv X b a H' c/\zg u o/\Q o H') X.xe s
def LQ:TO:=λ_ H Q=>Q none H
def Q2(t:TE):TO:=λa H Q=>t a H λx b=>∃ i,x=.int i/\Q (some i) b
section
variable{X:Cx}{e:Expr}{te:TE}{lo hi:Option Expr}{tl th:TO}{pos p2:Pos}
def zbb:PO X none LQ:=λa s b H Q I h=>ρ<|x2 _ H {I,.none,h}
def zbc(h:PE X e te):PO X (some e) (Q2 te):=by
 refine λl s b H Q I c=>AU (h _ s b H _ I c) λu n a=>?_;let[x,d,g,j,[i,rfl,q]]:=a;let[t,rfl]:=j;exact x2 _ d {g,.int i t,q}
def SlR(X:Cx)(r:V->Option Int->Option Int->Hp->VK->Prop):Prop :=
 ∀ (a:eB) (s:ν) (b:St) (H:Hp) (x:V) (v c d:Value) (lo hi:Option Int) (g:Addr) (Q:VK),Inv X a b H s->RelV x v->s.heap.IsSliceOf g c d .none->zg c lo->zg d hi->r x lo hi H Q ->
  ∃ T id,Ip (.type T) "__getitem__"=pure (some<|.builtin id)/\s.TypeIs v T/\wpAny (model X.prog X.w) X.A (yd v<|.ref g) (EP X a b Q) X.xe s
def SlR.or(h:SlR X r)(h':SlR X l):SlR X (λx lo hi H Q=>r x lo hi H Q\/l x lo hi H Q):=by
 intro n s a H x v b c lo hi d Q I g hs i j q;let q||q:=q
 exact h _ s a H x v b c lo hi d Q I g hs i j q;exact h' _ s a H x v b c lo hi d Q I g hs i j q
def LR(r:V->Option Int->Option Int->Hp->VK->Prop)(te:TE)(tl th:TO):TE:=λa H Q=>te a H λx b=>tl a b λl c=>th a c λu d=>r x l u d Q
def zbd(n:SlR X r)(he:PE X e te)(o:PO X lo tl)(p:PO X hi th):PE X (.Subscript e (.Slice lo hi none p2) pos) (LR r te tl th):=by
 refine λAA s a H Q I h=>Bi<|AU (he _ s a H _ I h) λv w ⟨x,y,z,A,q1⟩=>(wpAny_Slice<|AU (o _ w a y _ z q1) λd B ⟨l,D,E,J,q2⟩=>AU (p _ B a D _ E q2) λg i c=>?_);let[u,j,L,M,q3]:=c
 have N:Inv X _ a j { i with heap:=i.heap.push { cls:=.type "slice",data:=.fields #[d,g,.none] } }:=L.kept  λb ob q=>ξ _ q;refine ρ<|u2 ?_<|n _ _ a j x v d g l u _ Q N A (K_ ..) J M q3;intro T id [O,U,Y];exact tail_any  U O Y (by with_unfolding_all rfl)
def GO(xs:eI)(lo hi:Option Int):eI:=(xs.drop<|HT.sIx xs.length 0 lo).take (HT.sIx xs.length xs.length hi-HT.sIx xs.length 0 lo)
def qP(xs:eI)(lo hi:Option Int):(GO xs lo hi).length<=xs.length:=υ (zh ..) (by rw[ic];exact Nat.sub_le ..)
def qQ(K:W.Frag):V->Option Int->Option Int->Hp->VK->Prop:=λx lo hi H Q=>∃ a xs,x=.ref a/\SqT K H a xs /\
 ¬ (HT.sIx xs.length 0 lo=0/\HT.sIx xs.length xs.length hi=xs.length)/\∀ p,H p=none->Q (.ref p) (upd H p<|.tup<|GO xs lo hi)
def zbe:SlR X (qQ X.K):=by
 intro u s w H x v y z lo hi A Q I g hs i j h;revert h;apply u2;intro a xs [rfl,l,n,q];subst g;let[p,r,d,hz]:=I.tuple l
 have c:p.toArray.size=xs.length:=r.length.symm;refine x2 _ _ {je.lookup,d.typeIs,(HT.getItem_tuple_cut d hs i j (by rw[c];exact n) ?_ (by rw[c];exact hz))};rw[c];exact x2 (.ref _) _ {I.laid  (o:=.tup _) (λb ob q=>ξ _ q) (π _) {υ (qP xs lo hi) hz,_,(r.drop _).take _,Js _ _},rfl,q _<|I.hok.fresh<|π _}
def X1(K:W.Frag):R2:=λx y H Q=>∃ a b xs ys,x=.ref a/\y=.ref b/\SqT K H a xs/\SqT K H b ys/\xs≠[]/\xs.length+ys.length<=sizeLine /\
 (ys=[]->Q (.ref a) H)/\(ys≠[]->∀ p,H p=none->Q (.ref p) (upd H p<|.tup<|xs++ys))
def Vals.nil_iff(r:Vals xs us):us=[]↔xs=[]:=by
 cases r with
 |nil=>simp
 |cons _ _=>simp
def zbf:CH X (iw .Add) (X1 X.K):=by
 intro r s A H x y v u Q I g i h;revert h;apply u4;intro a b xs ys [rfl,rfl,j,l,n,hz,q1,q2];subst g;let[B,d,p,t]:=I.tuple j;subst i;let[D,c,p2,t]:=I.tuple l;exact HT.cat_tup p p2 (λz=>n<|d.nil_iff.mp z) (λz=>x2 (.ref a) H {I,rfl,q1<|c.nil_iff.mp z}) (λz=>(x2 (.ref _) _ {I.laid  (o:=.tup _) (λb ob q=>ξ _ q) (π _) {by rw[ae];exact hz,_,d.append c,Js _ _},rfl,q2 (λw=>z<|c.nil_iff.mpr w) _ (I.hok.fresh<|π _)})) (by rw[<-d.length,<-c.length];exact hz)
end
def HP(n:Nat)(i:Int):Option Nat:=if 0<=i then(if i<n then some i.toNat else none)else if -(n:Int)<=i then some (i+n).toNat else none
def KL{α :Type}(xs:List α)(i:Int):Option α :=(HP xs.length i).bind λj=>xs[j]?
def qS(h:HP n i=some j):seqIndex? i n=some j/\j<n/\ -(n:Int)<=i/\i<n:=by
 unfold HP at h;by_cases h0:0<=i;rw[if_pos h0]at h;by_cases h1:i<n;rw[if_pos h1]at h
 have e:=μ h;exact{by rw[He h0 h1,e],by omega,by omega,h1};rw[if_neg h1]at h;cases h;rw[if_neg h0]at h;by_cases h1: -n<=i;rw[if_pos h1]at h
 have e:=μ h;exact{by rw[Ci (by omega) h1,e],by omega,h1,by omega};rw[if_neg h1]at h;cases h
def X3{α :Type}{xs:List α}{i:Int}{v: α}(h:KL xs i=some v):∃ j,seqIndex? i xs.length=some j/\xs[j]? =some v/\j<xs.length/\ -(xs.length:Int)<=i/\i<xs.length:=by
 unfold KL at h;cases e:HP _ i with
 |none=>rw[e]at h;cases h
 |some j =>
  rw[e]at h;let[h1,h2,h3,h4]:=qS e;exact⟨j,h1,h,h2,h3,h4⟩
def UH{α :Type}{xs:List α}{j:Nat}{v: α}(h:xs[j]? =some v):KL xs (j:Int)=some v:=by
 have e:HP xs.length j=some j:=by
  unfold HP;rw[if_pos (i0),if_pos<|c_.mpr<|(η.mp h).1];simp
 unfold KL;rw[e];exact h
def qT(b:Expr):Prop:=∀ o i,zi b false o i=operate [o,i] (yd o i)
def IxR(X:Cx)(r:R2):Prop :=
 ∀ (value slice:Expr) (a:eB) (s:ν) (b:St) (H:Hp) (x y:V) (v u:Value) (Q:VK),Inv X a b H s->RelV x v->RelV y u->r x y H Q ->
  zi slice false v u=operate [v,u] (yd v u)->wpAny (model X.prog X.w) X.A (subscriptTail value slice v u) (EP X a b Q) X.xe s
def Q3(X:Cx)(id:String)(r:V->eI->Hp->VK->Prop):Prop :=
 ∀ (a:eB) (s:ν) (b:St) (H:Hp) (x:V) (xs:eI) (v:Value) (us:wE) (Q:VK),Inv X a b H s->RelV x v->Vals xs us->r x xs H Q ->
  wpAny (model X.prog X.w) X.A (call (.builtin id) (v::us)) (EP X a b Q) X.xe s
section
variable{X:Cx}{a b:Expr}{ta tb:TE}{pos:Pos}
def IxR.or(h:IxR X r)(h':IxR X g):IxR X (λx y H Q=>r x y H Q\/g x y H Q):=by
 intro value slice i s c H x y v u Q I d e q hs;let q||q:=q
 exact h _ _ _ s c H x y v u Q I d e q hs;exact h' _ _ _ s c H x y v u Q I d e q hs
def qU(c:IxR X r)(d:PE X a ta)(e:PE X b tb)(hs:qT b):PE X (.Subscript a b pos) (AD r ta tb):=λp s g H Q I h=>Bi<|XV d e I h λv u i x y j l n o q=>c a b _ i g j x y v u Q l n o q<|hs _ _
def qV(K:W.Frag):R2:=λx y H Q=>∃ p xs i v,x=.ref p/\y=.int i/\SqL K H p xs/\KL xs i=some v/\Q v H
def qW(K:W.Frag):R2:=λx y H Q=>∃ p xs i v,x=.ref p/\y=.int i/\SqT K H p xs/\KL xs i=some v/\Q v H
def qX:R2:=λx y H Q=>∃ z i c,x=.str z/\y=.int i/\z.length<=sizeLine/\KL z.cps.toList i=some c/\Q (.str {#[c]}) H
def zbg:IxR X (qV X.K):=by
 intro value slice E s n H x y v u Q I o A h hs;revert h;apply u4;intro p xs i z [rfl,rfl,B,he,q];subst o;let[D,r,c,hz]:=I.list B;let[j,h1,h2,h3,h4,h5]:=X3 he;let[t,rfl]:=A;let[w,g,d]:=r.get h2
 have l:=r.length
 have J:=QX
 have fin:EP X _ n Q w s:=x2 z H ⟨I,d,q⟩;by_cases h0:0<=i
 have e:i.toNat=j:=by
  rw[He h0 h5]at h1;exact μ h1
 exact item_listR c.isList h0 (by lia) (by rw[e];simpa using g) fin hs
 have e:(i+D.toArray.size).toNat=j:=by
  rw[Ci (by omega) h4]at h1;rw[aw,<-l];exact μ h1
 exact yf  c.isList.typeIs Cn.lookup
  (wpAny_getItem_list_neg  c.isList (by omega) (by rw[aw]<;>exact l ▸ h4) (by lia) (by rw[e];simpa using g) ⟨rfl,fin⟩) hs
def zbh:IxR X (qW X.K):=by
 intro value slice o s A H x y v u Q I e g h hs;revert h;apply u4;intro p xs i z [rfl,rfl,l,he,q];subst e;let[B,r,d,hz]:=I.tuple l;let[j,h1,h2,h3,h4,h5]:=X3 he;let[t,rfl]:=g;let[w,n,c]:=r.get h2
 have D:=QX;exact yf  d.typeIs je.lookup
  (getItem_tuple   d (by lia) (by lia) (by rw[aw,<-r.length];exact h1) (by simpa using n) {rfl,(x2 z H ⟨I,c,q⟩)}) hs
def zbi:IxR X qX:=by
 intro value slice l s n H x y v u Q I d e h hs;revert h;apply u3;intro z i c [rfl,rfl,hz,he,q];let[t,rfl]:=d;let[t',rfl]:=e;let[j,h1,h2,h3,h4,h5]:=X3 he
 have g:z.cps.toList.length=z.length:=by simp[yg]
 rw[g]at h1 h4 h5
 have o:=QX;exact tail_any (lu s z t) slot_str_getitem.lookup (getItem_str  (by
  rw[(decide_eq_false (by omega)),(decide_eq_false (by omega)),pq]) (by rw[h1];simpa using h2) (x2 (.str _) H {I.tok _,⟨_,rfl⟩,q})) hs
def qY(K:W.Frag):R2:=λx y H Q=>qV K x y H Q\/qW K x y H Q\/qX x y H Q
def zbj:IxR X (qY X.K):=zbg.or<|zbh.or zbi
def zbk(c:wE)(n j:Nat)(u:Value):lw (·.setIfInBounds j u) { cls:=.type "list",data:=.seq c.toArray n }={ cls:=.type "list",data:=.seq (c.set j u).toArray n }:=by
 simp[lw]
def Inv.lst{d:eB}{g:St}{H:Hp}{s:ν}{p:Addr}{xs:eI}(I:Inv X d g H s)(h:H p=some (.lst xs)) :
  ∃ (c:wE) (n:Nat),Vals xs c/\s.heap.get? p=some { cls:=.type "list",data:=.seq c.toArray n }/\xs.length<=sizeLine:=by
 let[z,c,n,r,e]:=I.hok p _ h;exact x2 _ n ⟨r,e,z⟩
def Inv.lstUpd{s:ν}{xs ys:eI}{d c:wE}{f:Obj->Obj}(I:Inv X i j H s)(h:H p=some (.lst xs))
  (l:s.heap.get? p=some { cls:=.type "list",data:=.seq d.toArray n }) (hf:f { cls:=.type "list",data:=.seq d.toArray n }={ cls:=.type "list",data:=.seq c.toArray g }) (r:Vals ys c) (hz:ys.length<=sizeLine) (t:Nat) :
  Inv X i j (upd H p<|.lst ys) { s with heap:=s.heap.update p f,toks:=t }:=by
 have e:(s.heap.update p f).get? p=some { cls:=.type "list",data:=.seq c.toArray g }:=by
  rw[d_ f l (by rw[hf]<;>rfl),hf]
 exact I.write   (by rw[h];trivial) (.inl rfl) (λb u o q=>(cy _ _<|fg o).trans q) ⟨_,e⟩ ({hz,x2 _ g ⟨r,e⟩})
def qZ:V->V->V->Hp->(Hp->Prop)->Prop:=λo i v H Q=>∃ p xs k j,o=.ref p/\i=.int k/\H p=some (.lst xs)/\HP xs.length k=some j/\Q (upd H p<|.lst<|xs.set j v)
def zbl:XU X qZ:=by
 intro D s w H o i v E iv u Q I x y z h;revert h;apply u4;intro p xs k j [rfl,rfl,g,A,q];subst x;let[t,rfl]:=y;refine u2 ?_<|I.lst g;intro B n [r,c,hz];let[h1,h2,h3,h4]:=qS A
 have d:=r.length
 have J:=QX
 have l:Inv X _ w _ _ :=
  I.lstUpd g c (zbk _ n j u) (r.set z j) (by rw[jx];exact hz) s.toks
 by_cases h0:0<=k
 have e:k.toNat=j:=by
  rw[He h0 h4]at h1;exact μ h1
 exact W.ki_setAt c h0 (by lia) (by rw[aw,<-d];exact h4) (by rw[e];exact⟨_,l,q⟩)
 have e:(k+B.toArray.size).toNat=j:=by
  rw[Ci (by omega) h3]at h1;rw[aw,<-d];exact μ h1
 exact W.ki_setBack c (by omega) (by rw[aw,<-d];exact h3) (by lia) (by rw[e];exact⟨_,l,q⟩)
def rA(i:Int)(n d:Nat):max 0 (min (if i<0 then i+n else i) n)=((HT.sIx n d (some i):Nat):Int):=by
 rw[<-HT.clip_eq i n d];by_cases h:i<0;rw[if_pos h,if_pos h,Ho (Int.add_le_of_le_sub_right (by rw[Int.sub_self];exact Ca h)),Int.max_comm];rw[if_neg h,if_neg h,Int.max_eq_right];exact Int.le_min.mpr {vy.mp h,jk _}
def zbm(lo c:Option Int)(n:Nat):(Hf lo c none n).1=((HT.sIx n 0 lo:Nat):Int)/\(Hf lo c none n).2.1=((HT.sIx n n c:Nat):Int)/\(Hf lo c none n).2.2=1:=by
 refine{?_,?_,rfl};cases lo with
 |none=>rfl
 |some i=>exact rA i n 0
 cases c with
 |none=>rfl
 |some i=>exact rA i n n
def zbn(c:wE)(lo d:Option Int):slicePick c.toArray lo d none=((c.drop<|HT.sIx c.length 0 lo).take (HT.sIx c.length c.length d-HT.sIx c.length 0 lo)).toArray:=by
 let[h1,h2,h3]:=zbm lo d _;unfold slicePick;rw[h1,h2,h3];simp only[sliceRange_one,pick_run]<;>rfl
def rC(K:W.Frag):V->Option Int->Option Int->Hp->VK->Prop:=λx lo c H Q=>∃ a xs,x=.ref a/\SqL K H a xs/\∀ p,H p=none->Q (.ref p) (upd H p<|.lst<|GO xs lo c)
def zbo:SlR X (rC X.K):=by
 intro n s p H x v u w lo e y Q I g hs i j h;revert h;apply u2;intro a xs [rfl,l,q];subst g;let[z,r,c,hz]:=I.list l
 have d:=r.length;refine x2 _ _ {Cn.lookup,c.isList.typeIs,(wpAny_getItem_list_slice c.isList hs i j .none (by simp) ?_ (by rw[aw]<;>exact d ▸ hz))};rw[zbn,<-d];exact x2 (.ref _) _ {I.laid  (o:=.lst _) (λb ob q=>ξ _ q) (π _) ({υ (qP xs lo e) hz,x2 _ 0 {(r.drop _).take _,aj _ rfl}}),rfl,q _<|I.hok.fresh<|π _}
def IJ:V->Bool
 |.non=>true
 |.bl _=>true
 |.int _=>true
 |.str _=>true
 |_=>false
def JH:V->V->Bool
 |.non,.non=>true
 |.bl a,.bl b=>a==b
 |.bl a,.int b=>(if a then 1 else 0)==b
 |.int a,.bl b=>a ==(if b then 1 else 0)
 |.int a,.int b=>a==b
 |.str a,.str b=>a==b
 |_,_=>false
def zbp(d:RelV y u)(c:RelV x v)(g:IJ y=true)(e:IJ x=true):La A s u v (JH y x):=by
 cases y with
 |non =>
  cases d;cases x with
  |non=>subst c;exact SeqAt.EqAt.same _
  |bl b=>subst c;exact SeqAt.EqAt.none_bool b
  |int b=>let[t,rfl]:=c;exact SeqAt.EqAt.none_int b t
  |str b=>let[t,rfl]:=c;exact SeqAt.EqAt.none_str b t
  |_=>exact absurd (e) ay
 |bl a =>
  subst d;cases x with
  |non=>subst c;exact SeqAt.EqAt.bool_none a
  |bl b=>subst c;exact SeqAt.EqAt.bool_bool a b
  |int b=>let[t,rfl]:=c;exact SeqAt.EqAt.bool_int a b t
  |str b=>let[t,rfl]:=c;exact SeqAt.EqAt.bool_str a b t
  |_=>exact absurd (show false=true from e) ay
 |int a =>
  let[t',rfl]:=d;cases x with
  |non=>cases c;exact SeqAt.EqAt.int_none a t'
  |bl b=>cases c;exact SeqAt.EqAt.int_bool a t' b
  |int b=>let[t,rfl]:=c;exact SeqAt.EqAt.int_int a t' b t
  |str b=>let[t,rfl]:=c;exact A_ a t' b t
  |_=>exact absurd (show false=true from e) ay
 |str a =>
  let[t',rfl]:=d;cases x with
  |non=>cases c;exact SeqAt.EqAt.str_none a t'
  |bl b=>cases c;exact SeqAt.EqAt.str_bool a t' b
  |int b=>let[t,rfl]:=c;exact Ba a t' b t
  |str b=>let[t,rfl]:=c;exact SeqAt.EqAt.str_str a t' b t
  |_=>exact absurd (show false=true from e) ay
 |_=>exact absurd (show false=true from g) ay
def Q4(x:V)(u:Value):Bool:=match u with
 |.none=>JH .non x
 |.bool b=>JH (.bl b) x
 |.int i _=>JH (.int i) x
 |.str z _=>JH (.str z) x
 |_=>false
def rE(r:RelV y u)(f:IJ y=true):Q4 x u=JH y x:=by
 cases y with
 |non=>subst r;rfl
 |bl b=>subst r;rfl
 |int i=>let[t,rfl]:=r;rfl
 |str z=>let[t,rfl]:=r;rfl
 |_=>exact absurd (f) ay
def rF:∀ {xs:eI} {us:wE},Vals xs us->xs.all IJ=true->us.any (Q4 x)=xs.any λy=>JH y x:=λh f=>by
 induction h with
 |nil=>rfl
 |cons r t c =>
  rw[uv,bv]at f;rw[pr,pr,rE r f.1,c f.2]
theorem X4(d:RelV x v)(e:IJ x=true):∀ {xs:eI} {us:wE},Vals xs us->xs.all IJ=true->∀ u∈us,La A s u v (Q4 x u)
 |_,_,.nil,_=>λu c=>by cases c
 |y::xs,u::us,.cons r t,f=>λg c=>by
  rw[uv,bv]at f;let rfl||c:=af.mp c
  rw[rE r f.1];exact zbp r d f.1 e;exact X4 d e t f.2 g c
def OG(x:V)(xs:eI):Bool:=xs.any λy=>JH y x
def rG(K:W.Frag)(neg:Bool):R2:=λx y H Q=>∃ p xs,y=.ref p/\(SqL K H p xs\/SqT K H p xs)/\IJ x=true/\xs.all IJ=true/\Q (.bl<|if neg then !OG x xs else OG x xs) H
def zbq:CH X (dr .In) (rG X.K false):=by
 intro n s o H x y v u Q I i l h;revert h;apply u2;intro p xs [rfl,c,j,fs,q];subst l;let c||c:=c
 let[d,r,e,hz]:=I.list c;refine SeqAt.in_listAt _ e.isList (λw g=>X4 i j r fs w (by simpa using g)) (x2 (.bl _) H {I,rfl,?_});rw[show d.toArray.any _=d.any (Q4 x) by simp,rF r fs];exact q;let[d,r,e,hz]:=I.tuple c;refine Fi _ e (λw g=>X4 i j r fs w (by simpa using g)) (x2 (.bl _) H {I,rfl,?_});rw[show d.toArray.any _=d.any (Q4 x) by simp,rF r fs];exact q
def zbr:EL X (.type "list") (λxs H Q=>∃ p ys,xs=[.ref p]/\(SqL X.K H p ys\/SqT X.K H p ys)/\∀ l,H l=none->Q (.ref l) (upd H l<|.lst ys)):=by
 intro A s y H xs us Q I r h;revert h;apply u2;intro p ys [rfl,g,q]
 have fin:∀ (j:List _),Vals ys _->ys.length<=sizeLine->∀ (h':Heap) (d:Nat),(∀ b x,s.heap.get? b=some x->h'.get? b=some x) ->
   h'.get? _=some _->EP X _ y Q _ { s with heap:=h' }:=λj c hz h' d i e =>
  {.ref _,_,I.laid  i (π _) (show ObjOk _ _ _ h' _ (.lst ys)from{hz,x2 j d ⟨c,e⟩}),rfl,q _<|I.hok.fresh<|π _}
 let[u,rfl,rfl]:=G6 r;let g||g:=g
 let[j,c,z,hz]:=I.list g;let[o,v,w,n,hd]:=z.isList;exact call_list_seq p (.inl rfl) v w hd (λh' d i e=>fin _ c hz h' d i e) (by simp only[aw]<;>exact c.length ▸ hz);let[j,c,[o,v,w,n,hd],hz]:=I.tuple g;exact call_list_seq p (.inr rfl) v w hd (λh' d i e=>fin _ c hz h' d i e) (by simp only[aw]<;>exact c.length ▸ hz)
def zbs:EL X (.type "tuple") (λxs H Q=>∃ p ys,xs=[.ref p]/\((SqL X.K H p ys/\∀ l,H l=none->Q (.ref l) (upd H l<|.tup ys))\/(SqT X.K H p ys/\Q (.ref p) H))):=by
 intro x s i H xs us Q I r h;revert h;apply u2;intro p ys [rfl,h];let[u,rfl,rfl]:=G6 r;let[c,q]||[c,q]:=h
 let[n,d,g,hz]:=I.list c;refine call_tuple_list g.isList (λh' v=>?_) (by simp only[aw]<;>exact d.length ▸ hz)
 have j:Inv X _ i H { s with heap:=h' }:=I.kept  v
 have w:Inv X _ i (upd H _<|.tup ys) { s with heap:=h'.push _ } :=
  j.laid  (λb o e=>ξ _ e) (π _) ({hz,_,d,Js _ _})
 exact x2 (.ref _) _ {w,rfl,q _<|j.hok.fresh<|π _};let[n,d,g,hz]:=I.tuple c;exact call_tuple_same g<|x2 (.ref p) H ⟨I,rfl,q⟩
def X5(K:W.Frag)(T:String)(x:V)(H:Hp):Prop:=match x with
 |.str _=>T="str"
 |.int _=>T="int"
 |.ref p=>(T="list"/\∃ xs,SqL K H p xs)\/(T="tuple"/\∃ o,K.lookup p=some o/\o.cls=.type "tuple"/\o.dict=none) ∨
   (T="dict"/\((∃ kvs,H p=some (.dK kvs))\/∃ kvs,H p=some (.dT kvs)))\/(T="set"/\∃ S n,H p=some (.set S n))
 |_=>False
def zbt(I:Inv X u w H s)(r:RelV x v)(ty:X5 X.K T x H) :
  s.TypeIs v T/\∀ a,v=.ref a->∃ ob,s.heap.get? a=some ob/\ob.dict=none:=by
 cases x with
 |str z =>
  let[t,rfl]:=r;cases (ty);exact{lu s z t,λ_ e=>nomatch e}
 |int i =>
  let[t,rfl]:=r;cases (ty);exact{yh s i t,λ_ e=>nomatch e}
 |ref p =>
  subst r;let[rfl,xs,l]||[rfl,o,d,q,hd]||[rfl,d]||[rfl,S,n,d]:=ty
  let[y,_,j,_]:=I.list l;refine{j.isList.typeIs,λa e=>?_};cases e;revert j;apply u2;intro o n [e,c,hd,_];exact⟨o,e,hd⟩;refine{{o,I.kIn p o d,q},λa e=>?_};cases e;exact{o,I.kIn _ o d,hd}
  have z:∃ o,s.heap.get? p=some o/\o.ExactDict:=by
   let[kvs,d]||[kvs,d]:=d
   let[_,_,_,_,o,_,_,e,ex,_]:=I.hok p _ d;exact⟨o,e,ex⟩;let[_,_,_,_,o,_,_,e,ex,_]:=I.hok p _ d;exact⟨o,e,ex⟩
  let[o,e,ex]:=z;refine{⟨o,e,ex.1⟩,λa g=>?_};cases g;exact⟨o,e,ex.2.1⟩;refine u4 ?_<|I.hok p _ d;intro o _ _ _ [e,ex,_];refine{⟨o,e,ex.1⟩,λa g=>?_};cases g;exact⟨o,e,ex.2.1⟩
 |_=>exact jm ty
def D6(K:W.Frag)(T:String)(r:V->eI->Hp->VK->Prop)(to:TE)(t:TA):TE:=λc H Q=>to c H λx d=>X5 K T x d/\t c d λxs e=>r x xs e Q
variable{o e:Expr}{es:wF}{to:TE}{t:TA}{name:Str}{C9 D5:Pos}{T id:String}{r:V->eI->Hp->VK->Prop}
def M9(w:PlainAttrs T)(slot:Slot T name id)(j:typeOf (.builtin id)=pure (.type "method_descriptor"))(y:Q3 X id r)(z:PE X o to)(A:PA X (e::es) t)
  (d:uu o name X.env (eval o X.env)=eval o X.env:=by rfl)
  (i:((ja D5<|ax (e::es) X.env).all (λx=> !x.1)&&(uw D5<|li [] X.env).all (λx=>x.1.isSome)
   && decide ((e::es).length+([]:List zx).length+(if([]:List zx).isEmpty then 0 else 1)<30))=true:=by rfl)
  (g:(C9.endLine==D5.line)=true:=by rfl) (hs:ax (e::es) X.env=(false,eval e X.env)::ax es X.env:=by rfl) (c:(ja D5<|ax es X.env).any (·.1)=false:=by rfl) :
  PE X (.Call (.Attribute o name C9) (e::es) [] D5) (D6 X.K T r to t):=by
 refine λN s l H Q I h=>wpAny_Call_method_late d i g rfl<|AU (z _ s l H _ I h) λv B n=>?_;let[x,D,p,q,ty,q1]:=n;let[h1,h2]:=zbt p q ty
 have u:=A D5 _ B l D _ p q1;refine x2 T id {w,slot,j,h1,h2,?_};rw[hs]at u ⊢;exact tj (by show(false||(ja _ _).any _)=false;rw[c]<;>rfl) (nj (AU u (by intro us E [vs,J,L,M,q2];exact y _ E l J x vs v us Q L q M q2)))
end
def UI(X:Cx)(id:String)(r:V->eI->Hp->VK->Prop):Prop :=
 ∀ (a:eB) (s:ν) (b:St) (H:Hp) (x:V) (xs:eI) (v:Value) (us:wE) (Q:VK),Inv X a b H s->RelV x v->Vals xs us->r x xs H Q ->
  wpAny (model X.prog X.w) X.A (call (.builtin id) (v::us)) (EP X a b Q) X.xe s
def Vals.one:∀ {x:V} {us:wE},Vals [x] us->∃ u,us=[u]/\RelV x u:=λh=>by
 let[u,m,rfl,r,h]:=MZ h;rw[N8 h];exact⟨_,rfl,r⟩
def Vals.two:∀ {x y:V} {us:wE},Vals [x,y] us->∃ u v,us=[u,v]/\RelV x u/\RelV y v:=λh=>by
 let[u,m,rfl,r,h]:=MZ h;let[v,m,rfl,q,h]:=MZ h;rw[N8 h];exact y2 ⟨rfl,r,q⟩
theorem Vals.eraseIdx:∀ {xs:eI} {us:wE} (i:Nat),Vals xs us->Vals (xs.eraseIdx i) (us.eraseIdx i)
 |_,_,_,.nil=>.nil
 |_,_,0,.cons _ t=>t
 |_,_,i+1,.cons r t=>.cons r<|Vals.eraseIdx i t
theorem Vals.rep(h:Vals xs us):∀ k:Nat,Vals (az k xs).flatten (az k us).flatten
 |0=>.nil
 |k+1=>Vals.append h<|Vals.rep h k
theorem UJ(b:wE):∀ (k:Nat) (a:wE),
  yi (λc x2=>c++x2) a.toArray (az k b.toArray)=(a++(az k b).flatten).toArray
 |0,a=>by simp
 |k+1,a=>by
  have e:a.toArray++b.toArray=(a++b).toArray:=by simp
  have d:(a++b)++(az k b).flatten=a++(az (k+1) b).flatten:=by
   rw[kz,ii,dk]
  rw[<-d,<-UJ _ k _,<-e,kz,gg]
section
variable{X:Cx}{AA:eB}{σ:St}{H:Hp}{s:ν}{l b:Addr}{xs ys zs:eI}
def Inv.lset{c a:wE}{n:Nat}{f:Array Value->Array Value}{t':Nat}(I:Inv X AA σ H s)(d:H l=some (.lst xs))
  (e:s.heap.get? l=some { cls:=.type "list",data:=.seq c.toArray n }) (hf:f c.toArray=a.toArray) (g:Vals ys a) (hz:ys.length<=sizeLine) :
  Inv X AA σ (upd H l<|.lst ys) { s with heap:=s.heap.update l<|lw f,toks:=t' }:=by
 have q:=PySem.IsL.update e f;rw[hf]at q;exact I.write   (by rw[d];exact trivial) (.inl rfl) (λo u i j=>(cy _ _<|fg i).trans j) ⟨_,q⟩ ({hz,x2 _ _ ⟨g,q⟩})
def Inv.lnew(I:Inv X AA σ H s)(a:Vals ys c)(hz:ys.length<=sizeLine) :
  Inv X AA σ (upd H s.heap.objs.size<|.lst ys) { s with heap:=s.heap.push { cls:=.type "list",data:=.seq c.toArray },toks:=t' } :=
 I.laid (λz z q=>ξ _ q) (π _) {hz,x2 _ 0 {a,aj _ rfl}}
def Inv.fresh(I:Inv X AA σ H s):H s.heap.objs.size=none:=I.hok.fresh<|π _
def Inv.lstM(I:Inv X AA σ H s)(c:H l=some (.lst xs)):xs.length<=sizeLine/\∃ (a:wE) (n:Nat),Vals xs a/\xs.length=a.length/\s.heap.get? l=some { cls:=.type "list",data:=.seq a.toArray n }:=by
 let[z,a,n,r,e]:=I.hok l _ c;exact{z,x2 _ n ⟨r,r.length,e⟩}
def rH{n:Nat}(h:n<=sizeLine):kj n=false:=decide_eq_false<|Ii.mpr h
end
section
variable{X:Cx}
def rJ:V->eI->Hp->VK->Prop:=λx vs H Q=>∃ l xs y,x=.ref l/\vs=[y]/\H l=some (.lst xs)/\xs.length<sizeLine/\Q .non (upd H l<|.lst<|xs++[y])
def zbu:UI X "list.append" rJ:=by
 intro i s j H x vs v us Q I b c h;revert h;apply u3;intro l xs y [rfl,rfl,a,hz,q];subst b;let[u,rfl,d]:=c.one;let[z,o,n,r,g,e]:=I.lstM a;refine ik F.slot_list_append ⟨_,e,rfl⟩ F.entry_list_append (F.args_list_append_2 _ _) (PySem.list_append l _ n u<|oB (cg (ba g.symm) hz) rfl) {e,(x2 (.non) _ {I.lset  a e (by simp) (r.append<|.cons d .nil) ?_,rfl,q})};rw[ae];exact hz
def X6:R2:=λx y H Q=>∃ l b xs zs,x=.ref l/\y=.ref b/\H l=some (.lst xs)/\H b=some (.lst zs)/\xs.length+zs.length<=sizeLine/\∀ p,H p=none->Q (.ref p) (upd H p<|.lst<|xs++zs)
def zbv:CH X (iw .Add) X6:=by
 intro D s E H x y v u Q I d g h;revert h;apply u4;intro l b xs zs [rfl,rfl,i,j,hz,q];subst d;let[z,a,n,r,o,e]:=I.lstM i;subst g;let[J,c,L,p,w,A]:=I.lstM j
 have B:a.toArray++c.toArray=(a++c).toArray:=by simp
 refine PySem.P.add_list e A ?_ (by rw[aw,aw];exact o ▸ w ▸ hz);rw[B];exact x2 (.ref _) _ {I.lnew  (r.append p) (by rw[ae];exact hz),rfl,q _ I.fresh}
def X7:R2:=λx y H Q=>∃ l k xs,x=.ref l/\y=.int k/\H l=some (.lst xs)/\ -(2^63)<=k/\k<2^63/\xs.length*k.toNat<=sizeLine /\
 ∀ p,H p=none->Q (.ref p) (upd H p<|.lst (az k.toNat xs).flatten)
def rK{α :Type}(xs:List α)(k:Nat):(az k xs).flatten.length=k*xs.length:=by
 induction k with
 |zero=>simp
 |succ k a=>rw[kz,ii,ae,a,tm,tq]
def zbw:CH X (iw .Mult) X7:=by
 intro J s L H x y v u Q I j o h;revert h;apply u3;intro l k xs [rfl,rfl,p,h1,h2,hz,q];subst j;let[t,rfl]:=o;let[z,b,n,r,w,e]:=I.lstM p
 have A:b.toArray.size*k.toNat<=sizeLine:=by rw[aw,<-w];exact hz
 have d:¬ b.toArray.size*k.toNat >(2^63-1)/8:=by
  have:sizeLine<=(2^63-1)/8:=by decide
  lia
 have g:¬ (!Builtin.List.listFitsIndex k)=true:=by
  rw[fitsIndex_both h1 h2];exact ay
 have c:¬ kj (b.toArray.size*k.toNat)=true:=by
  rw[rH A];exact ay
 have i:yi (λB x2=>B++x2) #[] (az (if b.toArray.isEmpty=true then 0 else k.toNat) b.toArray)=(az k.toNat b).flatten.toArray:=by
  have D:=λm=>by
   have:=UJ b m [];rw[jy]at this;exact this
  rw[D];cases b with
  |nil=>simp
  |cons a M=>rw[if_neg (by simp)]
 refine wm   (by decide) ⟨_,e,rfl⟩ (λE=>yh E k t) noFill_list_mul F.fills_int_mul F.slot_int_rmul repeat_list F.slot_int_index.lookup
  (ik F.slot_int_rmul (yh s k t) F.entry_int_rmul (F.args_int_rmul_2 _ _) (int___rmul___int_list k t l _ n)
   {e,rfl,⟨_,e,rfl⟩,ik F.slot_list_mul ⟨_,e,rfl⟩ F.entry_list_mul (F.args_list_mul_2 _ _) (AutoListH.list___mul___list_int_3 l _ n k t g d c) {e,?_}})
 rw[i];exact x2 (.ref _) _ {I.lnew  (r.rep _) (by rw[rK,da];exact hz),rfl,q _ I.fresh}
end
section
variable{prog:bq}{w:World}{A:de}{E:yC}{s:ν}
set_option maxRecDepth 100000 in
end
section
variable{X:Cx}
end
section
variable{κ :Type}[DecidableEq κ]
def BF(kvs:List (κ × V))(k: κ):Option V:=(kvs.find? λa=>decide<|a.1=k).map (·.2)
def CF(kvs:List (κ × V))(k: κ)(v:V):List (κ × V) :=
 if(kvs.any λa=>decide<|a.1=k)=true then kvs.map (λa=>if a.1=k then(a.1,v)else a)else kvs++[(k,v)]
def X8:BF ([]:List (κ × V)) k=none:=rfl
def IK{p: κ × V}{r:List (κ × V)}{k: κ}(e:p.1=k):BF (p::r) k=some p.2:=by simp[BF,e]
def IL{p: κ × V}{r:List (κ × V)}{k: κ}(e:¬ p.1=k):BF (p::r) k=BF r k:=by simp[BF,e]
theorem NA(k: κ):∀ kvs:List (κ × V),(kvs.any λa=>decide<|a.1=k)=(BF kvs k).isSome
 | []=>rfl
 |p::r=>by
  rw[pr];by_cases e:p.1=k;simp only[IK e,decide_eq_true e,n_,Option.isSome_some];rw[IL e,decide_eq_false e];exact NA k r
theorem rM(k j: κ)(y:V):∀ kvs:List (κ × V),BF (kvs.map λa=>if a.1=k then(a.1,y)else a) j=(BF kvs j).map λx=>if j=k then y else x
 | []=>rfl
 |p::r=>by
  have b:=rM k j y r;rw[bu];by_cases h:p.1=k;rw[if_pos h];by_cases e:p.1=j;rw[IK (p:=(p.1,y)) e,IK e,mf,if_pos<|e.symm.trans h];rw[IL (p:=(p.1,y)) e,IL e,b];rw[if_neg h];by_cases e:p.1=j;rw[IK  e,IK e,mf,if_neg<|λz=>h<|e.trans z];rw[IL  e,IL e,b]
theorem rN(k j: κ)(y:V):∀ kvs:List (κ × V),BF kvs k=none->BF (kvs++[(k,y)]) j=if j=k then some y else BF kvs j
 | [],_=>by
  by_cases e:k=j;rw[if_pos e.symm];exact IK  e;rw[if_neg (λz=>e z.symm)];exact IL  e
 |p::r,a=>by
  have b:¬ p.1=k:=λz=>by rw[IK z]at a;cases a
  rw[oa];rw[IL b]at a;by_cases e:p.1=j;rw[IK e,IK e,if_neg<|λz=>b<|e.trans z];rw[IL e,IL e,(rN k j y r a)]
def IM(kvs:List (κ × V))(k j: κ)(y:V):BF (CF kvs k y) j=if j=k then some y else BF kvs j:=by
 unfold CF;by_cases a:(kvs.any λb=>decide<|b.1=k)=true;rw[if_pos a,rM];rw[NA]at a;by_cases e:j=k;let[x,c]:=cw.mp a;rw[if_pos e,e,c,mf,if_pos rfl];rw[if_neg e];cases BF _ j with
 |none=>rfl
 |some x=>rw[mf,if_neg e]
 rw[if_neg a];refine rN k j y _ ?_;rw[NA]at a;cases q:BF _ k with
 |none=>rfl
 |some x=>rw[q]at a;exact(a rfl).elim
def JI(kvs:List (κ × V))(k: κ)(v:V):(CF kvs k v).length<=kvs.length+1:=by
 unfold CF;split;rw[ε];exact jj _;rw[ae,cf];exact fh _
def rO{kvs:List (κ × V)}{k: κ}(v:V)(h:BF kvs k=none):CF kvs k v=kvs++[(k,v)]:=by
 unfold CF;rw[NA,h];exact if_neg (by decide)
def RelO.isSome_eq(r:RelO o u):o.isSome=u.isSome:=by
 cases o with
 |none=>cases u with
  |none=>rfl
  |some _=>exact(r).elim
 |some _=>cases u with
  |none=>exact(r).elim
  |some _=>rfl
theorem RelO.getD(r:RelO o u)(a:RelV d b):RelV (o.getD d) (u.getD b):=by
 cases o with
 |none=>cases u with
  |none=>exact a
  |some _=>exact(r).elim
 |some _=>cases u with
  |none=>exact(r).elim
  |some _=>exact r
def KV.val{kvs:List (κ × V)}{vs:List (κ × Value)}(r:KV kvs vs)(k: κ):RelO (BF kvs k) (Co vs k):=by
 induction r with
 |nil=>exact rq
 |@cons p q ps a h t c =>
  let[h1,h2]:=h;by_cases e:p.1=k
  have b:Co (q::a) k=some q.2:=by simp[Co,(h1.symm.trans e)]
  rw[IK e,b];exact h2
  have d:¬ q.1=k:=λz=>e<|h1.trans z
  have b:Co (q::a) k=Co a k:=by simp[Co,d]
  rw[IL e,b];exact c
theorem KV.any{kvs:List (κ × V)}{vs:List (κ × Value)}(r:KV kvs vs)(k: κ):(kvs.any λa=>decide<|a.1=k)=vs.any λa=>decide (a.1=k):=by
 induction r with
 |nil=>rfl
 |cons h t b=>rw[pr,pr,b,h.1]
def KV.repl(r:KV kvs vs)(k: κ)(b:RelV y u) :
  KV (kvs.map λa=>if a.1=k then(a.1,y)else a) (vs.map λa=>if a.1=k then(a.1,u)else a):=by
 induction r with
 |nil=>exact .nil
 |@cons p q ps d h t c =>
  rw[bu,bu];refine .cons ?_ c;let[h1,h2]:=h;by_cases e:p.1=k;rw[if_pos e,if_pos<|h1.symm.trans e];exact⟨h1,b⟩;rw[if_neg e,if_neg<|λz=>e<|h1.trans z];exact⟨h1,h2⟩
def KV.put(r:KV kvs vs)(k: κ)(a:RelV y u):KV (CF kvs k y) (stored vs k u):=by
 unfold CF stored;rw[r.any k];by_cases e:(vs.any λb=>decide<|b.1=k)=true;rw[if_pos e,if_pos e];exact r.repl k a;rw[if_neg e,if_neg e];exact Paired.snoc r ⟨rfl,a⟩
def KV.length{kvs:List (κ × V)}{vs:List (κ × Value)}(r:KV kvs vs):kvs.length=vs.length:=Paired.length r
end
def NB(r:RelV (kV k) u):(EW P w).is k u=true:=by
 cases k with
 |inl i=>let[t,rfl]:=(r);exact Wh P w i t
 |inr x=>let[t,rfl]:=(r);exact Wj P w x t
theorem rP:∀ {a:List AN} {us:wE},Vals (a.map kV) us->ItemsAre (EW P w) a us
 | [],_,r=>by cases r;exact .nil
 |k::a,_,r=>by
  cases r with
  |cons h t=>exact .cons (NB h) (rP t)
abbrev KT(H:Hp):zA->eA->Prop:=Paired λp q=>p.1=q.1/\H q.2.1=some (.tup<|p.1.map kV)/\RelV p.2 q.2.2
def KT.val{H:Hp}{kvs:zA}{xs:eA}(r:KT H kvs xs)(k:List AN):RelO (BF kvs k) ((atKey xs k).map (·.2)):=by
 induction r with
 |nil=>exact rq
 |@cons p q ps a h t c =>
  let[h1,y,h2]:=h;by_cases e:p.1=k
  have b:atKey (q::a) k=some q.2:=by simp[atKey,(h1.symm.trans e)]
  rw[IK e,b];exact h2
  have d:¬ q.1=k:=λz=>e<|h1.trans z
  have b:atKey (q::a) k=atKey a k:=by simp[atKey,d]
  rw[IL e,b];exact c
def KT.repl(r:KT H kvs xs)(k:List AN)(b:RelV y u) :
  KT H (kvs.map λa=>if a.1=k then(a.1,y)else a) (xs.map<|putAt k u):=by
 induction r with
 |nil=>exact .nil
 |@cons p q ps d h t c =>
  rw[bu];let[h1,h2,h3]:=h;refine .cons ?_ c;unfold putAt;by_cases e:p.1=k;rw[if_pos e,if_pos<|h1.symm.trans e];exact⟨h1,h2,b⟩;rw[if_neg e,if_neg<|λz=>e<|h1.trans z];exact⟨h1,h2,h3⟩
def KT.put(r:KT H kvs xs)(k:List AN)(c:H b=some (.tup<|k.map kV))(a:RelV y u) :
  KT H (CF kvs k y) (wx xs k b u):=by
 have e:(kvs.any λd=>decide<|d.1=k)=(atKey xs k).isSome:=by
  rw[NA,(r.val k).isSome_eq,tz]
 unfold CF wx;rw[e];by_cases q:(atKey xs k).isSome=true;rw[if_pos q,if_pos q];exact r.repl k a;rw[if_neg q,if_neg q];exact Paired.snoc r ⟨rfl,c,a⟩
def KT.keeps(r:KT H kvs xs)(a:∀ b ys,H b=some (.tup ys)->H' b=some (.tup ys)):KT H' kvs xs :=
 Paired.mapP r λy y z=>{z.1,a _ _ z.2.1,z.2.2}
section
variable{P:bq}{w:World}{H:Hp}{h:Heap}{a:Addr}
def rQ(ok:HOk P w H h)(e:Rd H a u):ObjOk P w H h a u:=e.ok ok
def KM(ok:HOk P w H h)(e:Rd H a (.dK kvs)):kvs.length<=sizeLine/\(a==gr)=false/\∃ vs,KV kvs vs/\h.DictOf (EW P w) a vs :=
 rQ ok e
def zbx(ok:HOk P w H h)(e:H a=some (.dK kvs)):kvs.length<=sizeLine/\(a==gr)=false/\∃ vs,KV kvs vs/\h.DictOf (EW P w) a vs:=KM ok<|.inl e
def LS(ok:HOk P w H h)(e:H a=some (.tup<|b.map kV)):(nv<|EW P w).is h b a:=by
 let[z,c,r,o,h1,h2,n,h3]:=(ok a _ e)
 exact x3 o _ n {h1,h2,h3,rP r}
def LT(ok:HOk P w H h)(e:Rd H a (.dT kvs)):kvs.length<=sizeLine/\(a == gr)=false /\
  ∃ xs,KT H kvs xs/\h.DictOfH (nv<|EW P w) a xs:=by
 let[z,y,xs,r,o,d,g,h1,h2,h3,h4,h5]:=(rQ ok e)
 refine{z,y,xs,r,x3 o d g {h1,h2,h3,h4,λx b=>?_,h5}}
 have all:∀ {l:List _} {m:List _},KT H l m->∀ x∈m,(nv<|EW P w).is h x.1 x.2.1:=by
  intro l m q
  induction q with
  |nil=>intro x b;exact nomatch b
  |@cons p q ps j c t i =>
   intro x b;let e||b:=af.mp b
   subst e;exact LS ok (by rw[<-c.1];exact c.2.1);exact i x b
 exact all r x b
def UK(ok:HOk P w H h)(e:H a=some (.dT kvs)):kvs.length<=sizeLine/\(a==gr)=false /\
  ∃ xs,KT H kvs xs/\h.DictOfH (nv<|EW P w) a xs:=LT ok<|.inl e
end
def DGet(H:Hp)(a:Addr)(y:V)(r:Option V):Prop :=
 (∃ kvs k,Rd H a (.dK kvs)/\y=kV k/\r=BF kvs k)\/∃ kvs k b,Rd H a (.dT kvs)/\y=.ref b/\H b=some (.tup<|k.map kV)/\r=BF kvs k
def DPut(H:Hp)(a:Addr)(y v:V)(H':Hp):Prop :=
 (∃ kvs k,H a=some (.dK kvs)/\y=kV k/\kvs.length<sizeLine/\H'=upd H a (.dK<|CF kvs k v)) ∨
 ∃ kvs k b,H a=some (.dT kvs)/\y=.ref b/\H b=some (.tup<|k.map kV)/\kvs.length<sizeLine/\H'=upd H a (.dT<|CF kvs k v)
def DGet.k{H:Hp}{a:Addr}{kvs:cD}{k:AN}(e:H a=some (.dK kvs)):DGet H a (kV k) (BF kvs k):=.inl<|x2 _ k {.inl e,rfl,rfl}
def DGet.t{H:Hp}{a b:Addr}{kvs:zA}{k:List AN}(e:H a=some (.dT kvs))(c:H b=some (.tup<|k.map kV)):DGet H a (.ref b) (BF kvs k):=.inr<|x3 _ k b {.inl e,rfl,c,rfl}
def DPut.k{H:Hp}{a:Addr}{kvs:cD}{k:AN}{v:V}(e:H a=some (.dK kvs))(b:kvs.length<sizeLine):DPut H a (kV k) v (upd H a<|.dK<|CF kvs k v):=.inl<|x2 _ k ⟨e,rfl,b,rfl⟩
def DPut.t{H:Hp}{a b:Addr}{kvs:zA}{k:List AN}{v:V}(e:H a=some (.dT kvs))(c:H b=some (.tup<|k.map kV))(d:kvs.length<sizeLine) :
  DPut H a (.ref b) v (upd H a<|.dT<|CF kvs k v):=.inr<|x3 _ k b ⟨e,rfl,c,d,rfl⟩
section
variable{X:Cx}{AA:eB}{σ:St}{H:Hp}{s:ν}{a:Addr}{y v:V}{u r:Value}{o:Option V}{A:de}{E:yC}
def Inv.big(I:Inv X AA σ H s):gr<s.heap.objs.size:=yj (by decide) ((I.mod.glob.keeps I.bk).lt)
def zby(w:A.units+1<cLine)(I:Inv X AA σ H s)(g:DGet H a y (some v))(n:RelV y u)(h:∀ d q,Inv X AA σ H q->RelV v d->Q d q) :
  wpAny (model X.prog X.w) A (yd (.ref a) u) Q E s:=by
 let[kvs,k,e,i,l]||[kvs,k,b,e,i,x,l]:=g
 let[z,hd,vs,rel,dd]:=KM I.hok e;let[d,j,c]:=RelO.some_of   (by rw[l];exact rel.val k);subst i;exact wpAny_getItem_of (NB n) dd.mapOf j (h d _ (I.tok _) c);subst i;let[z,hd,xs,rel,dd]:=LT I.hok e;let[d,j,c]:=RelO.some_of   (by rw[l];exact rel.val k);cases (n);let[p,B,KF]:=ai.mp j;refine wpAny_getItem_heap (iz w) (LS I.hok x) dd B ?_;rw[KF];exact h d _ (I.tok _) c
def zbz(j:A.units+1<cLine)(I:Inv X AA σ H s)(g:DGet H a y o)(d:RelV y u)(h:∀ i,Inv X AA σ H i->Q (.bool o.isSome) i) :
  wpAny (model X.prog X.w) A (dr .In u<|.ref a) Q E s:=by
 let[kvs,k,e,c,l]||[kvs,k,b,e,c,n,l]:=g
 subst c;let[z,hd,vs,rel,dd]:=KM I.hok e;refine wpAny_in_of (NB d) hd dd.mapOf ?_;rw[<-(rel.val k).isSome_eq,<-l];exact h _<|I.tok _;subst c;let[z,hd,xs,rel,dd]:=LT I.hok e;cases (d)
 have q:=(rel.val k).isSome_eq;refine wpAny_in_heap (iz j) (LS I.hok n) hd dd ?_;rw[tz]at q;rw[<-q,<-l];exact h _<|I.tok _
def zb0(j:A.units+1<cLine)(I:Inv X AA σ H s)(g:DGet H a y o)(d:RelV y u)(h:∀ i,Inv X AA σ H i->Q (.bool<|!o.isSome) i) :
  wpAny (model X.prog X.w) A (dr .NotIn u<|.ref a) Q E s:=by
 let[kvs,k,e,c,l]||[kvs,k,b,e,c,n,l]:=g
 subst c;let[z,hd,vs,rel,dd]:=KM I.hok e;refine wpAny_notIn_of (NB d) hd dd.mapOf ?_;rw[<-(rel.val k).isSome_eq,<-l];exact h _<|I.tok _;subst c;let[z,hd,xs,rel,dd]:=LT I.hok e;cases (d)
 have q:=(rel.val k).isSome_eq;refine wpAny_notIn_heap (iz j) (LS I.hok n) hd dd ?_;rw[tz]at q;rw[<-q,<-l];exact h _<|I.tok _
def UL(I:Inv X AA σ H s)(c:QQ (H a))(hs:gz a s.heap h')(he:∃ q,h'.get? a=some q)(new:ObjOk X.prog X.w (upd H a ob) h' a ob) :
  Inv X AA σ (upd H a ob) { s with heap:=h',toks:=t' } :=
 I.write   c (.inl rfl) (λb q d z=>(hs.2 b d).trans z) he new
def rR(z:kvs.length<=sizeLine)(hd:(a==gr)=false)(rel:KV kvs vs)(dd:h'.DictOf (EW P w) a vs) :
  ObjOk P w H' h' a (.dK kvs):=⟨z,hd,vs,rel,dd⟩
def zb1(J:A.units+1<cLine)(I:Inv X AA σ H s)(g:DPut H a y v H')(p:RelV y u)(w:RelV v r)(h:∀ x,Inv X AA σ H' x->Q () x) :
  wpAny (model X.prog X.w) A (Ki (.ref a) u r) Q E s:=by
 let[kvs,k,e,j,l,n]||[kvs,k,b,e,j,B,l,n]:=g
 let[z,hd,vs,rel,dd]:=zbx I.hok e;subst j n;exact wpAny_setItem_pairs (hsz:=(by rw[<-rel.length];exact z)) (NB p) dd λh' d hs=>h _ (UL I (by rw[e];exact rq) hs (let ⟨q,_,_,i,_⟩:=d;⟨q,i⟩) (rR (υ (JI _ k v) l) hd (rel.put k w) d));subst j n;let[z,hd,xs,rel,dd]:=UK I.hok e;cases (p);refine wpAny_setItem_heap (hsz:=(by rw[<-Paired.length rel];exact z)) (iz J) (LS I.hok B) dd λh' d hs=>h _ ?_;revert d;apply u3;intro q L M [i,h2,h3,h4,_,h5];refine UL I (by rw[e];exact rq) hs ⟨q,i⟩ {(υ (JI _ k v) l),hd,_,(rel.put k B w).keeps λc ys D=>?_,x3 q L M ⟨i,h2,h3,h4,h5⟩};rw[AJ (BI D e (λz=>nomatch z))];exact D
end
section
variable{X:Cx}{AA:eB}{σ:St}{H:Hp}{s:ν}{a:Addr}{kvs:cD}{k:AN}{u:Value}{A:de}{E:yC}
end
def rS(i:Expr):Prop:=∀ a iv,zi i false a iv=operate [a,iv] (yd a iv)
def zb2{prog:bq}{w:World}{A:de}{E:yC}{s:ν}{env:Env}{value slice:Expr}{pos:Pos}{T id:String}{Q:yC}
  (j:Ip (.type T) "__getitem__"=pure (some<|.builtin id)) (hs:rS slice)
  (h:wpAny (model prog w) A (eval value env) (λo c=>wpAny (model prog w) A (eval slice env) (λi a=>a.TypeIs o T/\wpAny (model prog w) A (yd o i) Q E a) E c) E s) :
  wpAny (model prog w) A (eval (.Subscript value slice pos) env) Q E s:=by
 refine Bi<|ni h (λo c e=>ni e (λi a b=>?_) λz z x=>x) λz z x=>x;let[l,b]:=b
 have fin:wpAny (model prog w) A (zi slice false o i) (λr d=>wpAny (model prog w) A (letTemporaryGo value o r>>=λz=>pure r) Q E d) E a:=by
  rw[hs o i];exact wpAny_operating<|ni b (λr d g=>δ<|wpAny_letTemporaryGo<|ρ g) λz z x=>x
 refine δ<|δ<|uz l j ?_
 first
  |exact ρ<|δ fin
  |exact δ _
  |exact δ _
def zb3(I:Inv X c d H s)(g:DGet H a y o):s.TypeIs (.ref a) "dict":=by
 let[kvs,k,e,_,_]||[kvs,k,b,e,_,_,_]:=g
 let[z,z,vs,z,dd]:=KM I.hok e;exact dd.typeIs;let[z,z,xs,z,dd]:=LT I.hok e;exact dd.typeIs
def Q5(d ty:TE):TE:=λb H Q=>d b H λx e=>ty b e λy c=>∃ a v,x=.ref a/\DGet c a y (some v)/\Q v c
def Q6(ty d:TE):TE:=λb H Q=>ty b H λy e=>d b e λx c=>∃ a o,x=.ref a/\DGet c a y o/\Q (.bl o.isSome) c
def Q7(ty d:TE):TE:=λb H Q=>ty b H λy e=>d b e λx c=>∃ a o,x=.ref a/\DGet c a y o/\Q (.bl<|!o.isSome) c
def Q8(d ty e:TE):TS:=λD b H=>e b H λv g=>d b g λx i=>ty b i λy j=>∃ a c,x=.ref a/\DPut j a y v c/\D.nx b c
section
variable{X:Cx}{o i e value:Expr}{pos pos' tpos:Pos}{td ty tv:TE}
def zb4(l:X.A.units+1<cLine)(n:PE X o td)(p:PE X i ty)(hs:rS i):PE X (.Subscript o i pos) (Q5 td ty):=by
 refine λJ s d H Q I h=>zb2 PySem.F.slot_dict_getitem.lookup hs<|AU (n _ s d H _ I h) λu q ⟨x,r,w,z,q1⟩=>AU (p _ q d r _ w q1) λiv L b=>?_;let[y,B,j,D,a,v,rfl,g,q2]:=b;obtain rfl:u=eq a:=z;exact{zb3 j g,zby l j g D λM N E c=>x2 v B ⟨E,c,q2⟩}
def zb5(d:X.A.units+1<cLine)(j:PE X i ty)(l:PE X o td):PC X .In i o (Q6 ty td):=by
 refine λD s c H Q I h=>AU (j _ s c H _ I h) λiv n ⟨y,p,q,r,q1⟩=>AU (l _ n c p _ q q1) λu E b=>?_;let[x,v,w,z,a,J,rfl,g,q2]:=b;obtain rfl:u=eq a:=z;exact zbz d w g r λL B=>x2 (.bl _) v ⟨B,rfl,q2⟩
def zb6(d:X.A.units+1<cLine)(j:PE X i ty)(l:PE X o td):PC X .NotIn i o (Q7 ty td):=by
 refine λD s c H Q I h=>AU (j _ s c H _ I h) λiv n ⟨y,p,q,r,q1⟩=>AU (l _ n c p _ q q1) λu E b=>?_;let[x,v,w,z,a,J,rfl,g,q2]:=b;obtain rfl:u=eq a:=z;exact zb0 d w g r λL B=>x2 (.bl _) v ⟨B,rfl,q2⟩
def zb7(d:X.A.units+1<cLine)(j:PE X o td)(l:PE X i ty)(n:PE X value tv)(hs:vn value (some<|.Subscript o i pos') pos.line X.env=pure false) :
  PS X (.Assign [.Subscript o i pos'] value pos) (Q8 td ty tv):=by
 refine λT s b H D I h=>wpAny_Assign_Subscript (AU (n _ s b H _ I h) λr p ⟨v,q,w,z,q1⟩=>AU (j _ p b q _ w q1) λu B ⟨x,E,J,L,q2⟩=>AU (l _ B b E _ J q2) λiv U c=>?_) hs;let[y,Y,M,N,a,O,rfl,g,q3]:=c;obtain rfl:u=eq a:=L;exact zb1 d M g N z λs4 Q=>x2 b O ⟨Q,q3⟩
end
def zb8(h:Heap)(a:gr<h.objs.size):ObjOk P w H (h.push { cls:=.type "dict",data:=.dict #[] }) h.objs.size (.dK []) :=
 {bt _,beq_eq_false_iff_ne.mpr<|fg<|bm a,[],.nil,Heap.DictOf.new h}
def rT(h:Heap)(a:gr<h.objs.size):ObjOk P w H (h.push { cls:=.type "dict",data:=.dict #[] }) h.objs.size (.dT []) :=
 {bt _,beq_eq_false_iff_ne.mpr<|fg<|bm a,[],.nil,_,_,0,aj _ rfl,⟨rfl,rfl,rfl⟩,rfl,rfl,jn}
def KN:TE:=λ_ H Q=>∀ p,H p=none->Q (.ref p) (upd H p<|.dK [])
def Q9:TE:=λ_ H Q=>∀ p,H p=none->Q (.ref p) (upd H p<|.dT [])
section
variable{X:Cx}{pos:Pos}
def zb9:PE X (.Dict [] [] pos) KN:=λa s b H Q I h =>
 Fn (x2 (.ref _) _ {I.laid    (λz z q=>ξ _ q) (π _) (zb8 _ I.big),rfl,h _<|I.hok.fresh<|π _})
def zca:PE X (.Dict [] [] pos) Q9:=λa s b H Q I h =>
 Fn (x2 (.ref _) _ {I.laid    (λz z q=>ξ _ q) (π _) (rT _ I.big),rfl,h _<|I.hok.fresh<|π _})
end
def NC:List (TE × TE)->St->Hp->(List (V × V)->Hp->Prop)->Prop
 | [],_,H,Q=>Q [] H
 |(tk,b)::r,a,H,Q=>tk a H λx c=>b a c λy d=>NC r a d λps e=>Q ((x,y)::ps) e
abbrev VV:List (V × V)->List (Value × Value)->Prop:=Paired λp q=>RelV p.1 q.1/\RelV p.2 q.2
def UM(X:Cx)(pos:Pos)(keys:List (Option Expr))(values:wF)(a:List (TE × TE)):Prop :=
 ∀ (c:eB) (s:ν) (b:St) (H:Hp) (Q:List (V × V)->Hp->Prop),Inv X c b H s->NC a b H Q ->
  wpAny (model X.prog X.w) X.A (evalPairs<|pairTrees keys values X.env pos) (λvs d=>∃ ps H',Inv X c b H' d/\VV ps vs/\Q ps H') X.xe s
def zcb:UM X pos [] [] []:=λa s b H Q I h=>pairTrees_nil_walk<|x2 [] H {I,.nil,h}
def zcc(c:PE X k tk)(d:PE X v e)(g:UM X pos i vs a) :
  UM X pos (some k::i) (v::vs) ((tk,e)::a):=λB s b H Q I h =>
 pairTrees_cons_walk (AU (c _ s b H _ I h) (by intro u j [x,l,n,o,q1];exact AU (d _ j b l _ n q1) (by intro w2 p [y,q,r,w,q2];exact AU (g _ p b q _ r q2) (by intro ws D [ps,z,A,rel,q3];exact x2 _ z {A,.cons ⟨o,w⟩ rel,q3}))))
structure M1(X:Cx)(o:Expr)(m:Str)(C9:Pos)(e:Expr)(D5:Pos):Prop where
 base:uu o m X.env (eval o X.env)=eval o X.env
 few:((ja D5<|ax [e] X.env).all (λx=> !x.1)&&(uw D5<|li [] X.env).all (λx=>x.1.isSome)
  && decide (([e]:wF).length+([]:List zx).length+(if([]:List zx).isEmpty then 0 else 1)<30))=true
 line:(C9.endLine==D5.line)=true
 trees:ja D5 (ax [e] X.env)=[(false,eval e X.env)]
structure M2(X:Cx)(o:Expr)(m:Str)(C9:Pos)(e f:Expr)(D5:Pos):Prop where
 base:uu o m X.env (eval o X.env)=eval o X.env
 few:((ja D5<|ax [e,f] X.env).all (λx=> !x.1)&&(uw D5<|li [] X.env).all (λx=>x.1.isSome)
  && decide (([e,f]:wF).length+([]:List zx).length+(if([]:List zx).isEmpty then 0 else 1)<30))=true
 line:(C9.endLine==D5.line)=true
 trees:ja D5 (ax [e,f] X.env)=[(false,eval e X.env),(false,eval f X.env)]
def OH(H:Hp)(a:Addr):Prop:=(∃ kvs,Rd H a<|.dK kvs)\/∃ kvs,Rd H a<|.dT kvs
def rV(I:Inv X c g H s)(d:OH H a) :
  s.TypeIs (.ref a) "dict"/\(∀ b,eq a=.ref b->∃ ob,s.heap.get? b=some ob/\ob.dict=none)/\(a==gr)=false:=by
 let[kvs,e]||[kvs,e]:=d
 let[z,hd,vs,z,dd]:=KM I.hok e;refine{dd.typeIs,λb q=>?_,hd};cases q;revert dd;apply u3;intro ob z z [h1,h2,z];exact⟨ob,h1,h2.2.1⟩;let[z,hd,xs,z,dd]:=LT I.hok e;refine{dd.typeIs,λb q=>?_,hd};cases q;revert dd;apply u3;intro ob z z [h1,h2,z];exact⟨ob,h1,h2.2.1⟩
section
variable{X:Cx}{AA:eB}{σ:St}{H:Hp}{s:ν}{a:Addr}{y d:V}{u r:Value}{o:Option V}{A:de}{E:yC}
def zcd(p:A.units+1<cLine)(I:Inv X AA σ H s)(g:DGet H a y o)(i:RelV y u)(h:∀ j n,Inv X AA σ H n->RelV (o.getD .non) j->Q j n) :
  wpAny (model X.prog X.w) A (call (.builtin "dict.get") [.ref a,u]) Q E s:=by
 let[kvs,k,e,c,l]||[kvs,k,b,e,c,q,l]:=g
 subst c;let[z,hd,vs,rel,dd]:=KM I.hok e;refine ve PySem.F.slot_dict_get dd.typeIs PySem.F.entry_dict_get (PySem.F.args_dict_get_2 _ _) (meets_dict_get _ a (NB i) hd) {_,dd.mapOf,h _ _ (I.tok _) ?_};rw[l];exact(rel.val k).getD rfl;subst c;let[z,hd,xs,rel,dd]:=LT I.hok e;cases (i);refine ve PySem.F.slot_dict_get dd.typeIs PySem.F.entry_dict_get (PySem.F.args_dict_get_2 _ _) (meetsH_dict_get _ a b hd) {iz p,x2 k xs {LS I.hok q,dd,h _ _ (I.tok _) ?_}};rw[l];exact(rel.val k).getD rfl
def zce(q:A.units+1<cLine)(I:Inv X AA σ H s)(g:DGet H a y o)(i:RelV y u)(j:RelV d r)(h:∀ n p,Inv X AA σ H p->RelV (o.getD d) n->Q n p) :
  wpAny (model X.prog X.w) A (call (.builtin "dict.get") [.ref a,u,r]) Q E s:=by
 let[kvs,k,e,c,l]||[kvs,k,b,e,c,v,l]:=g
 subst c;let[z,hd,vs,rel,dd]:=KM I.hok e;refine ve PySem.F.slot_dict_get dd.typeIs PySem.F.entry_dict_get (PySem.F.args_dict_get_3 _ _ _) (meets_dict_get_default _ a (NB i) hd r) {_,dd.mapOf,h _ _ (I.tok _) ?_};rw[l];exact(rel.val k).getD j;subst c;let[z,hd,xs,rel,dd]:=LT I.hok e;cases (i);refine ve PySem.F.slot_dict_get dd.typeIs PySem.F.entry_dict_get (PySem.F.args_dict_get_3 _ _ _) (meetsH_dict_get_default _ a b hd r) {iz q,x2 k xs {LS I.hok v,dd,h _ _ (I.tok _) ?_}};rw[l];exact(rel.val k).getD j
end
def UN(e ty:TE):TE:=λb H Q=>e b H λx c=>∃ a,x=.ref a/\OH c a/\ty b c λy d=>∃ o,DGet d a y o/\Q (o.getD .non) d
def X9(e ty tx:TE):TE:=λb H Q=>e b H λx c=>∃ a,x=.ref a/\OH c a/\ty b c λy g=>tx b g λz d=>∃ o,DGet d a y o/\Q (o.getD z) d
section
variable{X:Cx}{o e f:Expr}{C9 D5:Pos}{td ty tx:TE}
def zcf(l:X.A.units+1<cLine)(n:PE X o td)(he:PE X e ty)(m:M1 X o "get" C9 e D5):PE X (.Call (.Attribute o "get" C9) [e] [] D5) (UN td ty):=by
 refine λL s i H Q I h=>Cr m.base m.few m.line PySem.F.plainAttrs_dict PySem.F.slot_dict_get PySem.F.type_dict_get<|AU (n _ s i H _ I h) λu p b=>?_;let[x,q,j,r,a,rfl,d,q1]:=b;obtain rfl:u=eq a:=r;let[v,w,z]:=rV j d;refine{v,w,?_};rw[m.trees];exact tj rfl (nj (r_ (AU (he _ p i q _ j q1) (by intro iv M [y,B,D,E,N,g,q2];exact wv<|zcd l D g E λO T J c=>x2 _ B ⟨J,c,q2⟩))))
def zcg(l:X.A.units+1<cLine)(n:PE X o td)(he:PE X e ty)(hf:PE X f tx)(m:M2 X o "get" C9 e f D5):PE X (.Call (.Attribute o "get" C9) [e,f] [] D5) (X9 td ty tx):=by
 refine λU s b H Q I h=>Cr m.base m.few m.line PySem.F.plainAttrs_dict PySem.F.slot_dict_get PySem.F.type_dict_get<|AU (n _ s b H _ I h) λu p c=>?_;let[x,q,j,r,a,rfl,d,q1]:=c;obtain rfl:u=eq a:=r;let[w,B,v]:=rV j d;refine{w,B,?_};rw[m.trees];exact tj rfl (nj (r_ (AU (he _ p b q _ j q1) (by intro iv D [y,E,J,L,q2];exact r_ (AU (hf _ D b E _ J q2) (by intro Y s3 [z,M,N,O,ov,g,q3];exact wv<|zce l N g L O λw' s4 T i=>x2 _ M ⟨T,i,q3⟩))))))
end
section
variable{X:Cx}{AA:eB}{σ:St}{H:Hp}{s:ν}{a:Addr}{kvs:cD}{A:de}{E:yC}
def zch(I:Inv X AA σ H s)(e:Rd H a (.dK kvs))(h:∀ p d,H p=none->Inv X AA σ (upd H p<|.dK kvs) d->Q (.ref p) d):wpAny (model X.prog X.w) A (call (.type "dict") [.ref a]) Q E s:=by
 let[z,hd,vs,rel,dd]:=KM I.hok e;exact kt_call_dict hd dd (by rw[<-rel.length];exact z) λh' c hs=>(h _ _ (I.hok.fresh<|π _) (I.laid    (λb q g=>((hs.2 b<|bm<|av g).trans (ξ _ g))) (π _) (rR z (beq_eq_false_iff_ne.mpr<|fg<|bm I.big) rel c)))
end
section
variable{X:Cx}{AA:eB}{σ:St}{H:Hp}{s:ν}{a:Addr}{y:V}{u:Value}{A:de}{E:yC}
end
end L2
namespace Att
open PySem PySem.W PySem.Calls PyProof.Rows
abbrev _root_.yG:=List Int
def zci:∀ (ns:yG) (vs:wE),WellAll P h vs (ns.map WData.int)->rg vs ns:=by
 intro ns
 induction ns with
 |nil =>
  intro vs w;cases w;exact .nil
 |cons n ns c =>
  intro vs w;cases w with
  |cons a b =>
   cases a;exact .cons _ _<|c _ b
def zcj{l:OpenLaw}(i:l.most=some n){h:Heap}
  (b:l.row.toRowW.claim.pre args=true) (g:WellAll P h c args) :
  ∃ a vs ns,c=[eq a]/\args=[WData.list (ns.map WData.int)]/\h.get? a=some { cls:=.type "list",data:=.seq vs.toArray }/\rg vs ns/\ns.length<=n:=by
 have j:l.pre.holds [] _=true:=(pre_splitW b).2;let[d,r,rfl,h1,h2]:=hasAllW_cons<|(pre_splitW b).1;obtain rfl:=hasAllW_nil h2;let[xs,rfl,h3]:=hasW_list h1;let[ns,rfl]:=items_int h3
 have o:ns.length<=n:=by
  have h4:(WTm.not<|.lt (.lit<|.int n) (.len<|.arg 0)).holds [] { args:=[.list (ns.map .int)] }=true:=by
   have h4:=(holds_andW j).1;rw[i]at h4;exact h4
  have h5:=condW_of h4<|w_not<|w_lt w_lit<|w_len_list<|w_arg rfl
  first
   |(exact absurd h5 (by decide))
   |(simp at h5;omega)
 cases g with
 |cons p w2 =>
  cases w2;cases p with
  |list q e=>exact{_,_,ns,rfl,rfl,q,zci ns _ e,o}
def zck(l:OpenLaw)(args:List WData):l.row.toRowW.claim.post args (.bool true) args=true :=
 postW_of
  (show WShape.has [] _ _=true by first|rfl|decide|simp[WShape.armsAll])
  (w_eq_bool (w_res rfl) w_lit) rfl
def attach_call{l:OpenLaw}{z:(Str->Option Value)->Heap->Prop}{A:World->Heap->Prop}{d:DefRec}
  (H:l.most=some n) (u:d.params.defaults=[])
  (call:∀ (w:World) (s₀ b:ν) (mg v:xB) (e:Addr) (o:Obj) (pm p g:Value) (a:Addr) (vs:wE) (ns:yG),
   Ground q loose [] z w s₀ mg v b.heap->A w b.heap ->
   b.heap.get? e=some o->o.data=.func (docDef d.name d.params d.body d.scope pm p g)->b.heap.CodeRec p d.name->mg d.name=some (.ref e) ->
   b.heap.get? a=some { cls:=.type "list",data:=.seq vs.toArray }->rg vs ns->ns.length<=n->b.gens= #[] →
   ut (model l.prog w) Ig (.call (.ref e) {[.ref a],[]}) (λr s=>r=.ok (.ret<|.bool true)/\OldK b.heap s.heap/\s.os=b.os/\s_ s.gens) b) :
  WalkO q loose z A l.row.toRowW d [] (λf vs=>PySem.call f vs):=by
 intro w s₀ b mg v G Y e o pm p g I kV J hd L B x M args D as i E N y O;obtain rfl:I=.none:=Dflts.none B u;obtain rfl:kV=.none:=Dflts.noKw B;let[a,vs,ns,rfl,rfl,j,c,Q]:=zcj H i y;refine enter_call<|lq (call w _ _ mg v e o pm p _ a vs ns G Y J (fd_plain hd) L x j c Q M) λr s T=>?_;let[rfl,h2,h3,h4]:=T;exact{.inl {_,_,[],rfl,λ_=>rfl,.bool _,zck l _,λ_=>{Cs,λ_ U=>(nomatch U)}},h2,h3,h4}
section
variable{prog:bq}{w:World}{A:de}{E:yC}{s:ν}{K:Frag}
end
end Att
namespace L2
def rW:∀ {vs:wE} {ns:yG},rg vs ns->Vals (ns.map V.int) vs:=λh=>by
 induction h with
 |nil=>exact .nil
 |cons n t h a=>exact .cons ⟨t,rfl⟩ a
def YA(H:Hp):Prop:=∀ b,H b=none\/∃ o xs,H b=some (.frz o<|.lst xs)
def zcl{K:W.Frag}{mg L:xB}{sp:Sp}{c:ν}{vs:wE}{ns:yG}
  (Y:K.In c.heap) (p:c.heap.Ns bg mg) (g:c.heap.Ns Ik L) (M:∀ x:Str,x≠"__name__"->L x=nz x) (A:c.heap.NoLimit) (hg:c.gens= #[])
  (E:c.heap.get? a=some { cls:=.type "list",data:=.seq vs.toArray }) (hi:rg vs ns) (hl:ns.length<=sizeLine) (hr:Room k Ig)
  (F:∀ base:Heap,K.In base->base.Ns bg mg->FnOk P w K mg base CX k fa fd [x] sp) (l:∀ (s:ν) (u:Value),ww s fd {[u],[]} [(x,u)])
  (N:∀ H:Hp,YA H->SqL K H a (ns.map V.int)->sp [.ref a] H (λv y=>v=.bl true) λy y y=>False)
  (O:∀ H e i,CX [] H c (λy y y=>False) e i->False) :
  ut (model P w) Ig (.call (.ref fa) {[.ref a],[]}) (λr i=>r=.ok (.ret<|.bool true)/\OldK c.heap i.heap/\i.os=c.os/\s_ i.gens) c:=by
 have core:∀ H:Hp,YA H->SqL K H a (ns.map V.int)->HOk P w H c.heap->(∀ b,H b≠none->b=a)->(H a≠none->K.lookup a=none) ->
   ut (model P w) Ig (.call (.ref fa) {[.ref a],[]}) (λr i=>r=.ok (.ret<|.bool true)/\OldK c.heap i.heap/\i.os=c.os/\s_ i.gens) c:=by
  intro H hO hS hok hA hK
  have Q:∀ {b:Addr} {o:Obj} {I:Array _} {J:Nat},c.heap.get? b=some o->o.data=.dict I J->H b=none:=λ{b o I J} e d=>by
   cases q:H b with
   |none=>rfl
   |some u =>
    have T:=hA b (by rw[q];simp);subst T;rw[E]at e;obtain rfl:=μ e;cases d
  have base_of:∀ {b:Addr} {o:Obj},c.heap.get? b=some o->H b=none->(N9 _ H).get? b=some o:=λe n=>Wp e n
  have j:∀ {b:Addr} {m:Str->Option _},c.heap.Ns b m->(N9 _ H).Ns b m:=λ{b m} ⟨o,I,J,e,d,r⟩=>x3 o I J {base_of e<|Q e d,d,r}
  have B:=λb o e=>base_of (Y b o e) (by
   cases q:H b with
   |none=>rfl
   |some u =>
    have T:=hA b (by rw[q];simp);subst T;rw[hK (by rw[q];simp)]at e;cases e)
  refine lq ((F _ B<|j p).run _ [] _ H _ [.ref a] [.ref a] _ _ hr ({rfl,({B,j p,{L,j g,M},let ⟨mc,h1,h2⟩:=A;{mc,j h1,h2}}),λb o e=>Wq e,ba<|Wm _ _,trivial,λb g=>absurd (show b∈([])from g) (by simp),hok,.of_eq hg}) (l _ _) (.cons rfl .nil) (N H hO hS)) λr i h=>?_;cases r with
  |error e=>exact(O H e i h).elim
  | ok fl =>
   cases fl with
   |next=>exact jm h
   |brk=>exact jm h
   |cont=>exact jm h
   |ret u =>
    revert h;apply u2;intro v H' [os,bare,un,D,r',rfl];obtain rfl:u=Ij _:=r';refine{rfl,OldK.of_keep λb o e=>?_,os,bare};cases q:H b with
    |none=>exact un.keep b o e q (by intro z;exact absurd (show b∈([])from z) (by simp)) (by simp)
    |some u =>
     let z||[ob,xs,z]:=hO b
     rw[q]at z;cases z;let[e2,y]:=D b _<|un.frzs b ob _ z;let[e1,y]:=hok b _ z;rw[e]at e1;obtain rfl:=μ e1;exact e2
 have rv:=rW hi;cases U:K.lookup a with
 |some o =>
  have e:=Y a o U;rw[E]at e;obtain rfl:=μ e;refine core (λy=>none) (λy=>.inl rfl) (.inr (x3 _ _ _ {U,rfl,rfl,rfl,by rw[aw,hi.length];exact hl,rv})) (λb u z=>by cases z) (λb z=>absurd rfl z) λz=>absurd rfl z
 |none =>
  refine core (λb=>if b=a then some _ else none) (λb=>?_) (.inl<|.inr {{ cls:=.type "list",data:=.seq vs.toArray },if_pos rfl}) (λb u z=>?_) (λb z=>?_) λy=>U;by_cases g:b=a;exact .inr<|x2 _ _<|if_pos g;exact .inl<|if_neg g;by_cases g:b=a
  have z':=(if_pos g).symm.trans z;cases z';subst g;exact{E,by rw[ε];exact hl,x2 vs _ ⟨rv,E⟩};cases ((if_neg g).symm.trans z);by_cases g:b=a;exact g;exact absurd (if_neg g) z
def walk_of{l:W.OpenLaw}{I:(Str->Option Value)->Heap->Prop}{A:World->Heap->Prop}{d:DefRec}{K:Params->W.Frag}{CX:World->II}{sp:World->Sp}
  (J:l.most=some n) (i:n<=sizeLine) (j:d.params.defaults=[]) (L:Room k Ig)
  (M:∀ (w:World) (h:Heap),A w h->(K w.params).In h)
  (F:∀ (w:World) (mg:xB) (g:Addr) (h:Heap),(K w.params).In h->h.Ns bg mg->mg d.name=some (.ref g) ->
   ∃ fd:gq,(∀ (s:ν) (u:Value),ww s fd {[u],[]} [(x,u)]) /\
    ∀ base:Heap,(K w.params).In base->base.Ns bg mg->FnOk l.prog w (K w.params) mg base (CX w) k g fd [x] (sp w))
  (p:∀ (w:World) (H:Hp) (a:Addr) (ns:yG),ns.length<=n->YA H->SqL (K w.params) H a (ns.map V.int)->sp w [.ref a] H (λv _=>v=.bl true) λ_ _ _=>False)
  (r:∀ (w:World) (H:Hp) (s:ν) (e:Value) (y:ν),CX w [] H s (λ_ _ _=>False) e y->False) :
  W.WalkO q loose I A l.row.toRowW d [] (λf vs=>PySem.call f vs):=by
 refine Att.attach_call J j λw s₀ B mg mb g o pm cd N a vs ns G Y ho hd G4 z c b D O=>?_
 have E:=M w _ Y;let[fd,Q,U]:=F w mg g _ E G.T.g z;exact zcl E G.T.g G.T.b G.T.builtins G.T.nolimit O c b (υ D i) L U Q (λH hO hS=>p w H a ns D hO hS) λH e y=>r w H _ e y
def BN(s:Stmt)(j:Nat):Stmt:=match s with
 |.ClassDef _ _ _ body _ _ _ _ _ _ _=>body.getD j<|.Pass {0,0,0,0}
 |_=>.Pass {0,0,0,0}
def KO(s:Stmt):Arguments:=match s with
 |.FunctionDef _ a _ _ _ _ _ _ _ _=>a
 |_=>{ posonlyargs:=[],args:=[],vararg:=none,kwonlyargs:=[],kw_defaults:=[],kwarg:=none,defaults:=[] }
def HQ(s:Stmt):List Stmt:=match s with
 |.FunctionDef _ _ b _ _ _ _ _ _ _=>b
 |_=>[]
def AT(s:Stmt):Scope:=match s with
 |.FunctionDef _ _ _ _ _ _ a _ _ _=>a
 |_=>{ kind:=.function,names:=[],isGenerator:=false,isCoroutine:=false }
abbrev E0:XK:=λ_ _ _=>False
structure Fun(K:W.Frag)(x qual:Str)(st:Stmt)(f:Addr)(fd:gq):Prop where
 ex:∃ (oc:Value) (od:Option Addr) (kV doc pm:Value) (an:Option Addr) (CL ct:Value) (osl:Array (Option Value)),
  fd=W.fnOf x qual (KO st) (HQ st) (AT st) .none kV doc pm an CL ct/\K.lookup f=some {oc,od,.func fd,osl}/\W.codeIn K CL qual=true
 kp:W.keepIn K (.ref f)=true
section
variable{P:bq}{w:World}{K:W.Frag}{mg:xB}{base:Heap}
def Fun.binds{x a:Str}{st:Stmt}{f:Addr}{fd:gq}{ps:eG}(F:Fun K x a st f fd)
  (h:∀ (kV b pm:Value) (c:Option Addr) (d ct:Value) (us:wE),us.length=ps.length->bindArgs (W.fnOf x a (KO st) (HQ st) (AT st) .none kV b pm c d ct) {us,[]}=pure (ps.zip us)):Binds K fd ps []:=by
 refine u9 ?_ F.ex;intro g od kV b pm c d ct e [rfl,i,j];exact .all<|h kV _ pm c _ ct
def rX{x a:Str}{st:Stmt}{f:Addr}{i:Value}{od d:Option Addr}{e:Array (Option Value)}{kV b pm g ct:Value}(l:K.lookup f=some {i,od,.func<|W.fnOf x a (KO st) (HQ st) (AT st) .none kV b pm d g ct,e})
  (c:W.codeIn K g a=true) (k:W.keepIn K (.ref f)=true):Fun K x a st f (W.fnOf x a (KO st) (HQ st) (AT st) .none kV b pm d g ct):={x9 i od kV _ pm d _ ct _ ⟨rfl,l,c⟩,k}
end
def LU(a:Room k A):A.units+1<cLine:=cg (Ae (by decide) _) a.units
section
variable{X:Cx}
def pv(i:Nat)(a:X.N[i]? =some x:=by rfl)(b:T3 X.env.scope x:=by first|exact Fo rfl|exact zj (Fo rfl)|exact zj<|zj rfl)(hd:(x ==("__debug__":Str))=false:=by decide)
  (c:(x ==("__classdict__":Str))=false:=by decide):PE X (.Name x pos) (T5 i):=pR a b hd c
end
def Same(H H':Hp):Prop:=∀ b o,H b=some o->H' b=some o
def Same.refl(H:Hp):Same H H:=λz z h=>h
def Same.trans{H d e:Hp}(a:Same H d)(b:Same d e):Same H e:=λc o h=>b c o<|a c o h
def Same.free{H H':Hp}(e:Same H H'){l:Addr}(h:H' l=wy):H l=wy:=by
 cases q:H l with
 |none=>rfl
 |some o =>
  rw[e l o q]at h;cases h
def Same.seq{K:W.Frag}{H H':Hp}{a:Addr}{xs:eI}(e:Same H H')(h:SqL K H a xs):SqL K H' a xs:=by
 rcases h with(h|⟨o,h⟩)|h
 exact .inl<|.inl<|e _ _ h;exact .inl<|.inr {o,e _ _ h};exact .inr h
section
variable{κ :Type}[DecidableEq κ]
def zcm{kvs:List (κ × V)}(h:BF kvs k=none):¬ k∈kvs.map (·.1):=by
 intro m;let[p,a,e]:=a_.mp m
 have q:(kvs.any λb=>decide<|b.1=k)=true:=dt.mpr {p,a,decide_eq_true e};rw[NA,h]at q;exact absurd q (by simp)
theorem rY:∀ {l:List κ} {k: κ},l.Nodup->¬ k∈l->(l++[k]).Nodup
 | [],k,_,_=>by simp
 |a::r,k,h,b=>by
  let[h1,h2]:=g_.mp h;refine g_.mpr {λm=>?_,rY h2 λm=>b<|af.mpr<|zj m};let q||q:=bh.mp m
  exact h1 q;exact b<|af.mpr<|Fo (aa.mp q).symm
def zcn{kvs:List (κ × V)}(v:V)(a:(kvs.map (·.1)).Nodup)(h:BF kvs k=none):((CF kvs k v).map (·.1)).Nodup:=by
 rw[rO v h,ak];exact rY a<|zcm h
end
theorem YB:∀ (names:List (Str × xu)) (cs:List (Str × Addr)),
  (∀ x∈names,x.2=.free->∃ c,env.cells.lookup x.1=some c)->(∀ x c,cs.lookup x=some c->env.cells.lookup x=some c) ->
  ∃ i,(forIn names cs λx r=>(if(x.2==gi)=true then do let a ← cellOf env x.1;pure (jc ((x.1,a)::r))else pure (jc r):Sem (ForInStep<|List<|Str × Addr)))=pure i /\
   (∀ x c,i.lookup x=some c->env.cells.lookup x=some c)/\(∀ x,(cs.lookup x).isSome=true->(i.lookup x).isSome=true) /\
   ∀ x∈names,x.2=.free->(i.lookup x.1).isSome=true
 | [],cs,_,h=>{cs,rfl,h,λ_ z=>z,λ_ z=>nomatch z}
 |(n,k)::r,cs,hf,h=>by
  by_cases j:k=.free;subst j;let[c,l]:=hf _ χ rfl;let[i,e,h1,h2,h3]:=YB r ((n,c)::cs) (λx b=>hf x<|τ _ b) (λx o b=>by
   by_cases d:x=n;subst d;simp only[au,beq_self_eq_true]at b;obtain rfl:=μ b;exact l
   have  :=beq_eq_false_iff_ne.mpr d;simp only[au,this]at b;exact h x o b)
  refine{i,?_,h1,λx b=>h2 x ?_,λx b g=>?_};rw[ir]
  show(((match env.cells.lookup n with|some a=>pure a|none=>_)>>=_)>>=_)=_;rw[l];exact e;by_cases d:x=n;subst d;simp
  have  :=beq_eq_false_iff_ne.mpr d;simp only[au,this];exact b;let rfl||b:=af.mp b
  exact h2 n (by simp);exact h3 x b g;let[i,e,h1,h2,h3]:=YB r cs (λx b=>hf x<|τ _ b) h;refine{i,?_,h1,h2,λx b g=>?_};rw[ir,if_neg (by simp[(j)])];exact e;let rfl||b:=af.mp b
  exact absurd g j;exact h3 x b g
def rZ(hf:∀ x∈scope.names,x.2=.free->∃ c,env.cells.lookup x.1=some c) :
  ∃ b,closureFor scope env=pure b/\(∀ x c,b.lookup x=some c->env.cells.lookup x=some c)/\∀ x∈scope.names,x.2=.free->(b.lookup x.1).isSome=true:=by
 let[b,e,h1,z,h3]:=YB  _ [] hf (λx c h=>by simp at h);refine{b,?_,h1,h3}
 have:(forIn scope.names ([]) λx r=>(if(x.2==gi)=true then do let a ← cellOf env x.1;pure (jc ((x.1,a)::r))else pure (jc r))) >>=(λr=>(pure r))=(pure b:Sem _):=by rw[e];rfl
 exact this
theorem r8{env:Env}:∀ {names:List (Str × xu)} {x:Str},names.lookup x=some .free ->
  (names.map λ(n,k)=>if(k==gi&&env.scope.kind == .function&&env.kindOf n==some .cell)then(n,gj)else(n,k)).lookup x=some .cell ∨
  (names.map λ(n,k)=>if(k==gi&&env.scope.kind == .function&&env.kindOf n==some .cell)then(n,gj)else(n,k)).lookup x=some .free
 | [],_,h=>by simp at h
 |(n,k)::r,x,h=>by
  by_cases a:x=n;subst a;simp only[au,beq_self_eq_true]at h;obtain rfl:=μ h
  show gx x ((if _ then(x,gj)else(x,gi))::_)=_\/gx x ((if _ then(x,gj)else(x,gi))::_)=_;split;exact .inl (by simp);exact .inr (by simp)
  have b:=beq_eq_false_iff_ne.mpr a;simp only[au,b]at h
  show gx x ((if _ then(n,gj)else(n,k))::_)=_\/gx x ((if _ then(n,gj)else(n,k))::_)=_;split<;>(simp only[au,b];exact(r8  h))
theorem sA{env:Env}:∀ {names:List (Str × xu)} {x:Str},
  ((names.map λ(n,k)=>if(k==gi&&env.scope.kind == .function&&env.kindOf n==some .cell)then(n,gj)else(n,k)).lookup x=some .cell ∨
  (names.map λ(n,k)=>if(k==gi&&env.scope.kind == .function&&env.kindOf n==some .cell)then(n,gj)else(n,k)).lookup x=some .free)->(x,gi)∈names\/(x,gj)∈names
 | [],_,h=>by simp at h
 |(n,k)::r,x,h=>by
  by_cases a:x=n;subst a
  have h:gx x ((if(k==gi&&env.scope.kind == .function&&env.kindOf x==some _)=true then(x,gj)else(x,k))::_)=some _\/gx x ((if(k==gi&&env.scope.kind == .function&&env.kindOf x==some _)=true then(x,gj)else(x,k))::_)=some _:=h;split at h;rename_i b;rw[bv,bv]at b
  have:k=.free:=by simpa using b.1.1
  subst this;exact .inl χ;simp only[au,beq_self_eq_true]at h;let h||h:=h
  cases h;exact .inr χ;cases h;exact .inl χ
  have h:gx x ((if(k==gi&&env.scope.kind == .function&&env.kindOf n==some _)=true then(n,gj)else(n,k))::_)=some _\/gx x ((if(k==gi&&env.scope.kind == .function&&env.kindOf n==some _)=true then(n,gj)else(n,k))::_)=some _:=h
  have h':=h;split at h'
  all_goals
   simp only[au,(beq_eq_false_iff_ne.mpr a)]at h';exact(sA h').imp (τ _) (τ _)
def FS{a b:Addr}{n:Nat}(h:a<n)(h2:n<=b):a≠b:=bm<|ω h h2
def Cx.block(X:Cx)(a:eB)(s:ν)(H:Hp)(b:eG)(scope:Scope)(c:List (Str × Addr))(C:Addr)(d:eF):Cx where
 prog:=X.prog
 w:=X.w
 K:=X.K
 mg:=X.mg
 base:=X.base
 A:=X.A
 N:=b
 s₀:=s
 H₀:=H
 env:=compEnvC scope c C X.env
 outer:=X.stack
 stack:=X.stack
 ex:=d
 fn:=λ_=>false
 calm:=X.calm
 pn:=X.pn++a
 xe:=λ_ _=>False
abbrev _root_.wH:=List Nat
structure KP(X:Cx)(scope:Scope)(tn cn:eG)(A5:wH):Prop where
 kind:scope.kind=.function
 nocell:∀ y∈scope.names,y.2≠.cell
 names:∀ y∈scope.names,y.2=.local->scope.names.lookup y.1=some .local
 free:∀ y∈scope.names,y.2=.free->X.env.kindOf y.1=some .cell\/X.env.kindOf y.1=some .free
 drawn:∀ x∈cn,scope.names.lookup x=some .free
 caps:A5.map (λi=>X.N[i]?)=cn.map some
def LV(k:Nat)(a:wH)(b:St):St:=az k none++a.map λi=>(b[i]?).join
def HOk.track(x:HOk P w H h)(d:H a=none)(new:ObjOk P w (upd H a o) h a o):HOk P w (upd H a o) h:=λb u e=>by
 by_cases g:b=a;subst g;rw[AG]at e;obtain rfl:=μ e;exact new;rw[AJ g]at e;refine(x b u e).stay (λz z z q=>q) (λc q=>?_) λc xs q=>?_;rw[AJ (BJ q d)];exact q;rw[AJ (BJ q d)];exact q
section
variable{X:Cx}{AA:eB}{σ:St}{H:Hp}{s:ν}
def Inv.pinlt(I:Inv X AA σ H s)(a:p∈X.pn++AA):p.1<s.heap.objs.size:=av (I.pin p a).1
def Inv.stkne(I:Inv X AA σ H s)(h1:b≠X.env.locals)(h2:b∉X.fs):b∉EK X.stack:=λz=>(af.mp<|I.stkSub b z).elim h1 h2
def Inv.stklt(I:Inv X AA σ H s)(h:b∈EK X.stack):b<s.heap.objs.size:=by
 let[z,o,a,z]:=I.stack.mem h;exact av a
theorem Inv.block{scope:Scope}{a B:eG}{N:List (Str × Addr)}{D:ν}(I:Inv X AA σ H s)(S:KP X scope a B A5)
  (E:∀ x c,N.lookup x=some c->X.env.cells.lookup x=some c) (HK:∀ x∈scope.names,x.2=.free->(N.lookup x.1).isSome=true)
  (hf:∀ b∈Q,FpOk X AA H b) (T:∀ b∈Q,b<s.heap.objs.size) (O:s.heap.objs.size<=C) (k:∀ b o,s.heap.get? b=some o->D.heap.get? b=some o)
  (U:D.os=s.os) (hg:D.gens=s.gens) (Y:∃ m,D.heap.Ns C m)
  (hp:∀ p∈g,D.heap.get? p.1=some p.2/\H p.1=none/\p.1≠C/\p.1∉EK X.stack/\∀ v,p.2.data≠.cell v) :
  Inv (X.block AA s H (a++B) scope N C Q) g (LV a.length A5 σ) H D:=by
 have ok:(X.block AA s H (a++B) scope N C Q).Ok:=by
  refine{I.ok.mod,S.kind,I.ok.glob,I.ok.blt,O,λx y c h1 h2=>I.ok.inj x y c (E x c h1) (E y c h2),λx hx=>?_,λx c z t=>(by cases z),I.ok.hd,I.ok.frames,.inl rfl,λb w=>{(bm<|ω (T b w) O),λx c e=>(hf b w).2.2.2.2.1 x c (E x c e)},I.bs,υ I.ok.bsz I.sz,λb o e w=>?_,λb w=>I.stkne (hf b w).2.1 (hf b w).2.2.1,I.stack,I.stkFree};let z||z:=sA  hx
  exact cw.mp<|HK _ z rfl;exact absurd rfl<|S.nocell _ z;let z||z:=(hf b w).2.2.2.1
  exact I.ok.noex b o e z;exact absurd (ω (av e) (υ I.ok.bsz z)) (ji _)
 refine{ok,U,by rw[hg];exact I.bare,Un.kept k,?_,λx c e=>?_,I.hok.fresh O,λx c e=>I.freeC x c<|E x c e,λp hp'=>?_,I.hok.kept k,?_};let[m,hm]:=Y;refine{m,hm,λi x v h1 h2 h3=>?_}
 have hi:a.length<=i:=by
  let z||z:=ee i _
  unfold LV at h2;rw[bc (by simpa using z),xv]at h2;split at h2<;>cases h2;exact z
 unfold LV at h2;rw[b_ (by simpa using hi),uc,ψ]at h2
 have A:B[i-a.length]? =some x:=by
  have:(a++B)[i]? =some x:=h1
  rwa [b_ hi]at this
 cases hq:A5[i-a.length]? with
 |none=>rw[hq]at h2;cases h2
 |some j =>
  rw[hq]at h2
  have hj:X.N[j]? =some x:=by
   have:=congrArg (λl=>l[i-a.length]?) S.caps;simp only[ψ,hq,A]at this;exact μ this
  have hv:σ[j]? =some (some v):=by
   cases hs:σ[j]? with
   |none=>simp[hs]at h2
   |some y=>simp only[mf,hs]at h2;obtain rfl:=μ h2;rfl
  have L:=PySem.mem_of_lookup<|S.drawn x<|θ A;let[m0,t,hl0]:=I.loc
  have J:=S.free _ L rfl;let[u,r,q]:=hl0 j x v hj hv<|J.elim (λz=>.inr<|.inl z) λz=>.inr<|.inr z;refine{u,r,.inr {r8<|S.drawn x<|θ A,?_}};let[kl,_]||[_,c,hc,z]:=q
  let J||J:=J<;>(rw[kl]at J;cases J)
  let[c',M]:=cw.mp<|HK _ L rfl
  have:=E _ _ M;rw[hc]at this;obtain rfl:=μ this;exact{c,M,z.keeps k}
 let[v,z]:=I.cell x c<|E x c e;exact{v,z.keeps k};let z||z:=bh.mp hp'
 let[e,n,ne,nf,d]:=I.pin p z;exact{k _ _ e,n,bm<|ω (av e) O,I.stkne ne nf,d};exact hp p z;unfold LV
 have:=congrArg f_ S.caps
 show _=(a++B).length;simp only[ε]at this;simp[this]
end
def CQ:TT:=λ_ H Q=>Q true H
def LW(X:Cx)(d:wF)(t:TT):Prop :=
 ∀ (b:eB) (s:ν) (a:St) (H:Hp) (Q:zC),Inv X b a H s->t a H Q ->
  wpAny (model X.prog X.w) X.A (forIn d true λc r=>if r=true then do let ok ← Ka c X.env (eval c X.env);pure (jc ok)else pure (jc r)) (TP X b a Q) X.xe s
def zco:LW X [] CQ:=λa s b H Q I h=>wpAny_tests_nil ⟨H,I,h⟩
def zcp(h:PT X c t):LW X [c] t:=λb s a H Q I q=>wpAny_tests_one<|h _ s a H Q I q
def zcq(o:Nat->ν->Prop)
  (p:∀ n s,o n s->wpAny (model prog w) A (zb it) (λr a=>match r with
   |none=>R (.ok .next) a
   | some v=>wpAny (model prog w) A (yr target it v) (λ_ d=>wpAny (model prog w) A (Kf target env v) (λ_ e =>
     wpAny (model prog w) A (forIn B true λc r=>if r=true then do let ok ← Ka c env (eval c env);pure (jc ok)else pure (jc r)) (λok b =>
      if ok=true then wpAny (model prog w) A (eval D env) (λx g =>
       wpAny (model prog w) A (call (.builtin "list.append") [E,x]) (λ_ i=>∃ m,m<n/\o m i) (λ_ _=>False) g) (λ_ _=>False) b
      else ∃ m,m<n/\o m b) (λ_ _=>False) e) (λ_ _=>False) d) (λ_ _=>False) a) (λ_ _=>False) s)
  (n:Nat) (h:o n s):ut (model prog w) A (.compLoop (.ListComp D [{target,iter,B,0}] scope pos) 0 it E env) R s:=by
 refine codeAny_loop rfl o (λH I J=>(wpAny_noted<|wpAny_noRaise<|δ<|Ao<|δ<|AU (p H I J) λr a j=>?_)) n h;cases r with
 |none=>exact ρ j
 |some v =>
  refine δ<|AU j λ_ d q=>(δ<|AU q λ_ e u=>δ<|AU u λok b l=>?_);cases ok with
  |false=>exact ρ ⟨rfl,l⟩
  |true=>exact δ<|δ<|AU l λL g y=>δ<|AU y λ_ i z=>ρ<|ρ ⟨rfl,z⟩
def BY(n:TI)(g:TG)(o:TT)(q:TE)(k:Nat)(r:wH):TE:=λe H Q=>n e H λJ s =>
 ∃ W:Nat->Nat->St->eI->Hp->Prop,(∃ m,W 0 m (LV k r e) [] s)/\∀ i m c ys H,W i m c ys H ->
  (J.stop i H/\∀ p,H p=none->Q (.ref p) (upd H p<|.lst ys)) ∨
  (J.go i H/\ys.length<sizeLine/\∀ x H',J.yld i H x H'->g x c H' λa u=>o a u λb j =>
   if b=true then ∃ N:VK,(∀ y l,N y l->∃ d,d<m/\W (i+1) d a (ys++[y]) l)/\q a j N else ∃ d,d<m/\W (i+1) d a ys j)
structure CompDone(X:Cx)(fp:eF)(H:Hp)(s:ν)(Q:VK)(BW:Value)(C:Addr)(r:Result)(s':ν):Prop where
 ok:r=.ok .next
 ex:∃ (D:Addr) (ys:eI) (AK:wE) (n:Nat) (H':Hp),BW=.ref D/\Vals ys AK/\ys.length<=sizeLine/\s'.heap.get? D=some { cls:=.type "list",data:=.seq AK.toArray n }/\s.heap.objs.size<=D/\D≠C/\H' D=none/\H' C=none ∧
  (∃ m,s'.heap.Ns C m)/\Un (EK X.stack) fp H H' s.heap s'.heap/\HOk X.prog X.w H' s'.heap/\∀ p,H' p=none->Q (.ref p) (upd H' p<|.lst ys)
 ge:s.heap.objs.size<=C
 os:s'.os=s.os
 bare:s_ s'.gens
section
variable{X:Cx}{AA:eB}{σ:St}{H:Hp}{s:ν}
def sB {scope:Scope} {tt:TT} {te:TE} {U cn:eG} {M:List (Str × Addr)} {tn':Nat->Heap->Prop} {J:It} {Q:VK} {E:yC}
    (I:Inv X AA σ H s) (S:KP X scope U cn A5) (hc:X.calm=true)
    (BL:∀ x c,M.lookup x=some c->X.env.cells.lookup x=some c) (HK:∀ x∈scope.names,x.2=.free->(M.lookup x.1).isSome=true)
    (T:LK X.prog X.w X.K tg J l it tn') (st:tn' 0 s.heap) (hf:∀ b∈l,FpOk X AA H b)
    (hg:∀ C,PG (X.block AA s H (U++cn) scope M C l) tg g) (ht:∀ C,LW (X.block AA s H (U++cn) scope M C l) E9 tt) (he:∀ C,PE (X.block AA s H (U++cn) scope M C l) E8 te)
    (W:Nat->Nat->St->eI->Hp->Prop) (w0:W 0 m0 (LV U.length A5 σ) [] H)
    (step:∀ i m Y ys H,W i m Y ys H ->
      (J.stop i H/\∀ p,H p=none->Q (.ref p) (upd H p<|.lst ys)) ∨
      (J.go i H/\ys.length<sizeLine/\∀ x H',J.yld i H x H'->g x Y H' λσ2 H2=>tt σ2 H2 λb H3 =>
        if b=true then ∃ N:VK,(∀ y H4,N y H4->∃ m',m'<m/\W (i+1) m' σ2 (ys++[y]) H4)/\te σ2 H3 N else ∃ m',m'<m/\W (i+1) m' σ2 ys H3)) :
    wpAny (model X.prog X.w) X.A (newList []) (λBW A=>wpAny (model X.prog X.w) X.A (newFunctionEnv scope X.env.globals M [] X.env.qual none .none (some X.env)) (λcenv s₄ =>
      ut (model X.prog X.w) X.A (.compStart (.ListComp E8 [{tg,iter,E9,0}] scope pos) 0 (.ref it) BW { cenv with scope:=relabel scope X.env }) (CompDone X l H s Q BW cenv.locals) s₄) E A) E s:=by
  refine fu (wpAny_newFunctionEnv S.nocell (by intro y hy;simp at hy) (λB w a=>?_) S.kind);generalize hH2:s.heap.push _=H2 at w a ⊢;generalize hCe:H2.objs.size=C at w a ⊢
  have hC:=hCe.symm.trans (by rw[<-hH2,ze]);generalize hD:s.heap.objs.size=D at *
  have hDC:D≠C:=by rw[hC];exact bm<|fh _
  have old:∀ b o,s.heap.get? b=some o->B.get? b=some o:=λb o e=>by
    have j:b<D:=by rw[<-hD];exact av e
    exact a.extBut b o (FS j (by rw[hC];exact jj _)) (ξ _<|hH2 ▸ ξ _ e)
  have hDo:B.get? D=some { cls:=.type "list",data:=.seq ([]).toArray }:=by
    refine a.extBut _ _ hDC<|ξ _ ?_;rw[<-hH2,<-hD];exact aj _ rfl
  have hDs:=λz=>FS (I.stklt z) (ba hD) rfl
  have hfl:∀ b∈l,b<s.heap.objs.size:=λb j=>by
    let[o,e,_]:=T.obj 0 _ st b j;exact av e
  have I0:Inv _ [(D,{ cls:=.type _,data:=.seq _ 0 })] _ H { s with heap:=B,toks:=s.toks+([]:cB).length } :=
    I.block S BL HK hf hfl (by lia) old rfl rfl ⟨_,w⟩ λp O=>by
      rw[aa]at O;subst O;exact{hDo,(by rw[<-hD];exact I.hok.fresh<|π _),hDC,hDs,λv z=>nomatch z}
  have st1:=T.keep _ _ _ st λb _ o e=>old b o e
  have fpok:∀ {H':Hp} {o:Obj},(∀ b∈l,H' b=none)->∀ b∈l,FpOk (X.block AA s H (U++cn) scope M C l) [(D,o)] H' b:=λ{H' o} hn b j=>by
    let[_,f1,f2,f3,f4,f5]:=hf b j
    have hbl:=hfl b j;refine{hn b j,?_,I.stkne f1 f2,.inl j,λx c e=>f4 x c<|BL x c e,λp O=>?_}
    ·exact FS hbl (by rw[hD,hC];exact jj _)
    · let z||z:=bh.mp O
      ·exact f5 p z
      ·rw[aa]at z;subst z;exact fg<|FS hbl<|ba hD
  have loop:∀ A:ν,A={ s with heap:=B,toks:=s.toks+([]:cB).length } ->
      ut (model X.prog X.w) X.A (.compLoop (.ListComp E8 [{tg,iter,E9,0}] scope pos) 0 (.ref it) (.ref D) (compEnvC scope M C X.env)) (CompDone X l H s Q (.ref D) C) A:=by
    rintro A rfl;refine zcq (λn s'=>∃ i Y ys AK nn H',Inv (X.block AA s H (U++cn) scope M C l) [(D,{ cls:=.type "list",data:=.seq (AK:wE).toArray nn })] Y H' s'/\tn' i s'.heap/\(∀ b∈l,H' b=none)/\Vals ys AK/\ys.length<=sizeLine/\W i n Y ys H') ?_ m0
      {0,_,[],[],0,H,I0,st1,λb j=>(hf b j).1,.nil,bt _,w0}
    intro n s4 [i,σ4,ys,AK,nn,H4,I4,st4,fr4,r4,l4,w4];let[stop,qn]||[go,A0,next]:=step i n σ4 ys H4 w4
    · refine AU (T.done (X.block AA s H (U++cn) scope M C l) rfl rfl rfl hc i _ s4 σ4 H4 _ I4 (fpok fr4) st4 stop) λr s5 d=>?_
      let[hr,I5]:=d;subst hr
      have O:=I5.pin (D,_) (ci _ χ);let[m5,hm5,_]:=I5.loc;exact{rfl,x5 D ys AK nn H4 {rfl,r4,l4,O.1,ba hD,hDC,O.2.1,I5.free,⟨m5,hm5⟩,I5.base,I5.hok,qn},by lia,I5.os,I5.bare}
    · refine AU (T.item (X.block AA s H (U++cn) scope M C l) rfl rfl rfl hc i _ s4 σ4 H4 _ I4 (fpok fr4) st4 go) λr s5 d=> ?_
      let[u,hr,h5]:=d;subst hr;refine AU h5 λ_ s6 d=>?_;let[x,H6,I6,r6,y6,st6,fr6]:=d
      have I6':=I6.pinned (fpok fr6) (T.obj _ _ st6);refine AU (hg C _ s6 σ4 H6 x u _ I6' r6<|next x H6 y6) λ_ s7 d=>?_;let[σ7,H7,I7,q7]:=d;refine AU (ht C _ s7 σ7 H7 _ I7 q7) λok s8 d=>?_;let[H8,I8,q8]:=d
      have L:∀ {σ9:St} {H9:Hp} {s9:ν},Inv (X.block AA s H (U++cn) scope M C l) ([(D,{ cls:=.type "list",data:=.seq AK.toArray nn })]++T9 l s6.heap) σ9 H9 s9->(∀ b∈l,∀ o,s6.heap.get? b=some o->s9.heap.get? b=some o)/\∀ b∈l,H9 b=none:=λ{σ9 H9 s9} I9=>by
        refine{λb j o e=>(I9.pin (b,o) (ci _<|ci _<|UA j e)).1,λb j=>?_};let[o,e,_]:=T.obj _ _ st6 b j;exact(I9.pin (b,o) (ci _<|ci _<|UA j e)).2.1
      cases ok with
      |false =>
        let[m',hm',w']:=q8;let[k1,k2]:=L I8;exact{m',hm',x6 (i+1) σ7 ys AK nn H8 {I8.unpinned,T.keep _ _ _ st6 k1,k2,r4,l4,w'}}
      | true =>
        let[Nw,hN,q8]:=q8;refine AU (he C _ s8 σ7 H8 Nw I8 q8) λv s9 d=>?_;let[y,H9,I9,r9,n9]:=d;let[m',hm',w']:=hN y H9 n9;let[k1,k2]:=L I9
        have O:=I9.pin (D,_) (ci _<|fz _ χ)
        have e:=O.1
        have CK:=r4.length;refine ik F.slot_list_append ⟨_,e,rfl⟩ F.entry_list_append (F.args_list_append_2 _ _) (PySem.list_append D AK.toArray nn v (by rw[aw];exact oB (cg (ba CK.symm) A0) rfl)) {e,?_}
        have q:=PySem.IsL.update e<|λxs=>xs.push v
        have Ia:Inv (X.block AA s H (U++cn) scope M C l) [] σ7 H9 s9:=I9.pins_of λp O=>nomatch O
        have Ib:=Ia.turned (h':=s9.heap.update D (lw (·.push v))) (t':=s9.toks) (it:=D) (λb o j eb=>(cy _ _<|fg j).trans eb) O.2.1 hDC (.inr (by show s.heap.objs.size<=D;exact ba hD))
          (λx c ec z=>by
            let[vv,zc]:=I.cell x c<|BL x c ec;exact FS zc.lt (ba hD) z)
          (λp hp'=>by
            rw[iq]at hp';exact FS (I.pinlt hp') (ba hD))
        have q':(s9.heap.update D (lw (·.push v))).get? D=some { cls:=.type "list",data:=.seq (AK++[v]).toArray (nn+1) }:=by
          rw[if_neg (by simp)]at q;rw[<-List.push_toArray];exact q
        refine{m',hm',x6 (i+1) σ7 (ys++[y]) (AK++[v]) (nn+1) H9 {Ib.pins_of<|λp hp'=>?_,T.keep _ _ _ st6 λb j o eb=>?_,k2,r4.append<|.cons r9 .nil,?_,w'}}
        · rw[aa]at hp'
          subst hp';exact{q',O.2.1,hDC,hDs,λv' z=>nomatch z}
        · have hbl:=hfl b j
          exact(cy _ _<|fg<|FS hbl<|ba hD).trans (k1 b j o eb)
        · rw[ae,ix]
          exact A0
  exact codeAny_compStart_list (loop _ rfl) (T.self _ 0 _ _ _ st1<|loop _ rfl)
def CompDone.inv{Q:VK}{g:ν}(I:Inv X AA σ H s)(hf:∀ b∈p,FpOk X AA H b)(h:CompDone X p H s Q v C r g) :
  ∃ D H',v=.ref D/\Inv X AA σ H' g/\Q (.ref D) H'/\H' C=none/\∃ m,g.heap.Ns C m:=by
 let[z,[D,ys,O,n,H',rfl,w,y,e,l,i,d,j,A,u,ok,q],T,os,bare]:=h
 have c:∀ b o,H b=some o->b≠D:=λb o a=>FS (I.hok.lt a) l;refine x2 D (upd H' D<|.lst ys) {rfl,I.call'  os {u.keep,u.slot,λb o a B E=>?_,u.there,λb xs a=>?_,λb o x a=>?_,λb ps a=>?_} (ok.track d {y,x2 _ n ⟨w,e⟩}) bare (λb J=>?_),q D d,?_,A};rw[AJ ((λb o a=>FS (av a) l) b o a)];exact u.free b o a B E;rw[AJ (c b _ a)];exact u.tups b xs a;rw[AJ (c b _ a)];exact u.frzs b o x a;rw[AJ (c b _ a)];exact u.tbls b ps a;let[z,f1,f2,L,M,N]:=hf b J;exact⟨L,f1,M,N⟩;rw[AJ (fg i)];exact j
def Inv.letgo{d:ν}(I:Inv X AA σ H s)(a:s.heap.objs.size<=C)(j:Inv X AA g i d)(l:i C=none)(hs:gz C d.heap h'):Inv X AA g i { d with heap:=h' }:=by
 refine j.turned   (λb o n e=>(hs.2 b n).trans e) l (λz=>(FS I.lt a z.symm)) (.inr<|υ I.sz a) (λx c e z=>?_) λp q z=>(FS (I.pinlt q) a z)
 let[v,r]:=I.cell x c e;exact FS r.lt a z
variable{tg iter E8:Expr}{E9:wF}{scope:Scope}{pos:Pos}{wi:TI}{g:TG}{tt:TT}{te:TE}{tn cn:eG}{A5:wH}
def zcr(S:KP X scope tn cn A5)(p:X.calm=true)(q:PI X tg iter wi)
  (u:∀ AA s H a C b,PG (X.block AA s H (tn++cn) scope a C b) tg g) (w:∀ AA s H a C b,LW (X.block AA s H (tn++cn) scope a C b) E9 tt) (he:∀ AA s H a C b,PE (X.block AA s H (tn++cn) scope a C b) E8 te)
  (hs:∀ x,mx iter X.env x=pure x:=by intro z;rfl):PE X (.ListComp E8 [{tg,iter,E9,0}] scope pos) (BY wi g tt te tn.length A5):=by
 intro AA s σ H Q I h;let[a,d,y,A]:=rZ   λx B e=>I.ok.has _<|S.free x B e;refine xj  rfl hs d S.kind S.names (AU (q _ s σ H _ I h) λv s1 h1=>AU h1 λE s2 h2=>?_);revert h2;apply u5;intro it b L J H2 [rfl,i,T,j,f2,W,[m0,M],c];refine AU (sB i S p y A T j f2 (λC=>u _ _ _ _ C _) (λC=>w _ _ _ _ C _) (λC=>he _ _ _ _ C _) W M c) λBW s3 h3=>AU h3 λo s4 h4=>lq h4 λr s5 h5=>?_
 have N:=h5.ok;subst N;refine u2 ?_<|h5.inv i f2;intro D H' [rfl,O,U,l,m,Y];exact{m,Y,λh' n=>x2 (.ref D) H' {i.letgo h5.ge O l n,rfl,U}}
def zcs{x:Str}{E b:Pos}(S:KP X scope tn cn A5)(M:X.calm=true)(O:X.N.Nodup)(n:X.N[i]? =some x)(l:X.env.scope.names.lookup x=some .local)(U:PI X tg iter wi)
  (Y:∀ AA s H c C d,PG (X.block AA s H (tn++cn) scope c C d) tg g) (ht:∀ AA s H c C d,LW (X.block AA s H (tn++cn) scope c C d) E9 tt) (he:∀ AA s H c C d,PE (X.block AA s H (tn++cn) scope c C d) E8 te)
  (o:vn (.ListComp E8 [{tg,iter,E9,0}] scope pos) (some<|.Name x E) b.line X.env=pure true:=by rfl)
  (hs:∀ x,mx iter X.env x=pure x:=by intro y;rfl):PS X (.Assign [.Name x E] (.ListComp E8 [{tg,iter,E9,0}] scope pos) b) (AO (BY wi g tt te tn.length A5) (AF i)):=by
 intro AA s σ H D I h;let[c,p,BL,HK]:=rZ   λx l q=>I.ok.has _<|S.free x l q;rw[exec_Assign_Name_used _ _ _ _ o];refine δ<|Ao<|δ<|δ<|xj  rfl hs p S.kind S.names (AU (U _ s σ H _ I h) λv s1 h1=>AU h1 λitv s2 h2=>?_);revert h2;apply u5;intro it d tn' J H2 [rfl,e,T,u,f2,W,[m0,w0],j];refine AU (sB (Q:=λx' H1=>AF i x' σ H1 _) e S M BL HK T u f2 (λC=>Y _ _ _ _ C _) (λC=>ht _ _ _ _ C _) (λC=>he _ _ _ _ C _) W w0 j) λBW s3 h3=>AU h3 λL s4 h4=>lq h4 λr s5 h5=>?_
 have hr:=h5.ok;subst hr;refine u2 ?_<|h5.inv e f2;intro Da H' [rfl,I5,q5,w,m,hm];refine B_<|pP I5 O n (.inl l) (show RelV (.ref Da) _ from rfl) (λs6 I6 ⟨a,A,ha⟩=>{m,hm.sameBut A ?_,λh' B=>(ρ<|ρ<|x2 _ H' {e.letgo h5.ge I6 w B,q5})}) (.inr l);let z||z:=ha
 exact fg<|z ▸ FS e.lt h5.ge;let[vv,zc]:=e.cell x a z;exact fg<|FS zc.lt h5.ge
end
def ObjOk.there(x:ObjOk P w H h a o):∃ ob,h.get? a=some ob:=by
 cases o with
 |lst xs=>let[z,z,z,z,e]:=x;exact⟨_,e⟩
 |tup xs=>let[z,z,z,ob,e,z]:=x;exact⟨_,e⟩
 |dK kvs=>let[z,z,z,z,ob,z,z,e,z]:=x;exact⟨_,e⟩
 |dT kvs=>let[z,z,z,z,ob,z,z,e,z]:=x;exact⟨_,e⟩
 |set S n=>revert x;apply u4;intro ob z z z [e,z];exact⟨_,e⟩
 |ins C b fs=>let[z,z,z,e,z]:=x;exact⟨_,e⟩
 |own y=>exact x
 |xd fs=>let[z,[ob,z,z,e,z],z]:=x;exact⟨_,e⟩
 |rng lo c=>revert x;apply u3;rintro z z z e;exact⟨_,e⟩
 |frz ob u=>let[e,z]:=x;exact⟨_,e⟩
 |tbl ps=>exact⟨_,x⟩
 |met f y=>exact⟨_,x⟩
 |ext d =>exact x.2.1
def HOk.nh(x:HOk P w H h)(e:h.get? a=none):H a=none:=by
 cases q:H a with
 |none=>rfl
 |some o =>
  let[ob,b]:=(x a o q).there;rw[e]at b;cases b
section
variable{X:Cx}{AA:eB}{σ:St}{H H':Hp}{s:ν}{h':Heap}
def Inv.stepN{O:Array Bu}{t':Nat}{Y:Drawn}{ch:eF}(I:Inv X AA σ H s)
  (E:∀ b∈ch,(b∈X.ex\/X.s₀.heap.get? b=none)/\b≠X.env.locals/\(∀ x c,X.env.cells.lookup x=some c->c≠b)/\∀ p∈X.pn++AA,p.1≠b)
  (keep:∀ b o,b≠X.env.locals->b∉X.fs->b∉ch->s.heap.get? b=some o->H b=none->h'.get? b=some o)
  (slot:∀ b o,b≠X.env.locals->b∈X.fs->b∉ch->s.heap.get? b=some o->H b=none->∃ N,h'.get? b=some { o with slots:=N }) (free:∀ b o,b∉ch->s.heap.get? b=some o->H b=none->H' b=none)
  (there:∀ b o,b∉ch->s.heap.get? b=some o->∃ J,h'.get? b=some J)
  (tups:∀ b xs,H b=some (.tup xs)->H' b=some (.tup xs)) (frzs:∀ b o u,H b=some (.frz o u)->H' b=some (.frz o u)) (tbls:∀ b ps,H b=some (.tbl ps)->∃ more,H' b=some (.tbl<|ps++more))
  (ns:∀ m,s.heap.Ns X.env.locals m->h'.Ns X.env.locals m) (hok:HOk X.prog X.w H' h') (hg:s_ O) :
  Inv X AA σ H' { s with heap:=h',gens:=O,drawn:=Y,toks:=t' }:=by
 have L:∀ b o,X.s₀.heap.get? b=some o->b≠X.env.locals:=λb o e=>bm<|ω (av e) I.ok.above
 have w:∀ b o,X.s₀.heap.get? b=some o->b∉X.ex->b∉ch:=λb o e a B=>by
  let z||z:=(E b B).1
  exact a z;rw[e]at z;cases z
 have g:∀ x c,X.env.cells.lookup x=some c->∀ v,s.heap.IsCell c v->h'.IsCell c v:=λx c e v ⟨o,D,hd⟩=>by
  have j:=λz=>(E c z).2.2.1 x c e rfl;by_cases Q:c∈X.fs;let[N,q]:=slot c o (I.cne x c e) Q j D (I.freeC x c e);exact⟨_,q,hd⟩;exact{o,keep c o (I.cne x c e) Q j D (I.freeC x c e),hd}
 refine{I.ok,I.os,hg,{λb o e n B a=>(keep b o (L b o e) B (w b o e a) (I.base.keep b o e n B a) (I.base.free b o e n a)),λb o e n B a=>?_,λb o e n a=>?_,λb o e a=>?_,λb xs e=>tups b xs<|I.base.tups b xs e,λb o xs e=>frzs b o xs<|I.base.frzs b o xs e,λb ps e=>?_},?_,λx c e=>?_,?_,λx c e=>?_,λp T=>?_,hok,I.len};let[N,A]:=I.base.slot b o e n B a;let[sl',M]:=slot b _ (L b o e) B (w b o e a) A (I.base.free b o e n a);exact⟨_,M⟩;let[J,A]:=I.base.there b o e a;exact free b J (w b o e a) A (I.base.free b o e n a);let[J,A]:=I.base.there b o e a;exact there b J (w b o e a) A;let[m1,A]:=I.base.tbls b ps e;let[m2,M]:=tbls b _ A;exact{_,by rw[M,Be]};let[m,hn,hl]:=I.loc;refine{m,ns m hn,λi x v A M e3=>?_};let[u,r,l]:=hl i x v A M e3;refine{u,r,?_};let l||[k,c,e,z]:=l
 exact .inl l;exact .inr {k,c,e,g x c e _ z};let[v,z]:=I.cell x c e;exact{v,g x c e v z};let[m,[o,y,y,D,y],y]:=I.loc;exact free _ o (λz=>(E _ z).2.1 rfl) D I.free;let[v,o,D,hd]:=I.cell x c e;exact free c o (λz=>(E c z).2.2.1 x c e rfl) D (I.freeC x c e)
 have j:=λz=>(E _ z).2.2.2 p T rfl;let[e,n,ne,U,d]:=I.pin p T;exact{keep _ _ ne U j e n,free _ _ j e n,ne,U,d}
end
abbrev _root_.yE:=Addr->Prop
structure Fly(bad:yE)(H:Hp)(h:Heap)(e:Addr)(cls:Value):Prop where
 nb:¬ bad e
 free:H e=none
 ex:∃ (oe:Obj) (vs:Array Value),h.get? e=some oe/\oe.cls=cls/\oe.dict=none/\oe.data=.fields vs/\(vs[1]? =some .none ∨
  ∃ (T:Addr) (oT:Obj) (ts:Array Value),vs[1]? =some (.ref T)/\¬ bad T/\H T=none/\T≠e/\h.get? T=some oT/\oT.data=.fields ts/\ts[3]? =some .none)
def Fly.mono(F:Fly bad H h e cls)(k:∀ a,d a->bad a):Fly d H h e cls:=by
 let[g,fr,i,vs,h1,h2,h3,h4,h5]:=F;refine{λz=>g<|k _ z,fr,x2 i vs {h1,h2,h3,h4,?_}};let z||[T,j,l,a,b,c]:=h5
 exact .inl z;exact .inr<|x3 T j l {a,λz=>b<|k _ z,c}
section
variable{M:Model}{A:de}{E:yC}{s:ν}
def sC
  (D:A.frames=some (env::outer)) (r:s.heap.FunFrames base (env::outer)) (hf:env.frame=some L) (he:s.heap.get? e=some u) (d:u.data=.fields vs) (hsz:1<vs.size)
  (h:∀ h' T v w,(∀ b o,s.heap.get? b=some o->b≠e->b∉EK (env::outer)->h'.get? b=some o)->(∀ b o,s.heap.get? b=some o->b≠e->∃ n,h'.get? b=some { o with slots:=n }) ->
   h'.get? e=some (u.mapFields (·.setIfInBounds 1 (.ref T)))->s.heap.objs.size<=T->h'.get? T=some v->v.data=.fields w->w[3]? =some (lx L)->Q () { s with heap:=h' }) :
  wpAny M A (do let a ← frameOf env;let l ← entryPlaceOf L nx;let b ← EntryCells.newEntry hd a .none (lx L) .none l;setField (.ref e) 1 b) Q E s:=by
 have p:e∉(env::outer).filterMap _:=λz=>by
  let[y,o,x,H]:=r.mem z;rw[he]at x;obtain rfl:=μ x;exact H vs d
 refine δ<|wpAny_frameOf_fun D r hf λh1 c=>(δ<|wpAny_entryPlaceOf λl B=>(δ<|fu ?_<|B.sizeOk5 _ _ _ _ _))
 have g:=(c.2.1 e p).trans he
 have keep:∀ b o,b≠e->h1.get? b=some o->((h1.push { cls:=.type "traceback",dict:=none,data:=.fields ([hd,.ref L,.none,lx L,.none]++(if l.isEmpty then az 6 ki else l)).toArray }).update e (xk (·.setIfInBounds 1 (eq h1.objs.size)))).get? b=some o:=λb o i j=>by
  rw[cy _ _ (fg i)];exact ξ _ j
 refine t9 (ξ _ g) d hsz ?_;refine h _ _ _ _ (λb o j i q=>keep b o i<|(c.2.1 b q).trans j) (λb o j i=>?_) (d_ _ (ξ _ g) (ud<|jo d _)) (by rw[c.1];exact π _)
  ((cy _ _<|fg<|i_<|av g).trans (aj _ rfl)) rfl ?_
 let[n,I]:=c.2.2 b o j;exact{n,keep b _ i I}
 first|(done)|(let rfl||[_,_,_,_,_,_,_,rfl]:=B<;>simp)
structure YC(fr:eF)(bad:yE)(H:Hp)(e:Addr)(cls:Value)(h h':Heap):Prop where
 ch:∃ ch:eF,(∀ b∈ch,¬ bad b/\H b=none/\∃ o vs,h.get? b=some o/\o.data=.fields vs)/\(∀ b o,h.get? b=some o->b∉ch->b∉fr->h'.get? b=some o) /\
  (∀ b o,h.get? b=some o->b∉ch->∃ sl,h'.get? b=some { o with slots:=sl })
 fly:Fly bad H h' e cls
def sD
  (QK:A.frames=some (env::outer)) (hl:s.heap.FunFrames base (env::outer)) (hf:env.frame=some L) (F:Fly bad H s.heap e cls) (hb:∀ a,s.heap.objs.size<=a->¬ bad a) (hH:∀ a,s.heap.objs.size<=a->H a=none)
  (h:∀ h',YC (EK (env::outer)) bad H e cls s.heap h'->Q () { s with heap:=h' }) :
  wpAny M A (Jt (.ref e) env) (λy s2=>wpAny M A2 (Fs (.ref e) none) Q E2 s2) E s:=by
 let[nb,fr,oe,vs,he,XQ,XO,hd,htb]:=F
 have rest:∀ (w:ν) (ch:List _) (h':Heap) (T:Addr) (r:Obj) (u:Array _) (i:Obj),(∀ b o,s.heap.get? b=some o->w.heap.get? b=some o\/b∈ch)->w.heap.objs.size=s.heap.objs.size->e∈ch->(∀ b∈ch,¬ bad b/\H b=none/\∃ o vs,s.heap.get? b=some o/\o.data=.fields vs) ->
   i.cls=cls->i.dict=none->i.data=.fields vs->1<vs.size ->
   (∀ b o,w.heap.get? b=some o->b≠e->b∉EK (env::outer)->h'.get? b=some o)->(∀ b o,w.heap.get? b=some o->b≠e->∃ sl,h'.get? b=some { o with slots:=sl }) ->
   h'.get? e=some (i.mapFields (·.setIfInBounds 1 (.ref T)))->w.heap.objs.size<=T->h'.get? T=some r->r.data=.fields u->u[3]? =some (lx L)->wpAny M A2 (Fs (.ref e) none) Q E2 { s with heap:=h' }:=by
  intro w ch h' T r u i I hsz p DV v l J q k1 k2 B N D g h3
  have n:=hsz ▸ N
  have O:=fg<|FS (av he) n
  have U:=jo J (·.setIfInBounds 1 (eq T))
  have Y:=(il.mp h3).1;refine δ (jb B U (x:=.ref T) (by simp[q]) (t9 D g Y<|h _ ?_))
  have oth:∀ b,b≠T->(h'.update T (xk (·.setIfInBounds 3 ((none:Option Addr).elim ki λf=>lx f)))).get? b=h'.get? b:=λb c=>cy _ _<|fg c
  have ltT:∀ b o,s.heap.get? b=some o->b≠T:=λb o d=>FS (av d) n;refine{{ch,DV,λb o d j hbf=>?_,λb o d j=>?_},nb,fr,y2 {(oth e<|fg O).trans B,(Obj.cls_mapFields _ _).trans v,?_,U,.inr (x3 T _ _ {by simp[q],hb T n,hH T n,O,d_ _ D<|ud<|jo g _,jo g _,by simp[Y]})}};rw[oth b (ltT b o d)];let z||z:=I b o d
  exact k1 b o z (λz'=>j<|z' ▸ p) hbf;exact absurd z j;rw[oth b (ltT b o d)];let z||z:=I b o d
  exact k2 b o z<|λz'=>j<|z' ▸ p;exact absurd z j;let[c1,c2,c3,c4]:=i;subst J;exact l
 unfold Jt;simp only[hf];let h1||[T0,oT0,ts0,h1,nbT,frT,neT,eT,dT,h3]:=htb
 have q:=(il.mp h1).1;refine δ<|jb he hd h1 ?_;exact sC QK hl hf he hd q λh' T r u k1 k2 B N D g h3=>(rest s [e] h' T r u oe (λb o d=>.inl d) rfl (by simp) (λb c=>by rw[aa]at c;subst c;exact{nb,fr,x2 oe vs ⟨he,hd⟩}) XQ XO hd q k1 k2 B N D g h3)
 have q:=(il.mp h1).1;refine δ<|jb he hd h1 ?_;refine δ<|jb eT dT h3 ?_;refine δ<|t9 eT dT (il.mp h3).1 ?_
 have oth:∀ b,b≠T0->(s.heap.update T0 (xk (·.setIfInBounds 3 ki))).get? b=s.heap.get? b:=λb c=>cy _ _<|fg c;refine sC QK (hl.of_keeps λb o d hn=>{o,(oth b ((λb o d hn z=>by rw[z,eT]at d;obtain rfl:=μ d;exact hn _ dT) b o d hn)).trans d,rfl}) hf ((oth e<|fg neT).trans he) hd q λh' T r u k1 k2 B N D g h3'=>?_;exact rest _ [e,T0] h' T r u oe
  (λb o d=>by
   by_cases z:b=T0;exact .inr (by simp[z]);exact .inl<|(oth b z).trans d)
  (Heap.size_after_update ..) (by simp)
  (λb c=>by
   let z||z:=af.mp c
   subst z;exact{nb,fr,x2 oe vs ⟨he,hd⟩}
   ·rw[aa]at z;subst z;exact{nbT,frT,x2 oT0 ts0 ⟨eT,dT⟩})
  XQ XO hd q k1 k2 B N D g h3'
end
def Cx.bad(X:Cx)(b:eB):Addr->Prop:=λa=>X.s₀.heap.get? a≠none\/∃ p∈X.pn++b,p.1=a
structure XOk(X:Cx)(E:St->XK):Prop where
 po:Ji (model X.prog X.w) X.A X.env X.xe
 ex:X.ex=[]
 calm:X.calm=true
 go:∀ (AA:eB) (σ:St) (H:Hp) (s:ν) (e:Addr) (cls:Value),Inv X AA σ H s->Fly (X.bad AA) H s.heap e cls->E σ cls none H->X.xe (.ref e) s
section
variable{X:Cx}{AA:eB}{σ:St}{H:Hp}{s:ν}
def Inv.notbad(I:Inv X AA σ H s)(b:X.ex=[])(h:s.heap.get? a=none):¬ X.bad AA a:=λz=>by
 let z||[p,c,rfl]:=z
 cases q:X.s₀.heap.get? a with
 |none=>exact z q
 |some o =>
  let[d,e]:=I.base.there a o q (by rw[b];simp);rw[h]at e;cases e
 have:=(I.pin p c).1;rw[h]at this;cases this
def sE{h:Heap}(z:h.objs.size<=a):h.get? a=none:=by
 cases q:h.get? a with
 |none=>rfl
 |some o=>exact absurd (ω (av q) z) (ji _)
def Inv.noted{e:Addr}{cls:Value}{h':Heap}(I:Inv X AA σ H s)(N:YC (EK X.stack) (X.bad AA) H e cls s.heap h'):Inv X AA σ H { s with heap:=h' }:=by
 let[[ch,A,k1,k2],y]:=N;let[mL,[oL,M,O,j,Q,rL],y]:=id I.loc
 have i:∀ b∈ch,∀ o,s.heap.get? b=some o->∃ vs,o.data=.fields vs:=λb l o a=>by
  let[y,y,T,vs,J,d]:=A b l;rw[a]at J;obtain rfl:=μ J;exact⟨vs,d⟩
 have L:X.env.locals∉ch:=λz=>by
  let[vs,d]:=i _ z _ j;rw[Q]at d;cases d
 refine I.stepN     (λb l=>{.inr ?_,λz=>L<|z ▸ l,λx c U z=>?_,λp Y z=>(A b l).1 (.inr ⟨p,Y,z⟩)})
  (λb o B D g a y=>k1 b o a g λz=>(af.mp<|I.stkSub b z).elim B D) (λb o y y g a y=>k2 b o a g) (λy y y y n=>n) (λb o g a=>?_) (λy y q=>q) (λy y y q=>q) (λb ps q=>{#[],by rw[q];simp}) (λm hm=>?_) (λb o a=>?_) I.bare
 cases q:X.s₀.heap.get? b with
 |none=>rfl
 |some o=>exact absurd (.inl (by rw[q];simp)) (A b l).1
 let[v,oc,E,hd]:=I.cell x c U;let[vs,d]:=i c (z ▸ l) oc E;rw[hd]at d;cases d;let[sl,q]:=k2 b o a g;exact⟨_,q⟩;revert hm;apply u3;intro T es' ep' [w,r'];rw[j]at w;obtain rfl:=μ w;let[sl,q]:=k2 _ _ j L;exact x3 _ _ _ ⟨q,r'⟩;refine(I.hok b o a).stay (λc u r q=>k1 c u q ?_ ?_) (λy q=>q) λy y q=>q;intro z
 have fr:=(A c z).2.1;let rfl||r:=r
 rw[a]at fr;cases fr;rw[r]at fr;cases fr;intro z
 have fr:=I.stkFree c z;let rfl||r:=r
 rw[a]at fr;cases fr;rw[r]at fr;cases fr
def EM(P:bq)(w:World):II:=λouter H s E e b=>∃ (c:Addr) (cls:Value) (H':Hp),e=.ref c/\b.os=s.os/\s_ b.gens/\Un (EK outer) [] H H' s.heap b.heap/\HOk P w H' b.heap/\Fly (λa=>s.heap.get? a≠none) H' b.heap c cls/\E cls none H'
def sF(h:EM P w outer H s (λ_ _ _=>False) e a):False:=by
 revert h;apply u3;intro z z z [z,z,z,z,z,z,f];exact f
def XOk.passes(x:XOk X E):HN (EM X.prog X.w) X E:=λAA σ H s e d I h=>by
 revert h;apply u3;intro g cls H' [rfl,os,bare,un,hok,F,q];refine x.go _ σ H' d g _ (I.call'  os un hok bare λb z=>absurd z (by simp)) (F.mono λa z=>?_) q;let z||[p,i,rfl]:=z
 cases c:X.s₀.heap.get? a with
 |none=>exact absurd c z
 |some o =>
  let[j,e]:=I.base.there a o c (by rw[x.ex];simp);rw[e];simp
 rw[(I.pin p i).1];simp
def sG:HN (EM P w) X (λ_=>E0):=λz z z z z z z h=>(sF h).elim
end
def zct{P:bq}{w:World}{K:W.Frag}{mg:xB}{base:Heap}{N:eG}{b:Str}{scope:Scope}{f:Addr}{d:Value}{A:de}{outer:xG}{s:ν}{H:Hp}{E:XK} :
  XOk (JG (EM P w) P w K mg base N b scope f d A outer s H E) (λ_=>E) where
 po:=PassesOwn.leaving
 ex:=rfl
 calm:=rfl
 go:=λg i H' j e cls I F q=>by
  refine δ<|sD I.ok.frames I.stack rfl F (λa z=>I.notbad rfl<|sE z) (λa z=>I.hok.fresh z) λh' N=>?_
  have c:=I.noted N;exact x3 e _ H' {rfl,c.os,c.bare,c.base,c.hok,N.fly.mono λa z=>.inl z,q}
structure Exc(K:W.Frag)(C:Addr):Prop where
 nm:∃ x,W.nsIn K bg x=some (some<|.ref C)
 ex:W.excIn K C [.type "ValueError",.type "Exception",.type "BaseException",.type "object"] "ValueError.__new__"=true
def zcu:Value->Str
 |.str n _=>n
 |_=>""
def Mod.top{K:W.Frag}{mg:xB}{h:Heap}(M:Mod K mg h)(p:bq):∃ l a,W.TopRead p l mg a h:=by
 let[a,i,he]:=M.blt;let[o,b,q,h1,h2,h3,h4]:=id M.glob;refine{b.toList.map λe=>zcu e.key,a,M.glob,i,M.nolimit,he,λx z j z z z=>?_};rw[<-h4];unfold nsFind findBy;cases e:b.find? λe=>e.key.isStr x with
 |none=>rfl
 |some d =>
  have hd:=Array.mem_of_find?_eq_some e
  have c:=Array.find?_some e;let[n,t,g]:=h3 d hd;rw[g]at c;exact(j (a_.mpr {d,zd.mpr hd,by rw[g];exact Value.isStr_inj _ _ _ (show(Eu n t).isStr n=true by simp[Value.isStr]) c})).elim
def Exc.obj{K:W.Frag}{mg:xB}{h:Heap}(x:Exc K C)(M:Mod K mg h)(p:bq):type_of% (W.own_of_in (p:=p) M.kin (M.top p).choose_spec.choose_spec x.nm.choose_spec x.ex).obj:=(W.own_of_in (p:=p) M.kin (M.top p).choose_spec.choose_spec x.nm.choose_spec x.ex).obj
def FH(C:Addr)(E:St->XK)(t:TA):TS:=λ_ a H=>t a H λvs b=>vs.length<=sizeLine/\E a (.ref C) none b
section
variable{X:Cx}{E:St->XK}{C:Addr}{x:Str}{np D5 pos:Pos}{e:Expr}{es:wF}{t:TA}
def LX(g:XOk X E)(c:Exc X.K C)(p:Gl X x)(u:X.mg x=some (.ref C))(v:PA X (e::es) t)(i:(x ==("__debug__":Str))=false:=by decide)
  (he:ax (e::es) X.env=(false,eval e X.env)::ax es X.env:=by rfl) (w:(ja D5<|ax es X.env).any (·.1)=false:=by rfl) :
  PS X (.Raise (some<|.Call (.Name x np) (e::es) [] D5) none pos) (FH C E t):=by
 refine λM s j H D I h=>Vv ?_<|c.obj I.mod X.prog;intro O N nm q bs hdct sn sub ab col dd k0 k1 k2 [k3,k5,Q,y,A,l,T]
 have b:(ja D5<|ax (e::es) X.env).any (·.1)=false:=by
  rw[he]
  show(false||(ja _ _).any _)=false;rw[w];rfl
 have n:=v D5 _ s j H _ I h;refine wpAny_Raise_call_subT  (nm:=nm) (q:=q) (N:=N) (bs:=bs)  (hdct:=hdct) (sn:=sn) (sub:=sub) (ab:=ab) (col:=col) (dd:=dd) (k0:=k0) (k1:=k1) (k2:=k2) (k3:=k3) (k5:=k5)
  PySem.F.excBase_ValueError  (T.hasType PySem.F.excBase_ValueError.hasBase) (I.ok.hd g.calm) b l (QR I p u {rfl,?_} i)
 rw[he]at n ⊢;refine nj<|AU n λus B ⟨vs,o,a,r,hz,q1⟩=>{rfl,?_,a.bk _ _ y,A.keeps a.bk,T.keeps a.bk,λh' J d=>?_};rw[<-r.length];exact hz
 have L:Inv X _ j o { B with heap:=h' }:=a.kept  d.keeps;let[U,h1,h2,h3]:=d.there;refine g.go _ j o _ J _ L {λz=>a.notbad g.ex d.new z,a.hok.nh d.new,y2 {h1,rfl,rfl,rfl,.inl rfl}} q1
end
section
variable(P:bq)(w:World)(K:W.Frag)(mg:xB)(base:Heap)
structure UO(k:Nat)(x:Str)(ps:eG)(sp:Sp):Prop where
 ex:∃ (f:Addr) (fd:gq),FnOk P w K mg base (EM P w) k f fd ps sp/\mg x=some (.ref f)/\W.keepIn K (.ref f)=true/\Binds K fd ps []
structure OI(C:Addr)(k:Nat)(m:Str)(ps:eG)(sp:Sp):Prop where
 ex:∃ (f:Addr) (fd:gq),FnOk P w K mg base (EM P w) k f fd ps sp/\UE K C m f/\Binds K fd ps []
structure YD(C:Addr)(k:Nat)(x:Str)(ps:eG)(sp:Sp):Prop where
 ex:∃ (f:Addr) (fd:gq),FnOk P w K mg base (EM P w) k f fd ps sp/\Mk K C f/\mg x=some (.ref C)/\Binds K fd ps []
end
section
variable{X:Cx}{E:St->XK}{k:Nat}{x m:Str}{ps:eG}{sp:Sp}{C:Addr}{p pos C9:Pos}{e o:Expr}{es:wF}{ta:TE}{t:TA}
def YE(c:UO X.prog X.w X.K X.mg X.base k x ps sp)(b:Room k X.A)(d:HN (EM X.prog X.w) X E)(g:Gl X x)(i:PA X (e::es) t)(a:(x ==("__debug__":Str))=false:=by decide)
  (he:ax (e::es) X.env=(false,eval e X.env)::ax es X.env:=by rfl) (j:(ja pos<|ax es X.env).any (·.1)=false:=by rfl):PE X (.Call (.Name x p) (e::es) [] pos) (M8 sp [] E t):=by
 refine u2 ?_ c.ex;intro f fd [F,l,n,q];exact za0 F b g l n q .nil d i a he j
def YF(he:PE X o ta)(d:Cls X.K C)(c:OI X.prog X.w X.K X.mg X.base C k m ps sp)(g:Room k X.A)(i:HN (EM X.prog X.w) X E)(j:PA X (e::es) t)
  (a:ax (e::es) X.env=(false,eval e X.env)::ax es X.env:=by rfl) (l:(ja pos<|ax es X.env).any (·.1)=false:=by rfl)
  (n:eval (.Call (.Attribute o m C9) (e::es) [] pos) X.env=(do
   let b ← eval o X.env
   ya C9.atName
   let (f,first) ← tf [b] (ug b m s)
   zf pos f first (ja pos<|ax (e::es) X.env) (uw pos<|li [] X.env)):=by rfl):PE X (.Call (.Attribute o m C9) (e::es) [] pos) (JF C m sp [] E ta t):=by
 refine u2 ?_ c.ex;intro f fd [F,q,r];exact za1 he d q F g r .nil i j a l n
def zcv(he:PE X o ta)(b:Cls X.K C)(c:OI X.prog X.w X.K X.mg X.base C k m ps sp)(d:Room k X.A)(g:HN (EM X.prog X.w) X E)
  (i:eval (.Call (.Attribute o m C9) [] [] pos) X.env=(do
   let a ← eval o X.env
   ya C9.atName
   let (f,first) ← tf [a] (ug a m n)
   zf pos f first (ja pos<|ax [] X.env) (uw pos<|li [] X.env)):=by rfl):PE X (.Call (.Attribute o m C9) [] [] pos) (JF C m sp [] E ta BK):=by
 refine u2 ?_ c.ex;intro f fd [F,j,l];exact za2 he b j F d l .nil g i
def zcw(c:YD X.prog X.w X.K X.mg X.base C k x ps sp)(b:Room (k+1) X.A)(d:HN (EM X.prog X.w) X E)(g:Gl X x)(i:PA X (e::es) t)(a:(x ==("__debug__":Str))=false:=by decide)
  (he:ax (e::es) X.env=(false,eval e X.env)::ax es X.env:=by rfl) (j:(ja pos<|ax es X.env).any (·.1)=false:=by rfl):PE X (.Call (.Name x p) (e::es) [] pos) (OD C sp [] E t):=by
 refine u2 ?_ c.ex;intro f fd [F,M,l,n];exact za4 M F b g l n .nil d i a he j
end
def Fun.okE{P:bq}{w:World}{K:W.Frag}{mg:xB}{base:Heap}{x a:Str}{st:Stmt}{f:Addr}{fd:gq}{N ps:eG}{k:Nat}{sp:Sp}(F:Fun K x a st f fd)(S:FnScope N ps (AT st))(len:∀ vs H Q E,sp vs H Q E->vs.length=ps.length)
  (d:∀ (b:Value) (A:de) (outer:xG) (s:ν) (H:Hp) (vs:eI) (Q:VK) (E:XK),Room k (A.deeper<|xi a (AT st) s.heap.objs.size f b)->sp vs H Q E ->
   ∃ t,FN (JG (EM P w) P w K mg base N a (AT st) f b A outer s H E) (HQ st) t/\t { nx:=λz H'=>Q .non H',rt:=Q } (AX N vs) H):FnOk P w K mg base (EM P w) (k+1) f fd ps sp:=by
 refine u9 ?_ F.ex;intro j od kV e pm n b ct g [rfl,l,c];exact za6 l c S len λA outer s H vs Q E i h=>d _ A _ s H vs Q E i h
def GV(mg:xB)(x:Str)(v:V):Prop:=∃ u,mg x=some u/\RelV v u
def LY(g:GV X.mg x v)(a:Gl X x)(hd:(x ==("__debug__":Str))=false:=by decide):PE X (.Name x pos) (tC v):=by
 let[u,b,r]:=g;exact Xb a b r hd
abbrev Cx.tri(X:Cx)(pn:eB)(xe:yC):Cx:={ X with pn:=pn,xe:=xe }
abbrev Cx.hand(X:Cx)(e:Addr):Cx:={ X with A:=X.A.mark<|some<|.ref e,calm:=false,xe:=λ_ _=>False }
section
variable{X:Cx}{AA:eB}{σ:St}{H:Hp}{s:ν}
def Cx.Ok.tri{pn:eB}{xe:yC}(ok:X.Ok):(X.tri pn xe).Ok :=
 ⟨ok.mod,ok.kind,ok.glob,ok.blt,ok.above,ok.inj,ok.has,ok.cab,ok.hd,ok.frames,ok.stk,ok.exf,ok.bs,ok.bsz,ok.noex,ok.exfs,ok.funs,ok.frf⟩
def Inv.tri(I:Inv X AA σ H s):Inv (X.tri (X.pn++AA) xe) [] σ H s :=
 {I.ok.tri,I.os,I.bare,I.base,I.loc,I.cell,I.free,I.freeC,λp a=>I.pin p (by simpa using a),I.hok,I.len}
def Cx.Ok.untri{pn:eB}{xe:yC}(ok:(X.tri pn xe).Ok):X.Ok :=
 ⟨ok.mod,ok.kind,ok.glob,ok.blt,ok.above,ok.inj,ok.has,ok.cab,ok.hd,ok.frames,ok.stk,ok.exf,ok.bs,ok.bsz,ok.noex,ok.exfs,ok.funs,ok.frf⟩
def Inv.untri(I:Inv (X.tri (X.pn++AA) xe) b σ H s):Inv X AA σ H s :=
 {I.ok.untri,I.os,I.bare,I.base,I.loc,I.cell,I.free,I.freeC,λp a=>I.pin p<|fz _ a,I.hok,I.len}
def Cx.Ok.hand(ok:X.Ok):(X.hand e).Ok :=
 {ok.mod,ok.kind,ok.glob,ok.blt,ok.above,ok.inj,ok.has,ok.cab,(λz=>nomatch z),ok.frames,ok.stk,ok.exf,ok.bs,ok.bsz,ok.noex,ok.exfs,ok.funs,ok.frf}
def Inv.hand(I:Inv X AA σ H s):Inv (X.hand e) AA σ H s:=⟨I.ok.hand,I.os,I.bare,I.base,I.loc,I.cell,I.free,I.freeC,I.pin,I.hok,I.len⟩
def Inv.unhand(ok:X.Ok)(I:Inv (X.hand e) AA σ H s):Inv X AA σ H s:=⟨ok,I.os,I.bare,I.base,I.loc,I.cell,I.free,I.freeC,I.pin,I.hok,I.len⟩
end
def YG(e:Addr)(cls:Value):Heap->Prop:=λh=>∃ a vs,h.get? e=some a/\a.cls=cls/\a.dict=none/\a.data=.fields vs
abbrev TH:=Value->Ends->St->Hp->Prop
def ND:TH:=λ_ _ _ _=>False
def G7(p:Value->Option Bool)(b:TS)(rest:TH):TH:=λcls D a H=>(p cls=some true/\b D a H)\/(p cls=some false/\rest cls D a H)
def Ends.drop(D:Ends)(i:Nat):Ends:={ nx:=λa H=>D.nx (a.set i none) H,rt:=D.rt,bk:=λa H=>D.bk (a.set i none) H,ct:=λa H=>D.ct (a.set i none) H }
def PH(X:Cx)(hs:List xl)(c:TH):Prop :=
 ∀ (a:eB) (s:ν) (b:St) (H:Hp) (D:Ends) (e:Addr) (cls:Value),X.ex=[]->Inv X a b H s->Fly (X.bad a) H s.heap e cls->c cls D b H ->
  wpAny (model X.prog X.w) X.A (handleBy (.ref e) X.env hs) (SP X a D) X.xe s
def PX(X:Cx)(t:Expr)(p:Value->Option Bool):Prop :=
 ∀ (a:eB) (s:ν) (g:St) (H:Hp) (e:Addr) (cls:Value) (b:Bool) (Q:Bool->ν->Prop) (E:yC),Inv X a g H s->Fly (X.bad a) H s.heap e cls->p cls=some b ->
  (∀ d,Inv X a g H d->Fly (X.bad a) H d.heap e cls->Q b d)->wpAny (model X.prog X.w) (X.A.mark<|some<|.ref e) (eval t X.env) (λc i=>wpAny (model X.prog X.w) (X.A.mark<|some<|.ref e) (excMatches (.ref e) c) Q E i) E s
def NE(b:(St->XK)->TS)(c:TH):TS:=λD d H=>b (λa cls _ H'=>c cls D a H') D d H
section
variable{X:Cx}{hs:List xl}{h₀:xl}{th:TH}{body:List Stmt}{tb:(St->XK)->TS}{pos:Pos}
def zcx:PH X [] ND:=λz z z z z z z z z z h=>h.elim
def zcy(F:Fly bad H h e cls):W.Looks M h (typeOf<|.ref e) cls:=by
 let[z,z,a,vs,h1,rfl,z]:=F;exact(W.Looks.ld h1).andThen .now
def UP(a:Gl X x)(c:X.mg x=some C)(hd:(x ==("__debug__":Str))=false:=by decide):PX X (.Name x np) (λcls=>W.exmOne X.K cls C):=λg s i H e cls b Q E I F d h=>QR  I.hand a c (W.exm_one I.kIn (zcy F) d _ _ _ s (λy y z=>z) (h s I F)) hd
def zcz(F:Fly bad H s.heap e cls)
  (h:∀ h',YC fr bad H e cls s.heap h'->Q () { s with heap:=h' }):wpAny M A (Fs (.ref e) none) Q E s:=by
 have q:=F;let[r,j,u,vs,he,v,w,hd,l]:=F;let h1||[T,x,y,h1,d,g,neT,n,dT,h3]:=l
 exact δ (jb he hd h1 (ρ (h _ {{[],(λb a=>nomatch a),λb o c _ _=>c,λb o c _=>⟨_,c⟩},q})));refine δ<|jb he hd h1 ?_
 have i:=(il.mp h3).1
 have oth:∀ b,b≠T->(s.heap.update T (xk (·.setIfInBounds 3 (none.elim ki λf=>lx f)))).get? b=s.heap.get? b:=λb p=>cy _ _<|fg p;refine t9 n dT i (h _ ({{[T],λb a=>?_,λb o c a _=>(oth b λz=>a (by simp[z])).trans c,λb o c a=>{_,(oth b λz=>a (by simp[z])).trans c}},r,j,x2 u vs {(oth e<|fg neT).trans he,v,w,hd,.inr (x3 T _ _ {h1,d,g,neT,d_ _ n<|ud<|jo dT _,jo dT _,by simp[i]})}}));rw[aa]at a;subst a;exact{d,g,x2 x y ⟨n,dT⟩}
theorem SP.unhand(ok:X.Ok)(h:SP (X.hand e) d D f s):SP X d D f s:=by
 cases f with
 |next=>revert h;apply u2;intro a b [c,q];exact x2 _ b {c.unhand ok,q}
 |brk=>revert h;apply u2;intro a b [c,q];exact x2 _ b {c.unhand ok,q}
 |cont=>revert h;apply u2;intro a b [c,q];exact x2 _ b {c.unhand ok,q}
 |ret u=>revert h;apply u3;intro v a b [c,r,q];exact x3 v _ b {c.unhand ok,r,q}
def zc0{t:Expr}{c:Stmt}{a:List Stmt}{r:Pos}{p:Value->Option Bool}{i:TS}{rest:List xl}{j:TH}(u:PX X t p)(l:∀ e,FN (X.hand e) (c::a) i)(v:PH X rest j) :
  PH X (.ExceptHandler (some t) none (c::a) r::rest) (G7 p i j):=by
 intro E s g H D e cls w I F h
 have d:∃ b,p cls=some b/\(b=true->i D g H)/\(b=false->j cls D g H):=by
  let[h1,h2]||[h1,h2]:=h
  exact{_,h1,λ_=>h2,λz=>nomatch z};exact{_,h1,(λz=>nomatch z),λ_=>h2}
 let[b,n,x,y]:=d;refine wpAny_handleBy_cons (codeAny_handlers_test<|u _ s g H e _ b _ _ I F n λA o q=>?_) (by intro z;cases z);cases b with
 |false=>exact v _ A g H D e _ w o q<|y rfl
 |true =>
  refine codeAny_handlers_suite<|zcz (fr:=EK X.stack) q λh' N=>?_
  have B:Inv (X.hand e) _ g H _:=(o.noted N).hand;refine ni (l e _ _ g H D B<|x rfl) (λf J h2=>h2.unhand I.ok) λ_ _ z=>z.elim
def zc1(A:X.ex=[])(c:X.calm=true)(d:X.stack=X.env::X.outer)(M:X.env.frame=some X.env.locals)(O:∀ (E:St->XK) (pn:eB) (xe:yC),XOk (X.tri pn xe) E->FN (X.tri pn xe) body (tb E))(Q:PH X (h₀::hs) th) :
  PS X (.Try body (h₀::hs) [] [] pos) (NE tb th):=by
 refine λJ s T H D I h=>wpAny_Try_except ?_
 let xe:Value->ν->Prop:=λe l=>wpAny (model X.prog X.w) X.A (Jt e X.env) (λy n=>wpAny (model X.prog X.w) X.A (Fs e none) (λy o=>wpAny (model X.prog X.w) X.A (handleBy e X.env (h₀::hs)) (SP X J D) X.xe o) X.xe n) X.xe l
 have B:XOk (X.tri (X.pn++J) xe) (λw cls y H'=>th cls D w H'):=by
  refine{PassesOwn.looking,A,c,λU w H' s' e cls x Y q=>?_}
  have L:=x.untri;refine sD (d ▸ L.ok.frames) (d ▸ L.stack) M Y (λa z=>x.notbad A<|sE z) (λa z=>x.hok.fresh z) λh' N=>?_;rw[<-d]at N
  have I2:Inv _ U _ H' _:=x.noted N;exact Q _ _ _ H' D e _ A I2.untri (N.fly.mono λa z=>by
   let z||[p,hp,z]:=z
   exact .inl z;exact .inr {p,fz _ hp,z}) q
 refine ni (O _ _ xe B [] s T H D I.tri h) (λf s1 b=>?_) λy y z=>z;cases f with
 |next =>
  revert b;apply u2;intro g i [j,q];exact q_<|x2 _ i ⟨j.untri,q⟩
 |brk=>revert b;apply u2;intro g i [j,q];exact x2 _ i ⟨j.untri,q⟩
 |cont=>revert b;apply u2;intro g i [j,q];exact x2 _ i ⟨j.untri,q⟩
 |ret u=>revert b;apply u3;intro v g i [j,r,q];exact x3 v _ i ⟨j.untri,r,q⟩
end
mutual
inductive Rep(K:W.Frag)(H:Hp):V->xm->Prop
 |non:Rep K H .non .none
 |bl (b:Bool):Rep K H (.bl b) (.bool b)
 |int (i:Int):Rep K H (.int i) (.int i)
 |str (x:Str):Rep K H (.str x) (.str x)
 |lst {a:Addr} {xs:eI} {ds:List xm}:SqL K H a xs->RepAll K H xs ds->Rep K H (.ref a) (.list ds)
 |tup {a:Addr} {xs:eI} {ds:List xm}:SqT K H a xs->RepAll K H xs ds->Rep K H (.ref a) (.tuple ds)
inductive RepAll(K:W.Frag)(H:Hp):eI->List xm->Prop
 |nil:RepAll K H [] []
 |cons {v:V} {d:xm} {vs:eI} {ds:List xm}:Rep K H v d->RepAll K H vs ds->RepAll K H (v::vs) (d::ds)
end
section
variable{X:Cx}{AA:eB}{σ:St}{H:Hp}{s:ν}
def Rep.reads(I:Inv X AA σ H s):∀ {v:V} {d:xm} {u:Value},Rep X.K H v d->RelV v u->∃ as,Reads s.heap u d as:=λ{v d u} h=>by
 revert u;refine Rep.rec (motive_1:=λv d z=>∀ {u:Value},RelV v u->∃ as,Reads s.heap u d as) (motive_2:=λv d z=>∀ {u:wE},Vals v u->∃ as,ReadsAll s.heap u d as) ?_ ?_ ?_ ?_ ?_ ?_ ?_ ?_ h
 ·intro u r;cases (show _=ki from r);exact{_,.none}
 ·intro b u r;cases (show _=Ij b from r);exact{_,.bool b}
 ·intro i u r;let[t,e]:=(show ∃ t,_=uf i t from r);cases e;exact{_,.int i t}
 ·intro x u r;let[t,e]:=(show ∃ t,_=Eu x t from r);cases e;exact{_,.str x t}
 ·intro a xs A h z c u r;cases (show _=eq a from r);let[B,g,p,z]:=I.list h;let[as,q]:=c g;let[o,j,l,n,y]:=p.isList;exact{_,.list j l y q}
 ·intro a xs A h z c u r;cases (show _=eq a from r);let[B,g,p,z]:=I.tuple h;let[as,q]:=c g;let[o,j,l,n,y]:=p;exact{_,.tuple j l y q}
 ·intro u r;rw[N8 r];exact{_,.nil}
 ·intro v d vs A z z D E u r;let[w,m,rfl,r,t]:=MZ r;let[as,q]:=D r;let[bs,q2]:=E t;exact{_,.cons q q2}
end
abbrev shp(d:xm):Prop:=PySem.SeqAt.shaped d=true
def rD(K:W.Frag)(x y:V)(H:Hp)(R:zC):Prop:=∃ d e,Rep K H x d/\Rep K H y e/\shp d/\shp e/\R (io d e) H
def LZ(K:W.Frag):R2:=λx y H Q=>rD K x y H λb=>Q<|.bl b
def OJ(K:W.Frag):R2:=λx y H Q=>rD K x y H λb=>Q<|.bl<|!b
section
variable{X:Cx}
def zc2(a:X.A.units+64<cLine):CH X (dr .Eq) (LZ X.K):=by
 intro p s r H x y v u Q I b c;apply u2;intro d e [g,i,j,l,q];let[as,n]:=g.reads I b;let[bs,o]:=i.reads I c;exact eq_dataH n o j l a<|x2 (.bl _) H ⟨I,rfl,q⟩
def zc3(a:X.A.units+64<cLine):CH X (dr .NotEq) (OJ X.K):=by
 intro p s r H x y v u Q I b c;apply u2;intro d e [g,i,j,l,q];let[as,n]:=g.reads I b;let[bs,o]:=i.reads I c;exact ne_dataH n o j l a<|x2 (.bl _) H ⟨I,rfl,q⟩
def YH(K:W.Frag):R2:=λx y H Q=>∃ a b ys,x=.ref a/\y=.ref b/\SqT K H a []/\SqT K H b ys/\Q (.ref b) H
def zc4:CH X (iw .Add) (YH X.K):=by
 intro M s N H x y v u Q I d e h;revert h;apply u3;intro a b ys [rfl,rfl,g,i,q];subst d;let[O,j,[[l,n,c3,o],c,p,r,w],z]:=I.tuple g;subst e;obtain rfl:l=_:=p;obtain rfl:c3=_:=w;let[T,U,[[A,B,D,E],f1,f2,J,L],z]:=I.tuple i;obtain rfl:A=_:=f2;cases j;obtain rfl:D=_:=L;exact Cf ⟨_,c,rfl⟩ ⟨_,f1,rfl⟩ xw Ar PySem.F.slot_tuple_add PySem.F.entry_tuple_add (PySem.F.args_tuple_add_2 _ _) (tuple_addW0 a b _ _ r J n B o E rfl) {c,f1,x2 (.ref b) H ⟨I,rfl,q⟩}
def A8(K:W.Frag):R2:=λx y H Q=>match x,y with
 |.int i,.int j=>Q (.int<|i+j) H
 |.str i,.str j=>i.length+j.length<=sizeLine/\Q (.str<|i++j) H
 |.ref _,.ref _=>X6 x y H Q\/X1 K x y H Q\/YH K x y H Q
 |_,_=>False
def zc5:CH X (iw .Add) (A8 X.K):=by
 intro d s a H x y v u Q I b c h;cases x<;>cases y<;>simp only[A8]at h;exact Zm _ s a H _ _ v u Q I b c<|y2 ⟨rfl,rfl,h⟩;exact zai _ s a H _ _ v u Q I b c<|y2 ⟨rfl,rfl,h⟩;let h||h:=h
 exact zbv _ s a H _ _ v u Q I b c h;let h||h:=h
 exact zbf _ s a H _ _ v u Q I b c h;exact zc4 _ s a H _ _ v u Q I b c h
def GP:R2:=λx y H Q=>match x,y with
 |.int i,.int j=>Q (.bl<|decide<|i<j) H
 |.str i,.str j=>Q (.bl<|decide<|i.cps.toList<j.cps.toList) H
 |_,_=>False
def EF:R2:=λx y H Q=>match x,y with
 |.int i,.int j=>Q (.bl<|decide<|i<=j) H
 |.str i,.str j=>Q (.bl<|!decide (j.cps.toList<i.cps.toList)) H
 |_,_=>False
end
def zc6:fillsNumberSlot (.type "tuple") "mul"=pure false :=
 PySem.fillsNumberSlot_seq   F.slot_tuple_mul.lookup (by decide) F.slot_tuple_rmul.lookup (by decide)
def zc7:seqRepeat? (.type "tuple")=pure (some<|.builtin "tuple.__mul__"):=by
 unfold seqRepeat?;rw[PySem.seqSlot_of  (name:="__mul__")  F.slot_tuple_mul.lookup (by decide),PySem.seqSlot_of  (name:="__rmul__")  F.slot_tuple_rmul.lookup (by decide)]
 rfl
def zc8(a:Int)(t:Tok)(l:Addr)(b:Array Value)(dd:Option Addr)(n:Nat)(c:Array (Option Value)) :
  Meets (vg.«int.__rmul__» {[.int a t,.ref l],[]}) (λ_ R s=>s.heap.get? l=some {.type "tuple",dd,.seq b n,c}/\R (.ok<|.ret Value.notImplemented) s) :=
 .of_wp λprog w A R s h=>by let[d,h]:=h;wp_walk;exact⟨_,rfl,h⟩
def zc9(l:Addr)(a:Array Value)(dd:Option Addr)(n:Nat)(e:Array (Option Value))(x:Int)(u:Tok)(h1:1<x)(h2:x<2 ^ 63)(b:a.isEmpty=false)(hz:a.size * x.toNat<=sizeLine) :
  Meets (vg.«tuple.__mul__» {[.ref l,.int x u],[]}) (λ_ R s=>s.heap.get? l=some {.type "tuple",dd,.seq a n,e} ∧
   R (.ok<|.ret<|eq s.heap.objs.size) { s with heap:=s.heap.push { cls:=nc "tuple",data:=Data.seq (yi (λd x2=>d++x2) #[] (az x.toNat a)) } }) :=
 .of_wp λprog w A R s h=>by
  let[j,h]:=h
  have g:sizeLine<=(2^63-1)/8:=by decide
  have c:∃ N:Nat,a.size*x=N/\N<=sizeLine:={_,by rw[Int.natCast_mul,fm (by lia)],hz}
  let[N,c,i]:=c
  have o:(yi (λd x2=>d++x2) #[] (az x.toNat a)).size<=sizeLine:=by
   have:=UJ a.toList x.toNat [];simp only[jy,Array.toArray_toList]at this;rw[this];simp only[aw,List.length_flatten,List.map_replicate,List.sum_replicate_nat,dg];rw[da];exact hz
  refine rj (by simp;lia) ?_
  wp_walk
  refine rj (by simp only[b,xn];simp;lia) (rj (by simp only[b,pq];simp;omega) (rj (by rw[c];exact decide_eq_false (by omega)) (rj (by rw[c];unfold Iq;simp;exact i) ?_)))
  wp_walk
  exact⟨_,rfl,h⟩
def zda(l:Addr)(a:Array Value)(dd:Option Addr)(n:Nat)(b:Array (Option Value))(u:Tok) :
  Meets (vg.«tuple.__mul__» {[.ref l,.int 1 u],[]}) (λ_ R s=>s.heap.get? l=some {.type "tuple",dd,.seq a n,b}/\R (.ok<|.ret<|eq l) s) :=
 .of_wp λprog w A R s h=>by
  let[c,h]:=h
  wp_walk
  exact⟨_,rfl,h⟩
def YI(K:W.Frag):R2:=λx y H Q=>∃ a k xs,x=.ref a/\y=.int k/\SqT K H a xs/\xs≠[]/\1<=k/\k<2^63/\xs.length*k.toNat<=sizeLine /\
 (k=1->Q (.ref a) H)/\(k≠1->∀ p,H p=none->Q (.ref p) (upd H p<|.tup (az k.toNat xs).flatten))
section
variable{X:Cx}
def Inv.tnew(I:Inv X a b H s)(c:Vals ys d)(hz:ys.length<=sizeLine) :
  Inv X a b (upd H s.heap.objs.size<|.tup ys) { s with heap:=s.heap.push { cls:=.type "tuple",data:=.seq d.toArray } } :=
 I.laid  (λz z q=>ξ _ q) (π _) {hz,_,c,_,aj _ rfl,rfl,0,rfl}
def zdb:CH X (iw .Mult) (YI X.K):=by
 intro E s J H x y v u Q I o p h;revert h;apply u3;intro a k xs [rfl,rfl,q,d,h1,h2,hz,q1,q2];subst o;let[i,r,[[w,e,c3,g],c,A,n,B],z]:=I.tuple q;obtain rfl:w=_:=A;obtain rfl:c3=_:=B;let[t,rfl]:=p
 have j:=r.length
 have he:i.toArray.isEmpty=false:=by
  cases i with
  |nil=>exact absurd (fb.mp j) d
  |cons b t=>rfl
 refine wm   (by decide) ⟨_,c,rfl⟩ (λD=>yh D k t) zc6 F.fills_int_mul F.slot_int_rmul zc7 F.slot_int_index.lookup
  (ik F.slot_int_rmul (yh s k t) F.entry_int_rmul (F.args_int_rmul_2 _ _) (zc8 k t a _ e n g) {c,rfl,⟨_,c,rfl⟩,?_})
 by_cases l:k=1;subst l;exact ik F.slot_tuple_mul ⟨_,c,rfl⟩ F.entry_tuple_mul (F.args_tuple_mul_2 _ _) (zda a _ e n g t) {c,x2 (.ref a) H {I,rfl,q1 rfl}};refine ik F.slot_tuple_mul ⟨_,c,rfl⟩ F.entry_tuple_mul (F.args_tuple_mul_2 _ _) (zc9 a _ e n g k t (by lia) h2 he (by rw[aw,<-j];exact hz)) {c,?_};rw[(UJ _ _ [])];exact x2 (.ref _) _ {I.tnew (r.rep _) (by rw[rK,da];exact hz),rfl,q2 l _ I.fresh}
abbrev zdc:pU:=Yp λi j=>i+j
def UQ(z:Str)(k:Int):Str:=if k<1 then uh else if(k==1||z.length==0)=true then z else{(az k.toNat z.cps).foldl (· ++·) #[]}
def zdd(z:Str)(k:Nat):(Str.mk ((az k z.cps).foldl (· ++·) #[])).length=k*z.length:=by
 have e:∀ (m:Nat) (a:Array _),((az m z.cps).foldl (· ++·) a).size=a.size+m*z.cps.size:=λm=>by
  induction m with
  |zero=>simp
  |succ m b=>intro a;rw[kz,gg,b,Ct,tm];lia
 simpa [yg]using (e k #[])
def zde:R2:=λx y H Q=>∃ z k,x=.str z/\y=.int k/\0<=k/\k<=1000/\z.length<=1000/\Q (.str<|UQ z k) H
def zdf:CH X (iw .Mult) zde:=by
 intro g s i H x y v u Q I b e h;revert h;apply u2;intro z k [rfl,rfl,h1,h2,h3,q];let[t,rfl]:=b;let[t',rfl]:=e;refine PySem.P.mul_str (by simp;lia) (λa _=>?_) (λa _=>?_) ?_
 have:1000<=(2^63-1)/k:=(Int.le_ediv_iff_mul_le<|vy.mp ‹_›).mpr (by lia)
 lia
 have h4:z.length*k.toNat<=1000*1000:=jp h3 (by omega)
 have h5:(1000*1000)<=sizeLine:=by decide
 exact decide_eq_false (by lia);unfold UQ at q;split;rename_i c;rw[if_pos c]at q;exact{by decide,x2 (.str _) H {I.tok _,⟨_,rfl⟩,q}};rename_i c;rw[if_neg c]at q;split;rename_i d;rw[if_pos d]at q;exact x2 (.str _) H {I,⟨_,rfl⟩,q};rename_i d;rw[if_neg d]at q;exact⟨by rw[zdd];have:=jp (show k.toNat<=1000 by omega) h3;show _<=2^24;exact oA this rfl,x2 (.str _) H {I.tok _,⟨_,rfl⟩,q}⟩
def GQ(K:W.Frag):R2:=λx y H Q=>match x,y with
 |.int i,.int j=>CMul i j/\Q (.int<|i*j) H
 |.str z,.int k=>0<=k/\k<=1000/\z.length<=1000/\Q (.str<|UQ z k) H
 |.ref _,.int _=>X7 x y H Q\/YI K x y H Q
 |_,_=>False
def zdg:CH X (iw .Mult) (GQ X.K):=by
 intro d s a H x y v u Q I b c h;cases x<;>cases y<;>simp only[GQ]at h;exact Zq _ s a H _ _ v u Q I b c<|y2 ⟨rfl,rfl,h⟩;exact zdf _ s a H _ _ v u Q I b c<|y2 ⟨rfl,rfl,h⟩;let h||h:=h
 exact zbw _ s a H _ _ v u Q I b c h;exact zdb _ s a H _ _ v u Q I b c h
def IN:R2:=λx y H Q=>match x,y with
 |.int i,.int j=>Q (.bl<|decide<|j<i) H
 |_,_=>False
def sI:CH X (dr .Lt) GP:=by
 intro c s d H x y v u Q I a b h;cases x<;>cases y<;>simp only[GP]at h;exact Zz c s d H _ _ v u Q I a b<|y2 ⟨rfl,rfl,h⟩
 ·let[t,rfl]:=a;let[t',rfl]:=b;exact PySem.P.lt_str<|x2 (.bl _) H ⟨I,rfl,h⟩
def RA:CH X (dr .LtE) EF:=by
 intro c s d H x y v u Q I a b h;cases x<;>cases y<;>simp only[EF]at h
 ·exact zaa c s d H _ _ v u Q I a b<|y2 ⟨rfl,rfl,h⟩
 ·let[t,rfl]:=a;let[t',rfl]:=b;exact PySem.P.le_str<|x2 (.bl _) H ⟨I,rfl,h⟩
def zdh:CH X (dr .Gt) IN:=by
 intro a s b H x y v u Q I c d h;cases x<;>cases y<;>simp only[IN]at h;exact zab a s b H _ _ v u Q I c d<|y2 ⟨rfl,rfl,h⟩
abbrev sJ:R2:=λx y H Q=>y=.non/\Q (.bl<|decide<|x=.non) H
abbrev sK:R2:=λx y H Q=>y=.non/\Q (.bl<|!decide (x=.non)) H
variable{a:Expr}{ta:TE}{tA:TT}{pos:Pos}
abbrev sL(K:W.Frag)(ta:TE):TT:=λb H Q=>ta b H λx H'=>∃ k,LP K x H' k/\Q k H'
def BZ(K:W.Frag):R2:=qY K
def sM:IxR X (BZ X.K):=zbj
def zdi:V->Option Int->Option Int->Hp->VK->Prop:=λx lo b H Q=>∃ z,x=.str z/\z.length<=sizeLine/\Q (.str<|Txt.slice z lo b) H
def sN{v:Value}{lo:Option Int}(p:zg v lo):∃ l:Option (Int × Tok),v=partValue l/\l.map (·.1)=lo:=by
 cases p with
 |none=>exact⟨none,rfl,rfl⟩
 |int i t=>exact{some (i,t),rfl,rfl}
def zdj:SlR X zdi:=by
 intro e s g H x v i j lo n o Q I b hs c d h;let[z,rfl,hz,q]:=h;let[t,rfl]:=b;let[l,rfl,rfl]:=sN c;let[u,rfl,rfl]:=sN d;exact x2 "str" _ {PySem.F.slot_str_getitem.lookup,lu _ _ _,(wpAny_getItem_str_slice   (st:=none) hs rfl (post_val_or_str {υ (Txt.slice_le z _ _) hz,λt' k=>x2 (.str _) H {I.tok k,⟨t',rfl⟩,q}}))}
def L4(K:W.Frag):V->Option Int->Option Int->Hp->VK->Prop:=λx lo b H Q=>match x with
 |.str z=>z.length<=sizeLine/\Q (.str<|Txt.slice z lo b) H
 |_=>rC K x lo b H Q\/qQ K x lo b H Q
def zdk:SlR X (L4 X.K):=by
 intro b s c H x v d e lo g i Q I j hs l n h;cases x<;>first
  |exact zdj b s c H _ v d e lo g i Q I j hs l n ⟨_,rfl,h⟩
  |exact(SlR.or zbo zbe) b s c H _ v d e lo g i Q I j hs l n h
abbrev RB:V->V->V->Hp->(Hp->Prop)->Prop:=qZ
def sO:XU X RB:=zbl
def RC(K:W.Frag)(c:TE):TI:=λd H R=>c d H λx b=>∃ a,x=.ref a/\(((∃ xs,SqL K b a xs)/\R (GK K a) b)\/((∃ xs,SqT K b a xs)/\R (JE K a) b))
def YJ(K:W.Frag):eI->Hp->VK->Prop:=λxs H Q=>∃ x n,xs=[x]/\UC K x H n/\Q (.int n) H
def zdl:EL X (.builtin "len") (YJ X.K):=zal
def sP(K:W.Frag):eI->Hp->VK->Prop:=λxs H Q=>∃ p ys,xs=[.ref p]/\(SqL K H p ys\/SqT K H p ys)/\∀ l,H l=none->Q (.ref l) (upd H l<|.lst ys)
def zdm:EL X (.type "list") (sP X.K):=zbr
def sQ(K:W.Frag):eI->Hp->VK->Prop:=λxs H Q=>∃ p ys,xs=[.ref p]/\((SqL K H p ys/\∀ l,H l=none->Q (.ref l) (upd H l<|.tup ys))\/(SqT K H p ys/\Q (.ref p) H))
def zdn:EL X (.type "tuple") (sQ X.K):=zbs
end
section
variable{X:Cx}{tg a:Expr}{ta:TE}{pos:Pos}
def zdo(r:PE X l u):PI X tg l (RC X.K u):=by
 refine λD s w H R I h=>AU (r _ s w H _ I h) λv n g=>?_;let[x,i,c,y,[a,e,q1]]:=g;subst e
 have d:∀ b∈[n.heap.objs.size],FpOk X _ i b:=λb z=>by
  have e:b=n.heap.objs.size:=by simpa using z
  subst e;exact c.fpOk (π _) (c.hok.fresh<|π _)
 subst y;let[[xs,j],q]||[[xs,j],q]:=q1
 let[A,B,p,hz]:=c.list j;exact wz p.isList<|x5 _ _ _ _ i {rfl,c.kept  λb o e=>ξ _ e,Yv a _,{_,aj _ rfl,rfl,rfl},d,q};let[A,B,p,hz]:=c.tuple j;exact wpAny_pyIter_tuple (p) (x5 _ _ _ _ i {rfl,c.kept  λb o e=>ξ _ e,Yw a _,{_,aj _ rfl,rfl,rfl},d,q})
end
def UR(scope outer:Scope)(N a:eG)(b:wH):Bool :=
 scope.kind == .function&&scope.names.all (λy=>y.2 != .cell)&&scope.names.all (λy=>y.2 != .local||scope.names.lookup y.1==some .local) &&
 scope.names.all (λy=>y.2 != .free||outer.names.lookup y.1==some .cell||outer.names.lookup y.1==some .free)&&a.all (λx=>scope.names.lookup x==some .free)&&(b.map (λi=>N[i]?)==a.map some)
def sR(h1:X.env.scope=outer)(h2:X.N=N)(h:UR scope outer N b c=true):KP X scope e b c:=by
 unfold UR at h;simp only[bv,fe,mh,bne_iff_ne,beq_iff_eq]at h;let[[[[[k1,k2],k3],k4],k5],k6]:=h;refine{k1,k2,λy a d=>(k3 y a).resolve_left λz=>z d,λy a hf=>?_,k5,by rw[h2];exact k6}
 have z:=k4 y a
 show X.env.scope.names.lookup _=_\/X.env.scope.names.lookup _=_;rw[h1];rcases z with(z|z)|z
 exact absurd hf z;exact .inl z;exact .inr z
structure US(K:W.Frag)(C:Addr):Prop where
 ga:W.findIn K (.ref C) "__getattribute__"=some (some<|.builtin "BaseException.__getattribute__")
 gt:W.findIn K (.ref C) "__getattr__"=some none
 be:W.mroIn K C (.type "BaseException")=some true
 cl:W.isClsIn K C=true
 ha:W.findIn K (.ref C) "__class__"=some (some<|.builtin "object.__class__")
 hn:W.specialIn K (.builtin "object.__class__") "__get__"=some (some<|.builtin "getset_descriptor.__get__")
 tk:W.takesIn K (.builtin "object.__class__")=some true
 mr:W.mroIn K C (.type "object")=some true
def zdp{K:W.Frag}{C:Addr}{od:Option Obj}{name:Str}{a g:Value}(b:(W.clsIn K C).isSome=true)(c:W.findIn K (.ref C) name=some (some a))(d:W.specialIn K a "__get__"=some (some g))(e:W.takesIn K a=some true) :
  W.findObj K C od name=some (.bind g a):=by
 let[i,b]:=cw.mp b;unfold W.findObj;rw[b,c];simp[d,e]
def zdq{K:W.Frag}{E:yC}{Q:Unit->ν->Prop}{s:ν}(c:US K D)(X:K.In s.heap)(I:W.InstAt s.heap x ox D none)(k:Q () s) :
  wpAny M A (Ft "BaseException.__getattribute__" {[.ref x,nm],[]}) Q E s:=by
 have d:builtinKind "BaseException.__getattribute__"=some .slot:=by decide +kernel
 have e:splitId "BaseException.__getattribute__"=some ("BaseException","__getattribute__"):=by decide +kernel
 have L:W.Looks M s.heap (Ir (.ref x) (.type "BaseException")) true:=(I.type ).andThen (W.looks_mroIn  X c.be)
 have b:=PySem.F.args_bexc_ga (.ref x) nm;simp only[Ft,d,e];refine δ<|L.at ?_;cases hs:Manifest.signature? "BaseException.__getattribute__" with
 |none=>exact ρ k
 |some a =>
  simp only[argsOk,hs]at b
  show wpAny M A (Bind.checkArgs "BaseException.__getattribute__" a {[.ref x,nm],[]}) Q E _;rw[b];exact ρ k
def zdr{K:W.Frag}{E:yC}{Q:Option Value->ν->Prop}{s:ν}(c:US K D)(X:K.In s.heap)(I:W.InstAt s.heap x ox D none)
  (k:Q (some<|.ref D) { s with toks:=s.toks+1 }):wpAny (model prog w) A (getAttr? (.ref x) "__class__") Q E s:=by
 have a:=I.type (M:=model prog w);refine δ<|wpAny_mkText<|δ<|ko<|fi<|δ<|a.at<|δ<|(W.looks_findIn  X c.ga).at ?_;refine δ<|(W.looks_findIn (M:=model prog w) X c.gt).at (δ<|ko<|fi ?_)
 show wpAny _ _ (boundAndCalled _ _ _) _ _ _;unfold boundAndCalled;refine δ<|ρ<|yb<|zk PySem.F.attr_ValueError.ga.plain PySem.F.entry_bexc_ga<|zdq c X I<|δ<|ρ<|δ<|ρ<|δ<|a.at<|δ<|(W.looks_find (M:=model prog w) X I (zdp (name:="__class__") c.cl c.ha c.hn c.tk)).at ?_;exact δ<|fi<|yb<|W.class_get (ox:=ox) (od:=none) X I c.mr (ρ<|W.handed_on rfl<|ρ k)
set_option tactic.hygienic true in
def zds{K:W.Frag}{x D:Addr}(c:US K D):W.KitX K (.ref x) (.ref D) (YG x<|.ref D):=by
 have inst:∀ {h:Heap},YG x (.ref D) h->∃ ox,W.InstAt h x ox D none:=λ{h} ⟨j,vs,l,o,r,u⟩=>by
  refine{j,l,o,?_,?_}
  ·unfold W.notCls;rw[u]
  ·rw[r];trivial
 have cls:=cw.mp c.cl;refine{λM h _ p=>(inst p).elim λ_ I=>I.type,λM h X p=>?_,λh B dd H n J X b=>?_,λ{prog w A E Q s} X p k=>?_}
 ·let[v,a]:=cls;unfold W.clsIn at a;split at a
  ·rename_i y z d g i;intro L N O T k q;exact δ<|wpAny_loadPart (k _ _<|X _ _ i) (ρ q)
  ·cases a
 ·let[v,a]:=cls;refine Cu.mpr λq=>?_
  have e:=Value.ref.inj<|beq_iff_eq.mp q;subst e;unfold W.clsIn at a;split at a
  ·rename_i y z d g i;cases ((X _ _ i).symm.trans b)
  ·cases a
 ·let[ox,I]:=inst p;exact zdr c X I k
def TyX(K:W.Frag)(H:Hp)(x:V)(t:Value):Prop:=HM K H x t\/∃ a C,x=.ref a/\t=.ref C/\H a=some (.ext<|YG a<|.ref C)/\US K C
inductive ClsV:V->Value->Prop
 |own (C:Addr):ClsV (.ref C) (.ref C)
 |ty (n:String):ClsV (.ty n) (.type n)
def ClsV.rel(h:ClsV y c)(r:RelV y u):u=c:=by
 cases h<;>exact r
def zdt:∀ {ys:eI} {cs us:wE},Paired ClsV ys cs->Vals ys us->us=cs:=by
 intro ys cs us h h'
 induction h generalizing us with
 |nil=>exact N8 h'
 |cons h t a =>
  let[u,m,rfl,r,h']:=MZ h';rw[h.rel r,a h']
def YK(K:W.Frag):eI->Hp->VK->Prop:=λxs H Q=>∃ x y t b,xs=[x,y]/\TyX K H x t /\
 ((∃ c,ClsV y c/\W.kitOne K t c=some b)\/∃ p ys cs,y=.ref p/\SqT K H p ys/\Paired ClsV ys cs/\W.kitAny K t cs=some b)/\Q (.bl b) H
section
variable{X:Cx}
def TyX.kit(I:Inv X D E H s)(h:TyX X.K H x t)(r:RelV x u):∃ g :Heap->Prop,W.KitX X.K u t g /\ g s.heap/\u≠.builtin "__main__.__loader__#opaque":=by
 let h||[a,C,rfl,rfl,e,c]:=h
 ·cases h with
  |non=>cases (r);exact{_,W.kitx_none,trivial,λz=>nomatch z}
  |bl y=>cases (r);exact{_,W.kitx_bool,trivial,λz=>nomatch z}
  |int i=>let[t,q]:=(r);cases q;exact{_,W.kitx_int,trivial,λz=>nomatch z}
  |str y=>let[t,q]:=(r);cases q;exact{_,W.kitx_str,trivial,λz=>nomatch z}
  |flt y=>let[t,q]:=(r);cases q;exact{_,W.kitx_float,trivial,λz=>nomatch z}
  |@lst a xs b =>
   cases (r);let[_,_,n,_,h1]:=(I.hok a _ b)
   exact{_,W.kitx_list,⟨_,h1,rfl⟩,λz=>nomatch z}
  |@frz a ob xs b =>
   cases (r);let[_,_,_,n,_,h1]:=(I.hok a _ b)
   exact{_,W.kitx_list,⟨_,h1,rfl⟩,λz=>nomatch z}
  |@tup a xs b =>
   cases (r);let[_,_,_,p]:=(I.hok a _ b)
   let[o,h1,h2,_]:=p;exact{_,W.kitx_tuple,⟨o,h1,h2⟩,λz=>nomatch z}
  |@dK a kvs b =>
   cases (r);let[_,_,vs,_,p]:=(I.hok a _ b)
   revert p;apply u3;intro o l v [h1,h2,_];exact{_,W.kitx_dict,⟨o,h1,h2.1⟩,λz=>nomatch z}
  |@dT a kvs b =>
   cases (r);let[_,_,xs,_,o,l,v,h1,h2,_]:=(I.hok a _ b)
   exact{_,W.kitx_dict,⟨o,h1,h2.1⟩,λz=>nomatch z}
  |@ins a C L fs b j w A d B =>
   cases (r);let[M,O,_]:=UD I.hok b;let[od,J,_]:=O.look;exact{_,W.kitx_own (j.get _) j.hd w A d B,J,λz=>nomatch z}
 ·cases (r);exact{_,zds c,((I.hok a _ e).1),λz=>nomatch z}
def zdu:EL X (.builtin "isinstance") (YK X.K):=by
 intro D s E H xs us Q I r h;revert h;apply u4;intro x y t b [rfl,ty,g,q];refine u2 ?_<|Vals.two r;intro u v [rfl,i,d];let[J,Z,p,ne]:=ty.kit I i;let[c,j,e]||[pt,ys,cs,rfl,hs,a,e]:=g
 ·have:=j.rel d;subst this;exact W.kia_one Z I.kIn p e ne λtk=>x2 (.bl b) H {I.tok tk,rfl,q}
 ·cases (d);let[L,l,[[o,M,c3,N],w,A,n,B],z]:=I.tuple hs;obtain rfl:o=_:=A;obtain rfl:c3=_:=B
  have:=zdt a l;subst this;exact W.kia_tup Z I.kIn p w e ne λtk=>x2 (.bl b) H {I.tok tk,rfl,q}
end
def EN(J:It)(g:TG)(l:TT)(n:TE)(k:Nat)(o:wH)(q:St)(r:Hp)(Q:VK):Prop :=
 ∃ W:Nat->Nat->St->eI->Hp->Prop,(∃ m,W 0 m (LV k o q) [] r)/\∀ i m c ys H,W i m c ys H ->
  (J.stop i H/\∀ p,H p=none->Q (.ref p) (upd H p<|.lst ys)) ∨
  (J.go i H/\ys.length<sizeLine/\∀ x H',J.yld i H x H'->g x c H' λa s=>l a s λb e =>
   if b=true then ∃ N:VK,(∀ y j,N y j->∃ d,d<m/\W (i+1) d a (ys++[y]) j)/\n a e N else ∃ d,d<m/\W (i+1) d a ys e)
def HR(J:It)(g:TG)(e:TS)(D:Ends)(a:St)(j:Hp):Prop :=
 ∃ W:Nat->Nat->St->Hp->Prop,(∃ m,W 0 m a j)/\∀ i m a H,W i m a H ->
  (J.stop i H/\D.nx a H)\/(J.go i H/\∃ N:St->Hp->Prop,(∀ b H',N b H'->∃ d,d<m/\W (i+1) d b H')/\∀ x H',J.yld i H x H'->g x a H' λc l=>e { D with nx:=N,ct:=N,bk:=D.nx } c l)
section
variable{K:W.Frag}{ta tb tc to ti tv tl:TE}{tt tA tB' tu:TT}{s1 s2:TS}{r r':R2}{σ:St}{H:Hp}{Q:VK}{D:Ends}{QB:zC}{as:TA}{g:TG}{gs:HL}{te:TE}{k i:Nat}{A5:wH}{f m:Str}{C:Addr}{sp:Sp}{EV:eI}{E:St->XK}{v:V}{vs:eI}{QA:eI->Hp->Prop}{QG:St->Hp->Prop}{QO:Option Int->Hp->Prop}
def zdv:AH s1 s2 D σ H=(s1 { D with nx:=s2 D } σ H):=rfl
def zdw:BV D σ H=(D.nx σ H):=rfl
def zdx:AO ta g D σ H=(ta σ H λx a=>g x σ a D.nx):=rfl
def zdy:CM ta D σ H=(ta σ H λ_ a=>D.nx σ a):=rfl
def zdz:AV ta D σ H=(ta σ H D.rt):=rfl
def zd0:BH tt s1 s2 D σ H=(tt σ H λb a=>if b=true then s1 D σ a else s2 D σ a):=rfl
def zd1:tC v σ H Q=(Q v H):=rfl
def zd2:AD r ta tb σ H Q=(ta σ H λx a=>tb σ a λy b=>r x y b Q):=rfl
def zd3:FB tt σ H QB=(tt σ H λc a=>QB (!c) a):=rfl
def zd4:M3 tt tu σ H QB=(tt σ H λc a=>if c=true then tu σ a QB else QB false a):=rfl
def zd5:M4 tt tu σ H QB=(tt σ H λc a=>if c=true then QB true a else tu σ a QB):=rfl
def zd6:T7 tt ta tb σ H Q=(tt σ H λc a=>if c=true then ta σ a Q else tb σ a Q):=rfl
def zd7:BK σ H QA=(QA [] H):=rfl
def zd8:DN ta as σ H QA=(ta σ H λx a=>as σ a λxs b=>QA (x::xs) b):=rfl
def zd9:DL as σ H Q=(as σ H λxs a=>xs.length<=sizeLine/\∀ p,a p=none->Q (.ref p) (upd a p<|.tup xs)):=rfl
def zea:CD as σ H Q=(as σ H λxs a=>xs.length<=sizeLine/\∀ p,a p=none->Q (.ref p) (upd a p<|.lst xs)):=rfl
def zeb:OC a ta σ H Q=ta σ H λx b=>a x b Q:=rfl
def zec:CA rc as σ H Q=as σ H λvs a=>rc vs a Q:=rfl
def zed:FH C E as D σ H=(as σ H λvs a=>vs.length<=sizeLine/\E σ (.ref C) none a):=rfl
def zee:NE sb b D σ H=sb (λa cls _ H'=>b cls D a H') D σ H:=rfl
def zef:AF i v σ H QG=(QG (σ.set i<|some v) H):=rfl
def zeg:QT to ti a v σ H QG=to σ H λo b=>ti σ b λi c=>a o i v c λd=>QG σ d:=rfl
def zeh:FQ K k gs v σ H QG=(∃ a xs,v=.ref a/\SqT K H a xs/\xs.length=k/\gs xs σ H QG):=rfl
def zei:FO vs σ H QG=((vs=[]/\QG σ H)):=rfl
def zej:DX g gs vs σ H QG=(∃ v r,vs=v::r/\g v σ H λa H'=>gs r a H' QG):=rfl
def zek:LR a ta ol b σ H Q=ta σ H λx c=>ol σ c λl d=>b σ d λu e=>a x l u e Q:=rfl
def zel:LQ σ H QO=(QO none H):=rfl
def zem:D6 K T rm ta as σ H Q=ta σ H λx a=>X5 K T x a/\as σ a λxs b=>rm x xs b Q:=rfl
def zen:CQ σ H QB=(QB true H):=rfl
def zeo:UF K ta tv j f D σ H=(ta σ H λx d=>∃ a C l fs v,x=.ref a/\d a=some (.ins C l fs)/\Cls K C/\NoAttr K C f/\fs.lookup f=some v/\tv σ d λy n=>j v y n λz e=>∃ c b,e a=some (.ins C c b)/\b.length<1000/\D.nx σ (upd e a<|.ins C c<|BO f z b)):=rfl
end
section
variable{K:W.Frag}{σ:St}{H:Hp}{Q:VK}{P:Bool->Prop}{PI':Int->Prop}{PV:V->Prop}{QB:zC}{v:V}{x:Option V}{i j:Int}{n:Nat}{b b':Bool}{s s':Str}{p q:Addr}{f:Int->Int->V}{C:Int->Int->Prop}
def D7(i:Nat):TE:=λσ H Q=>match σ[i]? with
 |some (some v)=>Q v H
 |_=>False
def zep:D7 0 (some v::σ) H Q=Q v H:=rfl
def zeq:D7 (n+1) (x::σ) H Q=D7 n σ H Q:=rfl
def zer(i:Nat):D7 i=T5 i:=by
 funext σ H Q;unfold D7 T5;cases σ[i]? with
 |none=>simp
 |some o=>cases o<;>simp
def zes:A8 K (.int i) (.int j) H Q=Q (.int<|i+j) H:=rfl
def zet:A8 K (.str s) (.str s') H Q=(s.length+s'.length<=sizeLine/\Q (.str<|s++s') H):=rfl
def zeu:A8 K (.ref p) (.ref q) H Q=(X6 (.ref p) (.ref q) H Q\/X1 K (.ref p) (.ref q) H Q\/YH K (.ref p) (.ref q) H Q):=rfl
def zev{x y:Str}:EF (.str x) (.str y) H Q=Q (.bl<|!decide (y.cps.toList<x.cps.toList)) H:=rfl
def zew{x y:Str}:GP (.str x) (.str y) H Q=Q (.bl<|decide<|x.cps.toList<y.cps.toList) H:=rfl
def zex{x:Str}{lo a:Option Int}:L4 K (.str x) lo a H Q=(x.length<=sizeLine/\Q (.str<|Txt.slice x lo a) H):=rfl
def zey:GQ K (.int i) (.int j) H Q=(CMul i j/\Q (.int<|i*j) H):=rfl
def zez:GQ K (.str z) (.int j) H Q=(0<=j/\j<=1000/\z.length<=1000/\Q (.str<|UQ z j) H):=rfl
def ze0:GQ K (.ref p) (.int j) H Q=(X7 (.ref p) (.int j) H Q\/YI K (.ref p) (.int j) H Q):=rfl
def ze1:GP (.int i) (.int j) H Q=Q (.bl<|decide<|i<j) H:=rfl
def ze2:EF (.int i) (.int j) H Q=Q (.bl<|decide<|i<=j) H:=rfl
def ze3:IN (.int i) (.int j) H Q=Q (.bl<|decide<|j<i) H:=rfl
def ze4:Q1 (.int i) (.int j) H Q=Q (.int<|i+j) H:=by simp[Q1]
end
def pvr(i:Nat)(a:X.N[i]? =some x:=by rfl)(b:T3 X.env.scope x:=by first|exact Fo rfl|exact zj (Fo rfl)|exact zj<|zj rfl)(hd:(x ==("__debug__":Str))=false:=by decide)
  (c:(x ==("__classdict__":Str))=false:=by decide):PE X (.Name x pos) (D7 i):=by
 rw[zer];exact pR a b hd c
abbrev AW(Q:VK):Ends:={ nx:=λ_ H'=>Q .non H',rt:=Q }
abbrev C1(a:wH)(b:St):St:=a.map λi=>(b[i]?).join
section
variable{K:W.Frag}{te:TE}{A5:wH}{σ:St}{H:Hp}{Q:VK}
def NF{lo:Int}{n:Nat}(j:n<=sizeLine)(Pv:Nat->eI->Hp->Prop)(h0:Pv 0 [] H)(hs:∀ i ys H,i<n->ys.length=i->Pv i ys H->te (some (.int<|lo+i)::C1 A5 σ) H λy g=>Pv (i+1) (ys++[y]) g)
  (hd:∀ ys H,ys.length=n->Pv n ys H->∀ p,H p=none->Q (.ref p) (upd H p<|.lst ys)) :
  EN (FR lo n) (AF 0) CQ te 1 A5 σ H Q:=by
 refine{λi m a ys H=>m=n-i/\i<=n/\ys.length=i/\(∃ d,a=d::C1 _ σ)/\Pv i ys H,{n,rfl,bt _,rfl,⟨_,rfl⟩,h0},?_};intro i m a ys H [rfl,l,b,[d,rfl],p];by_cases c:i<n;refine .inr {c,by lia,λx H' y=>?_};let[e,y]:=y;subst e y;refine{_,λy o q=>{_,cq ‹_›,rfl,c,?_,⟨_,rfl⟩,q},hs i ys _ c b p};rw[ae,ix,b]
 have e:i=n:=by lia
 subst e;exact .inl {π _,hd ys H b p}
def UT(o:xs.length<=sizeLine)(Pv:Nat->eI->Hp->Prop)(h0:Pv 0 [] H)(j:∀ i ys H,i<=xs.length->Pv i ys H->SqL K H b xs)
  (hs:∀ i x ys H,xs[i]? =some x->ys.length=i->Pv i ys H->te (some x::C1 A5 σ) H λy l=>Pv (i+1) (ys++[y]) l)
  (hd:∀ ys H,ys.length=xs.length->Pv xs.length ys H->∀ p,H p=none->Q (.ref p) (upd H p<|.lst ys)) :
  EN (GK K b) (AF 0) CQ te 1 A5 σ H Q:=by
 refine{λi m a ys H=>m=xs.length-i/\i<=xs.length/\ys.length=i/\(∃ d,a=d::C1 _ σ)/\Pv i ys H,{xs.length,rfl,bt _,rfl,⟨_,rfl⟩,h0},?_};intro i m a ys H [rfl,n,c,[d,rfl],p]
 have q:=j i ys H n p;by_cases g:i<xs.length;refine .inr {x2 xs (xs[i]) {q,by simp[g]},by lia,λx H' y=>?_};let[rfl,y]:=y;refine{_,λy r q=>{_,cq ‹_›,rfl,g,?_,⟨_,rfl⟩,q},hs i x ys _ (y xs q) c p};rw[ae,ix,c]
 have e:i=xs.length:=by lia
 subst e;exact .inl {{xs,q,π _},hd ys H c p}
def ze6{lo:Int}{n:Nat}(c:n<=sizeLine)(f:Nat->V)(hs:∀ i,i<n->∀ b:VK,b (f i) H->te (some (.int<|lo+i)::C1 A5 σ) H b)
  (hd:∀ p,H p=none->Q (.ref p) (upd H p<|.lst<|(ο n).map f)) :
  EN (FR lo n) (AF 0) CQ te 1 A5 σ H Q:=by
 refine NF c (λi ys H'=>H'=H/\ys=(ο i).map f) ⟨rfl,rfl⟩ (λi ys H' d e a=>?_) (λys H' e a=>?_);let[rfl,g]:=a;refine hs i d _ {rfl,?_};rw[g,bx,ak];rfl;let[rfl,rfl]:=a;exact hd
def HS(Pv:yB)(h0:Pv 0 σ H)(c:∀ i σ H,i<=xs.length->Pv i σ H->SqL K H b xs)
  (hs:∀ i x σ H,xs[i]? =some x->Pv i σ H->g x σ H λa d=>e { D with nx:=Pv<|i+1,ct:=Pv<|i+1,bk:=D.nx } a d) (hd:∀ σ H,Pv xs.length σ H->D.nx σ H):HR (GK K b) g e D σ H:=Zd Pv h0 c hs hd
def sT(Pv:yB)(h0:Pv 0 σ H)(c:∀ i σ H,i<=xs.length->Pv i σ H->SqT K H b xs)
  (hs:∀ i x σ H,xs[i]? =some x->Pv i σ H->g x σ H λa d=>e { D with nx:=Pv<|i+1,ct:=Pv<|i+1,bk:=D.nx } a d) (hd:∀ σ H,Pv xs.length σ H->D.nx σ H):HR (JE K b) g e D σ H:=Zg Pv h0 c hs hd
def YL{lo:Int}{n:Nat}{g:TG}{b:TS}{D:Ends}(Pv:yB)(h0:Pv 0 σ H)
  (hs:∀ i σ H,i<n->Pv i σ H->g (.int<|lo+i) σ H λa c=>b { D with nx:=Pv<|i+1,ct:=Pv<|i+1,bk:=D.nx } a c) (hd:∀ σ H,Pv n σ H->D.nx σ H):HR (FR lo n) g b D σ H:=Zh Pv h0 hs hd
end
def ze7{K:W.Frag}{H:Hp}{x y:V}{t c:Value}{b:Bool}{Q:VK}(ty:TyX K H x t)(a:ClsV y c)(k:W.kitOne K t c=some b)(q:Q (.bl b) H):YK K [x,y] H Q:=x4 x y t b {rfl,ty,.inl ⟨c,a,k⟩,q}
def AL(h:H p=none):Same H (upd H p o):=λb u e=>by rw[AJ (BJ e h)];exact e
theorem KQ{α a :Type}{F: α -> a ->Prop}:∀ {l:List α} {m:List a} {i:Nat} {y: a},Paired F l m->m[i]? =some y->∃ x,l[i]? =some x/\F x y
 |_,_,_,_,.nil,e=>by simp at e
 |_,_,0,_,.cons r _,e=>by simp at e;subst e;exact⟨_,rfl,r⟩
 |_,_,i+1,y,.cons _ t,e=>by
  let[u,h1,h2]:=KQ   t (e);exact⟨u,h1,h2⟩
def ze8{α a :Type}{F: α -> a ->Prop}{x: α}{y: a}(r:F x y):∀ {l:List α} {m:List a} (i:Nat),Paired F l m->Paired F (l.set i x) (m.set i y):=λi h=>by
 induction h generalizing i with
 |nil=>exact .nil
 |cons q t b=>cases i with
  |zero=>exact .cons r t
  |succ i=>exact .cons q<|b i
def CJ{K:W.Frag}{H:Hp}{p:Addr}{xs:eI}{i:Int}{n:Nat}{v:V}{Q:VK}(h:SqL K H p xs)(a:i=n)(b:xs[n]? =some v)(q:Q v H):BZ K (.ref p) (.int i) H Q :=
 .inl (x4 p xs i v {rfl,rfl,h,a ▸ UH b,q})
def BP(n:Nat)(h:n<=100000):n<=sizeLine:=υ h (by decide)
theorem sU{α :Type}(x: α):∀ w:Nat,(az w [x]).flatten=az w x
 |0=>rfl
 |w+1=>by rw[kz,ii,sU x w];rfl
def KR(h:fs.length+1<n):(BO f v fs).length<n:=cg (QY f v fs) h
def ItK(k:Bool)(h:Heap)(j a:Addr)(i:Nat):Prop:=if k then h.IsListIter j a i else h.IsTupleIter j a i
def sV(k:Bool)(h:Heap)(a:Addr)(xs:Array Value):Prop:=if k then h.IsList a xs else h.IsTuple a xs
def ItK.up(x:ItK k h j a i)(q:∀ o,h.get? j=some o->h'.get? j=some o):ItK k h' j a i:=by
 cases k<;>exact(let ⟨o,e,r⟩:=x;{o,q o e,r})
def ItK.ob(x:ItK k h j a i):∃ o,h.get? j=some o/\o.data=.fields #[.ref a,.int i 0]:=by
 cases k<;>exact(let ⟨o,e,_,r⟩:=x;⟨o,e,r⟩)
section
variable{P:bq}{w:World}{A:de}{E:yC}{s:ν}
def ze9(z:A.handled=none)(c:s.heap.IsTupleIter j t i)(d:s.heap.IsTuple t g)(e:g[i]? =none)
  (q:∀ h' x,nq j s.heap h'->(∃ o,h'.get? x=some o/\o.cls=.type "StopIteration")->E (.ref x) { s with heap:=h' }):wpAny (model P w) A (wo<|.ref j) Q E s:=by
 let[l,a,p,b]:=id c;let[r,f1,y,n,f2]:=d;refine δ<|e_  c.typeIs F.slot_tuple_iterator_next (fj F.slot_tuple_iterator_next c.typeIs F.entry_tuple_iterator_next ?_<|F.args_tuple_iterator_next_1 _)
 show wpAny _ _ (field _ 0>>=_) _ _ s;refine δ<|jb a b  rfl (δ<|jb a b  rfl (δ<|zl f1 f2 ?_));simp only[cj,e];refine δ (sj (δ (t9 a b (by simp) (δ (δ (fu (δ  (Hi  (by first|rfl|(rfl)) (fu (δ<|wpAny_handled ?_) (by size_fits)))) (by size_fits)))))));rw[z];exact δ<|ρ<|wpAny_throw<|q _ _ (((fq ..).extBut.push _).push _) {_,aj _ rfl,rfl}
def zfa(z:A.handled=none)(c:ItK k s.heap j t i)(d:sV k s.heap t a)(e:a[i]? =none)
  (q:∀ h' x,nq j s.heap h'->(∃ o,h'.get? x=some o/\o.cls=.type "StopIteration")->E (.ref x) { s with heap:=h' }):wpAny (model P w) A (wo<|.ref j) Q E s:=by
 cases k;exact ze9 z c d e q;exact wpAny_nextOf_list_end z c d e q
end
section
variable{P:bq}{w:World}{A:de}{E:yC}{s:ν}
end
def Inv.turnedS{X:Cx}{g:eB}{j:St}{H:Hp}{s:ν}{h':Heap}{t':Nat}{i:eF}(I:Inv X g j H s)(k:∀ b o,b∉i->s.heap.get? b=some o->h'.get? b=some o)(hf:∀ b∈i,FpOk X g H b):Inv X g j H { s with heap:=h',toks:=t' }:=by
 have d:∀ b u,H b=some u->b∉i:=λb u e z=>by rw[(hf b z).1]at e;cases e
 refine I.step    (λb l=>?_) (λb o y y a e y=>k b o a e) (λb o y y a e y=>{_,k b o a e}) (λy y y y n=>n)
  (λb o a e=>{o,k b o a e}) (λy y e=>e) (λy y y e=>e) (λb ps e=>{#[],by rw[e];simp}) (λm p=>?_) (λb u e=>?_) I.bare
 let[y,f1,y,w,x,A]:=hf b l;exact⟨w,f1,x,A⟩;revert p;apply u3;intro o B D [E,r];exact x3 o B D {k _ o (λz=>(hf _ z).2.1 rfl) E,r};refine(I.hok b u e).stay (λc v a q=>k c v ?_ q) (λy q=>q) λy y q=>q;let z||z:=a
 rw[z];exact d b u e;exact d c _ z
def YM(K:W.Frag)(k:Bool)(H:Hp)(a:Addr)(xs:eI):Prop:=if k then SqL K H a xs else SqT K H a xs
def Inv.seqK(I:Inv X d e H s)(q:YM X.K k H a xs):∃ b,Vals xs b/\sV k s.heap a b.toArray:=by
 cases k;let[b,c,p,z]:=I.tuple q;exact⟨_,c,p⟩;let[b,c,p,z]:=I.list q;exact⟨_,c,p.isList⟩
def Inv.seqK_inj(I:Inv X b c H s)(p:YM X.K k H a xs)(q:YM X.K k H a ys):xs=ys:=by
 cases k;exact I.tuple_inj p q;exact I.list_inj p q
structure z8r(z T U j j':Addr):Prop where
 a1:T≠z
 a2:U≠z
 a3:j≠z
 a4:j'≠z
 a5:T≠U
 a6:T≠j
 a7:T≠j'
 a8:U≠j
 a9:U≠j'
 a10:j≠j'
def FpOk.upd(f:FpOk X c H b)(n:b≠a):FpOk X c (upd H a o) b:={(AJ n).trans f.1,f.2}
section
variable{X:Cx}{tg:Expr}
end
def RD(z:Str):It:={λi _=>i<z.cps.size,λi H x H'=>H'=H/\∃ c,z.cps[i]? =some c/\x=.str {#[c]},λi _=>z.cps.size<=i}
def sW{P:bq}{w:World}{K:PySem.W.Frag}{M:Expr}{it:Addr}{z:Str}{t:Tok}{nm:String}(N:["enumerate","zip","dict_itemiterator","dict_reverseitemiterator","odict_iterator","itertools.zip_longest","itertools.pairwise"].contains nm=false)
  (W:∀ A:de,A.handled=none->Walks P w A it [it] [it] z.cps.size (SignAt z) (λi h=>h.IsStrIter it nm z t i)) (sf:∀ (A:de) (i:Nat) (s:ν) (Q:yC) (E:yC),s.heap.IsStrIter it nm z t i->Q (.ref it) s->wpAny (model P w) A (Fe<|.ref it) Q E s) :
  LK P w K M (RD z) [it] it (λi h=>i<=z.cps.size/\h.IsStrIter it nm z t i) where
 mem:=by simp
 obj:=λi h ⟨_,o,e,c,d⟩ b a=>by
  have O:b=it:=by simpa using a
  subst O;exact{o,e,λv q=>by rw[d]at q;cases q}
 keep:=λi h h' ⟨l,o,e,r⟩ k=>{l,o,k it (by simp) o e,r}
 item:=by
  intro X T U Y n i AA s L H E I hf ⟨y,st⟩ j;let[p,f1,f2,x,B,D]:=hf it (by simp);refine(W _<|I.ok.hd n).item i s _ _ j st λv h' tk hv g J=>?_;revert hv;apply u2;have I1:Inv X _ L H { s with heap:=h',toks:=tk }:=I.turned (λb o a e=>J b o (by simpa using a) e) p f1 x B D;intro c u [hx,rfl];let[o,e,c1,d]:=id g;exact{_,rfl,QU  e c1 d N (x2 (.str _) H {I1,⟨u,rfl⟩,⟨rfl,c,hx,rfl⟩,⟨j,g⟩,λb a=>(hf b a).1})}
 done:=by
  intro X T U Y n i AA s L H E I hf ⟨l,st⟩ j;let[p,f1,f2,x,B,D]:=hf it (by simp)
  have e:=jz l j;subst e;exact(W _<|I.ok.hd n).done s _ _ st λh' tk J=>{rfl,I.turned (λb o a e=>J b o (by simpa using a) e) p f1 x B D}
 self:=λA i s Q E st h=>sf A i s Q E st.2 h
theorem sX:∀ bs:List Bool,(ο bs.length).all (λi=>bs.getD i false)=bs.all id
 | []=>rfl
 |b::t=>by
  rw[cf,yk,uv,C_,uv,<-(sX t)]
  rfl
def OK(a:TE):TI:=λb H R=>a b H λx c=>∃ z,x=.str z/\R (RD z) c
section
variable{X:Cx}{tg:Expr}
def zfb{l:Expr}{n:TE}(u:PE X l n):PI X tg l (OK n):=by
 refine λD s w H R I h=>AU (u _ s w H _ I h) λv p d=>?_;let[x,g,c,y,[z,rfl,q]]:=d;let[t,rfl]:=y
 have a:∀ b∈[p.heap.objs.size],FpOk X _ g b:=λb B=>by
  have e:b=p.heap.objs.size:=by simpa using B
  subst e;exact c.fpOk (π _) (c.hok.fresh<|π _)
 cases r:z.cps.all _;refine wpAny_pyIter_wide r (x5 _ _ _ _ g {rfl,c.kept  λb o e=>ξ _ e,sW   (by decide) (λA j=>Walks.strWide j _ z t) (λA i s Q E st h=>wpAny_pyIter_striter_wide st h),{bt _,_,aj _ rfl,rfl,rfl},a,q});refine wpAny_pyIter_ascii r (x5 _ _ _ _ g {rfl,c.kept  λb o e=>ξ _ e,sW   (by decide) (λA j=>Walks.strAscii j _ z t) (λA i s Q E st h=>wpAny_pyIter_striter_ascii st h),{bt _,_,aj _ rfl,rfl,rfl},a,q})
def RE(K:W.Frag):eI->Hp->VK->Prop:=λxs H Q=>∃ x,xs=[.str x]/\x.length=1/\Q (.int (x.cps.getD 0 0:Nat)) H
def zfc:EL X (.builtin "ord") (RE X.K):=zak
def NG(K:W.Frag):eI->Hp->VK->Prop:=λxs H Q=>∃ (p:Addr) (bs:List Bool),xs=[.ref p]/\SqL K H p (bs.map V.bl)/\Q (.bl<|bs.all id) H
def zfd(B:X.calm=true):EL X (.builtin "all") (NG X.K):=by
 intro N s O H xs us Q I r h;revert h;apply u2;intro p bs [rfl,D,q];let[l,n,g,hz]:=I.list D;let[u,rfl,rfl]:=G6 r
 have a:=n.length
 have j:p≠s.heap.objs.size:=by
  let[o,e,z]:=g.isList;exact bm<|av e
 refine call_all_walk<|wz g.isList<|x7 _ _ _ _ _ _ (λi=>bs.getD i false) {rfl,Le (show X.A.in1.handled=none from I.ok.hd B) _ p j _,{{_,aj _ rfl,rfl,rfl},g.isList.push _},?_,?_};intro i v E J T c d
 have c:l[i]? =some v:=by simpa using c
 rw[ε]at a;obtain⟨b,w⟩:∃ b,bs[i]? =some b:={_,ι<|a ▸ ((η.mp c).1)}
 let[u,x,L]:=n.get   (by rw[ψ,w];rfl);rw[c]at x;cases (L)
 have e:bs.getD i false=b:=by rw[vz,w];rfl
 cases x
 have d:J (bs.getD i _) E:=d;rw[e]at d;exact ρ d;intro h' tk M
 have e:(ο l.toArray.size).all (λi=>bs.getD i false)=bs.all id:=by
  rw[ε]at a;rw[aw,<-a];exact sX bs
 rw[e];exact x2 (.bl _) H {I.kept  λb o y=>M b o (by simpa using bm (av y)) (ξ _ y),rfl,q}
end
def zfe{K:W.Frag}{x:Str}{H:Hp}{Q:VK}:RE K [.str x] H Q=(x.length=1/\Q (.int (x.cps.getD 0 0:Nat)) H):=by simp[RE]
section
variable{P:bq}{w:World}{A:de}{E:yC}{s:ν}
end
section
variable{X:Cx}
end
def zff:BY (OK b) g c d k e a H Q=(b a H λx i=>∃ z,x=.str z/\EN (RD z) g c d k e a i Q):=rfl
def zfg(s:z.cps.size<=sizeLine)(Pv:Nat->eI->Hp->Prop)(h0:Pv 0 [] H)(hs:∀ i c ys H,z.cps[i]? =some c->ys.length=i->Pv i ys H->l (some (.str {#[c]})::C1 n d) H λy o=>Pv (i+1) (ys++[y]) o)
  (hd:∀ ys H,ys.length=z.cps.size->Pv z.cps.size ys H->∀ p,H p=none->Q (.ref p) (upd H p<|.lst ys)):EN (RD z) (AF 0) CQ l 1 n d H Q:=by
 refine{λi m a ys H=>m=z.cps.size-i/\i<=z.cps.size/\ys.length=i/\(∃ g,a=g::C1 _ d)/\Pv i ys H,{z.cps.size,rfl,bt _,rfl,⟨_,rfl⟩,h0},?_};intro i m a ys H [rfl,u,b,[g,rfl],p];by_cases j:i<z.cps.size;refine .inr {j,by lia,λx H' y=>?_};let[e,c,r,y]:=y;subst e y;refine{_,λy v q=>{_,cq ‹_›,rfl,j,?_,⟨_,rfl⟩,q},hs i c ys _ r b p};rw[ae,ix,b]
 have e:i=z.cps.size:=by lia
 subst e;exact .inl {π _,hd ys H b p}
open PySem
abbrev JJ(l:wH):Prop:=l.Pairwise (· <·)
def RF{l:wH}(R:JJ l){i k a b:Nat}(h:i<k)(c:l[i]? =some a)(d:l[k]? =some b):a<b:=by
 let[h2,rfl]:=η.mp d;let[h1,rfl]:=η.mp c;exact o_.mp R i k h1 h2 h
structure Below(xs:Array Nat)(j r:Nat):Prop where
 le:r<=xs.size
 lo:∀ i v,i<r->xs.toList[i]? =some v->v<j
 hi:∀ i v,r<=i->xs.toList[i]? =some v->j<=v
theorem YN{xs:Array Nat}(R:JJ xs.toList):∀ (d lo c:Nat),lo<=c->c<=xs.size->c-lo<=d->(∀ i v,i<lo->xs.toList[i]? =some v->v<j)->(∀ i v,c<=i->xs.toList[i]? =some v->j<=v) ->
  Below xs j (De xs j d lo c)
 |0,lo,c,h1,h2,h3,a,b=>by
  have e:lo=c:=by lia
  subst e;exact⟨h2,a,b⟩
 |d+1,lo,c,h1,h2,h3,a,b=>by
  unfold De;by_cases p:lo<c;rw[if_pos p]
  have o:(lo+c)/2<xs.size:=by lia
  have r:xs.getD ((lo+c)/2) j=xs[(lo+c)/2]:=by simp[o]
  have l:xs.toList[(lo+c)/2]? =some (xs[(lo+c)/2]):=by simp[o]
  simp only[r];split;rename_i n;refine YN R _ _ _ (by omega) h2 (by omega) (λi v g e=>?_) b;by_cases q:i=(lo+c)/2;subst q;rw[l]at e;cases e;exact n;exact yj (RF R (show i<(lo+c)/2 by exact lz (du g) q) e l) n;rename_i n;refine YN R _ _ _ (by omega) (ka o) (by omega) a λi v g e=>?_;by_cases q:i=(lo+c)/2;subst q;rw[l]at e;cases e;exact cm n
  have:=RF R (show(lo+c)/2<i by lia) l e
  lia
  rw[if_neg p]
  have e:lo=c:=by lia
  subst e;exact⟨h2,a,b⟩
def YO(R:JJ xs.toList):Below xs j (jq xs j) :=
 YN R _ _ _ (bt _) (π _) (π _) (λz z h=>absurd h<|me _) λi v h e=>by
  rw[bd (h)]at e;cases e
def Below.uniq(a:Below xs j r)(b:Below xs j c):r=c:=by
 let h||h||h:=Df r c
 have hs:=ω h b.le
 have e:xs.toList[r]? =some (xs[r]):=by simp[hs]
 have:=b.lo _ _ h e
 have:=a.hi _ _ (π _) e;omega;exact h
 have hs:=ω h a.le
 have e:xs.toList[c]? =some (xs[c]):=by simp[hs]
 have:=a.lo _ _ h e
 have:=b.hi _ _ (π _) e;omega
def NotIn(t:SetTable)(j:Nat):Prop:=t.place[jq t.place j]? ≠some j
def zfh(h:t.slot j=.empty):NotIn t j:=λe=>by
 unfold Jf at h;simp only[e,beq_self_eq_true]at h;cases h
def zfi(h:t.slot j=.dummy):NotIn t j:=λe=>by
 unfold Jf at h;simp only[e,beq_self_eq_true]at h;cases h
def sY(t:SetTable)(p:Iv):(t.advance p).dummy=p.dummy:=by
 unfold SetTable.advance;split<;>rfl
theorem YQ:∀ (a:Nat) (p:Iv) (j:Nat) (d:Option Nat),Di t f h a p=some (.empty j d)->(∀ x,p.dummy=some x->NotIn t x)->NotIn t (d.getD j)
 |0,p,j,d,e,_=>by cases e
 |a+1,p,j,d,e,hd=>by
  unfold Di at e;split at e;rename_i hs;cases e;cases q:p.dummy with
  |none=>exact zfh hs
  |some x=>exact hd x q
  rename_i hs;refine YQ _ _ j d e λx b=>?_;rw[sY]at b;obtain rfl:=μ b;exact zfi hs;split at e;cases e;exact YQ _ _ j d e λx b=>by rw[sY]at b;exact hd x b
set_option tactic.hygienic true in
def zfj(e:t.freeSlot h=some (s,b)):NotIn t s:=by
 unfold SetTable.freeSlot at e;split at e
 ·rename_i j d a;cases e;refine YQ _ _ _ _ a λx c=>?_;cases c
 ·cases e
def zfk(n:Nat):JJ (Array.range n).toList:=by
 rw[Array.toList_range];exact ip
def zfl{t:SetTable}(R:JJ t.place.toList)(h:NotIn t j):JJ (t.put j).1.place.toList:=by
 have b:=YO (j:=j) R
 show JJ (SetTable.insertAt _ _ j).toList;rw[SetTable.toList_insertAt]
 have a:∀ v∈t.place.toList.take (jq t.place j),v<j:=λv l=>by
  let[i,d,e]:=jf l;refine b.lo i v (by rw[cz]at d;lia) ?_;rw[<-e];simp only[Dn];exact ι _
 have c:∀ v∈t.place.toList.drop _,j<v:=λv l=>by
  let[i,d,e]:=jf l
  have g:t.place.toList[jq t.place j+i]? =some v:=by
   rw[<-Bn,ι d,e]
  by_cases q:j=v;subst q
  have z:i=0:=by
   by_cases z:i=0;exact z
   have r:jq t.place j<t.place.toList.length:=by
    rw[ic]at d;lia
   have o:=ι r
   have:=b.hi _ _ (π _) o
   have:=RF R (show jq _ j<jq _ j+i by lia) o g
   lia
  subst z;rw[jt]at g;exact absurd g h;exact lz (b.hi _ _ (ui _ _) g) q
 refine zm.mpr {R.sublist<|Ce ..,gb.mpr {c,R.sublist<|List.drop_sublist ..},λx p y n=>?_};let rfl||n:=af.mp n
 exact a x p;exact yj (a x p) (c y n)
structure Led(led:Bool)(t:SetTable):Prop where
 rise:JJ t.place.toList
 led:t.led=led
def Led.standIn{led:Bool}{t:SetTable}(h:t.led=led)(n:Nat):Led led (t.standIn n):={zfk n,h}
def Led.or{led:Bool}{t:SetTable}(h:Led led t)(n:Nat):Led led (t.orStandIn n):=by
 unfold SetTable.orStandIn;split;exact h;exact .standIn h.led n
set_option tactic.hygienic true in
def Led.layNew{led:Bool}{t:SetTable}(L:Led led t)(a:Array (Int × Value))(h:Int)(x:Value):Led led (layNew t a h x).2.1:=by
 unfold PySem.layNew;split
 ·rename_i slot b e;exact Led.or {zfl L.rise<|zfj e,L.led} _
 ·exact .standIn L.led _
def zfm(owner:Array (Option Nat))(m:Nat):JJ (((ο m).filterMap λj=>(owner.getD j none).map (j,·)).map (·.1)):=by
 rw[List.map_filterMap];refine(ip ).filterMap _ λa b c x d y e=>?_;simp only[zn,ai]at d e;let[z,z,rfl]:=e;let[z,z,rfl]:=d;exact c
set_option tactic.hygienic true in
def Led.relayAll{led:Bool}{t:SetTable}(h:t.led=led)(L:Led led t)(b:Array (Int × Value))(a:Nat):Led led (Do t b a).2.1:=by
 unfold PySem.relayAll;split
 ·rename_i t' order e;dsimp only;split
  ·unfold SetTable.relaid SetTable.laid at e;simp only[Option.bind_eq_bind,xx,Option.pure_def,w_,Prod.mk.injEq]at e;let[owner,_,rfl,_]:=e;exact{by simpa using zfm owner _,h}
  ·exact .standIn h _
 ·exact .standIn h _
def Led.plainOff{led:Bool}{t:SetTable}(L:Led led t):Led led { t with plain:=false }:=⟨L.rise,L.led⟩
def Led.fresh(led:Bool):Led led (.fresh 0 0 led):=⟨Cs,rfl⟩
def RG(xs:Array Nat):Nat->Nat
 |0=>0
 |i+1=>xs.getD i 0+1
def zfn{xs:Array Nat}(R:JJ xs.toList):∀ {i:Nat},i<=xs.size->jq xs (RG xs i)=i
 |0,_=>(YO R).uniq {bt _,λ_ _ h=>absurd h<|me _,λ_ _ _ _=>bt _}
 |i+1,b=>(YO R).uniq ⟨b,λk v c e=>by
   have a:i<xs.size:=b
   have g:xs.getD i 0=xs[i]:=by simp[a]
   have d:xs.toList[i]? =some xs[i]:=by simp[a]
   show v<xs.getD i 0+1;rw[g];by_cases q:k=i;subst q;rw[d]at e;obtain rfl:=μ e;exact fh _;exact ck (RF R (show k<i by exact lz (du c) q) e d),λk v c e=>by
   have a:i<xs.size:=b;exact RF R (show i<k by exact c) (by simp[a]) e⟩
theorem sZ{α :Type}(next:Nat->Nat):∀ (a k:Nat) (left:List α) (out:Array α),left.length=a->og (Dr next a k left out).toList (out.toList++left)
 |0,k,left,out,h=>by
  rw[fb.mp h];unfold Dr;simp
 |a+1,k,left,out,h=>by
  have b:next k%left.length<left.length:=sq _ (by lia);unfold Dr;rw[ι b];refine(sZ _ _ _ _ _ (by rw[v_ b];lia)).trans ?_;rw[Ds,dk];refine List.Perm.append_left _ ?_;rw[kx]
  show og (left[next k%left.length]::(left.take _++left.drop _)) _;refine Fu.symm.trans ?_;rw[<-jv b,ju]
def zfo{α :Type}(next:Nat->Nat)(xs:Array α):og (Ju next xs).toList xs.toList:=(sZ _ _ 0 _ _<|rfl)
end L2
namespace L2
open PySem PyProof.Rows
def leads(w:World):Bool:= !w.params.followText "set-order"
def iv:Value->Int
 |.int n _=>n
 |_=>0
def IntSet(P:bq)(w:World)(h:Heap)(a:Addr)(c:yG):Prop :=
 ∃ (o:Obj) (b:Array (Int × Value)) (d:Nat) (t:SetTable),h.get? a=some o/\o.ExactSet/\o.data=.set b d t/\zy (ky P w) b.toList /\
  og (b.toList.map λe=>iv e.2) c/\b.size<vo/\t.fits b.size=true/\Led (leads w) t
section
variable{P:bq}{w:World}{A:de}{E:yC}{s:ν}
def YR(h:zy (ky P w) a)(he:e∈a):∃ t,e.2=.int (iv e.2) t:=by
 let[[k,b,y],y]:=h e he;let[t,z]:=sy b;exact{t,by rw[z];rfl}
def tD(h:zy (ky P w) a)(he:e∈a):(ky P w).is k e.2=true↔iv e.2=k:=by
 let[t,z]:=YR h he;rw[z];refine{λq=>?_,λq=>?_}
 have b:Ha k (.int _ t)=true:=q;let[t',c]:=sy b;cases c;rfl;rw[<-q];exact Iw ..
def tE(h:zy (ky P w) a)(p:og (a.map λe=>iv e.2) b)(k:Int):k∈b↔∃ e∈a,(ky P w).is k e.2=true:=by
 rw[<-p.mem_iff,a_];exact{λ⟨e,he,q⟩=>{e,he,(tD h he).mpr q},(by intro[e,he,q];exact{e,he,(tD h he).mp q})}
def tF{h:Heap}{o:Obj}{i b:Array (Int × Value)}{t t':SetTable}(j:h.get? a=some o)(hex:o.ExactSet)(hd:o.data=.set i l t)
  (c:zy (ky P w) b.toList) (n:og (b.toList.map λe=>iv e.2) p) (d:b.size<vo) (hf:t'.fits b.size=true) (L:Led (leads w) t') :
  (h.update a<|Ix b t').get? a=some { o with data:=.set b (l+1) t' }/\IntSet P w (h.update a<|Ix b t') a p:=by
 have g:=(SetOf_store   j hex hd c (λk=>by rw[dt]) d hf).1;exact{g,x4 _ _ _ t' ⟨g,hex,rfl,c,n,d,hf,L⟩}
def tG{g:Bool->Sem Unit}(x:∀ (b:Bool) (p:ν) (R:Unit->ν->Prop),R () p->wpAny (model P w) A (g b) R E p){o:Obj}{y c:Array (Int × Value)}{t d:SetTable}
  (q:s.heap.get? a=some o) (hex:o.ExactSet) (hd:o.data=.set y M t) (i:zy (ky P w) c.toList) (u:og (c.toList.map λe=>iv e.2) B) (n:c.size<vo) (hf:d.fits c.size=true) (L:Led (leads w) d)
  {R:Option Bool->ν->Prop} (h:∀ h',gz a s.heap h'->IntSet P w h' a B->R (some true) { s with heap:=h' }) :
  wpAny (model P w) A (do
   storeSet a c d
   if(!N&&d.tooFull)=true then do
    g (Do d c<|nr c.size).2.2
    storeSet a (Do d c<|nr c.size).1 (Do d c<|nr c.size).2.1
    pure (some true)
   else pure (some true)) R E s:=by
 refine δ<|Dt q hd ?_<|xa n
 have j:=fq s.heap a<|Ix c d;let[g1,D]:=tF q hex hd i u n hf L;split
 have l:=relayAll_perm d c<|nr c.size
 have f2:=relayAll_fits d c<|nr c.size
 have L2:=Led.relayAll L.led L c<|nr c.size;revert l f2 L2;generalize Do d c _=r;let[H,O,Q]:=r;intro l f2 L2
 have I:H.size=c.size:=by rw[<-dg,l.length_eq,dg]
 have v:=I ▸ n;refine δ<|x _ _ _<|δ<|Dt g1 rfl ?_<|xa v;let[z,J]:=tF   g1 hex rfl (i.perm l) ((l.map _).trans u) v f2 L2;exact ρ<|h _ (j.trans<|fq ..) J;exact ρ<|h _ j D
def tH{a:yG}(h:k∈a):wa a k=a:=by
 unfold wa
 have e:(a.any λx=>x==k)=true:=dt.mpr {k,h,beq_self_eq_true k};rw[if_pos e]
def tI{a:yG}{k:Int}(h:¬ k∈a):wa a k=a++[k]:=by
 unfold wa;rw[if_neg λz=>?_];let[x,b,q]:=dt.mp z;rw[beq_iff_eq]at q;exact h<|q ▸ b
def zfp{n:yG}{Q:Bool->ν->Prop}(T:IntSet P w s.heap a n)(U:n.length+1<vo)
    (h:∀ (b:Bool) h',gz a s.heap h'->IntSet P w h' a (wa n k)->Q b { s with heap:=h' }):wpAny (model P w) A (setAddHashed a (.int k tk) ((ky P w).hash k)) Q E s:=by
  have H:(ky P w).is k (.int k tk)=true:=Iw ..
  have d:(uf k tk).scannable=true:=rfl;generalize uf k tk=x at H d;revert T;apply u4;intro o i Y t [u,hex,hd,c,v,J,hf,L]
  have CK:i.size=n.length:=by rw[<-v.length_eq,ε,dg]
  have y:iv x=k:=by let[_,z]:=sy H;rw[z];rfl
  refine fi<|δ<|ke u hd hf ?_;dsimp only;rw[byScan_of d J c];refine δ<|δ<|sj<|δ<|wpAny_setScan_of H u hd hf c ?_;cases M:i.toList.findIdx? (λe=>(ky P w).is k _)with
  |some j =>
    let[hj,pj,_]:=List.findIdx?_eq_some_iff_getElem.mp M;refine ρ<|ρ ?_;exact(h _ _ (xb a _) (x4 o i Y t {u,hex,hd,c,by rw[tH ((tE c v k).mpr {_,uj hj,pj})];exact v,J,hf,L}))
  | none =>
    have hm:¬ k∈n:=λz=>by
      let[e,he,q]:=(tE c v k).mp z
      have:=List.findIdx?_eq_none_iff.mp M e he;rw[q]at this;cases this
    have l:=layNew_perm t i ((ky P w).hash k) x
    have f1:=layNew_fits t i ((ky P w).hash k) x
    have p:=L.layNew i ((ky P w).hash k) x;revert l f1 p;generalize layNew t i _ x=r;let[N,t1,wd,gv]:=r;intro l f1 p;dsimp only at l f1 p ⊢;rw[Ds]at l
    have g:=(c.push H d).perm l
    have O:og (N.toList.map λe=>iv e.2) (wa n k):=by
      rw[tI hm];refine(l.map _).trans ?_;rw[ak,bu,vh,y];exact List.Perm.append_right _ v
    have B:N.size<vo:=by
      rw[<-dg,l.length_eq,ae,dg,CK];exact U
    have gw:∀ (b:Bool) (D:ν) (R:Unit->ν->Prop),R () D ->
        wpAny (model P w) A (match b with
          |true=>rule "set.scan.the-table-gave-way"
          |false=>pure ()) R E D:=λb D R q=>by
      cases b
      ·exact ρ q
      ·exact sj q
    refine δ<|gw _ _ _ ?_;split;refine δ ?_;rw[hashByValue_scannable 8 d];refine ρ<|tG ?_ u hex hd g O B ?_ ?_ λh' sb I=>?_;intro b D R q;cases b;exact ρ q;exact sj q;split;exact f1;exact SetTable.fits_plain_off f1;split;exact p;exact p.plainOff;exact ρ<|h _ h' sb I;refine tG ?_ u hex hd g O B f1 p λh' sb I=>?_;intro b D R q;cases b;exact ρ q;exact sj q;exact ρ<|h _ h' sb I
def IntSet.at(x:IntSet P w h a b)(k:∀ o,h.get? a=some o->h'.get? a=some o):IntSet P w h' a b:=by
 revert x;apply u4;intro o c d t [e,r];exact x4 o c d t {k _ e,r}
end
section
variable{P:bq}{w:World}{A:de}{R:Result->ν->Prop}{I:Addr}{fp wr:eF}{G:Array Bu->Array Bu->Prop}{n:Nat}{T:Nat->Value->Prop}{St:Nat->ν->Prop}
def zfq(W:WalksS P w A.in1 I fp wr G n T St)(a:Addr)(p:a∉fp)(val:Nat->Int)(x:∀ i v,T i v->∃ t,v=.int (val i) t)(g:n+1<vo):∀ (k i:Nat) (s:ν),n-i=k->i<=n->St i s ->
  IntSet P w s.heap a (wb val i)->(∀ c,Moved (a::wr) G s c->IntSet P w c.heap a (wb val n)->R (.ok<|.ret .none) c) ->
  ut (model P w) A (.builtin "set.update.loop" {[.ref a,.ref I],[]}) R s:=by
 have up:∀ b∈wr,b∈a::wr:=λb q=>τ _ q
 have d:=λz=>p<|W.sub _ z;intro k
 induction k with
 |zero =>
  intro i s y B st S q;obtain rfl:i=n:=by lia
  exact mj pi<|δ<|W.done s _ _ st λc m=>(ρ<|q c (m.mono up) (S.at λo e=>m.heap a o d e))
 |succ k D =>
  intro i s y B st S q
  have r:i<n:=by omega
  refine mj pi ?_;refine δ<|W.item i s _ _ r st λv j E l m=>?_;let[t,rfl]:=x i v E
  show wpAny _ A.in1 (tf [uf (val i) t] (setAdd a<|.int (val i) t)>>=_) _ _ j;refine δ<|fi ?_;refine fi (δ ((ky P w).pyHash (k:=val i) (Iw ..) (zfp (s:={ j with toks:=j.toks+1 }) (S.at λo e=>m.heap a o d e) (by have:=wc val i;lia) λb h' sb u=>?_)));rw[<-firstMet_succ]at u;refine ρ {xo Af _,D (i+1) _ (by omega) r (W.frame _ j _ _ l (jj _) λb g o e=>?_) u λH J L=>?_};rw[sb.2 b λz:b=a=>p<|z ▸ g];exact e
  ·refine q H (Moved.trans W.gtrans ((m.mono up).then_heap (jj _) λb o g e=>?_) J) L;rw[sb.2 b λz:b=a=>g<|z ▸ χ];exact e
end
section
variable{P:bq}{w:World}{A:de}{E:yC}{s:ν}
def zfr(h:Q (.ref s.heap.objs.size) { s with heap:=s.heap.push { cls:=.type "set",dict:=none,data:=.set #[] 0 (.fresh 0 0<|leads w) } }) :
  ut (model P w) A (.call (.builtin "set.__new__") {[.type "set",x],[]}) (wants Q E) s:=by
 refine codeAny_of_tree<|δ<|Hi (PySem.F.newCall_set_1 x) (ρ {xo PySem.F.plain_set_new _,mj PySem.F.entry_set_new ?_})
 have e:=sub_set_self
 wp_walk
 refine lb<|ρ ?_;exact δ<|wpAny_alloc<|ρ<|ρ h
end
end L2
namespace L2
open PySem PyProof.Rows
abbrev KS(f:Value)(i:Nat)(a:Addr)(n b:Nat):Obj:={ cls:=.type "set_iterator",dict:=none,data:=.fields #[f,lx i,.ref a,lx n,lx b],slots:= #[] }
def IP:Slot "set_iterator" "__next__" "set_iterator.__next__" :=
 .of (owner:="set_iterator") (n:="__next__") (by kernel_rfl) (by decide) (by decide) (by decide)
  (by first|exact .inl (by decide)|exact .inr (by decide))
  (by kernel_rfl)
def UU:entryFor table "set_iterator.__next__"=some vg.«set_iterator.__next__» :=entryFor_of_fast (by kernel_rfl)
def UV(a:Value):argsOk "set_iterator.__next__" {[a],[]}:=by
 kernel_rfl
def tJ:Slot "set_iterator" "__iter__" "set_iterator.__iter__" :=
 .of (owner:="set_iterator") (n:="__iter__") (by kernel_rfl) (by decide) (by decide) (by decide)
  (by first|exact .inl (by decide)|exact .inr (by decide))
  (by kernel_rfl)
section
variable{P:bq}{w:World}{A:de}{E:yC}{s:ν}
def zfs{it a:Addr}{e i n b nx:Nat}{x:Value}{o:Obj}{c:Array (Int × Value)}{d:Nat}{t:SetTable}{Q:Option Value->ν->Prop}(hit:s.heap.get? it=some (KS (lx e) i a n b))
  (j:s.heap.get? a=some o) (hd:o.data=.set c d t) (hf:t.fits c.size=true) (l:c.size=n)
  (hs:∀ (p:de) (r:yC) (g:Option (Value × Nat)->ν->Prop),g (some (x,nx)) s->wpAny (model P w) p (Du a e i b) g r s)
  (q:∀ h',h'.get? it=some (KS (lx nx) (i+1) a n b)->gz it s.heap h'->Q (some x) { s with heap:=h' }):wpAny (model P w) A (zb<|.ref it) Q E s:=by
 have T:s.TypeIs (.ref it) _:=⟨_,hit,rfl⟩
 refine δ<|ko<|e_  T IP (fj IP T UU (δ<|ρ<|δ<|we hit rfl<|δ<|k_ j hd hf ?_) (UV _));rw[if_neg (by rw[l];simp)];exact δ (hs _ _ _ (δ (jr hit (by simp) λh1 g1 u=>(δ (jr g1 (by simp) λh2 g2 v=>(ρ {_,rfl,ρ<|q h2 g2<|u.trans v}))))))
def tK{Q:Except Value (Option Value)->ν->Prop}(a:A.handled=none)(b:nq it s.heap h1)
  (q:∀ h' e,nq it s.heap h'->({ s with heap:=h' }:ν).TypeIs e "StopIteration"->Q (.error e) { s with heap:=h' }) :
  wpAny (model P w) A (newExc (.type "StopIteration") []>>=raiseNew (α :=Fin)) (λz z=>False) (λe=>Q<|.error e) { s with heap:=h1 }:=by
 refine δ (δ (fu (δ  (Hi  (by first|rfl|(rfl)) (fu (δ<|wpAny_handled ?_) (by size_fits)))) (by size_fits)));rw[a];refine δ<|ρ<|wpAny_throw ?_;exact q _ _ ((b.push _).push _) {_,aj _ rfl,rfl}
def zft{it a:Addr}{g i n j:Nat}{o:Obj}{c:Array (Int × Value)}{d:Nat}{t:SetTable}{Q:Option Value->ν->Prop}(u:A.handled=none)(hit:s.heap.get? it=some (KS (lx g) i a n j))
  (v:s.heap.get? a=some o) (hd:o.data=.set c d t) (hf:t.fits c.size=true) (x:c.size=n)
  (hs:∀ (y:de) (B:yC) (l:Option (Value × Nat)->ν->Prop),l none s->wpAny (model P w) y (Du a g i j) l B s)
  (q:∀ h',nq it s.heap h'->Q none { s with heap:=h' }):wpAny (model P w) A (zb<|.ref it) Q E s:=by
 have T:s.TypeIs (.ref it) _:=⟨_,hit,rfl⟩
 refine δ<|ko<|e_  T IP (fj IP T UU (δ<|ρ<|δ<|we hit rfl<|δ<|k_ v hd hf ?_) (UV _));rw[if_neg (by rw[x];simp)];refine δ (hs _ _ _ (δ (jr hit (by simp) λh1 g1 D=>?_)));exact ni (tK    (Q:=λr p=>match r with
  |.error e=>wpAny _ A (Ir e _>>=λb=>if b=true then pure _ else throw e) Q E p
  |_=>False) (u) D.extBut λh' e H I=>(δ<|om   I zo (ρ<|q _ H))) (λ_ _ z=>z.elim) (λe p z=>z)
def zfu{it a c:Addr}{i n d g:Nat}{j:Obj}{ps:Array Value}{k:Nat}{x:Int × Value}{o:Obj}{b:Array (Int × Value)}{t:SetTable}{Q:Option Value->ν->Prop}(hit:s.heap.get? it=some (KS (.ref c) i a n d))
  (l:s.heap.get? a=some o) (hd:o.data=.set b d t) (hf:t.fits b.size=true) (p:b.size=n) (r:s.heap.get? c=some j) (e:j.data=.seq ps k) (u:ps[i]? =some (lx g)) (v:b[g]? =some x)
  (q:∀ h',h'.get? it=some (KS (.ref c) (i+1) a n d)->gz it s.heap h'->Q (some x.2) { s with heap:=h' }):wpAny (model P w) A (zb<|.ref it) Q E s:=by
 have T:s.TypeIs (.ref it) _:=⟨_,hit,rfl⟩
 refine δ<|ko<|e_  T IP (fj IP T UU (δ<|ρ<|δ<|we hit rfl<|δ<|k_ l hd hf ?_) (UV _));rw[if_neg (by rw[p];simp)];refine δ<|zl r e ?_;dsimp only;rw[cj,u]
 show wpAny _ _ (setNextDrawn a _ _>>=_) _ _ s;rw[cj];refine δ<|δ<|ke l hd hf ?_;dsimp only;rw[if_neg (by simp),v];exact ρ (δ (jr hit (by simp) λh2 g2 y=>(ρ {_,rfl,ρ<|q h2 g2 y})))
def zfv{g:Obj}{o:Obj}{c:Array (Int × Value)}{t:SetTable}{Q:Option Value->ν->Prop}(l:A.handled=none)(hit:s.heap.get? it=some (KS (.ref p) i a n u))
  (v:s.heap.get? a=some o) (hd:o.data=.set c u t) (hf:t.fits c.size=true) (x:c.size=n) (y:s.heap.get? p=some g) (d:g.data=.seq ps k) (B:ps[i]? =none)
  (q:∀ h',nq it s.heap h'->Q none { s with heap:=h' }):wpAny (model P w) A (zb<|.ref it) Q E s:=by
 have T:s.TypeIs (.ref it) _:=⟨_,hit,rfl⟩
 refine δ<|ko<|e_  T IP (fj IP T UU (δ<|ρ<|δ<|we hit rfl<|δ<|k_ v hd hf ?_) (UV _));rw[if_neg (by rw[x];simp)];refine δ<|zl y d ?_;dsimp only;rw[cj,B];refine δ (jr hit (by simp) λh1 g1 D=>(δ (jr g1 (by simp) λh2 g2 H=>?_)));exact ni (tK (s:=s)   (Q:=λr j=>match r with
  |.error e=>wpAny _ A (Ir e _>>=λb=>if b=true then pure _ else throw e) Q E j
  |_=>False) (l) (D.trans H).extBut λh' e I J=>(δ<|om   J zo (ρ<|q _ I))) (λ_ _ z=>z.elim) (λe j z=>z)
def zfw(b:w.params.followText "set-order"=true)(c:s.heap.get? a=some o)(hd:o.data=.set d g t)(hf:t.fits d.size=true)
  (q:Q (((Ju (w.params.setOrder a g) d)[i]?).map λe=>(e.2,0)) s):wpAny (model P w) A (Du a 0 i g) Q E s:=by
 refine δ<|ke c hd hf<|δ<|δ<|lb<|ρ ?_
 show wpAny _ _ (if w.params.followText _=true then _ else _) _ _ s;rw[if_pos b,if_neg (by simp)];refine δ<|δ<|ke c hd hf<|δ<|δ<|lb<|ρ ?_
 show wpAny _ _ (if w.params.followText _=true then _ else _) _ _ s;rw[if_pos b];exact δ<|lb<|ρ<|ρ q
def zfx(d:w.params.followText "set-order"=false)(g:s.heap.get? a=some o)(hd:o.data=.set b j t)(hf:t.fits b.size=true)
  (L:Led (leads w) t) (l:(!t.plain&&decide (b.size > 1))=false) (n:i<=b.size) (q:Q ((b[i]?).map λe=>(e.2,RG t.place<|i+1)) s):wpAny (model P w) A (Du a (RG t.place i) i j) Q E s:=by
 have hz:t.place.size=b.size:=by
  unfold SetTable.fits at hf;simp only[bv,beq_iff_eq]at hf;exact hf.1
 refine δ<|ke g hd hf<|δ<|δ<|lb<|ρ ?_
 show wpAny _ _ (if w.params.followText _=true then _ else _) _ _ s
 have ld:t.led=true:=by rw[L.led];unfold leads;rw[d];rfl
 rw[if_neg (show ¬ w.params.followText _=true by rw[d];exact ay)]
 show wpAny _ _ (if(!t.plain&&decide _)=true then _ else _) _ _ s;rw[if_neg (by rw[l];exact ay)];refine δ (m:=if(!t.led && !b.isEmpty)=true then _ else _) ?_;rw[if_neg (by rw[ld];simp)];refine ρ<|ρ ?_;rw[zfn L.rise (υ n<|ba hz.symm)];by_cases c:i<b.size
 have h2:=hz ▸ c;rw[dq _,dq h2];rw[dq c]at q
 have:RG t.place (i+1)=t.place[i]+1:=by simp[RG,h2]
 rw[this]at q;exact q;rw[yl (cm c)];rw[yl (cm c)]at q;exact q
end
end L2
namespace L2
open PySem PyProof.Rows
def zfy:entryFor table "set.__iter__"=some vg.«frozenset.__iter__» :=entryFor_alias (id':="frozenset.__iter__") (by kernel_rfl) rfl (by decide +kernel) (by kernel_rfl)
def zfz:entryFor table "set_iterator.__iter__"=some vg.«dict_keyiterator.__iter__» :=entryFor_alias (id':="dict_keyiterator.__iter__") (by kernel_rfl) rfl (by decide +kernel) (by kernel_rfl)
def zf0(a:Value):argsOk "set_iterator.__iter__" {[a],[]}:=by
 kernel_rfl
structure YS(P:bq)(w:World)(A:de)(h h1:Heap)(a I:Addr)(ms:yG):Prop where
 ex:∃ (fp:eF) (ord:wE) (ks:yG) (St:Nat->Heap->Prop),(∀ b∈fp,b=a\/h.objs.size<=b)/\Walks P w A I fp [I] ord.length (λi v=>ord[i]? =some v) St/\St 0 h1/\rg ord ks/\ks.Perm ms
 new:h.objs.size<=I
section
variable{P:bq}{w:World}{A:de}{E:yC}{s:ν}
theorem YT:∀ {a:List (Int × Value)},zy (ky P w) a->rg (a.map (·.2)) (a.map λe=>iv e.2)
 | [],_=>.nil
 |e::r,h=>by
  let[t,z]:=YR h<|χ ..;rw[bu,z];exact .cons _ _<|YT h.tail
def tL(hit:s.heap.get? it=some (KS f i a n b))(q:Q (.ref it) s):wpAny (model P w) A (Fe<|.ref it) Q E s:=by
 have T:s.TypeIs (.ref it) _:=⟨_,hit,rfl⟩
 exact D_ T tJ<|fj tJ T zfz (ρ {_,rfl,x2 _ _ ⟨T,IP.lookup,q⟩}) (zf0 _)
def zf1{l:Array (Int × Value)}{t:SetTable}{o:Obj}{f:Nat->Nat}{ord:wE}(L:A.handled=none)(r:a≠I)(hd:o.data=.set l H t)(hf:t.fits l.size=true)(M:ord.length=l.size)
  (nx:∀ (s:ν),s.heap.get? a=some o->∀ (i:Nat),i<=l.size->∀ (n:de) (p:yC) (d:Option (Value × Nat)->ν->Prop),d ((ord[i]?).map λv=>(v,f<|i+1)) s->wpAny (model P w) n (Du a (f i) i H) d p s) :
  Walks P w A I [I,a] [I] ord.length (λi v=>ord[i]? =some v) (λi h=>h.get? I=some (KS (lx<|f i) i a l.size H)/\h.get? a=some o) where
 sub:=λb J=>by simp at J;simp[J]
 frame:=λj j j st k=>{k I (by simp) _ st.1,k a (by simp) _ st.2}
 item:=λi s Q E N st q=>by
  have e:=ι N;exact zfs st.1 st.2 hd hf rfl (λn p d B=>nx s st.2 i (by lia) n p d (by rw[e];exact B)) λh' g b=>(q _ h' _ e {g,b.extBut a _ r st.2} λc u D z=>b.extBut c u (λy=>D (by simp[y])) z)
 done:=λs Q E st q=>zft L st.1 st.2 hd hf rfl (λn p d B=>nx s st.2 _ (ba M) n p d (by rw[bd (π _)];exact B)) λh' x=>(q h' _ λc u D z=>x c u (λy=>D (by simp[y])) z)
 self:=λj j j j st q=>tL st.1 q
def zf2{n:Array (Int × Value)}{t:SetTable}{o J:Obj}{r:wH}{ord:wE}(N:A.handled=none)(B:a≠I)(D:d≠I)(hd:o.data=.set n O t)(hf:t.fits n.size=true)
  (l:J.data=.seq (r.map λ(i:Nat)=>lx i).toArray k) (L:ord.length=r.length) (T:∀ (i p:Nat),r[i]? =some p->∃ e:Int × Value,n[p]? =some e/\ord[i]? =some e.2) :
  Walks P w A I [I,a,d] [I] ord.length (λi v=>ord[i]? =some v) (λi h=>h.get? I=some (KS (.ref d) i a n.size O)/\h.get? a=some o/\h.get? d=some J) where
 sub:=λb M=>by simp at M;simp[M]
 frame:=λj j j st k=>{k I (by simp) _ st.1,k a (by simp) _ st.2.1,k d (by simp) _ st.2.2}
 item:=λi s Q E U st q=>by
  have e:=ι<|L ▸ U;let[x,Y,e2]:=T i _ e;exact zfu st.1 st.2.1 hd hf rfl st.2.2 l (by rw[y_,ψ,e];rfl) Y λh' g b=>(q _ h' _ e2 {g,b.extBut a _ B st.2.1,b.extBut d _ D st.2.2} λc u H z=>b.extBut c u (λy=>H (by simp[y])) z)
 done:=λs Q E st q=>zfv N st.1 st.2.1 hd hf rfl st.2.2 l (by rw[y_,ψ,bd<|ba L.symm];rfl) λh' x=>(q h' _ λc u H z=>x c u (λy=>H (by simp[y])) z)
 self:=λj j j j st q=>tL st.1 q
def zf3(a:n≠0)(q:∀ i d,i<n->Q i { s with drawn:=d }):wpAny (model P w) A (choose .order n) Q E s:=fun Γ p hΓ =>{a,(q _ _<|sq _<|sr a)}
theorem tM{α :Type}:∀ (n:Nat) (xs:List α) (s:ν) (Q:List α ->ν->Prop),xs.length=n->(∀ ys d,og ys xs->Q ys { s with drawn:=d })->wpAny (model P w) A (drawOrder n xs) Q E s
 |0,xs,s,Q,a,q=>by
  have  :=fb.mp a;subst this;exact ρ<|q [] _ .nil
 |n+1,[],s,Q,a,q=>by cases a
 |n+1,x::r,s,Q,a,q=>by
  refine δ (zf3 (by simp) λi d b=>?_);rw[ι b];refine δ (tM n _ _ _ (by rw[v_ b,a];rfl) λys c p=>(ρ<|q _ c<|(List.Perm.cons _ p).trans ?_));rw[kx];refine Fu.symm.trans ?_;rw[<-jv b,ju]
def zf4{Q:yC}(hh:A.handled=none)(S:IntSet P w s.heap a O)
    (q:∀ I h1 d1,(∀ b o,s.heap.get? b=some o->h1.get? b=some o)->YS P w A s.heap h1 a I O->Q (.ref I) { s with heap:=h1,drawn:=d1 }):wpAny (model P w) A (Fe<|.ref a) Q E s:=by
  revert S;apply u4;intro o c ep t [g,hex,hd,n,hp,B,hf,L]
  have T:s.TypeIs (.ref a) _:=⟨o,g,hex.1⟩
  have A0:=av g;refine D_ T PySem.F.slot_set_iter<|fj PySem.F.slot_set_iter T zfy (δ<|ρ<|δ<|δ<|k_ g hd hf<|ρ<|δ<|δ<|ke g hd hf<|δ<|δ<|lb<|ρ<|ρ ?_) (PySem.F.args_set_iter_1 _)
  have plain:∀ (f:Nat->Nat) (ord:List _),f 0=0->ord.length=c.size->(∃ U,rg _ U/\U.Perm O) ->
      (∀ (s:ν),s.heap.get? a=some o->∀ (i:Nat),i<=c.size->∀ (A':de) (E':yC) (Y:Option _->ν->Prop),Y ((ord[i]?).map _) s->wpAny _ A' (Du a (f i) i ep) Y E' s) ->
      YS P w A _ _ a _ O:=λf ord f0 D ⟨U,H,pk⟩ nx =>
    ⟨⟨_,_,U,_,λb B=>by
        simp only[af,bw,or_false]at B;let rfl||rfl:=B
        exact .inr<|π _;exact .inl rfl,zf1 hh (bm A0) hd hf D nx,{aj _ rfl,ξ _ g},H,pk⟩,π _⟩
  have fin:∀ (W:YS P w A _ _ a _ O),
      wpAny (model P w) A.in1 (do
        let first ← (pure<|lx 0)
        ret (← newFields _ [first,lx 0,.ref a,lx c.size,lx<|← setEpoch a])) (λfin s'=>∃ v,fin=.done (.ret v)/\∃ T' r,s'.TypeIs v T'/\Ip (.type T') _=pure (some r)/\Q v s') E s:=λW=>δ<|ρ<|δ<|Ea g hd hf<|δ<|fu<|ρ {_,rfl,x2 _ _ {{_,aj _ rfl,rfl},IP.lookup,(q _ _ _ (λb u e=>ξ _ e) W)}}
  show wpAny _ _ (if(!w.params.followText _&&(!t.plain&&decide _))=true then _ else _) _ _ s;cases ft:w.params.followText _ with
  |true =>
    have pk:=zfo (w.params.setOrder a ep) c
    have D:(Ju (w.params.setOrder a ep) c).size=c.size:=by rw[<-dg,pk.length_eq,dg]
    refine fin (plain (λj=>0) _ rfl (by rw[ε,dg,D]) {_,YT<|n.perm pk,(pk.map _).trans hp} λs1 h1 i H A' E' Y J=>(zfw ft h1 hd hf ?_));rw[ψ,jt,zn]at J;exact J
  | false =>
    cases pl:(!t.plain&&decide (c.size > 1))with
    |false =>
      refine fin (plain _ (c.toList.map (·.2)) rfl (by rw[ε,dg]) {_,YT n,hp} λs1 h1 i H A' E' Y J=>(zfx ft h1 hd hf L pl H ?_));rw[ψ,jt,zn]at J;exact J
    | true =>
      rw[if_pos (by simp)];refine δ<|tM c.size (ο c.size) s _ (ce) λys d p=>?_
      have hy:ys.length=c.size:=by rw[p.length_eq,ce]
      have M:∀ x∈ys,x<c.size:=λx hx=>ao.mp<|p.mem_iff.mp hx;refine δ (wpAny_newTuple ?_ (by rw[ε,hy];exact xa B));refine δ<|Ea (o:=o) (ξ _ g) hd hf ?_;refine δ<|fu<|ρ {_,rfl,x2 "set_iterator" _ {{_,aj _ rfl,rfl},IP.lookup,?_}};refine q _ _ d (λb u e=>ξ _<|ξ _ e) ⟨⟨_,ys.map λp=>(c[p]?.map (·.2)).getD .none,ys.map λp=>(c[p]?.map λe=>iv e.2).getD 0,_,λb B=>?_,
        zf2 hh ?_ ?_ hd hf rfl (by rw[ε]) λi p e=>?_,{aj _ rfl,ξ _<|ξ _ g,ξ _<|aj _ rfl},?_,?_⟩,?_⟩
      · simp only[af,bw,or_false]at B
        let rfl||rfl||rfl:=B
        ·right;rw[uk];exact jj _
        ·exact .inl rfl
        ·exact .inr<|π _
      ·rw[uk];exact bm<|my A0
      ·rw[uk];exact bm<|fh _
      · have N:p<c.size:=M p (θ e)
        exact{c[p],dq N,by rw[ψ,e];simp[N]}
      · have all:∀ (l:wH),(∀ x∈l,x<c.size)->rg (l.map λp=>(c[p]?.map (·.2)).getD .none) (l.map λp=>(c[p]?.map λe=>iv e.2).getD 0):=by
          intro l
          induction l with
          |nil=>exact λj=>.nil
          |cons x r ih =>
            intro D
            have hx:=D x<|χ ..;let[tk,z]:=YR n (e:=c[x]) (by simp)
            have e1:(c[x]?.map (·.2)).getD ki=uf (iv c[x].2) tk:=by rw[dq hx];exact z
            have e2:(c[x]?.map λe=>iv e.2).getD 0=iv c[x].2:=by rw[dq hx];rfl
            rw[bu,bu,e1,e2];exact .cons _ _<|ih λy hy=>D y<|τ _ hy
        exact all ys M
      · refine(p.map _).trans (List.Perm.trans (List.Perm.of_eq ?_) hp)
        refine List.ext_getElem (by simp) λi h1 h2=>?_
        have H:i<c.size:=by simpa using h1
        simp[H]
      ·rw[uk];exact jj _
def zf5(T:s.TypeIs (.ref a) "set")(q:Q false s):wpAny (model P w) A (Builtin.List.listLengthHint<|.ref a) Q E s:=by
 refine δ<|uz T PySem.F.slot_set_len.lookup ?_;generalize c:("set.__len__")=d;subst c;exact δ (om  (b:=true) T (by rw[isSubtype_type];kernel_rfl) (wpAny_ite_split (λz=>absurd z (by decide)) (λy=>(wpAny_ite_split (λy=>(δ<|ye T<|ρ q)) (λz=>absurd (by decide) z)))))
def zf6(hh:A.handled=none)(S:IntSet P w s.heap a J)(hn:J.length<=sizeLine)
  (q:∀ h' tk d vs v,(∀ b o,s.heap.get? b=some o->h'.get? b=some o)->s.heap.objs.size<=h'.objs.size->rg vs v->v.Perm J->R vs { s with heap:=h',toks:=tk,drawn:=d }):wpAny (model P w) A (collect<|.ref a) R E s:=by
 have L:=let ⟨_,_,_,_,M,_⟩:=S;av M
 refine δ<|wpAny_runValue<|mj entry_proto_collect' ?_;refine δ<|fu<|ρ {xo PySem.F.plain_list_iadd _,mj entry_list_iadd' ?_}
 show wpAny _ A.in1 (Builtin.List.listExtendWith (.ref s.heap.objs.size) (.ref a) (.ref s.heap.objs.size)) _ _ _;generalize B:s.heap.objs.size=N at L ⊢
 have O:(s.heap.push { cls:=.type "list",data:=.seq ([]:wE).toArray }).get? N=some { cls:=.type "list",data:=.seq #[] }:=B ▸ aj _ rfl
 have g:∀ b o,s.heap.get? b=some o->(s.heap.push { cls:=.type "list",data:=.seq ([]:wE).toArray }).get? b=some o:=λb o e=>ξ _ e
 have D:=S.at λo e=>g a o e
 have big:(s.heap.push { cls:=.type "list",data:=.seq ([]:wE).toArray }).objs.size=N+1:=by rw[uk,B]
 revert O g D big;generalize s.heap.push { cls:=.type "list",data:=.seq ([]:wE).toArray }=h0;intro O g D big
 have T1:∀ h':Heap,(∀ b o,h0.get? b=some o->h'.get? b=some o)->∀ tk d,({ s with heap:=h',toks:=tk,drawn:=d }:ν).TypeIs (.ref a) "set":=λh' k tk d=>by
  revert D;apply u4;intro o x x x [M,hex,x];exact{o,k _ _ M,hex.1}
 have ne:xp (.ref N) (.ref a)=false:=by
  simp only[xp,beq_eq_false_iff_ne];exact i_ L
 refine δ<|ye (T:="set") (T1 h0 (λx x e=>e) s.toks s.drawn) ?_
 have n1:(nc "set" == nc "list")=false:=by decide
 have n2:(nc "set" == nc "tuple")=false:=by decide
 simp only[ne,n1,n2,pq,l8,if_false];refine δ (zf4 (A:=A.in1) (s:={ s with heap:=h0 }) (by simpa using hh) D λI h1 Q k1 W=>?_);let[[fp,ord,v,St,U,W,st,hi,pk],Y]:=W
 have CK:ord.length=J.length:=by rw[zp hi,pk.length_eq]
 have Y:=big ▸ Y;refine δ<|fi<|zf5 (T1 h1 k1 s.toks Q) ?_;refine δ<|sj<|δ ?_
 have g1:=k1 _ _ O
 have g2:=d_ (lw (·.push ki)) g1 rfl;refine δ (yu (s:={ s with heap:=h1,drawn:=Q }) g1 rfl (yu (hz:=by seq_fits) g2 rfl ?_))
 have oth:∀ b o,b≠N->h1.get? b=some o->((h1.update N (lw (·.push ki))).update N (lw (·.pop))).get? b=some o:=λb o n e =>
  (cy _ _<|fg n).trans ((cy _ _<|fg n).trans e)
 have p:N∉fp:=λz=>by
  let y||y:=U N z
  ·exact i_ L y
  ·have y':h0.objs.size<=N:=y;rw[big]at y';exact absurd y'<|Nat.not_succ_le_self _
 refine ρ {xo PySem.F.plain_extend_loop _,(codeAny_extend_loopS W.toS (by rw[CK];exact hn) N p (.ref N) ord.length 0 _ #[] _ rfl (bt _) (W.frame 0 _ _ st λb n o e=>oth b o (λz=>p<|z ▸ n) e) (d_ (lw (·.pop)) g2 rfl) (ItemsOf.nil _) λs' H c m g4 j=>?_)};refine δ<|wpAny_load g4 ?_;refine ρ ?_
 have r:H.toList=ord:=by
  refine xc λi=>?_;by_cases l:i<ord.length
  ·have h3:i<H.size:=by rw[j.1];exact l
   have:=j.2 i H[i] (dq h3);rw[jt,dq h3,this]
  ·have e1:H.toList[i]? =none:=bd (by rw[dg,j.1];exact cm l)
   have e2:ord[i]? =none:=bd<|cm l;rw[e1,e2]
 rw[r];let[h3,gn3,u,tk3,os3]:=s'
 have a1:gn3=s.gens:=m.gens
 have a2:u=Q:=m.drawn
 have a3:os3=s.os:=m.os;subst a1;subst a2;subst a3;refine q _ _ u ord v (λb o e=>?_) (by rw[B];exact ka<|av g4) hi pk
 have n:b<N:=B ▸ av e;refine m.heap b o (λz=>?_) (oth b o (bm n) (k1 _ _<|g _ _ e));simp only[af,bw,or_false]at z;let z||z:=z
 ·exact bm n z
 ·exact bm (ω (my n) Y) z
def zf7(u:A.handled=none)(S:IntSet P w s.heap a j)(l:j.length<64)
  (q:∀ D h' tk d c out i,(∀ b o,s.heap.get? b=some o->h'.get? b=some o)->s.heap.objs.size<=D->h'.get? D=some (seqObj "list" out c)->rg out.toList i->i.Perm j->i.Pairwise (· <=·)->Q (.ref D) { s with heap:=h',toks:=tk,drawn:=d }) :
  wpAny (model P w) A (call (.builtin "sorted") [.ref a]) Q E s:=by
 refine Calls.call_function_entry kind_sorted plain_sorted entry_sorted (args_sorted1 _) (δ  (ρ<|δ<|zf6  (u) S (oB l rfl) λh1 tk d vs i k1 size_le n pk=>?_))
 have p:vs.length<64:=by rw[zp n,pk.length_eq];exact l
 have g:(h1.push _).get? _=some (seqObj "list" vs.toArray 0):=aj _ rfl;refine δ<|wpAny_newList (δ<|fi<|fj slot_list_sort ⟨_,g,rfl⟩ entry_list_sort (list_sort_tree g n p λout v x y z=>{_,rfl,?_}) (args_list_sort _)) (oB p rfl);let[c,gc]:=sortedHeap_at   g;refine ρ {_,rfl,q _ _ tk d c _ _ (λb o e=>?_) size_le gc x (y.trans pk) z}
 have r:=av<|k1 _ _ e;rw[sortedHeap_old (bm r) (by rw[uk];exact my r)];exact ξ _<|k1 _ _ e
end
end L2
namespace L2
open PySem PyProof.Rows
section
variable{P:bq}{w:World}{A:de}{E:yC}{s:ν}
def zf8(hh:A.handled=none)(hl:s.heap.IsList l g)(hi:rg g.toList ns)(n:g.size+1<vo)
  (q:∀ h' tk,IntSet P w h' s.heap.objs.size (wb (λi=>ns.getD i 0) g.size)->(∀ b o,s.heap.get? b=some o->h'.get? b=some o)->Q (.ref s.heap.objs.size) { s with heap:=h',toks:=tk }) :
  wpAny (model P w) A (call (.type "set") [.ref l]) Q E s:=by
 refine u2 ?_ PySem.F.called_set.mro;rintro c tl mro
 have made:=PySem.F.called_set.made
 have sub:=PySem.F.called_set.sub;refine yb<|codeAny_of_tree ?_
 show wpAny _ _ (callAny (.type "set") _) _ _ _;refine ρ {Code.quiet_builtin _ (by decide +kernel),mj PySem.F.entry_type_call ?_};rw[Around.under_plain (weight_type_call_type "set" [.ref l] []) rfl]
 have n1:=PySem.F.called_set.notType
 have n2:=PySem.F.called_set.canCreate
 have n3:=PySem.F.typeCall_set_1<|.ref l
 repeat (any_goals (first|assumption|wp_step))
 generalize p:({ cls:=.type "set",dict:=none,data:=.set #[] 0 (.fresh 0 0<|leads w) }:Obj)=d;refine lq (zfr (E:=E) (Q:=λx T=>x=.ref s.heap.objs.size/\T={ s with heap:=s.heap.push d }) {rfl,by rw[<-p]}) λr T z=>?_;cases r with
 |error e=>exact z
 | ok fl =>
  cases fl with
  | ret x =>
   let[rfl,rfl]:=z
   have u:(s.heap.push d).get? s.heap.objs.size=some d:=aj _ (by rw[<-p];rfl)
   have B:Shared.TypeIs { s with heap:=s.heap.push d } (.ref s.heap.objs.size) "set":={_,u,by rw[<-p]}
   have i1:=PySem.F.called_set.init.lookup
   have i2:=PySem.F.called_set.init.bind<|.ref s.heap.objs.size
   repeat (any_goals (first|assumption|wp_step))
   refine lq (zk (R:=wants (λr U=>r=.none/\∃ h' tk,U={ s with heap:=h',toks:=tk }/\IntSet P w h' s.heap.objs.size (wb (λi=>ns.getD i 0) g.size) /\
    (∀ b o,s.heap.get? b=some o->h'.get? b=some o)) E) PySem.F.called_set.init.plain PySem.F.entry_set_init (check_set_init_1 B ?_)) λr2 U D=>?_
   ·let[ol,Y,cl,nl,dl]:=hl;let[c1,d1,dt1,sl1]:=ol;simp only at cl dl;subst cl;subst dl
    have j:=ξ d Y
    have e1:=PySem.F.sub_list_set
    have e2:=PySem.F.sub_list_frozenset
    have e3:(nc "list" == nc "dict")=false:=by decide
    have y:(s.heap.push d).IsList l g:=⟨_,j,rfl,nl,rfl⟩
    have A0:l<s.heap.objs.size:=av Y
    have big:=uk s.heap d;revert j y u B big
    have a:∀ b o,s.heap.get? b=some o->(s.heap.push d).get? b=some o:=λb o e=>ξ _ e;revert a;generalize s.heap.push d=h0;intro a u B j y big;subst p;unfold vg.«set.__init__» noKeywords Ht;generalize H:Fe=PI
    wp_walk
    subst H;refine wz y ?_;refine δ<|wpAny_runValue ?_
    have I:A.in1.in1.in1.handled=none:=by simp[hh]
    have J:l≠h0.objs.size:=bm (by rw[big];exact my A0)
    have L:s.heap.objs.size∉[h0.objs.size,l]:=by
     simp only[af,bw,or_false,not_or];exact{bm (by rw[big];exact fh _),i_ A0}
    refine zfq ((Le I _ l J g).toS) s.heap.objs.size L (λi=>ns.getD i 0) (λi v e=>IntsAre.int_at hi i v (by rw[jt];exact e)) n (g.size-0) 0 _ (by omega) (bt _)
     {{_,aj _ rfl,rfl,rfl},y.push _} (x4 _ (#[]) 0 _ {ξ _ u,⟨rfl,rfl,rfl⟩,rfl,λe he=>by simp at he,by exact .nil,by decide,by rfl,Led.fresh _}) λs3 m S3=>?_
    let[h3,g3,d3,M,N]:=s3
    have a1:g3=s.gens:=m.gens
    have a2:d3=s.drawn:=m.drawn
    have a3:N=s.os:=m.os;subst a1;subst a2;subst a3
    show wpAny _ _ _ _ _ _;refine ρ ?_
    show wpAny _ _ (ret ki) _ _ _;refine ρ {rfl,x2 h3 M {rfl,S3,λb o e=>?_}}
    have n:=av e;refine m.heap b o ?_<|ξ _<|a _ _ e;simp only[af,bw,or_false,not_or];exact{bm n,bm (by rw[big];exact my n)}
   ·cases r2 with
    |error e=>exact D
    |ok O =>
     cases O with
     |ret r =>
      let[rfl,h',tk,rfl,S',k']:=D
      repeat (any_goals (first|assumption|wp_step))
      exact q _ _ S' k'
     |_=>exact D.elim
  |_=>exact z.elim
end
end L2
namespace L2
section
variable{X:Cx}
def Inv.drawn(I:Inv X a b H s)(d):Inv X a b H { s with drawn:=d } :=
 { ok:=I.ok,os:=I.os,bare:=I.bare,base:=I.base,loc:=I.loc,cell:=I.cell,free:=I.free,freeC:=I.freeC,pin:=I.pin,hok:=I.hok,len:=I.len }
def zf9:∀ {ns:yG} {us:wE},Vals (ns.map V.int) us->rg us ns:=by
 intro ys us h
 induction ys generalizing us with
 |nil=>rw[N8 h];exact .nil
 |cons y r a =>
  let[u,m,rfl,[tk,rfl],t]:=MZ h;exact .cons _ _<|a t
abbrev tN(X:Cx)(a:Addr)(b:yG):HO:=.ext λh=>IntSet X.prog X.w h a b
def zga(g:X.calm=true):EL X (.type "set") (λxs H Q=>∃ (p:Addr) (ns:yG),xs=[.ref p]/\SqL X.K H p (ns.map V.int)/\ns.length<=1000 ∧
  ∀ (a:Addr),H a=none->Q (.ref a) (upd H a<|tN X a<|wb (λi=>ns.getD i 0) ns.length)):=by
 intro w s x H xs us Q I r h;revert h;apply u2;intro p ns [rfl,j,l,q];let[u,rfl,rfl]:=G6 r;let[n,o,v,hz]:=I.list j
 have c:=zf9 o
 have d:=zp c
 have b:n.toArray.size=ns.length:=by rw[aw,d]
 refine zf8 (I.ok.hd g) v.isList c (by rw[aw,d];exact cg (xy l) (by decide)) λh' tk S k=>?_;rw[b]at S;refine x2 (.ref _) _ {I.laid k (π _) ?_,rfl,q _<|I.hok.fresh<|π _};exact{S,⟨_,S.choose_spec.choose_spec.choose_spec.choose_spec.1⟩,λh1 h2 z e=>z.at e}
def zgb(l:X.calm=true):EL X (.builtin "sorted") (λxs H Q=>∃ (a:Addr) (e:yG),xs=[.ref a]/\H a=some (tN X a e)/\e.length<64 ∧
  ∀ (D:Addr) (b:yG),H D=none->og b e->b.Pairwise (· <=·)->Q (.ref D) (upd H D<|.lst<|b.map V.int)):=by
 intro v s w H xs us Q I r h;revert h;apply u2;intro a e [rfl,n,i,q];let[S,z,z]:=I.hok a _ n;let[u,rfl,rfl]:=G6 r;refine zf7 (I.ok.hd l) S i λD h' tk d c out b k j g o pk p=>(x2 (.ref D) _ {(I.laid  k j ?_).drawn d,rfl,q D b (I.hok.fresh j) pk p})
 exact{by rw[ε];exact oB (by rw[pk.length_eq];exact i) rfl,x2 _ c {rW o,g}}
def zgc(val:Nat->Int)(n:Nat)(x:Int):x∈wb val n↔∃ i,i<n/\val i=x:=by
 have h:=firstMet_any val n x;rw[jd,dt,dt]at h;constructor;intro c;let[y,a,e]:=h.mp {x,c,beq_self_eq_true x};let[i,b,rfl]:=a_.mp a;exact{i,ao.mp b,eq_of_beq e};intro[i,b,rfl];let[y,a,e]:=h.mpr {_,a_.mpr {i,ao.mpr b,rfl},beq_self_eq_true _};exact eq_of_beq e ▸ a
theorem YU(val:Nat->Int):∀ n,(wb val n).Nodup
 |0=>jn
 |n+1=>by
  rw[firstMet_succ];by_cases h:val n∈wb val n;rw[tH h];exact YU _ n;rw[tI h];exact mz.mpr {YU _ n,by simp,λa d b c e=>by rw[aa]at c;subst c e;exact h d}
theorem tO:∀ {l:yG},l.Pairwise (· <=·)->l.Nodup->l.Pairwise (· <·)
 | [],_,_=>.nil
 |x::r,h,n=>by
  let[b,c]:=g_.mp n;let[h1,h2]:=gb.mp h;refine gb.mpr {λy a=>?_,tO h2 c}
  have:=h1 y a
  have:x≠y:=λz=>b<|z ▸ a
  lia
def UW(K:W.Frag)(d:TE):TE:=λe H Q=>d e H λx b=>∃ (p:Addr) (ns:yG),x=.ref p/\SqL K b p (ns.map V.int)/\ns.length<64 /\
 ∀ (a:Addr) (o:HO) (D:Addr) (c:yG),b a=none->upd b a o D=none->c.Pairwise (· <·)->(∀ x,x∈c↔x∈ns)->c.length<=ns.length->Q (.ref D) (upd (upd b a o) D (.lst<|c.map V.int))
def clo(b:TE):TE:=λc H Q=>∃ C:VK,b c H C/\∀ x a,C x a->Q x a
def PE.clo(h:PE X e a):PE X e (clo a):=(by intro i s b H Q I [C,q,m];exact AU (h _ s b H C I q) (by intro v j [x,c,d,g,q1];exact x2 x c {d,g,m _ _ q1}))
def zgd(d:X.calm=true)(g1:Gl X "sorted")(j:X.mg "sorted"=none)(g2:Gl X "set")(l:X.mg "set"=none)(h:PE X e n)
  (he:ax [e] X.env=[(false,eval e X.env)]:=by rfl) :
  PE X (.Call (.Name "sorted" A) [.Call (.Name "set" B) [e] [] E] [] J) (UW X.K n):=λL s o H Q I q=>by
 refine(OE (zgb d) g1 j (rfl) (M7 (OF (zga d) g2 l (rfl) (M7 h.clo UG he) (he:=he)) UG)) _ s o H Q I ({_,q,λx M b=>?_});let[p,ns,rfl,r,g,q1]:=b;refine x2 p ns {rfl,r,oB g rfl,λa u=>x2 a _ {rfl,AG,(cg (wc ..) g),λD v w pk y=>?_}};refine q1 a _ D v u w (tO y<|pk.nodup_iff.mpr<|YU (λi=>ns.getD i 0) _) (λx=>?_) (by rw[pk.length_eq];exact wc ..);rw[pk.mem_iff,zgc];refine{λb=>?_,λz=>?_};let[i,c,e]:=b;rw[<-e];simp[c];let[i,c,e]:=jf z;exact{i,c,by simp[c,e]}
end
def UX(K:W.Frag)(a:Addr)(n:Nat):It :=
 {λi H=>i<n/\∃ xs,SqL K H a xs/\xs.length=n,λi H x H'=>H'=H/\∀ xs,SqL K H a xs->xs[n-1-i]? =some x,λi _=>n<=i}
def zge{P:bq}{w:World}{K:W.Frag}{U:Expr}(a it:Addr)(n:Nat):LK P w K U (UX K a n) [it] it (λi h=>i<=n/\h.IsRevIter it a ((n:Int)-1-(i:Int))) where
 mem:=by simp
 obj:=λi h ⟨_,st⟩ b g=>by
  have e:b=it:=by simpa using g
  subst e;let[o,e,c,d]:=st;exact{o,e,λv z=>by rw[d]at z;cases z}
 keep:=λi h h' ⟨l,st⟩ k=>{l,st.at λo e=>k it (by simp) o e}
 item:=by
  intro X D J L M i Y s N H E I hf [O,st] [hi,xs,Q,hn];subst D J L;let[AK,rv,p,hz]:=I.list Q
  have A0:n-1-i<xs.length:=by omega
  have T:=ι A0;let[q,f1,f2,r,x,A]:=hf it (by simp)
  have B:n-1-i=((n-1-i:Nat):Int):=by omega
  let[u,hu,ru]:=rv.get T;rw[B]at st
  have e2:((n-1-i:Nat))-1=n-1-((i+1):Int):=by omega
  refine wpAny_pyNext_rev_item st p.isList  (by simpa using hu) λh' j sb=>?_;rw[e2]at j
  have I1:Inv X _ N H { s with heap:=h' }:=I.turned  (λb o g e=>(sb.2 b g).trans e) q f1 r x A;let[o,e,c,d]:=id j;exact{u,rfl,QU  e c d (by decide) (x2 _ H {I1,ru,{rfl,λys hy=>by rw[I.list_inj hy Q];exact T},⟨hi,j⟩,λb g=>(hf b g).1})}
 done:=by
  intro X D J L M i Y s N H E I hf ⟨O,st⟩ hg;let[q,f1,f2,r,x,A]:=hf it (by simp)
  have e:=jz O hg;subst e
  have B:i-1-(i:Int)= -1:=by lia
  rw[B]at st;exact wpAny_pyNext_rev_end (I.ok.hd M) st λh' eb=>{rfl,I.turned  (λb o g e=>eb b o g e) q f1 r x A}
 self:=λy y y y y st h=>zq st.2 h
def UY(K:W.Frag)(c:TA):TI:=λd H R=>c d H λvs b=>∃ a xs,vs=[.ref a]/\SqL K b a xs/\R (UX K a xs.length) b
def zgf:nz "reversed"=some (.type "reversed"):=rfl
section
variable{X:Cx}{tg:Expr}
def zgg{a:Expr}{i:TA}{p pos:Pos}(v:Gl X "reversed")(w:X.mg "reversed"=none)(x:PA X [a] i)(hs:ax [a] X.env=[(false,eval a X.env)]:=by rfl):PI X tg (.Call (.Name "reversed" p) [a] [] pos) (UY X.K i):=by
 refine λJ s j H R I h=>Call_ (OB I v w zgf (jg (AU (x _ _ s j H _ I h) λus c g=>?_) (by rw[hs];rfl) (rfl)));let[vs,n,d,y,q1]:=g;revert q1;apply u2;intro l xs [rfl,z,q];let[r,A,B,hz]:=d.list z;let[u,rfl,rfl]:=G6 y;refine call_reversed_list B.isList ?_
 have st:(c.heap.push<|revObj l _).IsRevIter _ l (xs.length-1-(0)):=⟨_,aj _ rfl,rfl,by
  show Data.fields #[.ref l,lx<|r.toArray.size-1]=_;rw[aw,<-A.length];simp⟩
 have D:Inv X _ j n { c with heap:=c.heap.push (revObj l<|r.toArray.size-1) }:=d.kept  λb o e=>ξ _ e;refine zq st ?_;exact⟨_,_,_,_,n,rfl,D,zge l _ _,{bt _,st},λb E=>by
  have e:b=c.heap.objs.size:=by simpa using E
  subst e;exact d.fpOk (π _) (d.hok.fresh<|π _),q⟩
def RH(K:W.Frag):eI->Hp->VK->Prop:=λxs H Q=>∃ (p:Addr) (kvs:cD),xs=[.ref p]/\H p=some (.dK kvs)/\∀ l,H l=none->Q (.ref l) (upd H l<|.dK kvs)
def zgh:EL X (.type "dict") (RH X.K):=by
 intro d s e H xs us Q I r h;revert h;apply u2;intro p kvs [rfl,a,q];let[u,rfl,rfl]:=G6 r;exact zch I (.inl a) λl g b c=>x2 (.ref l) _ {c,rfl,q l b}
def zgi{K:W.Frag}{p:Addr}{H:Hp}{Q:VK}:RH K [.ref p] H Q=∃ kvs,H p=some (.dK kvs)/\∀ l,H l=none->Q (.ref l) (upd H l<|.dK kvs):=by simp[RH]
end
def zgj{K:W.Frag}{as:TA}{g:TG}{c:TS}{D:Ends}{b:St}{H:Hp}:DT (UY K as) g c D b H=(as b H λvs d=>∃ a xs,vs=[.ref a]/\SqL K d a xs/\HR (UX K a xs.length) g c D b d):=rfl
def zgk{K:W.Frag}{b:St}{H:Hp}{a:Addr}{xs:eI}{g:TG}{j:TS}{D:Ends}(Pv:yB)(h0:Pv 0 b H)(n:∀ i b H,i<=xs.length->Pv i b H->SqL K H a xs)
  (hs:∀ i x b H,i<xs.length->xs[xs.length-1-i]? =some x->Pv i b H->g x b H λd o=>j { D with nx:=Pv<|i+1,ct:=Pv<|i+1,bk:=D.nx } d o) (hd:∀ b H,Pv xs.length b H->D.nx b H):HR (UX K a xs.length) g j D b H:=by
 refine{λi m b H=>i+m=xs.length/\Pv i b H,{xs.length,by lia,h0},λi m b H c=>?_};let[e,p]:=c
 have h1:=n i b H (by lia) p;by_cases l:i<xs.length;refine .inr {⟨l,xs,h1,rfl⟩,_,λr H' q=>{m-1,by lia,by lia,q},λv H' c=>?_};let[rfl,q1]:=c;exact hs i v b _ l (q1 _ h1) p
 have e:i=xs.length:=by lia
 subst e;exact .inl {π _,hd _ _ p}
section
variable{K:W.Frag}{tt:TT}{A5:wH}{σ:St}{H:Hp}{Q:VK}
abbrev _root_.yF:=Nat->Bool
def zgl(p:yF)(l:n<=sizeLine)(o:∀ i,i<n->∀ c:Bool->Hp->Prop,c (p i) H->tt (some (.int (i:Int))::C1 A5 σ) H c)
  (hd:∀ q,H q=none->Q (.ref q) (upd H q<|.lst<|((ο n).filter p).map λ(i:Nat)=>V.int i)):EN (FR 0 n) (AF 0) tt (D7 0) 1 A5 σ H Q:=by
 refine{λi m a ys H'=>m=n-i/\i<=n/\H'=H/\(∃ d,a=d::C1 _ σ)/\ys=((ο i).filter p).map λ(i:Nat)=>V.int i,{n,rfl,bt _,rfl,⟨_,rfl⟩,rfl},?_};intro i m a ys H' [rfl,w,rfl,[d,rfl],rfl];by_cases b:i<n;refine .inr {b,?_,λx r y=>?_};rw[ε]
 have:=cr p<|ο i;rw[ce]at this;exact cg this<|ω b l;let[e,y]:=y;subst e y;rw[vj];refine o i b _ ?_;cases g:p i with
 |true =>
  refine{λv j=>v=.int i/\j=r,λy j ⟨s,u⟩=>{_,by omega,rfl,b,u,⟨_,rfl⟩,?_},(by simp[D7])};rw[s,bx];simp[g]
 |false =>
  refine{_,by omega,rfl,b,rfl,⟨_,rfl⟩,?_};rw[bx];simp[g]
 have e:i=n:=by lia
 subst e;exact .inl {π _,hd}
def YV(p:V->Bool)(B:xs.length<=sizeLine)(c:SqL K H b xs)(u:∀ x∈xs,∀ j:Bool->Hp->Prop,j (p x) H->tt (some x::C1 A5 σ) H j)
  (hd:∀ q,H q=none->Q (.ref q) (upd H q<|.lst<|xs.filter p)):EN (GK K b) (AF 0) tt (D7 0) 1 A5 σ H Q:=by
 refine{λi m a ys H'=>m=xs.length-i/\i<=xs.length/\H'=H/\(∃ l,a=l::C1 _ σ)/\ys=(xs.take i).filter p,{xs.length,rfl,bt _,rfl,⟨_,rfl⟩,rfl},?_};intro i m a ys H' [rfl,D,rfl,[l,rfl],rfl];by_cases d:i<xs.length;refine .inr {x2 xs (xs[i]) {c,by simp[d]},?_,λx w y=>?_}
 have:=cr p<|xs.take i;rw[cz]at this
 lia
 let[rfl,y]:=y
 have n:=y xs c
 have o:xs.take (i+1)=xs.take i++[x]:=by
  let[h1,h2]:=η.mp n;rw[<-h2,kq]
 refine u x (θ n) _ ?_;cases r:p x with
 |true =>
  refine{λv s=>v=x/\s=w,λy s ⟨z,A⟩=>{_,by omega,rfl,d,A,⟨_,rfl⟩,?_},(by simp[D7])};rw[o,z];simp[r]
 |false =>
  refine{_,by omega,rfl,d,rfl,⟨_,rfl⟩,?_};rw[o];simp[r]
 have e:i=xs.length:=by lia
 subst e;refine .inl {{xs,c,π _},λq g=>?_};rw[bz];exact hd q g
end
section
variable{K:W.Frag}{td ty tv te:TE}{D:Ends}{σ:St}{H:Hp}{Q:VK}{QB:zC}
def zgm:KN σ H Q=(∀ p,H p=none->Q (.ref p) (upd H p<|.dK [])):=rfl
def zgn:Q9 σ H Q=(∀ p,H p=none->Q (.ref p) (upd H p<|.dT [])):=rfl
def zgo:UW K te σ H Q=(te σ H λx b=>∃ (p:Addr) (ns:yG),x=.ref p/\SqL K b p (ns.map V.int)/\ns.length<64 /\
 ∀ (a:Addr) (o:HO) (D:Addr) (c:yG),b a=none->upd b a o D=none->c.Pairwise (· <·)->(∀ x,x∈c↔x∈ns)->c.length<=ns.length->Q (.ref D) (upd (upd b a o) D (.lst<|c.map V.int))):=rfl
variable{a b:Addr}{i j:Int}{z:Str}{kvs:cD}{kvt:zA}{v:V}
def dI(e:H a=some (.dK kvs)):DGet H a (.int i) (BF kvs<|.inl i):=DGet.k (k:=.inl i) e
def dS(e:H a=some (.dK kvs)):DGet H a (.str z) (BF kvs<|.inr z):=DGet.k (k:=.inr z) e
def dT2(e:H a=some (.dT kvt))(c:H b=some (.tup [.int i,.int j])):DGet H a (.ref b) (BF kvt [.inl i,.inl j]):=DGet.t  e c
def dS'(e:H a=some (.dK kvs))(h:BF kvs (.inr z)=some v):DGet H a (.str z) (some v):=h ▸ dS e
def pI(e:H a=some (.dK kvs))(c:kvs.length<100000):DPut H a (.int i) v (upd H a<|.dK<|CF kvs (.inl i) v):=DPut.k (k:=.inl i) e (ω c (by decide))
def pS(e:H a=some (.dK kvs))(c:kvs.length<100000):DPut H a (.str z) v (upd H a<|.dK<|CF kvs (.inr z) v):=DPut.k (k:=.inr z) e (ω c (by decide))
def pT2(e:H a=some (.dT kvt))(eb:H b=some (.tup [.int i,.int j]))(hl:kvt.length<100000):DPut H a (.ref b) v (upd H a<|.dT<|CF kvt [.inl i,.inl j] v):=DPut.t  e eb (ω hl (by decide))
end
section
variable{X:Cx}
abbrev RI(K:W.Frag):R2:=rG K false
def tP(a:X.A.units+64<cLine):CH X (dr .In) (RI X.K):=zbq
end
def SqT.same{K:W.Frag}{H H':Hp}{a:Addr}{xs:eI}(e:Same H H')(h:SqT K H a xs):SqT K H' a xs:=by
 rcases h with(h|⟨o,h⟩)|h
 exact .inl<|.inl<|e _ _ h;exact .inl<|.inr {o,e _ _ h};exact .inr h
def Dat(K:W.Frag)(H:Hp)(n:Nat)(v:V)(d:xm):Prop:=Rep K H v d/\d.canLay0=true/\d.depth<=n
section
variable{K:W.Frag}{H:Hp}{n:Nat}{Q:VK}
def Dat.int(i:Int):Dat K H n (.int i) (.int i):={.int i,rfl,bt _}
def Dat.non:Dat K H n .non .none:={.non,rfl,bt _}
def tQ:∀ {xs:eI} {a:List xm},Paired (Dat K H n) xs a->RepAll K H xs a/\Ee a=true/\PyData.depthAll a<=n:=λh=>by
 induction h with
 |nil=>exact{.nil,rfl,bt _}
 |cons h t b =>
  let[c,d,e]:=b;exact{.cons h.1 c,by simp[Ee,h.2.1,d],Nat.max_le.mpr ⟨h.2.2,e⟩}
def Dat.lst(h:SqL K H p xs)(hs:Paired (Dat K H n) xs a):Dat K H (n+1) (.ref p) (.list a):=by
 let[b,c,d]:=tQ hs;exact{.lst h b,c,by simpa [Ef]using d}
def Dat.tup(h:SqT K H p xs)(hs:Paired (Dat K H n) xs a):Dat K H (n+1) (.ref p) (.tuple a):=by
 let[b,c,d]:=tQ hs;exact{.tup h b,c,by simpa [Ef]using d}
def Dat.shp(h:Dat K H n v d)(a:n<=64):shp d:=by
 unfold L2.shp PySem.SeqAt.shaped;rw[h.2.1];simpa using υ h.2.2 a
end
section
variable{prog:bq}{w:World}{A:de}{E:yC}{s:ν}{d it:Addr}{od:Obj}{es:Array F_}{ep i:Nat}
end
def tR:∀ {ys:eG} {us:wE},Vals (ys.map V.str) us->StrsAre us ys:=by
 intro ys us h
 induction ys generalizing us with
 |nil=>rw[N8 h];exact .nil
 |cons y r a =>
  let[u,m,rfl,[tk,rfl],t]:=MZ h;exact .cons _ _<|a t
section
variable{X:Cx}
def L5(K:W.Frag):V->eI->Hp->VK->Prop:=λx vs H Q=>∃ (z:Str) (p:Addr) (ys:eG),x=.str z/\vs=[.ref p]/\SqL K H p (ys.map V.str)/\z.length<=16/\(ys.map (·.length)).sum+ys.length<=1048576/\Q (.str<|Txt.join z ys) H
def zgs:Q3 X "str.join" (L5 X.K):=by
 intro i s j H x vs v us Q I a b h;revert h;apply u3;intro z p ys [rfl,rfl,c,hz,d,q];let[u,rfl,rfl]:=b.one;let[t,rfl]:=a;let[l,r,e,g]:=I.list c;exact join_listW e.isList (tR r) hz d λt' k=>x2 (.str _) H {I.tok k,⟨t',rfl⟩,q}
end
section
variable{K:W.Frag}{tt:TT}{te:TE}{A5:wH}{σ:St}{H:Hp}{Q:VK}
end
section
variable{X:Cx}{tg:Expr}
end
section
variable{K:W.Frag}{tt:TT}{A5:wH}{σ:St}{H:Hp}{Q:VK}
end
def YW(n i:Nat)(P:Prop):Prop:=∃ a,a<n-i/\a=n-(i+1)/\i+1<=n/\P
def cnx(h:i<n)(p:P):YW n i P:={_,cq ‹_›,rfl,h,p}
def tS{K:W.Frag}{g:TG}{j:TT}{l:TE}{k:Nat}{n:wH}{o:St}{H:Hp}{Q:VK}{b:Addr}{xs:eI}(z:xs.length<=sizeLine)(Pv:Nat->St->eI->Hp->Prop)(h0:Pv 0 (LV k n o) [] H)(v:∀ i a ys H,Pv i a ys H->SqL K H b xs/\ys.length<=i)
  (hs:∀ i x a ys H,i<xs.length->xs[i]? =some x->Pv i a ys H->g x a H λd w=>j d w λc r=>if c=true then ∃ N:VK,(∀ y s,N y s->YW xs.length i (Pv (i+1) d (ys++[y]) s))/\l d r N else YW xs.length i (Pv (i+1) d ys r))
  (hd:∀ a ys H,Pv xs.length a ys H->∀ p,H p=none->Q (.ref p) (upd H p<|.lst ys)):EN (GK K b) g j l k n o H Q:=by
 refine{λi m a ys H=>m=xs.length-i/\i<=xs.length/\Pv i a ys H,{xs.length,rfl,bt _,h0},?_};intro i m a ys H [rfl,A,p];let[q,B]:=v i _ ys H p;by_cases u:i<xs.length;refine .inr {{xs,xs[i],q,by simp[u]},by lia,λx H' y=>?_};let[rfl,y]:=y;exact hs i x _ ys _ u (y xs q) p
 have e:i=xs.length:=by lia
 subst e;exact .inl {{xs,q,π _},hd _ ys H p}
section
variable{P:bq}{w:World}{A:de}{E:yC}{s:ν}
end
section
variable{X:Cx}
end
section
variable{P:bq}{w:World}{A:de}{E:yC}{s:ν}
def zgu{e it l:Addr}{i:Nat}{a:Array Value}{x old:Value}{Q:Option Value->ν->Prop}(he:IsEnum s.heap e it i old)(c:s.heap.IsListIter it l i)(d:s.heap.IsList l a)(ex:a[i]? =some x)(ne:e≠it)
  (q:∀ h',IsEnumOut h' e it (i+1) x s.heap.objs.size->h'.IsListIter it l (i+1)->h'.get? s.heap.objs.size=some { cls:=nc "tuple",data:=Data.seq #[uf i s.toks,x] }->(∀ b o,b≠e->b≠it->s.heap.get? b=some o->h'.get? b=some o) →
   Q (some<|.ref s.heap.objs.size) { s with heap:=h',toks:=s.toks+1 }):wpAny (model P w) A (zb<|.ref e) Q E s:=by
 have ty:s.TypeIs (.ref e) _:=⟨_,he,rfl⟩
 exact δ (ko (e_  ty F.slot_enumerate_next (fj F.slot_enumerate_next ty F.entry_enumerate_next
  (enumerate_next_item he c d ex ne λh' g j n z p=>ρ<|q h' g j n p) (F.args_enumerate_next_1 _))))
def zgv{e it l:Addr}{i:Nat}{a:Array Value}{old:Value}{Q:Fin->ν->Prop}(b:A.handled=none)(he:IsEnum s.heap e it i old)(c:s.heap.IsListIter it l i)(d:s.heap.IsList l a)(ex:a[i]? =none)
  (q:∀ h' x,nq it s.heap h'->(∃ o,h'.get? x=some o/\o.cls=.type "StopIteration")->E (.ref x) { s with heap:=h' }):wpAny (model P w) A (vg.«enumerate.__next__» {[.ref e],[]}) Q E s:=by
 show wpAny _ A (field _ 2>>=_) _ _ s;exact δ<|jb he rfl  rfl (δ<|zfa (k:=true) b c d ex q)
def zgw{e it l:Addr}{i:Nat}{a:Array Value}{old:Value}{Q:Option Value->ν->Prop}(b:A.handled=none)(he:IsEnum s.heap e it i old)(c:s.heap.IsListIter it l i)(d:s.heap.IsList l a)(ex:a[i]? =none)
  (q:∀ h',nq it s.heap h'->Q none { s with heap:=h' }):wpAny (model P w) A (zb<|.ref e) Q E s:=by
 have ty:s.TypeIs (.ref e) _:=⟨_,he,rfl⟩
 exact δ<|ko<|e_  ty F.slot_enumerate_next (fj F.slot_enumerate_next ty F.entry_enumerate_next (zgv b he c d ex λh' x g ⟨o,j,n⟩=>(δ<|om   ⟨o,j,n⟩ zo (ρ<|q _ g))) (F.args_enumerate_next_1 _))
end
def L7(K:W.Frag)(a:Addr):It :=
  ⟨λi H=>∃ xs x,SqL K H a xs/\xs[i]? =some x,
   λi H v H'=>∃ t,H t=none/\v=.ref t/\∃ x,H'=upd H t (.tup [.int (i:Int),x])/\∀ xs,SqL K H a xs->xs[i]? =some x,
   λi H=>∃ xs,SqL K H a xs/\xs.length<=i⟩
def EnSt(e it l:Addr)(i:Nat)(h:Heap):Prop:=(∃ old,IsEnum h e it i old)/\h.IsListIter it l i
def EnSt.lt(q:EnSt e it l i h):∀ b∈[e,it],b<h.objs.size:=by
 let[[old,h1],o,h2,z]:=q;intro b a;simp only[af,bw,or_false]at a;let rfl||rfl:=a
 exact av h1;exact av h2
def zgx{P:bq}{w:World}{K:W.Frag}{c:wF}{O:Nat}{pos:Pos}{e it l:Addr}(ne:e≠it) :
  LK P w K (.Tuple c O pos) (L7 K l) [e,it] e (λi h=>EnSt e it l i h) where
 mem:=by simp
 obj:=λi h st b a=>by
  let[[old,h1],h2]:=st;let[o4,Q,T]:=ItK.ob (k:=true) h2;simp only[af,bw,or_false]at a;let rfl||rfl:=a
  exact{_,h1,λv q=>by cases q};exact{_,Q,λv q=>by rw[T]at q;cases q}
 keep:=λi h h' {⟨old,h1⟩,h2} q=>{{_,q e (by simp) _ h1},ItK.up (k:=true) h2 λo x=>q it (by simp) o x}
 item:=by
  intro X g j n L i M s N H E I hf st U;subst g j n;revert U;apply u2;intro xs x [d,ex];let[Y,p,r]:=I.seqK (k:=true) d
  have lt:=EnSt.lt st;let[[old,h1],h2]:=st;let[u,hu,ru]:=p.get ex
  have y:=λb a=>bm<|lt b a;refine zgu h1 h2 r  (by simpa using hu) ne λh' g1 g2 g3 A=>{_,rfl,(wpAny_letOwnedTupleGo_enum g1 λB z2 sb=>?_)}
  have I2:Inv X M N (upd H s.heap.objs.size<|.tup [.int i,x]) { s with heap:=B,toks:=s.toks+1 }:=by
   refine Inv.turnedS (s:={ s with heap:=s.heap.push _ })   (I.tnew   (.cons (⟨s.toks,rfl⟩) (.cons ru .nil)) (by show 2<=sizeLine;decide)) (λb o a D=>?_) λb a=>(hf b a).upd (y b a);simp only[af,bw,or_false,not_or]at a;let[J,e2]||J:=Heap.get?_push_cases D
   subst J e2;exact sb.extBut _ _ ((y e (by simp)).symm) g3;exact sb.extBut _ _ a.1<|A _ _ a.1 a.2 J
  exact⟨.ref _,_,I2,rfl,{_,I.fresh,rfl,x,rfl,λys' q=>by rw[I.seqK_inj (k:=true) q d];exact ex},
   {⟨_,z2⟩,ItK.up (k:=true) g2 λo x=>sb.extBut _ _ ne.symm x},λb a=>((hf b a).upd (y b a)).1⟩
 done:=by
  intro X g j n L i M s N H E I hf [[old,h1],h2] [xs,d,en];subst g j n;let[Y,p,r]:=I.seqK (k:=true) d;refine zgw (I.ok.hd L) h1 h2 r (by simp;exact p.length ▸ en) λh' A=>{rfl,I.turnedS   (λb o a D=>?_) hf}
  simp only[af,bw,or_false,not_or]at a;exact A _ _ a.2 D
 self:=λz z z z z st h=>by
  let[[old,h1],z]:=st;exact Ei h1 h
section
variable{X:Cx}
def UZ(K:W.Frag)(c:TA):TI:=λd H R=>c d H λvs b=>∃ a:Addr,vs=[.ref a]/\(∃ xs,SqL K b a xs)/\R (L7 K a) b
def zgy{a:Expr}{g:TA}{p pos r:Pos}{c:wF}{v:Nat}(w:Gl X "enumerate")(x:X.mg "enumerate"=none)(y:PA X [a] g)(hs:ax [a] X.env=[(false,eval a X.env)]:=by rfl) :
  PI X (.Tuple c v r) (.Call (.Name "enumerate" p) [a] [] pos) (UZ X.K g):=by
 refine λM s i H R I h=>Call_ (OB I w x boot_enumerate (jg (AU (y _ _ s i H _ I h) λus z e=>?_) (by rw[hs];rfl) (rfl)));let[vs,j,d,A,[l,rfl,[xs,B],q]]:=e;let[N,O,D]:=d.seqK (k:=true) B;let[u,rfl,rfl]:=G6 A;refine call_enumerate_list D λh' n E sz J=>Ei n ?_
 have L:Inv X _ i j { z with heap:=h' }:=d.kept  J;refine x5 _ _ _ _ j {rfl,L,zgx<|i_<|fh _,{⟨_,n⟩,E},λb o=>d.fpOk ?_<|d.hok.fresh ?_,q}
 all_goals
  simp only[af,bw,or_false]at o;let rfl||rfl:=o<;>omega
end
def YX{K:W.Frag}{b:St}{H:Hp}{a:Addr}{xs:eI}{g:TG}{j:TS}{D:Ends}(Pv:yB)(h0:Pv 0 b H)(l:∀ i b H,i<=xs.length->Pv i b H->SqL K H a xs)
  (hs:∀ i x b H t,xs[i]? =some x->Pv i b H->H t=none->g (.ref t) b (upd H t<|.tup [.int (i:Int),x]) λc n=>j { D with nx:=Pv<|i+1,ct:=Pv<|i+1,bk:=D.nx } c n) (hd:∀ b H,Pv xs.length b H->D.nx b H):HR (L7 K a) g j D b H:=by
 refine{λi m b H=>i+m=xs.length/\Pv i b H,{xs.length,by lia,h0},λi m b H d=>?_};let[e,p]:=d
 have h1:=l i b H (by lia) p;by_cases o:i<xs.length;refine .inr {x2 xs _ {h1,ι o},_,λr H' q=>{m-1,by lia,by lia,q},λv H' ⟨t,s,e,x,u,q1⟩=>?_};subst e u;exact hs i x b H t (q1 _ h1) p s
 have e:i=xs.length:=by lia
 subst e;exact .inl {{xs,h1,π _},hd _ _ p}
def RJ(K:W.Frag):R2:=λx y H Q=>RI K x y H Q\/∃ t a p xs,x=.ref t/\SqT K H t a/\y=.ref p/\SqT K H p xs/\(∀ z∈xs,z=.non\/∃ i,z=.int i)/\Q (.bl false) H
def zgz:∀ {xs:eI} {us:wE} {u:Value},Vals xs us->u∈us->∃ x∈xs,RelV x u:=λh m=>by
 induction h with
 |nil=>cases m
 |cons r t a =>
  let rfl||m:=af.mp m
  exact{_,χ ..,r};let[x,b,e]:=a m;exact{x,τ _ b,e}
def zg0(l:X.A.units+64<cLine):CH X (dr .In) (RJ X.K):=by
 intro M s n H x y v u Q I c d h;let h||[t,N,p,xs,rfl,o,rfl,w,B,q]:=h
 exact tP l _ s n H x y v u Q I c d h;subst c;let[D,r,E,hz]:=I.tuple w;subst d;let[J,O,e,j]:=I.tuple o
 have a:X.A.in1.units<cLine:=by
  have:X.A.in1.units=X.A.units+1:=rfl
  lia
 refine Fi (λj=>false) E (λz b=>?_) (x2 (.bl _) H {I,rfl,?_});let[L,h0,g]:=zgz r (by simpa using b);let rfl||[i,rfl]:=B L h0
 subst g;exact SeqAt.EqAt.none_tuple e a;let[tk,rfl]:=g;exact SeqAt.EqAt.int_tuple _ _ e a
 have:D.toArray.any (λj=>false)=false:=by
  simp
 rw[this];exact q
section
variable{X:Cx}
def tT:∀ {us:wE} {ys:eG},StrsAre us ys->Vals (ys.map V.str) us:=λh=>by
 induction h with
 |nil=>exact .nil
 |cons z t h a=>exact .cons ⟨_,rfl⟩ a
def YY(K:W.Frag):eI->Hp->VK->Prop:=λxs H Q=>∃ (p:Addr) (ys:eG),xs=[.ref p]/\SqL K H p (ys.map V.str)/\ys.length<64 /\
  ∀ (D:Addr) (a:eG),H D=none->a.Perm ys->z_ a=true->Q (.ref D) (upd H D<|.lst<|a.map V.str)
def zg1(y:X.calm=true):EL X (.builtin "sorted") (YY X.K):=by
 intro z s A H xs us Q I r h;revert h;apply u2;intro p ys [rfl,l,n,q];let[a,d,v,hz]:=I.list l;let[u,rfl,rfl]:=G6 r
 have B:a.length=ys.length:=by simpa using d.length.symm
 refine sorted_strs v.isList (tR d) (by omega) λout i w pk x=>?_;let[c,g]:=sortedAll_at s.heap a out
 have j:s.heap.objs.size<=s.heap.objs.size+1:=jj _;refine x2 (.ref _) _ {I.laid  (λb o e=>sortedAll_old e) j ?_,rfl,q _ i (I.hok.fresh j) pk x}
 have D:i.length<64:=by rw[pk.length_eq];exact n
 exact{by rw[ε,fk];omega,x2 out.toList c {tT w,g}}
theorem YZ:∀ {l:eG},z_ l=true->l.Pairwise λa b=>¬ b.cps.toList<a.cps.toList
 | [],_=>.nil
 | [x],_=>List.pairwise_singleton _ _
 |x::y::r,h=>by
  have h':(!Spec.ltCps y.cps.toList x.cps.toList&&risingS y r)=true:=h;rw[bv,xf,ltCps_eq,decide_eq_false_iff_not]at h'
  have c:=YZ (l:=y::r) h'.2;refine gb.mpr {λz hz=>?_,c};let e||hz:=af.mp hz
  ·rw[e];exact h'.1
  ·exact λd=>absurd d<|xg.mpr<|List.le_trans (xg.mp h'.1) (xg.mp<|(gb.mp c).1 z hz)
def zg2(h1:z_ l=true)(h2:z_ m=true)(p:l.Perm m):l=m :=
 List.Perm.eq_of_pairwise (λa b z z h h'=>congrArg Str.mk<|Array.toList_inj.mp<|List.le_antisymm (xg.mp h) (xg.mp h')) (YZ h1) (YZ h2) p
def tU:V->eI->Hp->VK->Prop:=λx vs H Q=>∃ z y:Str,x=.str z/\vs=[.str y]/\Q (.int<|Txt.find z y) H
def zg3:Q3 X "str.find" tU:=by
 intro d s e H x vs v us Q I a b h;revert h;apply u2;intro z y [rfl,rfl,q];let[t,rfl]:=a;let[u,rfl,c]:=b.one;let[g,rfl]:=c;exact PySem.SC.find<|x2 (.int _) H {I.tok _,⟨_,rfl⟩,q}
end
section
variable{P:bq}{w:World}{A:de}{E:yC}{s:ν}
end
section
variable{X:Cx}
end
section
variable{X:Cx}{AA:eB}{σ:St}{H:Hp}{s:ν}
def Inv.thaw(I:Inv X AA σ H s)(e:H d=some (.frz o<|.dK kvs))(l:∀ o u,X.H₀ d≠some (.frz o u)):Inv X AA σ (upd H d<|.dK kvs) s:=by
 have up:∀ {b:Addr},H b=none->upd H d (.dK kvs) b=none:=λg=>by rw[AJ ((λg z=>by rw[z,e]at g;cases g) g)];exact g
 refine{I.ok,I.os,I.bare,{I.base.keep,I.base.slot,λb j n q r=>up<|I.base.free b j n q r,I.base.there,λb xs a=>?_,λb j u a=>?_,λb ps a=>?_},I.loc,I.cell,up I.free,λx c v=>up<|I.freeC x c v,λp w=>?_,λb u a=>?_,I.len}
 have:=I.base.tups b xs a;rw[AJ λz=>by rw[z,e]at this;cases this];exact this;rw[AJ (λz=>l j u (by rw[<-z];exact a))];exact(I.base.frzs b j u a);let[more,this]:=I.base.tbls b ps a;exact{_,by rw[AJ λz=>by rw[z,e]at this;cases this];exact this};let[h1,h2,h3]:=I.pin p w;exact{h1,up h2,h3}
 have st:∀ {b:Addr} {u:HO},ObjOk _ _ H _ b u->ObjOk X.prog X.w (upd H d<|.dK kvs) s.heap b u:=λh=>h.stay (λy y y e=>e) (λA i=>by rw[AJ (BI i e (by intro z;cases z))];exact i) λA xs i=>by rw[AJ (BI i e (by intro z;cases z))];exact i
 by_cases g:b=d;subst g;rw[AG]at a;obtain rfl:=μ a;exact st (I.hok b _ e).2;rw[AJ g]at a;exact st<|I.hok b u a
def tV(d:Addr)(o:Obj)(kvs:cD):It :=
 {λi H=>H d=some (.frz o<|.dK kvs)/\i<kvs.length,λi H x H'=>H'=H/\∃ k v,x=kV k/\kvs[i]? =some (k,v),λi H=>H d=some (.frz o<|.dK kvs)/\kvs.length<=i}
variable{tg iter E8:Expr}{E9:wF}{scope:Scope}{pos:Pos}{td:TE}{g:TG}{tt:TT}{te:TE}{tn cn:eG}{A5:wH}
end
def FnScope.go(h1:a.kind=.function:=by exact rfl)(h2:a.isCoroutine=false:=by exact rfl)(h3:a.isGenerator=false:=by exact rfl)(h4:N.Nodup:=by decide +kernel)(h5:N.take P.length=P:=by exact rfl)(h6:∀ x∈P,a.names.lookup x=some .local\/a.names.lookup x=some .cell:=by decide +kernel)(h7:∀ y∈a.names,y.2≠.free:=by decide +kernel):FnScope N P a:=⟨h1,h2,h3,h4,h5,h6,h7⟩
def Room.m(r:Room k A)(h:j<=k:=by decide):Room j A:=r.mono h
abbrev FP(P:bq)(w:World)(K:W.Frag)(mg:xB)(base:Heap)(k:Nat)(f:Addr)(fd:gq)(ps:eG)(sp:Sp):Prop:=FnOk P w K mg base (EM P w) k f fd ps sp
def Fun.okF{P:bq}{w:World}{K:W.Frag}{mg:xB}{base:Heap}{x a:Str}{st:Stmt}{f:Addr}{fd:gq}{N ps:eG}{k:Nat}{sp:Sp}(F:Fun K x a st f fd)(c:(St->XK)->TS)(S:FnScope N ps (AT st))(len:∀ {vs H Q E},sp vs H Q E->vs.length=ps.length)
  (ok:∀ {vs H Q E},sp vs H Q E->c (λ_=>E) { nx:=λz H'=>Q .non H',rt:=Q } (AX N vs) H)
  (d:∀ (b:Value) (A:de) (outer:xG) (s:ν) (H:Hp) (E:XK),Room k (A.deeper<|xi a (AT st) s.heap.objs.size f b)->XOk (JG (EM P w) P w K mg base N a (AT st) f b A outer s H E) (λz=>E) ->
   FN (JG (EM P w) P w K mg base N a (AT st) f b A outer s H E) (HQ st) (c λz=>E)):FP P w K mg base (k+1) f fd ps sp :=
 F.okE S (λz z z z=>len) λb A outer s H z z E e h=>{_,d _ A _ s H E e zct,ok h}
section
variable{X:Cx}{pos:Pos}
def psl(i:Nat)(b:X.N.Nodup)(he:PE X e c)(d:X.N[i]? =some x:=by exact rfl)(g:OA X.env.scope x:=by exact Fo rfl)(hs:vn e (some<|.Name x a) pos.line X.env=pure false:=by rfl)(hf:X.fn x=true\/X.env.scope.names.lookup x=some .local:=by first|exact .inl rfl|exact .inr rfl|assumption) :
  PS X (.Assign [.Name x a] e pos) (AO c<|AF i):=pW b d g he hs hf
def tW(i:Nat)(a:X.N.Nodup)(b:X.N[i]? =some x:=by exact rfl)(c:OA X.env.scope x:=by exact Fo rfl)(hf:X.fn x=true\/X.env.scope.names.lookup x=some .local:=by first|exact .inl rfl|exact .inr rfl|assumption):PG X (.Name x pos) (AF i):=pV a b c hf
end
section
variable{X:Cx}{pos:Pos}
def pei{j b}(c:PE X a d):PE X (.Subscript a (.Constant (.int i) j b) pos) (AD (BZ X.K) d (tC<|.int i)):=qU sM c pT<|λz z=>rfl
def FnScope.cp(_:FnScope N P outer)(h:UR scope outer N a b=true:=by decide +kernel)(h1:X.env.scope=outer:=by exact rfl)(h2:X.N=N:=by exact rfl):KP X scope c a b:=sR h1 h2 h
end
section
variable{X:Cx}{E:St->XK}{k j:Nat}{x m:Str}{ps:eG}{sp:Sp}{C:Addr}{p pos C9:Pos}{e o e1 e2 e3:Expr}{es:wF}{ta tb tc td:TE}{t:TA}
def tX(h:PE X e ta)(s:ax [e] X.env=(false,eval e X.env)::ax [] X.env:=by rfl):PA X [e] (DN ta BK):=M7 h UG s
def tY(h:PE X e ta)(h1:PE X e1 tb)(s:ax [e,e1] X.env=(false,eval e X.env)::ax [e1] X.env:=by rfl)(a:ax [e1] X.env=(false,eval e1 X.env)::ax [] X.env:=by rfl):PA X [e,e1] (DN ta<|DN tb BK):=M7 h (tX h1 a) s
def tZ(h:PE X e ta)(h1:PE X e1 tb)(h2:PE X e2 tc)(s:ax [e,e1,e2] X.env=(false,eval e X.env)::ax [e1,e2] X.env:=by rfl)(a:ax [e1,e2] X.env=(false,eval e1 X.env)::ax [e2] X.env:=by rfl)(b:ax [e2] X.env=(false,eval e2 X.env)::ax [] X.env:=by rfl):PA X [e,e1,e2] (DN ta<|DN tb<|DN tc BK):=M7 h (tY h1 h2 a b) s
def zg6(h:PE X e ta)(h1:PE X e1 tb)(h2:PE X e2 tc)(h3:PE X e3 td)(s:ax [e,e1,e2,e3] X.env=(false,eval e X.env)::ax [e1,e2,e3] X.env:=by rfl)(a:ax [e1,e2,e3] X.env=(false,eval e1 X.env)::ax [e2,e3] X.env:=by rfl)(b:ax [e2,e3] X.env=(false,eval e2 X.env)::ax [e3] X.env:=by rfl)(c:ax [e3] X.env=(false,eval e3 X.env)::ax [] X.env:=by rfl):PA X [e,e1,e2,e3] (DN ta<|DN tb<|DN tc<|DN td BK):=M7 h (tZ h1 h2 h3 a b c) s
def pcx(c:UO X.prog X.w X.K X.mg X.base k x ps sp)(b:Room j X.A)(d:XOk X E)(g:PA X (e::es) t)(i:k<=j:=by decide)(l:Gl X x:=by exact rfl)(a:(x ==("__debug__":Str))=false:=by decide)
  (he:ax (e::es) X.env=(false,eval e X.env)::ax es X.env:=by rfl) (n:(ja pos<|ax es X.env).any (·.1)=false:=by rfl):PE X (.Call (.Name x p) (e::es) [] pos) (M8 sp [] E t):=YE c (b.mono i) d.passes l g a he n
def pmx(he:PE X o ta)(d:Cls X.K C)(c:OI X.prog X.w X.K X.mg X.base C k m ps sp)(g:Room j X.A)(i:XOk X E)(l:PA X (e::es) t)(n:k<=j:=by decide)
  (a:ax (e::es) X.env=(false,eval e X.env)::ax es X.env:=by rfl) (q:(ja pos<|ax es X.env).any (·.1)=false:=by rfl)
  (r:eval (.Call (.Attribute o m C9) (e::es) [] pos) X.env=(do
   let b ← eval o X.env
   ya C9.atName
   let (f,first) ← tf [b] (ug b m s)
   zf pos f first (ja pos<|ax (e::es) X.env) (uw pos<|li [] X.env)):=by rfl):PE X (.Call (.Attribute o m C9) (e::es) [] pos) (JF C m sp [] E ta t):=YF he d c (g.mono n) i.passes l a q r
def pmz(he:PE X o ta)(b:Cls X.K C)(c:OI X.prog X.w X.K X.mg X.base C k m ps sp)(d:Room j X.A)(g:XOk X E)(i:k<=j:=by decide)
  (l:eval (.Call (.Attribute o m C9) [] [] pos) X.env=(do
   let a ← eval o X.env
   ya C9.atName
   let (f,first) ← tf [a] (ug a m n)
   zf pos f first (ja pos<|ax [] X.env) (uw pos<|li [] X.env)):=by rfl):PE X (.Call (.Attribute o m C9) [] [] pos) (JF C m sp [] E ta BK):=zcv he b c (d.mono i) g.passes l
end
def Fun.oK(P:bq)(w:World){K:W.Frag}(mg:xB)(base:Heap){x a:Str}{st:Stmt}{f:Addr}{fd:gq}{N ps:eG}(k:Nat){sp:Sp}(F:Fun K x a st f fd)(b:(St->XK)->TS)(S:FnScope N ps (AT st))
  (ok:∀ {vs H Q E},sp vs H Q E->b (λ_=>E) { nx:=λz H'=>Q .non H',rt:=Q } (AX N vs) H)
  (d:∀ (c:Value) (A:de) (outer:xG) (s:ν) (H:Hp) (E:XK),Room k (A.deeper<|xi a (AT st) s.heap.objs.size f c)->XOk (JG (EM P w) P w K mg base N a (AT st) f c A outer s H E) (λz=>E) ->
   FN (JG (EM P w) P w K mg base N a (AT st) f c A outer s H E) (HQ st) (b λz=>E))
  (len:∀ {vs H Q E},sp vs H Q E->vs.length=ps.length:=by
   intro z z z z h
   repeat (first|(let[rfl,z]:=h;rfl)|(refine Or.elim h ?_ ?_<;>(clear h;intro h))|let[z,h]:=h)):FP P w K mg base (k+1) f fd ps sp:=F.okF b S len ok d
abbrev AY(N:eG)(k:Nat)(a:Scope):Prop:=FnScope N (N.take k) a
abbrev CI(P:bq)(w:World)(K:W.Frag)(mg:xB)(base:Heap)(k:Nat)(x:Str)(_:FnScope N ps a)(sp:Sp):Prop:=UO P w K mg base k x ps sp
abbrev BS(P:bq)(w:World)(K:W.Frag)(mg:xB)(base:Heap)(C:Addr)(k:Nat)(x:Str)(_:FnScope N ps a)(sp:Sp):Prop:=OI P w K mg base C k x ps sp
abbrev NH(P:bq)(w:World)(K:W.Frag)(mg:xB)(base:Heap)(C:Addr)(k:Nat)(x:Str)(_:FnScope N ps a)(sp:Sp):Prop:=YD P w K mg base C k x ps sp
def t3{α :Type}:Nat->(List α ->Prop)->Prop
 |0,P=>P []
 |n+1,P=>∀ a,t3 n λl=>P (a::l)
theorem un{α :Type}:∀ {n:Nat} {P:List α ->Prop},t3 n P->∀ us:List α,us.length=n->P us
 |0,_,h,[],_=>h
 |_+1,_,h,a::us,e=>un (h a) us (Kn e)
def Y0(x a:Str)(st:Stmt)(ps:eG):Prop:=∀ (kV b pm:Value) (c:Option Addr) (d ct:Value) (us:wE),us.length=ps.length->bindArgs (W.fnOf x a (KO st) (HQ st) (AT st) .none kV b pm c d ct) {us,[]}=pure (ps.zip us)
structure GF(K:W.Frag)(x:Str)(st:Stmt):Prop where
 ex:∃ (f:Addr) (fd:gq),W.nsIn K bg x=some (some<|.ref f)/\Fun K x x st f fd
structure GM(K:W.Frag)(C:Addr)(m q:Str)(st:Stmt):Prop where
 ex:∃ (f:Addr) (fd:gq),W.findIn K (.ref C) m=some (some<|.ref f)/\W.isFn K (.ref f)=true/\Fun K m q st f fd
structure GC(K:W.Frag)(C:Addr)(x:Str):Prop where
 ac:W.nsIn K bg x=some (some<|.ref C)
 c:Cls K C
structure GN(K:W.Frag)(C:Addr)(x q:Str)(st:Stmt):Prop where
 m:GM K C "__init__" q st
 mks:W.makesIn K C=true
 kc:W.keepIn K (.ref C)=true
 ac:W.nsIn K bg x=some (some<|.ref C)
structure GX(K:W.Frag)(C:Addr)(x:Str):Prop where
 ac:W.nsIn K bg x=some (some<|.ref C)
 ex:W.excIn K C [.type "ValueError",.type "Exception",.type "BaseException",.type "object"] "ValueError.__new__"=true
section
variable{K:W.Frag}{x q:Str}{st:Stmt}{C f:Addr}{oc:Value}{od an:Option Addr}{osl:Array (Option Value)}{kV doc pm CL ct:Value}
def gf(a:W.nsIn K bg x=some (some<|.ref f))(l:K.lookup f=some {oc,od,.func<|W.fnOf x x (KO st) (HQ st) (AT st) .none kV doc pm an CL ct,osl})
  (c:W.codeIn K CL x=true) (k:W.keepIn K (.ref f)=true):GF K x st:={_,_,a,rX l c k}
def gm(a:W.findIn K (.ref C) x=some (some<|.ref f))(l:K.lookup f=some {oc,od,.func<|W.fnOf x q (KO st) (HQ st) (AT st) .none kV doc pm an CL ct,osl})
  (c:W.codeIn K CL q=true) (k:W.keepIn K (.ref f)=true) (i:W.isFn K (.ref f)=true):GM K C x q st:={_,_,a,i,rX l c k}
def gn(a:W.findIn K (.ref C) "__init__"=some (some<|.ref f))(l:K.lookup f=some {oc,od,.func<|W.fnOf "__init__" q (KO st) (HQ st) (AT st) .none kV doc pm an CL ct,osl})
  (c:W.codeIn K CL q=true) (k:W.keepIn K (.ref f)=true) (i:W.isFn K (.ref f)=true) (m:W.makesIn K C=true) (n:W.keepIn K (.ref C)=true) (s:W.nsIn K bg y=some (some<|.ref C)):GN K C y q st:={gm a l c k i,m,n,s}
def gc(a:W.nsIn K bg x=some (some<|.ref C))(l:W.plainGet K C uh=true)(c:W.hasDictIn K C=true)(k:W.plainOver K C=true)(i:W.findIn K (.ref C) "__setattr__"=some (some<|.builtin "object.__setattr__")):GC K C x:=⟨a,l,c,k,i⟩
end
section
variable{P:bq}{w:World}{K:W.Frag}{h:Heap}{mg:xB}{base:Heap}{x q:Str}{st:Stmt}{C:Addr}{k:Nat}{ps:eG}{sp:Sp}
def gfc(P:bq:=by assumption)(w:World:=by assumption)(base:Heap:=by assumption)(ok:∀ {f fd},Fun K x x st f fd->FP P w K mg base k f fd ps sp)(g:GF K x st:=by assumption)(X:K.In h:=by assumption)(G:h.Ns bg mg:=by assumption)
  (b:Y0 x x st ps:=by intro z z z z z z;apply un;(repeat intro z);rfl):UO P w K mg base k x ps sp:=by
 refine u2 ?_ g.ex;intro f fd [a,F];exact{f,fd,ok F,W.mg_of X G a,F.kp,F.binds b}
def gmc(P:bq:=by assumption)(w:World:=by assumption)(base:Heap:=by assumption)(ok:∀ {f fd},Fun K x q st f fd->FP P w K mg base k f fd ps sp)(g:GM K C x q st:=by assumption)
  (b:Y0 x q st ps:=by intro z z z z z z;apply un;(repeat intro z);rfl):OI P w K mg base C k x ps sp:=by
 refine u2 ?_ g.ex;intro f fd [a,i,F];exact{f,fd,ok F,⟨a,i,F.kp⟩,F.binds b}
def gnc(P:bq:=by assumption)(w:World:=by assumption)(base:Heap:=by assumption)(ok:∀ {f fd},Fun K "__init__" q st f fd->FP P w K mg base k f fd ps sp)(g:GN K C x q st:=by assumption)(X:K.In h:=by assumption)(G:h.Ns bg mg:=by assumption)
  (b:Y0 "__init__" q st ps:=by intro z z z z z z;apply un;(repeat intro z);rfl):YD P w K mg base C k x ps sp:=by
 refine u2 ?_ g.m.ex;intro f fd [a,i,F];exact{f,fd,ok F,⟨g.mks,a,i,g.kc⟩,W.mg_of X G g.ac,F.binds b}
def GF.law(g:GF K x st)(X:K.In h)(G:h.Ns bg mg)(d:mg x=some (.ref j))
  (b:∀ (kV c pm:Value) (e:Option Addr) (i ct:Value) (s:ν) (v:Value),ww s (W.fnOf x x (KO st) (HQ st) (AT st) .none kV c pm e i ct) {[v],[]} [("script",v)]) :
  ∃ fd:gq,(∀ (s:ν) (v:Value),ww s fd {[v],[]} [("script",v)])/\Fun K x x st j fd:=by
 refine u2 ?_ g.ex;intro f fd [a,F];cases (d.symm.trans<|W.mg_of X G a);refine u9 ?_ F.ex;intro n od kV c pm e i ct l [rfl,o,p];exact{_,b kV _ pm e _ ct,F}
end
def U0(K:W.Frag)(to c d:TE)(e:V->V->Hp->VK->Prop):TS:=λD a H=>to a H λx g=>c a g λy b=>∃ p xs,∃ n:Nat,∃ v,x=.ref p/\y=.int n/\SqL K b p xs/\xs[n]? =some v/\d a b λz i=>e v z i λu j=>RB (.ref p) (.int n) u j λl=>D.nx a l
def zhd{K:W.Frag}{to b c:TE}{d:V->V->Hp->VK->Prop}{D:Ends}{a:St}{H:Hp}:U0 K to b c d D a H=(to a H λx g=>b a g λy e=>∃ p xs,∃ n:Nat,∃ v,x=.ref p/\y=.int n/\SqL K e p xs/\xs[n]? =some v/\c a e λz i=>d v z i λu j=>RB (.ref p) (.int n) u j λl=>D.nx a l):=rfl
section
variable{X:Cx}{o i value:Expr}{td ty tv:TE}{tpos pos:Pos}
def zhe(E:PE X o td)(J:PE X i ty)(L:PE X value tv)(c:XZ X op M)
  (N:∀ b iv new,augStore i b iv new=(do tf [new,b,iv] (Ki b iv new);release [new,b,iv] [];pure .next):=by intros;rfl):PS X (.AugAssign (.Subscript o i tpos) op value pos) (U0 X.K td ty tv M):=by
 refine λAA s a H D I h=>wpAny_AugAssign_SubscriptAny (AU (E _ s a H _ I h) λu O ⟨x,Q,T,U,q1⟩=>AU (J _ O a Q _ T q1) λiv Y d=>?_) N;let[y,H2,l,A,p,xs,n,v,ex,ey,hq,B,q2]:=d;subst ex ey
 have e:=A;obtain rfl:u=eq p:=U;let[t,rfl]:=A;let[AK,r,pl,hz]:=l.list hq
 have hn:=QX;let[w,ew,g]:=r.get B
 have A0:=(η.mp B).1;exact wpAny_getItem_list pl.isList (by lia) (by lia)  (by simpa using ew) (AU (L _ Y a H2 _ l q2) (by intro w2 s4 [y2,H3,I4,j,q3];exact AU (c _ s4 a H3 v y2 w w2 _ I4 g j q3) (by intro w3 s5 [z,H4,I5,rz,q4];exact(AU (sO _ s5 a H4 (.ref p) _ z _ _ _ _ I5 rfl e rz q4) (by intro q s6 [H5,I6,q5];exact⟨a,H5,I6,q5⟩)))))
end
def zhf(l:Addr)(c:Array Value)(n:Nat)(b:Addr)(a:Array Value)(j:Nat)(d:Option Addr)(o:Array (Option Value))(p:¬(!c.isEmpty&&kj (c.size+a.size))=true)(e:c.size<=sizeLine)(g:c.size+a.size<=sizeLine+1) :
  Meets (vg.«list.extend» {[.ref l,.ref b],[]}) (λ_ R s=>s.heap.get? l=some { cls:=.type "list",dict:=none,data:=.seq c n,slots:= #[] }/\s.heap.get? b=some { cls:=.type "tuple",dict:=d,data:=.seq a j,slots:=o }/\R (.ok<|.ret ki) { s with heap:=s.heap.update l<|lw λx=>x++a,toks:=s.toks }) :=
 .of_wp λprog w A R s h=>by
  let[i,q,h]:=h;have r:(c++a).size<=sizeLine+1:=by rw[Ct];exact g
  wp_walk using (yu i rfl (hz:=e) ),xq i,xq q;exact⟨_,rfl,h⟩
def Y1(K:W.Frag):V->eI->Hp->VK->Prop:=λx vs H Q=>∃ l b xs zs,x=.ref l/\vs=[.ref b]/\H l=some (.lst xs)/\SqT K H b zs/\xs.length+zs.length<=sizeLine/\Q .non (upd H l<|.lst<|xs++zs)
def zhg:UI X "list.extend" (Y1 X.K):=by
 intro L s M H x vs v us Q I p w [l,b,xs,zs,rfl,rfl,g,y,hz,q];subst p;let[z,c,n,r,N,e]:=I.lstM g;let[u,rfl,rfl]:=w.one;let[d,i,[o,A,B,D,hd],E]:=I.tuple y
 have O:=i.length;let[T,od,j,J]:=o;subst B hd
 have hsz:c.toArray.size+d.toArray.size<=sizeLine:=by rw[aw,aw];lia
 have a:¬ (!c.toArray.isEmpty&&kj (c.toArray.size+d.toArray.size))=true:=by
  rw[rH hsz,Iy];exact ay
 refine ik F.slot_list_extend ⟨_,e,rfl⟩ F.entry_list_extend (F.args_list_extend_2 _ _)
  (zhf l c.toArray n b d.toArray D _ _ a (by lia) (by lia)) {e,A,{.non,_,I.lset  g e (by simp) (r.append i) ?_,rfl,q}}
 rw[ae];omega
section
variable{X:Cx}{tg:Expr}
end
section
variable{K:W.Frag}{g:TG}{tt:TT}{te:TE}{k:Nat}{A5:wH}{σ:St}{H:Hp}{Q:VK}
def t5(p:yF)(u:xs.length<=sizeLine)(Pv:Nat->eI->Hp->Prop)(h0:Pv 0 [] H)(n:∀ i ys H,i<=xs.length->Pv i ys H->SqL K H b xs/\ys.length<=i)
  (o:∀ i x ys H,xs[i]? =some x->Pv i ys H->∀ d:Bool->Hp->Prop,d (p i) H->tt (some x::C1 A5 σ) H d)
  (hs:∀ i x ys H,xs[i]? =some x->p i=true->Pv i ys H->te (some x::C1 A5 σ) H λy r=>Pv (i+1) (ys++[y]) r)
  (hf:∀ i x ys H,xs[i]? =some x->p i=false->Pv i ys H->Pv (i+1) ys H)
  (hd:∀ ys H,Pv xs.length ys H->∀ q,H q=none->Q (.ref q) (upd H q<|.lst ys)):EN (GK K b) (AF 0) tt te 1 A5 σ H Q:=by
 refine{λi m a ys H=>m=xs.length-i/\i<=xs.length/\(∃ j,a=j::C1 _ σ)/\Pv i ys H,{xs.length,rfl,bt _,⟨_,rfl⟩,h0},?_};intro i m a ys H [rfl,s,[j,rfl],P];let[q,v]:=n i ys H s P;by_cases c:i<xs.length;refine .inr {{xs,xs[i],q,by simp[c]},by lia,λx H' y=>?_};let[rfl,y]:=y
 have ex:=y xs q;refine o i x ys _ ex P _ ?_;cases l:p i with
 |true =>
  exact{_,λy w q=>{_,by omega,rfl,c,⟨_,rfl⟩,q},hs i x ys _ ex l P}
 |false =>
  exact{_,by omega,rfl,c,⟨_,rfl⟩,hf i x ys _ ex l P}
 have e:i=xs.length:=by lia
 subst e;exact .inl {{xs,q,π _},hd ys H P}
def Y2(p:yF)(I:xs.length<=sizeLine)(Pv:Nat->eI->Hp->Prop)(h0:Pv 0 [] H)(w:∀ i ys H,i<=xs.length->Pv i ys H->SqL K H b xs/\ys.length<=i)
  (z:∀ i ys H t o,Pv i ys H->H t=none->Pv i ys (upd H t o))
  (A:∀ i x ys H,xs[i]? =some x->Pv i ys H->∀ n:Bool->Hp->Prop,n (p i) H->tt (some (.int (i:Int))::some x::C1 A5 σ) H n)
  (hs:∀ i x ys H,xs[i]? =some x->p i=true->Pv i ys H->te (some (.int (i:Int))::some x::C1 A5 σ) H λy B=>Pv (i+1) (ys++[y]) B)
  (hf:∀ i x ys H,xs[i]? =some x->p i=false->Pv i ys H->Pv (i+1) ys H)
  (hd:∀ ys H,Pv xs.length ys H->∀ q,H q=none->Q (.ref q) (upd H q<|.lst ys)):EN (L7 K b) (FQ K 2<|DX (AF 0) (DX (AF 1) FO)) tt te 2 A5 σ H Q:=by
 refine{λi m a ys H=>m=xs.length-i/\i<=xs.length/\(∃ r s,a=r::s::C1 _ σ)/\Pv i ys H,{xs.length,rfl,bt _,⟨_,_,rfl⟩,h0},?_};intro i m a ys H [rfl,D,[r,s,rfl],P];let[q,J]:=w i ys H D P;by_cases c:i<xs.length;refine .inr {{xs,xs[i],q,by simp[c]},by lia,λv H' d=>?_};let[t,j,e,x,E,q1]:=d
 have ex:=q1 xs q;subst e E
 have l:=z i ys H t (.tup [.int i,x]) P j;refine{t,_,rfl,SqT.of AG,rfl,({_,_,rfl,{_,_,rfl,{rfl,(A i x ys _ ex l _ ?_)}}})};cases u:p i with
 |true =>
  exact{_,λy L q=>{_,by omega,rfl,c,⟨_,_,rfl⟩,q},hs i x ys _ ex u l}
 |false =>
  exact{_,by omega,rfl,c,⟨_,_,rfl⟩,hf i x ys _ ex u l}
 have e:i=xs.length:=by lia
 subst e;exact .inl {{xs,q,π _},hd ys H P}
end
section
variable{prog:bq}{w:World}{K:Type}[DecidableEq K]{C0:HeapKind prog w K}{A:de}{E:yC}{s:ν}
def zhh(H:C0.room A)(c:C0.is s.heap k a)(I:s.heap.DictOfH C0 d xs)
  (r:∀ h',h'.DictOfH C0 d (wx xs k a v)->gz d s.heap h'->Q () { s with heap:=h' }) (hsz:xs.length<=sizeLine) :
  wpAny (model prog w) A (dictSetHashed d (.ref a) (C0.hash k) v) Q E s:=by
 revert I;apply u3;intro o L J [g,u,hd,he,i,l]
 have keep:∀ {f:Obj->Obj} {x:K × Addr × Value},x∈xs->C0.is (s.heap.update d f) _ _:=λb=>C0.keeps (i _ b) g hd (fq ..);unfold dictSetHashed
 try with_reducible refine fi ?_
 refine δ<|wpAny_dictFind_heap H c g hd he i l (λn=>?_) λj p B=>?_;refine δ (sj (wpAny_updateDictKeys (hz:=by have e:=size_of_entries he;lia) g hd (r _ ?_<|fq ..)));rw[(storedH_new (atKey_none_of_get n) a v)];refine x3 _ _ _ {d_ _ g<|va<|nu hd _,u.mapDictKeys _,nu hd _,by simp[he,vq],λx b=>?_,?_};let b||b:=bh.mp b
 exact keep b;cases aa.mp b;exact C0.keeps c g hd<|fq ..;rw[ak,mz];refine{l,by simp,λx b y q e=>not_mem_keys_of_get n ?_};rw[show k=y from(aa.mp q).symm,<-e];exact b;refine δ<|sj<|δ<|wpAny_updateDict g hd<|wpAny_point<|r _ ?_<|fq ..;rw[(storedH_old (atKey_of_get l B) a v)];refine x3 _ _ J {d_ _ g<|va<|Ga hd _,u.mapDict _,Ga hd _,?_,λx b=>?_,by rw[keys_map_putAt];exact l}
 have:=modify_map_putAt (vq C0) (λe:F_=>{ e with val:=v }) k v (λz z=>rfl) l B;rw[<-he]at this;simpa using this;let[y,q,rfl]:=a_.mp b
 have D:=λf=>keep (f:=f) q;unfold putAt;split;exact D _;exact D _
def JK(xs ys:List (K × Addr × Value)):List (K × Addr × Value):=ys.foldl (λa y=>wx a y.1 y.2.1 y.2.2) xs
def zhi(xs:List (K × Addr × Value))(k:K)(a:Addr)(v:Value):(wx xs k a v).length<=xs.length+1:=by
 unfold wx;split;rw[ε];lia;rw[ae];exact π _
theorem t7:∀ (ys xs:List (K × Addr × Value)),(JK xs ys).length<=xs.length+ys.length
 | [],xs=>π _
 |y::ys,xs=>by
  have h1:=t7 ys<|wx xs y.1 y.2.1 y.2.2
  have h2:=zhi xs y.1 y.2.1 y.2.2
  show(JK _ ys).length<=_;rw[cf];lia
def zhj{xs ys:List (K × Addr × Value)}{y:K × Addr × Value}(h:ys[i]? =some y):JK xs (ys.take<|i+1)=wx (JK xs<|ys.take i) y.1 y.2.1 y.2.2:=by
 have:ys.take (i+1)=ys.take i++[y]:=by rw[cu,h];rfl
 unfold JK;rw[this,kf]
 rfl
def zhk(b:s.heap.get? a=some o)(c:o.cls=.type "tuple")(h:Q false s):wpAny (model prog w) A (Builtin.Dict.quietEq<|.ref a) Q E s:=δ<|uz ⟨o,b,c⟩ F.slot_tuple_eq.lookup (ρ h)
def Y3(C0:HeapKind prog w K)(ys:List (K × Addr × Value)):Prop:=(ys.map λy=>C0.hash y.1).Nodup
def zhl{id:String}{d:Addr}{o:Obj}{c n}{ys:List (K × Addr × Value)}{Q:Array F_->ν->Prop}(p:s.heap.get? d=some o)(hd:o.data=.dict c n)(he:c.toList=ys.map (vq C0))(q:∀ y∈ys,∃ ob,s.heap.get? y.2.1=some ob/\ob.cls=.type "tuple")(ap:Y3 C0 ys)(h:Q c s) :
  wpAny (model prog w) A (Builtin.Dict.entriesForEmpty id d) Q E s:=by
 refine δ<|m_ p hd ?_
 have one:∀ e∈c.toList,(c.filter (·.hash==e.hash)).size<=1:=λe g=>by
  rw[<-dg,Array.toList_filter,he,yv,ε];rw[he]at g;let[y,l,rfl]:=a_.mp g
  have:(ys.filter<|(λx:F_=>x.hash ==(vq C0 y).hash) ∘ vq C0).length=(ys.map λy=>C0.hash y.1).count (C0.hash y.1):=by
   rw[List.count_eq_countP,List.countP_map,List.countP_eq_length_filter]
   rfl
  rw[this];exact zr.mp ap _
 refine δ ?_;rw[<-Array.forIn_toList];refine Ge _ (λrest z j=>j=s/\∀ e∈rest,e∈c.toList) _ ?_ ?_ _ _ {rfl,λe h=>h};intro e rest b j [rfl,a]
 have g:=a e χ
 have i:=g;rw[he]at i;let[y,l,r]:=a_.mp i
 have u:e.key=.ref y.2.1:=by rw[<-r];rfl
 let[ob,h1,h2]:=q y l;rw[u];refine δ<|zhk h1 h2 ?_;simp only[Bool.not_false,if_true];rw[if_neg (by have:=one e g;omega)];exact ρ {rfl,λv h'=>a v<|τ _ h'};intro b j [rfl,z];exact ρ h
def zhm{xs ys:List (K × Addr × Value)}{Q:Unit->ν->Prop}(hu:C0.room A)(u:d≠o)(M:(o == gr)=false)
  (hd:s.heap.DictOfH C0 d xs) (ho:s.heap.DictOfH C0 o ys) (ht:∀ y∈ys,∃ ob,s.heap.get? y.2.1=some ob/\ob.cls=.type "tuple") (ap:xs=[]->Y3 C0 ys)
  (N:∀ h',(h'.DictOfH C0 d (JK xs ys)\/(xs=[]/\h'.DictOfH C0 d ys))->gz d s.heap h'->Q () { s with heap:=h' })
  (hsz:xs.length+ys.length<=sizeLine) :
  wpAny (model prog w) A (ym nm d o) Q E s:=by
 refine u3 ?_<|id hd;intro od esd epd [e,G4,c,B,hisd,hnd];refine u3 ?_<|id ho;intro oo g epo [j,hco,a,n,q,O]
 have D:=size_of_entries n;unfold ym;rw[if_neg (by simpa using u)];unfold Builtin.Dict.showsAll;rw[if_neg (by rw[M];exact ay)];refine δ<|ρ<|δ<|m_ j a ?_;dsimp only;split
 any_goals (refine δ<|m_ e c ?_;split)
 rename_i H
 have I:xs=[]:=by
  rw[(En.mp H)]at B;exact Ai.mp B.symm
 refine δ<|zhl  j a n ht (ap I) ?_;split;refine δ (wpAny_updateDictKeysTo e c (ρ (N _ (.inr ⟨I,_,_,_,d_ _ e<|va<|nu c _,G4.mapDictKeys _,
  nu c _,n,λx hx=>C0.keeps (q x hx) e c (fq ..),O⟩) (fq ..))) (by lia))
 rename_i T
 have h0:=En.mp (by simpa using T)
 have U:=fb.mp (by rw[<-D,h0];rfl);subst U;exact ρ<|N _ (.inl hd) (xb _ _)
 all_goals
  refine δ<|wpAny_dictEpoch j a<|δ<|m_ j a<|δ ?_;rw[zt];refine Ge _
   (λrest _ Y=>∃ h' i,Y={ s with heap:=h' }/\rest=Hn i (g.size-i)/\i<=g.size/\h'.DictOfH C0 d (JK xs<|ys.take i)/\gz d s.heap h')
   _ ?_ ?_ _ _ (x2 s.heap 0 {rfl,by simp,bt _,hd,xb _ _})
  intro x rest b Y [h',i,rfl,v,hi,p,l]
  have A0:i<g.size:=by
   let h||h:=ee i g.size
   ·exact h
   ·rw[yz h]at v;simp at v
  obtain⟨rfl,z⟩:x=i/\rest=Hn (i+1) (g.size-(i+1)):=by
   rw[show g.size-i=(g.size-(i+1))+1 by omega,Gf]at v;injection v with h1 h2
   exact⟨h1,h2⟩
  have r:h'.get? o=some oo:=(l.2 o<|fg u).trans j;obtain⟨y,hy⟩:∃ y,ys[x]? =some y:={ys[x]'(by lia),ι _}
  have hk:C0.is h' y.1 y.2.1:=C0.keeps (q y<|θ hy) e c l;refine δ<|m_ r a ?_;rw[entry_at n x,hy]
  have hmx:(JK xs<|ys.take x).length<=sizeLine:=by
   have e1:=t7 (ys.take x) xs
   have e2:(ys.take x).length<=ys.length:=by rw[cz];lia
   lia
  refine δ<|fi<|zhh (s:={ s with heap:=h' }) hu hk p (λh2 hd2 J=>?_) hmx
  have L:h2.get? o=some oo:=(J.2 o<|fg u).trans r;refine δ<|wpAny_dictEpoch L a ?_;rw[if_neg (by simp)];exact ρ (x2 h2 (x+1) {rfl,z,A0,by rw[zhj hy];exact hd2,l.trans J})
  ·intro b Y [h',i,rfl,v,hi,p,l]
   have hin:i=g.size:=by
    let h||h:=ee i g.size
    ·rw[show g.size-i=(g.size-(i+1))+1 by omega,Gf]at v;exact nomatch v
    ·exact jz hi h
   refine ρ<|N h' (.inl ?_) l;rw[hin,D,bz]at p;exact p
def zhn(C0:HeapKind prog w K)(d o:Addr)(b:d≠o)(c:(o == gr)=false) :
  MeetsIn prog w (vg.«dict.update» {[.ref d,.ref o],[]}) (λA R s=>C0.room A.in1/\∃ xs ys,s.heap.DictOfH C0 d xs/\s.heap.DictOfH C0 o ys/\(∀ y∈ys,∃ ob,s.heap.get? y.2.1=some ob/\ob.cls=.type "tuple")/\(xs=[]->Y3 C0 ys)/\xs.length+ys.length<=sizeLine ∧
   ∀ h',(h'.DictOfH C0 d (JK xs ys)\/(xs=[]/\h'.DictOfH C0 d ys))->gz d s.heap h'->R (.ok<|.ret .none) { s with heap:=h' }) :=
 .of_wp (by
  intro A R s [i,xs,ys,hd,a,j,ap,hsz,h];refine δ<|δ<|wpAny_notOrdered_dict hd.typeIs<|ρ ?_;exact δ<|ye a.typeIs<|δ<|δ<|δ<|om a.typeIs isSubtype_dict_dict<|δ<|uz a.typeIs F.slot_dict_iter.lookup<|ρ<|δ<|ρ<|zhm i b c hd a j ap (λh' e g=>(δ<|ρ<|ρ {_,rfl,h h' e g})) hsz)
end
def EX(kvs more:zA):zA:=more.foldl (λb a=>CF b a.1 a.2) kvs
def KT.merge:∀ {more:zA} {ys:eA} {kvs:zA} {xs:eA},KT H more ys->KT H kvs xs->KT H (EX kvs more) (JK xs ys):=by
 intro more ys kvs xs r
 induction r generalizing kvs xs with
 |nil=>intro q;exact q
 |@cons p q ps c h t a =>
  intro b
  have e:KT H (CF kvs p.1 p.2) (wx xs q.1 q.2.1 q.2.2):=by
   rw[<-h.1];exact(b.put _ h.2.1 h.2.2)
  exact a e
theorem Y4:∀ (more kvs:zA),(EX kvs more).length<=kvs.length+more.length
 | [],kvs=>π _
 |p::r,kvs=>by
  have h2:=JI kvs p.1 p.2
  have h1:=Y4 r<|CF kvs p.1 p.2
  show(EX _ r).length<=_;rw[cf];lia
theorem Y5:∀ (more a:zA),((a++more).map (·.1)).Nodup->EX a more=a++more
 | [],a,_=>by simp[EX]
 |p::r,a,h=>by
  have e:CF a p.1 p.2=a++[p]:=by
   unfold CF;rw[if_neg];rw[dt];intro[x,b,he];rw[ak,mz]at h;exact h.2.2 _ (a_.mpr ⟨x,b,rfl⟩) _ (by simp) (of_decide_eq_true he)
  show EX (CF _ _ _) r=_;rw[e,Y5 r _ (by rw[dk];exact h),dk]
  rfl
def KT.keys(r:KT H kvs xs):kvs.map (·.1)=xs.map (·.1):=by
 induction r with
 |nil=>rfl
 |cons h t a=>rw[bu,bu,a,h.1]
def U1(more:zA):Prop:=∀ (P:bq) (w:World),((more.map (·.1)).map (nv<|EW P w).hash).Nodup
def Y6:V->eI->Hp->VK->Prop:=λx vs H Q=>∃ d o kvs more,x=.ref d/\vs=[.ref o]/\d≠o/\H d=some (.dT kvs)/\H o=some (.dT more)/\(kvs=[]->U1 more)/\kvs.length+more.length<=sizeLine/\Q .non (upd H d<|.dT<|EX kvs more)
def zho(N:X.A.units+1<cLine):UI X "dict.update" Y6:=by
 intro O s T H x vs v us Q I U Y h;revert h;apply u4;intro d o kvs more [rfl,rfl,n,p,hO,ap,hz,q];subst U;let[z1,w,xs,g,l]:=UK I.hok p;let[u,rfl,rfl]:=Y.one;let[z2,B,ys,a,j]:=UK I.hok hO
 have J:=Paired.length g
 have l2:=Paired.length a
 have nd:(more.map (·.1)).Nodup:=by
  revert j;apply u3;intro _ _ _ [_,_,_,_,_,hn];rw[a.keys];exact hn
 refine ve PySem.F.slot_dict_update l.typeIs PySem.F.entry_dict_update (PySem.F.args_dict_update_2 _ _) (zhn (nv<|EW X.prog X.w) d o n B) {iz N,x2 xs ys {l,j,λy hy=>?_,λe=>?_,by lia,λh' dd hs=>?_}}
 ·revert j;apply u3;intro _ _ _ [_,_,_,_,D,_];refine u3 ?_<|D y hy;intro ob _ _ [h1,h2,_];exact⟨ob,h1,h2⟩
 ·have:=ap (fb.mp (by rw[J,e];rfl)) X.prog X.w;rw[a.keys,jh]at this;exact this
 ·have tk:∀ {i:zA} {b:eA},KT H i b->KT (upd H d<|.dT<|EX kvs more) i b:=λr=>r.keeps λc ys L=>by
   rw[AJ (BI L p (λz=>nomatch z))];exact L
  have fin:∀ {b},KT H (EX kvs more) b->h'.DictOfH (nv<|EW X.prog X.w) d b->EP X O T Q .none { s with heap:=h' }:=λ{b} r E=>by
   revert E;apply u3;intro ob es ep [M,h2,h3,h4,_,h5];exact x2 (.non) _ {UL (ob:=.dT<|EX kvs more) I (by rw[p];exact rq) hs ⟨ob,M⟩ {(by have:=Y4 more kvs;lia),w,_,tk r,x3 ob es ep ⟨M,h2,h3,h4,h5⟩},rfl,q}
  let dd||[e,dd]:=dd
  ·exact fin (a.merge g) dd
  ·have e0:kvs=[]:=fb.mp (by rw[J,e];rfl);refine fin ?_ dd;rw[e0,Y5 more [] nd];exact a
def U2(H:Hp)(ps:List (V × V))(kvs:zA):Prop:=Paired (λ(q:V × V) (a:List AN × V)=>(∃ b,q.1=.ref b/\H b=some (.tup<|a.1.map kV))/\q.2=a.2) ps kvs
def zhp:upd (upd H p o) p a=upd H p a:=by
 funext x;by_cases e:x=p;rw[e,AG,AG];rw[AJ e,AJ e,AJ e]
def zhq(h:H p=some o):upd H p o=H:=by
 funext x;by_cases e:x=p;rw[e,AG,h];rw[AJ e]
def zhr(hu:X.A.units+1<cLine):∀ (ws:List (Value × Value)) (ps:List (V × V)) (kvs a:zA) (s:ν) (H:Hp) (Q:PUnit->ν->Prop),Inv X L n H s->H d=some (.dT a)->VV ps ws->U2 H ps kvs->a.length+kvs.length<=sizeLine ->
  (∀ j,Inv X L n (upd H d<|.dT<|EX a kvs) j->Q PUnit.unit j)->wpAny (model X.prog X.w) X.A (storeAll d ws) Q E s:=by
 intro ws
 induction ws with
 |nil =>
  intro ps kvs a s H Q I e rel g hz h;cases rel;cases g;refine ρ<|h s ?_
  show Inv X _ n (upd H d<|.dT a) s;rw[zhq e];exact I
 | cons x ws M =>
  intro ps kvs a s H Q I e rel g hz h;cases rel with
  | @cons p _ ps _ w rel =>
   cases g with
   |@cons _ o _ kvs N g =>
    let[[b,O,y],T]:=N;let[u,v]:=x
    have B:=w.2
    have D:=w.1;rw[O]at D;rw[T]at B;cases (D);rw[cf]at hz;let[z,hd,xs,rl,dd]:=UK I.hok e
    have hl:=JI a o.1 o.2;unfold storeAll;rw[ir];refine δ (δ (wpAny_dictSet_heap (hsz:=(by rw[<-Paired.length rl];exact z))  (show X.A.units<cLine by lia) (LS I.hok y) dd λh' r hs=>ρ ?_))
    have tk:∀ {U:HO} {c:Addr} {ys:eI},H c=some (.tup ys)->upd H d U c=some _:=λl=>by
     rw[AJ (BI l e (λz=>nomatch z))];exact l
    revert r;apply u3;intro q Y ep [J,h2,h3,h4,_,h5]
    have I':Inv X _ n _ { s with heap:=h',toks:=s.toks+(nv<|EW X.prog X.w).draws o.1 } :=
     UL (ob:=.dT _) I (by rw[e];exact rq) hs ⟨q,J⟩ {by omega,hd,_,(rl.put _ y B).keeps λc ys l=>tk l,x3 q Y ep ⟨J,h2,h3,h4,h5⟩}
    refine M ps _ _ _ _ Q I' AG rel (Paired.mapP g (by intro q kv' [[b',e1,e2],e3];exact{{b',e1,tk e2},e3})) (by omega) λj i=>h j ?_;rw[zhp]at i;exact i
def NI(a:List (TE × TE)):TE:=λc H Q=>∀ p,H p=none->NC a c (upd H p<|.dT []) λps b=>b p=some (.dT [])/\∃ kvs:zA,U2 b ps kvs/\kvs.length<=15/\Q (.ref p) (upd b p<|.dT<|EX [] kvs)
def zhs(c:X.A.units+1<cLine)(h:UM X pos keys values b)(a:keys.all (·.isSome)=true)(d:keys.length=values.length)(h0:keys≠[])
  (h15:keys.length<=15):PE X (.Dict keys values pos) (NI b):=by
 refine λp s g H Q I q=>wpAny_Dict_any a d h0 h15<|AU (h _ _ g _ _ (I.laid     (λz z q=>ξ _ q) (π _) (rT _ I.big)) (q _<|I.hok.fresh<|π _)) λws j ⟨ps,l,n,rel,e,kvs,o,r,q2⟩=>(zhr c ws ps _ [] j l _ n e rel o ?_ λu i=>x2 (.ref _) _ ⟨i,rfl,q2⟩);rw[fk,mn];lia
def zht:NI a c H Q=∀ p,H p=none->NC a c (upd H p<|.dT []) λps b=>b p=some (.dT [])/\∃ kvs:zA,U2 b ps kvs/\kvs.length<=15/\Q (.ref p) (upd b p<|.dT<|EX [] kvs):=rfl
def zhu:X9 e ty tx b H Q=(e b H λx c=>∃ a,x=.ref a/\OH c a/\ty b c λy g=>tx b g λz d=>∃ o,DGet d a y o/\Q (o.getD z) d):=rfl
def zhv:NC [] b H a=a [] H:=rfl
def zhw:NC ((tk,b)::r) a H c=(tk a H λx d=>b a d λy e=>NC r a e λps g=>c ((x,y)::ps) g):=rfl
def Ends.thaw(D:Ends)(d:Addr)(o:Obj)(kvs:cD):Ends:={ D with nx:=λa H=>H d=some (.frz o<|.dK kvs)/\D.nx a (upd H d<|.dK kvs),rt:=λv H=>H d=some (.frz o<|.dK kvs)/\D.rt v (upd H d<|.dK kvs) }
def zhx(c:TE)(g:TG)(e:TS):TS:=λD a H=>c a H λx b=>∃ d kvs,x=.ref d/\b d=some (.dK kvs)/\∀ o,HR (tV d o kvs) g e (D.thaw d o kvs) a (upd b d<|.frz o<|.dK kvs)
def zhy:zhx c g e D a H=(c a H λx b=>∃ d kvs,x=.ref d/\b d=some (.dK kvs)/\∀ o,HR (tV d o kvs) g e (D.thaw d o kvs) a (upd b d<|.frz o<|.dK kvs)):=rfl
section
variable{X:Cx}{tg:Expr}
end
section
variable{X:Cx}
end
def Fly.kept{bad:yE}{H:Hp}{h h':Heap}{e:Addr}{cls:Value}(F:Fly bad H h e cls)(k:∀ b o,h.get? b=some o->h'.get? b=some o):Fly bad H h' e cls:=by
 let[i,fr,j,vs,h1,h2,h3,h4,h5]:=F;refine{i,fr,x2 j vs {k _ _ h1,h2,h3,h4,?_}};let z||[T,l,n,a,b,c,d,f,g]:=h5
 ·exact .inl z
 ·exact .inr<|x3 T l n {a,b,c,d,k _ _ f,g}
def CT(x:V)(P:yE):Prop:=match x with
 |.ref a=>P a
 |_=>False
def G8(x:V)(P:Int->Prop):Prop:=match x with
 |.int a=>P a
 |_=>False
def IQ(x:V)(P:Bool->Prop):Prop:=match x with
 |.bl a=>P a
 |_=>False
def FT(xs:eI)(P:V->Prop):Prop:=match xs with
 | [x]=>P x
 |_=>False
def RK(xs:eI)(P:V->eI->Prop):Prop:=match xs with
 |x::r=>P x r
 |_=>False
def RL(xs:eI)(P:Prop):Prop:=match xs with
 | []=>P
 |_=>False
def GR:CT x P=∃ a,x=.ref a/\P a:=by cases x<;>simp[CT]
def RM:G8 x P=∃ a,x=.int a/\P a:=by cases x<;>simp[G8]
def U3:IQ x P=∃ a,x=.bl a/\P a:=by cases x<;>simp[IQ]
def OL:FT xs P=∃ x,xs=[x]/\P x:=by rcases xs with _|⟨x,_|⟨y,r⟩⟩<;>simp[FT]
def zhz:RK xs P=∃ x r,xs=x::r/\P x r:=by
 let _||[x,r]:=xs<;>simp[RK]
 exact{λh=>{x,r,⟨rfl,rfl⟩,h},(by intro[z,z,[e,a],h];exact e ▸ a ▸ h)}
def zh0:RL xs P=(xs=[]/\P):=by let _||[x,r]:=xs<;>simp[RL]
section
variable{P:yE}{PI':Int->Prop}{PB:Bool->Prop}{P1:V->Prop}{P2:V->V->Prop}{PC':V->eI->Prop}{Z:Prop}{p:Addr}{i:Int}{b:Bool}{x y:V}{r:eI}
def zh1:CT (.ref p) P=P p:=rfl
def zh2:G8 (.int i) PI'=PI' i:=rfl
def zh3:IQ (.bl b) PB=PB b:=rfl
def zh4:FT [x] P1=P1 x:=rfl
def zh5:RK (x::r) PC'=PC' x r:=rfl
def zh6:RL [] Z=Z:=rfl
def zh7:@ite Prop (true=true) (instDecidableEqBool true true) A B=A:=rfl
def zh8:@ite Prop (false=true) (instDecidableEqBool false true) A B=B:=rfl
def zh9:(!true)=false:=rfl
def zia:(!false)=true:=rfl
def zib{α c :Type}:Kt f (a::l)=f a::Kt f l:=rfl
def zic{α a :Type}:Kt f []=[]:=rfl
end
section
variable{K:W.Frag}{ta tb tc to ti tv tl td ty tx:TE}{s1:TS}{r r':R2}{σ:St}{H:Hp}{Q:VK}{D:Ends}{QB:zC}{as:TA}{g:TG}{gs:HL}{tt:TT}{te:TE}{k i:Nat}{A5:wH}{f m:Str}{C:Addr}{sp:Sp}{E:St->XK}{v:V}{vs:eI}{QG:St->Hp->Prop}{X:Cx}{e:Expr}{es:wF}{st:Stmt}{tg it:Expr}{QO:Option Int->Hp->Prop}{p q:Addr}{x y:Int}{b b':Bool}{s s':Str}
def AR(K:W.Frag)(ta:TE)(f:Str):TE:=λσ H Q=>ta σ H λx c=>CT x λa=>∃ C d fs,c a=some (.ins C d fs)/\Cls K C/\NoAttr K C f/\∃ v,fs.lookup f=some v/\Q v c
def zid:AR K ta f=QZ K ta f:=by funext σ H Q;simp only[AR,QZ,GR];simp
def zie:AR K ta f σ H Q=ta σ H λx c=>CT x λa=>∃ C d fs,c a=some (.ins C d fs)/\Cls K C/\NoAttr K C f/\∃ v,fs.lookup f=some v/\Q v c:=rfl
def pFl(h:PE X e (QZ K ta f)):PE X e (AR K ta f):=zid ▸ h
def AM(C:Addr)(m:Str)(sp:Sp)(E:St->XK)(ta:TE)(t:TA):TE:=λσ H Q=>ta σ H λx c=>CT x λa=>∃ d fs,c a=some (.ins C d fs)/\fs.lookup m=none/\t σ c λvs j=>sp (x::vs) j Q (E σ)
def zig:AM C m sp E ta as=JF C m sp [] E ta as:=by funext σ H Q;simp only[AM,JF,GR];simp
def zih:AM C m sp E ta as σ H Q=ta σ H λx c=>CT x λa=>∃ d fs,c a=some (.ins C d fs)/\fs.lookup m=none/\as σ c λvs j=>sp (x::vs) j Q (E σ):=rfl
def U4(h:PE X e (JF C m sp [] E ta as)):PE X e (AM C m sp E ta as):=zig ▸ h
def BE(sp:Sp)(E:St->XK)(t:TA):TE:=λσ H Q=>t σ H λvs a=>sp vs a Q<|E σ
def zii:BE sp E as=M8 sp [] E as:=by funext σ H Q;simp only[BE,M8,iq]
def zij:BE sp E as σ H Q=as σ H λvs a=>sp vs a Q (E σ):=rfl
def Y7(h:PE X e (M8 sp [] E as)):PE X e (BE sp E as):=zii ▸ h
def F8(C:Addr)(sp:Sp)(E:St->XK)(t:TA):TE:=λσ H Q=>t σ H λvs c=>∀ x a,c x=none->c a=none->a≠x->sp (.ref x::vs) (upd (upd c a<|.own x) x (.ins C a [])) (λv d=>v=.non/\Q (.ref x) d) (E σ)
def zik:F8 C sp E as=OD C sp [] E as:=by funext σ H Q;simp only[F8,OD,iq]
def zil:F8 C sp E as σ H Q=as σ H λvs c=>∀ x a,c x=none->c a=none->a≠x->sp (.ref x::vs) (upd (upd c a<|.own x) x (.ins C a [])) (λv d=>v=.non/\Q (.ref x) d) (E σ):=rfl
def pMk(h:PE X e (OD C sp [] E as)):PE X e (F8 C sp E as):=zik ▸ h
def CS(K:W.Frag)(ta tv:TE)(f:Str):TS:=λD σ H=>tv σ H λy j=>ta σ j λx c=>CT x λa=>∃ C d fs,c a=some (.ins C d fs)/\Cls K C/\NoAttr K C f/\fs.length<1000/\D.nx σ (upd c a<|.ins C d<|BO f y fs)
def zin:CS K ta tv f=Q0 K ta tv f:=by funext D σ H;simp only[CS,Q0,GR];simp
def zio:CS K ta tv f D σ H=tv σ H λy j=>ta σ j λx c=>CT x λa=>∃ C d fs,c a=some (.ins C d fs)/\Cls K C/\NoAttr K C f/\fs.length<1000/\D.nx σ (upd c a<|.ins C d<|BO f y fs):=rfl
def pSf(h:PS X st (Q0 K ta tv f)):PS X st (CS K ta tv f):=zin ▸ h
def A4(t:TE):TT:=λσ H Q=>t σ H λx H'=>IQ x λk=>Q k H'
def Y8:A4 ta=M5 ta:=by funext σ H Q;simp only[A4,M5,U3]
def zir:A4 ta σ H QB=ta σ H λx H'=>IQ x λk=>QB k H':=rfl
def L8(h:PT X e (M5 ta)):PT X e (A4 ta):=Y8 ▸ h
def pTb(h:PT X e (tB ta)):PT X e (A4 ta):=by rw[Y8];exact h
def FI(r r':R2)(ta tb tc:TE):TE:=λσ H Q=>ta σ H λx c=>tb σ c λy d=>r x y d λz a=>IQ z λk=>if k=true then tc σ a λj l=>r' y j l Q else Q (.bl false) a
def t8:FI r r' ta tb tc=M6 r r' ta tb tc:=by funext σ H Q;simp only[FI,M6,U3]
def zit:FI r r' ta tb tc σ H Q=ta σ H λx c=>tb σ c λy d=>r x y d λz a=>IQ z λk=>if k=true then tc σ a λj l=>r' y j l Q else Q (.bl false) a:=rfl
def pCh(h:PE X e (M6 r r' ta tb tc)):PE X e (FI r r' ta tb tc):=t8 ▸ h
def uA(h:PT X e (M5<|M6 r r' ta tb tc)):PT X e (A4<|FI r r' ta tb tc):=by rw[Y8,t8];exact h
def L9(ta tb:TE):TE:=λσ H Q=>ta σ H λx a=>IQ x λc=>if c=true then tb σ a Q else Q (.bl false) a
def ziv:L9 ta tb=QS ta tb:=by funext σ H Q;simp only[L9,QS,U3]
def ziw:L9 ta tb σ H Q=ta σ H λx a=>IQ x λc=>if c=true then tb σ a Q else Q (.bl false) a:=rfl
def pAv(h:PE X e (QS ta tb)):PE X e (L9 ta tb):=ziv ▸ h
def RN(ta tb:TE):TE:=λσ H Q=>ta σ H λx a=>IQ x λc=>if c=true then Q (.bl true) a else tb σ a Q
def ziy:RN ta tb=T6 ta tb:=by funext σ H Q;simp only[RN,T6,U3]
def ziz:RN ta tb σ H Q=ta σ H λx a=>IQ x λc=>if c=true then Q (.bl true) a else tb σ a Q:=rfl
def pOv(h:PE X e (T6 ta tb)):PE X e (RN ta tb):=ziy ▸ h
def KU(K:W.Frag)(x:V)(H:Hp)(Q:Bool->Prop):Prop:=match x with
 |.bl b=>Q b
 |.int i=>Q<|i != 0
 |.non=>Q false
 |x=>∃ k,LP K x H k/\Q k
def zi1{x:V}{Q:Bool->Prop}:KU K x H Q=∃ k,LP K x H k/\Q k:=by cases x<;>simp[KU,LP]
def zi2{Q:Bool->Prop}:KU K (.bl b) H Q=Q b:=rfl
def zi3{Q:Bool->Prop}:KU K (.int x) H Q=Q (x != 0):=rfl
def zi4{Q:Bool->Prop}:KU K .non H Q=Q false:=rfl
def zi5{Q:Bool->Prop}:KU K (.ref p) H Q=∃ k,LP K (.ref p) H k/\Q k:=rfl
def zi6{Q:Bool->Prop}:KU K (.str s) H Q=∃ k,LP K (.str s) H k/\Q k:=rfl
def F9(K:W.Frag)(ta:TE):TT:=λσ H Q=>ta σ H λx H'=>KU K x H' λk=>Q k H'
def zi7:F9 K ta=sL K ta:=by funext σ H Q;simp only[F9,zi1]
def zi8:F9 K ta σ H QB=ta σ H λx H'=>KU K x H' λk=>QB k H':=rfl
def pTr(h:PT X e (sL K ta)):PT X e (F9 K ta):=zi7 ▸ h
def OM(C:Int->Int->Prop)(g:Int->Int->V):R2:=λx y H Q=>G8 x λi=>G8 y λj=>C i j/\Q (g i j) H
def uB{C:Int->Int->Prop}{g:Int->Int->V}:OM C g=rI C g:=by funext x y H Q;simp only[OM,rI,RM];simp
def U5(g:Int->Int->V):R2:=λx y H Q=>G8 x λi=>G8 y λj=>Q (g i j) H
def zja{g:Int->Int->V}:U5 g=KK g:=by funext x y H Q;simp only[U5,KK,RM];simp
def U6(g:Int->V):V->Hp->VK->Prop:=λx H Q=>G8 x λi=>Q (g i) H
def zjb{g:Int->V}:U6 g=rU g:=by funext x H Q;simp only[U6,rU,RM]
abbrev U7:R2:=U5 λi j=>.int<|i-j
abbrev CU:R2:=OM (λ_ j=>0<j) λi j=>.int<|i%j
abbrev DA:R2:=OM p0 λi j=>.int<|i/j
abbrev rPw:R2:=OM Zl λi j=>.int<|i^j.toNat
abbrev ON:V->Hp->VK->Prop:=U6 λi=>.int (-i)
def zjd{C:Int->Int->Prop}{g:Int->Int->V}:OM C g (.int x) (.int y) H Q=(C x y/\Q (g x y) H):=rfl
def zje{g:Int->Int->V}:U5 g (.int x) (.int y) H Q=Q (g x y) H:=rfl
def zjf{g:Int->V}:U6 g (.int x) H Q=Q (g x) H:=rfl
def zjg:CH X (iw .Sub) U7:=by rw[U7,zja];exact Zp
def zjh:CH X (iw .Mod) CU:=by rw[CU,uB];exact Zw
def zji:CH X (iw .FloorDiv) DA:=by rw[DA,uB];exact Zv
def zjj:UB X (unaryOp .USub) ON:=by rw[ON,zjb];exact Zy
def rB(K:W.Frag)(x y:V)(H:Hp)(R:zC):Prop:=match x,y with
 |.int i,.int j=>R (decide<|i=j) H
 |.str i,.str j=>R (decide<|i=j) H
 |.bl i,.bl j=>R (decide<|i=j) H
 |.non,.int _=>R false H
 |.int _,.non=>R false H
 |.non,.non=>R true H
 |x,y=>rD K x y H R
def CG(K:W.Frag):R2:=λx y H Q=>rB K x y H λb=>Q<|.bl b
def DY(K:W.Frag):R2:=λx y H Q=>rB K x y H λb=>Q<|.bl<|!b
def zjk:CG K (.int x) (.int y) H Q=Q (.bl<|decide<|x=y) H:=rfl
def zjl:CG K (.str s) (.str s') H Q=Q (.bl<|decide<|s=s') H:=rfl
def zjm:CG K (.bl b) (.bl b') H Q=Q (.bl<|decide<|b=b') H:=rfl
def zjn:CG K .non (.int x) H Q=Q (.bl false) H:=rfl
def zjo:CG K (.int x) .non H Q=Q (.bl false) H:=rfl
def zjp:CG K .non .non H Q=Q (.bl true) H:=rfl
def zjq:CG K (.ref p) (.ref q) H Q=LZ K (.ref p) (.ref q) H Q:=rfl
def zjr:CG K (.ref p) .non H Q=LZ K (.ref p) .non H Q:=rfl
def zjs:CG K .non (.ref p) H Q=LZ K .non (.ref p) H Q:=rfl
def zjt:CG K (.str s) .non H Q=LZ K (.str s) .non H Q:=rfl
def zju:CG K .non (.str s) H Q=LZ K .non (.str s) H Q:=rfl
def zjv:DY K (.int x) (.int y) H Q=Q (.bl<|!decide (x=y)) H:=rfl
def zjw:DY K (.str s) (.str s') H Q=Q (.bl<|!decide (s=s')) H:=rfl
def zjx:DY K (.bl b) (.bl b') H Q=Q (.bl<|!decide (b=b')) H:=rfl
def zjy:DY K .non (.int x) H Q=Q (.bl true) H:=rfl
def zjz:DY K (.int x) .non H Q=Q (.bl true) H:=rfl
def zj0:DY K .non .non H Q=Q (.bl false) H:=rfl
def zj1:DY K (.ref p) (.ref q) H Q=OJ K (.ref p) (.ref q) H Q:=rfl
def zj2:DY K (.ref p) .non H Q=OJ K (.ref p) .non H Q:=rfl
def zj3:DY K .non (.ref p) H Q=OJ K .non (.ref p) H Q:=rfl
def nC{p q:Addr}(h:OJ K (.ref p) (.ref q) H Q):DY K (.ref p) (.ref q) H Q:=h
def uC(d:X.A.units+64<cLine):CH X (dr .Eq) (CG X.K):=by
 intro j s σ H x y v u Q I a c h;unfold CG rB at h;split at h;let[t,rfl]:=a;let[w,rfl]:=c;exact eq_int<|GL I h rfl;let[t,rfl]:=a;let[w,rfl]:=c;exact eq_str<|GL I h rfl;cases a;cases c;exact eq_bool<|GL I h rfl;cases a;let[t,rfl]:=c;exact PySem.EqNone.eq_none_int<|GL I h rfl;cases c;let[t,rfl]:=a;exact PySem.EqNone.eq_int_none<|GL I h rfl;cases a;cases c;exact PySem.EqNone.eq_none_none<|GL I h rfl;exact zc2 d j s σ H _ _ v u Q I a c h
def uD(d:X.A.units+64<cLine):CH X (dr .NotEq) (DY X.K):=by
 intro j s σ H x y v u Q I a c h;unfold DY rB at h;split at h;let[t,rfl]:=a;let[w,rfl]:=c;exact ne_int<|GL I h rfl;let[t,rfl]:=a;let[w,rfl]:=c;exact ne_str<|GL I h rfl;cases a;cases c;exact ne_bool<|GL I h rfl;cases a;let[t,rfl]:=c;exact PySem.EqNone.ne_none_int<|GL I h rfl;cases c;let[t,rfl]:=a;exact PySem.EqNone.ne_int_none<|GL I h rfl;cases a;cases c;exact PySem.EqNone.ne_none_none<|GL I h rfl;exact zc3 d j s σ H _ _ v u Q I a c h
def GS:R2:=λx y H Q=>match y with
 |.non=>Q (.bl<|decide<|x=.non) H
 |_=>False
def G9:R2:=λx y H Q=>match y with
 |.non=>Q (.bl<|!decide (x=.non)) H
 |_=>False
def zj4:GS v .non H Q=Q (.bl<|decide<|v=.non) H:=rfl
def zj5:G9 v .non H Q=Q (.bl<|!decide (v=.non)) H:=rfl
def zj6:GS=sJ:=by funext x y H Q;cases y<;>simp[GS,sJ]
def zj7:G9=sK:=by funext x y H Q;cases y<;>simp[G9,sK]
def zj8:CH X (dr .Is) GS:=zj6 ▸ zac
def zj9:CH X (dr .IsNot) G9:=zj7 ▸ zad
def DZ(K:W.Frag):eI->Hp->VK->Prop:=λxs H Q=>FT xs λx=>∃ n,UC K x H n/\Q (.int n) H
def zka:DZ K=YJ K:=by funext xs H Q;simp only[DZ,YJ,OL];simp
def zkb:DZ K vs H Q=FT vs λx=>∃ n:Nat,UC K x H n/\Q (.int n) H:=rfl
def zkc:EL X (.builtin "len") (DZ X.K):=zka ▸ zdl
def MA(K:W.Frag):eI->Hp->VK->Prop:=λxs H Q=>FT xs λx=>CT x λp=>∃ ys,(SqL K H p ys\/SqT K H p ys)/\∀ l,H l=none->Q (.ref l) (upd H l<|.lst ys)
def zkd:MA K=sP K:=by
 funext xs H Q;simp only[MA,OL,GR];exact propext {(by intro[z,e,p,a,ys,h];exact{p,ys,a ▸ e,h}),(by intro[p,ys,e,h];exact⟨_,e,p,rfl,ys,h⟩)}
def zke:MA K vs H Q=FT vs λx=>CT x λp=>∃ ys,(SqL K H p ys\/SqT K H p ys)/\∀ l,H l=none->Q (.ref l) (upd H l<|.lst ys):=rfl
def zkf:EL X (.type "list") (MA X.K):=zkd ▸ zdm
def MB(K:W.Frag):eI->Hp->VK->Prop:=λxs H Q=>FT xs λx=>CT x λp=>∃ ys,((SqL K H p ys/\∀ l,H l=none->Q (.ref l) (upd H l<|.tup ys))\/(SqT K H p ys/\Q (.ref p) H))
def zkg:MB K=sQ K:=by
 funext xs H Q;simp only[MB,OL,GR];exact propext {(by intro[z,e,p,a,ys,h];exact{p,ys,a ▸ e,h}),(by intro[p,ys,e,h];exact⟨_,e,p,rfl,ys,h⟩)}
def zkh:MB K vs H Q=FT vs λx=>CT x λp=>∃ ys,((SqL K H p ys/\∀ l,H l=none->Q (.ref l) (upd H l<|.tup ys))\/(SqT K H p ys/\Q (.ref p) H)):=rfl
def zki:EL X (.type "tuple") (MB X.K):=zkg ▸ zdn
def OO(td ty:TE):TE:=λσ H Q=>td σ H λx d=>ty σ d λy c=>CT x λa=>∃ v,DGet c a y (some v)/\Q v c
def zkj:OO td ty=Q5 td ty:=by funext σ H Q;simp only[OO,Q5,GR];simp
def zkk:OO td ty σ H Q=td σ H λx d=>ty σ d λy c=>CT x λa=>∃ v,DGet c a y (some v)/\Q v c:=rfl
def pDg(h:PE X e (Q5 td ty)):PE X e (OO td ty):=zkj ▸ h
def JL(ty td:TE):TE:=λσ H Q=>ty σ H λy d=>td σ d λx c=>CT x λa=>∃ o,DGet c a y o/\Q (.bl o.isSome) c
def zkm:JL ty td=Q6 ty td:=by funext σ H Q;simp only[JL,Q6,GR];simp
def zkn:JL ty td σ H Q=ty σ H λy d=>td σ d λx c=>CT x λa=>∃ o,DGet c a y o/\Q (.bl o.isSome) c:=rfl
def pDi{op:CmpOp}{a b:Expr}(h:PC X op a b (Q6 ty td)):PC X op a b (JL ty td):=zkm ▸ h
def IR(ty td:TE):TE:=λσ H Q=>ty σ H λy d=>td σ d λx c=>CT x λa=>∃ o,DGet c a y o/\Q (.bl<|!o.isSome) c
def zkp:IR ty td=Q7 ty td:=by funext σ H Q;simp only[IR,Q7,GR];simp
def zkq:IR ty td σ H Q=ty σ H λy d=>td σ d λx c=>CT x λa=>∃ o,DGet c a y o/\Q (.bl<|!o.isSome) c:=rfl
def pDn{op:CmpOp}{a b:Expr}(h:PC X op a b (Q7 ty td)):PC X op a b (IR ty td):=zkp ▸ h
def HA(td ty tv:TE):TS:=λD σ H=>tv σ H λv d=>td σ d λx j=>ty σ j λy l=>CT x λa=>∃ c,DPut l a y v c/\D.nx σ c
def zks:HA td ty tv=Q8 td ty tv:=by funext D σ H;simp only[HA,Q8,GR];simp
def zkt:HA td ty tv D σ H=tv σ H λv d=>td σ d λx j=>ty σ j λy l=>CT x λa=>∃ c,DPut l a y v c/\D.nx σ c:=rfl
def pDp(h:PS X st (Q8 td ty tv)):PS X st (HA td ty tv):=zks ▸ h
def OP(td ty:TE):TE:=λσ H Q=>td σ H λx c=>CT x λa=>OH c a/\ty σ c λy d=>∃ o,DGet d a y o/\Q (o.getD .non) d
def zkv:OP td ty=UN td ty:=by funext σ H Q;simp only[OP,UN,GR]
def zkw:OP td ty σ H Q=td σ H λx c=>CT x λa=>OH c a/\ty σ c λy d=>∃ o,DGet d a y o/\Q (o.getD .non) d:=rfl
def pD1(h:PE X e (UN td ty)):PE X e (OP td ty):=zkv ▸ h
def EC(ta:TA):TI:=λσ H R=>ta σ H λvs a=>FT vs λx=>G8 x λj=> -(2^62)<=j/\j<2^62/\R (FR 0 j.toNat) a
def zky:EC as=T8 as:=by
 funext σ H R;simp only[EC,OL,RM];congr 1;funext vs c;exact propext {(by intro[z,e,j,a,h];exact{j,a ▸ e,h}),(by intro[j,e,h];exact⟨_,e,j,rfl,h⟩)}
def pR1(h:PI X tg it (T8 as)):PI X tg it (EC as):=zky ▸ h
def zk0:BY (EC as) g tt te k A5 σ H Q=as σ H λvs a=>FT vs λx=>G8 x λj=> -(2^62)<=j/\j<2^62/\EN (FR 0 j.toNat) g tt te k A5 σ a Q:=rfl
def zk1:DT (EC as) g s1 D σ H=as σ H λvs a=>FT vs λx=>G8 x λj=> -(2^62)<=j/\j<2^62/\HR (FR 0 j.toNat) g s1 D σ a:=rfl
def CN(K:W.Frag)(tl:TE):TI:=λσ H R=>tl σ H λx c=>CT x λa=>(((∃ xs,SqL K c a xs)/\R (GK K a) c)\/((∃ xs,SqT K c a xs)/\R (JE K a) c))
def zk2:CN K tl=RC K tl:=by funext σ H R;simp only[CN,RC,GR]
def pSq(h:PI X tg it (RC K tl)):PI X tg it (CN K tl):=zk2 ▸ h
def zk4:BY (CN K tl) g tt te k A5 σ H Q=tl σ H λx c=>CT x λa=>(((∃ xs,SqL K c a xs)/\EN (GK K a) g tt te k A5 σ c Q)\/((∃ xs,SqT K c a xs)/\EN (JE K a) g tt te k A5 σ c Q)):=rfl
def zk5:DT (CN K tl) g s1 D σ H=tl σ H λx c=>CT x λa=>(((∃ xs,SqL K c a xs)/\HR (GK K a) g s1 D σ c)\/((∃ xs,SqT K c a xs)/\HR (JE K a) g s1 D σ c)):=rfl
def FU(K:W.Frag)(ta:TA):TI:=λσ H R=>ta σ H λvs c=>FT vs λx=>CT x λa=>(∃ xs,SqL K c a xs)/\R (L7 K a) c
def zk6:FU K as=UZ K as:=by
 funext σ H R;simp only[FU,OL,GR];congr 1;funext vs c;exact propext {(by intro[z,e,j,a,h];exact{j,a ▸ e,h}),(by intro[j,e,h];exact⟨_,e,j,rfl,h⟩)}
def pEn(h:PI X tg it (UZ K as)):PI X tg it (FU K as):=zk6 ▸ h
def zk8:BY (FU K as) g tt te k A5 σ H Q=as σ H λvs c=>FT vs λx=>CT x λa=>(∃ xs,SqL K c a xs)/\EN (L7 K a) g tt te k A5 σ c Q:=rfl
def zk9:DT (FU K as) g s1 D σ H=as σ H λvs c=>FT vs λx=>CT x λa=>(∃ xs,SqL K c a xs)/\HR (L7 K a) g s1 D σ c:=rfl
def JM(ta:TE):TO:=λσ H Q=>ta σ H λx a=>G8 x λi=>Q (some i) a
def zla:JM ta=Q2 ta:=by funext σ H Q;simp only[JM,Q2,RM]
def zlb:JM ta σ H QO=ta σ H λx a=>G8 x λi=>QO (some i) a:=rfl
def pPt(h:PO X o (Q2 ta)):PO X o (JM ta):=zla ▸ h
def KW(K:W.Frag)(n:Nat)(t:HL):TG:=λv σ H Q=>CT v λa=>∃ xs,SqT K H a xs/\xs.length=n/\t xs σ H Q
def zld:KW K k gs=FQ K k gs:=by funext v σ H Q;simp only[KW,FQ,GR];simp
def zle:KW K k gs v σ H QG=CT v λa=>∃ xs,SqT K H a xs/\xs.length=k/\gs xs σ H QG:=rfl
def pTp(h:PG X e (FQ K k gs)):PG X e (KW K k gs):=zld ▸ h
def KY:HL:=λvs σ H Q=>RL vs<|Q σ H
def zlg:KY=FO:=by funext vs σ H Q;simp only[KY,FO,zh0]
def zlh:KY vs σ H QG=RL vs (QG σ H):=rfl
def pGn(h:JD X es FO):JD X es KY:=zlg ▸ h
def HB(g:TG)(gs:HL):HL:=λvs σ H Q=>RK vs λv r=>g v σ H λa H'=>gs r a H' Q
def zlj:HB g gs=DX g gs:=by funext vs σ H Q;simp only[HB,DX,zhz]
def zlk:HB g gs vs σ H QG=RK vs λv r=>g v σ H λa H'=>gs r a H' QG:=rfl
def pGc(h:JD X es (DX g gs)):JD X es (HB g gs):=zlj ▸ h
def FV:V->eI->Hp->VK->Prop:=λx vs H Q=>CT x λl=>FT vs λy=>∃ xs,H l=some (.lst xs)/\xs.length<sizeLine/\Q .non (upd H l<|.lst<|xs++[y])
def zlm:FV=rJ:=by
 funext x vs H Q;simp only[FV,OL,GR];exact propext {(by intro[l,e,y,a,xs,h];exact⟨l,xs,y,e,a,h⟩),(by intro[l,xs,y,e,a,h];exact⟨l,e,y,a,xs,h⟩)}
def zln:UI X "list.append" FV:=zlm ▸ zbu
end
section
variable{α :Sort _}{p: α ->Prop}{x: α}{b c d:Prop}
def qF:(∃ _: α,False)=False:=eq_false exists_false
def qD[Decidable b]:(decide b=false)=¬ b:=propext decide_eq_false_iff_not
def qR:(∃ x,p x/\b)=((∃ x,p x)/\b):=propext exists_and_right
def qL:(∃ x,b/\p x)=(b/\∃ x,p x):=propext exists_and_left
def q1:(∃ y,x=y/\p y)=p x:=propext exists_eq_left'
def q2:(∃ y,y=x/\p y)=p x:=propext exists_eq_left
def q3:(∃ y,x=y)=True:=eq_true exists_eq'
def q4:(∃ y,y=x)=True:=eq_true exists_eq
def qA:((b/\c)/\d)=(b/\c/\d):=propext and_assoc
def qC[Nonempty α]:(α ->b)=b:=propext<|forall_const α
end
open PySem PySem.Spec PyProof.Rows PySem.Builtin PySem.Builtin.Str
section
variable{X:Cx}
theorem uE:∀ (l:List (Str × Tok)),Vals ((l.map (·.1)).map V.str) (strValues l)
 | []=>.nil
 |(x,t)::r=>.cons ⟨t,rfl⟩ (uE r)
def Inv.pushL{a:eB}{c:St}{H:Hp}{s:ν}{Q:VK}(I:Inv X a c H s){xs:eI}{us:wE}{t':Nat}(r:Vals xs us)(hz:xs.length<=sizeLine)(q:∀ l,H l=none->Q (.ref l) (upd H l<|.lst xs)):EP X a c Q (.ref s.heap.objs.size) { s with heap:=s.heap.push { cls:=.type "list",data:=.seq us.toArray },toks:=t' }:=by
 refine{.ref s.heap.objs.size,_,I.laid (t':=t') (λb u e=>ξ _ e) (π _) (show ObjOk X.prog X.w _ _ _ (.lst xs)from{hz,us,0,r,aj _ rfl}),rfl,q _<|I.hok.fresh<|π _}
def Inv.pushT{a:eB}{c:St}{H:Hp}{s:ν}{Q:VK}(I:Inv X a c H s){xs:eI}{us:wE}{t':Nat}(r:Vals xs us)(hz:xs.length<=sizeLine)(q:∀ l,H l=none->Q (.ref l) (upd H l<|.tup xs)):EP X a c Q (.ref s.heap.objs.size) { s with heap:=s.heap.push { cls:=.type "tuple",data:=.seq us.toArray },toks:=t' }:=by
 refine{.ref s.heap.objs.size,_,I.laid (t':=t') (λb u e=>ξ _ e) (π _) (show ObjOk X.prog X.w _ _ _ (.tup xs)from{hz,us,r,{_,aj _ rfl,rfl,0,rfl}}),rfl,q _<|I.hok.fresh<|π _}
def uF:V->eI->Hp->VK->Prop:=λx vs H Q=>∃ z y:Str,x=.str z/\vs=[.str y]/\(y.length==0)=false/\z.length<=1000/\∀ t,H t=none->Q (.ref t) (upd H t<|.tup [.str (Txt.partition z y).1,.str (Txt.partition z y).2.1,.str (Txt.partition z y).2.2])
def zlo:Q3 X "str.partition" uF:=by
 intro g s j H x vs v us Q I a b h;let[z,y,rfl,rfl,c,hz,q]:=h;let[t,rfl]:=a;let[u,rfl,d]:=b.one;let[e,rfl]:=d;refine ik PySem.F.slot_str_partition (lu _ _ _) PySem.F.entry_str_partition (PySem.F.args_str_partition_2 _ _) (meets_str_partition z y t e c (by rw[fk];omega)) ?_;revert q;unfold Txt.partition;cases occurrences z y 0 z.length 1 with
 |nil=>intro q;exact I.pushT (xs:=[.str _,.str _,.str _]) (.cons ⟨_,rfl⟩ (.cons ⟨_,rfl⟩ (.cons ⟨_,rfl⟩ .nil))) (show 3<=sizeLine by rw[fk];omega) q
 |cons i r=>intro q;exact I.pushT (xs:=[.str _,.str _,.str _]) (.cons ⟨_,rfl⟩ (.cons ⟨_,rfl⟩ (.cons ⟨_,rfl⟩ .nil))) (show 3<=sizeLine by rw[fk];omega) q
def Y9:V->eI->Hp->VK->Prop:=λx vs H Q=>∃ z y:Str,x=.str z/\(y.length==0)=false/\z.length<=1000/\((vs=[.str y]/\∀ l,H l=none->Q (.ref l) (upd H l<|.lst<|(Txt.split z y).map V.str))\/∃ k:Nat,k<=100/\vs=[.str y,.int k]/\∀ l,H l=none->Q (.ref l) (upd H l<|.lst<|(Txt.splitMax z y k).map V.str))
def zlp:Q3 X "str.split" Y9:=by
 intro n s o H x vs v us Q I p j h;let[z,y,rfl,c,hz,h]:=h;let[t,rfl]:=p
 have r:z.length+2<=sizeLine:=by rw[fk];omega
 have fin:∀ (l:List (Str × Tok)) (d:eG) (t':Nat),l.map (·.1)=d->d.length<=sizeLine->(∀ l,H l=none->Q (.ref l) (upd H l<|.lst<|d.map V.str))->EP X n o Q (.ref s.heap.objs.size) { s with heap:=s.heap.push { cls:=.type "list",data:=.seq (strValues l).toArray },toks:=t' }:=λl d t' e A q=>by
  subst e;exact I.pushL (uE l) (by rw[ε];exact A) q
 let[rfl,q]||[k,D,rfl,q]:=h
 ·let[u,rfl,g]:=j.one;let[u,rfl]:=g
  have b:(partsBetween z (occurrences z y 0 z.length<|z.length+1) y.length).length<=sizeLine:=by
   have B:=StrLaws.occ_length_le z y 0 z.length<|z.length+1;rw[An];omega
  revert q;unfold Txt.split;cases h1:(decide (z.length<y.length)||decide (strKind z<strKind y))
  ·cases hf:(occurrences z y 0 z.length<|z.length+1).isEmpty
   ·intro q;refine ik PySem.F.slot_str_split (lu _ _ _) PySem.F.entry_str_split (PySem.F.args_str_split_2 _ _) (meets_str_split_sep z y t u h1 c hf (by omega) b) ?_
    show wants _ _ _ { s with toks:=_,heap:=s.heap.push { cls:=.type "list",data:=.seq (strsFrom s.toks<|partsBetween z (occurrences z y 0 z.length<|z.length+1) y.length).toArray } };rw[strsFrom_eq];exact fin (numbered s.toks _) _ _ (numbered_texts _ _) b q
   ·intro q;exact ik PySem.F.slot_str_split (lu _ _ _) PySem.F.entry_str_split (PySem.F.args_str_split_2 _ _) (meets_str_split_not_found z y t u h1 c hf) (fin [(z,t)] _ s.toks rfl (show 1<=sizeLine by rw[fk];omega) q)
  ·intro q;exact ik PySem.F.slot_str_split (lu _ _ _) PySem.F.entry_str_split (PySem.F.args_str_split_2 _ _) (meets_str_split_cannot_occur z y t u h1) (fin [(z,t)] _ s.toks rfl (show 1<=sizeLine by rw[fk];omega) q)
 ·let[u,u2,rfl,g,i]:=zaj j;let[u,rfl]:=g;let[w,rfl]:=i
  have a:(decide ((k:Int)< -(2^63:Int))||decide ((k:Int) ≥ 2^63))=false:=by
   simp only[ff,decide_eq_false_iff_not];omega
  have b:(partsBetween z (occurrences z y 0 z.length<|Ih z k) y.length).length<=sizeLine:=by
   have B:=StrLaws.occ_length_le_len z y 0 z.length<|Ih z k;rw[An];omega
  revert q;unfold Txt.splitMax;cases h1:(decide (z.length<y.length)||decide (strKind z<strKind y))
  ·cases hf:(occurrences z y 0 z.length<|Ih z k).isEmpty
   ·intro q;refine ik PySem.F.slot_str_split (lu _ _ _) PySem.F.entry_str_split (PySem.F.args_str_split_3 _ _ _) (meets_str_split_sep_max z y k t u w a h1 c hf (by omega) b) ?_
    show wants _ _ _ { s with toks:=_,heap:=s.heap.push { cls:=.type "list",data:=.seq (strsFrom s.toks<|partsBetween z (occurrences z y 0 z.length<|Ih z k) y.length).toArray } };rw[strsFrom_eq];exact fin (numbered s.toks _) _ _ (numbered_texts _ _) b q
   ·intro q;exact ik PySem.F.slot_str_split (lu _ _ _) PySem.F.entry_str_split (PySem.F.args_str_split_3 _ _ _) (meets_str_split_max_not_found z y k t u w a h1 c hf) (fin [(z,t)] _ s.toks rfl (show 1<=sizeLine by rw[fk];omega) q)
  ·intro q;exact ik PySem.F.slot_str_split (lu _ _ _) PySem.F.entry_str_split (PySem.F.args_str_split_3 _ _ _) (meets_str_split_max_cannot_occur z y k t u w a h1) (fin [(z,t)] _ s.toks rfl (show 1<=sizeLine by rw[fk];omega) q)
def B9(i:Int):Str:=ζ<|toString i
def KZ(K:W.Frag):eI->Hp->VK->Prop:=λxs H Q=>∃ i:Int,xs=[.int i]/\0<=i/\i<1000000/\Q (.str<|B9 i) H
def ZA{i:Int}(h0:0<=i)(h1:i<1000000):i.natAbs.log2<1920:=by
 have h:i.natAbs<2^20:=by
  have:(2:Nat)^20=1048576:=by decide
  omega
 by_cases h2:i.natAbs=0
 ·rw[h2];decide
 ·have:=(Nat.log2_lt h2).mpr h;omega
def zlq:EL X (.type "str") (KZ X.K):=by
 intro b s c H xs us Q I r h;let[i,rfl,h0,h1,q]:=h;let[u,rfl,a]:=G6 r;let[t,rfl]:=a;exact PySem.P.str_of_int (ZA h0 h1) {.str _,H,I.tok _,⟨_,rfl⟩,q}
def ZB(K:W.Frag):eI->Hp->VK->Prop:=λxs H Q=>∃ (z:Str) (i:Int),xs=[.str z]/\z.length<=640/\intText? z=some i/\Q (.int i) H
def zlr:EL X (.type "int") (ZB X.K):=by
 intro b s c H xs us Q I r h;let[z,i,rfl,h0,h1,q]:=h;let[u,rfl,a]:=G6 r;let[t,rfl]:=a;exact W.KIN.call_text h1 h0 {.int _,H,I.tok _,⟨_,rfl⟩,q}
def ZC(z:Str)(b c:TE):TE:=λa H Q=>b a H λx d=>∃ i:Int,x=.int i/\0<=i/\i<1000000/\c a d λy e=>∃ j:Int,y=.int j/\0<=j/\j<1000000/\Q (.str<|B9 i++z++B9 j) e
def K0{i:Int}(h0:0<=i)(h1:i<1000000):(B9 i).length<=10:=W.KT.len_num h0 (by omega)
def zls{z:Str}{b c:TE}{a:St}{H:Hp}{Q:VK}:ZC z b c a H Q=(b a H λx d=>∃ i:Int,x=.int i/\0<=i/\i<1000000/\c a d λy e=>∃ j:Int,y=.int j/\0<=j/\j<1000000/\Q (.str<|B9 i++z++B9 j) e):=rfl
def zlt{a b:Expr}{z:Str}{d g:TE}{l r v pos:Pos}{j:Nat}(w:PE X a d)(A:PE X b g)(hz:z.length<=100:=by decide +kernel):PE X (.JoinedStr [.FormattedValue a (-1) none l,.Constant (.str z) j r,.FormattedValue b (-1) none v] pos) (ZC z d g):=by
 intro n s o H Q I h;refine wpAny_JoinedStr ?_
 show wpAny _ _ (eval (.FormattedValue a (-1) none l) X.env) _ _ s;refine wf<|AU (w n s o H _ I h) λu T c=>?_;let[x,B,D,E,i,ex,h0,h1,q]:=c;subst ex;let[t,rfl]:=E;refine za (ZA h0 h1) {_,_,rfl,?_,?_}
 ·have:=K0 h0 h1
  show(uh++B9 i).length<=_;rw[py,fk]
  show 0+_<=_;omega
 refine Bf {_,_,rfl,?_,?_}
 ·have:=K0 h0 h1
  show(uh++B9 i++z).length<=_;rw[py,py,fk]
  show 0+_+_<=_;omega
 refine wf<|AU (A n _ o B _ (D.tok _) q) λu U c=>?_;let[y,J,L,M,k,N,k0,k1,q2]:=c;subst N;let[Y,rfl]:=M
 have p:(uh++B9 i++z++B9 k).length<=sizeLine:=by
  have:=K0 h0 h1
  have:=K0 k0 k1;rw[py,py,py,fk]
  show 0+_+_+_<=_;omega
 have e:uh++B9 i++z++B9 k=B9 i++z++B9 k:=by
  have O:uh++B9 i=B9 i:=by
   show Str.mk (#[]++(B9 i).cps)=_;rw[Array.empty_append]
  rw[O]
 refine za (ZA k0 k1) {_,_,rfl,p,?_};refine{p,.str _,J,L.tok _,⟨_,rfl⟩,?_};rw[<-e]at q2;exact q2
abbrev _root_.zB:=List (Str × Int)
def OQ(D:zB):List (Str × KTD.Dat):=D.map λp=>(p.1,.flat<|.int p.2)
def U8(o:Obj)(D:zB):Bool:=o.cls == .type "dict" && o.dict.isNone&&o.slots.isEmpty&&(match o.data with|.dict a _=>KTD.rowsLook (KTD.datLooks λ_=>none) a.toList (OQ D)|_=>false)
def TabK(K:W.Frag)(p:Addr)(D:zB):Prop:=(p==gr)=false/\∃ o,K.lookup p=some o/\U8 o D=true
set_option tactic.hygienic true in
def TabK.text{K:W.Frag}{p:Addr}{D:zB}{h:Heap}(T:TabK K p D)(X:K.In h):KTD.Here h h p (OQ D):=by
 let[h0,o,c,b]:=T;refine{?_,λ_ _ e=>e};simp only[U8,bv]at b;let[[[d,g],i],a]:=b;split at a
 ·rename_i j l hd;exact{h0,o,j,l,X _ _ c,{beq_iff_eq.mp d,by simpa using g,by simpa using i},hd,KTD.rows_of_look (KTD.dat_of_looks (h:=h) (get:=λ_=>none) λ_ _ e=>by cases e) a}
 ·cases a
def U9(o:Obj)(a:eG):Bool:=o.cls == .type "tuple" && (match o.data with|.seq vs _=>KTD.strsLook vs.toList a&&decide (vs.size<=1000)|_=>false)
set_option tactic.hygienic true in
def uG{K:W.Frag}{p:Addr}{o:Obj}{b:eG}(e:K.lookup p=some o)(c:U9 o b=true)(H:Hp):SqT K H p (b.map V.str):=by
 simp only[U9,bv]at c;let[d,a]:=c;split at a
 ·rename_i vs n hd;simp only[bv,decide_eq_true_eq]at a;exact .inr {o,vs,n,e,beq_iff_eq.mp d,hd,by rw[fk];omega,tT<|KTD.strs_of_look a.1}
 ·cases a
def zlu{K:W.Frag}{p:Addr}{o:Obj}{D:zB}(e:K.lookup p=some o)(a:U8 o D=true)(h0:(p==gr)=false):TabK K p D:=⟨h0,o,e,a⟩
def HU(D:zB)(k:Str):Option Int:=(D.find? λp=>decide<|p.1=k).map (·.2)
theorem uH{k:Str}:∀ {D:zB},KTD.datumAt k (OQ D)=(HU D k).map λi=>KTD.Dat.flat (.int i)
 | []=>rfl
 |(x,i)::D=>by
  show(if decide (k=x)=true then _ else KTD.datumAt k (OQ D))=_;unfold HU;rw[u_];by_cases h:k=x
  ·subst h;simp
  ·rw[if_neg (by simpa using h),show decide ((x,i).1=k)=false from decide_eq_false λe=>h e.symm];exact uH
def uI{k:Str}{D:zB}:KTD.inKeys k (OQ D)=(HU D k).isSome:=by
 rw[<-KTD.isSome_datumAt,uH,tz]
theorem uJ{a:Heap}{k:Str}{P:Value->Prop}{i:Int}(q:∀ t,P<|.int i t):∀ {D:zB},HU D k=some i->KTD.EachL a k P (OQ D)
 | [],e=>by cases e
 |(x,j)::D,e=>by
  unfold HU at e;rw[u_]at e;by_cases h:k=x
  ·subst h;rw[show decide ((k,j).1=k)=true from decide_eq_true rfl]at e;cases e;exact KTD.eachL_hit rfl q
  ·rw[show decide ((x,j).1=k)=false from decide_eq_false λz=>h z.symm]at e;exact KTD.eachL_miss h<|uJ q e
section
variable{x:Str}{p:Addr}{D:zB}{i:Expr}{ty:TE}{pos pos':Pos}
def ZD(D:zB)(ty:TE):TE:=λa H Q=>ty a H λy b=>∃ k,y=.str k/\Q (.bl<|!(HU D k).isSome) b
def ZE(D:zB)(ty:TE):TE:=λa H Q=>ty a H λy b=>∃ k n,y=.str k/\HU D k=some n/\Q (.int n) b
def zlv{a:St}{H:Hp}{Q:VK}:ZD D ty a H Q=(ty a H λy b=>∃ k,y=.str k/\Q (.bl<|!(HU D k).isSome) b):=rfl
def zlw{a:St}{H:Hp}{Q:VK}:ZE D ty a H Q=(ty a H λy b=>∃ k n,y=.str k/\HU D k=some n/\Q (.int n) b):=rfl
def zlx(g:GV X.mg x (.ref p))(j:Gl X x)(T:TabK X.K p D)(l:PE X i ty)(hd:(x ==("__debug__":Str))=false:=by decide):PC X .NotIn i (.Name x pos) (ZD D ty):=by
 intro b s c H Q I h;refine AU (l b s c H _ I h) λiv n ⟨y,d,o,r,k,w,q⟩=>AU ((LY g j hd:PE X (.Name x pos) _) b n c d (λv A=>v=.ref p/\A=d) o ⟨rfl,rfl⟩) λu L a=>?_;let[z,z,e,B,E,J]:=a;subst E J w;obtain rfl:u=eq p:=B;let[t,rfl]:=r;refine KTD.notin_text (T.text e.kIn) {.bl _,_,e.tok _,rfl,?_};rw[uI];exact q
def zly(g:GV X.mg x (.ref p))(l:Gl X x)(T:TabK X.K p D)(o:PE X i ty)(hs:qT i)(hd:(x ==("__debug__":Str))=false:=by decide):PE X (.Subscript (.Name x pos) i pos') (ZE D ty):=by
 intro c s d H Q I h;refine Bi<|AU ((LY g l hd:PE X (.Name x pos) _) c s d H (λv b=>v=.ref p/\b=H) I ⟨rfl,rfl⟩) λu r a=>?_;let[z,z,w,A,B,E]:=a;subst B E;obtain rfl:u=eq p:=A;refine AU (o c r d _ _ w h) λiv M a=>?_;let[y,b,e,J,k,n,L,j,q]:=a;subst L;let[t,rfl]:=J;exact KTD.item_text (T.text e.kIn) (by rw[uI,j];rfl) (uJ (λt'=>{.int _,b,e.tok _,⟨_,rfl⟩,q}) j) (hs _ _)
end
end
end L2
namespace L2
open PySem PySem.Spec PyProof.Rows PySem.Builtin PySem.Builtin.Str
def CW:wH->List (wH)
 | []=>[[]]
 |c::r=>if c=32 then []::CW r else match CW r with
  |w::ws=>(c::w)::ws
  | []=>[[c]]
def JN:List (wH)->wH
 | []=>[]
 | [p]=>p
 |p::q::r=>p++32::JN (q::r)
theorem RO{r:wH}:∀ {p:wH},32∉p->CW (p++32::r)=p::CW r
 | [],_=>rfl
 |c::p,h=>by
  have a:c≠32:=λe=>h<|e ▸ χ;rw[oa,CW,if_neg a,RO λz=>h<|τ _ z]
theorem OR:∀ {p:wH},32∉p->CW p=[p]
 | [],_=>rfl
 |c::p,h=>by
  have a:c≠32:=λe=>h<|e ▸ χ;unfold CW;rw[if_neg a,OR λz=>h<|τ _ z]
theorem uK:∀ {ps:List (wH)},ps≠[]->(∀ p∈ps,32∉p)->CW (JN ps)=ps
 | [],h,_=>(h rfl).elim
 | [p],_,h=>OR<|h p χ
 |p::q::r,_,h=>by
  show CW (p++32::JN (q::r))=_;rw[RO (h p χ),uK (by simp) λx a=>h x<|τ _ a]
abbrev C7(l:wH):Str:=⟨l.toArray⟩
theorem ZF:∀ (ps:eG),(Eo {#[32]} ps).cps.toList=JN (ps.map (·.cps.toList))
 | []=>rfl
 | [p]=>rfl
 |p::q::r=>by
  show((p++({#[32]}:Str)++Eo {#[32]} (q::r)).cps).toList=p.cps.toList++32::JN ((q::r).map (·.cps.toList));rw[<-ZF (q::r)]
  show((p.cps++ #[32])++(Eo {#[32]} (q::r)).cps).toList=_;simp
def ZG(x:Str):C7 x.cps.toList=x:=by cases x;rfl
def ZH:(" ":Str)={#[32]}:=by decide +kernel
def uL(x:Str):Txt.split x {#[32]}≠[]:=λe=>by have:=split_pos x {#[32]};rw[e]at this;simp at this
def ZI(x:Str):Txt.split x " "=(CW x.cps.toList).map C7:=by
 rw[ZH]
 have h1:=StrLaws.join_split x {#[32]}
 have h2:=StrLaws.split_free x 32
 have h3:=uL x;revert h1 h2 h3;generalize Txt.split x {#[32]}=ps;intro h1 h2 h3
 have e:x.cps.toList=JN (ps.map (·.cps.toList)):=by rw[<-ZF,h1]
 rw[e,uK (by simpa using h3) λp a=>?_,jh]
 ·refine(Ku _).symm.trans (vb λp z=>(ZG p).symm)
 ·let[q,b,rfl]:=a_.mp a;exact h2 q b
def VB:List (wH)->List (wH)
 |a::b::c::r=>[a,b,JN (c::r)]
 |ws=>ws
theorem uM(x y:Str)(n b:Nat)(A:Array Nat):∀ (l:wH) (f:Nat),b<=A.size->(forIn l (A,f) (h_ x y n b)).run.fst=A
 | [],_,_=>rfl
 |a::l,f,h=>by
  rw[ir];unfold h_;rw[if_neg λz=>by have:=z.1.1.1;simp only at this;omega];exact uM x y n b A l f h
theorem ZJ(x y:Str)(n b:Nat):∀ (l:wH) (A:Array Nat) (f:Nat),∃ r:wH,(forIn l (A,f) (h_ x y n b)).run.fst.toList=A.toList++r
 | [],A,_=>{[],(iq _).symm}
 |a::l,A,f=>by
  rw[ir];unfold h_;split
  ·let[r,e]:=ZJ x y n b l (A.push a) (a+y.length);exact{a::r,e.trans (by simp)}
  ·exact ZJ x y n b l A f
theorem ZK(x y:Str)(n big b:Nat)(g:b<=big):∀ (l:wH) (A:Array Nat) (f:Nat),A.size+l.length<=big->A.size<=b ->
  ∃ r:wH,(forIn l (A,f) (h_ x y n big)).run.fst.toList=A.toList++r/\(forIn l (A,f) (h_ x y n b)).run.fst.toList=A.toList++r.take (b-A.size)
 | [],A,_,_,_=>{[],by simp}
 | a::l,A,f,h1,h2=>by
  rw[cf]at h1;by_cases c:(f<=a/\a+y.length<=n)/\subAt x y a=true
  ·have i:(((A,f).fst.size<big/\(A,f).snd<=a)/\a+y.length<=n)/\subAt x y a=true:={{{by show A.size<big;omega,c.1.1},c.1.2},c.2}
   by_cases j:A.size<b
   ·have o:(((A,f).fst.size<b/\(A,f).snd<=a)/\a+y.length<=n)/\subAt x y a=true:={{⟨j,c.1.1⟩,c.1.2},c.2}
    let[r,d,e]:=ZK x y n big b g l (A.push a) (a+y.length) (by rw[yw];omega) (by rw[yw];omega);refine{a::r,?_,?_}
    ·rw[ir]
     conv=>lhs;unfold h_
     rw[if_pos i];exact d.trans (by simp)
    ·rw[ir]
     conv=>lhs;unfold h_
     rw[if_pos o];refine e.trans ?_;rw[yw,show b-A.size=(b-(A.size+1))+1 by omega,List.take_succ_cons];simp
   ·let[r,d]:=ZJ x y n big (a::l) A f;refine{r,d,?_};rw[uM x y n b A (a::l) f (by omega),show b-A.size=0 by omega];simp
  ·let[r,d,e]:=ZK x y n big b g l A f (by omega) h2;refine{r,?_,?_}
   ·rw[ir]
    conv=>lhs;unfold h_
    rw[if_neg λz=>c {⟨z.1.1.2,z.1.2⟩,z.2}];exact d
   ·rw[ir]
    conv=>lhs;unfold h_
    rw[if_neg λz=>c {⟨z.1.1.2,z.1.2⟩,z.2}];exact e
def zlz(x y:Str)(a:Nat)(h:a<=x.length+1):occurrences x y 0 x.length a=(occurrences x y 0 x.length<|x.length+1).take a:=by
 rw[Iz,Iz];let[r,b,c]:=ZK x y x.length (x.length+1) a h (Hn 0<|x.length+1-0) #[] 0 (by simp) (bt _);rw[b,c];simp
def zl0(x:Str):Txt.splitMax x " " 2=(VB<|CW x.cps.toList).map C7:=by
 have hs:=ZI x;rw[ZH]at hs ⊢;unfold Txt.split at hs;unfold Txt.splitMax;by_cases h1:(decide (x.length<({#[32]}:Str).length)||decide (strKind x<strKind ⟨#[32]⟩))=true
 ·rw[if_pos h1]at hs ⊢;cases d:CW x.cps.toList with
  |nil=>rw[d]at hs;cases hs
  |cons a r =>
   cases r with
   |nil=>rw[d]at hs;exact hs
   |cons b r=>rw[d]at hs;cases hs
 ·rw[if_neg h1]at hs ⊢
  have L:1<=x.length:=by
   rw[xz,ff,decide_eq_false_iff_not]at h1
   have:=h1.1
   have e:({#[32]}:Str).length=1:=rfl;omega
  have v:Ih x 2=2:=rfl;rw[v,zlz x _ 2 (by omega)];let[f,g]:=StrLaws.occ_chain x {#[32]} (x.length+1);revert hs g;generalize occurrences x {#[32]} 0 x.length (x.length+1)=l;intro hs g
  match l,hs,g with
  | [],hs,_ =>
   rw[if_pos (by rfl)]at hs;rw[List.take_nil,if_pos (by rfl)];cases d:CW x.cps.toList with
   |nil=>rw[d]at hs;cases hs
   |cons a r =>
    cases r with
    |nil=>rw[d]at hs;exact hs
    |cons b r=>rw[d]at hs;cases hs
  | [i],hs,_ =>
   rw[if_neg (by simp),lg]at hs;rw[show [i].take 2=[i]from rfl,if_neg (by simp),lg,hs]
   have o:=congrArg f_ hs;rw[ε]at o;cases d:CW x.cps.toList with
   |nil=>rfl
   |cons a r =>
    cases r with
    |nil=>rfl
    |cons b r =>
     cases r with
     |nil=>rfl
     |cons c r=>rw[d]at o;simp[xh]at o
  | i::j::r,hs,g =>
   rw[if_neg (by simp),lg]at hs;rw[show(i::j::r).take 2=[i,j]from rfl,if_neg (by simp),lg]
   have n:=StrLaws.join_partsFrom x {#[32]} r (j+1) f g.2.2.2.2;let[p,q,s]:=StrLaws.partsFrom_ne x 1 (j+1) r
   have hs:strSub x 0 i::strSub x (i+1) j::xh x 1 (j+1) r=(CW x.cps.toList).map C7:=hs
   have n:Eo {#[32]} (xh x 1 (j+1) r)=strSub x (j+1) x.length:=n
   show [strSub x 0 i,strSub x (i+1) j,strSub x (j+1) x.length]=_;rw[s]at hs n;cases d:CW x.cps.toList with
   |nil=>rw[d]at hs;cases hs
   | cons w y =>
    cases y with
    |nil=>rw[d]at hs;exact absurd (congrArg f_ hs) (by simp)
    |cons z A =>
     cases A with
     |nil=>rw[d]at hs;exact absurd (congrArg f_ hs) (by simp)
     |cons B u =>
      rw[d]at hs;simp only[bu,yx]at hs;let[D,E,H,I]:=hs
      show _=[C7 w,C7 z,C7<|JN (B::u)];rw[D,E,<-n,<-ZG (Eo {#[32]} (p::q)),ZF,H,I]
      have J:u.map ((λx:Str=>x.cps.toList) ∘ C7)=u:=(vb λx _=>rfl).trans (Ku _);rw[bu,jh,J]
def zl1(x:Str)(n:x.length<=1000):(Txt.partition x " ").1=C7 ((CW x.cps.toList).headD []):=by
 have hs:=ZI x;rw[ZH]at hs ⊢
 have hz:(Txt.split x {#[32]})[0]? =some (C7<|(CW x.cps.toList).headD []):=by
  rw[hs];cases l:CW x.cps.toList with
  |nil=>rw[l]at hs;exact absurd hs<|uL x
  |cons a r=>rfl
 unfold Txt.partition;rcases StrLaws.occ_head x {#[32]} 1 (π _)with⟨e,b⟩|⟨i,r,e,j,b⟩
 ·rw[e];let[h,_]||[k,h,c,_]:=split_head x {#[32]} (by decide +kernel) _ hz
  ·exact h.symm
  ·exact absurd c<|b k
 ·rw[e];rcases split_head x {#[32]} (by decide +kernel) _ hz with⟨h,d⟩ | ⟨k,h,c,g⟩
  ·exact absurd j<|d i
  ·have:k=i:=by
    let z||z||z:=Df k i
    ·exact absurd c<|b k z
    ·exact z
    ·exact absurd j<|g i z
   subst this;exact h.symm
theorem VC:∀ {l w:wH},w∈CW l->w.length<=l.length
 | [],w,h=>by rw[aa.mp h];exact π _
 | c::r,w,h=>by
  unfold CW at h;split at h
  ·let h||h:=af.mp h
   ·rw[h];exact bt _
   ·exact ck<|VC h
  ·cases a:CW r with
   |nil=>rw[a]at h;rw[aa.mp h];simp
   |cons v vs =>
    rw[a]at h;let h||h:=af.mp h
    ·rw[h];exact xy<|VC<|a ▸ χ
    ·exact ck<|VC<|a ▸ τ _ h
def zl2{α :Type}{us:List α}{u: α}:KL (us++[u]) (-1)=some u:=by
 unfold KL HP;rw[if_neg (by omega),if_pos (by rw[ae];simp;omega)]
 have e:((-1:Int)+((us++[u]).length:Nat)).toNat=us.length:=by rw[ae];simp;omega
 show(us++[u])[((-1:Int)+((us++[u]).length:Nat)).toNat]? =_;rw[e,b_<|π _,vk]
 rfl
end L2
namespace L2
abbrev Ad:=String->Addr
def SameBut(F:yE)(H H':Hp):Prop:=∀ b o,H b=some o->¬ F b->H' b=some o
structure D0(K:W.Frag)(a:Ad):Prop where
 cl:Cls K (a "Plank")
 nC:NoAttr K (a "Plank") "contents"
 nW:NoAttr K (a "Plank") "width"
 nN:NoAttr K (a "Plank") "written"
def pf(a:Addr)(w n:Int):cC:=[("contents",.ref a),("width",.int w),("written",.int n)]
def zl3:¬ ("contents":Str)="width":=by decide
def zl4:¬ ("contents":Str)="written":=by decide
def zl5:¬ ("width":Str)="written":=by decide
def OS(a:Addr)(w n:Int):(pf a w n).lookup ("contents":Str)=some (V.ref a):=by simp[pf]
def uN(a:Addr)(w n:Int):(pf a w n).lookup ("width":Str)=some (V.int w):=by
 simp[pf,au,(beq_eq_false_iff_ne.mpr<|fg zl3)]
def uO(a:Addr)(w n:Int):(pf a w n).lookup ("written":Str)=some (V.int n):=by
 simp[pf,au,(beq_eq_false_iff_ne.mpr<|fg zl4),(beq_eq_false_iff_ne.mpr<|fg zl5)]
def JO(a:Addr)(w n:Int){m:Str}(h1:¬ m="contents")(h2:¬ m="width")(h3:¬ m="written"):(pf a w n).lookup m=none:=by
 simp[pf,au,(beq_eq_false_iff_ne.mpr h1),(beq_eq_false_iff_ne.mpr h2),(beq_eq_false_iff_ne.mpr h3)]
abbrev _root_.yD:=List (List V)
structure PlankAt(a:Ad)(H:Hp)(p cl:Addr)(w:Nat)(rows:yD)(n:Nat):Prop where
 ob:∃ dx,H p=some (.ins (a "Plank") dx (pf cl w n))
 ls:∃ ts:eF,H cl=some (.lst<|ts.map V.ref)/\Paired (λt r=>H t=some (.tup r)) ts rows
 wd:∀ r∈rows,r.length=w
 sz:rows.length<=1000
 sw:w<=1000
def PlankAt.ne(P:PlankAt a H p b w rows n):p≠b:=by
 let[[c,h1],[d,h2,y],y]:=P;exact BI h1 h2 (by intro z;cases z)
def PlankAt.same(P:PlankAt a H p b w rows n)(s:Same H H'):PlankAt a H' p b w rows n:=by
 let[[c,d],[e,g,i],j,l,o]:=P;exact{{c,s _ _ d},{e,s _ _ g,Paired.mapP i λt r q=>s _ _ q},j,l,o}
local macro_rules
 |`(command|example : ($x:ident) := $t:term)=>do
  let i:=Lean.mkIdent
  `(command|def $x:ident ($(i `K):ident : W.Frag) ($(i `a):ident : Ad) : Sp := fun $(i `vs):ident $(i `H):ident $(i `Q):ident $(i `E):ident => $t)
example:(ZL):=∃ (p c:Addr) (m w:Nat),vs=[.ref p,.int m,.int w]/\D0 K a/\H p=some (.ins (a "Plank") c [])/\m<=1000/\1<=w/\w<=1000 ∧
 ∀ b H',H b=none->PlankAt a H' p b w (az m<|az w .non) 0->SameBut (· =p) H H'->Q .non H'
example:(RP):=∃ p b w rows n,vs=[.ref p]/\D0 K a/\PlankAt a H p b w rows n/\Q (.int rows.length) H
example:(ZM):=∃ (p b:Addr) (w:Nat) (rows:yD) (n:Nat),vs=[.ref p]/\D0 K a/\PlankAt a H p b w rows n/\Q (.int w) H
example:(VD):=∃ (p b:Addr) (w:Nat) (rows:yD) (n:Nat),vs=[.ref p]/\D0 K a/\PlankAt a H p b w rows n/\Q (.int n) H
example:(OT):=∃ (p c:Addr) (w:Nat) (rows:yD) (n:Nat) (b:Int),vs=[.ref p,.int b]/\D0 K a/\PlankAt a H p c w rows n /\
 (0<=b->b<rows.length->Q .non H)/\(b<0\/rows.length<=b->E (.ref<|a "NoBlock") none H)
example:(K1):=∃ (p c:Addr) (w:Nat) (rows:yD) (n:Nat) (b:Int),vs=[.ref p,.int b]/\D0 K a/\PlankAt a H p c w rows n /\
 (∀ (i:Nat) row,b=i->rows[i]? =some row->∀ l,H l=none->Q (.ref l) (upd H l<|.lst row))/\(b<0\/rows.length<=b->E (.ref<|a "NoBlock") none H)
example:(VE):=∃ (p c:Addr) (w:Nat) (rows:yD) (n:Nat) (b:Int) (v:Addr) (xs:eI),vs=[.ref p,.int b,.ref v]/\D0 K a/\PlankAt a H p c w rows n/\SqL K H v xs/\xs.length<=2000 /\
 (∀ (i:Nat),b=i->i<rows.length->xs.length=w->∀ H',PlankAt a H' p c w (rows.set i xs) (n+1)->SameBut (λx=>x=p\/x=c) H H'->Q .non H') /\
 (b<0\/rows.length<=b\/xs.length≠w->E (.ref<|a "NoBlock") none H)
def BU{K:W.Frag}{H:Hp}{p:Addr}{xs:eI}{i:Int}{n:Nat}{v:V}{Q:VK}(h:H p=some (.tup xs))(a:i=n)(b:xs[n]? =some v)(q:Q v H):BZ K (.ref p) (.int i) H Q :=
 .inr (.inl (x4 p xs i v {rfl,rfl,SqT.of h,by rw[a];exact UH b,q}))
def OU(h:fs≠a):HO.ins C c fs≠HO.ins d b a:=by
 intro z;injection z with _ _ z
 exact h z
def zl6(xs:eI)(h:0<=k):GO xs none (some k)=xs.take k.toNat:=by
 unfold GO
 have e:HT.sIx xs.length xs.length (some k)=min k.toNat xs.length:=by
  show(if k<0 then(k+xs.length).toNat else min _ _)=_;rw[if_neg (by lia)]
 rw[HT.sIx_none,I_,List.take_eq_take_iff]
 lia
def zl7(xs:eI)(h:0<=k):GO xs (some k) none=xs.drop k.toNat:=by
 unfold GO
 have e:HT.sIx xs.length 0 (some k)=min k.toNat xs.length:=by
  show(if k<0 then(k+xs.length).toNat else min _ _)=_;rw[if_neg (by lia)]
 rw[e];let z||z:=ee _ _
 rw[rf (ka z),dv (by rw[ic];exact π _)];rw[Ff z,List.drop_of_length_le z];simp
def zl8{K:W.Frag}{H:Hp}{p:Addr}{xs:eI}{lo a:Option Int}{Q:VK}(h:SqL K H p xs)(q:∀ r,H r=none->Q (.ref r) (upd H r<|.lst<|GO xs lo a)):L4 K (.ref p) lo a H Q:=.inl<|x2 p xs ⟨rfl,h,q⟩
def SameBut.refl(H:Hp):SameBut F H H:=λz z e z=>e
def SameBut.trans(s:SameBut F H H')(t:SameBut F H' a):SameBut F H a:=λb o e n=>t _ _ (s _ _ e n) n
def SameBut.wide(s:SameBut F H H')(i:∀ x,F x->G x):SameBut G H H':=λb o e n=>s _ _ e λz=>n<|i _ z
def Same.sb(s:Same H H'):SameBut F H H':=λb o e z=>s b o e
def SameBut.upd(s:SameBut F H H')(h:F p\/H p=none):SameBut F H (upd H' p o):=λb u e n=>by
 have:b≠p:=by
  let h||h:=h
  exact λz=>n<|z ▸ h;exact BJ e h
 rw[AJ this];exact s _ _ e n
structure Ch where
 blk:Nat
 cell:Nat
 val:V
 nd:yG
abbrev _root_.yH:=List Ch
def JP:yH->Int->Int->Option Nat
 | [],_,_=>none
 |c::r,i,j=>if(c.blk:Int)=i/\(c.cell:Int)=j then some r.length else JP r i j
def D8(cs:yH)(i j:Int):Option Nat:=JP cs.reverse i j
def FW:yH->Nat->wH
 | [],_=>[]
 |c::r,b=>if c.blk=b then FW r b++[r.length]else FW r b
def DI(cs:yH)(b:Nat):wH:=FW cs.reverse b
def ZN(cs:yH)(c:Ch)(i j:Int):D8 (cs++[c]) i j=if(c.blk:Int)=i/\(c.cell:Int)=j then some cs.length else D8 cs i j:=by
 simp[D8,JP]
def zl9(cs:yH)(c:Ch)(b:Nat):DI (cs++[c]) b=if c.blk=b then DI cs b++[cs.length]else DI cs b:=by
 simp[DI,FW]
theorem ZO:∀ {l:yH} {i j:Int} {k:Nat},JP l i j=some k->k<l.length
 | [],_,_,_,h=>by cases h
 |c::r,i,j,k,h=>by
  unfold JP at h;split at h;obtain rfl:=μ h;simp;exact ck<|ZO h
def RQ(h:D8 cs i j=some k):k<cs.length:=by
 have:=ZO h
 rwa [gu]at this
theorem ZP:∀ {l:yH} {b k:Nat},k∈FW l b->k<l.length
 | [],_,_,h=>by cases h
 |c::r,b,k,h=>by
  unfold FW at h;split at h;let h||h:=bh.mp h
  exact ck<|ZP h;rw[aa.mp h];simp;exact ck<|ZP h
def VF(h:k∈DI cs b):k<cs.length:=by
 have:=ZP h
 rwa [gu]at this
theorem uP:∀ (l:yH) (b:Nat),(FW l b).length<=l.length
 | [],_=>π _
 |c::r,b=>by
  have:=uP r b;unfold FW;split<;>simp<;>omega
def ZQ(cs:yH)(b:Nat):(DI cs b).length<=cs.length:=by
 have:=uP cs.reverse b
 rwa [gu]at this
def GD(a:Addr)(v:V)(b:Addr):cC:=[("place",.ref a),("value",v),("needs",.ref b)]
def bf(a m b lt c:Addr):cC:=[("ground",.ref a),("made",.ref m),("made_in",.ref b),("latest",.ref lt),("outs",.ref c)]
def D9(a b:Str):Bool:=a==b
section
variable{pl nt gp m mi lt ou:Addr}{v:V}
def BB(h:D9 a b=false):(a==b)=false:=h
def uQ:(GD pl v nt).lookup ("place":Str)=some (V.ref pl):=by simp[GD]
def uR:(GD pl v nt).lookup ("value":Str)=some v:=by
 simp[GD,au,BB (a:="value") (b:="place") (by decide)]
def uS:(GD pl v nt).lookup ("needs":Str)=some (V.ref nt):=by
 simp[GD,au,BB (a:="needs") (b:="place") (by decide),BB (a:="needs") (b:="value") (by decide)]
def OV(h:D9 g f=false):BO f y ((g,x)::r)=(g,x)::BO f y r:=by
 have:¬ g=f:=λe=>by rw[e]at h;simp[D9]at h
 simp[BO,this]
def ZR:BO f y []=[(f,y)]:=rfl
def RR:(bf gp m mi lt ou).lookup ("ground":Str)=some (V.ref gp):=by simp[bf]
def JQ:(bf gp m mi lt ou).lookup ("made":Str)=some (V.ref m):=by
 simp[bf,au,BB (a:="made") (b:="ground") (by decide)]
def ZS:(bf gp m mi lt ou).lookup ("made_in":Str)=some (V.ref mi):=by
 simp[bf,au,BB (a:="made_in") (b:="ground") (by decide),BB (a:="made_in") (b:="made") (by decide)]
def uT:(bf gp m mi lt ou).lookup ("latest":Str)=some (V.ref lt):=by
 simp[bf,au,BB (a:="latest") (b:="ground") (by decide),BB (a:="latest") (b:="made") (by decide),BB (a:="latest") (b:="made_in") (by decide)]
def RS:(bf gp m mi lt ou).lookup ("outs":Str)=some (V.ref ou):=by
 simp[bf,au,BB (a:="outs") (b:="ground") (by decide),BB (a:="outs") (b:="made") (by decide),BB (a:="outs") (b:="made_in") (by decide),BB (a:="outs") (b:="latest") (by decide)]
def DC(h:(D9 x "ground" || D9 x "made" || D9 x "made_in" || D9 x "latest" || D9 x "outs")=false:=by decide +kernel):(bf gp m mi lt ou).lookup x=none:=by
 simp only[ff]at h;let[[[[h1,h2],h3],h4],h5]:=h;simp[bf,au,BB h1,BB h2,BB h3,BB h4,BB h5]
def zma:BO "outs" (.ref ou) (BO "latest" (.ref lt) (BO "made_in" (.ref mi) (BO "made" (.ref m) (BO "ground" (.ref gp) []))))=bf gp m mi lt ou:=by
 rfl
end
structure uU(K:W.Frag)(C D:Addr):Prop where
 cl:Cls K C
 nG:NoAttr K C "ground"
 nM:NoAttr K C "made"
 nI:NoAttr K C "made_in"
 nL:NoAttr K C "latest"
 nO:NoAttr K C "outs"
 cc:Cls K D
 nP:NoAttr K D "place"
 nV:NoAttr K D "value"
 nN:NoAttr K D "needs"
def ChAt(D:Addr)(H:Hp)(x:Addr)(c:Ch):Prop:=∃ d a b,H x=some (.ins D d<|GD a c.val b)/\H a=some (.tup [.int c.blk,.int c.cell])/\H b=some (.tup<|c.nd.map V.int)
structure BA where
 b:Addr
 gp:Addr
 m:Addr
 mi:Addr
 lt:Addr
 ou:Addr
 ls:eF
 cl:Addr
def BA.F(A:BA)(x:Addr):Prop:=x=A.m\/x=A.mi\/x∈A.ls\/x=A.lt\/x=A.ou\/x=A.cl
def KeysOk(a:cD)(n:Nat):Prop:=(a.map (·.1)).Nodup/\∀ p∈a,∃ x:Nat,p.1=uq (x:Int)/\x<n
def KeysOk.mono(h:KeysOk a n)(b:n<=m):KeysOk a m:={h.1,λp c=>by let[x,e,d]:=h.2 p c;exact{x,e,υ d b}}
def KeysOk.len(h:KeysOk a n):a.length<=n:=by
 have:=ul  h.1 λk b=>by
  let[p,c,rfl]:=a_.mp b;let[x,e,d]:=h.2 p c;rw[e];exact a_.mpr {x,ao.mpr d,rfl}
 simpa using this
def KeysOk.put(h:KeysOk b n)(d:k<n)(c:BF b (.inl (k:Int))=none)(v:V):KeysOk (CF b (.inl (k:Int)) v) n:=by
 refine{zcn v h.1 c,λp a=>?_};rw[rO v c]at a;let a||a:=bh.mp a
 exact h.2 p a;rw[aa.mp a];exact⟨k,rfl,d⟩
structure BookIn(C D:Addr)(H:Hp)(A:BA)(w:Nat)(cs:yH)(outs:zE):Prop where
 ob:∃ dx,H A.b=some (.ins C dx<|bf A.gp A.m A.mi A.lt A.ou)
 made:∃ chs:eF,H A.m=some (.lst<|chs.map V.ref)/\Paired (ChAt D H) chs cs
 mil:H A.mi=some (.lst<|A.ls.map V.ref)
 mic:∀ (i:Nat) l,A.ls[i]? =some l->H l=some (.lst<|(DI cs i).map λ(k:Nat)=>V.int k)
 nd:A.ls.Nodup
 lat:∃ kvs,H A.lt=some (.dT kvs)/\(∀ i j:Int,BF kvs [.inl i,.inl j]=(D8 cs i j).map λ(k:Nat)=>V.int k)/\kvs.length<=cs.length
 out:∃ DW,H A.ou=some (.dK DW)/\(∀ k:Int,(BF DW<|.inl k).isSome=outs k)/\KeysOk DW cs.length
 sz:cs.length<=990
 inn:∀ c∈cs,c.blk<A.ls.length/\c.cell<w
 need:∀ (k:Nat) c,cs[k]? =some c->(∀ x∈c.nd,0<=x/\x<k)/\c.nd.Pairwise (· <·)/\c.nd.length<=100
 ap:A.m≠A.mi/\A.m∉A.ls/\A.mi∉A.ls/\A.cl≠A.m/\A.cl≠A.mi/\A.cl∉A.ls
 chn:∀ (k:Nat) c,cs[k]? =some c->∀ j,D8 (cs.take k) c.blk c.cell=some j->(j:Int)∈c.nd
structure BookAt(a:Ad)(C:Addr)(H:Hp)(A:BA)(w:Nat)(rows:yD)(n:Nat)(cs:yH)(outs:zE):Prop where
 bk:BookIn C (a "Change") H A w cs outs
 pk:PlankAt a H A.gp A.cl w rows n
 nb:A.ls.length=rows.length
def ES(o:Option HO):Prop:=(∀ xs,o≠some (.tup xs))/\∀ C a fs,o≠some (.ins C a fs)
def ChAt.sb(s:SameBut G H H')(g:∀ x,G x->ES (H x))(h:ChAt D H x c):ChAt D H' x c:=by
 revert h;apply u3;intro e i j [a,b,d];exact x3 e i j {s _ _ a λz=>(g _ z).2 _ _ _ a,s _ _ b λz=>(g _ z).1 _ b,s _ _ d λz=>(g _ z).1 _ d}
def BookIn.sb(B:BookIn C D H A w cs outs)(s:SameBut G H H')(g:∀ x,G x->ES (H x))(f:∀ x,G x->¬ A.F x):BookIn C D H' A w cs outs:=by
 let[[d,b],[e,j,n],o,p,q,[kvs,r,u],[M,v,a],y,E,I,J,L]:=B;refine⟨{d,s _ _ b λz=>(g _ z).2 _ _ _ b},{_,s _ _ j λz=>f _ z<|.inl rfl,Paired.mapP n λx c h=>h.sb s g},s _ _ o λz=>f _ z<|.inr<|.inl rfl,λi l h=>s _ _ (p i l h) λz=>f _ z<|.inr<|.inr<|.inl<|θ h,q,
  {_,s _ _ r λz=>f _ z<|.inr<|.inr<|.inr<|.inl rfl,u},{_,s _ _ v λz=>f _ z<|.inr<|.inr<|.inr<|.inr<|.inl rfl,a},y,E,I,J,L⟩
def PlankAt.sbL(P:PlankAt a H p b w rows n)(s:SameBut G H H')(g:∀ x,G x->ES (H x))(h:¬ G b):PlankAt a H' p b w rows n:=by
 let[[d,c],[e,i,j],l,o,u]:=P;exact{{d,s _ _ c λz=>(g _ z).2 _ _ _ c},{e,s _ _ i h,Paired.mapP j λt r q=>s _ _ q λz=>(g _ z).1 _ q},l,o,u}
def BookAt.sb(B:BookAt a C H A w rows n cs outs)(s:SameBut G H H')(g:∀ x,G x->ES (H x))(f:∀ x,G x->¬ A.F x):BookAt a C H' A w rows n cs outs :=
 {B.bk.sb s g f,B.pk.sbL s g λz=>f _ z<|.inr<|.inr<|.inr<|.inr<|.inr rfl,B.nb}
def BookAt.same(B:BookAt a C H A w rows n cs outs)(s:Same H H'):BookAt a C H' A w rows n cs outs :=
 B.sb (G:=λy=>False) (Same.sb s) (λy z=>z.elim) λy z=>z.elim
def BookAt.off(B:BookAt a C H A w rows n cs outs)(h:H x=none):¬ A.F x:=by
 let[[y,[c,d,y],g,j,y,[kvs,l,y],[q,o,y],y],[y,[r,b,y],y],y]:=B;rintro (z|z|z|z|z|z);rw[z,d]at h;cases h;rw[z,g]at h;cases h;let[i,p,e]:=jf z;rw[(j i x (by rw[<-e];exact ι p))]at h;cases h;rw[z,l]at h;cases h;rw[z,o]at h;cases h;rw[z,b]at h;cases h
def RU{α :Type}{l:List α}{x: α}(h:x∈l):∃ i:Nat,l[i]? =some x:=by
 let[i,a,e]:=jf h;exact{i,by rw[<-e];exact ι a}
def RV{H:Hp}{x:Addr}{xs:eI}(h:H x=some (.lst xs)):ES (H x):=by
 rw[h];exact{λy z=>(by cases z),λy y y z=>(by cases z)}
def RW{H:Hp}{x:Addr}{xs:cD}(h:H x=some (.dK xs)):ES (H x):=by
 rw[h];exact{λy z=>(by cases z),λy y y z=>(by cases z)}
def zmb{H:Hp}{x:Addr}{xs:zA}(h:H x=some (.dT xs)):ES (H x):=by
 rw[h];exact{λy z=>(by cases z),λy y y z=>(by cases z)}
def BookAt.loose{A:BA}{outs:zE}(B:BookAt a C H A w rows n cs outs)(h:A.F x):ES (H x):=by
 let[[y,[c,d,y],g,j,y,[kvs,l,y],[p,o,y],y],[y,[q,b,y],y],y]:=B;let z||z||z||z||z||z:=h
 exact RV<|z ▸ d;exact RV<|z ▸ g;let[i,e]:=RU z;exact RV<|j i x e;exact zmb<|z ▸ l;exact RW<|z ▸ o;exact RV<|z ▸ b
structure JR(cs:yH)(outs:zE)(ns:yG)(R:zE):Prop where
 all:∀ x∈ns,R x=true
 up:∀ (k:Nat) (c:Ch),cs[k]? =some c->outs k=false->R k=true->∀ y∈c.nd,R y=true
 only:∀ x,R x=true->x∈ns\/∃ (k:Nat) (c:Ch),cs[k]? =some c/\outs k=false/\R k=true/\x∈c.nd
theorem ZT(g:∀ (k:Nat) (c:Ch),cs[k]? =some c->∀ x∈c.nd,x<k)(h:∀ x∈ns,x∈l)(i:JR cs outs ns R)(a:JR cs outs l S):∀ (d:Nat) (x:Int),(cs.length:Int) - x<=d->R x=true->S x=true
 |0,x,hd,j=>by
  let z||[k,c,e,_,_,b]:=i.only x j
  ·exact a.all x<|h x z
  ·have:=g k c e x b
   have:=(η.mp e).1;omega
 |d+1,x,hd,j=>by
  let z||[k,c,e,n,o,b]:=i.only x j
  ·exact a.all x<|h x z
  ·have:=g k c e x b;exact a.up k c e n (ZT g h i a d k (by omega) o) x b
def zmc(b:∀ (k:Nat) (c:Ch),cs[k]? =some c->∀ x∈c.nd,x<k)(h:∀ x,x∈ns↔x∈g)(d:JR cs outs ns R)(e:JR cs outs g S)(x:Int):R x=S x:=by
 rw[jd];exact{ZT b (λy a=>(h y).mp a) d e (cs.length-x).toNat x (by omega),ZT b (λy a=>(h y).mpr a) e d (cs.length-x).toNat x (by omega)}
def IS(nd:yG)(there:zE):Option Int:=nd.find? λx=> !there x
def zmd(h:∀ x∈nd,there x=true):IS nd there=none:=js.mpr λx a=>by rw[h x a];exact ay
structure Pass where
 out:wH
 held:List (Nat × Int)
 gone:Int->Bool
def DD(cs:yH)(outs:zE)(s:Pass)(k:Nat):Pass :=
 if outs k||s.gone k then s else
  match (cs[k]?).bind λc=>IS c.nd λx=>outs x||s.gone x with
  |none=>{s.out++[k],s.held,λx=>s.gone x||x ==(k:Int)}
  |some l=>{s.out,s.held++[(k,l)],s.gone}
def outcome(cs:yH)(outs taken:zE)(b:Nat):Pass:=(DI cs b).foldl (DD cs outs) {[],[],taken}
def HV(cs:yH)(outs:zE)(r:eI)(k:Nat):eI :=
 if outs k then match cs[k]? with
  |some c=>r.set c.cell c.val
  |none=>r
 else r
def EY(cs:yH)(outs:zE)(b:Nat)(row:eI):eI:=(DI cs b).foldl (HV cs outs) row
def DF(cs:yH)(outs:zE)(b:Nat):Int->Bool:=λx=>outs x||(outcome cs outs (λ_=>false) b).out.any λ(k:Nat)=>x ==(k:Int)
def zme(r:eI)(k:Nat):(HV cs outs r k).length=r.length:=by
 unfold HV;split;split;rw[jx]
 rfl
 rfl
theorem ZU:∀ (l:wH) (r:eI),(l.foldl (HV cs outs) r).length=r.length
 | [],r=>rfl
 |k::l,r=>by rw[gg,ZU l,zme]
def uV:(EY cs outs b row).length=row.length:=ZU _ _
theorem ZV:∀ (l:wH) (s:Pass),(l.foldl (DD cs outs) s).out.length+(l.foldl (DD cs outs) s).held.length<=s.out.length+s.held.length+l.length
 | [],s=>by simp
 |k::l,s=>by
  rw[gg]
  have h2:(DD cs outs s k).out.length+(DD cs outs s k).held.length<=s.out.length+s.held.length+1:=by
   unfold DD;split;exact jj _;split<;>simp<;>omega
  have h:=ZV (cs:=cs) (outs:=outs) l (DD cs outs s k);simp only[cf]
  lia
def uW{α a :Type}(f: a -> α -> a)(b: a){l:List α}{i:Nat}{x: α}(h:l[i]? =some x):(l.take<|i+1).foldl f b=f ((l.take i).foldl f b) x:=by
 let[c,e]:=η.mp h;rw[<-e,<-kq c,kf]
 rfl
theorem uX(b:Nat):∀ l:yH,FW l b=(ο l.length).filter λ(k:Nat)=>(l.reverse[k]?).any λc=>c.blk == b
 | []=>rfl
 |c::r=>by
  have e:(ο r.length).filter (λk=>((c::r).reverse[k]?).any λc=>c.blk==b)=FW r b:=by
   rw[(uX b r)];refine t_ λk a=>?_;rw[na,bc (by rw[gu];exact ao.mp a)]
  have d:(c::r).reverse[r.length]? =some c:=by
   simp
  rw[cf,bx,l_,e]
  show(if c.blk=b then FW r b++[r.length]else FW r b)=_;by_cases h:c.blk=b;simp[h];simp[h]
def uY(cs:yH)(b:Nat):DI cs b=(ο cs.length).filter λ(k:Nat)=>(cs[k]?).any λc=>c.blk==b:=by
 have:=uX b cs.reverse;rw[ux,gu]at this;exact this
def zmf(cs:yH)(b:Nat):(DI cs b).Pairwise (· <·):=by
 rw[uY];exact ip.filter _
def VG:k∈DI cs b↔∃ c,cs[k]? =some c/\c.blk=b:=by
 rw[uY,di,ao];constructor;intro[h,h2];rw[ι h]at h2 ⊢;exact{_,rfl,by simpa using h2};intro[c,e,rfl];exact{(η.mp e).1,by rw[e];simp}
def uZ(s:Pass)(k:Nat):DD cs outs s k=s\/(outs k=false/\DD cs outs s k={s.out++[k],s.held,λx=>s.gone x||x ==(k:Int)})\/∃ l,DD cs outs s k={s.out,s.held++[(k,l)],s.gone}:=by
 unfold DD;split;exact .inl rfl;rename_i a;simp only[mh,not_or,xz]at a;split;exact .inr<|.inl ⟨a.1,rfl⟩;exact .inr<|.inr ⟨_,rfl⟩
theorem VH:∀ (l:wH) (s:Pass),∃ a,(l.foldl (DD cs outs) s).out=s.out++a/\a.Sublist l/\(∀ k∈a,outs k=false)/\∀ x,(l.foldl (DD cs outs) s).gone x=(s.gone x||a.any λ(k:Nat)=>x ==(k:Int))
 | [],s=>{[],by simp,.slnil,by simp,by simp}
 |k::l,s=>by
  rw[gg];let[a,h1,h2,h3,h4]:=VH   l (DD cs _ s k);let e||[c,e]||[d,e]:=uZ   s k
  rw[e]at h1 h4 ⊢;exact{a,h1,h2.cons _,h3,h4};rw[e]at h1 h4 ⊢;refine{_,by rw[h1];simp,h2.cons_cons _,λx b=>?_,λx=>(by rw[h4,pr,ku])};let rfl||b:=af.mp b
  exact c;exact h3 x b;rw[e]at h1 h4 ⊢;exact{a,h1,h2.cons _,h3,h4}
def VJ:(outcome cs outs (λ_=>false) b).out.Pairwise (· <·)/\(∀ k∈(outcome cs outs (λ_=>false) b).out,outs k=false/\k∈DI cs b)/\∀ x,(outcome cs outs (λ_=>false) b).gone x=(outcome cs outs (λ_=>false) b).out.any λ(k:Nat)=>x ==(k:Int):=by
 let[c,h1,h2,h3,h4]:=VH   _ _
 have e:(outcome cs outs (λz=>false) b).out=c:=by unfold outcome;rw[h1];rfl
 rw[e];exact{(zmf cs b).sublist h2,λk a=>{h3 k a,h2.subset a},λx=>by unfold outcome;rw[h4];simp}
def VL(H:Hp)(t ol a:Addr)(out:wH)(held:List (Nat × Int)):Prop:=H t=some (.tup [.ref ol,.ref a])/\H ol=some (.lst<|out.map λ(k:Nat)=>V.int k)/\∃ hs:eF,H a=some (.lst<|hs.map V.ref)/\Paired (λx (p:Nat × Int)=>H x=some (.tup [.int p.1,.int p.2])) hs held
def ZW(cs:yH)(r:eI)(k:Nat):eI:=match cs[k]? with
 |some c=>r.set c.cell c.val
 |none=>r
def VM(cs:yH)(a:wH)(row:eI):eI:=a.foldl (ZW cs) row
def zmg(cs:yH)(O:zE)(b:Nat)(row:eI):EY cs O b row=VM cs ((DI cs b).filter λ(k:Nat)=>O k) row:=by
 unfold EY VM;rw[List.foldl_filter]
 rfl
def JS(cs:yH):wH->Nat->Option Ch
 | [],_=>none
 |k::r,j=>match JS cs r j with
  |some c=>some c
  |none=>(cs[k]?).filter λc=>c.cell==j
def ZX(cs:yH)(k:Nat)(r:wH)(j:Nat):JS cs (k::r) j=match JS cs r j with
  |some c=>some c
  |none=>(cs[k]?).filter λc=>c.cell==j:=rfl
theorem vA(cs:yH)(j:Nat):∀ (g:wH) (row:eI),(VM cs g row)[j]? =(row[j]?).map λv=>((JS cs g j).map (·.val)).getD v
 | [],row=>by
  show row[j]? =_;cases row[j]? <;>rfl
 | k::r,row=>by
  show(VM cs r _)[j]? =_;rw[vA cs j r,ZX];cases h:JS cs r j with
  |some c =>
   unfold ZW;cases e:cs[k]? with
   |none=>rfl
   |some b =>
    rw[Er];by_cases d:b.cell=j;subst d;rw[if_pos rfl];by_cases a:b.cell<row.length;rw[if_pos a,ι a];rfl;rw[if_neg a,bd<|cm a];rw[if_neg d]
  |none =>
   unfold ZW;cases e:cs[k]? with
   |none=>rfl
   |some b =>
    rw[Er];by_cases d:b.cell=j;subst d;rw[if_pos rfl];by_cases a:b.cell<row.length;rw[if_pos a,ι a];simp[As];rw[if_neg a,bd<|cm a];rfl;rw[if_neg d]
    have:(As (λc=>c.cell==j) (some b))=none:=by simp[d]
    rw[this]
theorem vB:∀ {d:wH},JS cs d j=some c->∃ k∈d,cs[k]? =some c/\c.cell=j/\(d.Pairwise (· <·)->∀ g∈d,k<g->∀ i,cs[g]? =some i->i.cell≠j)
 | [],h=>by cases h
 | k::r,h=>by
  rw[ZX]at h;cases e:JS cs r j with
  |some v =>
   rw[e]at h;cases h;let[k1,h1,h2,h3,h4]:=vB e;refine{k1,τ _ h1,h2,h3,λp g a q i b=>?_};let[w,x]:=gb.mp p;let rfl||a:=af.mp a
   have:=w k1 h1;lia;exact h4 x g a q i b
  | none =>
   rw[e]at h;cases b:cs[k]? with
   |none=>rw[b]at h;cases h
   |some s =>
    rw[b]at h
    have n:s.cell=j/\s=c:=by
     simp only[As]at h;split at h;rename_i y;obtain rfl:=μ h;exact{by simpa using y,rfl};cases h
    let[n,rfl]:=n;refine{k,χ ..,b,n,λp g a q i o=>?_};let rfl||a:=af.mp a
    lia
    exact lastAt_no e g a i o
where
 lastAt_no {cs:yH} {j:Nat}:∀ {d:List _},JS cs d j=none->∀ k∈d,∀ c,cs[k]? =some c->c.cell≠j
  | [],_,k,l=>by cases l
  |k0::r,h,k,l=>λc b u=>by
   rw[ZX]at h;cases e:JS cs r j with
   |some v=>rw[e]at h;cases h
   |none =>
    rw[e]at h;let rfl||l:=af.mp l
    rw[b]at h;simp[u]at h;exact lastAt_no e k l c b u
theorem vC:∀ {l:yH} {k:Nat} {c:Ch},l.reverse[k]? =some c->(c.blk:Int)=i->(c.cell:Int)=j->∃ a b,JP l i j=some a/\k<=a/\l.reverse[a]? =some b/\(b.blk:Int)=i/\(b.cell:Int)=j
 | [],k,c,h,_,_=>by simp at h
 |e::r,k,c,h,h1,h2=>by
  have g:=(η.mp h).1;rw[gu]at g;unfold JP;by_cases d:e.blk=i/\e.cell=j;rw[if_pos d];refine x2 _ e {rfl,du g,?_,d};simp;rw[if_neg d]
  have o:k<r.length:=by
   let z||z:=ee k _
   exact z;exfalso
   have  :=jz (du g) z;subst this;simp at h;subst h;exact d ⟨h1,h2⟩
  rw[na,bc (by rw[gu];exact o)]at h;refine u2 ?_<|vC h h1 h2;intro a b [n,p,q,s];refine x2 a b {n,p,?_,s};rw[na,bc (by rw[gu];exact(ZO n))];exact q
def zmh(h:cs[k]? =some c):∃ a b,D8 cs c.blk c.cell=some a/\k<=a/\cs[a]? =some b/\b.blk=c.blk/\b.cell=c.cell:=by
 refine u2 ?_ (vC    (by rw[ux];exact h) rfl rfl);intro a b [e,g,d,i,j];rw[ux]at d;exact x2 a b {e,g,d,ca i,ca j}
def VN(cs:yH)(outs:zE):Prop:=∀ (k:Nat) (c:Ch),cs[k]? =some c->outs k=true->∀ y∈c.nd,outs y=true
def zmi(s:Pass)(k:Nat)(h:(DD cs outs s k).out=s.out++[k]):∀ c,cs[k]? =some c->∀ y∈c.nd,(outs y||s.gone y)=true:=λc a y b=>by
 unfold DD at h;split at h;exact absurd h (by intro z;have:=congrArg f_ z;simp at this);rw[a]at h;split at h;rename_i d
 have:=js.mp d y b;cases e:(outs y||s.gone y)with
 |true=>rfl
 |false =>
  have this:¬ (!(outs y||s.gone y))=true:=this;rw[e]at this;exact absurd rfl this
 exact absurd h (by intro z;have:=congrArg f_ z;simp at this)
theorem vD:∀ (l:wH) (s:Pass),(∀ k∈s.out,∀ c,cs[k]? =some c->∀ y∈c.nd,(outs y||s.gone y)=true)->∀ k∈(l.foldl (DD cs outs) s).out,∀ c,cs[k]? =some c->∀ y∈c.nd,(outs y||(l.foldl (DD cs outs) s).gone y)=true
 | [],s,h=>h
 |k::l,s,h=>by
  refine vD l _ ?_;let e||[i,e]||[j,e]:=uZ   s k
  rw[e];exact h;rw[e];intro g a c b y d;let a||a:=bh.mp a
  rw[<-ku,(h g a c b y d),n_];rw[aa.mp a]at b;rw[<-ku,((zmi   s k (by rw[e])) c b y d),n_];rw[e];exact h
def zmj(cut:VN cs outs)(b:Nat):VN cs (DF cs outs b):=λk c g a y i=>by
 let[z,z,j]:=VJ;unfold DF at a ⊢;rw[mh]at a;let a||a:=a
 rw[cut k c g a y i,n_];let[l,d,e]:=dt.mp a
 have e:(k:Int)=l:=by simpa using e
 have e:=ca e;subst e;rw[<-j y];exact(vD   _ _ (by simp) k d c g y i)
def zmk{cs:yH}{outs:zE}{b k:Nat}:DF cs outs b k=true↔outs k=true\/k∈(outcome cs outs (λ_=>false) b).out:=by
 unfold DF;rw[mh,dt];constructor;rintro (h|⟨c,a,e⟩);exact .inl h;exact .inr ((ca (by simpa using e)) ▸ a);rintro (h|h);exact .inl h;exact .inr {k,h,by simp}
theorem VO{outs tk:zE}:∀ (l:wH) (s a:Pass),s.out=a.out->s.held=a.held->(∀ x,s.gone x=(tk x||a.gone x))->(l.foldl (DD cs outs) s).out=(l.foldl (DD cs λx=>outs x||tk x) a).out
 | [],s,a,h,_,_=>h
 |k::l,s,a,h1,h2,h3=>by
  rw[gg,gg]
  have b:(λx=>outs x||s.gone x)=λx=>(outs x||tk x)||a.gone x:=by funext x;rw[h3,ku]
  have c:=congrFun b k;let[d,h',e]:=a;simp only at h1 h2 h3 b c;subst h1 h2;unfold DD;simp only[c,b];split;exact VO l _ _ rfl rfl h3;split;exact VO l _ _ rfl rfl λx=>by simp only[h3,ku]
  exact VO l _ _ rfl rfl h3
def zml{outs tk:zE}:(outcome cs outs tk b).out=(outcome cs (λx=>outs x||tk x) (λ_=>false) b).out:=VO _ _ _ rfl rfl λx=>by simp
def zmm{cs:yH}{outs:zE}{k:Nat}{c:Ch}(a:cs[k]? =some c)(d:outs k=false)(g:∀ x∈c.nd,outs x=true):DF cs outs c.blk k=true:=by
 let[b,l2,e]:=List.append_of_mem<|VG.mpr ⟨c,a,rfl⟩;rw[zmk];refine .inr ?_;unfold outcome;let[i,h1,_,_,h4]:=VH   b _;rw[e,kf,gg];generalize yi (DD cs _) _ b=s at h1 h4
 have st:k∈(DD cs outs s k).out:=by
  unfold DD;split;rename_i h;rw[d,h4]at h;obtain⟨y,j,e⟩:∃ y,y∈i/\k=(y:Int):=by simpa using h
  rw[h1]
  have:y=k:=by lia
  exact ci _<|this ▸ j;rw[a,Gi,zmd λx l=>by rw[g x l,n_]];simp
 let[n,h5,_]:=VH   l2 _;rw[h5];exact fz _ st
inductive HC(cs:yH):(Int->Bool)->wH->wH->Prop
 |nil {outs:zE}:HC cs outs [] []
 |cons {outs:zE} {k:Nat} {r row:wH} {c:Ch} (e:cs[k]? =some c) (h:HC cs (DF cs outs c.blk) ((k::r).filter λ(x:Nat)=> !DF cs outs c.blk x) row):HC cs outs (k::r) (c.blk::row)
abbrev GE(n:Nat)(outs R:zE):wH:=((ο n).filter λ(k:Nat)=> !outs k).filter λ(k:Nat)=>R k
def zmn(h:outs x=true):DF cs outs b x=true:=by unfold DF;rw[h,n_]
def zmo(cs:yH)(n:Nat)(outs R:zE)(b:Nat):(GE n outs R).filter (λ(x:Nat)=> !DF cs outs b x)=GE n (DF cs outs b) R:=by
 simp only[Bo];refine t_ λx z=>?_;cases h:outs x with
 |true=>rw[zmn h];simp
 |false=>cases R x<;>simp
def zmp(n:Nat)(outs R:zE):(GE n outs R).Pairwise (· <·):=(ip.filter _).filter _
def VP:k∈GE n outs R↔k<n/\outs k=false/\R k=true:=by
 simp only[di,ao];constructor;intro[[h1,h2],h3];exact{h1,by simpa using h2,h3};intro[h1,h2,h3];exact{{h1,by rw[h2];rfl},h3}
def zmq{cs:yH}{outs R:zE}{k:Nat}{r:wH}{c:Ch}(j:∀ (k:Nat) (c:Ch),cs[k]? =some c->∀ x∈c.nd,0<=x/\x<k)(up:∀ (k:Nat) (c:Ch),cs[k]? =some c->outs k=false->R k=true->∀ y∈c.nd,R y=true)(e:GE cs.length outs R=k::r)(b:cs[k]? =some c):DF cs outs c.blk k=true:=by
 have d:=VP.mp (show k∈GE _ _ R by rw[e];exact χ ..);refine zmm b d.2.1 λx g=>?_;let[h1,h2]:=j k c b x g;cases l:outs x with
 |true=>rfl
 |false =>
  obtain⟨y,rfl⟩:∃ y:Nat,x=y:={x.toNat,by lia}
  have a:=zmp cs.length outs R
  have i:y∈GE cs.length _ R:=VP.mpr {by omega,l,up k c b d.2.1 d.2.2 y g};rw[e]at i a;let h||h:=af.mp i
  omega
  have:=(gb.mp a).1 y h;omega
def zmr{l:wH}{p:yF}(h:k∈l)(a:p k=false):(l.filter p).length<l.length:=(List.length_filter_lt_length_iff_exists  ).mpr {k,h,by rw[a];exact ay}
theorem vE:∀ {l m:yG},l.Pairwise (· <·)->m.Pairwise (· <·)->(∀ x,x∈l↔x∈m)->l=m
 | [],[],_,_,_=>rfl
 | [],y::_,_,_,h=>absurd ((h y).mpr (by simp)) (by simp)
 |x::_,[],_,_,h=>absurd ((h x).mp (by simp)) (by simp)
 | x::l,y::m,d,g,h=>by
  let[b,l2]:=gb.mp d;let[c,i]:=gb.mp g
  have j:x=y:=by
   rcases af.mp ((h x).mp (by simp))with e|e
   ·exact e
   ·rcases af.mp ((h y).mpr (by simp))with a|a
    ·exact a.symm
    ·have:=c x e;have:=b y a;omega
  subst j
  congr 1
  refine vE l2 i λz=>{λhz=>?_,λhz=>?_}
  ·have:=b z hz;exact(af.mp<|(h z).mp (τ _ hz)).resolve_left (by omega)
  ·have:=c z hz;exact(af.mp<|(h z).mpr (τ _ hz)).resolve_left (by omega)
structure EG(K:W.Frag)(a:Ad):Prop where
 cl:Cls K (a "Layout")
 n1:NoAttr K (a "Layout") "name_blocks"
 n2:NoAttr K (a "Layout") "record_blocks"
 n3:NoAttr K (a "Layout") "piece_blocks"
 n4:NoAttr K (a "Layout") "width"
section
variable{n r c w:Int}
def lf(n r c w:Int):cC:=[("name_blocks",.int n),("record_blocks",.int r),("piece_blocks",.int c),("width",.int w)]
def VQ:(lf n r c w).lookup ("name_blocks":Str)=some (V.int n):=by simp[lf]
def RX:(lf n r c w).lookup ("record_blocks":Str)=some (V.int r):=by
 simp[lf,au,BB (a:="record_blocks") (b:="name_blocks") (by decide)]
def ZY:(lf n r c w).lookup ("piece_blocks":Str)=some (V.int c):=by
 simp[lf,au,BB (a:="piece_blocks") (b:="name_blocks") (by decide),BB (a:="piece_blocks") (b:="record_blocks") (by decide)]
def OW:(lf n r c w).lookup ("width":Str)=some (V.int w):=by
 simp[lf,au,BB (a:="width") (b:="name_blocks") (by decide),BB (a:="width") (b:="record_blocks") (by decide),BB (a:="width") (b:="piece_blocks") (by decide)]
def B0(h:(D9 x "name_blocks" || D9 x "record_blocks" || D9 x "piece_blocks" || D9 x "width")=false:=by decide +kernel):(lf n r c w).lookup x=none:=by
 simp only[ff]at h;let[[[h1,h2],h3],h4]:=h;simp[lf,au,BB h1,BB h2,BB h3,BB h4]
end
structure LayAt(a:Ad)(H:Hp)(p:Addr)(n r c w:Nat):Prop where
 ob:∃ dx,H p=some (.ins (a "Layout") dx (lf n r c w))
 hn:n<=100
 hr:r<=100
 hc:c<=100
 h1:1<=w
 hw:w<=100
def LayAt.same(L:LayAt a H p n r c w)(s:Same H H'):LayAt a H' p n r c w:=by
 let[[b,e],d,g,i,j,l]:=L;exact{{b,s _ _ e},d,g,i,j,l}
def LayAt.sb(L:LayAt a H p n r c w)(s:SameBut F H H')(f:¬ F p):LayAt a H' p n r c w:=by
 let[[b,e],d,g,i,j,l]:=L;exact{{b,s _ _ e f},d,g,i,j,l}
example:(ZZ):=∃ (p b:Addr) (n r c w:Nat),vs=[.ref p,.int n,.int r,.int c,.int w]/\EG K a/\H p=some (.ins (a "Layout") b [])/\n<=100/\r<=100/\c<=100/\1<=w/\w<=100 ∧
 ∀ H',LayAt a H' p n r c w->SameBut (· =p) H H'->Q .non H'
def HD(x y:Int)(Q:VK)(H:Hp):Prop:=∀ t,H t=none->Q (.ref t) (upd H t<|.tup [.int x,.int y])
example:(NJ):=∃ (p:Addr) (n r c w k:Nat) (b:Int),vs=[.ref p,.int b,.int k]/\EG K a/\LayAt a H p n r c w/\HD (b+k/w) (k%w) Q H
example:(K2):=∃ (p:Addr) (n r c w k:Nat),vs=[.ref p,.int k]/\EG K a/\LayAt a H p n r c w/\HD (0+k/w) (k%w) Q H
example:(HW):=∃ (p:Addr) (n r c w k:Nat),vs=[.ref p,.int k]/\EG K a/\LayAt a H p n r c w/\HD (n+k/w) (k%w) Q H
example:(NK):=∃ (p:Addr) (n r c w k:Nat),vs=[.ref p,.int k]/\EG K a/\LayAt a H p n r c w/\HD (n+r+k/w) (k%w) Q H
example:(K3):=∃ (p:Addr) (n r c w k:Nat),vs=[.ref p,.int k]/\EG K a/\LayAt a H p n r c w/\HD (n+r+c+k/w) (k%w) Q H
example:(K4):=∃ (p:Addr) (n r c w k:Nat),vs=[.ref p,.int k]/\EG K a/\LayAt a H p n r c w/\HD (n+r+c+r+k/w) (k%w) Q H
example:(RY):=∃ (p:Addr) (n r c w:Nat),vs=[.ref p]/\EG K a/\LayAt a H p n r c w/\Q (.int<|n+r+c) H
example:(RZ):=∃ (p:Addr) (n r c w:Nat),vs=[.ref p]/\EG K a/\LayAt a H p n r c w/\Q (.int<|n+r+c+r+c) H
example:(NL):=∃ (p:Addr) (n r c w:Nat),vs=[.ref p]/\EG K a/\LayAt a H p n r c w/\∀ t,H t=none->Q (.ref t) (upd H t<|.tup [.int (n*w),.int<|r*w,.int<|c*w])
example:(VR):=∃ (p:Addr) (n r c w:Nat),vs=[.ref p]/\EG K a/\D0 K a/\LayAt a H p n r c w /\
 ∀ x b H',H x=none->H b=none->PlankAt a H' x b w (az (n+r+c+r+c) (az w .non)) 0->Same H H'->Q (.ref x) H'
inductive CV where
 |no
 |nm (z:Str) (k:Nat)
 |mk (i:Nat)
 |rc (m:Nat) (ps:wH)
 |tx (z:Str)
abbrev Md:=Nat->Nat->CV
def Md.put(M:Md)(kind k:Nat)(x:CV):Md:=λi j=>if i=kind/\j=k then x else M i j
structure AC where
 kind:Nat
 k:Nat
 x:CV
 nd:wH
abbrev _root_.zH:=List AC
def sh(M0:Md)(C:yF):zH->Md
 | []=>M0
 |a::r=>if C r.length then(sh M0 C r).put a.kind a.k a.x else sh M0 C r
abbrev hnd(M0:Md)(as:zH):Md:=sh M0 (λ_=>true) as
def IT(kind k:Nat):zH->Option Nat
 | []=>none
 |a::r=>if a.kind=kind/\a.k=k then some r.length else IT kind k r
def GT(C:yF):zH->Prop
 | []=>True
 |a::r=>GT C r/\(C r.length=true->(∀ y∈a.nd,C y=true)/\∀ j,IT a.kind a.k r=some j->C j=true)
section
variable{M0 S:Md}{C:yF}{as:zH}{kind k m0:Nat}{x:CV}
def CY:S.put kind k x kind k=x:=if_pos ⟨rfl,rfl⟩
def NM(h:i≠kind):S.put kind k x i j=S i j:=if_neg λz=>h z.1
def D1(h:j≠k):S.put kind k x i j=S i j:=if_neg λz=>h z.2
def zms(h:∀ j,IT kind k as=some j->C j=true):sh M0 C as kind k=hnd M0 as kind k:=by
 induction as with
 |nil=>rfl
 |cons a r d =>
  unfold IT at h;simp only[sh,if_true];by_cases e:a.kind=kind/\a.k=k;rw[if_pos e]at h;let[rfl,rfl]:=e;rw[h _ rfl];simp only[if_true];rw[CY,CY];rw[if_neg e]at h
  have:=d h
  have b:¬ (kind=a.kind/\k=a.k):=λz=>e ⟨z.1.symm,z.2.symm⟩;unfold Md.put;rw[if_neg b];by_cases c:C r.length=true;rw[if_pos c,if_neg b];exact this;rw[if_neg c];exact this
def K5(h:GT C (a::as))(c:C as.length=true):sh M0 C as a.kind a.k=hnd M0 as a.kind a.k:=zms (h.2 c).2
def IU:hnd M0 (a::as)=(hnd M0 as).put a.kind a.k a.x:=rfl
def C8(c:C as.length=true):sh M0 C (a::as)=(sh M0 C as).put a.kind a.k a.x:=if_pos c
def ET(c:¬ C as.length=true):sh M0 C (a::as)=sh M0 C as:=if_neg c
def GU:CV->Nat->Bool
 |.nm _ a,r=>a==r
 |_,_=>false
def ld(m0:Nat)(S:Md)(r:Nat):Nat:=(ο m0).countP λk=>GU (S 0 k) r
def zmt(h:kind≠0):ld m0 (S.put kind k x) r=ld m0 S r:=by
 unfold ld
 congr 1
 funext j;rw[NM h.symm]
def Z0:∀ {m0:Nat},k<m0->ld m0 (S.put 0 k x) r+(if GU (S 0 k) r then 1 else 0)=ld m0 S r+(if GU x r then 1 else 0):=by
 intro m0;unfold ld
 induction m0 with
 |zero=>intro h;exact nZ h
 |succ n b =>
  rw[bx,sx,sx];simp only[x_,Hu];by_cases e:k=n;subst e
  have:(ο k).countP (λj=>GU ((S.put 0 k x) 0 j) r)=(ο k).countP (λj=>GU _ r):=Es λj a=>by
   rw[D1 (bm<|ao.mp a)]
  rw[CY]
  lia
  rw[D1 (λz=>e z.symm)]
  lia
structure Snd(m0:Nat)(S:Md):Prop where
 nl:∀ k z r,k<m0->S 0 k=.nm z r->∃ m ps,S 3 r=.rc m ps
 ct:∀ r m ps,S 3 r=.rc m ps->ld m0 S r<=m
 mr:∀ r m ps,S 3 r=.rc m ps->S 1 r=.mk 1
 nd:∀ r m ps,S 3 r=.rc m ps->ps.Nodup
 pm:∀ r m ps,S 3 r=.rc m ps->∀ p∈ps,S 2 p=.mk 1/\∃ t,S 4 p=.tx t
 dj:∀ r r' m m' ps ps',r≠r'->S 3 r=.rc m ps->S 3 r'=.rc m' ps'->∀ p∈ps,p∉ps'
 un:∀ k k' z r r',k<m0->k'<m0->S 0 k=.nm z r->S 0 k'=.nm z r'->k=k'
def Snd.rmark(I:Snd m0 S)(h:i=1\/∀ m ps,S 3 r≠.rc m ps):Snd m0 (S.put 1 r<|.mk i):=by
 refine{I.nl,λa m ps e=>I.ct a m ps e,λa m ps e=>?_,I.nd,I.pm,I.dj,I.un};by_cases z:a=r;subst z;rw[CY];let h||h:=h
 rw[h];exact absurd e<|h m ps;rw[D1 z];exact I.mr a m ps e
def Snd.pmark(I:Snd m0 S)(h:i=1\/∀ r m ps,S 3 r=.rc m ps->p∉ps):Snd m0 (S.put 2 p<|.mk i):=by
 refine{I.nl,λa m ps e=>I.ct a m ps e,I.mr,I.nd,λa m ps e q b=>{?_,(I.pm a m ps e q b).2},I.dj,I.un};by_cases z:q=p;subst z;rw[CY];let h||h:=h
 rw[h];exact absurd b<|h a m ps e;rw[D1 z];exact(I.pm a m ps e q b).1
def Snd.text(I:Snd m0 S):Snd m0 (S.put 4 p<|.tx t):=by
 refine{I.nl,λa m ps e=>I.ct a m ps e,I.mr,I.nd,λa m ps e q b=>{(I.pm a m ps e q b).1,?_},I.dj,I.un};by_cases z:q=p;subst z;exact⟨t,CY⟩;rw[D1 z];exact(I.pm a m ps e q b).2
def Snd.gone(I:Snd m0 S)(b:k<m0):Snd m0 (S.put 0 k .no):=by
 have a:∀ {j z r},(S.put 0 k .no) 0 j=.nm z r->S 0 j=.nm z r:=λ{j z r} e=>by
  by_cases h:j=k;subst h;rw[CY]at e;cases e;rw[D1 h]at e;exact e
 refine{λj z r d e=>I.nl j z r d<|a e,λr m ps e=>?_,I.mr,I.nd,I.pm,I.dj,λj g z r i h h' e n=>I.un j g z r i h h' (a e) (a n)}
 have l:=Z0 (S:=S) (x:=.no) (r:=r) b
 have c:=I.ct r m ps e;rw[show GU .no r=false from rfl]at l;simp only[l8]at l
 lia
def Snd.fill(I:Snd m0 S)(g:k<m0)(h3:S 3 r=.rc m ps)(i:ld m0 S r+1<=m)(hz:∀ j n,j<m0->S 0 j≠.nm z n)(h0:∀ z r,S 0 k≠.nm z r):Snd m0 (S.put 0 k<|.nm z r):=by
 have a:∀ {j y q},(S.put 0 k<|.nm z r) 0 j=.nm y q->(j=k/\y=z/\q=r)\/(j≠k/\S 0 j=.nm y q):=λ{j y q} e=>by
  by_cases h:j=k;subst h;rw[CY]at e;cases e;exact .inl ⟨rfl,rfl,rfl⟩;rw[D1 h]at e;exact .inr ⟨h,e⟩
 refine{λj y q o e=>?_,λq c p e=>?_,I.mr,I.nd,I.pm,I.dj,λj s y q u h h' e v=>?_};let[_,_,rfl]||[_,e]:=a e
 exact x2 m ps h3;exact I.nl j y q o e
 have l:=Z0 (S:=S) (x:=.nm z r) (r:=q) g
 have e:S 3 q=.rc c _:=e;simp only[GU]at l;by_cases z:r=q;subst z;rw[e]at h3;cases h3;simp at l;exact l ▸ i;simp[z]at l;exact l ▸ (I.ct q c _ e);let[d,b,_]||[d,b]:=a e<;>let[f1,f2,_]||[f1,f2]:=a v
 rw[d,f1];subst b;exact absurd f2<|hz _ _ h';subst f2;exact absurd b<|hz _ _ h;exact I.un j s y q u h h' b f2
def Snd.recd(I:Snd m0 S)(o:ld m0 S r<=c)(s:S 1 r=.mk 1)(u:b.Nodup)(d:∀ p∈b,(S 2 p=.mk 1/\∃ t,S 4 p=.tx t)/\∀ q m ps,q≠r->S 3 q=.rc m ps->p∉ps):Snd m0 (S.put 3 r<|.rc c b):=by
 have a:∀ {q m ps},(S.put 3 r<|.rc c b) 3 q=.rc m ps->(q=r/\m=c/\ps=b)\/(q≠r/\S 3 q=.rc m ps):=λ{q m ps} e=>by
  by_cases h:q=r;subst h;rw[CY]at e;cases e;exact .inl ⟨rfl,rfl,rfl⟩;rw[D1 h]at e;exact .inr ⟨h,e⟩
 refine{λj z q v e=>?_,λq m ps e=>?_,λq m ps e=>?_,λq m ps e=>?_,λq m ps e p h=>?_,λq i m l ps w ne e A p h=>?_,I.un};by_cases h:q=r;subst h;exact x2 c _ CY;rw[D1 h];exact I.nl j z q v e;let[rfl,rfl,_]||[_,e]:=a e
 exact o;exact I.ct q m ps e;let[rfl,_,_]||[_,e]:=a e
 exact s;exact I.mr q m ps e;let[_,_,rfl]||[_,e]:=a e
 exact u;exact I.nd q m ps e;let[_,_,rfl]||[_,e]:=a e
 exact(d p h).1;exact I.pm q m ps e p h;let[g,_,rfl]||[g,n]:=a e<;>let[f1,_,rfl]||[f1,f2]:=a A
 exact absurd (g.trans f1.symm) ne;exact(d p h).2 i l _ (λz=>ne<|g.trans z.symm) f2;exact λz=>(d p z).2 q m ps (λy=>ne<|y.trans f1.symm) n h;exact I.dj q i m l ps _ ne n f2 p h
def Snd.count(I:Snd m0 S)(h3:S 3 r=.rc m ps)(b:ld m0 S r<=c):Snd m0 (S.put 3 r<|.rc c ps) :=
 I.recd b (I.mr r m ps h3) (I.nd r m ps h3) λp a=>{I.pm r m ps h3 p a,λq d g ne e=>I.dj r q m d ps _ ne.symm h3 e p a}
def Snd.less(I:Snd m0 S)(h3:S 3 r=.rc m ps)(hs:a.Sublist ps):Snd m0 (S.put 3 r<|.rc m a) :=
 I.recd (I.ct r m ps h3) (I.mr r m ps h3) ((I.nd r m ps h3).sublist hs) λp b=>{I.pm r m ps h3 p<|hs.subset b,λq c d ne e=>I.dj r q m c ps _ ne.symm h3 e p<|hs.subset b}
def Snd.more(I:Snd m0 S)(h3:S 3 r=.rc m ps)(h2:S 2 p=.mk 1)(h4:S 4 p=.tx t)(d:∀ q m ps,S 3 q=.rc m ps->p∉ps):Snd m0 (S.put 3 r<|.rc m<|ps++[p]):=by
 refine I.recd (I.ct r m ps h3) (I.mr r m ps h3) (mz.mpr {I.nd r m ps h3,by simp,λx g y a e=>?_}) λy a=>?_;rw[aa]at a;subst a e;exact d r m ps h3 g;let a||a:=bh.mp a
 exact{I.pm r m ps h3 y a,λq b c ne e=>I.dj r q m b ps _ ne.symm h3 e y a};rw[aa.mp a];exact{⟨h2,t,h4⟩,λq b c z e=>d q b _ e}
def Snd.drop(I:Snd m0 S)(c:ld m0 S r=0):Snd m0 (S.put 3 r .no):=by
 have a:∀ {q m ps},(S.put 3 r .no) 3 q=.rc m ps->S 3 q=.rc m ps:=λ{q m ps} e=>by
  by_cases h:q=r;subst h;rw[CY]at e;cases e;rw[D1 h]at e;exact e
 refine{λj z q b e=>?_,λq m ps e=>(I.ct q m ps<|a e),λq m ps e=>I.mr q m ps<|a e,λq m ps e=>I.nd q m ps<|a e,λq m ps e=>I.pm q m ps<|a e,λq d m g ps i ne e l=>I.dj q d m g ps _ ne (a e) (a l),I.un};by_cases h:q=r;subst h
 have:0<ld m0 S q:=vc.mpr {j,ao.mpr b,by have e:S 0 j=.nm z q:=e;simp[e,GU]};exact absurd (c ▸ this) (by decide);rw[D1 h];exact I.nl j z q b e
structure Hist(m0:Nat)(M0:Md)(as:zH)(t o:Str->Option Nat):Prop where
 sd:∀ C,GT C as->Snd m0 (sh M0 C as)
 k1:∀ z k r,k<m0->hnd M0 as 0 k=.nm z r->IT 0 k as=o z
 k2:∀ z,(∀ k r,k<m0->hnd M0 as 0 k≠.nm z r)->t z=o z
 k3:∀ C z,GT C as->(∀ j,o z=some j->C j=true)->∀ k r,k<m0->(sh M0 C as 0 k=.nm z r↔hnd M0 as 0 k=.nm z r)
theorem vF:∀ as:zH,GT (λ_=>true) as
 | []=>trivial
 |_::r=>{vF r,λ_=>{λ_ _=>rfl,λ_ _=>rfl}}
variable{t o:Str->Option Nat}
def Hist.now(I:Hist m0 M0 as t o):Snd m0 (hnd M0 as):=I.sd _<|vF as
def Hist.step(I:Hist m0 M0 as t o)(i:a.kind≠0)(h:∀ C,GT C (a::as)->C as.length=true->Snd m0 ((sh M0 C as).put a.kind a.k a.x)):Hist m0 M0 (a::as) t o:=by
 have j:∀ (C:yF) (k:Nat),sh M0 C _ 0 k=sh M0 C as 0 k:=λC k=>by
  by_cases c:C as.length=true;rw[C8 c,NM i.symm];rw[ET c]
 have g:∀ k:Nat,hnd M0 _ 0 k=hnd M0 as 0 k:=j _;refine{λC d=>?_,λz k r b e=>?_,λz e=>I.k2 z λk r b=>by rw[<-g];exact e k r b,λC z d l k r b=>?_};by_cases c:C as.length=true;rw[C8 c];exact h C d c;rw[ET c];exact I.sd C d.1;rw[g]at e;unfold IT;rw[if_neg λz=>i z.1];exact I.k1 z k r b e;rw[j,g];exact I.k3 C z d.1 l k r b
def EZ(f:Str->Option Nat)(z:Str)(j:Nat):Str->Option Nat:=λy=>if y=z then some j else f y
def Hist.fill(I:Hist m0 M0 as t o)(p:k<m0)(h0:hnd M0 as 0 k=.no)(hz:∀ j r,j<m0->hnd M0 as 0 j≠.nm z r)(s:∀ j,t z=some j->j∈nd)
  (h:∀ C,GT C ({0,k,.nm z r,nd}::as)->C as.length=true->∃ m ps,sh M0 C as 3 r=.rc m ps/\ld m0 (sh M0 C as) r+1<=m):Hist m0 M0 ({0,k,.nm z r,nd}::as) t (EZ o z as.length):=by
 have n:∀ {j y q},j<m0->hnd M0 as 0 j=.nm y q->j≠k/\y≠z:=λ{j y q} a e=>{λl=>(by rw[l,h0]at e;cases e),λl=>hz j q a<|l ▸ e}
 have free:∀ C,GT C ({0,k,.nm z r,nd}::as)->C _=true->sh M0 C as 0 k=.no/\∀ j q,j<m0->sh M0 C as 0 j≠.nm z q:=λC b c=>{by rw[K5  b c];exact h0,λj q a e=>(hz j q a ((I.k3 C z b.1 (λi u=>(b.2 c).1 i (s i (by rw[(I.k2 z hz),u]))) j q a).mp e))}
 refine{λC b=>?_,λy j q a e=>?_,λy e=>?_,λC y b g j q a=>?_};by_cases c:C as.length=true;refine u2 ?_<|h C b c;intro m ps [h3,v];let[f1,f2]:=free C b c;rw[C8 c];exact(I.sd C b.1).fill p h3 v f2 λz r e=>by rw[f1]at e;cases e
 rw[ET c];exact I.sd C b.1;rw[IU]at e;unfold IT;by_cases d:j=k;subst d;rw[CY]at e;cases e;rw[if_pos ⟨rfl,rfl⟩];exact(if_pos rfl).symm;rw[D1 d]at e;rw[if_neg λw=>d w.2.symm];unfold EZ;rw[if_neg (n a e).2];exact I.k1 y j q a e
 have A:y≠z:=λw=>by
  subst w;exact e k r p (by rw[IU,CY])
 unfold EZ;rw[if_neg A];refine I.k2 y λj q a l=>e j q a ?_;rw[IU,D1 (n a l).1];exact l;rw[IU];by_cases c:C as.length=true;let[f1,f2]:=free C b c;rw[C8 c];by_cases d:j=k;subst d;rw[CY,CY];rw[D1 d,D1 d];by_cases w:y=z;subst w;exact{λe=>absurd e<|f2 j q a,λe=>absurd e<|hz j q a};unfold EZ at g;rw[if_neg w]at g;exact I.k3 C y b.1 g j q a;rw[ET c];unfold EZ at g;by_cases w:y=z;subst w;rw[if_pos rfl]at g;exact absurd (g _ rfl) c;rw[if_neg w]at g
 have k3:=I.k3 C y b.1 g j q a;by_cases d:j=k;subst d;rw[CY];refine{λe=>?_,λe=>absurd (by cases e;rfl) w}
 have:=k3.mp e;rw[h0]at this;cases this;rw[D1 d];exact k3
def Hist.gone(I:Hist m0 M0 as t o)(i:k<m0)(h0:hnd M0 as 0 k=.nm z r):Hist m0 M0 ({0,k,.no,nd}::as) (EZ t z as.length) (EZ o z as.length):=by
 have un:=I.now.un
 have only:=λ{j q} b e=>un j k z q r b i e h0;refine{λC d=>?_,λy j q b e=>?_,λy e=>?_,λC y d g j q b=>?_};by_cases c:C as.length=true;rw[C8 c];exact(I.sd C d.1).gone i;rw[ET c];exact I.sd C d.1;rw[IU]at e;by_cases a:j=k;subst a;rw[CY]at e;cases e;rw[D1 a]at e;unfold IT EZ;rw[if_neg λw=>a w.2.symm,if_neg λw=>a<|only b (w ▸ e)];exact I.k1 y j q b e;unfold EZ;by_cases w:y=z;rw[if_pos w,if_pos w];rw[if_neg w,if_neg w];refine I.k2 y λj q b l=>e j q b ?_
 have:j≠k:=λa=>by rw[a,h0]at l;cases l;exact w rfl
 rw[IU,D1 this];exact l;rw[IU];unfold EZ at g;by_cases c:C as.length=true;rw[C8 c];by_cases a:j=k;subst a;rw[CY,CY];rw[D1 a,D1 a];by_cases w:y=z;subst w;exact{λe=>absurd ((I.sd C d.1).un j k y q r b i e (by rw[K5  d c];exact h0)) a,λe=>absurd (only b e) a};rw[if_neg w]at g;exact I.k3 C y d.1 g j q b;rw[ET c];by_cases w:y=z;subst w;rw[if_pos rfl]at g;exact absurd (g _ rfl) c;rw[if_neg w]at g
 have k3:=I.k3 C y d.1 g j q b;by_cases a:j=k;subst a;rw[CY];refine{λe=>?_,λe=>by cases e}
 have:=k3.mp e;rw[h0]at this;cases this;exact absurd rfl w;rw[D1 a];exact k3
def Snd.ld0(I:Snd m0 S)(h:∀ m ps,S 3 r≠.rc m ps):ld m0 S r=0:=by
 refine List.countP_eq_zero.mpr λk b e=>?_;cases a:S 0 k with
 |nm z q =>
  simp only[a,GU,beq_iff_eq]at e;subst e;refine u2 ?_<|I.nl k z q (ao.mp b) a;rintro m ps e;exact h m ps e
 |_=>simp[a,GU]at e
def Hist.make(I:Hist m0 M0 as t o)(i:k<m0)(h0:hnd M0 as 0 k=.no)(hz:∀ j r,j<m0->hnd M0 as 0 j≠.nm z r)(h1:hnd M0 as 1 r≠.mk 1)(l:as.length+1∈nd)(n:∀ j,t z=some j->j∈nd) :
  Hist m0 M0 ({0,k,.nm z r,nd}::{3,r,.rc 1 [],[as.length]}::{1,r,.mk 1,[]}::as) t (EZ o z<|as.length+2):=by
 have d:=I.step (a:={1,r,_,[]}) (by simp) λC b y=>(I.sd C b.1).rmark (.inl rfl)
 have no:∀ C,GT C ({3,r,.rc 1 [],[as.length]}::{1,r,_,[]}::as)->C _=true->ld m0 _ r=0:=λC b c=>by
  refine(d.sd C b.1).ld0 λm ps e=>?_;rw[K5  b c]at e;exact h1<|I.now.mr r m ps e
 have p:=d.step (a:={3,r,_,_}) (by simp) λC b c=>by
  refine(d.sd C b.1).recd (by rw[no C b c];decide) ?_ jn (by simp);rw[C8 ((b.2 c).1 _ (by simp)),CY]
 refine p.fill i (h0) (λj q s=>hz j q s) n λC b c=>?_
 have g:=(b.2 c).1 _ l;refine x2 1 [] {by rw[C8 g,CY],?_};rw[C8 g,zmt (by simp),no C b.1 g];exact π 1
def Hist.link(I:Hist m0 M0 as t o)(e:k<m0)(h0:hnd M0 as 0 k=.no)(hz:∀ j r,j<m0->hnd M0 as 0 j≠.nm z r)(h3:hnd M0 as 3 r=.rc m ps)(g:as.length∈nd)(i:∀ j,t z=some j->j∈nd) :
  Hist m0 M0 ({0,k,.nm z r,nd}::{3,r,.rc (m+1) ps,[]}::as) t (EZ o z<|as.length+1):=by
 have b:∀ C,GT C ({3,r,.rc (m+1) ps,[]}::as)->C _=true->sh M0 C as 3 r=.rc m ps:=λC a c=>by
  rw[K5  a c];exact h3
 refine(I.step  (by simp) λC a c=>(I.sd C a.1).count (b C a c) (ck<|(I.sd C a.1).ct r m ps (b C a c))).fill e (h0) (λj q l=>hz j q l) i λC a c=>?_
 have d:=(a.2 c).1 _ g;refine x2 _ ps {by rw[C8 d,CY],?_};rw[C8 d];exact xy<|(I.sd C a.1.1).ct r m ps (b C a.1 d)
def Hist.fewer(I:Hist m0 M0 as t o)(j:k<m0)(h0:hnd M0 as 0 k=.nm z r)(h3:hnd M0 as 3 r=.rc m ps)(n:b.kind=3/\b.k=r/\as.length∈b.nd)(a:GT C (b::{0,k,.no,nd}::as))(c:C (as.length+1)=true) :
  sh M0 C ({0,k,.no,nd}::as) 3 r=.rc m ps/\ld m0 (sh M0 C ({0,k,.no,nd}::as)) r+1<=m/\sh M0 C as 3 r=.rc m ps:=by
 let[p,q,s]:=n
 have d:=(a.2 c).1 _ s
 have g:sh M0 C ({0,k,.no,nd}::as) 3 r=.rc m ps:=by
  have:=K5 (M0:=M0) a c;rw[p,q]at this;rw[this];exact h3
 have i:sh M0 C as 3 r=.rc m ps:=by
  rw[C8 d]at g;exact g
 have u:sh M0 C as 0 k=.nm z r:=by rw[K5  a.1 d];exact h0
 have l:=Z0 (S:=sh M0 C as) (x:=.no) (r:=r) j;refine{g,?_,i};rw[u,show GU _ r=true from by simp[GU]]at l
 have e:ld m0 (sh M0 C ({0,k,.no,nd}::as)) r=ld m0 ((sh M0 C as).put 0 k .no) r:=by rw[C8 d]
 exact e ▸ l ▸ ((I.sd C a.1.1).ct r m ps i)
def Hist.unlead(I:Hist m0 M0 as t o)(a:k<m0)(h0:hnd M0 as 0 k=.nm z r)(h3:hnd M0 as 3 r=.rc (m+1) ps) :
  Hist m0 M0 ({3,r,.rc m ps,[as.length]}::{0,k,.no,nd}::as) (EZ t z as.length) (EZ o z as.length):=by
 have b:=I.gone (nd:=nd) a h0;exact b.step  (by simp) λC d c=>by
  let[e,g,y]:=I.fewer a h0 h3 {rfl,rfl,by simp} d c;exact(b.sd C d.1).count e (yn g)
theorem Hist.unmark:∀ {ps:wH} {bs:zH},Hist m0 M0 bs t o->(∀ C,GT C bs->C d=true->∀ q m b,sh M0 C bs 3 q=.rc m b->∀ p∈ps,p∉b)->Hist m0 M0 ((ps.map λp=>({2,p,.mk 0,[d]}:AC)).reverse++bs) t o
 | [],bs,I,_=>I
 | p::ps,bs,I,h=>by
  have:=Hist.unmark  (I.step (a:={2,p,.mk 0,[d]}) (by simp) λC g c=>(I.sd C g.1).pmark (.inr λr m b e=>h C g.1 ((g.2 c).1 d (by simp)) r m _ e p χ)) λC g j q m b e l i=>by
   have n:sh M0 C bs 3 q=.rc m b:=by
    by_cases c:C bs.length=true;rw[C8 c]at e;exact e;rw[ET c]at e;exact e
   exact h C g.1 j q m _ n l<|τ _ i
  rw[bu,na,dk];exact this
def zmu(h:∀ a∈cs,a.kind≠i):sh M0 C (cs++as) i j=sh M0 C as i j:=by
 induction cs with
 |nil=>rfl
 |cons a r d =>
  have d:=d λb e=>h b<|τ _ e;rw[oa];by_cases c:C (r++as).length=true;rw[C8 c,NM (h a χ).symm];exact d;rw[ET c];exact d
def Hist.dropped(I:Hist m0 M0 as t o)(d:k<m0)(h0:hnd M0 as 0 k=.nm z r)(h3:hnd M0 as 3 r=.rc m ps)(s:m<=1) :
  Hist m0 M0 ({1,r,.mk 0,[as.length+1]}::((ps.map λp=>({2,p,.mk 0,[as.length+1]}:AC)).reverse++{3,r,.no,[as.length]}::{0,k,.no,nd}::as)) (EZ t z as.length) (EZ o z as.length):=by
 have j:=I.gone (nd:=nd) d h0
 have u:=j.step (a:={3,r,_,[as.length]}) (by simp) λC b c=>by
  let[D,v,x]:=I.fewer d h0 h3 {rfl,rfl,by simp} b c;exact(j.sd C b.1).drop (Nat.le_zero.mp<|yn<|υ v s)
 have l:=Hist.unmark   u λC b g q n i e p w=>by
  let[x,x,A]:=I.fewer d h0 h3 {rfl,rfl,by simp} b g;rw[C8 g]at e;by_cases z:q=r;subst z;rw[CY]at e;cases e;rw[D1 z,C8 ((b.2 g).1 _ (by simp))]at e;exact(I.sd C b.1.1).dj r q m n ps _ (λy=>z y.symm) A e p w
 refine l.step  (by simp) λC b c=>(l.sd C b.1).rmark (.inr λn i e=>?_);rw[zmu (λa B=>by
  let[p,x,rfl]:=a_.mp<|Gn.mp B;simp),C8 ((b.2 c).1 _ (by simp)),CY]at e
 cases e
def Hist.put(I:Hist m0 M0 as t o){r m p:Nat}{ps:wH}{x:Str}(h2:hnd M0 as 2 p≠.mk 1)(h3:hnd M0 as 3 r=.rc m ps) :
  Hist m0 M0 ({3,r,.rc m<|ps++[p],[as.length+1]}::{4,p,.tx x,[as.length]}::{2,p,.mk 1,[]}::as) t o:=by
 have i:=I.step (a:={2,p,_,[]}) (by simp) λC b z=>(I.sd C b.1).pmark (.inl rfl)
 have j:=i.step (a:={4,p,.tx x,[as.length]}) (by simp) λC b z=>(i.sd C b.1).text;refine j.step  (by simp) λC b c=>?_
 have d:C (as.length+1)=true:=(b.2 c).1 _ (by simp)
 have g:C as.length=true:=(b.1.2 d).1 _ (by simp);refine(j.sd C b.1).more  ?_ ?_ (by rw[C8 d,CY]) λq l n e s=>?_;rw[K5  b c];exact h3;rw[C8 d,NM (by simp),C8 g,CY];rw[C8 d,C8 g]at e
 have:=((I.sd C b.1.1.1).pm q l _ e p s).1;rw[K5  b.1.1 g]at this;exact h2 this
def Hist.take(I:Hist m0 M0 as t o)(h3:hnd M0 as 3 r=.rc m ps)(b:ps[i]? =some p) :
  Hist m0 M0 ({2,p,.mk 0,[as.length]}::{3,r,.rc m<|ps.eraseIdx i,[]}::as) t o:=by
 have d:∀ C,GT C ({3,r,.rc m<|ps.eraseIdx i,[]}::as)->C _=true->sh M0 C as 3 r=.rc m ps:=λC a c=>by
  rw[K5  a c];exact h3
 have g:=I.step  (by simp) λC a c=>(I.sd C a.1).less (d C a c) (List.eraseIdx_sublist ..);refine g.step  (by simp) λC a c=>(g.sd C a.1).pmark (.inr λq s u e=>?_)
 have l:C as.length=true:=(a.2 c).1 _ (by simp)
 have n:=d C a.1 l;rw[C8 l]at e;by_cases z:q=r;subst z;rw[CY]at e;cases e;exact λh=>by
  let[j,v,w]:=List.mem_eraseIdx_iff_getElem?.mp h;exact v ((List.getElem?_inj ((η.mp b).1) ((I.sd C a.1.1).nd q m ps n)).mp (b.trans w.symm)).symm
 rw[D1 z]at e;exact(I.sd C a.1.1).dj r q m s ps _ (λy=>z y.symm) n e p (θ b)
end
abbrev HX(a:Ad):Addr:=a "Hold"
def R0(ns:yG)(k:Nat):Int:=ns.getD k 0
example:(Z1):=∃ (s:Addr) (ns:yG) (k:Nat),vs=[.ref s,.int k]/\SqL K H s (ns.map V.int)/\ns.length<=1000/\Q (.int<|R0 ns k) H
abbrev TB(K:W.Frag)(a:Ad):Prop:=uU K (HX a) (a "Change")
abbrev EA(a:Ad)(H:Hp)(A:BA)(w:Nat)(rows:yD)(n:Nat)(cs:yH)(outs:zE):Prop:=BookAt a (HX a) H A w rows n cs outs
def VS:Option Nat->V
 |none=>.non
 |some k=>.int k
def FX(n:Nat)(outs:zE):wH:=(ο n).filter λ(k:Nat)=> !outs k
def AS(l:wH):eI:=l.map λ(k:Nat)=>V.int k
abbrev onPl(rows:yD)(w:Nat)(i j:Int):Prop:=0<=i/\i<rows.length/\0<=j/\j<w
example:(Z2):=∃ x b c v d,vs=[.ref x,.ref c,v,.ref d]/\TB K a/\H x=some (.ins (a "Change") b [])/\Q .non (upd H x<|.ins (a "Change") b (GD c v d))
example:(VT):=∃ (b c d j:Addr) (w:Nat) (rows:yD) (n:Nat),vs=[.ref b,.ref c]/\TB K a/\D0 K a/\PlankAt a H c d w rows n/\H b=some (.ins (HX a) j []) /\
 ∀ (m e lt g:Addr) (i:eF) (H':Hp),H m=none->H e=none->H lt=none->H g=none->(∀ l∈i,H l=none)->EA a H' ⟨b,c,m,e,lt,g,i,d⟩ w rows n [] (λ_=>false)->SameBut (· =b) H H'->Q .non H'
example:(Z3):=∃ (nl:Addr) (ns:yG) (o:Option Nat),vs=[.ref nl,VS o]/\SqL K H nl (ns.map V.int)/\ns.length<=60 /\
 ∀ (t:Addr) (a:yG) (H':Hp),Same H H'->H' t=some (.tup<|a.map V.int)->a.Pairwise (· <·)->(∀ x,x∈a↔x∈ns\/∃ k:Nat,o=some k/\x=k)->a.length<=ns.length+1->Q (.ref t) H'
example:(Z4):=∃ (A:BA) (w:Nat) (rows:yD) (n:Nat) (cs:yH) (outs:zE) (b:Addr) (i j:Int),vs=[.ref A.b,.ref b]/\TB K a/\D0 K a/\EA a H A w rows n cs outs/\H b=some (.tup [.int i,.int j]) /\
 (onPl rows w i j->Q .non H)/\(¬ onPl rows w i j->E (.ref<|a "NoBlock") none H)
example:(R1):=∃ (A:BA) (w:Nat) (rows:yD) (n:Nat) (cs:yH) (outs:zE) (b:Addr) (i j:Int),vs=[.ref A.b,.ref b]/\TB K a/\D0 K a/\EA a H A w rows n cs outs/\H b=some (.tup [.int i,.int j]) /\
 (onPl rows w i j->Q (VS<|D8 cs i j) H)/\(¬ onPl rows w i j->E (.ref<|a "NoBlock") none H)
abbrev known(cs:yH)(x:Int):Prop:=0<=x/\x<cs.length
example:(VU):=∃ (A:BA) (w:Nat) (rows:yD) (n:Nat) (cs:yH) (outs:zE) (nl:Addr) (ns:yG),vs=[.ref A.b,.ref nl]/\TB K a/\EA a H A w rows n cs outs/\SqL K H nl (ns.map V.int) /\
 ((∀ x∈ns,known cs x)->Q .non H)/\((∃ x∈ns,¬ known cs x)->E (.ref<|a "NoChange") none H)
example:(GW):=∃ (A:BA) (w:Nat) (rows:yD) (n:Nat) (cs:yH) (outs:zE) (b nl:Addr) (v:V) (ns:yG) (i j:Int),vs=[.ref A.b,.ref b,v,.ref nl]/\TB K a/\D0 K a/\EA a H A w rows n cs outs/\H b=some (.tup [.int i,.int j])/\SqL K H nl (ns.map V.int)/\ns.length<=60/\cs.length<990 /\
 (onPl rows w i j->(∀ x∈ns,known cs x)->∀ (nd:yG) (H':Hp),nd.Pairwise (· <·)->(∀ x,x∈nd↔x∈ns\/∃ k:Nat,D8 cs i j=some k/\x=k)->EA a H' A w rows n (cs++[⟨i.toNat,j.toNat,v,nd⟩]) outs->SameBut A.F H H'->Q (.int cs.length) H') /\
 (¬ onPl rows w i j->E (.ref<|a "NoBlock") none H)/\(onPl rows w i j->(∃ x∈ns,¬ known cs x)->E (.ref<|a "NoChange") none H)
example:(VW):=∃ (A:BA) (w:Nat) (rows:yD) (n:Nat) (cs:yH) (outs:zE),vs=[.ref A.b]/\TB K a/\EA a H A w rows n cs outs /\
 ∀ (l:Addr) (H':Hp),H l=none->Same H H'->H' l=some (.lst<|AS<|FX cs.length outs)->Q (.ref l) H'
example:(Z5):=∃ (A:BA) (w:Nat) (rows:yD) (n:Nat) (cs:yH) (outs:zE) (nl:Addr) (ns:yG),vs=[.ref A.b,.ref nl]/\TB K a/\EA a H A w rows n cs outs/\SqL K H nl (ns.map V.int)/\ns.length<=1000 /\
  ((∀ x∈ns,known cs x)->∀ (l:Addr) (H':Hp) (R:zE),(∀ x∈ns,R x=true)->(∀ (k:Nat) (c:Ch),cs[k]? =some c->outs k=false->R k=true->∀ y∈c.nd,R y=true)->(∀ x,R x=true->x∈ns\/∃ (k:Nat) (c:Ch),cs[k]? =some c/\outs k=false/\R k=true/\x∈c.nd) ->
    H l=none->Same H H'->H' l=some (.lst<|AS<|(FX cs.length outs).filter λ(k:Nat)=>R k)->Q (.ref l) H') /\
  ((∃ x∈ns,¬ known cs x)->E (.ref<|a "NoChange") none H)
def E3(cs:yH)(rows:yD)(i j:Int):Option V:=match D8 cs i j with
 |some k=>(cs[k]?).map (·.val)
 |none=>(rows[i.toNat]?).bind λr=>r[j.toNat]?
example:(OX):=∃ (A:BA) (w:Nat) (rows:yD) (n:Nat) (cs:yH) (outs:zE) (b:Addr) (i j:Int),vs=[.ref A.b,.ref b]/\TB K a/\D0 K a/\EA a H A w rows n cs outs/\H b=some (.tup [.int i,.int j]) /\
 (onPl rows w i j->∀ (v:V) (H':Hp),E3 cs rows i j=some v->Same H H'->Q v H')/\(¬ onPl rows w i j->E (.ref<|a "NoBlock") none H)
def Z6:Option Int->V
 |none=>.non
 |some k=>.int k
abbrev CB(kvs:cD)(x:Int):Bool:=(BF kvs<|.inl x).isSome
example:(Z7):=∃ (A:BA) (w:Nat) (rows:yD) (n:Nat) (cs:yH) (outs:zE) (k:Nat) (c:Ch) (g:Addr) (b:cD),vs=[.ref A.b,.int k,.ref g]/\TB K a/\EA a H A w rows n cs outs/\cs[k]? =some c/\H g=some (.dK b) /\
 Q (Z6 (IS c.nd λx=>outs x||CB b x)) H
example:(VX):=∃ (A:BA) (w:Nat) (rows:yD) (n:Nat) (cs:yH) (outs:zE) (b:Nat) (tk:Addr) (c:cD),vs=[.ref A.b,.int b,.ref tk]/\TB K a/\EA a H A w rows n cs outs/\b<rows.length/\H tk=some (.dK c)/\c.length<=1000 /\
 ∀ (t ol d:Addr) (H':Hp),H ol=none->H d=none->ol≠d->Same H H'->VL H' t ol d (outcome cs outs (CB c) b).out (outcome cs outs (CB c) b).held->Q (.ref t) H'
example:(Z8):=∃ (A:BA) (w:Nat) (rows:yD) (n:Nat) (cs:yH) (outs:zE) (b:Nat) (c:Addr) (row:eI),vs=[.ref A.b,.ref c,.int b]/\TB K a/\EA a H A w rows n cs outs/\b<rows.length/\H c=some (.lst row)/\row.length=w /\
 ∀ (l:Addr) (H':Hp),H l=none->Same H H'->H' l=some (.lst<|EY cs outs b row)->Q (.ref l) H'
example:(Z9):=∃ (A:BA) (w:Nat) (rows:yD) (n:Nat) (cs:yH) (outs:zE) (b:Int),vs=[.ref A.b,.int b]/\TB K a/\D0 K a/\EA a H A w rows n cs outs /\
 (∀ (c:Nat) (row:eI) (t ol d:Addr) (H':Hp),b=c->rows[c]? =some row->H ol=none->H d=none->ol≠d->VL H' t ol d (outcome cs outs (λ_=>false) c).out (outcome cs outs (λ_=>false) c).held ->
  EA a H' A w (rows.set c<|EY cs (DF cs outs c) c row) (n+1) cs (DF cs outs c)->SameBut (λx=>A.F x\/x=A.gp) H H'->Q (.ref t) H') /\
 (b<0\/rows.length<=b->E (.ref<|a "NoBlock") none H)
example:(aA):=∃ (A:BA) (w:Nat) (rows:yD) (n:Nat) (cs:yH) (outs:zE) (k:Nat) (c:Ch),vs=[.ref A.b,.int k]/\TB K a/\EA a H A w rows n cs outs/\cs[k]? =some c/\Q (.int c.blk) H
example:(aB):=∃ (A:BA) (w:Nat) (rows:yD) (n:Nat) (cs:yH) (outs:zE) (nl:Addr) (ns:yG),vs=[.ref A.b,.ref nl]/\TB K a/\EA a H A w rows n cs outs/\SqL K H nl (ns.map V.int)/\ns.length<=1000 /\
 ((∀ x∈ns,known cs x)->∀ (l:Addr) (row:wH) (R:zE) (H':Hp),JR cs outs ns R->HC cs outs (GE cs.length outs R) row->row.length<=cs.length->H l=none->Same H H'->H' l=some (.lst<|AS row)->Q (.ref l) H') /\
 ((∃ x∈ns,¬ known cs x)->∀ H',Same H H'->E (.ref<|a "NoChange") none H')
def GoodV:Nat->Hp->V->Prop
 |0,_,_=>False
 |_+1,_,.int _=>True
 |_+1,_,.non=>True
 |_+1,_,.str z=>dn z=true
 |n+1,H,.ref p=>∃ xs,H p=some (.tup xs)/\xs.length<=100/\∀ v∈xs,GoodV n H v
 |_,_,_=>False
def VY(v:V):Prop:=v=.non\/∃ i,v=.int i
def BM(n r c w kind k:Nat):Nat:=(if kind=0 then 0 else if kind=1 then n+r+c else if kind=2 then n+r+c+r else if kind=3 then n else n+r)+k/w
def BQ(n r c w kind:Nat):Nat:=(if kind=0 then n else if kind=1 then r else if kind=2 then c else if kind=3 then r else c)*w
def MC(kind:Nat)(v:V):Bool:=decide (v=.non)||(decide (0<kind)&&decide (v=.int 0))
def E4(f:yF)(m:Nat):Int:=match (ο m).find? f with
 |some k=>k
 |none=> -1
def R3(H:Hp)(rows:yD):Prop:=∀ r∈rows,∀ v∈r,GoodV 4 H v
def goodH(H:Hp)(cs:yH)(rows:yD):Prop:=R3 H rows/\∀ c∈cs,GoodV 4 H c.val
def NN(cs:yH)(rows:yD)(n r c w kind:Nat)(k:Nat):Bool:=match E3 cs rows (BM n r c w kind k:Nat) (k%w:Nat)with
 |some v=>MC kind v
 |none=>false
example:(OY):=∃ (A:BA) (w:Nat) (rows:yD) (n:Nat) (cs:yH) (outs:zE) (c d:Addr) (b:eF) (xs:eI) (f:yF) (m:Nat),vs=[.ref A.b,.ref c,.ref d]/\TB K a/\D0 K a/\EA a H A w rows n cs outs/\H c=some (.lst<|b.map V.ref)/\b.length=m/\m<=1000/\H d=some (.tup xs)/\(∀ z∈xs,VY z) /\
 (∀ k t,b[k]? =some t->∃ i j v,H t=some (.tup [.int i,.int j])/\onPl rows w i j/\E3 cs rows i j=some v/\GoodV 4 H v/\f k=decide (v∈xs)) /\
 (∀ k:Nat,E4 f m=k->∀ H',Same H H'->Q (.int k) H')/\(E4 f m= -1->∀ H',Same H H'->E (.ref<|a "NoRoom") none H')
def VZ(kind:Nat)(K:W.Frag)(a:Ad)(p b:Addr)(H:Hp)(Q:VK)(E:XK):Prop:=∃ (A:BA) (n r c w:Nat) (rows:yD) (nn:Nat) (cs:yH) (outs:zE),b=A.b/\TB K a/\D0 K a/\EG K a/\LayAt a H p n r c w/\n<=6/\r<=6/\c<=6/\w<=6/\EA a H A w rows nn cs outs/\rows.length=n+r+c+r+c/\(∀ i j v,E3 cs rows i j=some v->GoodV 4 H v) /\
 (∀ k:Nat,E4 (NN cs rows n r c w kind) (BQ n r c w kind)=k->∀ H',Same H H'->Q (.int k) H')/\(E4 (NN cs rows n r c w kind) (BQ n r c w kind)= -1->∀ H',Same H H'->E (.ref<|a "NoRoom") none H')
example:(V0):=∃ p b,vs=[.ref p,.ref b]/\VZ 0 K a p b H Q E
example:(aC):=∃ p b,vs=[.ref p,.ref b]/\VZ 1 K a p b H Q E
example:(aD):=∃ p b,vs=[.ref p,.ref b]/\VZ 2 K a p b H Q E
def NO(c:Nat):Bool:=decide (32<=c)&&decide (c<=126)&&decide (c≠37)
def OZ(c:Nat):Bool:=decide (97<=c)&&decide (c<=122)
def BD(z:Str):Bool:=decide (1<=z.length)&&decide (z.length<=8)&&z.cps.toList.all OZ
def GY(z:Str):Bool:=decide (1<=z.length)&&decide (z.length<=40)&&z.cps.toList.all NO
example:(aE):=∃ c:Nat,vs=[.str {#[c]}]/\Q (.bl<|NO c) H
example:(aF):=∃ z:Str,vs=[.str z]/\z.length<=1000/\∀ H',Same H H'->Q (.bl<|BD z) H'
example:(aG):=∃ z:Str,vs=[.str z]/\z.length<=1000/\∀ H',Same H H'->Q (.bl<|GY z) H'
structure O0(K:W.Frag)(a:Ad):Prop where
 cl:Cls K (a "Store")
 n1:NoAttr K (a "Store") "plan"
 n2:NoAttr K (a "Store") "book"
 n3:NoAttr K (a "Store") "taken_out"
def sf(a b tk:Addr):cC:=[("plan",.ref a),("book",.ref b),("taken_out",.ref tk)]
structure SA where
 A:BA
 st:Addr
 lp:Addr
 tk:Addr
structure Hs where
 b:Md
 as:zH
abbrev Hs.f(M:Hs):Md:=hnd M.b M.as
instance:CoeFun Hs λ_=>Nat->Nat->CV:=⟨Hs.f⟩
def Hs.put(M:Hs)(kind k:Nat)(x:CV)(nd:wH):Hs:={M.b,⟨kind,k,x,nd⟩::M.as}
def Hs.put_at{M:Hs}:(M.put kind k x nd) i j=if i=kind/\j=k then x else M i j:=rfl
def RepC(H:Hp):CV->V->Prop
 |.no,v=>v=.non
 |.nm z k,v=>∃ t,v=.ref t/\H t=some (.tup [.str z,.int k])
 |.mk i,v=>v=.int i
 |.rc m ps,v=>∃ t u,v=.ref t/\H t=some (.tup [.int m,.ref u])/\H u=some (.tup<|AS ps)
 |.tx z,v=>v=.str z
def EB:Nat->CV->Prop
 |_,.no=>True
 |0,.nm _ _=>True
 |1,.mk i=>i<=1
 |2,.mk i=>i<=1
 |3,.rc _ _=>True
 |4,.tx _=>True
 |_,_=>False
inductive LaidA(n r c w:Nat)(H:Hp):yH->zH->Prop
 |nil:LaidA n r c w H [] []
 |snoc {cs:yH} {as:zH} {ch:Ch} {x:AC}:LaidA n r c w H cs as->ch.blk=BM n r c w x.kind x.k->ch.cell=x.k%w->RepC H x.x ch.val->(∀ y:Int,y∈ch.nd↔(∃ j∈x.nd,y=(j:Nat))\/∃ j:Nat,IT x.kind x.k as=some j/\y=j)->x.kind<5->x.k<BQ n r c w x.kind->LaidA n r c w H (cs++[ch]) (x::as)
structure SM(a:Ad)(H:Hp)(S:SA)(n r c w:Nat)(rows:yD)(nn:Nat)(cs:yH)(outs:zE)(tks:cD)(M:Hs):Prop where
 ob:∃ dx,H S.st=some (.ins (a "Store") dx (sf S.lp S.A.b S.tk))
 ly:LayAt a H S.lp n r c w
 bk:EA a H S.A w rows nn cs outs
 tk:H S.tk=some (.dK tks)
 tl:tks.length<=cs.length
 tv:∀ z v,BF tks (.inr z)=some v->∃ k:Nat,v=.int k/\k<cs.length
 ap:¬ S.A.F S.tk
 sz:n<=6/\r<=6/\c<=6/\w<=6/\rows.length=n+r+c+r+c
 gd:goodH H cs rows
 rp:∀ kind k v,kind<5->k<BQ n r c w kind->E3 cs rows (BM n r c w kind k:Nat) (k%w:Nat)=some v->RepC H (M kind k) v
 ok:∀ kind k,kind<5->k<BQ n r c w kind->EB kind (M kind k)
 la:LaidA n r c w H cs M.as
def E5(M:Hs)(k:Nat):Option (Str × Nat):=match M 0 k with
 |.nm z r=>some (z,r)
 |_=>none
def JT(M:Hs)(m:Nat):eG:=(ο m).filterMap λk=>(E5 M k).map (·.1)
def cellOf(M:Hs)(m:Nat)(z:Str):Option Nat:=(ο m).find? λk=>(E5 M k).any λp=>decide<|p.1=z
def HE(kind:Nat):CV->Bool
 |.no=>true
 |.mk i=>decide (0<kind)&&decide (i=0)
 |_=>false
def DU(M:Hs)(kind m:Nat):Int:=E4 (λk=>HE kind<|M kind k) m
abbrev CO(K:W.Frag)(a:Ad):Prop:=TB K a/\D0 K a/\EG K a/\O0 K a
abbrev vG(cs:yH)(i j:Int)(x:Int):Prop:=∃ k:Nat,D8 cs i j=some k/\x=k
structure SX where
 S:SA
 n:Nat
 r:Nat
 c:Nat
 w:Nat
 rows:yD
 nn:Nat
 outs:Int->Bool
abbrev SX.at(X:SX)(a:Ad)(H:Hp)(cs:yH)(b:cD)(M:Hs):Prop:=SM a H X.S X.n X.r X.c X.w X.rows X.nn cs X.outs b M
abbrev SX.m0(X:SX):Nat:=X.n*X.w
example:(O1):=∃ (x g b d e:Addr) (n r c w:Nat) (rows:yD) (nn:Nat) (M:Md),vs=[.ref x,.ref b,.ref d]/\CO K a/\H x=some (.ins (a "Store") g [])/\LayAt a H b n r c w/\PlankAt a H d e w rows nn/\(n<=6/\r<=6/\c<=6/\w<=6/\rows.length=n+r+c+r+c)/\R3 H rows/\(∀ kind k v,kind<5->k<BQ n r c w kind->E3 [] rows (BM n r c w kind k:Nat) (k%w:Nat)=some v->RepC H (M kind k) v)/\(∀ kind k,kind<5->k<BQ n r c w kind->EB kind (M kind k)) ∧
 ∀ (S:SA) (H':Hp),S.st=x->S.lp=b->S.A.gp=d->S.A.cl=e->(∀ y o,H y=some o->y=e\/¬ S.A.F y)->H S.tk=none->SM a H' S n r c w rows nn [] (λ_=>false) [] {M,[]}->SameBut (· =x) H H'->Q .non H'
example:(aH):=∃ (x c d b tk:Addr),vs=[.ref x]/\O0 K a/\H x=some (.ins (a "Store") c (sf d b tk))/\Q (.ref b) H
example:(aI):=∃ (x d c b tk:Addr),vs=[.ref x]/\O0 K a/\H x=some (.ins (a "Store") d (sf c b tk))/\Q (.ref c) H
example:(R4):=∃ (X:SX) (cs:yH) (b:cD) (M:Hs),vs=[.ref X.S.st]/\CO K a/\X.at a H cs b M /\
 ∀ (l:Addr) (xs:eI) (H':Hp),Same H H'->H' l=some (.lst xs)->xs.length=X.m0->(∀ k v,xs[k]? =some v->RepC H' (M 0 k) v)->Q (.ref l) H'
example:(O2):=∃ (X:SX) (cs:yH) (b:cD) (M:Hs),vs=[.ref X.S.st]/\CO K a/\X.at a H cs b M /\
 ∀ (l:Addr) (c:eG) (H':Hp),H l=none->Same H H'->H' l=some (.lst<|c.map V.str)->c.Perm (JT M X.m0)->z_ c=true->Q (.ref l) H'
example:(O3):=∃ (X:SX) (cs:yH) (b:cD) (M:Hs) (z:Str),vs=[.ref X.S.st,.str z]/\CO K a/\X.at a H cs b M/\∀ (H':Hp),Same H H'->Q (VS<|cellOf M X.m0 z) H'
example:(K6):=∃ (X:SX) (cs:yH) (b:cD) (M:Hs) (z:Str),vs=[.ref X.S.st,.str z]/\CO K a/\X.at a H cs b M /\
 (∀ cell k,cellOf M X.m0 z=some cell->cell<X.m0->M 0 cell=.nm z k->∀ H',Same H H'->Q (.int k) H')/\(cellOf M X.m0 z=none->∀ H',Same H H'->E (.ref<|a "NoName") none H')
example:(JU):=∃ (X:SX) (cs:yH) (c:cD) (M:Hs) (b:Nat),vs=[.ref X.S.st,.int b]/\CO K a/\X.at a H cs c M/\b<X.r*X.w/\∀ v H',RepC H' (M 3 b) v->Same H H'->Q v H'
example:(WA):=∃ (X:SX) (cs:yH) (b:cD) (M:Hs) (z:Str) (c:Addr) (zs:eG),vs=[.ref X.S.st,.str z,.ref c]/\CO K a/\X.at a H cs b M/\H c=some (.lst<|zs.map V.str)/\zs.length<=60/\(∀ y∈zs,y.length<=1000) /\
 (zs.all BD=true->cellOf M X.m0 z=none->∀ H',Same H H'->Q .non H')/\(zs.all BD=false->∀ H',Same H H'->E (.ref<|a "NoName") none H')/\(zs.all BD=true->(∃ k,cellOf M X.m0 z=some k)->∀ H',Same H H'->E (.ref<|a "Twice") none H')
def WB(X:SX)(a:Ad)(H:Hp)(cs:yH)(b:cD)(c:Hs)(Q:VK):Prop:=∀ (ch:Ch) (H':Hp),X.at a H' (cs++[ch]) b c->SameBut X.S.A.F H H'->Q (.int cs.length) H'
def EU(a:cD)(z:Str):wH:=match BF a (.inr z)with
 |some (.int k)=>[k.toNat]
 |_=>[]
abbrev MD(ns:yG):wH:=ns.map Int.toNat
example:(WC):=∃ (X:SX) (cs:yH) (b:cD) (M:Hs) (cell c need:Nat) (z:Str),vs=[.ref X.S.st,.int cell,.str z,.int c,.int need]/\CO K a/\X.at a H cs b M/\cell<X.m0/\need<cs.length/\cs.length<980/\dn z=true/\WB X a H cs b (M.put 0 cell (.nm z c) (need::EU b z)) Q
example:(R5):=∃ (X:SX) (cs:yH) (c:cD) (M:Hs) (b m d:Nat) (more:Int) (ps:wH) (nl:Addr) (ns:yG),vs=[.ref X.S.st,.int b,.int more,.ref nl]/\CO K a/\X.at a H cs c M/\b<X.r*X.w/\M 3 b=.rc m ps/\(m:Int)+more=d/\ps.length<=100/\H nl=some (.lst<|ns.map V.int)/\ns.length<=60/\(∀ x∈ns,known cs x)/\cs.length<980/\WB X a H cs c (M.put 3 b (.rc d ps) (MD ns)) Q
example:(WD):=∃ (X:SX) (cs:yH) (d:cD) (M:Hs) (b m:Nat) (ps c:wH) (e nl:Addr) (ns:yG),vs=[.ref X.S.st,.int b,.ref e,.ref nl]/\CO K a/\X.at a H cs d M/\b<X.r*X.w/\M 3 b=.rc m ps/\H e=some (.tup<|AS c)/\c.length<=100/\H nl=some (.lst<|ns.map V.int)/\ns.length<=60/\(∀ x∈ns,known cs x)/\cs.length<980/\WB X a H cs d (M.put 3 b (.rc m c) (MD ns)) Q
example:(WE):=∃ (X:SX) (cs:yH) (b:cD) (M:Hs) (cell:Nat) (z:Str) (nl:Addr) (ns:yG),vs=[.ref X.S.st,.str z,.ref nl]/\CO K a/\X.at a H cs b M/\cellOf M X.m0 z=some cell/\cell<X.m0/\H nl=some (.lst<|ns.map V.int)/\ns.length<=60/\(∀ x∈ns,known cs x)/\cs.length<980 /\
 ∀ (ch:Ch) (H':Hp),X.at a H' (cs++[ch]) (CF b (.inr z) (.int cs.length)) (M.put 0 cell .no<|MD ns)->SameBut (λx=>X.S.A.F x\/x=X.S.tk) H H'->Q (.int cs.length) H'
def Hs.unmark(M:Hs)(d:Nat)(ps:wH):Hs:=ps.foldl (λM p=>M.put 2 p (.mk 0) [d]) M
example:(aJ):=∃ (X:SX) (cs:yH) (c:cD) (M:Hs) (b m gone:Nat) (ps:wH),vs=[.ref X.S.st,.int b,.int gone]/\CO K a/\X.at a H cs c M/\b<X.r*X.w/\M 3 b=.rc m ps/\gone<cs.length/\(∀ p∈ps,p<X.c*X.w)/\ps.length<=36/\cs.length<940 /\
 ∀ (ex:yH) (l:Addr) (H':Hp),H l=none->H' l=some (.lst (AS ((ο<|ps.length+2).map (cs.length+·))))->ex.length=ps.length+2->X.at a H' (cs++ex) c (((M.put 3 b .no [gone]).unmark cs.length ps).put 1 b (.mk 0) [cs.length])->SameBut X.S.A.F H H'->Q (.ref l) H'
def NP(X:SX)(a:Ad)(H:Hp)(cs:yH)(d:Nat)(b:cD)(c:Hs)(Q:VK):Prop:=∀ (ex:yH) (l:Addr) (H':Hp),ex.length=d->H l=none->H' l=some (.lst (AS ((ο d).map (cs.length+·))))->X.at a H' (cs++ex) b c->SameBut (λx=>X.S.A.F x\/x=X.S.tk) H H'->Q (.ref l) H'
def D2(a:Ad)(H:Hp)(c:String)(E:XK):Prop:=∀ H',Same H H'->E (.ref<|a c) none H'
example:(O4):=∃ (X:SX) (cs:yH) (c:cD) (M:Hs) (z:Str),vs=[.ref X.S.st,.str z]/\CO K a/\X.at a H cs c M/\z.length<=1000/\cs.length<930 /\
 (BD z=true->cellOf M X.m0 z=none->∀ b cell:Nat,DU M 1 (X.r*X.w)=b->DU M 0 X.m0=cell->b<X.r*X.w->cell<X.m0->NP X a H cs 3 c (((M.put 1 b (.mk 1) []).put 3 b (.rc 1 []) [cs.length]).put 0 cell (.nm z b) ((cs.length+1)::EU c z)) Q) /\
 (BD z=false->D2 a H "NoName" E)/\(BD z=true->(∃ k,cellOf M X.m0 z=some k)->D2 a H "Twice" E) ∧
 (BD z=true->cellOf M X.m0 z=none->(DU M 1 (X.r*X.w)= -1\/DU M 0 X.m0= -1)->D2 a H "NoRoom" E)
example:(NQ):=∃ (X:SX) (cs:yH) (c:cD) (M:Hs) (y z:Str),vs=[.ref X.S.st,.str y,.str z]/\CO K a/\X.at a H cs c M/\y.length<=1000/\z.length<=1000/\cs.length<930 /\
 (BD y=true->BD z=true->cellOf M X.m0 z=none->∀ old b cell:Nat,cellOf M X.m0 y=some old->old<X.m0->M 0 old=.nm y b->b<X.r*X.w/\∃ m ps,M 3 b=.rc m ps/\ps.length<=100/\(DU M 0 X.m0=cell->cell<X.m0->NP X a H cs 2 c ((M.put 3 b (.rc (m+1) ps) []).put 0 cell (.nm z b) (cs.length::EU c z)) Q)) /\
 ((BD y&&BD z)=false->D2 a H "NoName" E)/\(BD y=true->BD z=true->(∃ k,cellOf M X.m0 z=some k)->D2 a H "Twice" E)/\(BD y=true->BD z=true->cellOf M X.m0 z=none->cellOf M X.m0 y=none->D2 a H "NoName" E) ∧
 (BD y=true->BD z=true->cellOf M X.m0 z=none->(∃ k,cellOf M X.m0 y=some k)->DU M 0 X.m0= -1->D2 a H "NoRoom" E)
example:(O5):=∃ (X:SX) (cs:yH) (c:cD) (M:Hs) (z:Str),vs=[.ref X.S.st,.str z]/\CO K a/\X.at a H cs c M/\cs.length<930 /\
 (∀ cell b:Nat,cellOf M X.m0 z=some cell->cell<X.m0->M 0 cell=.nm z b->b<X.r*X.w/\∃ m ps,M 3 b=.rc m ps/\(∀ p∈ps,p<X.c*X.w)/\ps.length<=36 /\
  (1<m->NP X a H cs 2 (CF c (.inr z) (.int cs.length)) ((M.put 0 cell .no []).put 3 b (.rc (m-1) ps) [cs.length]) Q)/\(m<=1->NP X a H cs (ps.length+3) (CF c (.inr z) (.int cs.length)) ((((M.put 0 cell .no []).put 3 b .no [cs.length]).unmark (cs.length+1) ps).put 1 b (.mk 0) [cs.length+1]) Q)) /\
 (cellOf M X.m0 z=none->D2 a H "NoName" E)
example:(O6):=∃ (X:SX) (cs:yH) (c:cD) (M:Hs) (z t:Str),vs=[.ref X.S.st,.str z,.str t]/\CO K a/\X.at a H cs c M/\t.length<=1000/\dn t=true/\cs.length<930 /\
 (∀ cell b:Nat,cellOf M X.m0 z=some cell->cell<X.m0->M 0 cell=.nm z b->GY t=true->∀ p:Nat,DU M 2 (X.c*X.w)=p->p<X.c*X.w->b<X.r*X.w/\∃ m ps,M 3 b=.rc m ps/\ps.length<=90/\NP X a H cs 3 c (((M.put 2 p (.mk 1) []).put 4 p (.tx t) [cs.length]).put 3 b (.rc m<|ps++[p]) [cs.length+1]) Q) /\
 (cellOf M X.m0 z=none->D2 a H "NoName" E)/\((∃ k,cellOf M X.m0 z=some k)->GY t=false->D2 a H "NoPiece" E)/\((∃ k,cellOf M X.m0 z=some k)->GY t=true->DU M 2 (X.c*X.w)= -1->D2 a H "NoRoom" E)
example:(O7):=∃ (X:SX) (cs:yH) (c:cD) (M:Hs) (z:Str),vs=[.ref X.S.st,.str z]/\CO K a/\X.at a H cs c M /\
 (∀ cell b:Nat,cellOf M X.m0 z=some cell->cell<X.m0->M 0 cell=.nm z b->b<X.r*X.w/\∃ m ps,M 3 b=.rc m ps/\ps.length<=100/\∃ d:eG,Paired (λp t=>p<X.c*X.w/\M 4 p=.tx t) ps d/\∀ l H',H l=none->Same H H'->H' l=some (.lst<|d.map V.str)->Q (.ref l) H') /\
 (cellOf M X.m0 z=none->D2 a H "NoName" E)
example:(O8):=∃ (X:SX) (cs:yH) (c:cD) (M:Hs) (z:Str) (x:Int),vs=[.ref X.S.st,.str z,.int x]/\CO K a/\X.at a H cs c M/\cs.length<930 /\
 (∀ cell b:Nat,cellOf M X.m0 z=some cell->cell<X.m0->M 0 cell=.nm z b->b<X.r*X.w/\∃ m ps,M 3 b=.rc m ps/\ps.length<=100/\((x<0\/ps.length<=x)->D2 a H "NoPiece" E)/\(∀ (k p:Nat),x=k->ps[k]? =some p->p<X.c*X.w/\NP X a H cs 2 c ((M.put 3 b (.rc m<|ps.eraseIdx k) []).put 2 p (.mk 0) [cs.length]) Q)) ∧
 (cellOf M X.m0 z=none->D2 a H "NoName" E)
example:(O9):=∃ (X:SX) (cs:yH) (c:cD) (M:Hs) (y z:Str),vs=[.ref X.S.st,.str y,.str z]/\CO K a/\X.at a H cs c M/\y.length<=1000/\z.length<=1000/\cs.length<920 /\
 (BD y=true->BD z=true->cellOf M X.m0 z=none->∀ old b cell:Nat,cellOf M X.m0 y=some old->old<X.m0->M 0 old=.nm y b->b<X.r*X.w/\∃ m ps,M 3 b=.rc m ps/\ps.length<=100/\(DU M 0 X.m0=cell->cell<X.m0->NP X a H cs 4 (CF c (.inr y) (.int (cs.length+2:Nat))) ((((M.put 3 b (.rc (m+1) ps) []).put 0 cell (.nm z b) (cs.length::EU c z)).put 0 old .no [cs.length+1]).put 3 b (.rc m ps) [cs.length+2]) Q)) /\
 ((BD y&&BD z)=false->D2 a H "NoName" E)/\(BD y=true->BD z=true->(∃ k,cellOf M X.m0 z=some k)->D2 a H "Twice" E)/\(BD y=true->BD z=true->cellOf M X.m0 z=none->cellOf M X.m0 y=none->D2 a H "NoName" E) ∧
 (BD y=true->BD z=true->cellOf M X.m0 z=none->(∃ k,cellOf M X.m0 y=some k)->DU M 0 X.m0= -1->D2 a H "NoRoom" E)
abbrev WF(X:SX)(p:Nat × Nat):eI:=[.int (BM X.n X.r X.c X.w p.1 p.2:Nat),.int (p.2%X.w:Nat)]
def HY(cell a:Nat)(ps:wH):List (Nat × Nat):=(0,cell)::(3,a)::ps.map λp=>(4,p)
example:(aK):=∃ (X:SX) (cs:yH) (c:cD) (M:Hs) (z:Str),vs=[.ref X.S.st,.str z]/\CO K a/\X.at a H cs c M /\
 (∀ cell b,cellOf M X.m0 z=some cell->cell<X.m0->M 0 cell=.nm z b->b<X.r*X.w/\∃ m ps,M 3 b=.rc m ps/\ps.length<=100/\(∀ p∈ps,p<X.c*X.w)/\∀ l d H',Same H H'->H' l=some (.lst<|d.map V.ref)->Paired (λt p=>H' t=some (.tup<|WF X p)) d (HY cell b ps)->Q (.ref l) H') /\
 (cellOf M X.m0 z=none->D2 a H "NoName" E)
def K7(X:SX)(cs:yH)(a:List (Nat × Nat)):yG:=a.filterMap λp=>(D8 cs (BM X.n X.r X.c X.w p.1 p.2:Nat) (p.2%X.w:Nat)).map λ(k:Nat)=>(k:Int)
example:(ME):=∃ (X:SX) (cs:yH) (c:cD) (M:Hs) (z:Str),vs=[.ref X.S.st,.str z]/\CO K a/\X.at a H cs c M /\
 (∀ cell b,cellOf M X.m0 z=some cell->cell<X.m0->M 0 cell=.nm z b->b<X.r*X.w/\∃ m ps,M 3 b=.rc m ps/\ps.length<=100/\(∀ p∈ps,p<X.c*X.w)/\∀ l row R H',JR cs X.outs (K7 X cs<|HY cell b ps) R->HC cs X.outs (GE cs.length X.outs R) row->row.length<=cs.length->H l=none->Same H H'->H' l=some (.lst<|AS row)->Q (.ref l) H') /\
 (cellOf M X.m0 z=none->D2 a H "NoName" E)
abbrev PD:=Option<|Str × Nat
abbrev JV:=Option<|Int × wH
structure Vw where
 nm:List PD
 rc:List JV
 pc:List (Option Str)
 rm:List (Option Int)
 pm:List (Option Int)
def AZ{α :Type}(l:List (Option α))(k:Nat):Option α :=(l[k]?).join
def MF:JV->wH
 |none=>[]
 |some (_,ps)=>ps
def NR(nm:List PD):wH:=nm.filterMap λc=>c.map (·.2)
def FC(rc:List JV):wH:=rc.flatMap MF
def led(a:Vw)(r:Nat):Nat:=(NR a.nm).count r
def FD(a:Vw)(p:Nat):Nat:=(FC a.rc).count p
def MG(a:Vw):List JV:=((ο a.rc.length).filter λr=>decide<|0<led a r).map (AZ a.rc)
def HZ(a:Vw)(p:Nat):Nat:=(FC<|MG a).count p
abbrev _root_.zD:=Nat->List V
def DQ(n:Nat)(p:yF)(f:zD):yD:=((ο n).filter p).map f
def IA(a:Vw)(k:Nat):Bool:=match AZ a.nm k with
 |none=>false
 |some c=>(AZ a.rc c.2).isNone
def IV(a:Vw)(k:Nat):Bool:=match AZ a.nm k with
 |none=>false
 |some c=>(ο k).any λj=>match AZ a.nm j with
  |none=>false
  |some d=>decide<|d.1=c.1
def JW(a:Vw)(r:Nat):Bool:=match AZ a.rc r with
 |none=>false
 |some c=>decide<|c.1<(led a r:Int)
def GZ(a:Vw)(r:Nat):Bool:=match AZ a.rc r with
 |none=>false
 |some c=>decide (0<led a r)&&decide ((led a r:Int)<c.1)
def R6(a:Vw):yD:=DQ a.nm.length (IA a) (λk=>[.str "lost",.int k])++DQ a.nm.length (IV a) (λk=>[.str "twice",.int k])
def R7(a:Vw):yD:=DQ a.pc.length (λp=>decide<|1<FD a p) (λp=>[.str "shared",.int p])++DQ a.pc.length (λp=>decide (0<FD a p)&&(AZ a.pc p).isNone) (λp=>[.str "empty",.int p])++DQ a.rc.length (JW a) (λr=>[.str "few",.int r])
def R8(a:Vw):yD:=DQ a.rc.length (λr=>decide (0<led a r) && !decide (AZ a.rm r=some 1)) (λr=>[.str "free",.str "record",.int r])++DQ a.pc.length (λp=>decide (0<FD a p) && !decide (AZ a.pm p=some 1)) (λp=>[.str "free",.str "piece",.int p])
def faults(a:Vw):yD:=R6 a++R7 a++R8 a
def PJ(a:Vw):yD:=DQ a.rc.length (GZ a) (λr=>[.str "many",.int r,.int<|led a r])++DQ a.rc.length (λr=>(AZ a.rc r).isSome&&decide (led a r=0)) (λr=>[.str "left",.str "record",.int r])
def PK(a:Vw):yD:=DQ a.pc.length (λp=>decide (AZ a.pm p=some 1)&&decide (HZ a p=0)) (λp=>[.str "left",.str "piece",.int p])
def PL(a:Vw):yD:=DQ a.rc.length (λr=>decide (AZ a.rm r=some 1)&&(AZ a.rc r).isNone) (λr=>[.str "marked",.int r])
def IW(a:Vw):yD:=PJ a++PK a++PL a
structure EO(vw:Vw):Prop where
 n1:∀ c,some c∈vw.nm->c.2<vw.rc.length/\dn c.1=true
 n2:∀ c,some c∈vw.rc->(∀ p∈c.2,p<vw.pc.length)/\c.2.length<=20
 n3:∀ s,some s∈vw.pc->dn s=true
 l1:vw.rm.length=vw.rc.length
 l2:vw.pm.length=vw.pc.length
 bn:vw.nm.length<=100
 br:vw.rc.length<=100
 bp:vw.pc.length<=100
def NmV(H:Hp)(v:V):PD->Prop
 |none=>v=.non
 |some c=>∃ p,v=.ref p/\H p=some (.tup [.str c.1,.int c.2])
def RcV(H:Hp)(v:V):JV->Prop
 |none=>v=.non
 |some c=>∃ p q,v=.ref p/\H p=some (.tup [.int c.1,.ref q])/\H q=some (.tup<|AS c.2)
def PcV(_:Hp)(v:V):Option Str->Prop
 |none=>v=.non
 |some s=>v=.str s
def MkV(_:Hp)(v:V):Option Int->Prop
 |none=>v=.non
 |some i=>v=.int i
def LstAt{α :Type}(R:Hp->V-> α ->Prop)(H:Hp)(p:Addr)(cs:List α):Prop:=∃ vs,H p=some (.lst vs)/\Paired (R H) vs cs
def FindsL(H:Hp)(l:Addr)(fs:yD):Prop:=∃ ps:eF,H l=some (.lst<|ps.map V.ref)/\Paired (λp f=>H p=some (.tup f)) ps fs
structure TV(K:W.Frag)(a:Ad):Prop where
 cl:Cls K (a "View")
 n1:NoAttr K (a "View") "name_values"
 n2:NoAttr K (a "View") "record_values"
 n3:NoAttr K (a "View") "piece_values"
 n4:NoAttr K (a "View") "record_marks"
 n5:NoAttr K (a "View") "piece_marks"
 n6:NoAttr K (a "View") "leads"
 n7:NoAttr K (a "View") "namings"
 n8:NoAttr K (a "View") "reached"
def vH(a:Ad)(H:Hp)(x:Addr)(f:Str)(v:V):Prop:=∃ b fs,H x=some (.ins (a "View") b fs)/\fs.lookup f=some v
structure VA where
 n:Addr
 r:Addr
 p:Addr
 rm:Addr
 pm:Addr
 ld:Addr
 ng:Addr
 rh:Addr
def vf(A:VA):cC:=[("name_values",.ref A.n),("record_values",.ref A.r),("piece_values",.ref A.p),("record_marks",.ref A.rm),("piece_marks",.ref A.pm),("leads",.ref A.ld),("namings",.ref A.ng),("reached",.ref A.rh)]
structure ViewAt(a:Ad)(H:Hp)(x:Addr)(A:VA)(vw:Vw):Prop where
 ob:∃ dx,H x=some (.ins (a "View") dx (vf A))
 n:LstAt NmV H A.n vw.nm
 r:LstAt RcV H A.r vw.rc
 p:LstAt PcV H A.p vw.pc
 rm:LstAt MkV H A.rm vw.rm
 pm:LstAt MkV H A.pm vw.pm
 ld:H A.ld=some (.lst<|AS<|(ο vw.rc.length).map (led vw))
 ng:H A.ng=some (.lst<|AS<|(ο vw.pc.length).map (FD vw))
 rh:H A.rh=some (.lst<|AS<|(ο vw.pc.length).map (HZ vw))
 ok:EO vw
structure PlV(H:Hp)(rows:yD)(n r c w:Nat)(vw:Vw):Prop where
 vs:∃ v1 v2 v3 v4 v5:eI,rows.flatten=v1++v2++v3++v4++v5/\Paired (NmV H) v1 vw.nm/\Paired (RcV H) v2 vw.rc/\Paired (PcV H) v3 vw.pc/\Paired (MkV H) v4 vw.rm/\Paired (MkV H) v5 vw.pm
 ln:vw.nm.length=n*w
 lr:vw.rc.length=r*w
 lp:vw.pc.length=c*w
 ok:EO vw
def newL(vs:eI)(H:Hp)(Q:VK):Prop:=∀ l H',H l=none->Same H H'->H' l=some (.lst vs)->Q (.ref l) H'
def newF(fs:yD)(H:Hp)(Q:VK):Prop:=∀ l H',H l=none->Same H H'->FindsL H' l fs->Q (.ref l) H'
def MH(rows:yD)(b j:Nat):V:=(((rows[b]?).bind (·[j]?)).getD .non)
example:(MI):=∃ (c g d:Addr) (w:Nat) (rows:yD) (m:Nat) (e:eF) (ps:List (Nat × Nat)),vs=[.ref c,.ref d]/\D0 K a/\PlankAt a H c g w rows m/\H d=some (.lst<|e.map V.ref)/\Paired (λt (b:Nat × Nat)=>H t=some (.tup [.int b.1,.int b.2])) e ps/\(∀ b∈ps,b.1<rows.length/\b.2<w)/\ps.length<=1000 /\
 newL (ps.map λb=>MH rows b.1 b.2) H Q
example:(R9):=∃ (many:Nat) (nl:Addr) (a:wH),vs=[.int many,.ref nl]/\H nl=some (.lst<|AS a)/\(∀ k∈a,k<many)/\many<=1000/\a.length<=10000/\newL (AS<|(ο many).map λk=>a.count k) H Q
example:(WG):=∃ (rl:Addr) (cs:List JV),vs=[.ref rl]/\LstAt RcV H rl cs/\cs.length<=100/\(∀ c,some c∈cs->c.2.length<=20)/\newL (AS<|FC cs) H Q
example:(aL):=∃ (x c d:Addr) (b:Vw),vs=[.ref x]/\TV K a/\vH a H x "record_values" (.ref c)/\vH a H x "leads" (.ref d)/\LstAt RcV H c b.rc/\H d=some (.lst<|AS<|(ο b.rc.length).map (led b))/\b.rc.length<=100/\∀ l H',H l=none->Same H H'->LstAt RcV H' l (MG b)->Q (.ref l) H'
example:(WH):=∃ (x:Addr) (A:VA) (b:Vw),vs=[.ref x]/\TV K a/\ViewAt a H x A b/\newL (AS<|(ο b.rc.length).filter λr=>(AZ b.rc r).isSome) H Q
example:(SB):=∃ (x:Addr) (A:VA) (b:Vw),vs=[.ref x]/\TV K a/\ViewAt a H x A b/\newL (AS<|(ο b.pc.length).filter λp=>decide<|0<FD b p) H Q
example:(WI):=∃ (x:Addr) (A:VA) (b:Vw) (r:Nat) (c:Int × wH),vs=[.ref x,.int r]/\TV K a/\ViewAt a H x A b/\AZ b.rc r=some c/\Q (.int c.1) H
def MJ(f:Vw->yD)(K:W.Frag)(a:Ad):Sp:=λvs H Q _=>∃ (x:Addr) (A:VA) (b:Vw),vs=[.ref x]/\TV K a/\ViewAt a H x A b/\newF (f b) H Q
def aM(K:W.Frag)(a:Ad):Sp:=MJ R6 K a
def aN(K:W.Frag)(a:Ad):Sp:=MJ R7 K a
def aO(K:W.Frag)(a:Ad):Sp:=MJ R8 K a
def WJ(K:W.Frag)(a:Ad):Sp:=MJ faults K a
def aP(K:W.Frag)(a:Ad):Sp:=MJ PJ K a
def aQ(K:W.Frag)(a:Ad):Sp:=MJ PK K a
def aR(K:W.Frag)(a:Ad):Sp:=MJ PL K a
def aS(K:W.Frag)(a:Ad):Sp:=MJ IW K a
example:(SD):=∃ (x g b d i:Addr) (n r c w:Nat) (rows:yD) (m:Nat) (e:Vw),vs=[.ref x,.ref b,.ref d]/\TV K a/\EG K a/\D0 K a/\H x=some (.ins (a "View") g [])/\LayAt a H b n r c w/\PlankAt a H d i w rows m/\rows.length=n+r+c+r+c/\PlV H rows n r c w e ∧
 ∀ (A:VA) (H':Hp),ViewAt a H' x A e->SameBut (· =x) H H'->Q .non H'
def Ground(K:W.Frag)(a:Ad)(H:Hp)(b d:Addr)(e:Vw):Prop:=∃ (g:Addr) (n r c w:Nat) (rows:yD) (m:Nat),TV K a/\EG K a/\D0 K a/\LayAt a H b n r c w/\PlankAt a H d g w rows m/\rows.length=n+r+c+r+c/\PlV H rows n r c w e
example:(SE):=∃ (c d:Addr) (b:Vw),vs=[.ref c,.ref d]/\Ground K a H c d b/\newF (faults b++IW b) H Q
example:(aT):=∃ (b c:Addr) (d:Vw),vs=[.ref b,.ref c]/\Ground K a H b c d/\∀ H',Same H H'->Q (.bl<|decide<|faults d=[]) H'
def FY(a:Vw)(r:Nat):JV:=match AZ a.rc r with
 |none=>none
 |some c=>if led a r=0 then none else some ((led a r:Int),c.2)
def K8(a:Vw)(r:Nat):Option Int:=match AZ a.rc r with
 |none=>if AZ a.rm r=some 1 then some 0 else AZ a.rm r
 |some _=>if led a r=0 then some 0 else AZ a.rm r
def NS(a:Vw)(p:Nat):Option Int:=if AZ a.pm p=some 1/\HZ a p=0 then some 0 else AZ a.pm p
def mended(a:Vw):Vw:={a.nm,(ο a.rc.length).map (FY a),a.pc,(ο a.rc.length).map (K8 a),(ο a.pc.length).map (NS a)}
inductive Cel where
 |nm (c:PD)
 |rc (c:JV)
 |pc (c:Option Str)
 |mk (c:Option Int)
deriving DecidableEq
def CelV(H:Hp)(v:V):Cel->Prop
 |.nm c=>NmV H v c
 |.rc c=>RcV H v c
 |.pc c=>PcV H v c
 |.mk c=>MkV H v c
def Cel.kind:Cel->Nat
 |.nm _=>0
 |.rc _=>1
 |.pc _=>2
 |.mk _=>3
def Cel.ok:Cel->Prop
 |.nm (some c)=>dn c.1=true
 |.pc (some s)=>dn s=true
 |_=>True
abbrev _root_.xH:=List Cel
def DO(a:Vw):xH:=a.nm.map .nm++a.rc.map .rc++a.pc.map .pc++a.rm.map .mk++a.pm.map .mk
def DS(w:Nat)(cs:xH)(b:Nat):xH:=(cs.drop<|b*w).take w
def NT(w n:Nat)(cs a:xH):Nat:=((ο n).filter λb=> !decide (DS w cs b=DS w a b)).length
inductive Lv where
 |many (r:Nat)
 |leftR (r:Nat)
 |leftP (p:Nat)
 |marked (r:Nat)
def FJ(a:Vw):List Lv:=((ο a.rc.length).filter (GZ a)).map .many++((ο a.rc.length).filter λr=>(AZ a.rc r).isSome&&decide (led a r=0)).map .leftR++((ο a.pc.length).filter λp=>decide (AZ a.pm p=some 1)&&decide (HZ a p=0)).map .leftP++((ο a.rc.length).filter λr=>decide (AZ a.rm r=some 1)&&(AZ a.rc r).isNone).map .marked
def vI(a:Vw):Lv->eI
 |.many r=>[.str "many",.int r,.int<|led a r]
 |.leftR r=>[.str "left",.str "record",.int r]
 |.leftP p=>[.str "left",.str "piece",.int p]
 |.marked r=>[.str "marked",.int r]
def FE(a:Vw)(n r c w:Nat):Lv->List (Nat × Cel)
 |.many k=>[(n*w+k,.rc<|FY a k)]
 |.leftR k=>[(n*w+k,.rc none),((n+r+c)*w+k,.mk<|some 0)]
 |.leftP k=>[((n+r+c+r)*w+k,.mk<|some 0)]
 |.marked k=>[((n+r+c)*w+k,.mk<|some 0)]
def pk(w f:Nat):List AN:=[.inl ((f/w:Nat):Int),.inl ((f%w:Nat):Int)]
structure Site(K:W.Frag)(a:Ad)(H:Hp)(ly gp cl:Addr)(n r c w:Nat)(rows:yD)(m:Nat)(vw:Vw):Prop where
 tv:TV K a
 tl:EG K a
 tp:D0 K a
 la:LayAt a H ly n r c w
 pl:PlankAt a H gp cl w rows m
 rl:rows.length=n+r+c+r+c
 pv:PlV H rows n r c w vw
 w1:1<=w
 w6:w<=6
 n6:n<=6
 r6:r<=6
 c6:c<=6
example:(aU):=∃ (e g l fd:Addr) (n r c w:Nat) (rows:yD) (m:Nat) (b:Vw) (d:Lv),vs=[.ref e,.ref g,.ref fd]/\Site K a H e g l n r c w rows m b/\d∈FJ b/\H fd=some (.tup<|vI b d) /\
 ∀ (dl:Addr) (more:zA) (H':Hp),H dl=none->Same H H'->H' dl=some (.dT more)->Paired (λ(i:List AN × V) (j:Nat × Cel)=>i.1=pk w j.1/\CelV H' i.2 j.2) more (FE b n r c w d)->U1 more->Q (.ref dl) H'
example:(aV):=∃ (e g dl:Addr) (w:Nat) (rows:yD) (m:Nat) (kvs:zA) (cs d:xH),vs=[.ref e,.ref dl]/\D0 K a/\PlankAt a H e g w rows m/\rows.length<=30/\1<=w/\w<=6/\H dl=some (.dT kvs)/\Paired (CelV H) rows.flatten cs/\d.map Cel.kind=cs.map Cel.kind/\(∀ c∈cs,c.ok)/\(∀ c∈d,c.ok) /\
 (∀ (f:Nat) (c i:Cel),cs[f]? =some c->d[f]? =some i->(BF kvs (pk w f)=none/\i=c)\/∃ v,BF kvs (pk w f)=some v/\CelV H v i) /\
 ∀ (b:yD) (H':Hp),PlankAt a H' e g w b (m+NT w rows.length cs d)->b.length=rows.length->Paired (CelV H') b.flatten d->SameBut (λx=>x=e\/x=g) H H'->Q .non H'
example:(vJ):=∃ (j e g:Addr) (n r c w:Nat) (rows:yD) (m:Nat) (d:Vw),vs=[.ref j,.ref e]/\Site K a H j e g n r c w rows m d/\faults d=[] /\
 ∀ (i:Addr) (b:yD) (H':Hp),H i=none->FindsL H' i (IW d)->PlankAt a H' e g w b (m+NT w rows.length (DO d) (DO<|mended d))->b.length=n+r+c+r+c->PlV H' b n r c w (mended d)->SameBut (λx=>x=e\/x=g) H H'->Q (.ref i) H'
def SX.wr(X:SX)(cs:yH)(b:Nat)(row:eI):SX:={ X with rows:=X.rows.set b<|EY cs (DF cs X.outs b) b row,nn:=X.nn+1,outs:=DF cs X.outs b }
example:(SF):=∃ (X:SX) (cs:yH) (c:cD) (M:Hs) (b:Nat) (row:eI),vs=[.ref X.S.st,.int b]/\CO K a/\X.at a H cs c M/\X.rows[b]? =some row/\∀ t ol d H',H ol=none->H d=none->VL H' t ol d (outcome cs X.outs (λ_=>false) b).out (outcome cs X.outs (λ_=>false) b).held->(X.wr cs b row).at a H' cs c M->SameBut (λx=>X.S.A.F x\/x=X.S.A.gp) H H'->Q (.ref t) H'
def MK(a:cD):Str->Option Nat:=λz=>(EU a z).head?
def RowsAre(H:Hp)(n r c w:Nat)(rows:yD)(S:Md):Prop:=∀ kind k v,kind<5->k<BQ n r c w kind->(rows[BM n r c w kind k]?).bind (λq=>q[k%w]?)=some v->RepC H (S kind k) v
structure InL(n r c w:Nat)(S:Md):Prop where
 no:∀ kind k,¬ k<BQ n r c w kind->S kind k=.no
 ok:∀ kind k,EB kind<|S kind k
abbrev SX.C(X:SX):Nat->Bool:=λj=>X.outs (j:Nat)
structure C6(a:Ad)(H:Hp)(X:SX)(cs:yH)(tks:cD)(M:Hs):Prop where
 st:X.at a H cs tks M
 hi:∃ o,Hist X.m0 M.b M.as (MK tks) o
 bo:InL X.n X.r X.c X.w M.b
 cut:VN cs X.outs
 rows:RowsAre H X.n X.r X.c X.w X.rows (sh M.b X.C M.as)
 few:X.c*X.w<=18
 ok:∀ x∈M.as,EB x.kind x.x
 w1:1<=X.w
def PN:CV->PD
 |.nm z r=>some (z,r)
 |_=>none
def NU:CV->JV
 |.rc m ps=>some ((m:Int),ps)
 |_=>none
def SG:CV->Option Str
 |.tx z=>some z
 |_=>none
def G0:CV->Option Int
 |.mk i=>some (i:Int)
 |_=>none
def BX(n r c w:Nat)(S:Md):Vw:={(ο<|n*w).map λk=>PN<|S 0 k,(ο<|r*w).map λk=>NU<|S 3 k,(ο<|c*w).map λk=>SG<|S 4 k,(ο<|r*w).map λk=>G0<|S 1 k,(ο<|c*w).map λk=>G0<|S 2 k}
def ED(n r c w:Nat)(S:Md):Md:=λkind k =>
 if kind=1 then(match S 3 k with
  |.rc _ _=>if ld (n*w) S k=0 then .mk 0 else S 1 k
  |_=>match S 1 k with
   |.mk i=>if i=1 then .mk 0 else .mk i
   |x=>x)
 else if kind=2 then(match S 2 k with
  |.mk i=>if i=1/\HZ (BX n r c w S) k=0 then .mk 0 else .mk i
  |x=>x)
 else if kind=3 then(match S 3 k with
  |.rc _ ps=>if ld (n*w) S k=0 then .no else .rc (ld (n*w) S k) ps
  |x=>x)
 else S kind k
structure Gnd(K:W.Frag)(a:Ad)(H:Hp)(ly gp cl:Addr)(n r c w:Nat)(rows:yD)(nn:Nat)(S:Md):Prop where
 tv:TV K a
 t4:CO K a
 la:LayAt a H ly n r c w
 pl:PlankAt a H gp cl w rows nn
 sz:n<=6/\r<=6/\c<=6/\w<=6/\rows.length=n+r+c+r+c
 few:c*w<=18
 w1:1<=w
 gd:R3 H rows
 rw:RowsAre H n r c w rows S
 bo:InL n r c w S
 sd:Snd (n*w) S
def aW(K:W.Frag)(a:Ad):Sp:=vJ K a
def vK(n r c w:Nat)(S:Md):Nat:=NT w (n+r+c+r+c) (DO<|BX n r c w S) (DO<|mended<|BX n r c w S)
example:(WK):=∃ (e b d:Addr) (n r c w:Nat) (rows:yD) (nn:Nat) (S:Md),vs=[.ref e,.ref b]/\Gnd K a H e b d n r c w rows nn S /\
 ∀ (X:SX) (H':Hp),X.S.lp=e->X.S.A.gp=b->X.S.A.cl=d->X.n=n->X.r=r->X.c=c->X.w=w->X.nn=nn+vK n r c w S/\X.outs=(λ_=>false)->(∀ y o,H y=some o->y=d\/¬ X.S.A.F y)->H X.S.tk=none->C6 a H' X [] [] {ED n r c w S,[]}->SameBut (λx=>x=b\/x=d) H H'->Q (.ref X.S.st) H'
structure aX(K:W.Frag)(a:Ad):Prop where
 cl:Cls K (a "House")
 n1:NoAttr K (a "House") "plan"
 n2:NoAttr K (a "House") "ground"
 n3:NoAttr K (a "House") "store"
def PQ:zB:=[("make",2),("link",3),("cut",2),("put",3),("take",3),("move",3),("write",2),("keep",2),("show",2),("names",1),("stop",1)]
def K9:eG:=["make","link","cut","put","take","move"]
def NV:eG:=["take","write"]
structure EQ(K:W.Frag)(a:Ad):Prop where
 s4:CO K a
 ho:aX K a
 dd:∀ H,SqT K H (a "DEEDS") (K9.map V.str)
 wn:∀ H,SqT K H (a "WITH_A_NUMBER_LAST") (NV.map V.str)
def hf(a b st:Addr):cC:=[("plan",.ref a),("ground",.ref b),("store",.ref st)]
def ML(w:wH):Bool:=decide (1<=w.length)&&decide (w.length<=3)&&w.all (λc=>decide (48<=c)&&decide (c<=57))&&(decide (w=[48])||decide (w.head? ≠some 48))
def MM(ws:List (wH)):Option (eG):=match HU PQ (C7<|ws.headD [])with
 |none=>none
 |some n =>
  let vs:=if C7 (ws.headD [])=("put":Str)then VB ws else ws
  if(vs.length:Int)≠n then none else
  if C7 (ws.headD [])∈NV/\ML (vs.getLastD [])=false then none else some (vs.map C7)
def ER(z:Str):Option (eG):=MM<|CW z.cps.toList
example:(aY):=∃ z:Str,vs=[.str z]/\z.length<=1000/\∀ H',Same H H'->Q (.bl<|ML z.cps.toList) H'
example:(aZ):=∃ z:Str,vs=[.str z]/\EQ K a/\z.length<=900 /\
 (∀ ws,ER z=some ws->∀ l H',H l=none->Same H H'->H' l=some (.lst<|ws.map V.str)->Q (.ref l) H')/\(ER z=none->D2 a H "NoRow" E)
example:(WL):=∃ (t ol a:Addr) (out:wH) (held:List (Nat × Int)),vs=[.ref t]/\VL H t ol a out held/\out.length<=1000/\held.length<=1000/\Q (.str<|B9 out.length++(" ":Str)++B9 held.length) H
def MN(a:eG):Str:=if a=[]then "-" else Txt.join " " a
example:(SH):=∃ (l:Addr) (a:eG),vs=[.ref l]/\H l=some (.lst<|a.map V.str)/\(a.map (·.length)).sum+a.length<=1000/\Q (.str<|MN a) H
def WM(a:Ad)(H:Hp)(st:Addr):Prop:=∃ c d b tk,H st=some (.ins (a "Store") c (sf d b tk))
example:(a0):=∃ (h c d b st:Addr),vs=[.ref h]/\aX K a/\H h=some (.ins (a "House") c (hf d b st))/\Q (.ref b) H
def HsC(a:Ad)(H:Hp)(h:Addr)(X:SX)(cs:yH)(b:cD)(M:Hs):Prop:=(∃ c,H h=some (.ins (a "House") c (hf X.S.lp X.S.A.gp X.S.st)))/\C6 a H X cs b M
abbrev SA.G(S:SA):Addr->Prop:=λx=>S.A.F x\/x=S.tk
structure Up(H H':Hp)(X X':SX)(S:Md)(D:yE):Prop where
 lp:X'.S.lp=X.S.lp
 gp:X'.S.A.gp=X.S.A.gp
 sz:X'.n=X.n/\X'.r=X.r/\X'.c=X.c/\X'.w=X.w
 nn:X'.nn=X.nn+vK X.n X.r X.c X.w S
 ou:X'.outs=λ_=>false
 nw:∀ y o,H y=some o->y=X.S.A.cl\/¬ X'.S.G y
 sb:SameBut (λx=>x=X.S.A.gp\/x=X.S.A.cl\/D x) H H'
example:(SI):=∃ (st l:Addr) (ws:eG),vs=[.ref st,.ref l]/\WM a H st/\H l=some (.lst<|ws.map V.str) /\
  ((∃ y,ws=[("make":Str),y]/\O4 K a [.ref st,.str y] H (λ_ H'=>Q .non H') E)\/(∃ y t,ws=[("put":Str),y,t]/\O6 K a [.ref st,.str y,.str t] H (λ_ H'=>Q .non H') E) ∨
   (∃ y z,ws=[("link":Str),y,z]/\NQ K a [.ref st,.str y,.str z] H (λ_ H'=>Q .non H') E)\/(∃ y z,ws=[("move":Str),y,z]/\O9 K a [.ref st,.str y,.str z] H (λ_ H'=>Q .non H') E) ∨
   (∃ y,ws=[("cut":Str),y]/\O5 K a [.ref st,.str y] H (λ_ H'=>Q .non H') E)\/∃ y w x,ws=[("take":Str),y,w]/\w.length<=640/\intText? w=some x/\O8 K a [.ref st,.str y,.int x] H (λ_ H'=>Q .non H') E)
example:(SJ):=∃ (st l:Addr) (ws:eG),vs=[.ref st,.ref l]/\WM a H st/\H l=some (.lst<|ws.map V.str) /\
  ((∃ b:Nat,ws=[("write":Str),B9 b]/\b<1000/\SF K a [.ref st,.int b] H (λv H'=>WL K a [v] H' Q E) E) ∨
   (∃ y,ws=[("keep":Str),y]/\ME K a [.ref st,.str y] H (λv H'=>∃ p row,v=.ref p/\H' p=some (.lst<|AS row)/\row.length<=300/\(∀ b∈row,b<100)/\∀ c,Same H' c->Q (.str<|MN<|row.map λ(b:Nat)=>B9 b) c) E) ∨
   (ws=[("names":Str)]/\O2 K a [.ref st] H (λv H'=>SH K a [v] H' Q E) E) ∨
   ∃ y,ws=[("show":Str),y]/\O7 K a [.ref st,.str y] H (λv H'=>L5 K (.str "") [v] H' Q) E)
example:(SK):=∃ (h:Addr) (X:SX) (cs:yH) (b:cD) (M:Hs),vs=[.ref h]/\EQ K a/\TV K a/\HsC a H h X cs b M /\
 ∀ (c:SX) (H':Hp),HsC a H' h c [] [] {ED X.n X.r X.c X.w<|sh M.b X.C M.as,[]}->Up H H' X c (sh M.b X.C M.as) (· =h)->Q (.str<|B9 (IW<|BX X.n X.r X.c X.w<|sh M.b X.C M.as).length) H'
example:(GG):=∃ (h c d e st:Addr) (z:Str),vs=[.ref h,.str z]/\EQ K a/\H h=some (.ins (a "House") c (hf d e st))/\WM a H st/\z.length<=900 ∧
 ∃ w ws,ER z=some (w::ws)/\∀ l b,Same H b->b l=some (.lst<|(w::ws).map V.str) ->
  (w∈K9/\SI K a [.ref st,.ref l] b (λ_ H'=>Q (.str "ok") H') E)\/(w="stop"/\SK K a [.ref h] b Q E)\/(w∉K9/\w≠"stop"/\SJ K a [.ref st,.ref l] b Q E)
example:(bA):=∃ (h d b:Addr) (n r c w:Nat),vs=[.ref h,.ref b]/\EQ K a/\TV K a/\H h=some (.ins (a "House") d [])/\LayAt a H b n r c w/\(n<=6/\r<=6/\c<=6/\1<=w/\w<=6/\c*w<=18) ∧
 ∀ (X:SX) (H':Hp),X.S.lp=b->X.n=n->X.r=r->X.c=c->X.w=w->X.nn=0/\X.outs=(λ_=>false)->(∀ y,X.S.G y\/y=X.S.A.gp->H y=none)->HsC a H' h X [] [] {λ_ _=>.no,[]}->SameBut (· =h) H H'->Q .non H'
example:(bB):=∃ x:Int,vs=[.int x]/\∀ (l:Addr) (zs:eG) (H':Hp),H l=none->Same H H'->H' l=some (.lst<|zs.map V.str)->zs.length=5->(∀ z∈zs,BD z=true)->Q (.ref l) H'
def LA:Str:=ζ " !\"#$&'()*+,-./0123456789:;<=>?@ABCDEFGHIJKLMNOPQRSTUVWXYZ[\\]^_`"++ζ "abcdefghijklmnopqrstuvwxyz{|}~"
def MO(x:Int):Nat:=(if x/5%8=3 then 40-x/40%2 else 1+x%5).toNat
def SL(x:Int)(j:Nat):Str:={#[LA.cps.toList.getD ((x/3+(1+x/19%93)*((j:Int)/(1+x/7%3)))%94).toNat 0]}
def G2(x:Int):Str:=Txt.join (ζ "") ((ο<|MO x).map (SL x))
example:(SN):=∃ x:Int,vs=[.int x]/\∀ H',GY (G2 x)=true->Same H H'->Q (.str<|G2 x) H'
def JX(x:Int):Nat:=(if x/5%4=0 then x/20%1000 else x%5).toNat
example:(WN):=∃ x:Int,vs=[.int x]/\(JX x<1000->Q (.int<|JX x) H)
def WO(k:Int)(y v:Str)(x:Int):eG:=if k<2 then ["make",y]else if k=2 then ["link",y,v]else if k=3 then ["cut",y]else if k<6 then ["put",y,G2 x]else if k=6 then ["take",y,B9<|JX x]else ["move",y,v]
example:(bC):=∃ (k x:Int) (y v:Str),vs=[.int k,.str y,.str v,.int x]/\0<=k/\k<8/\BD y=true/\BD v=true/\∀ z H',Same H H'->z.length<=900->ER z=some (WO k y v x)->Q (.str z) H'
abbrev DR:=Except String<|cD × Hs
def CZ(M:Hs)(k:Nat):Nat:=match M 0 k with
 |.nm _ r=>r
 |_=>0
def LB(M:Hs)(r:Nat):Nat:=match M 3 r with
 |.rc m _=>m
 |_=>0
def G3(M:Hs)(r:Nat):wH:=match M 3 r with
 |.rc _ ps=>ps
 |_=>[]
def bD(N m r:Nat)(a:cD)(M:Hs)(z:Str):DR:=if(cellOf M m z).isSome then .error "Twice" else if DU M 1 r= -1\/DU M 0 m= -1 then .error "NoRoom" else
 .ok (a,((M.put 1 (DU M 1 r).toNat (.mk 1) []).put 3 (DU M 1 r).toNat (.rc 1 []) [N]).put 0 (DU M 0 m).toNat (.nm z (DU M 1 r).toNat) ((N+1)::EU a z))
def bE(N m:Nat)(a:cD)(M:Hs)(y z:Str):DR:=if(cellOf M m z).isSome then .error "Twice" else match cellOf M m y with
 |none=>.error "NoName"
 |some old=>if DU M 0 m= -1 then .error "NoRoom" else .ok (a,(M.put 3 (CZ M old) (.rc (LB M (CZ M old)+1) (G3 M<|CZ M old)) []).put 0 (DU M 0 m).toNat (.nm z<|CZ M old) (N::EU a z))
def bF(N m:Nat)(a:cD)(M:Hs)(y z:Str):DR:=if(cellOf M m z).isSome then .error "Twice" else match cellOf M m y with
 |none=>.error "NoName"
 |some old=>if DU M 0 m= -1 then .error "NoRoom" else .ok (CF a (.inr y) (.int (N+2:Nat)),(((M.put 3 (CZ M old) (.rc (LB M (CZ M old)+1) (G3 M<|CZ M old)) []).put 0 (DU M 0 m).toNat (.nm z<|CZ M old) (N::EU a z)).put 0 old .no [N+1]).put 3 (CZ M old) (.rc (LB M<|CZ M old) (G3 M<|CZ M old)) [N+2])
def SO(N m:Nat)(a:cD)(M:Hs)(z:Str):DR:=match cellOf M m z with
 |none=>.error "NoName"
 |some k=>.ok (CF a (.inr z) (.int N),if 1<LB M (CZ M k)then(M.put 0 k .no []).put 3 (CZ M k) (.rc (LB M (CZ M k)-1) (G3 M<|CZ M k)) [N]else(((M.put 0 k .no []).put 3 (CZ M k) .no [N]).unmark (N+1) (G3 M<|CZ M k)).put 1 (CZ M k) (.mk 0) [N+1])
def SQ(N m c:Nat)(a:cD)(M:Hs)(z t:Str):DR:=match cellOf M m z with
 |none=>.error "NoName"
 |some k=>if DU M 2 c= -1 then .error "NoRoom" else .ok (a,((M.put 2 (DU M 2 c).toNat (.mk 1) []).put 4 (DU M 2 c).toNat (.tx t) [N]).put 3 (CZ M k) (.rc (LB M<|CZ M k) (G3 M (CZ M k)++[(DU M 2 c).toNat])) [N+1])
def SR(N m:Nat)(a:cD)(M:Hs)(z:Str)(x:Nat):DR:=match cellOf M m z with
 |none=>.error "NoName"
 |some k=>match (G3 M<|CZ M k)[x]? with
  |none=>.error "NoPiece"
  |some p=>.ok (a,(M.put 3 (CZ M k) (.rc (LB M<|CZ M k) ((G3 M<|CZ M k).eraseIdx x)) []).put 2 p (.mk 0) [N])
def SX.df(X:SX)(N:Nat)(a:cD)(M:Hs)(k:Int)(y v:Str)(x:Int):DR:=if k<2 then bD N X.m0 (X.r*X.w) a M y else if k=2 then bE N X.m0 a M y v else if k=3 then SO N X.m0 a M y else if k<6 then SQ N X.m0 (X.c*X.w) a M y (G2 x)else if k=6 then SR N X.m0 a M y (JX x)else bF N X.m0 a M y v
def PR:CV->Bool
 |.mk i=>i==1
 |_=>false
def EH(c:Nat)(S:Md):Nat:=(ο c).countP λp=>PR<|S 2 p
def HF(zs:eG):CV->Prop
 |.nm z _=>z∈zs
 |.tx t=>t.length<=40
 |_=>True
structure FL(M:Hs)(zs:eG):Prop where
 b:∀ kind k,HF zs<|M.b kind k
 s:∀ x∈M.as,HF zs x.x
def vL(H:Hp)(nl:Addr)(zs:eG):Prop:=H nl=some (.lst<|zs.map V.str)/\zs.length=5/\∀ z∈zs,BD z=true
structure DE(a:Ad)(X:SX)(cs:yH)(M:Hs)(zs:eG)(R:DR)(H:Hp)(P:Hp->Prop)(E:XK):Prop where
 g:∀ cs' tks' M' H',R=.ok (tks',M')->C6 a H' X cs' tks' M'->cs'.length+EH (X.c*X.w) M'<=cs.length+EH (X.c*X.w) M+4->FL M' zs->SameBut X.S.G H H'->P H'
 b:∀ c:String,(c="NoName"\/c="Twice"\/c="NoPiece"\/c="NoRoom")->R=.error c->∀ H',Same H H'->E (.ref<|a c) none H'
structure DB(a:Ad)(H:Hp)(X:SX)(cs:yH)(tks:cD)(M:Hs)(zs:eG)(k:Int)(y v:Str):Prop where
 I:C6 a H X cs tks M
 l:cs.length<900
 vin:FL M zs
 zok:∀ z∈zs,BD z=true
 hy:y∈zs
 hv:v∈zs
 hk:0<=k/\k<8
example:(bG):=∃ (X:SX) (cs:yH) (b:cD) (M:Hs) (zs:eG) (k:Int) (y v:Str) (x:Int),vs=[.ref X.S.st,.int k,.str y,.str v,.int x]/\CO K a/\DB a H X cs b M zs k y v/\DE a X cs M zs (X.df cs.length b M k y v x) H (λH'=>Q (.str "ok") H') E
structure TD(K:W.Frag)(a:Ad):Prop where
 n1:W.exmOne K (.ref<|a "NoName") (.ref<|a "NoName")=some true
 t1:W.exmOne K (.ref<|a "Twice") (.ref<|a "NoName")=some false
 t2:W.exmOne K (.ref<|a "Twice") (.ref<|a "Twice")=some true
 p1:W.exmOne K (.ref<|a "NoPiece") (.ref<|a "NoName")=some false
 p2:W.exmOne K (.ref<|a "NoPiece") (.ref<|a "Twice")=some false
 p3:W.exmOne K (.ref<|a "NoPiece") (.ref<|a "NoPiece")=some true
 r1:W.exmOne K (.ref<|a "NoRoom") (.ref<|a "NoName")=some false
 r2:W.exmOne K (.ref<|a "NoRoom") (.ref<|a "Twice")=some false
 r3:W.exmOne K (.ref<|a "NoRoom") (.ref<|a "NoPiece")=some false
 r4:W.exmOne K (.ref<|a "NoRoom") (.ref<|a "NoRoom")=some true
example:(WP):=∃ (i j:V) (X:SX) (cs:yH) (b:cD) (M:Hs) (zs:eG) (k:Int) (y v:Str) (x:Int),vs=[i,j,.int k,.str y,.str v,.int x]/\EQ K a/\TD K a/\DB a H X cs b M zs k y v/\((i=.non/\j=.ref X.S.st)\/∃ h,i=.ref h/\HsC a H h X cs b M) /\
 (∀ c:String,X.df cs.length b M k y v x=.error c->∀ H',Same H H'->Q (.str<|ζ c) H')/\∀ e d g H',X.df cs.length b M k y v x=.ok (d,g)->C6 a H' X e d g->e.length+EH (X.c*X.w) g<=cs.length+EH (X.c*X.w) M+4->FL g zs->SameBut X.S.G H H'->Q (.str "ok") H'
example:(WQ):=∃ (l:Addr) (a:eG),vs=[.ref l]/\H l=some (.lst<|a.map V.str)/\(a.map (·.length)).sum+a.length<=1000/\(∀ z∈a,dn z=true)/\∀ H',Same H H'->Q (.str<|MN a) H'
abbrev SX.tw(X:SX)(S:SA)(a:yD):SX:={ X with S:=S,rows:=a }
structure Two(a:Ad)(H:Hp)(h:Addr)(X:SX)(S:SA)(rs:yD)(cs ds:yH)(tks:cD)(M:Hs):Prop where
 A:HsC a H h X cs tks M
 B:C6 a H (X.tw S rs) ds tks M
 lp:S.lp=X.S.lp
 ap:∀ y,X.S.G y->¬ S.G y
 gp:S.A.gp≠X.S.A.gp
structure Nx(H:Hp)(X:SX)(S:SA)(H':Hp)(X':SX)(S':SA):Prop where
 lp:X'.S.lp=X.S.lp
 gp:X'.S.A.gp=X.S.A.gp/\S'.A.gp=S.A.gp
 sz:X'.n=X.n/\X'.r=X.r/\X'.c=X.c/\X'.w=X.w
 o:∀ l xs,H l=some (.lst xs)->¬ X.S.G l->¬ S.G l->H' l=some (.lst xs)/\¬ X'.S.G l/\¬ S'.G l
structure SS(K:W.Frag)(a:Ad)(H:Hp)(h:Addr)(X:SX)(S:SA)(rs:yD)(cs ds:yH)(tks:cD)(M:Hs)(zs:eG):Prop where
 T:EQ K a
 TD:TD K a
 J:Two a H h X S rs cs ds tks M
 vin:FL M zs
 zok:∀ z∈zs,BD z=true
 l:cs.length<=300
example:(bH):=∃ (h:Addr) (X:SX) (S:SA) (c:yD) (cs d:yH) (b:cD) (M:Hs) (zs:eG) (z:Str),vs=[.ref h,.ref S.st,.str z]/\SS K a H h X S c cs d b M zs/\z∈zs/\∀ H',Same H H'->Q (.bl true) H'
example:(bI):=∃ (h:Addr) (X:SX) (S:SA) (c:yD) (cs d:yH) (b:cD) (M:Hs) (zs:eG) (z:Str),vs=[.ref h,.ref S.st,.str z]/\SS K a H h X S c cs d b M zs/\z∈zs/\∀ H',Same H H'->Q (.bl true) H'
example:(bJ):=∃ (h:Addr) (X:SX) (S:SA) (g:yD) (cs d:yH) (b:cD) (M:Hs) (zs:eG) (z:Str) (x:Int),vs=[.ref h,.ref S.st,.str z,.int x]/\SS K a H h X S g cs d b M zs/\z∈zs/\1<=X.n /\
 ∀ e c H',Two a H' h e S c cs d b M->Nx H X S H' e S->Q (.bl true) H'
example:(bK):=∃ (h:Addr) (X:SX) (S:SA) (g:yD) (cs i:yH) (b:cD) (M:Hs),vs=[.ref h,.ref X.S.lp,.ref S.A.gp]/\EQ K a/\TV K a/\Two a H h X S g cs i b M /\
 ∀ e c d H',Two a H' h e c d [] [] [] {ED X.n X.r X.c X.w<|sh M.b X.C M.as,[]}->Nx H X S H' e c->Q (.ref c.st) H'
example:(vM):=∃ (s:Addr) (ns:yG),vs=[.ref s]/\TV K a/\EQ K a/\TD K a/\SqL K H s (ns.map V.int)/\ns.length<=63/\∀ H',Q (.bl true) H'
abbrev FK:=W.Frag
abbrev XE:=St->XK
abbrev RT:=FK->Ad->XE->XE->TS
def A3{f g:RT}(h:∀ K a E b,f K a E b=g K a E b){K a E b D c H}:f K a E b D c H=g K a E b D c H:=by rw[h]
abbrev D3:TE:=tC<|.int 0
abbrev DJ:TE:=tC<|.int 1
abbrev PU:TE:=tC<|.int 2
abbrev JY:TE:=tC<|.int 3
abbrev bL:TE:=tC<|.int 4
abbrev MP:TE:=tC<|.int 5
abbrev WR:TE:=tC<|.int 6
abbrev bM:TE:=tC<|.int 7
abbrev ST:TE:=tC<|.int 8
abbrev zmv:TE:=tC<|.int 9
abbrev DM(n:Int):TE:=tC<|.int n
abbrev AE(a:TE):TA:=DN a BK
abbrev A9(a b:TE):TA:=DN a<|DN b BK
abbrev DG(a b x2:TE):TA:=DN a<|DN b<|DN x2 BK
abbrev JZ(a b x2 x3:TE):TA:=DN a<|DN b<|DN x2<|DN x3 BK
abbrev BG(K:W.Frag)(x:TE)(n:Int):TE:=AD (BZ K) x (tC<|.int n)
abbrev AB:TE:=D7 0
abbrev AI:TE:=D7 1
abbrev zmw:TE:=D7 10
abbrev vN:TE:=D7 11
abbrev vO:TE:=D7 12
abbrev AQ:TE:=D7 2
abbrev BC:TE:=D7 3
abbrev BT:TE:=D7 4
abbrev CP:TE:=D7 5
abbrev FF:TE:=D7 6
abbrev NW:TE:=D7 7
abbrev bN:TE:=D7 8
abbrev vP:TE:=D7 9
section
variable{K:FK}{a:Ad}{n:Nat}{E E1:XE}{D:Ends}{σ:St}{H:Hp}
local macro_rules
 |`(command|example : $x:term := ([$q,*],[$p,*]))=>do
  let i:=Lean.mkIdent
  let m (k:Nat):=Lean.Name.mkSimple s!"{x.raw.getId}{k}"
  let mut r:=#[]
  for k in [:p.getElems.size] do
   r:=(r.push<|<-`(command|def $(i<|m k):ident:RT:=fun $(i `K):ident $(i `a):ident $(i `E):ident $(i `E1):ident=>$(p.getElems[k]!))).push (<-`(command|theorem $(i<|(m k).appendAfter "_"):ident:type_of%(@A3 _ _ $(i<|m k++`eq_1)):=rfl))
  let f:=fun (y:Lean.Term)=>`($(i<|m y.raw.isNatLit?.get!) $(i `K) $(i `a) $(i `E) $(i `E))
  let q:=q.getElems
  let t<-q.pop.foldrM (fun y z=>do `(AH $(<-f y) $z)) (<-f q.back!)
  return Lean.mkNullNode (r.push<|<-`(command|def $(i x.raw.getId):ident ($(i `K):ident:FK) ($(i `a):ident:Ad) ($(i `E):ident:XE):TS:=$t))
example:vQ:=([0],[AV (BY (FU K<|AE<|AR K AB "record_values") (FQ K 2<|DX (AF 0) (DX (AF 1) FO)) (A4<|AD IN (AD (BZ K) (AR K AQ "leads") AB) D3) AI 2 [0])])
example:vR:=([0],[AV (BY (FU K<|AE<|AR K AB "record_values") (FQ K 2<|DX (AF 0) (DX (AF 1) FO)) (A4<|AD G9 AI<|tC .non) AB 2 [])])
example:vS:=([0],[AV (BY (FU K<|AE<|AR K AB "namings") (FQ K 2<|DX (AF 0) (DX (AF 1) FO)) (A4<|AD IN AI D3) AB 2 [])])
example:vT:=([0],[AV (BG K (AD (BZ K) (AR K AB "record_values") AI) 0)])
example:vY:=([0,1,2,9,10],[AO (CD BK) (AF 1),AO (CD BK) (AF 2),AO KN<|AF 3,CM<|D6 K "list" FV AI<|AE<|DL<|A9 (tC<|.str "lost") BT,BH (A4<|AD GS (AD (BZ K) (AR K AB "record_values") (BG K CP 1)) (tC .non)) (vY3 K a E E) BV,CM<|D6 K "list" FV AQ<|AE<|DL<|A9 (tC<|.str "twice") BT,BH (A4<|JL (BG K CP 0) BC) (vY5 K a E E) BV,HA BC (BG K CP 0) (tC<|.bl true),BH (A4<|AD G9 CP<|tC .non) (AH (vY4 K a E E) (AH (vY6 K a E E) (vY7 K a E E))) BV,DT (FU K<|AE<|AR K AB "name_values") (KW K 2<|HB (AF 4) (HB (AF 5) KY)) (vY8 K a E E),AV<|AD (A8 K) AI AQ])
example:bQ:=([0,1],[AO (BY (FU K<|AE<|AR K AB "piece_marks") (FQ K 2<|DX (AF 0) (DX (AF 1) FO)) (A4<|AD (CG K) AI DJ) AB 2 []) (AF 1),AV<|BY (CN K AI) (AF 0) (A4<|AD (CG K) (AD (BZ K) (AR K AI "reached") AB) D3) (DL<|DG (tC<|.str "left") (tC<|.str "piece") AB) 1 [0]])
example:bR:=([0,1],[AO (BY (FU K<|AE<|AR K AB "record_marks") (FQ K 2<|DX (AF 0) (DX (AF 1) FO)) (A4<|AD (CG K) AI DJ) AB 2 []) (AF 1),AV<|BY (CN K AI) (AF 0) (A4<|AD GS (AD (BZ K) (AR K AI "record_values") AB) (tC .non)) (DL<|A9 (tC<|.str "marked") AB) 1 [0]])
example:bS:=([0,2,3],[AO (BY (EC<|AE AB) (AF 0) CQ D3 1 []) (AF 2),U0 K AQ BC DJ Q1,DT (CN K AI) (AF 3) (bS1 K a E E),AV AQ])
example:wA:=([0,3,4],[AO (CD BK) (AF 1),CM<|D6 K "list" (Y1 K) AI (AE<|BG K AQ 1),BH (A4<|AD G9 AQ<|tC .non) (wA1 K a E E) BV,DT (CN K AB) (AF 2) (wA2 K a E E),AV AI])
example:wB:=([0,1,2],[CS K AB AI "place",CS K AB AQ "value",CS K AB BC "needs"])
example:wC:=([0],[AV (BY (EC<|AE<|CA (DZ K) (AE<|AR K AB "made")) (AF 0) (A4<|IR AB<|AR K AI "outs") AB 1 [0])])
example:wD:=([0],[AV (BG K (AR K (AD (BZ K) (AR K AB "made") AI) "place") 0)])
example:wG:=([2],[FH (a "NoChange") E (AE<|tC<|.str "there is no change of such a number"),BH (FB<|A4<|FI EF GP D3 AQ<|CA (DZ K) (AE<|AR K AB "made")) (wG0 K a E E) BV,DT (CN K AI) (AF 2) (wG1 K a E E)])
example:WT:=([1,2],[AV (CA (MB K) (AE<|UW K AB)),BH (A4<|AD GS AI<|tC .non) (WT0 K a E E) BV,AV<|CA (MB K) (AE<|UW K<|AD (A8 K) (CA (MA K) (AE AB)) (CD<|AE AI))])
example:wL:=([2,3],[AV BC,BH (M3 (A4<|IR BC<|AR K AB "outs") (A4<|IR BC AQ)) (wL0 K a E E) BV,DT (CN K<|AR K (AD (BZ K) (AR K AB "made") AI) "needs") (AF 3) (wL1 K a E E),AV<|tC .non])
example:wO:=([0,3,4],[AO (CA (MA K) (AE AI)) (AF 3),AO (AR K (AD (BZ K) (AR K AB "made") BT) "value") (QT BC (BG K (AR K (AD (BZ K) (AR K AB "made") BT) "place") 1) RB),BH (A4<|JL BT<|AR K AB "outs") (wO1 K a E E) BV,DT (CN K<|AD (BZ K) (AR K AB "made_in") AQ) (AF 4) (wO2 K a E E),AV BC])
example:bT:=([0],[AV (L9 (FI EF EF (tC<|.str " ") AB (tC<|.str "~")) (AD (DY K) (CA (RE K) (AE AB)) (DM 37)))])
example:bU:=([0],[AV (L9 (FI EF EF DJ (CA (DZ K) (AE AB)) ST) (CA (NG K) (AE<|BY (OK AB) (AF 0) CQ (FI EF EF (tC<|.str "a") AB (tC<|.str "z")) 1 [])))])
example:wR:=([0],[AV (AR K AB "plan")])
example:wS:=([0],[AV (AR K AB "book")])
example:wT:=([0],[AV (AR K AB "ground")])
example:bV:=([1,2],[AV (tC<|.bl false),BH (M4 (FB<|A4<|FI EF EF DJ (CA (DZ K) (AE AB)) JY) (FB<|F9 K<|CA (NG K) (AE<|BY (OK AB) (AF 0) CQ (FI EF EF (tC<|.str "0") AB (tC<|.str "9")) 1 []))) (bV0 K a E E) BV,AV<|RN (AD (CG K) AB (tC<|.str "0")) (AD (DY K) (BG K AB 0) (tC<|.str "0"))])
example:bW:=([0,1,2],[AO (CA (DZ K) (AE<|BG K AB 0)) (AF 1),AO (CA (DZ K) (AE<|BG K AB 1)) (AF 2),AV<|ZC " " AI AQ])
example:bX:=([0],[AV (T7 (A4<|AD IN (CA (DZ K) (AE AB)) D3) (D6 K "str" (L5 K) (tC<|.str " ") (AE AB)) (tC<|.str "-"))])
example:bY:=([0,1,2],[CS K AB (BY (EC<|AE AI) (AF 0) CQ (AD (GQ K) (DL<|AE<|tC .non) AI) 1 [2]) "contents",CS K AB AQ "width",CS K AB D3 "written"])
example:w8:=([0],[AV (CA (DZ K) (AE<|AR K AB "contents"))])
example:w9:=([0],[AV (AR K AB "width")])
example:xA:=([0],[AV (AR K AB "written")])
example:bZ:=([1],[FH (a "NoBlock") E (AE<|tC<|.str "there is no such block"),BH (FB<|A4<|FI EF GP D3 AI<|CA (DZ K) (AE<|AR K AB "contents")) (bZ0 K a E E) BV])
example:xC:=([0,1,2,3],[CS K AB AI "name_blocks",CS K AB AQ "record_blocks",CS K AB BC "piece_blocks",CS K AB BT "width"])
example:xD:=([0],[AV (DL<|DG (AD (GQ K) (AR K AB "name_blocks") (AR K AB "width")) (AD (GQ K) (AR K AB "record_blocks") (AR K AB "width")) (AD (GQ K) (AR K AB "piece_blocks") (AR K AB "width")))])
example:xE:=([0],[AV (AD (A8 K) (AD (A8 K) (AR K AB "name_blocks") (AR K AB "record_blocks")) (AR K AB "piece_blocks"))])
example:xF:=([0],[AV (DL<|A9 (AD (A8 K) AI (AD DA AQ<|AR K AB "width")) (AD CU AQ<|AR K AB "width"))])
example:b0:=([1,2],[AV (AD (BZ K) AB AI),BH (A4<|AD GP AI<|CA (DZ K) (AE AB)) (b00 K a E E) BV,AV D3])
example:cA:=([0,1,2,5,6,7,8,9,10],[AO (tC<|.str "abcdefghijklmnopqrstuvwxyz") (AF 1),AO (tC<|.str "") (AF 2),AO (AD DA AB WR) (AF 3),AO (AD (A8 K) AQ (AD (BZ K) AI (AD CU (AD (A8 K) BC (AD (GQ K) (AD (GQ K) bM BT) (AD CU (AD DA BC<|DM 26) MP))) (DM 26)))) (AF 2),AO (AD (A8 K) (AD DA BC<|DM 29) (AD (GQ K) JY BT)) (AF 3),DT (EC<|AE<|AD (A8 K) DJ (AD CU AB WR)) (AF 4) (AH (cA3 K a E E) (cA4 K a E E)),AO (AD CU (AD DA AB bM) (CA (DZ K) (AE AQ))) (AF 5),AO (AD (BZ K) AI (AD CU (AD DA AB<|DM 11) (DM 26))) (AF 6),AO (AD (BZ K) AI (AD CU (AD (A8 K) (AD (A8 K) (AD DA AB<|DM 11) DJ) (AD CU (AD DA AB<|DM 13) (DM 25))) (DM 26))) (AF 7),AO (AD (BZ K) AI (AD CU (AD (A8 K) (AD (A8 K) (D6 K "str" tU AI<|AE<|AD (BZ K) AQ CP) DJ) (AD CU (AD DA AB<|DM 17) (DM 25))) (DM 26))) (AF 8),AV<|CD<|DN AQ<|JZ (AD (A8 K) AQ NW) (AD (A8 K) FF AQ) (AD (A8 K) (AD (A8 K) (LR (L4 K) AQ LQ (JM CP)) bN) (LR (L4 K) AQ (JM<|AD (A8 K) CP DJ) LQ)) (AD (A8 K) (AD (A8 K) AQ NW) FF)])
example:cE:=([0,1,2,4,5,6,7],[AO (tC<|.str " !\"#$&'()*+,-./0123456789:;<=>?@ABCDEFGHIJKLMNOPQRSTUVWXYZ[\\]^_`") (AF 1),AO (AD (A8 K) AI (tC<|.str "abcdefghijklmnopqrstuvwxyz{|}~")) (AF 1),AO (AD (A8 K) DJ (AD CU AB MP)) (AF 2),AO (AD U7 (DM 40) (AD CU (AD DA AB<|DM 40) PU)) (AF 2),BH (A4<|AD (CG K) (AD CU (AD DA AB MP) ST) JY) (cE3 K a E E) BV,AO (AD (A8 K) DJ (AD CU (AD DA AB<|DM 19) (DM 93))) (AF 3),AO (AD (A8 K) DJ (AD CU (AD DA AB bM) JY)) (AF 4),AV<|D6 K "str" (L5 K) (tC<|.str "") (AE<|BY (EC<|AE AQ) (AF 0) CQ (AD (BZ K) AI (AD CU (AD (A8 K) (AD DA AQ JY) (AD (GQ K) BC (AD DA AB BT))) (DM 94))) 1 [1,0,3,4])])
example:cF:=([1,2],[AV (AD CU (AD DA AB<|DM 20) (DM 1000)),BH (A4<|AD (CG K) (AD CU (AD DA AB MP) bL) D3) (cF0 K a E E) BV,AV<|AD CU AB MP])
example:cG:=([1,2],[AV (tC<|.str "-"),BH (A4<|AD (CG K) AB (CD BK)) (cG0 K a E E) BV,AV<|D6 K "str" (L5 K) (tC<|.str " ") (AE AB)])
example:cH:=([0,1,2,3],[AO (BY (CN K<|AM (a "View") "pieces_named" (SB K a) E AB BK) (AF 0) (A4<|AD IN (AD (BZ K) (AR K AI "namings") AB) DJ) (DL<|A9 (tC<|.str "shared") AB) 1 [0]) (AF 1),AO (BY (CN K<|AM (a "View") "pieces_named" (SB K a) E AB BK) (AF 0) (A4<|AD GS (AD (BZ K) (AR K AI "piece_values") AB) (tC .non)) (DL<|A9 (tC<|.str "empty") AB) 1 [0]) (AF 2),AO (BY (CN K<|AM (a "View") "records_standing" (WH K a) E AB BK) (AF 0) (A4<|AD GP (AM (a "View") "count_of" (WI K a) (λ_=>E0) AI (AE AB)) (AD (BZ K) (AR K AI "leads") AB)) (DL<|A9 (tC<|.str "few") AB) 1 [0]) (AF 3),AV<|AD (A8 K) (AD (A8 K) AI AQ) BC])
example:cI:=([0,1,2,3],[AO (BY (FU K<|AE<|AR K AB "leads") (FQ K 2<|DX (AF 0) (DX (AF 1) FO)) (A4<|AD IN AI D3) AB 2 []) (AF 1),AO (BY (CN K AI) (AF 0) (A4<|AD (DY K) (AD (BZ K) (AR K AI "record_marks") AB) DJ) (DL<|DG (tC<|.str "free") (tC<|.str "record") AB) 1 [0]) (AF 2),AO (BY (CN K<|AM (a "View") "pieces_named" (SB K a) E AB BK) (AF 0) (A4<|AD (DY K) (AD (BZ K) (AR K AI "piece_marks") AB) DJ) (DL<|DG (tC<|.str "free") (tC<|.str "piece") AB) 1 [0]) (AF 3),AV<|AD (A8 K) AQ BC])
example:yM:=([0,1,7,8],[AO (CD BK) (AF 1),AO (CD BK) (AF 2),AO (AD (BZ K) (AR K AB "leads") BC) (AF 4),CM<|D6 K "list" FV AQ<|AE<|DL<|DG (tC<|.str "left") (tC<|.str "record") BC,CM<|D6 K "list" FV AI<|AE<|DL<|DG (tC<|.str "many") BC BT,BH (A4<|AD IN (AM (a "View") "count_of" (WI K a) E AB (AE BC)) BT) (yM4 K a E E) BV,BH (A4<|AD (CG K) BT D3) (yM3 K a E E) (yM5 K a E E),DT (CN K<|AM (a "View") "records_standing" (WH K a) E AB BK) (AF 3) (AH (yM2 K a E E) (yM6 K a E E)),AV<|AD (A8 K) AI AQ])
example:cJ:=([0,1,2,3,4],[CS K AB AI "ground",CS K AB (CD BK) "made",CS K AB (BY (EC<|AE<|AM (a "Plank") "blocks" (RP K a) E AI BK) (AF 0) CQ (CD BK) 1 []) "made_in",CS K AB Q9 "latest",CS K AB KN "outs"])
example:zF:=([0,1,3,7,8],[CM (AM (a "Hold") "ask_for_changes" (VU K a) E AB (AE AI)),AO KN<|AF 2,HA AQ BC<|tC<|.bl true,DT (CN K AI) (AF 3) (zF2 K a E E),HA AQ BT<|tC<|.bl true,DT (CN K<|AR K (AD (BZ K) (AR K AB "made") BC) "needs") (AF 4) (zF4 K a E E),BH (A4<|JL BC AQ) (zF5 K a E E) BV,DT (UY K<|AE<|AM (a "Hold") "waiting" (VW K a) E AB BK) (AF 3) (zF6 K a E E),AV<|BY (CN K<|AM (a "Hold") "waiting" (VW K a) E AB BK) (AF 0) (A4<|JL AB AI) AB 1 [2]])
example:zG:=([1],[FH (a "NoBlock") E (AE<|tC<|.str "there is no such place on the plank"),BH (M4 (FB<|A4<|FI EF GP D3 (BG K AI 0) (AM (a "Plank") "blocks" (RP K a) E (AR K AB "ground") BK)) (FB<|A4<|FI EF GP D3 (BG K AI 1) (AM (a "Plank") "cells" (ZM K a) E (AR K AB "ground") BK))) (zG0 K a E E) BV])
example:cN:=([0,1,2,9,10],[AO (CA (RH K) (AE AQ)) (AF 3),AO (CD BK) (AF 4),AO (CD BK) (AF 5),AO (AM (a "Hold") "lack_of" (Z7 K a) E AB (A9 FF BC)) (AF 7),HA BC FF<|tC<|.bl true,CM<|D6 K "list" FV BT<|AE FF,CM<|D6 K "list" FV CP<|AE<|DL<|A9 FF NW,BH (A4<|AD GS NW<|tC .non) (AH (cN4 K a E E) (cN5 K a E E)) (cN6 K a E E),BH (M3 (A4<|IR FF<|AR K AB "outs") (A4<|IR FF BC)) (AH (cN3 K a E E) (cN7 K a E E)) BV,DT (CN K<|AD (BZ K) (AR K AB "made_in") AI) (AF 6) (cN8 K a E E),AV<|DL<|A9 BT CP])
example:cO:=([0],[AV (L9 (FI EF EF DJ (CA (DZ K) (AE AB)) (DM 40)) (CA (NG K) (AE<|BY (OK AB) (AF 0) CQ (BE (aE K a) (λ_=>E0) (AE AB)) 1 [])))])
example:Al:=([0,2,3,5,7,8],[AO (BG K (D6 K "str" uF AB<|AE<|tC<|.str " ") 0) (AF 1),FH (a "NoRow") E (AE<|tC<|.str "the row begins with no word that is known"),BH (A4<|ZD PQ AI) (Al1 K a E E) BV,AO (T7 (A4<|AD (CG K) AI (tC<|.str "put")) (D6 K "str" Y9 AB<|A9 (tC<|.str " ") PU) (D6 K "str" Y9 AB<|AE<|tC<|.str " ")) (AF 2),FH (a "NoRow") E (AE<|tC<|.str "the row has too few words or too many"),BH (A4<|AD (DY K) (CA (DZ K) (AE AQ)) (ZE PQ AI)) (Al4 K a E E) BV,FH (a "NoRow") E (AE<|tC<|.str "the last word is no number of one to three figures"),BH (M3 (A4<|AD (RI K) AI (tC<|.ref<|a "WITH_A_NUMBER_LAST")) (FB<|F9 K<|BE (aY K a) E (AE<|AD (BZ K) AQ (OC ON DJ)))) (Al6 K a E E) BV,AV AQ])
example:cS:=([0,1],[CM (AM (a "Plank") "ask_for_block" (OT K a) E AB (AE AI)),AV<|CA (MA K) (AE<|AD (BZ K) (AR K AB "contents") AI)])
example:cT:=([0,2,3,4],[CM (AM (a "Plank") "ask_for_block" (OT K a) E AB (AE AI)),FH (a "NoBlock") E (AE<|tC<|.str "the list is not as long as a block"),BH (A4<|AD (DY K) (CA (DZ K) (AE AQ)) (AR K AB "width")) (cT1 K a E E) BV,AO (CA (MB K) (AE AQ)) (QT (AR K AB "contents") AI RB),UF K AB DJ Q1 "written"])
example:Ax:=([0],[AV (AM (a "Layout") "place_from" (NJ K a) E AB (A9 D3 AI))])
example:Ay:=([0],[AV (AM (a "Layout") "place_from" (NJ K a) E AB (A9 (AR K AB "name_blocks") AI))])
example:Az:=([0],[AV (AM (a "Layout") "place_from" (NJ K a) E AB (A9 (AD (A8 K) (AR K AB "name_blocks") (AR K AB "record_blocks")) AI))])
example:Bb:=([0],[AV (AM (a "Layout") "place_from" (NJ K a) E AB (A9 (AM (a "Layout") "blocks_ahead_of_marks" (RY K a) E AB BK) AI))])
example:Bc:=([0],[AV (AM (a "Layout") "place_from" (NJ K a) E AB (A9 (AD (A8 K) (AM (a "Layout") "blocks_ahead_of_marks" (RY K a) E AB BK) (AR K AB "record_blocks")) AI))])
example:Bd:=([0],[AV (AD (A8 K) (AD (A8 K) (AM (a "Layout") "blocks_ahead_of_marks" (RY K a) E AB BK) (AR K AB "record_blocks")) (AR K AB "piece_blocks"))])
example:cU:=([0,1,2,3],[AO (CD<|JZ (AD (A8 K) (tC<|.str "make ") AI) (AD (A8 K) (tC<|.str "make ") AI) (AD (A8 K) (AD (A8 K) (AD (A8 K) (tC<|.str "link ") AI) (tC<|.str " ")) AQ) (AD (A8 K) (tC<|.str "cut ") AI)) (AF 4),AO (AD (A8 K) BT (CD<|A9 (AD (A8 K) (AD (A8 K) (AD (A8 K) (tC<|.str "put ") AI) (tC<|.str " ")) (BE (SN K a) E (AE BC))) (AD (A8 K) (AD (A8 K) (AD (A8 K) (tC<|.str "put ") AI) (tC<|.str " ")) (BE (SN K a) E (AE BC))))) (AF 4),AO (AD (A8 K) BT (CD<|A9 (AD (A8 K) (AD (A8 K) (AD (A8 K) (tC<|.str "take ") AI) (tC<|.str " ")) (CA (KZ K) (AE<|BE (WN K a) E (AE BC)))) (AD (A8 K) (AD (A8 K) (AD (A8 K) (tC<|.str "move ") AI) (tC<|.str " ")) AQ))) (AF 4),AV<|AD (BZ K) BT AB])
example:Bm:=([0],[AV (AD (A8 K) (AD (A8 K) (BE (aM K a) E (AE AB)) (BE (aN K a) E (AE AB))) (BE (aO K a) E (AE AB)))])
example:Bp:=([0],[AV (AD (A8 K) (AD (A8 K) (BE (aP K a) E (AE AB)) (BE (aQ K a) E (AE AB))) (BE (aR K a) E (AE AB)))])
example:Bq:=([0],[AV (BY (CN K AI) (FQ K 2<|DX (AF 0) (DX (AF 1) FO)) CQ (AD (BZ K) (AM (a "Plank") "read" (K1 K a) (λ_=>E0) AQ (AE AB)) AI) 2 [0])])
example:cV:=([2,4,6,7],[AO (AM (a "Layout") "record_at" (HW K a) E AB (AE<|BG K AQ 1)) (AF 3),AV<|NI [ (BC ,(DL<|A9 (BG K AQ 2) (BG K (AD (BZ K) (AM (a "Plank") "read" (K1 K a) E AI (AE<|BG K BC 0)) (BG K BC 1)) 1))) ],BH (A4<|AD (CG K) (BG K AQ 0) (tC<|.str "many")) (AH (cV0 K a E E) (cV1 K a E E)) BV,AV<|NI [ ((AM (a "Layout") "record_mark" (K3 K a) E AB (AE<|BG K AQ 1)) ,D3) ],BH (A4<|AD (CG K) (BG K AQ 0) (tC<|.str "marked")) (cV3 K a E E) BV,AV<|NI [ ((AM (a "Layout") "record_at" (HW K a) E AB (AE<|BG K AQ 2)) ,(tC .non)) ,((AM (a "Layout") "record_mark" (K3 K a) E AB (AE<|BG K AQ 2)) ,D3) ],BH (A4<|AD (CG K) (BG K AQ 1) (tC<|.str "record")) (cV5 K a E E) BV,AV<|NI [ ((AM (a "Layout") "piece_mark" (K4 K a) E AB (AE<|BG K AQ 2)) ,D3) ]])
example:cW:=([4],[AO (AM (a "Plank") "read" (K1 K a) E AB (AE AQ)) (AF 3),AO (BY (FU K<|AE BC) (FQ K 2<|DX (AF 0) (DX (AF 1) FO)) CQ (X9 AQ (DL<|A9 BC AB) AI) 2 [1,2]) (AF 4),CM<|AM (a "Plank") "write" (VE K a) E AB (A9 AQ BT),BH (A4<|AD (DY K) BT BC) (cW2 K a E E) BV,DT (EC<|AE<|AM (a "Plank") "blocks" (RP K a) E AB BK) (AF 2) (AH (cW0 K a E E) (AH (cW1 K a E E) (cW3 K a E E)))])
example:Cp:=([0,1,2,8,9],[AO (CD BK) (AF 2),AO KN<|AF 3,AO (AM (a "Hold") "closure" (Z5 K a) E AB (AE AI)) (AF 4),AO (AM (a "Hold") "block_of" (aA K a) E AB (AE<|BG K BT 0)) (AF 5),CM<|D6 K "list" FV AQ<|AE CP,HA BC FF<|tC<|.bl true,DT (CN K<|BG K (AM (a "Hold") "outcome" (VX K a) E AB (A9 CP BC)) 0) (AF 6) (Cp5 K a E E),AO (BY (CN K BT) (AF 0) (A4<|IR AB AI) AB 1 [3]) (AF 4),pX (F9 K BT) (AH (Cp3 K a E E) (AH (Cp4 K a E E) (AH (Cp6 K a E E) (Cp7 K a E E)))),AV AQ])
example:Cq:=([0,1],[CM (AM (a "Hold") "ask_for_place" (Z4 K a) E AB (AE AI)),AV<|OP (AR K AB "latest") AI])
example:Cw:=([0,1,3,4,5],[AO (AM (a "Plank") "read" (K1 K a) E (AR K AB "ground") (AE AI)) (AF 2),AO (AM (a "Hold") "outcome" (VX K a) E AB (A9 AI KN)) (AF 3),HA (AR K AB "outs") BT (tC<|.bl true),DT (CN K<|BG K BC 0) (AF 4) (Cw2 K a E E),CM<|AM (a "Plank") "write" (VE K a) E (AR K AB "ground") (A9 AI<|AM (a "Hold") "laid_over" (Z8 K a) E AB (A9 AQ AI)),AV BC])
example:Cy:=([0],[AV (F8 (a "Plank") (ZL K a) E (A9 (AM (a "Layout") "blocks" (RZ K a) E AB BK) (AR K AB "width")))])
example:Dl:=([0,1,2,3,4,5,6,7,8,9,10],[AO (AM (a "Layout") "counts" (NL K a) E AI BK) (AF 3),AO (BG K BC 1) (AF 4),AO (BG K BC 2) (AF 5),CS K AB (BE (MI K a) E (A9 AQ<|BY (EC<|AE<|BG K BC 0) (AF 0) CQ (AM (a "Layout") "name_at" (K2 K a) (λ_=>E0) AI (AE AB)) 1 [1])) "name_values",CS K AB (BE (MI K a) E (A9 AQ<|BY (EC<|AE BT) (AF 0) CQ (AM (a "Layout") "record_at" (HW K a) (λ_=>E0) AI (AE AB)) 1 [1])) "record_values",CS K AB (BE (MI K a) E (A9 AQ<|BY (EC<|AE CP) (AF 0) CQ (AM (a "Layout") "piece_at" (NK K a) (λ_=>E0) AI (AE AB)) 1 [1])) "piece_values",CS K AB (BE (MI K a) E (A9 AQ<|BY (EC<|AE BT) (AF 0) CQ (AM (a "Layout") "record_mark" (K3 K a) (λ_=>E0) AI (AE AB)) 1 [1])) "record_marks",CS K AB (BE (MI K a) E (A9 AQ<|BY (EC<|AE CP) (AF 0) CQ (AM (a "Layout") "piece_mark" (K4 K a) (λ_=>E0) AI (AE AB)) 1 [1])) "piece_marks",CS K AB (BE (R9 K a) E (A9 BT<|BY (CN K<|AR K AB "name_values") (AF 0) (A4<|AD G9 AB<|tC .non) (BG K AB 1) 1 [])) "leads",CS K AB (BE (R9 K a) E (A9 CP<|BE (WG K a) E (AE<|AR K AB "record_values"))) "namings",CS K AB (BE (R9 K a) E (A9 CP<|BE (WG K a) E (AE<|AM (a "View") "records_led_to" (aL K a) E AB BK))) "reached"])
example:Dm:=([0,1,2,3,4,5,6],[AO (AM (a "Hold") "newest" (R1 K a) E AB (AE AI)) (AF 4),CM<|AM (a "Hold") "ask_for_changes" (VU K a) E AB (AE BC),AO (CA (DZ K) (AE<|AR K AB "made")) (AF 5),CM<|D6 K "list" FV (AR K AB "made") (AE<|F8 (a "Change") (Z2 K a) E (DG AI AQ<|BE (Z3 K a) E (A9 BC BT))),CM<|D6 K "list" FV (AD (BZ K) (AR K AB "made_in") (BG K AI 0)) (AE CP),HA (AR K AB "latest") AI CP,AV CP])
example:Dp:=([0,2,3],[AO (AM (a "Hold") "newest" (R1 K a) E AB (AE AI)) (AF 2),AV<|AD (BZ K) (AM (a "Plank") "read" (K1 K a) E (AR K AB "ground") (AE<|BG K AI 0)) (BG K AI 1),BH (A4<|AD GS AQ<|tC .non) (Dp1 K a E E) BV,AV<|AR K (AD (BZ K) (AR K AB "made") AQ) "value"])
example:Dq:=([0,1,2],[CS K AB AI "plan",CS K AB (F8 (a "Hold") (VT K a) E (AE AQ)) "book",CS K AB KN "taken_out"])
example:Dv:=([0],[AV (AM (a "Hold") "write" (Z9 K a) E (AR K AB "book") (AE AI))])
example:Dw:=([2,3],[AV BC,BH (A4<|AD (RJ K) (AM (a "Hold") "in_hand" (OX K a) E AB (AE BT)) AQ) (Dw0 K a E E) BV,DT (FU K<|AE AI) (KW K 2<|HB (AF 3) (HB (AF 4) KY)) (Dw1 K a E E),FH (a "NoRoom") E (AE<|tC<|.str "nothing of what is to be taken is free")])
example:cX:=([0],[AV (BY (EC<|AE<|BG K (AM (a "Layout") "counts" (NL K a) E (AR K AB "plan") BK) 0) (AF 0) CQ (AM (a "Hold") "in_hand" (OX K a) (λ_=>E0) (AR K AI "book") (AE<|AM (a "Layout") "name_at" (K2 K a) (λ_=>E0) (AR K AI "plan") (AE AB))) 1 [0])])
example:cY:=([0],[AV (AM (a "Hold") "in_hand" (OX K a) E (AR K AB "book") (AE<|AM (a "Layout") "record_at" (HW K a) E (AR K AB "plan") (AE AI)))])
example:c7:=([0,2,3],[AO (CD<|AE BT) (AF 5),CM<|D6 K "list" FV CP<|AE<|OO (AR K AB "taken_out") AQ,BH (A4<|JL AQ<|AR K AB "taken_out") (c71 K a E E) BV,AV<|AM (a "Hold") "change" (GW K a) E (AR K AB "book") (DG (AM (a "Layout") "name_at" (K2 K a) E (AR K AB "plan") (AE AI)) (DL<|A9 AQ BC) CP)])
example:Eb:=([0,1],[AO (F8 (a "View") (SD K a) E (A9 AB AI)) (AF 2),AV<|AD (A8 K) (BE (WJ K a) E (AE AQ)) (BE (aS K a) E (AE AQ))])
example:c8:=([0],[AV (AD (CG K) (CA (DZ K) (AE<|BE (WJ K a) E (AE<|F8 (a "View") (SD K a) E (A9 AB AI)))) D3)])
example:c9:=([0,1],[AO (BY (EC<|AE<|BG K (AM (a "Layout") "counts" (NL K a) E AB BK) 0) (AF 0) CQ (AM (a "Layout") "name_at" (K2 K a) (λ_=>E0) AI (AE AB)) 1 [0]) (AF 2),AV<|BE (OY K a) E (DG AI AQ<|DL<|AE<|tC .non)])
example:dA:=([0,1],[AO (BY (EC<|AE<|BG K (AM (a "Layout") "counts" (NL K a) E AB BK) 1) (AF 0) CQ (AM (a "Layout") "record_mark" (K3 K a) (λ_=>E0) AI (AE AB)) 1 [0]) (AF 2),AV<|BE (OY K a) E (DG AI AQ<|DL<|A9 (tC .non) D3)])
example:dB:=([0,1],[AO (BY (EC<|AE<|BG K (AM (a "Layout") "counts" (NL K a) E AB BK) 2) (AF 0) CQ (AM (a "Layout") "piece_mark" (K4 K a) (λ_=>E0) AI (AE AB)) 1 [0]) (AF 2),AV<|BE (OY K a) E (DG AI AQ<|DL<|A9 (tC .non) D3)])
example:dC:=([0],[AV (CA (YY K) (AE<|BY (CN K<|AM (a "Store") "name_cells" (R4 K a) E AB BK) (AF 0) (A4<|AD G9 AB<|tC .non) (BG K AB 0) 1 []))])
example:Em:=([2,3],[AV AQ,BH (M3 (A4<|AD G9 BC<|tC .non) (A4<|AD (CG K) (BG K BC 0) AI)) (Em0 K a E E) BV,DT (FU K<|AE<|AM (a "Store") "name_cells" (R4 K a) E AB BK) (KW K 2<|HB (AF 2) (HB (AF 3) KY)) (Em1 K a E E),AV<|tC .non])
example:Ev:=([0,1],[AO (AM (a "Store") "standing" (JU K a) E AB (AE AI)) (AF 4),AV<|AM (a "Hold") "change" (GW K a) E (AR K AB "book") (DG (AM (a "Layout") "record_at" (HW K a) E (AR K AB "plan") (AE AI)) (DL<|A9 (AD (A8 K) (BG K BT 0) AQ) (BG K BT 1)) BC)])
example:dD:=([0],[AV (AM (a "Hold") "change" (GW K a) E (AR K AB "book") (DG (AM (a "Layout") "record_at" (HW K a) E (AR K AB "plan") (AE AI)) (DL<|A9 (BG K (AM (a "Store") "standing" (JU K a) E AB (AE AI)) 0) AQ) BC))])
example:Fd:=([0,1,2,4,5],[AO (BG K (AM (a "Store") "standing" (JU K a) E AB (AE AI)) 1) (AF 3),AO (AM (a "Hold") "change" (GW K a) E (AR K AB "book") (DG (AM (a "Layout") "record_at" (HW K a) E (AR K AB "plan") (AE AI)) (tC .non) (CD<|AE AQ))) (AF 4),AO (CD<|AE BT) (AF 5),CM<|D6 K "list" FV CP<|AE<|AM (a "Hold") "change" (GW K a) E (AR K AB "book") (DG FF D3<|CD<|AE BT),DT (CN K<|AD (A8 K) (BY (CN K BC) (AF 0) CQ (AM (a "Layout") "piece_mark" (K4 K a) (λ_=>E0) (AR K AI "plan") (AE AB)) 1 [0]) (CD<|AE<|AM (a "Layout") "record_mark" (K3 K a) E (AR K AB "plan") (AE AI))) (AF 6) (Fd3 K a E E),AV CP])
example:dE:=([0,1,2],[CS K AB AI "plan",CS K AB (AM (a "Layout") "plank" (VR K a) E AI BK) "ground",CS K AB (F8 (a "Store") (O1 K a) E (A9 AI<|AR K AB "ground")) "store"])
example:dF:=([1,2,3,5,6,7],[FH (a "NotSound") E (AE<|tC<|.str "the plank has faults"),BH (FB<|F9 K<|BE (aT K a) E (A9 AB AI)) (dF0 K a E E) BV,AO (BE (SE K a) E (A9 AB AI)) (AF 2),AO Q9<|AF 3,CM<|D6 K "dict" Y6 BC<|AE<|BE (aU K a) E (DG AB AI BT),DT (CN K AQ) (AF 4) (dF4 K a E E),CM<|BE (aV K a) E (A9 AI BC),AV AQ])
example:dG:=([1,3],[FH (a "NoName") E (AE<|tC<|.str "the text is no name"),BH (FB<|F9 K<|CA (NG K) (AE<|BY (CN K AQ) (AF 0) CQ (BE (aF K a) (λ_=>E0) (AE AB)) 1 [])) (dG0 K a E E) BV,FH (a "Twice") E (AE<|tC<|.str "the new name stands already"),BH (A4<|AD G9 (AM (a "Store") "cell_of" (O3 K a) E AB (AE AI)) (tC .non)) (dG2 K a E E) BV])
example:Fp:=([0,2,3],[AO (AM (a "Store") "cell_of" (O3 K a) E AB (AE AI)) (AF 2),FH (a "NoName") E (AE<|tC<|.str "no such name stands"),BH (A4<|AD GS AQ<|tC .non) (Fp1 K a E E) BV,AV<|BG K (AD (BZ K) (AM (a "Store") "name_cells" (R4 K a) E AB BK) AQ) 1])
example:dH:=([0,1,2],[AO (AM (a "Hold") "change" (GW K a) E (AR K AB "book") (DG (AM (a "Layout") "name_at" (K2 K a) E (AR K AB "plan") (AE<|AM (a "Store") "cell_of" (O3 K a) E AB (AE AI))) (tC .non) AQ)) (AF 3),HA (AR K AB "taken_out") AI BC,AV BC])
example:dJ:=([0,1,2,3,4,5],[CM (AM (a "Store") "ask_for_new_name" (WA K a) E AB (A9 AI<|CD<|AE AI)),AO (BE (aC K a) E (A9 (AR K AB "plan") (AR K AB "book"))) (AF 2),AO (BE (V0 K a) E (A9 (AR K AB "plan") (AR K AB "book"))) (AF 3),AO (AM (a "Hold") "change" (GW K a) E (AR K AB "book") (DG (AM (a "Layout") "record_mark" (K3 K a) E (AR K AB "plan") (AE AQ)) DJ (CD BK))) (AF 4),AO (AM (a "Hold") "change" (GW K a) E (AR K AB "book") (DG (AM (a "Layout") "record_at" (HW K a) E (AR K AB "plan") (AE AQ)) (DL<|A9 DJ<|DL BK) (CD<|AE BT))) (AF 5),AV<|CD<|DG BT CP<|AM (a "Store") "fill_cell" (WC K a) E AB (JZ BC AI AQ CP)])
example:dM:=([0,1,2,3,4],[CM (AM (a "Store") "ask_for_new_name" (WA K a) E AB (A9 AQ<|CD<|A9 AI AQ)),AO (AM (a "Store") "record_of" (K6 K a) E AB (AE AI)) (AF 3),AO (BE (V0 K a) E (A9 (AR K AB "plan") (AR K AB "book"))) (AF 4),AO (AM (a "Store") "recount" (R5 K a) E AB (DG BC DJ<|CD BK)) (AF 5),AV<|CD<|A9 CP<|AM (a "Store") "fill_cell" (WC K a) E AB (JZ BT AQ BC CP)])
example:Gh:=([0,1,3,4],[AO (AM (a "Store") "record_of" (K6 K a) E AB (AE AI)) (AF 2),AO (AM (a "Store") "empty_cell" (WE K a) E AB (A9 AI<|CD BK)) (AF 3),AV<|CD<|A9 BC<|AM (a "Store") "recount" (R5 K a) E AB (DG AQ (OC ON DJ) (CD<|AE BC)),BH (A4<|AD IN (BG K (AM (a "Store") "standing" (JU K a) E AB (AE AQ)) 0) DJ) (Gh2 K a E E) BV,AV<|AD (A8 K) (CD<|AE BC) (AM (a "Store") "drop_record" (aJ K a) E AB (A9 AQ BC))])
example:Gq:=([0,2,3,4,5,6],[AO (AM (a "Store") "record_of" (K6 K a) E AB (AE AI)) (AF 3),FH (a "NoPiece") E (AE<|tC<|.str "the text is none of a piece"),BH (FB<|F9 K<|BE (aG K a) E (AE AQ)) (Gq1 K a E E) BV,AO (BE (aD K a) E (A9 (AR K AB "plan") (AR K AB "book"))) (AF 4),AO (AM (a "Hold") "change" (GW K a) E (AR K AB "book") (DG (AM (a "Layout") "piece_mark" (K4 K a) E (AR K AB "plan") (AE BT)) DJ (CD BK))) (AF 5),AO (AM (a "Hold") "change" (GW K a) E (AR K AB "book") (DG (AM (a "Layout") "piece_at" (NK K a) E (AR K AB "plan") (AE BT)) AQ (CD<|AE CP))) (AF 6),AV<|CD<|DG CP FF<|AM (a "Store") "regroup" (WD K a) E AB (DG BC (AD (A8 K) (BG K (AM (a "Store") "standing" (JU K a) E AB (AE BC)) 1) (DL<|AE BT)) (CD<|AE FF))])
example:Gx:=([0,1,3,4,5],[AO (AM (a "Store") "record_of" (K6 K a) E AB (AE AI)) (AF 3),AO (BG K (AM (a "Store") "standing" (JU K a) E AB (AE BC)) 1) (AF 4),FH (a "NoPiece") E (AE<|tC<|.str "the record has no piece at that place"),BH (FB<|A4<|FI EF GP D3 AQ<|CA (DZ K) (AE BT)) (Gx2 K a E E) BV,AO (AM (a "Store") "regroup" (WD K a) E AB (DG BC (AD (A8 K) (LR (L4 K) BT LQ (JM AQ)) (LR (L4 K) BT (JM<|AD (A8 K) AQ DJ) LQ)) (CD BK))) (AF 5),AV<|CD<|A9 CP<|AM (a "Hold") "change" (GW K a) E (AR K AB "book") (DG (AM (a "Layout") "piece_mark" (K4 K a) E (AR K AB "plan") (AE<|AD (BZ K) BT AQ)) D3 (CD<|AE CP))])
example:Gy:=([0,1],[AO (BG K (AM (a "Store") "standing" (JU K a) E AB (AE<|AM (a "Store") "record_of" (K6 K a) E AB (AE AI))) 1) (AF 2),AV<|BY (CN K AQ) (AF 0) CQ (AM (a "Hold") "in_hand" (OX K a) (λ_=>E0) (AR K AI "book") (AE<|AM (a "Layout") "piece_at" (NK K a) (λ_=>E0) (AR K AI "plan") (AE AB))) 1 [0]])
example:Hc:=([0,1,2],[AO (AM (a "Store") "record_of" (K6 K a) E AB (AE AI)) (AF 2),AO (CD<|A9 (AM (a "Layout") "name_at" (K2 K a) E (AR K AB "plan") (AE<|AM (a "Store") "cell_of" (O3 K a) E AB (AE AI))) (AM (a "Layout") "record_at" (HW K a) E (AR K AB "plan") (AE AQ))) (AF 3),AV<|AD (A8 K) BC (BY (CN K<|BG K (AM (a "Store") "standing" (JU K a) E AB (AE AQ)) 1) (AF 0) CQ (AM (a "Layout") "piece_at" (NK K a) (λ_=>E0) (AR K AI "plan") (AE AB)) 1 [0])])
example:Hd:=([0,1],[CM (BE (aW K a) E (A9 AB AI)),AV<|F8 (a "Store") (O1 K a) E (A9 AB AI)])
example:Hj:=([0,1,2,3],[AO (AM (a "Store") "link" (NQ K a) E AB (A9 AI AQ)) (AF 3),AO (AM (a "Store") "record_of" (K6 K a) E AB (AE AI)) (AF 4),AO (AM (a "Store") "empty_cell" (WE K a) E AB (A9 AI<|CD<|AE<|BG K BC 1)) (AF 5),AV<|AD (A8 K) BC (CD<|A9 CP<|AM (a "Store") "recount" (R5 K a) E AB (DG BT (OC ON DJ) (CD<|AE CP)))])
example:Hm:=([0,1,2],[AO (AM (a "Store") "hold" (aH K a) E AB BK) (AF 2),AO (BY (CN K<|AM (a "Store") "places_of" (aK K a) E AB (AE AI)) (AF 0) CQ (AM (a "Hold") "newest" (R1 K a) (λ_=>E0) AI (AE AB)) 1 [2]) (AF 3),AV<|BE (aB K a) E (A9 AQ<|BY (CN K BC) (AF 0) (A4<|AD G9 AB<|tC .non) AB 1 [])])
example:dN:=([0,1,2],[AO (BE (SE K a) E (A9 (AR K AB "plan") (AR K AB "ground"))) (AF 1),CS K AB (BE (WK K a) E (A9 (AR K AB "plan") (AR K AB "ground"))) "store",AV<|CA (KZ K) (AE<|CA (DZ K) (AE AI))])
example:Jl:=([0,11],[AO (BG K AI 0) (AF 2),CM<|AM (a "Store") "make" (O4 K a) E AB (AE<|BG K AI 1),CM<|AM (a "Store") "link" (NQ K a) E AB (A9 (BG K AI 1) (BG K AI 2)),CM<|AM (a "Store") "cut" (O5 K a) E AB (AE<|BG K AI 1),CM<|AM (a "Store") "put" (O6 K a) E AB (A9 (BG K AI 1) (BG K AI 2)),CM<|AM (a "Store") "take" (O8 K a) E AB (A9 (BG K AI 1) (CA (ZB K) (AE<|BG K AI 2))),CM<|AM (a "Store") "move" (O9 K a) E AB (A9 (BG K AI 1) (BG K AI 2)),BH (A4<|AD (CG K) AQ (tC<|.str "take")) (Jl5 K a E E) (Jl6 K a E E),BH (A4<|AD (CG K) AQ (tC<|.str "put")) (Jl4 K a E E) (Jl7 K a E E),BH (A4<|AD (CG K) AQ (tC<|.str "cut")) (Jl3 K a E E) (Jl8 K a E E),BH (A4<|AD (CG K) AQ (tC<|.str "link")) (Jl2 K a E E) (Jl9 K a E E),BH (A4<|AD (CG K) AQ (tC<|.str "make")) (Jl1 K a E E) (Jl10 K a E E)])
example:dQ:=([0,2,4,6,7],[AO (BG K AI 0) (AF 2),AV<|BE (WL K a) E (AE<|AM (a "Store") "write" (SF K a) E AB (AE<|CA (ZB K) (AE<|BG K AI 1))),BH (A4<|AD (CG K) AQ (tC<|.str "write")) (dQ1 K a E E) BV,AV<|BE (SH K a) E (AE<|BY (CN K<|BE (ME K a) E (A9 AB<|BG K AI 1)) (AF 0) CQ (CA (KZ K) (AE AB)) 1 []),BH (A4<|AD (CG K) AQ (tC<|.str "keep")) (dQ3 K a E E) BV,AV<|D6 K "str" (L5 K) (tC<|.str "") (AE<|AM (a "Store") "texts" (O7 K a) E AB (AE<|BG K AI 1)),BH (A4<|AD (CG K) AQ (tC<|.str "show")) (dQ5 K a E E) BV,AV<|BE (SH K a) E (AE<|AM (a "Store") "names" (O2 K a) E AB BK)])
example:dR:=([10,11],[CM (AM (a "Store") "make" (O4 K a) E AB (AE AQ)),CM<|AM (a "Store") "link" (NQ K a) E AB (A9 AQ BC),CM<|AM (a "Store") "cut" (O5 K a) E AB (AE AQ),CM<|AM (a "Store") "put" (O6 K a) E AB (A9 AQ<|BE (SN K a) E (AE BT)),CM<|AM (a "Store") "take" (O8 K a) E AB (A9 AQ<|BE (WN K a) E (AE BT)),CM<|AM (a "Store") "move" (O9 K a) E AB (A9 AQ BC),BH (A4<|AD (CG K) AI WR) (dR4 K a E E) (dR5 K a E E),BH (A4<|AD GP AI WR) (dR3 K a E E) (dR6 K a E E),BH (A4<|AD (CG K) AI JY) (dR2 K a E E) (dR7 K a E E),BH (A4<|AD (CG K) AI PU) (dR1 K a E E) (dR8 K a E E),BH (A4<|AD GP AI PU) (dR0 K a E E) (dR9 K a E E),AV<|tC<|.str "ok"])
example:Kv:=([0,3,5,6],[AO (BE (aZ K a) E (AE AI)) (AF 2),CM<|BE (SI K a) E (A9 (AR K AB "store") AQ),AV<|tC<|.str "ok",BH (A4<|AD (RI K) (BG K AQ 0) (tC<|.ref<|a "DEEDS")) (AH (Kv1 K a E E) (Kv2 K a E E)) BV,AV<|AM (a "House") "come_up_again" (SK K a) E AB BK,BH (A4<|AD (CG K) (BG K AQ 0) (tC<|.str "stop")) (Kv4 K a E E) BV,AV<|BE (SJ K a) E (A9 (AR K AB "store") AQ)])
example:d0:=([0,8,9],[AO (tC<|.str "") (AF 6),AO (BE (bG K a) E1 (DN AI<|JZ AQ BC BT CP)) (AF 6),AO (AM (a "House") "say" (GG K a) E1 AB (AE<|BE (bC K a) E1 (JZ AQ BC BT CP))) (AF 6),BH (A4<|AD GS AB<|tC .non) (d01 K a E E1) (d02 K a E E1),AO (tC<|.str "NoRoom") (AF 6),AO (tC<|.str "NoPiece") (AF 6),AO (tC<|.str "Twice") (AF 6),AO (tC<|.str "NoName") (AF 6),NE (λE1=>(d03 K a E E1)) (G7 (λcls=>W.exmOne K cls<|.ref<|a "NoName") (d07 K a E E) (G7 (λcls=>W.exmOne K cls<|.ref<|a "Twice") (d06 K a E E) (G7 (λcls=>W.exmOne K cls<|.ref<|a "NoPiece") (d05 K a E E) (G7 (λcls=>W.exmOne K cls<|.ref<|a "NoRoom") (d04 K a E E) ND)))),AV FF])
example:d9:=([0,1,4,7,8],[AO (tC .non) (AF 3),AO (tC .non) (AF 4),AO (D6 K "str" (L5 K) (tC<|.str "") (AE<|AM (a "Store") "texts" (O7 K a) E1 AI (AE AQ))) (AF 4),AO (tC .non) (AF 4),NE (λE1=>(d92 K a E E1)) (G7 (λcls=>W.exmOne K cls<|.ref<|a "NoName") (d93 K a E E) ND),AO (AM (a "House") "say" (GG K a) E1 AB (AE<|AD (A8 K) (tC<|.str "show ") AQ)) (AF 3),AO (tC .non) (AF 3),NE (λE1=>(d95 K a E E1)) (G7 (λcls=>W.exmOne K cls<|.ref<|a "NoName") (d96 K a E E) ND),AV<|AD (CG K) BC BT])
example:eC:=([0,1,4,7,8],[AO (tC .non) (AF 3),AO (tC .non) (AF 4),AO (BE (WQ K a) E1 (AE<|BY (CN K<|BE (ME K a) E1 (A9 AI AQ)) (AF 0) CQ (CA (KZ K) (AE AB)) 1 [])) (AF 4),AO (tC .non) (AF 4),NE (λE1=>(eC2 K a E E1)) (G7 (λcls=>W.exmOne K cls<|.ref<|a "NoName") (eC3 K a E E) ND),AO (AM (a "House") "say" (GG K a) E1 AB (AE<|AD (A8 K) (tC<|.str "keep ") AQ)) (AF 3),AO (tC .non) (AF 3),NE (λE1=>(eC5 K a E E1)) (G7 (λcls=>W.exmOne K cls<|.ref<|a "NoName") (eC6 K a E E) ND),AV<|AD (CG K) BC BT])
example:eD:=([0,1,3,4],[AO (CA (KZ K) (AE<|CA (DZ K) (AE<|BE (SE K a) E (A9 AI AQ)))) (AF 3),AO (BE (WK K a) E (A9 AI AQ)) (AF 4),AV<|tC .non,BH (A4<|AD (DY K) (AM (a "House") "say" (GG K a) E AB (AE<|tC<|.str "stop")) BC) (eD2 K a E E) BV,AV BT])
example:eE:=([1,3,8,9],[AV (tC<|.bl false),BH (M4 (A4<|AD (DY K) (AM (a "House") "say" (GG K a) E AB (AE<|tC<|.str "names")) (BE (WQ K a) E (AE<|AM (a "Store") "names" (O2 K a) E AI BK))) (FB<|F9 K<|BE (bH K a) E (DG AB AI AQ))) (eE0 K a E E) BV,AV<|tC<|.bl false,BH (FB<|F9 K<|BE (bI K a) E (DG AB AI AQ)) (eE2 K a E E) BV,AO (AD CU (AD DA BC PU) (AM (a "Layout") "blocks" (RZ K a) E (AM (a "Store") "layout" (aI K a) E AI BK) BK)) (AF 4),AO (AM (a "Store") "write" (SF K a) E AI (AE BT)) (KW K 2<|HB (AF 5) (HB (AF 6) KY)),AV<|tC<|.bl false,BH (A4<|AD (DY K) (AM (a "House") "say" (GG K a) E AB (AE<|AD (A8 K) (tC<|.str "write ") (CA (KZ K) (AE BT)))) (AD (A8 K) (AD (A8 K) (CA (KZ K) (AE<|CA (DZ K) (AE CP))) (tC<|.str " ")) (CA (KZ K) (AE<|CA (DZ K) (AE FF))))) (eE6 K a E E) BV,BH (A4<|AD (CG K) (AD CU BC PU) D3) (AH (eE4 K a E E) (AH (eE5 K a E E) (eE7 K a E E))) BV,AV<|tC<|.bl true])
example:eL:=([0,1,2,3,4,5,6,19,22,23],[AO (BE (Z1 K a) E (A9 AB D3)) (AF 1),AO (F8 (a "Layout") (ZZ K a) E (JZ (AD (A8 K) DJ (AD CU AI JY)) (AD (A8 K) DJ (AD CU (AD DA AI JY) JY)) (AD (A8 K) DJ (AD CU (AD DA AI zmv) JY)) (AD (A8 K) DJ (AD CU (AD DA AI<|DM 27) bL)))) (AF 2),AO (F8 (a "House") (bA K a) E (AE AQ)) (AF 3),AO (AM (a "House") "plank" (a0 K a) E BC BK) (AF 4),AO (AM (a "Layout") "plank" (VR K a) E AQ BK) (AF 5),AO (F8 (a "Store") (O1 K a) E (A9 AQ CP)) (AF 6),AO (BE (bB K a) E (AE<|AD DA AI<|DM 108)) (AF 7),AO (BE (bK K a) E (DG BC AQ CP)) (AF 6),AV<|tC<|.bl false,BH (A4<|AD GS FF<|tC .non) (eL8 K a E E) BV,BH (A4<|AD (CG K) (AD CU (AD DA AI<|DM 17) (DM 11)) bL) (AH (eL7 K a E E) (eL9 K a E E)) BV,AO (AD (BZ K) NW (AD CU (AD DA AI ST) MP)) (AF 8),AO (AD (BZ K) NW (AD CU (AD DA AI<|DM 40) MP)) (AF 9),AO (BE (WP K a) E (DN (tC .non) (DN FF<|JZ (AD CU AI ST) bN vP (AD DA AI<|DM 200)))) (AF 10),AO (BE (WP K a) E (DN BC<|DN FF<|JZ (AD CU AI ST) bN vP (AD DA AI<|DM 200))) (AF 11),AV<|tC<|.bl false,BH (M4 (FB<|F9 K<|CA (YK K) (A9 vN<|tC<|.ty "str")) (A4<|AD (DY K) vN zmw)) (eL15 K a E E) BV,AV<|tC<|.bl false,BH (FB<|F9 K<|BE (bJ K a) E (JZ BC FF (AD (BZ K) NW (AD CU (AD DA AI<|DM 13) MP)) (AD DA AI<|DM 200))) (eL17 K a E E) BV,DT (CN K<|LR (L4 K) AB (JM DJ) LQ) (AF 1) (AH (eL10 K a E E) (AH (eL11 K a E E) (AH (eL12 K a E E) (AH (eL13 K a E E) (AH (eL14 K a E E) (AH (eL16 K a E E) (eL18 K a E E))))))),AV<|tC<|.bl false,BH (A4<|AD (DY K) (AM (a "Plank") "read" (K1 K a) E BT (AE vO)) (AM (a "Plank") "read" (K1 K a) E CP (AE vO))) (eL20 K a E E) BV,DT (EC<|AE<|AM (a "Layout") "blocks" (RZ K a) E AQ BK) (AF 12) (eL21 K a E E),AV<|AD (CG K) (AM (a "Plank") "writings" (VD K a) E BT BK) (AM (a "Plank") "writings" (VD K a) E CP BK)])
end
local macro_rules
 |`(tactic|erw [$l,*])=>do
  let g:=fun (s:String)=>((s.splitOn " ").map fun n=>Lean.mkIdent n.toName).toArray
  let a←(g "zdv zdw zdx zdy zdz zd0 zd1 zd2 zir zit zd3 zd4 zd5 ziw ziz zi8 zd6 zd7 zd8 zd9 zea zij zih zil zie zio zeb zec zed zee zef zeg zle zlh zlk zeh zei zej zek zel zlb zem zen zk0 zk4 zk1 zk5 zeo zh1 zh2 zh3 zh4 zh5 zh6 zh7 zh8 zh9 zia zi2 zi3 zi4 zi5 zi6 zep zeq zes zet zeu zey ze0 zez zje zjd zjf ze1 ze2 zew zev zex ze3 zjk zjl zjm zjn zjo zjp zjq zjr zjs zjt zju zjv zjw zjx zjy zjz zj0 zj1 zj2 zj3 zj4 zj5 ze4 zkb zke zkh zkk zkn zkq zkt zkw zgm zgn zgo zgj zgi zk9 zk8 zhd zht zhu zhv zhw zff zfe zhy zlv zlw zls").mapM fun n=>`(Lean.Parser.Tactic.simpLemma|↓$n:term)
  let b←(g "U7 CU DA rPw ON zdc Ends.drop AX zib zic cf mn List.reduceReplicate xr Nat.reduceSub oa jy List.getElem?_cons_zero List.getElem?_cons_succ w_ Option.join_some List.set_cons_zero List.set_cons_succ V.int.injEq V.ref.injEq V.bl.injEq V.str.injEq yx and_true true_and q1 q2 q3 q4 qL qR reduceCtorEq false_and and_false or_false false_or qF decide_eq_true_eq xf xz qD eq_self if_true l8 if_false ite_true Bool.true_eq_false qC qA Int.reduceToNat Int.reduceLT Int.reduceLE Int.reduceEq Nat.reduceLeDiff cj not_true_eq_false not_false_eq_true").mapM fun n=>`(Lean.Parser.Tactic.simpLemma|$n:term)
  let c<-l.getElems.mapM fun r=>let n:Lean.Term:=⟨r.raw[1]⟩;if s!"{n.raw.getId}".endsWith "_" then `(Lean.Parser.Tactic.simpLemma|↓$n:term) else `(Lean.Parser.Tactic.simpLemma|$n:term)
  `(tactic|simp only [$a,*,$b,*,$c,*])
def nO{H:Hp}{t:Addr}{o:HO}{P:Hp->Prop}(h:H t=none)(k:∀ H',Same H H'->H' t=some o->P H'):P (upd H t o):=k _ (AL h) AG
def EI{H:Hp}{t:Addr}{o:HO}(h:H t=none):∃ H',upd H t o=H'/\Same H H'/\H' t=some o:={_,rfl,AL h,AG}
section
variable{K:W.Frag}{a:Ad}{vs:eI}{H:Hp}{Q:VK}{E:XK}
local macro_rules
 |`(command|example:($n:ident,$x,*):=$t:term)=>do
  let q:=x.getElems
  let i:=Lean.mkIdent
  let l:Array Lean.Term:=(List.replicate (q[2]!.raw.isNatLit?.getD 0) (Lean.Syntax.mkStrLit "")).toArray
  let a<-`($(q[0]!) $(i `K) $(i `a) $(i `vs) $(i `H) $(i `Q) $(i `E))
  let b<-`($(q[1]!) $(i `K) $(i `a) (fun _=>$(i `E)) (AW $(i `Q)) (AX [$l,*] $(i `vs)) $(i `H))
  if q.size=4 then `(command|def $n:ident ($(i `h):ident : $a) : $b := $t) else `(command|def $n:ident : $a → $b := $t)
example:(zx7,Z1,b0,2):=by
 apply u3;intro s ns k [rfl,hs,c,q];erw[b0,b01_];refine{_,(.inl {_,hs,(ε _).symm}),?_};split;rename_i b;refine CJ hs rfl  ?_ q;unfold R0;simp[(c_.mp b)]
 have:R0 ns k=0:=by
  unfold R0;rw[vz,bd (by lia)];rfl
 rw[this]at q;exact q
example:(zx8,ZL,bY,3):=by
 apply u4;intro p I m w [rfl,T,v,x,h1,h2,q];erw[bY,bY0_];refine{i0,by lia,(NF (BP m<|oA x rfl) (λi ys H'=>Same H H'/\∃ d:List _,ys=d.map V.ref/\Paired (λt r=>H' t=some (.tup r)) d (az i<|az w .non)) {Same.refl _,[],rfl,.nil} (λi ys H' hi J c=>?_) (λys H' J c L n=>?_))};let[s,d,e,P]:=c
 have fin:∀ (t':Addr) (g:Hp),Same H' g->g t'=some _->Same H g/\∃ j:List _,ys++[V.ref t']=j.map _/\Paired (λt r=>g t=some (.tup r)) j (az _ _):=λt' g y M=>by
  refine{s.trans y,d++[t'],by rw[e,ak];rfl,?_};rw[List.replicate_succ'];exact Paired.snoc (Paired.mapP P λt r z=>y _ _ z) M
 refine{by decide,λt N=>.inr ?_}
 have A:Same H' (upd H' t<|.tup [V.non]):=λb o z=>by rw[AJ (BJ z N)];exact z
 refine x3 t w _ {rfl,rfl,SqT.of AG,by simp,by lia,by lia,BP _ (by simp;exact oA h2 rfl),λB=>?_,λB u O=>?_};refine fin t _ A ?_;rw[AG,(ca B)];rfl;rw[sU];exact fin u _ (A.trans λb o z=>by rw[AJ (BJ z O)];exact z) AG;let[s,d,e,P]:=c
 have l:=BJ (s _ _ v) n;refine y3 {(by rw[AJ l];exact s _ _ v),T.cl,T.nC,by decide,y3 {AG,T.cl,T.nW,KR (by decide),y3 {AG,T.cl,T.nN,KR  (oq (KR  (by decide))),?_}}};rw[GJ,GJ];refine q L _ (s.free n) {⟨I,AG⟩,{d,by rw[AJ l.symm,AG,e],?_},λr U=>?_,by simpa using x,h2} λb o D Y=>?_;refine Paired.mapP P λt r z=>?_;rw[AJ (BI z (s _ _ v) (by intro z';cases z')),AJ<|BJ z n];exact z;rw[pz U,uc];rw[AJ Y,AJ<|BJ (s _ _ D) n];exact s _ _ D
example:(zx9,RP,w8,1):=by
 apply u5;intro p b w rows n [rfl,T,P,q];let[c,h2,h3]:=P.ls;let[d,h1]:=P.ob;refine y3 {h1,T.cl,T.nC,_,OS _ _ _,_,.inl {_,SqL.of h2,?_},q};rw[ε,h3.length]
example:(zya,ZM,w9,1):=by
 apply u5;intro p b w rows n [rfl,T,P,q];let[c,h1]:=P.ob;exact y3 {h1,T.cl,T.nW,_,uN _ _ _,q}
example:(zyb,OT,bZ,2):=by
 apply u6;intro p d w rows n b [rfl,T,P,q,c];let[e,h2,h3]:=P.ls;let[g,h1]:=P.ob;erw[bZ,bZ1_];split;rename_i h0;refine y3 {h1,T.cl,T.nC,_,OS _ _ _,_,.inl {_,SqL.of h2,(by rw[ε,h3.length])},?_};split;exact{by decide,c (by lia)};exact q h0 (by lia);exact{by decide,c (by lia)}
def Pg(b:Addr)(w n:Int):(pf b w n).lookup ("ask_for_block":Str)=none:=JO _ _ _ (by decide) (by decide) (by decide)
example:(zyc,K1,cS,2):=by
 apply u6;intro p d w rows n b [rfl,T,P,q,e];let[o,h1]:=P.ob;let[r,h2,h3]:=P.ls;erw[cS,cS0_,OT];refine y2 {h1,Pg _ _ _,T,x3 d w _ {⟨n,P⟩,λh0 g=>y3 {h1,T.cl,T.nC,_,OS _ _ _,?_},e}};obtain⟨i,rfl⟩:∃ i:Nat,b=i:={_,(fm h0).symm}
 have c:=c_.mp g;let[t,j,l]:=KQ h3<|ι c;exact CJ (SqL.of h2) rfl (v:=.ref t) (by rw[ψ,j];rfl) {_,.inr<|SqT.of l,q i _ rfl<|ι c}
example:(zyd,VE,cT,3):=by
 apply u8;intro p g w rows n b v xs [rfl,T,P,y,M,q,A];let[B,h2,h3]:=P.ls;let[D,h1]:=P.ob
 have e:=P.ne;erw[cT,cT0_,cT2_,cT3_,cT4_,OT];refine y2 {h1,Pg _ _ _,T,x3 g w _ {⟨n,P⟩,λh0 I=>{_,.inl ⟨_,y,rfl⟩,y3 {h1,T.cl,T.nW,_,uN _ _ _,?_}},λz=>A<|z.imp id .inl}};obtain⟨i,rfl⟩:∃ i:Nat,b=i:={_,(fm h0).symm}
 erw[];split;exact{by decide,A (.inr (.inr (by lia)))}
 have J:xs.length=w:=by lia
 refine{xs,.inl {y,λt l=>?_}}
 have d:=BJ h1 l
 have j:=BJ h2 l;refine y3 {by rw[AJ d];exact h1,T.cl,T.nC,_,OS _ _ _,(x4 g _ i i {rfl,rfl,by rw[AJ j];exact h2,?_,?_})};unfold HP;rw[if_pos (i0),if_pos (by rw[ε,h3.length];exact I),cj];refine y3 {by rw[AJ e,AJ d];exact h1,T.cl,T.nN,_,uO _ _ _,?_};erw[];refine y2 {by rw[AJ e,AJ d];exact h1,by show 3<1000;decide,(q i rfl (c_.mp I) J _ {⟨D,AG⟩,{B.set i t,?_,?_},λr L=>?_,by rw[jx];exact P.sz,P.sw} λx o ex c=>?_)};rw[AJ e.symm,AG,List.map_set]
 have keep:∀ u r,H u=some (.tup r)->upd (upd (upd H t<|.tup xs) g (.lst<|(B.map V.ref).set i (.ref t))) p (.ins (a "Plank") D (pf g w<|n+1)) u=some _:=λu r s=>by
  rw[AJ (BI s h1 (by intro z;cases z)),AJ (BI s h2 (by intro z;cases z)),AJ<|BJ s l];exact s
 refine ze8 ?_ i<|Paired.mapP h3 keep;rw[AJ d.symm,AJ j.symm,AG];let z||z:=pd L
 exact P.wd r z;rw[z];exact J
 have c:x≠p/\x≠g:={λz=>c<|.inl z,λz=>c<|.inr z}
 rw[AJ c.1,AJ c.2,AJ<|BJ ex l];exact ex
def NX(b:Addr)(w n:Int):(pf b w n).lookup ("read":Str)=none:=JO _ _ _ (by decide) (by decide) (by decide)
def Ph(b:Addr)(w n:Int):(pf b w n).lookup ("write":Str)=none:=JO _ _ _ (by decide) (by decide) (by decide)
def Pj(b:Addr)(w n:Int):(pf b w n).lookup ("writings":Str)=none:=JO _ _ _ (by decide) (by decide) (by decide)
def FZ(h:fs.length<n):(BO f v fs).length<n+1:=cg (QY f v fs) (oq h)
def SameBut.none{b:Addr}{H c:Hp}{x:Addr}(s:SameBut (· =b) H c)(d:c b≠wy)(h:c x=wy):H x=wy:=by
 cases e:H x with
 |none=>rfl
 |some o =>
  have:x≠b:=λz=>d<|z ▸ h;rw[s _ _ e this]at h;cases h
example:(zye,Z2,wB,4):=by
 apply u5;intro x c d v e [rfl,T,b,q];refine y3 {b,T.cc,T.nP,by decide,y3 {AG,T.cc,T.nV,FZ  (by decide),y3 {AG,T.cc,T.nN,FZ  (FZ  (by decide)),?_}}};rw[GJ,GJ];exact q
example:(zyf,VT,cJ,2):=by
 apply u7;intro b B cl L w rows n [rfl,T,TP,P,M,q];erw[cJ,cJ0_,cJ1_,cJ2_]
 have e1:upd H b _ b=some (.ins (HX a) L (BO "ground" (.ref B) [])):=AG;refine y3 {M,T.cl,T.nG,by decide,by decide,?_}
 have s1:SameBut _ H (upd H b<|.ins (HX a) L (BO "ground" (.ref B) [])):=λx o e n=>by rw[AJ n];exact e
 revert e1 s1;generalize upd H b _=H1;intro e1 s1 m hm
 have N:=s1.none (by rw[e1];intro z;cases z) hm
 have nbm:=BJ e1 hm;refine y3 {by rw[AJ nbm];exact e1,T.cl,T.nM,FZ  (by decide),?_}
 have D:SameBut _ H (upd (upd H1 m<|.lst []) b (.ins (HX a) L (BO "made" (.ref m) (BO "ground" (.ref B) [])))):=(s1.upd<|.inr N).upd (.inl rfl)
 have e2:upd (upd H1 m<|.lst []) b _ b=some (.ins (HX a) L (BO "made" (.ref m) (BO "ground" (.ref B) []))):=AG
 have m2:upd (upd H1 m<|.lst []) b (.ins (HX a) L (BO "made" (.ref m) (BO "ground" (.ref B) []))) m=some (.lst []):=by rw[AJ nbm.symm,AG]
 revert D e2 m2;generalize upd _ b _=H2;intro D e2 m2
 have P2:PlankAt a H2 B cl w rows n:=by
  let[[dx',f1],[ts,f2,f3],r1,r2,r3]:=P;exact{{_,D _ _ f1 (BI f1 M (OU (by simp[pf])))},{ts,D _ _ f2 (BI f2 M (by intro z;cases z)),Paired.mapP f3 λt r z=>D _ _ z (BI z M (by intro z;cases z))},r1,r2,r3}
 let[dp,hp]:=P2.ob;refine y2 {hp,JO _ _ _ (by decide) (by decide) (by decide),x5 B cl w _ n {rfl,TP,P2,i0,by have:=P.sz;lia,?_}};rw[cj];refine NF (BP _<|oA P.sz rfl) (λi ys H'=>Same H2 H'/\∃ g:List _,ys=g.map V.ref/\g.Nodup/\∀ l∈g,H' l=some (.lst [])/\H2 l=none) {Same.refl _,[],rfl,jn,by simp} (λi ys H' hi hl O=>?_) (λys H' hl O p IH=>?_);let[s,g,ey,nd,al]:=O;refine{by decide,λl c=>{s.trans<|AL c,g++[l],by rw[ey,ak];rfl,(mz.mpr {nd,by simp,λx I y hy e=>by rw[aa]at hy;subst hy e;rw[(al _ I).1]at c;cases c}),λx I=>?_}};let I||I:=bh.mp I
 exact{AL c _ _ (al x I).1,(al x I).2};rw[aa.mp I];exact{AG,s.free c};let[s,g,ey,nd,al]:=O
 have s3:SameBut (· =b) H (upd H' p<|.lst ys):=by
  intro x o e nx
  have e':=s _ _<|D _ _ e nx;rw[AJ (BJ e' IH)];exact e'
 have e3:upd H' p (.lst ys) b=some (.ins (HX a) L (BO "made" (.ref m) (BO "ground" (.ref B) []))):=by rw[AJ (BJ (s _ _ e2) IH)];exact s _ _ e2
 have m3:upd H' p (.lst ys) m=some (.lst []):=by rw[AJ (BJ (s _ _ m2) IH)];exact s _ _ m2
 have i3:upd H' p (.lst ys) p=some (.lst<|g.map V.ref):=by rw[AG,ey]
 have U:∀ l∈g,upd H' p (.lst ys) l=some _/\H l=none/\l≠p/\l≠m:=λl c=>by
  have z:=al l c
  have d:=BJ z.1 IH;exact{by rw[AJ d];exact z.1,D.none (by rw[e2];intro z;cases z) z.2,d,λy=>by rw[y,m2]at z;cases z.2}
 have J:=D.none (by rw[e2];intro z;cases z) (s.free IH);revert s3 e3 m3 i3 U;generalize upd H' p _=H3;refine λs3 e3 m3 i3 U=>y3 {e3,T.cl,T.nI,FZ  (FZ  (by decide)),λlt A0=>?_}
 have u:=BJ AG A0;rw[AJ u.symm]at A0;refine y3 {by rw[AJ u,AG],T.cl,T.nL,FZ  (FZ  (FZ  (by decide))),λou EJ=>?_}
 have A:=BJ AG EJ;rw[AJ A.symm]at EJ
 have nl5:=BJ AG EJ;rw[AJ nl5.symm,AJ A.symm]at EJ;refine y3 {by rw[AJ A,AG],T.cl,T.nO,FZ  (FZ  (FZ  (FZ  (by decide)))),?_};rw[zma];generalize eH:upd _ b _=H5
 have kp:∀ x,x≠b->x≠lt->x≠ou->H5 x=H3 x:=λx d n2 n3=>by rw[<-eH,AJ d,AJ n3,AJ d,AJ n2,AJ d]
 have kk:∀ x o,H3 x=some o->x≠b->H5 x=some o:=λx o e d=>by rw[kp x d (BJ e A0) (BJ e EJ)];exact e
 have s5:=λx o e d=>kk x o (s3 _ _ e d) d
 have Y:∀ x xs,H3 x=some (.lst xs)->x≠b:=λx xs e=>BI e e3 (by intro z;cases z);refine q m p lt ou g H5 N J (s3.none (by rw[e3];intro z;cases z) A0) (s3.none (by rw[e3];intro z;cases z) EJ) (λl c=>(U l c).2.1) {{{L,by rw[<-eH,AG]},{[],kk _ _ m3<|Y _ _ m3,.nil},kk _ _ i3<|Y _ _ i3,λi l e=>?_,nd,{[],?_,λi j=>rfl,π _},{[],(by rw[<-eH,AJ A.symm,AG]),λk=>rfl,jn,by simp},by simp,by simp,by simp,{(BJ (s _ _ m2) IH),(λz=>(U _ z).2.2.2 rfl),(λz=>(U _ z).2.2.1 rfl),?_,?_,?_},by simp},?_,(by rw[<-hl,ey,ε])} s5
 have z:=U l<|θ e;exact kk _ _ z.1<|Y _ _ z.1;rw[<-eH,AJ u.symm,AJ nl5,AJ u.symm,AG];let[ts,z,v]:=P.ls;exact BJ z N;let[ts,z,v]:=P.ls;exact BJ z J;let[ts,z,v]:=P.ls;exact λy=>by rw[(U _ y).2.1]at z;cases z
 let[[dx',f1],[ts,f2,f3],r1,r2,r3]:=P;exact{{_,s5 _ _ f1 (BI f1 M (OU (by simp[pf])))},{ts,s5 _ _ f2 (BI f2 M (by intro z;cases z)),Paired.mapP f3 λt r z=>s5 _ _ z (BI z M (by intro z;cases z))},r1,r2,r3}
example:(zyg,Z3,WT,2):=by
 apply u3;intro nl ns o [rfl,hs,b,q];cases o with
 |none =>
  erw[WT,WT0_,WT1_];refine{ns,hs,oC b rfl,λx o D c d e r m l=>{_,.inl {SqL.of AG,λt g=>q t c _ (((AL d).trans (AL e)).trans (AL g)) AG r (λy=>?_) (ck l)}}};rw[m y];simp
 |some k =>
  erw[WT,WT1_,WT2_];refine{_,.inl hs,λl i=>{by decide,λp u=>.inl ?_}}
  have j:Same H (upd _ p<|.lst [.int k]):=(AL i).trans (AL u)
  have n:upd (upd H l<|.lst<|ns.map V.int) p (.lst [.int k]) l=some (.lst<|ns.map V.int):=by rw[AJ (BJ AG u),AG]
  have s:upd (upd H l<|.lst<|ns.map V.int) p _ p=some (.lst [.int k]):=AG;revert j n s;refine λj n s=>x4 l p _ _ {rfl,rfl,n,s,BP _ (by simp;exact oA b rfl),λr v=>{r,rfl,ns++[(k:Int)],?_,by simp;exact oG b rfl,λx o D c d e w m z=>{_,.inl {SqL.of AG,λt g=>q t c _ ((((j.trans<|AL v).trans (AL d)).trans (AL e)).trans (AL g)) AG w (λy=>?_) (by simpa using z)}}}};rw[ak];exact SqL.of AG;rw[m y];simp
example:(zyh,Z4,zG,2):=by
 apply u9;intro A w rows n cs outs l i j [rfl,T,TP,B,c,q,b];let[o,d]:=B.bk.ob;let[p,e]:=B.pk.ob
 have g:∀ {m:Str},¬ m="contents"->¬ m="width"->¬ m="written"->(pf A.cl w n).lookup m=none:=λh1 h2 h3=>JO _ _ _ h1 h2 h3;refine BU c  rfl rfl ?_;erw[];split;rename_i h0;refine y3 {d,T.cl,T.nG,_,RR,y2 {e,g (by decide) (by decide) (by decide),x5 _ _ w _ n {rfl,TP,B.pk,?_}}};erw[];split;exact{by decide,b λz=>by lia};refine BU c  rfl rfl ?_;erw[];split;rename_i h2;refine y3 {d,T.cl,T.nG,_,RR,y2 {e,g (by decide) (by decide) (by decide),x5 _ _ w _ n {rfl,TP,B.pk,?_}}};erw[];split;exact{by decide,b λz=>by lia};exact q {h0,by lia,h2,by lia};exact{by decide,b λz=>by lia};exact{by decide,b λz=>by lia}
example:(zyi,R1,Cq,2):=by
 apply u9;intro A w rows n cs outs g i j [rfl,T,TP,B,b,q,l];let[p,c]:=B.bk.ob;let[kvs,d,o,z]:=B.bk.lat;refine y2 {c,DC,x9 A w _ n cs _ g i j {rfl,T,TP,B,b,λh=>(y3 {c,T.cl,T.nL,_,uT,.inr {_,.inl d},_,dT2 d b,?_}),l}};rw[o]
 have:=q h;cases e:D8 cs i j with
 |none=>rw[e]at this;exact this
 |some k=>rw[e]at this;exact this
def BookIn.len(B:BookIn C D H A w cs outs):∃ xs,H A.m=some (.lst xs)/\xs.length=cs.length:=by
 let[b,e,p]:=B.made;exact{_,e,by rw[ε,p.length]}
example:(zyj,VU,wG,3):=by
 apply u8;intro A w rows n cs outs nl ns [rfl,T,B,hs,q,r];let[v,s]:=B.bk.ob;let[xs,u,l]:=B.bk.len;refine .inl {⟨_,hs⟩,(HS  (λi g H'=>H'=H/\(∃ z,g=[some _,some _,z])/\∀ x∈ns.take i,known cs x) {rfl,⟨_,rfl⟩,by simp} (by intro i g H' _ [e,_];exact e ▸ hs) (λi x g H' j b=>?_) (λg H' b=>?_))};let[rfl,[z,rfl],o]:=b;rw[ψ,ai]at j;let[p,d,rfl]:=j
 have bad:¬ known cs p->1<=sizeLine/\E _ _ H':=λh=>{by decide,r {p,θ d,h}}
 erw[wG0_,wG1_];split;rename_i h0;refine y3 {s,T.cl,T.nM,_,JQ,_,.inl {_,SqL.of u,l.symm},?_};split;exact bad λz=>by lia
 intro y c;rw[cu,d]at c;let c||c:=bh.mp c
 exact o y c;simp only[Option.toList_some,aa]at c;subst c;exact{h0,by lia};exact bad λz=>by lia
 let[e,[z,D],o]:=b;subst e;refine q λx j=>o x ?_;rw[ε,bz];exact j
example:(zyk,VW,wC,1):=by
 apply u6;intro A w rows n cs outs [rfl,T,B,q];let[xs,e,b]:=B.bk.len;let[o,c]:=B.bk.ob;let[r,g,j,z]:=B.bk.out
 have sz:=B.bk.sz;refine y3 {c,T.cl,T.nM,_,JQ,_,.inl {_,SqL.of e,b.symm},i0,by lia,(zgl (λk=> !outs k) (BP _<|oA sz rfl) (λi s u l=>(y3 {c,T.cl,T.nO,_,RS,_,dI g,?_})) λp d=>(q p _ d (AL d) (by rw[AG];rfl)))};rw[j];exact l
example:(zyl,GW,Dm,6):=by
 apply QN;intro A w rows n cs outs M nl v ns i j [rfl,T,TP,B,hp,hs,hl,hc,q,q1,q2];let[xs,hm,hml]:=B.bk.len;let[dx,hb]:=B.bk.ob;refine y2 {hb,DC,x9 A w _ n cs outs M i j {rfl,T,TP,B,hp,λhon=>(y2 {hb,DC,x8 A w rows n cs outs nl ns {rfl,T,B,hs,λhkn=>(y3 {hb,T.cl,T.nM,_,JQ,cs.length,.inl {_,SqL.of hm,hml.symm},(y3 {hb,T.cl,T.nM,_,JQ,.inl {rfl,_,SqL.of hm},x3 nl ns (D8 cs i j) {rfl,hs,hl,λt ks H1 s1 et kr km kl=>(λx L hx hdy ndy=>x5 x L M v t {rfl,T,AG,rfl,?_})}})}),q2 hon}}),q1}};rw[GJ]
 have s2:Same H1 (upd (upd H1 L<|.own x) x (.ins (a "Change") L (GD M v t))):=(AL hdy).trans (AL (by rw[AJ ndy.symm];exact hx))
 have ex:upd (upd H1 L<|.own x) x (.ins (a "Change") L (GD M v t)) x=some (.ins (a "Change") L (GD M v t)):=AG;revert s2 ex;generalize upd (upd H1 L<|.own x) x (.ins (a "Change") L (GD M v t))=H2;intro s2 ex
 have s:=s1.trans s2;replace et:=s2 _ _ et;let[chs,O,pch]:=B.bk.made
 have IH:=B.bk.mil;let[kvs,A0,hv,JA]:=B.bk.lat;let[i0,i1,j0,j1]:=hon;let[DW,EJ,hvo,hko]:=B.bk.out;obtain⟨U,rfl⟩:∃ U:Nat,j=U:={j.toNat,(fm j0).symm}
 obtain⟨g,rfl⟩:∃ g:Nat,i=g:={i.toNat,(fm i0).symm}
 have Y:g<A.ls.length:=by rw[B.nb];exact c_.mp i1
 have el:=ι Y
 have r:=B.bk.mic g _ el
 have b:=uj Y;revert el r b;generalize A.ls[g]=l;intro el r b
 have ap:=B.bk.ap
 have nml:A.m≠l:=λz=>ap.2.1<|z ▸ b
 have ncl:A.cl≠l:=λz=>ap.2.2.2.2.2<|z ▸ b
 have d:∀ {y:Addr} {o:HO},H2 y=some o->(∀ k,o≠.dT k)->y≠A.lt:=λe h=>BI e (s _ _ A0) (h _)
 have I:∀ {y:Addr} {o:HO},H2 y=some o->(∀ k,o≠.lst k)->y≠A.m:=λe h=>BI e (s _ _ O) (h _)
 have J:∀ {y:Addr} {o:HO},H2 y=some o->(∀ k,o≠.lst k)->y≠l:=λe h=>BI e (s _ _ r) (h _)
 have D:=s _ _ hb
 have KF:=s _ _ hp;refine{_,s _ _ O,ω (show(chs.map V.ref).length<1000 by rw[ε];exact oD (cg (ba pch.length) hc) rfl) (by decide),?_}
 have bb:=I D (by intro k z;cases z)
 have bl:=J D (by intro k z;cases z)
 have pm:=I KF (by intro k z;cases z)
 have pl':=J KF (by intro k z;cases z)
 have mt:=d (s _ _ O) (by intro k z;cases z)
 have lt':=d (s _ _ r) (by intro k z;cases z)
 have bln:=ZQ cs g;refine y3 {by rw[AJ bb];exact D,T.cl,T.nI,_,ZS,BU (by rw[AJ pm];exact KF) (n:=0) rfl rfl (CJ (SqL.of (by rw[AJ ap.1.symm];exact s _ _ IH)) (n:=g) (v:=.ref l) rfl (by rw[ψ,el];rfl) {.inl {rfl,_,SqL.of (by rw[AJ nml.symm];exact s _ _ r)},{_,by rw[AJ nml.symm];exact s _ _ r,ω (show((DI cs g).map λ(k:Nat)=>V.int k).length<1000 by rw[ε];lia) (by decide),(y3 {by rw[AJ bl,AJ bb];exact D,T.cl,T.nL,_,uT,_,pT2 (by rw[AJ lt'.symm,AJ mt.symm];exact s _ _ A0) (by rw[AJ pl',AJ pm];exact KF) (oD (cg JA hc) rfl),?_})}})};generalize eH:upd (upd (upd H2 A.m _) l _) A.lt (.dT<|CF kvs [.inl ↑g,.inl ↑U] (.int ↑cs.length))=H5
 have N:∀ y,y≠A.m->y≠l->y≠A.lt->H5 y=H2 y:=λy n1 n2 n3=>by rw[<-eH,AJ n3,AJ n2,AJ n1]
 have s5:SameBut (λy=>y=A.m\/y=l\/y=A.lt) H H5:=λy o e ny=>by
  rw[N y (λz=>ny<|.inl z) (λz=>ny<|.inr<|.inl z) (λz=>ny<|.inr<|.inr z)];exact s _ _ e
 have lo:∀ y,(y=A.m\/y=l\/y=A.lt)->ES (H y):=by
  rintro y (z|z|z)
  ·exact B.loose<|.inl z
  ·exact B.loose<|.inr<|.inr<|.inl<|z ▸ b
  ·exact B.loose<|.inr<|.inr<|.inr<|.inl z
 have hnd:∀ y∈ks,0<=y/\y<cs.length:=λy hy=>by
  let h||[k,e,rfl]:=(km y).mp hy
  ·exact hkn y h
  ·exact{iM rfl,by have:=RQ e;exact c_.mpr this}
 refine q ⟨i0,i1,j0,j1⟩ hkn ks H5 kr km {{{dx,by rw[N _ bb bl (d D (by intro k z;cases z))];exact D},{chs++[x],?_,Paired.snoc (Paired.mapP pch λy c h=>h.sb s5 lo) (x3 L M t {?_,?_,?_})},?_,λk l' e=>?_,B.bk.nd,{CF kvs [.inl ↑g,.inl ↑U] (.int ↑cs.length),(by rw[<-eH,AG]),λp q=>?_,?_},{DW,?_,hvo,(hko.mono (by simp))},?_,λc hc'=>?_,λk c e=>?_,ap,λk c e j ej=>?_},B.pk.sbL s5 lo ?_,B.nb} (s5.wide λy z=>?_);rw[<-eH,AJ mt,AJ nml,AG,ak];rfl;rw[N x (I ex (by intro k z;cases z)) (J ex (by intro k z;cases z)) (d ex (by intro k z;cases z))];exact ex
 ·rw[N M pm pl' (d KF (by intro k z;cases z))];exact KF
 rw[N t (I et (by intro k z;cases z)) (J et (by intro k z;cases z)) (d et (by intro k z;cases z))];exact et;rw[N _ ap.1.symm (λz=>ap.2.2.1<|z ▸ b) (d (s _ _ IH) (by intro k z;cases z))];exact s _ _ IH;rw[zl9];by_cases z:l'=l;subst z
 have ek:k=g:=by
  let[h1,h2]:=η.mp e;let[h3,h4]:=η.mp el;exact(E_ B.bk.nd).mp (h2.trans h4.symm)
 subst ek;rw[<-eH,AJ lt',AG];simp
 have nk:¬ g=k:=λy=>by subst y;rw[el]at e;cases e;exact z rfl
 have hl':=B.bk.mic k l' e;rw[N l' (λy=>ap.2.1<|y ▸ θ e) z (d (s _ _ hl') (by intro k z;cases z))];simp only[cj,if_neg nk];exact s _ _ hl';rw[IM,ZN];by_cases z:p=g/\q=U;let[rfl,rfl]:=z;simp;rw[if_neg (λy=>z (by simpa using y)),if_neg<|λy=>z ⟨y.1.symm,y.2.symm⟩];exact hv p q
 have:=JI kvs [.inl ↑g,.inl ↑U] (.int ↑cs.length);simp;lia;rw[N _ (I (s _ _ EJ) (by intro k z;cases z)) (J (s _ _ EJ) (by intro k z;cases z)) (d (s _ _ EJ) (by intro k z;cases z))];exact s _ _ EJ;simp;exact du hc;let h||h:=bh.mp hc'
 exact B.bk.inn c h;rw[aa.mp h];exact{by rw[cj];exact Y,(show(U:Int).toNat<w by exact c_.mp j1)};let h||h:=ee k cs.length
 rw[bc h]at e;exact B.bk.need k c e;rw[b_ h]at e
 have:k-cs.length=0:=by
  rcases ma (k-cs.length)with z|z
  ·exact z
  ·rw[bd (by simp;exact z)]at e;cases e
 rw[this]at e;cases e;exact{λy hy=>{(hnd y hy).1,by have:=(hnd y hy).2;lia},kr,(show ks.length<=100 by lia)};let h||h:=ee k cs.length
 rw[bc h]at e;rw[List.take_append_of_le_length (by exact ka h)]at ej;exact B.bk.chn k c e j ej;rw[b_ h]at e
 have:k-cs.length=0:=by
  rcases ma (k-cs.length)with z|z
  ·exact z
  ·rw[bd (by simp;exact z)]at e;cases e
 have hk:k=cs.length:=by lia
 subst hk;rw[this]at e;cases e;exact(km _).mpr (.inr {j,by simpa using ej,rfl});rintro (z|z|z);exact ap.2.2.2.1 z;exact ncl z;let[ts,e,u]:=B.pk.ls;exact d (s _ _ e) (by intro k z;cases z) z;let z||z||z:=z
 exact .inl z;exact .inr<|.inr<|.inl<|z ▸ b;exact .inr<|.inr<|.inr<|.inl z
def BookIn.at{C D:Addr}{A:BA}{w:Nat}{cs:yH}{outs:zE}{H:Hp}(B:BookIn C D H A w cs outs){k:Nat}{c:Ch}(e:cs[k]? =some c):∃ xs x,H A.m=some (.lst xs)/\xs[k]? =some (.ref x)/\ChAt D H x c:=by
 let[b,h,p]:=B.made;let[x,ex,d]:=KQ p e;exact x2 _ x {h,by rw[ψ,ex];rfl,d}
def zym{n:Nat}{outs:zE}{k:Nat}(h:k∈FX n outs):k<n/\outs k=false:=by
 have:=di.mp h;exact{ao.mp this.1,by simpa using this.2}
def zyn(n:Nat)(outs:zE):(FX n outs).Pairwise (· <·):=ip.filter _
def zyo(n:Nat)(outs:zE):(FX n outs).length<=n:=by
 have:=cr (λ(k:Nat)=> !outs k) (ο n)
 rwa [ce]at this
example:(zyp,Z5,zF,5):=by
  apply u8;intro A w rows n cs outs nl ns [rfl,T,B,hs,hl,q,qe];let[dx,hb]:=B.bk.ob;refine y2 {hb,DC (by decide),x8 A w _ n cs _ nl ns {rfl,T,B,hs,λhkn f hf=>(.inl {{_,(AL hf).seq hs},(HS  (λi u H'=>∃ kvs,H'=upd H f (.dK kvs)/\(∀ x:Int,(BF kvs<|.inl x).isSome=true↔x∈ns.take i)/\kvs.length<=i/\∃ z,u=[some (.ref _),some _,some _,z,none]) {[],rfl,by simp[X8],π _,_,rfl} (by intro i u H' _ [kvs,e,_];rw[e];exact(AL hf).seq hs) (λi x u H' p g=>?_) (λu H' g=>?_))}),qe}};let[kvs,rfl,hv,JA,z,rfl]:=g
  have hi:=(η.mp p).1;rw[ε]at hi;rw[ψ,ai]at p;let[x',I,rfl]:=p;erw[zF8_];refine{_,pI AG (by lia),_,GJ,λy=>?_,?_};rw[IM,cu,I,bh,<-hv y];by_cases e:y=x';subst e;simp
  have:¬ (uq y:AN)=uq x':=λz=>e (by simpa using z);simp[e]
  have:=JI kvs (.inl x') (.bl true)
  lia
  let[kvs,rfl,hv,JA,z,rfl]:=g;rw[ε,bz]at hv;rw[ε]at JA
  have s1:=AL (o:=.dK kvs) hf;erw[zF7_]
  have B1:=B.same s1
  have f1:upd H f (.dK _) f=some (.dK kvs):=AG;refine y2 {s1 _ _ hb,DC (by decide +kernel),x6 A w rows n cs outs {rfl,T,B1,λl H2 DH s2 el=>?_}};erw[]
  have LG:=s1.trans s2;refine{_,SqL.of el,?_}
  have sz:=B.bk.sz
  have wl:=zyo cs.length outs
  have hW:(AS<|FX cs.length outs).length=(FX cs.length outs).length:=ε _
  have keep:∀ d,Same H (upd H2 f<|.dK d):=λd b o e=>by
    rw[AJ (BJ e hf)];exact LG _ _ e
  have Bk:=λd=>B.same<|keep d;refine zgk (λi u H'=>∃ d,H'=upd H2 f (.dK d)/\(∀ x∈ns,(BF d<|.inl x).isSome=true)/\(∀ x:Int,(BF d<|.inl x).isSome=true->x∈ns\/∃ (k:Nat) (c:Ch),cs[k]? =some c/\outs k=false/\(BF d<|.inl (k:Int)).isSome=true/\x∈c.nd) /\
    (∀ (t:Nat) (k:Nat) (c:Ch),(FX cs.length outs)[t]? =some k->(FX cs.length outs).length-i<=t->cs[k]? =some c->(BF d<|.inl (k:Int)).isSome=true->∀ y∈c.nd,(BF d<|.inl y).isSome=true)/\d.length<=1000+100*i/\∃ z z',u=[some (.ref A.b),some<|.ref nl,some<|.ref f,z,z'])
    {kvs,?_,λx p=>(hv x).mpr p,λx p=>.inl<|(hv x).mp p,λt k c s J=>?_,υ JA hl,_,_,rfl} (λi u H' _ ⟨d,e,_⟩=>by rw[e];exact SqL.of (by rw[AJ (BJ f1 DH).symm];exact el)) (λi x u H' hi p g=>?_) (λu H' g=>?_)
  funext b;by_cases e:b=f;subst e;rw[AG];exact(s2 _ _ f1);rw[AJ e]
  have:=(η.mp s).1;exact nL this J;let[d,rfl,h1,h3,h2,hkl',z,z',rfl]:=g;rw[hW]at hi p;unfold AS at p;rw[ψ,ai]at p;let[k,I,rfl]:=p;let[hk,ho]:=zym<|θ I
  have ec:=ι hk;revert ec;generalize cs[k]=c;intro ec
  have later:∀ (t D:Nat),(FX cs.length outs)[t]? =some D->(FX cs.length outs).length - (i+1)<=t->D=k\/(k<D/\(FX cs.length outs).length - i<=t):=λt D s J=>by
    by_cases z:t=(FX cs.length outs).length-1-i
    ·subst z;rw[I]at s;cases s;exact .inl rfl
    · let[h5,rfl]:=η.mp s
      let[h6,rfl]:=η.mp I;exact .inr {o_.mp (zyn cs.length outs) _ _ h6 h5 (by lia),by lia}
  refine{_,dI AG,?_};cases hin:(BF d<|.inl (k:Int)).isSome with
  |false =>
    erw[];refine{_,rfl,h1,h3,λt D c' s J L U=>?_,by lia};let rfl||[_,z]:=later t D s J
    ·rw[hin]at U;cases U
    ·exact h2 t D c' s z L U
  | true =>
    erw[];refine u2 ?_<|(Bk d).bk.at ec;intro xs cx [hm,ex,DV];revert DV;apply u3;intro dc pl nt [hc1,hc2,M]
    have hb2:=(keep d) _ _ hb;refine y3 {hb2,T.cl,T.nM,_,JQ,CJ (SqL.of hm) rfl ex (y3 {hc1,T.cc,T.nN,_,uS,.inr {{_,SqT.of M},?_}})};let[nd1,nd2,nd3]:=B.bk.need k c ec;refine sT (xs:=c.nd.map V.int) (λt u H'=>∃ j,H'=upd H2 f (.dK j)/\(∀ x:Int,(BF j<|.inl x).isSome=true↔(BF d<|.inl x).isSome=true\/x∈c.nd.take t)/\j.length<=d.length+t/\∃ z',u=[some (.ref A.b),some<|.ref nl,some<|.ref f,some<|.int k,z'])
      {d,rfl,by simp,π _,_,rfl} (λt u H' _ g=>?_) (λt y u H' N g=>?_) (λu H' g=>?_)
    · let[j,e,_]:=g
      rw[e]
      have nf:nt≠f:=BI M AG (by intro z;cases z);rw[AJ nf]at M;exact SqT.of (by rw[AJ nf];exact M)
    · let[j,e,Y,O,z2,ez]:=g
      subst e;subst ez
      have hty:=(η.mp N).1;rw[ε]at hty;rw[ψ,ai]at N;let[y',hy',rfl]:=N;erw[zF0_,zF1_,zF2_,zF3_,zF4_,zF5_,zF6_,zF7_,zF8_];refine{_,pI AG (by lia),_,GJ,λx=>?_,?_}
      · rw[IM,cu,hy',bh]
        by_cases e:x=y'
        ·subst e;simp
        · have:¬ (uq x:AN)=uq y':=λz=>e (by simpa using z)
          rw[if_neg this,Y x];simp[e]
      · have:=JI j (.inl y') (.bl true)
        lia
    · let[j,e,Y,O,z2,ez]:=g
      subst e;subst ez;rw[ε,bz]at Y;rw[ε]at O
      have up:∀ {x:Int},(BF d<|.inl x).isSome=true->(BF j<|.inl x).isSome=true:=λh=>(Y _).mpr (.inl h);refine{j,rfl,λx p=>up<|h1 x p,λx p=>?_,λt D c' s J L U y N=>?_,by lia,x2 _ _ rfl}
      · rcases(Y x).mp p with h | h
        · let h||[D,c',s,J,L,U]:=h3 x h
          ·exact .inl h
          ·exact .inr<|x2 D c' {s,J,up L,U}
        ·exact .inr<|x2 k c {ec,ho,up hin,h}
      · rcases later t D s J with rfl | ⟨A0,z⟩
        · rw[ec]at L;cases L
          exact(Y y).mpr (.inr N)
        · rcases(Y _).mp U with h | h
          ·exact up<|h2 t D c' s z L h y N
          · have:=(nd1 _ h).2
            lia
  let[d,rfl,h1,h3,h2,hkl',z,z',rfl]:=g;rw[hW]at h2
  have s3:=keep d;erw[zF0_,zF1_,zF2_,zF3_,zF4_,zF5_,zF6_,zF7_,zF8_];refine y2 {s3 _ _ hb,DC (by decide +kernel),x6 A w rows n cs outs {rfl,T,Bk d,λl2 H4 hl4 s4 el4=>?_}};refine .inl {{_,SqL.of el4},?_};refine YV (λv=>match v with
    |.int x=>(BF d<|.inl x).isSome
    |_=>false) (BP _ (by lia)) (SqL.of el4) (λx p QB qb=>?_) λr hr=>?_
  let[k,hk,rfl]:=a_.mp p;exact{_,dI<|s4 _ _ AG,qb};refine q hkn r _ (λx=>(BF d<|.inl x).isSome) h1 (λk c s J L y N=>?_) h3 ((s3.trans s4).free hr) ((s3.trans s4).trans (AL hr)) ?_
  have hkm:k∈FX cs.length outs:=di.mpr {ao.mpr (η.mp s).1,by rw[J];rfl};let[t,et]:=RU hkm;exact h2 t k c et (by lia) s L y N;rw[AG];unfold AS;rw[yv]
  rfl
def zyq{Q:Addr->Hp->Prop}{E:XK}(T:TB K a)(TP:D0 K a)(P:PlankAt a d l i w rows n)
  (q:∀ (A:BA) (g:Hp),A.gp=l->A.cl=i->(∀ x o,d x=some o->x=i\/¬ A.F x)->EA a g A w rows n [] (λ_=>false)->Same d g->Q A.b g) :
  ∀ x j,d x=none->d j=none->j≠x->VT K a [.ref x,.ref l] (upd (upd d j<|.own x) x (.ins (HX a) j [])) (λv g=>v=.non/\Q x g) E:=λb p I r s=>by
 have u:Same d (upd (upd d p<|.own b) b (.ins (HX a) p [])):=(AL r).trans (AL (by rw[AJ s.symm];exact I));refine x7 b l i p w _ n {rfl,T,TP,P.same u,AG,λm Y lt ou ls J L M N O B U D=>{rfl,(q _ J rfl rfl (λx o e=>?_) U λy o e=>D _ _ (u _ _ e) (BJ e I))}};by_cases z:x=i;exact .inl z;refine .inr ?_
 have c:=u _ _ e;rintro (y|y|y|y|y|y);rw[y,L]at c;cases c;rw[y,M]at c;cases c;rw[B x y]at c;cases c;rw[y,N]at c;cases c;rw[y,O]at c;cases c;exact z y
example:(zyr,OX,Dp,3):=by
 apply u9;intro A w rows n cs outs u i j [rfl,T,TP,B,b,q,D];let[U,c]:=B.bk.ob;let[Y,I]:=B.pk.ob;refine y2 {c,DC,x9 A w _ n cs _ u i j {rfl,T,TP,B,b,λh=>?_,D}}
 have q:=q h;unfold E3 at q;cases e:D8 cs i j with
 |none =>
  rw[e]at q;refine y3 {c,T.cl,T.nG,_,RR,y2 {I,NX _ _ _,BU b  rfl rfl (x6 _ _ w _ n i {rfl,TP,B.pk,λg row J l vl d=>?_,λz=>absurd h λy=>by lia})}};subst J
  have p:=AL (o:=.lst row) d;refine BU (p _ _ b)  rfl rfl ?_
  have rl:=B.pk.wd _<|θ l
  have L:j.toNat<row.length:=by omega
  have r:=ι L;refine CJ (SqL.of AG)   (by omega) r (q _ _ ?_ p);rw[show((g:Int)).toNat=g from rfl,l];exact r
 |some k =>
  rw[e]at q;let[M,N,pc]:=B.bk.made
  have s:=ι<|RQ e;let[x,ex,O,p1,n1,h1,h2,h3]:=KQ pc s;refine y3 {c,T.cl,T.nM,_,JQ,CJ (SqL.of N)  (v:=.ref x) rfl (by rw[ψ,ex];rfl) (y3 {h1,T.cc,T.nV,_,uR,q _ _ ?_<|Same.refl _})}
  show(cs[k]?).map _=_;rw[s]
  rfl
example:(zys,Z7,wL,4):=by
 apply QM;intro A w rows n cs outs k c g d [rfl,T,B,D,I,q];let[Y,s]:=B.bk.ob;refine u2 ?_<|B.bk.at D;intro xs cx [J,ex,L];revert L;apply u3;intro dc pl nt [r,M,l];let[DW,N,O,v]:=B.bk.out;refine y3 {s,T.cl,T.nM,_,JQ,CJ (SqL.of J) rfl ex (y3 {r,T.cc,T.nN,_,uS,.inr {{_,SqT.of l},(sT  (λi p H'=>H'=H/\(∀ x∈c.nd.take i,(outs x||CB d x)=true)/\∃ z,p=[some _,some _,some _,z]) {rfl,by simp,_,rfl} (by intro i p H' v [e,v];exact e ▸ SqT.of l) (λi x p H' b j=>?_) (λp H' j=>?_))}})};let[rfl,o,z,rfl]:=j;rw[ψ,ai]at b;let[y,u,rfl]:=b
 have step:(outs y||CB _ y)=true->∀ x∈c.nd.take _,(outs x||CB _ x)=true:=λh x b=>by
  rw[cu,u]at b;let b||b:=bh.mp b
  exact o x b
  have:x=y:=by simpa using b
  exact this ▸ h
 refine y3 {s,T.cl,T.nO,_,RS,_,dI N,?_};rw[O];cases h1:outs y with
 |true =>
  erw[];exact step (by rw[h1];rfl)
 | false =>
  refine{_,dI I,?_};cases h2:(BF d _).isSome with
  |true =>
   erw[];exact step (by show(outs y||(BF d _).isSome)=true;rw[h2];simp)
  |false =>
   have e:IS c.nd (λx=>outs x||CB d x)=some y:=by
    let[U,e]:=η.mp u;unfold IS;rw[lj];refine{by show(!(outs y||(BF d _).isSome))=true;rw[h1,h2];rfl,x2 _ (c.nd.drop<|i+1) {?_,λx b=>by show(!!(outs x||CB _ x))=true;rw[o x b];rfl}};rw[<-e,<-jv U,ju]
   rw[e]at q;exact q
 let[e,o,z,ez]:=j;subst e;rw[ε,bz]at o
 have e:IS _ (λx=>outs x||CB _ x)=none:=js.mpr λx b=>by show ¬ (!(outs x||CB _ x))=true;rw[o x b];exact ay
 rw[e]at q;exact q
def zyt(s:Pass)(m:Nat)(d H':Hp)(g ol c:Addr):Prop:=∃ (b:cD) (hs:eF),SameBut (λy=>y=g\/y=ol\/y=c) d H'/\H' g=some (.dK b)/\(∀ x:Int,CB b x=s.gone x)/\b.length<=m/\H' ol=some (.lst<|s.out.map λ(k:Nat)=>V.int k) /\
 H' c=some (.lst<|hs.map V.ref)/\Paired (λx (p:Nat × Int)=>H' x=some (.tup [.int p.1,.int p.2])) hs s.held
def Pk(kvs:cD)(k x:Int)(v:V):CB (CF kvs (.inl k) v) x=(CB kvs x||x==k):=by
 unfold CB;rw[IM];by_cases e:x=k;subst e;simp;simp[e]
example:(zyu,VX,cN,8):=by
 apply u9;intro A w rows n cs outs b tk r [rfl,T,B,hbl,htk,hkt,q];let[dx,hb]:=B.bk.ob;erw[cN,cN0_,cN1_,cN2_];refine{_,htk,λg hg=>{by decide,λol M=>{by decide,λD N=>?_}}}
 have J:=BJ AG M
 have s1:Same H (upd _ D<|.lst []):=((AL hg).trans (AL M)).trans (AL N)
 have O:=BJ AG N
 have ngl:=BJ (by rw[AJ J];exact AG) N
 have eg:upd (upd (upd H g<|.dK r) ol (.lst [])) D (.lst []) g=some (.dK r):=by rw[AJ ngl,AJ J,AG]
 have eo:upd (upd (upd H g<|.dK r) ol (.lst [])) D (.lst []) ol=some (.lst []):=by rw[AJ O,AG]
 have el:upd (upd (upd H g<|.dK r) ol (.lst [])) D _ D=some (.lst []):=AG
 have holH:=(AL hg).free M
 have hhlH:=((AL hg).trans (AL M)).free N;revert s1 eg eo el;generalize upd _ D _=H1;intro s1 eg eo el
 have hil:b<A.ls.length:=by rw[B.nb];exact hbl
 have U:=ι hil
 have Y:=B.bk.mic b _ U;revert U Y;generalize A.ls[b]=l
 have bln:=ZQ cs b;refine λU Y=>y3 {s1 _ _ hb,T.cl,T.nI,_,ZS,CJ (SqL.of<|s1 _ _ B.bk.mil)  (v:=.ref l) rfl (by rw[ψ,U];rfl) (.inl {{_,SqL.of<|s1 _ _ Y},?_})}
 have sz:=B.bk.sz
 have G:∀ {H':Hp},SameBut (λy=>y=g\/y=ol\/y=D) H1 H'->Same H H':=λsb y o e=>sb _ _ (s1 _ _ e) (by
  rintro (z|z|z);rw[z,hg]at e;cases e;rw[z,holH]at e;cases e;rw[z,hhlH]at e;cases e)
 refine HS  (λi σ H'=>zyt (((DI cs b).take i).foldl (DD cs outs) {[],[],CB _}) (1000+i) H1 H' g ol D/\∃ z1 z2,σ=[some _,some _,some _,some _,some _,some _,z1,z2])
  {x2 _ [] {SameBut.refl _,eg,λu=>rfl,hkt,eo,el,.nil},_,_,rfl} (by intro i σ H' u [[d,hs,sb,u],u];exact SqL.of<|G sb _ _ Y) (λi x σ H' hx hzz=>?_) (λσ H' hzz=>?_)
 have hi:=(η.mp hx).1;let[iv,z1,z2,rfl]:=hzz;rw[ε]at hi;rw[ψ,ai]at hx;let[k,hk,rfl]:=hx
 have hkc:=VF<|θ hk
 have ec:=ι hkc;revert ec;generalize cs[k]=c
 have L:=ZV (cs:=cs) (outs:=outs) ((DI cs b).take i) {[],[],CB r}
 have j:=uW (DD cs outs) {[],[],CB r} hk;intro ec;revert iv L j;generalize ((DI cs b).take i).foldl (DD cs _) _=s;generalize ((DI cs b).take _).foldl (DD cs _) _=s';intro iv L j;revert iv;apply u2;intro d hs [sb,e1,e2,e3,e4,e5,e6];simp only[mn,cz]at L
 have sH:=G sb;let[DW,ho,hv,u]:=B.bk.out;erw[cN3_,cN4_,cN5_,cN6_,cN7_,cN8_];refine y3 {sH _ _ hb,T.cl,T.nO,_,RS,_,dI<|sH _ _ ho,?_};rw[hv];unfold DD at j;cases h1:outs k with
 |true =>
  rw[h1,n_,if_pos rfl]at j;rw[j];exact x2 _ hs {sb,e1,e2,ck e3,e4,e5,e6}
 | false =>
  rw[h1,xn]at j
  have e2k:(BF d _).isSome=s.gone k:=e2 k;refine{_,dI e1,?_};rw[e2k];cases h2:s.gone k with
  |true =>
   rw[h2]at j;rw[j];exact x2 d hs {sb,e1,e2,ck e3,e4,e5,e6}
  | false =>
   rw[h2,if_neg ay,ec]at j;refine y2 {sH _ _ hb,DC,TZ A w _ n cs _ k c g _ {rfl,T,(B.same sH),ec,e1,?_}}
   have efn:(λx=>outs x||CB d x)=λx=>outs x||s.gone x:=by funext x;rw[e2]
   rw[efn];simp only[Gi]at j;cases h3:IS _ (λx=>outs x||s.gone x)with
   |none =>
    rw[h3]at j;dsimp only [Z6];refine{_,pI e1 (by lia),.inl {rfl,_,SqL.of (by rw[AJ J.symm];exact e4)},{_,by rw[AJ J.symm];exact e4,ω (show(s.out.map λ(k:Nat)=>V.int k).length<1000 by rw[ε];lia) (by decide),?_}};rw[j];refine x2 _ hs {?_,by rw[AJ J,AG],λx=>by rw[Pk,e2],?_,by rw[AG,ak];rfl,by rw[AJ O.symm,AJ ngl.symm];exact e5,Paired.mapP e6 λx p e=>?_};intro y o e ny;rw[AJ λz=>ny<|.inr<|.inl z,AJ λz=>ny<|.inl z];exact sb _ _ e ny
    have:=JI d (.inl (k:Int)) (.bl true)
    lia
    rw[AJ (BI e e4 (by intro z;cases z)),AJ (BI e e1 (by intro z;cases z))];exact e
   |some l' =>
    rw[h3]at j;dsimp only at j;dsimp only [Z6];rw[if_neg (by intro z;cases z)];refine{.inl {rfl,_,SqL.of e5},by decide,λtp I=>?_}
    have ntl:D≠tp:=BJ e5 I;refine{_,by rw[AJ ntl];exact e5,ω (show(hs.map V.ref).length<1000 by rw[ε,e6.length];lia) (by decide),?_};rw[j]
    have s2:=AL (o:=.tup [.int (k:Int),.int l']) I
    have kp:∀ y,y≠D->y≠tp->upd (upd H' tp<|.tup [.int (k:Int),.int l']) D (.lst<|hs.map V.ref++[.ref tp]) y=H' y:=λy n1 n2=>by rw[AJ n1,AJ n2]
    refine x2 d (hs++[tp]) {?_,by rw[kp g ngl (BJ e1 I)];exact e1,e2,ck e3,by rw[kp ol O (BJ e4 I)];exact e4,by rw[AG,ak];rfl,Paired.snoc (Paired.mapP e6 λx p e=>?_) ?_}
    ·intro y o e ny
     have e':=sb _ _ e ny;rw[kp y (λz=>ny<|.inr<|.inr z) (BJ e' I)];exact e'
    ·rw[kp x (BI e e5 (by intro z;cases z)) (BJ e I)];exact e
    ·rw[AJ ntl.symm,AG]
 let[iv,z1,z2,rfl]:=hzz;rw[ε,bz]at iv;erw[cN0_,cN1_,cN2_,cN3_,cN4_,cN5_,cN6_,cN7_,cN8_,cN9_,cN10_];revert iv;apply u2;intro d hs [sb,e1,e2,e3,e4,e5,e6];refine{by decide,λt ht=>?_}
 have s2:=AL (o:=.tup [.ref ol,.ref D]) ht;exact q t ol D _ holH hhlH O ((G sb).trans s2) {AG,s2 _ _ e4,hs,s2 _ _ e5,Paired.mapP e6 λx p e=>s2 _ _ e}
example:(zyv,Z8,wO,5):=by
 apply u9;intro A w rows n cs outs b vl row [rfl,T,B,M,N,LH,q];let[dx,I]:=B.bk.ob;let[DW,ho,hv,z]:=B.bk.out;refine{_,.inl<|SqL.of N,λJ j=>?_}
 have O:=AL (o:=.lst row) j
 have U:b<A.ls.length:=by rw[B.nb];exact M
 have d:=ι U
 have g:=B.bk.mic b _ d;revert d g;generalize A.ls[b]=l
 have sk:∀ o,Same H (upd H J o):=λo=>AL j;refine λd g=>y3 {O _ _ I,T.cl,T.nI,_,ZS,CJ (SqL.of<|O _ _ B.bk.mil)  (v:=.ref l) rfl (by rw[ψ,d];rfl) (.inl {{_,SqL.of<|O _ _ g},?_})};refine HS  (λi L H'=>H'=upd H J (.lst<|((DI cs b).take i).foldl (HV cs outs) row)/\∃ Y,L=[some _,some _,some _,some _,Y])
  ⟨rfl,_,rfl⟩ (by intro i L H' z [e,z];rw[e];exact SqL.of<|sk _ _ _ g) (λi x L H' hx p=>?_) (λL H' p=>?_)
 let[rfl,Y,rfl]:=p;rw[ψ,ai]at hx;let[k,hk,rfl]:=hx
 have hkc:=VF<|θ hk
 have u:=ι hkc;revert u;generalize cs[k]=c
 have s:=uW (HV cs outs) row hk
 have CK:=ZU (cs:=cs) (outs:=outs) ((DI cs b).take i) row;intro u;revert s CK;generalize ((DI cs b).take i).foldl _ row=r;generalize ((DI cs b).take _).foldl _ _=r'
 have y:=sk<|.lst r;intro s CK;erw[wO1_,wO2_];refine y3 {y _ _ I,T.cl,T.nO,_,RS,_,dI<|y _ _ ho,?_};rw[hv];unfold HV at s;cases h1:outs k with
 |false =>
  rw[h1,if_neg ay]at s;erw[];rw[s]
 |true =>
  rw[h1,if_pos rfl,u]at s;refine u2 ?_<|(B.same y).bk.at u;intro xs cx [hm,ex,dc,pl,nt,D,hc2,hc3]
  have hcell:=(B.bk.inn c<|θ u).2;refine y3 {y _ _ I,T.cl,T.nM,_,JQ,CJ (SqL.of hm) rfl ex (y3 {D,T.cc,T.nV,_,uR,(y3 {y _ _ I,T.cl,T.nM,_,JQ,CJ (SqL.of hm) rfl ex (y3 {D,T.cc,T.nP,_,uQ,BU hc2  rfl rfl (x4 J r _ _ {rfl,rfl,AG,?_,(by rw[GJ,s])})})})})};unfold HP;rw[if_pos (i0),if_pos (by lia),cj]
 let[rfl,Y,rfl]:=p;rw[ε,bz];exact q J _ j (sk _) AG
example:(zyw,Z9,Cw,5):=by
 apply u7;intro A w rows n cs outs b [rfl,T,TP,B,q,qe];let[dp,hg]:=B.pk.ob;let[dx,hb]:=B.bk.ob;refine y3 {hb,T.cl,T.nG,_,RR,y2 {hg,NX _ _ _,x6 _ _ w _ n b {rfl,TP,B.pk,λI row eb er vl hvl=>?_,qe}}};subst eb;let[H1,zz0,s1,ev]:=EI  hvl
 have hbl:=(η.mp er).1;rw[zz0];refine y2 {s1 _ _ hb,DC,λe0 he0=>?_}
 have s2:=s1.trans<|AL (o:=.dK []) he0;refine x9 A w _ n cs _ I e0 [] {rfl,T,B.same s2,hbl,AG,by simp,λt ol hl N hol hhl nol s3 told=>?_}
 have GH:=s2.trans s3
 have ev3:=s3 _ _<|AL he0 _ _ ev
 have U:=s2.free hol
 have O:(CB<|[])=λv=>false:=rfl
 have Y:=s2.free hhl;rw[O]at told;let[ht,J,hs,hh3,hpr]:=told;let[L,fresh,v]:=VJ (cs:=cs) (outs:=outs) (b:=I)
 have eW:DF cs _ I=λx=>outs x||(outcome cs _ (λv=>false) I).out.any _:=rfl
 replace q:=λH' a1 a2 a3=>q I _ t ol hl H' rfl er U Y nol a1 a2 a3;revert J hpr L fresh eW q;generalize outcome cs _ (λv=>false) I=oc;generalize DF cs _ I=ow;refine λJ hpr L fresh eW q=>BU ht  rfl rfl (.inl {{_,SqL.of J},?_});let[DW,EJ,hvo,hko]:=B.bk.out
 have s:=GH _ _ EJ
 have fO:=B.off U
 have nou:=λz=>fO<|.inr<|.inr<|.inr<|.inr<|.inl z;refine HS  (λi σ H'=>(∃ u,H'=upd N A.ou (.dK u)/\(∀ x:Int,(BF u<|.inl x).isSome=(outs x||(oc.out.take i).any λk=>x==k))/\KeysOk u _)/\∃ z1,σ=[some _,some _,some _,some _,z1])
  {{_,?_,λx=>by rw[hvo];simp,hko},_,rfl} (by intro i σ H' v [[u,e,v],v];rw[e];exact SqL.of (by rw[AJ nou];exact J)) (λi x σ H' hx hzz=>?_) (λσ H' hzz=>?_)
 funext y;by_cases e:y=A.ou;subst e;rw[AG];exact s;rw[AJ e];let[[u,rfl,hv,hk],z1,rfl]:=hzz;rw[ψ,ai]at hx;let[k,ek,rfl]:=hx
 have hkm:=θ ek
 have hnone:BF u (.inl k)=none:=by
  have:=hv k;rw[(fresh k hkm).1]at this
  have z:(oc.out.take i).any (λj=>k ==(j:Int))=false:=by
   rw[wt];intro j hj;let[m,hm,e]:=jf hj;rw[cz]at hm;rw[Dn]at e;let[hi,e2]:=η.mp ek
   have:=o_.mp L m i (by lia) hi (by lia);rw[e,e2]at this;simp;exact λz=>i_ this<|ca z
  rw[z]at this;exact Option.isSome_eq_false_iff.mp this |> wp.mp
 have hb3:upd N A.ou (.dK u) A.b=some (.ins (HX a) dx (bf A.gp A.m A.mi A.lt A.ou)):=by
  rw[AJ (BI (GH _ _ hb) s (by intro z;cases z))];exact GH _ _ hb
 erw[Cw2_];refine y3 {hb3,T.cl,T.nO,_,RS,_,pI AG (by have:=B.bk.sz;have:=hk.len;lia),_,GJ,λx=>?_,hk.put (VF (fresh k hkm).2) hnone _}
 have:=Pk u k x<|.bl true;unfold CB at this;rw[this,hv,cu,ek,ku];simp;let[[u,rfl,hv,hk],z1,rfl]:=hzz;rw[ε,bz]at hv;replace hv:∀ x:Int,(BF u _).isSome=ow x:=λx=>by rw[hv,eW]
 have kb:∀ {y:Addr} {o:HO},H y=some o->y≠A.ou->upd N _ (.dK u) y=some o:=λe n=>by rw[AJ n];exact GH _ _ e
 have M:SameBut _ H _:=λy o e n=>kb e n
 have B4:EA a (upd N A.ou<|.dK u) A w rows n cs ow:=by
  have g:∀ x,x=A.ou->ES (H x):=λx e=>e ▸ (RW EJ);let[[[dx',b1],[chs,b2,b2'],b3,b4,b5,[kvs,b6,b6'],v,b8,b9,b10,b11,b12],pk,nb]:=B;let[ts,pl1,pl2]:=pk.ls;refine{{{dx',kb b1 (BI b1 EJ (by intro z;cases z))},{chs,kb b2 (BI b2 EJ (by intro z;cases z)),Paired.mapP b2' λx c h=>h.sb M g},kb b3 (BI b3 EJ (by intro z;cases z)),λi l e=>kb (b4 i l e) (BI (b4 i l e) EJ (by intro z;cases z)),b5,{kvs,kb b6 (BI b6 EJ (by intro z;cases z)),b6'},⟨u,AG,hv,hk⟩,b8,b9,b10,b11,b12},pk.sbL M g (BI pl1 EJ (by intro z;cases z)),nb}
 have ev4:upd N A.ou (.dK u) vl=some (.lst row):=by rw[AJ (BI ev3 s (by intro z;cases z))];exact ev3
 have ht4:upd N A.ou (.dK u) t=some (.tup [.ref ol,.ref hl]):=by rw[AJ (BI ht s (by intro z;cases z))];exact ht
 have ho4:upd N A.ou (.dK u) ol=some (.lst<|oc.out.map λ(k:Nat)=>V.int k):=by rw[AJ nou];exact J
 have hh4:upd N A.ou (.dK u) hl=some (.lst<|hs.map V.ref):=by rw[AJ (BI hh3 s (by intro z;cases z))];exact hh3
 have hp4:Paired (λx (p:Nat × Int)=>upd N A.ou (.dK u) x=some (.tup [.int p.1,.int p.2])) hs oc.held:=Paired.mapP hpr λx p e=>by rw[AJ (BI e s (by intro z;cases z))];exact e
 revert M B4 ev4 ht4 ho4 hh4 hp4;intro M B4 ev4 ht4 ho4 hh4 hp4;let[dx4,hb4]:=B4.bk.ob;let[dp4,hg4]:=B4.pk.ob;refine y3 {hb4,T.cl,T.nG,_,RR,y2 {hg4,Ph _ _ _,y2 {hb4,DC,x9 A w rows n cs ow I vl row {rfl,T,B4,hbl,ev4,B.pk.wd row<|θ er,λll H5 hll5 s5 ell5=>?_}}}}
 have B5:=B4.same s5;refine x8 A.gp A.cl w rows n I ll (EY cs ow I row) {rfl,TP,B5.pk,SqL.of ell5,by rw[uV,B.pk.wd row<|θ er];have:=B.pk.sw;exact oA this rfl,λi ei hi hxw H6 P6 sb6=>?_,λz=>?_}
 have ei:=ca ei;subst ei;let[ts5,D,pt5]:=B5.pk.ls;let[dp5,hg5]:=B5.pk.ob
 have ap:=B5.bk.ap
 have gp_b:A.b≠A.gp:=by
  let[d5,hb5]:=B5.bk.ob;exact BI hb5 hg5 (OU (by simp[bf,pf]))
 have k6:∀ {y:Addr} {o:HO},H5 y=some o->y≠A.gp->y≠A.cl->H6 y=some o:=λe n1 n2=>sb6 _ _ e (by rintro (z|z);exact n1 z;exact n2 z)
 have r:∀ {y:Addr} {o:HO},H5 y=some o->(∀ C d f,o≠.ins C d f)->y≠A.gp:=λe n=>BI e hg5<|n _ _ _
 have B6:EA a H6 A w (rows.set I<|EY cs ow I row) (n+1) cs ow:=by
  let[[b1,b2,b3,b4,b5,b6,b7,b8,b9,b10,b11,b12],pk,nb]:=B5;let[dx',b1]:=b1;let[chs,b2,b2']:=b2;let[kvs,b6,b6']:=b6;let[kvo',b7,b7']:=b7;refine{{{dx',k6 b1 gp_b (BI b1 D (by intro z;cases z))},{chs,k6 b2 (r b2 (by intro v v v z;cases z)) ap.2.2.2.1.symm,Paired.mapP b2' λx c h=>?_},k6 b3 (r b3 (by intro v v v z;cases z)) ap.2.2.2.2.1.symm,λi l e=>k6 (b4 i l e) (r (b4 i l e) (by intro v v v z;cases z)) (λz=>ap.2.2.2.2.2<|z ▸ θ e),b5,{kvs,k6 b6 (r b6 (by intro v v v z;cases z)) (BI b6 D (by intro z;cases z)),b6'},{kvo',k6 b7 (r b7 (by intro v v v z;cases z)) (BI b7 D (by intro z;cases z)),b7'},b8,b9,b10,b11,b12},P6,by rw[nb,jx]};revert h;apply u3;intro dc p1 n1 [h1,h2,h3];exact x3 dc p1 n1 {k6 h1 (BI h1 hg5 (OU (by simp[GD,pf]))) (BI h1 D (by intro z;cases z)),k6 h2 (r h2 (by intro v v v z;cases z)) (BI h2 D (by intro z;cases z)),k6 h3 (r h3 (by intro v v v z;cases z)) (BI h3 D (by intro z;cases z))}
 have ht5:=s5 _ _ ht4
 have ho5:=s5 _ _ ho4
 have hh5:=s5 _ _ hh4;refine q H6 {k6 ht5 (r ht5 (by intro v v v z;cases z)) (BI ht5 D (by intro z;cases z)),k6 ho5 (r ho5 (by intro v v v z;cases z)) (λz=>fO<|.inr<|.inr<|.inr<|.inr<|.inr z),hs,k6 hh5 (r hh5 (by intro v v v z;cases z)) (λz=>(B.off Y) (.inr<|.inr<|.inr<|.inr<|.inr z)),Paired.mapP hp4 λx p e=>?_} B6 λy o e ny=>(k6 (s5 _ _<|M _ _ e λz=>ny<|.inl<|.inr<|.inr<|.inr<|.inr<|.inl z) (λz=>ny<|.inr z) (λz=>ny<|.inl<|.inr<|.inr<|.inr<|.inr<|.inr z))
 have e5:=s5 _ _ e;exact k6 e5 (r e5 (by intro v v v z;cases z)) (BI e5 D (by intro z;cases z));let z||z||z:=z
 lia
 exact absurd (c_.mpr hbl) (vy.mpr z);exact absurd (by rw[uV,B.pk.wd row<|θ er]) z
example:(zyx,aA,wD,2):=by
 apply u8;intro A w rows n cs outs k c [rfl,T,B,b,q];let[o,d]:=B.bk.ob;refine u2 ?_<|B.bk.at b;intro xs p [e,g,i,r,s,j,l,c3];exact y3 {d,T.cl,T.nM,_,JQ,CJ (SqL.of e) rfl g (y3 {j,T.cc,T.nP,_,uQ,BU l  rfl rfl q})}
structure Pl(cs:yH)(outs R:zE)(H0:Hp)(rw tk lf:Addr)(sofar lefts:wH)(kvt:cD)(H:Hp):Prop where
 sb:Same H0 H
 er:H rw=some (.lst<|AS sofar)
 et:H tk=some (.dK kvt)
 el:H lf=some (.lst<|AS lefts)
 nrt:H0 rw=none/\H0 tk=none/\rw≠lf
 lft:lefts=GE cs.length (λx=>outs x||CB kvt x) R
 row:∀ rest,HC cs (λx=>outs x||CB kvt x) lefts rest->HC cs outs (GE cs.length outs R) (sofar++rest)
 ks:KeysOk kvt cs.length
 sl:sofar.length+lefts.length<=cs.length
def zyy(kvs:cD)(k x:Int)(v:V):CB (CF kvs (.inl k) v) x=(CB kvs x||x==k):=by
 unfold CB;rw[IM];by_cases e:(uq x:AN)=.inl k
 ·cases e;simp
 have:¬ x=k:=λy=>e (by rw[y]);simp[this]
example:(zyz,aB,Cp,7):=by
 apply u8;intro A w rows n cs outs nl ns [rfl,T,B,hs,hl,q,qe];refine{by decide,λrw J tk L=>?_}
 have M:=BJ AG L
 have htkH:H tk=none:=by rw[AJ M.symm]at L;exact L
 have s1:=(AL  J).trans (AL (o:=.dK []) L)
 have N:upd (upd H rw (.lst [])) tk (.dK []) rw=some (.lst []):=by rw[AJ M,AG]
 have et1:upd (upd H rw (.lst [])) tk _ tk=some (.dK []):=AG;revert s1 N et1;intro s1 N et1
 have B1:=B.same s1;let[dx1,hb1]:=B1.bk.ob;refine y2 {hb1,DC (by decide),x8 A w _ n cs _ nl ns {rfl,T,B1,s1.seq hs,hl,λkn lf H2 R r1 r2 r3 hlf s2 elf=>?_,λbad=>qe bad _ s1}}
 have cR:JR cs _ ns R:=⟨r1,r2,r3⟩
 have csz:=B.bk.sz
 have llen:(GE cs.length outs R).length<=cs.length:=by
  have h2:=cr (λ(k:Nat)=> !outs k) (ο cs.length);rw[ce]at h2;exact υ (cr (λ(k:Nat)=>R k) _) h2
 refine{λm σ H'=>∃ (lf:Addr) (d l:List _) (g:List _),Pl cs outs R H rw tk lf d l g H'/\l.length=m/\∃ y5 D,σ=[some _,some _,some _,some _,some<|.ref lf,y5,D],x5 _ lf [] _ [] {{(s1.trans s2),s2 _ _ N,s2 _ _ et1,elf,{J,htkH,(λe=>by rw[<-e,N]at hlf;cases hlf)},(by simp[X8,FX]),λrest h=>?_,{jn,by simp},by show 0+_<=_;rw[kg];exact llen},rfl,x2 _ _ rfl},?_};simpa [CB,X8,FX]using h;intro m σ H3 [lf,d,l,g,I,hm,y5,D,rfl];erw[];refine{_,.inl {_,SqL.of I.el,rfl},?_};cases l with
 |nil =>
  have:=I.row [] .nil;rw[iq]at this;exact q kn rw _ R H3 cR this (I.sl) J I.sb I.er
 | cons k r =>
  have hk:=VP.mp (show k∈GE cs.length (λx=>outs x||CB g x) R by rw[<-I.lft];exact χ ..)
  have ec:=ι hk.1;revert ec;generalize cs[k]=c;intro ec
  have B3:=B.same I.sb;let[dx3,hb3]:=B3.bk.ob;refine{λσ' H'=>∃ (O:Addr) (j:wH) (p:cD),Pl cs outs R H rw tk O (d++[c.blk]) j p H'/\j.length<m/\∃ y5 D,σ'=[some (.ref A.b),some<|.ref nl,some<|.ref rw,some<|.ref tk,some<|.ref O,y5,D],λσ' H' ⟨O,j,p,I',A0,y5,D,e⟩=>{_,A0,x3 O _ j {⟨p,I'⟩,rfl,x2 y5 D e}},?_};let[g1,g2,g3]:=I.nrt;refine y2 {hb3,DC (by decide +kernel),CJ (SqL.of I.el) (n:=0) (v:=.int k) rfl rfl (x8 A w rows n cs outs k c {rfl,T,B3,ec,?_})};erw[Cp4_]
  have sl:=I.sl;rw[cf]at sl;refine{.inl {rfl,_,SqL.of I.er},_,I.er,ω (show(AS d).length<1000 by unfold AS;rw[ε];lia) (by decide),?_}
  have s4:Same H (upd H3 rw (.lst<|AS d++[.int c.blk])):=λy o e=>by rw[AJ (BJ e J)];exact I.sb _ _ e
  have pL:upd H3 rw (.lst<|AS d++[.int c.blk]) rw=some (.lst<|AS<|d++[c.blk]):=by rw[AG];simp[AS]
  have s:upd H3 rw (.lst<|AS d++[.int c.blk]) tk=some (.dK g):=by rw[AJ M.symm];exact I.et
  have el4:upd H3 rw (.lst<|AS d++[.int c.blk]) lf=some (.lst<|AS (k::r)):=by rw[AJ g3.symm];exact I.el
  revert s4 pL s el4;intro s4 pL s el4
  have B4:=B.same s4;let[dx4,hb4]:=B4.bk.ob;refine y2 {hb4,DC (by decide +kernel),x9 A w rows n cs outs c.blk tk g {rfl,T,B4,(by rw[<-B.nb];exact(B.bk.inn c<|θ ec).1),s,oA (υ I.ks.len csz) rfl,λt ol hl5 H5 hol hhl nol s5 told=>BU told.1 (n:=0) rfl rfl (.inl {{_,SqL.of told.2.1},?_})}}
  have eo:=told.2.1;rw[zml]at eo
  have oW:∀ x:Int,DF cs (λx=>outs x||CB g x) c.blk x=((outs x||CB g x)||(outcome cs (λx=>outs x||CB g x) (λ_=>false) c.blk).out.any λ(k:Nat)=>x ==(k:Int)):=λx=>rfl;let[o1,o2,_]:=VJ (cs:=cs) (outs:=λx=>outs x||CB g x) (b:=c.blk);generalize (outcome cs (λx=>outs x||CB g x) (λ_=>false) c.blk).out=out at eo o1 o2 oW
  have et5:=s5 _ _ s
  have er5:=s5 _ _ pL
  have el5:=s5 _ _ el4
  have s45:=s4.trans s5
  have ntk:ol≠tk:=λe=>by rw[e,s]at hol;cases hol
  refine HS (xs:=out.map λ(k:Nat)=>V.int k) (λq σ H'=>(∃ i:cD,H'=upd H5 tk (.dK i)/\(∀ x,CB i x=(CB g x||(out.take q).any λ(k:Nat)=>x ==(k:Int)))/\KeysOk i cs.length)/\∃ D,σ=[some (.ref A.b),some<|.ref nl,some<|.ref rw,some<|.ref tk,some<|.ref lf,some<|.int c.blk,D]) {{g,?_,by simp,I.ks},_,rfl} (λq σ H' _ {⟨i,e,_⟩,_}=>by rw[e];exact SqL.of (by rw[AJ ntk];exact eo)) (λq x σ H' hx hzz=>?_) (λσ H' hzz=>?_)
  ·funext y;by_cases e:y=tk
   ·subst e;rw[AG];exact et5
   ·rw[AJ e]
  ·let[[i,e,u,U],D,ez]:=hzz;subst e;subst ez;rw[ψ,ai]at hx;let[x',hx',rfl]:=hx
   have JA:=U.len
   have et:out.take (q+1)=out.take q++[x']:=by
    let[h1,h2]:=η.mp hx';rw[<-h2,kq]
   let[q1,q2]:=o2 x'<|θ hx'
   have hxn:x'<cs.length:=VF q2
   have hno:CB i x'=false:=by
    rw[u,(ff.mp q1).2,xn];cases h:(out.take q).any λ(k:Nat)=>(x':Int) ==(k:Int)with
    |false=>rfl
    |true =>
     exfalso;let[y,hy,e]:=dt.mp h
     have e:x'=y:=by have:=eq_of_beq e;exact ca this
     let[h1,h2]:=η.mp hx'
     have rise:=o1;rw[<-ju q out,jv h1,h2]at rise
     have:=(zm.mp rise).2.2 y hy x' (χ ..)
     lia
   erw[Cp5_];refine{_,pI AG<|oC (υ JA csz) rfl,CF i (.inl x') (.bl true),GJ,λx=>?_,U.put hxn (by simpa [CB]using hno) _};rw[zyy,u,et,HJ];simp[ku]
  ·let[[i,e,u,U],D,ez]:=hzz;subst e;subst ez;rw[ε,bz]at u
   have s6:Same H (upd H5 tk<|.dK i):=λy o e=>by rw[AJ (BJ e htkH)];exact s45 _ _ e
   have Y:upd H5 tk (.dK i) rw=some (.lst<|AS<|d++[c.blk]):=by rw[AJ M];exact er5
   have et6:upd H5 tk (.dK i) tk=some (.dK i):=AG
   have el6:upd H5 tk (.dK i) lf=some (.lst<|AS (k::r)):=by rw[AJ (BI el5 et5 (by intro z;cases z))];exact el5
   revert s6 Y et6 el6;generalize upd H5 tk (.dK i)=H6;intro s6 Y et6 el6
   have eJ:(λx=>outs x||CB i x)=DF cs (λx=>outs x||CB g x) c.blk:=by funext x;rw[oW,u,ku]
   have hll:(AS (k::r)).length<=1000:=by unfold AS;rw[ε,cf];lia
   erw[Cp7_];refine .inl {{_,SqL.of el6},YV (λv=>match v with|.int x=> !CB i x|_=>false) (BP _<|oA hll rfl) (SqL.of el6) (λv hv QB qb=>?_) λl2 DH=>?_}
   ·let[x,_,rfl]:=a_.mp hv;erw[C1];exact{_,dI et6,qb}
   ·have ef:(AS (k::r)).filter (λv=>match v with|.int x=> !CB i x|_=>false)=AS ((k::r).filter λ(x:Nat)=> !CB i x):=by
     unfold AS;rw[yv]
     rfl
    rw[ef]
    have e2:(k::r).filter (λ(x:Nat)=> !CB i x)=(k::r).filter λ(x:Nat)=> !DF cs (λx=>outs x||CB g x) c.blk x:=t_ λx hx=>by
     rw[I.lft]at hx
     have:=(ff.mp (VP.mp hx).2.1).1;rw[<-eJ]
     show(!CB i x)= !(outs x||CB i x);rw[this,xn]
    have e3:(k::r).filter (λ(x:Nat)=> !CB i x)=GE cs.length (λx=>outs x||CB i x) R:=by rw[e2,I.lft,zmo,eJ]
    have k1:DF cs (λx=>outs x||CB g x) c.blk k=true:=zmq (λk c e=>(B.bk.need k c e).1) (λk c e ho=>cR.up k c e (ff.mp ho).1) I.lft.symm ec
    have short:((k::r).filter λ(x:Nat)=> !CB i x).length<(k::r).length:=by
     rw[e2];exact zmr (χ ..) (by rw[k1];rfl)
    have nl2:rw≠l2:=BJ Y DH;refine x2 l2 _ {{i,{s6.trans<|AL DH,AL DH _ _ Y,AL DH _ _ et6,AG,⟨g1,g2,nl2⟩,e3,λrest hr=>?_,U,?_}},by lia,rfl}
    ·rw[dk];refine I.row _<|.cons ec ?_;rw[<-e2,<-eJ];exact hr
    ·rw[ae,ix];rw[cf]at short
     lia
example:(zy0,ZZ,xC,5):=by
 apply u6;intro p d n r c w [rfl,T,g,i,j,l,s,u,q];refine y3 {g,T.cl,T.n1,by decide,y3 {AG,T.cl,T.n2,KR (by decide),y3 {AG,T.cl,T.n3,KR  (oq (KR  (by decide))),y3 {AG,T.cl,T.n4,(KR  (oq (KR  (oq (KR  (by decide)))))),?_}}}};rw[GJ,GJ,GJ];exact q _ {⟨d,AG⟩,i,j,l,s,u} λb o e v=>by rw[AJ v];exact e
example:(zy1,NJ,xF,3):=by
 apply u7;intro p n r c w k b [rfl,T,L,q];let[d,e]:=L.ob
 have:=L.h1
 have:=L.hw;refine y3 {e,T.cl,T.n4,_,OW,({{by lia,by lia},y3 {e,T.cl,T.n4,_,OW,?_}})};erw[];exact{by lia,by decide,q}
example:(zy2,K2,Ax,2):=by
 apply u6;intro p n r c w k [rfl,T,L,q];let[b,e]:=L.ob;exact y2 {e,B0,x7 p n r c w k 0 ⟨rfl,T,L,q⟩}
example:(zy3,HW,Ay,2):=by
 apply u6;intro p n r c w k [rfl,T,L,q];let[b,e]:=L.ob;exact y2 {e,B0,y3 {e,T.cl,T.n1,_,VQ,x7 p n r c w k _ ⟨rfl,T,L,q⟩}}
example:(zy4,NK,Az,2):=by
 apply u6;intro p n r c w k [rfl,T,L,q];let[b,e]:=L.ob;exact y2 {e,B0,y3 {e,T.cl,T.n1,_,VQ,y3 {e,T.cl,T.n2,_,RX,(x7 p n r c w k _ ⟨rfl,T,L,q⟩)}}}
example:(zy5,K3,Bb,2):=by
 apply u6;intro p n r c w k [rfl,T,L,q];let[b,e]:=L.ob;exact y2 {e,B0,y2 {e,B0,x5 p n r c w {rfl,T,L,x7 p n r c w k _ ⟨rfl,T,L,q⟩}}}
example:(zy6,K4,Bc,2):=by
 apply u6;intro p n r c w k [rfl,T,L,q];let[b,e]:=L.ob;exact y2 {e,B0,y2 {e,B0,x5 p n r c w {rfl,T,L,y3 {e,T.cl,T.n2,_,RX,(x7 p n r c w k _ ⟨rfl,T,L,q⟩)}}}}
example:(zy7,RY,xE,1):=by
 apply u5;intro p n r c w [rfl,T,L,q];let[b,e]:=L.ob;exact y3 {e,T.cl,T.n1,_,VQ,y3 {e,T.cl,T.n2,_,RX,(y3 ⟨e,T.cl,T.n3,_,ZY,q⟩)}}
example:(zy8,RZ,Bd,1):=by
 apply u5;intro p n r c w [rfl,T,L,q];let[b,e]:=L.ob;exact y2 {e,B0,x5 p n r c w {rfl,T,L,y3 {e,T.cl,T.n2,_,RX,(y3 ⟨e,T.cl,T.n3,_,ZY,q⟩)}}}
example:(zy9,NL,xD,1):=by
 apply u5;intro p n r c w [rfl,T,L,q];let[b,e]:=L.ob;let[z,d,g,i,j,l]:=L;refine y3 {e,T.cl,T.n1,_,VQ,y3 {e,T.cl,T.n4,_,OW,({.inl {i0,by lia},y3 {e,T.cl,T.n2,_,RX,y3 {e,T.cl,T.n4,_,OW,({.inl {i0,by lia},y3 {e,T.cl,T.n3,_,ZY,y3 {e,T.cl,T.n4,_,OW,?_}}})}}})}};erw[];exact{.inl {i0,by lia},by decide,q}
example:(zza,VR,Cy,1):=by
 apply u5;intro p n r c w [rfl,T,TP,L,q];let[M,e]:=L.ob
 have s:=L;let[z,N,O,U,u,v]:=L;refine y2 {e,B0,x5 p n r c w {rfl,T,s,y3 {e,T.cl,T.n4,_,OW,λx d g y i=>?_}}}
 have j:Same H (upd (upd H _<|.own x) x (.ins (a "Plank") d [])):=(AL y).trans (AL (by rw[AJ i.symm];exact g));refine x4 x _ _ w {rfl,TP,AG,by lia,u,oA v rfl,λA B D I J=>{rfl,q x A B g (j.free D) I λb o l=>J _ _ (j _ _ l) (BJ l g)}}
def zzb(b:i<m)(h:f i=true)(c:∀ j<i,f j=false):E4 f m=i:=by
 unfold E4
 have:(ο m).find? f=some i:=by
  let[d,rfl]:=ie<|show i+1<=m from b;rw[lj];refine{h,x2 (ο i) ((ο d).map (i+1+·)) {?_,λj e=>by rw[c j (ao.mp e)];rfl}};rw[dz,wg,wg];simp[dz,Et]
 rw[this]
def zzc(b:∀ j<m,f j=false):E4 f m= -1:=by
 unfold E4
 have:(ο m).find? f=none:=js.mpr λj c=>by rw[b j (ao.mp c)];exact ay
 rw[this]
def zzd(b:∀ z∈xs,VY z)(c:GoodV n H v)(hf:IJ v=true):OG v xs=decide (v∈xs):=by
 rw[jd,decide_eq_true_iff];unfold OG
 have key:∀ z,VY z->(JH z v=true↔z=v):=λz hz=>by
  let rfl||[i,rfl]:=hz<;>(cases v<;>first|(simp[JH];done)|(cases n<;>exact c.elim)|(simp[IJ]at hf))
 rw[dt];constructor;intro[z,hz,e];rw[<-(key z<|b z hz).mp e];exact hz;exact λh=>{v,h,(key v<|b v h).mpr rfl}
def EE(H H':Hp):Prop:=∀ b xs,H b=some (.tup xs)->H' b=some (.tup xs)
theorem GoodV.keep(k:EE H H'):∀ {n:Nat} {v:V},GoodV n H v->GoodV n H' v
 |0,_,h=>h
 |_+1,.int _,_=>trivial
 |_+1,.non,_=>trivial
 |_+1,.str _,h=>h
 |n+1,.ref p,⟨xs,h1,h2,h3⟩=>{xs,k _ _ h1,h2,λv b=>(h3 v b).keep k}
def Same.tk{H H':Hp}(s:Same H H'):EE H H':=λb xs e=>s _ _ e
def zze(c:GoodV 4 H v)(g:H d=some (.tup xs))(b:∀ z∈xs,VY z)(q:Q (.bl<|decide<|v∈xs) H):RJ K v (.ref d) H Q:=by
 have flat:IJ v=true->RJ K v _ H Q:=λhf=>.inl ⟨d,xs,rfl,.inr<|SqT.of g,hf,(fe.mpr λz hz=>by let rfl||[i,rfl]:=b z hz<;>rfl),by
  rw[zzd b c hf];exact q⟩
 cases v with
 |ref t =>
  have:decide ((V.ref t)∈xs)=false:=decide_eq_false λj=>by let z||[i,z]:=b _ j<;>cases z
  let[ys,e,y]:=c;rw[this]at q;exact .inr<|x4 t ys d xs {rfl,SqT.of e,rfl,SqT.of g,b,q}
 |int i=>exact flat rfl
 |non=>exact flat rfl
 |str z=>exact flat rfl
 |_=>exact c.elim
example:(zzf,OY,Dw,5):=by
 apply QN;intro A w rows n cs outs pl vl M xs f m [rfl,T,TP,B,J,L,N,O,U,hf,q,Y];let[dx,ho]:=B.bk.ob;refine{{_,SqL.of J},YX  (λi l H'=>(Same H H'/\∀ j<i,f j=false)/\∃ x y,l=[some _,some _,some _,x,y]) {{Same.refl _,λj D=>absurd D<|me _},x2 _ _ rfl} (by intro i l H' u [[s,u],u];exact SqL.of<|s _ _ J) (λi x l H' t b c ht=>?_) (λl H' c=>?_)};let[[s,lo],x0,y0,rfl]:=c;rw[ψ]at b;cases p:M[i]? with
 |none=>rw[p]at b;cases b
 | some I =>
  rw[p]at b;obtain rfl:=μ b;refine u3 ?_<|hf i I p;intro bi bj v [e1,on,ev,gv,ef]
  have d:=s.trans<|AL (o:=.tup [.int i,.ref I]) ht;refine{_,SqT.of AG,rfl,?_};revert d;refine λd=>y2 {d _ _ ho,DC,x9 A w _ n cs _ I bi bj {rfl,T,TP,B.same d,d _ _ e1,λu v' H3 e s3=>?_,λz=>absurd on z}};rw[ev]at e;obtain rfl:=μ e
  have r:=d.trans s3;refine zze (gv.keep r.tk) (r _ _ O) U ?_;rw[<-ef];erw[];cases g:f i with
  |true=>exact q i (zzb (L ▸ ((η.mp p).1)) g lo) _ r
  |false=>exact⟨r,λj D=>by
    let z||z:=ee j i
    exact lo j z;rw[show j=i by exact jz (du D) z];exact g⟩
 let[[s,lo],x0,y0,ez]:=c;rw[ε,L]at lo;exact{by decide,Y (zzc lo) _ s}
def eO{m w:Nat}{B:Nat->Int}{p:TE}{r:wH}{u:St}{H:Hp}{Q:VK}(A:m<=1000)(D:∀ i H' v,i<m->Same H H'->HD (B i) (i%w:Nat) v H'->p (some (.int<|0+(i:Int))::C1 r u) H' v)
  (q:∀ (b:eF) (H':Hp) (l:Addr),b.length=m->Same H H'->(∀ k t,b[k]? =some t->H' t=some (.tup [.int (B k),.int (k%w:Nat)]))->H' l=some (.lst<|b.map V.ref)->Q (.ref l) H'):EN (FR 0 m) (AF 0) CQ p 1 r u H Q:=by
 refine NF (BP m<|oA A rfl) (λi ys H'=>Same H H'/\∃ b:List _,ys=b.map V.ref/\b.length=i/\∀ k t,b[k]? =some t->H' t=some (.tup [.int (B k),.int<|k%w])) {Same.refl _,[],rfl,rfl,λk t h=>by simp at h} (λi ys H' I x d=>?_) λys H' x d l g=>?_;let[s,b,e,y,h]:=d;refine D i H' _ I s λt j=>?_
 have st:=AL (o:=.tup [.int (B i),.int<|i%w]) j;refine{s.trans st,b++[t],by rw[e,ak];rfl,by simp[y],λk t' c=>?_};let z||z:=ee k _
 rw[bc z]at c;exact st _ _<|h k t' c;rw[b_ z]at c
 have n:k-b.length=0:=by
  let z||z:=ma _
  exact z;rw[bd (z)]at c;cases c
 rw[n]at c;obtain rfl:=μ c
 have:k=i:=by lia
 subst this;exact AG;let[s,b,rfl,y,h]:=d
 have st:=AL (o:=.lst<|b.map V.ref) g;exact q b _ l (by simpa using x) (s.trans st) (λk t c=>st _ _<|h k t c) AG
def Pm{rows:yD}{w i j:Nat}(c:∀ r∈rows,r.length=w)(d:i<rows.length)(g:j<w)(cs:yH):∃ v,E3 cs rows i j=some v:=by
 unfold E3;cases e:D8 cs i j with
 |some k =>
  exact{_,by show(cs[k]?).map _=_;rw[ι (RQ e)];rfl}
 |none =>
  have b:=ι d;exact{_,by rw[cj,b];exact ι<|Nat.lt_of_lt_of_eq g (c _<|θ b).symm}
def zzg{n r c w kind k:Nat}(b:kind<3)(h:k<BQ n r c w kind):BM n r c w kind k<n+r+c+r+c:=by
 unfold BM
 have hd:=kh (by rw[da];exact h);rcases(c3 b)with z|z|z<;>subst z<;>simp at hd ⊢ <;>lia
def Pp{n r c w kind k:Nat}(h:k<BQ n r c w kind):1<=w:=by
 let z||z:=ma w
 rw[z]at h;exact nZ h;exact z
def WW{n r c w kind:Nat}(h1:n<=6)(h2:r<=6)(h3:c<=6)(h4:w<=6):BQ n r c w kind<=36:=by
 have h:(if kind=0 then n else if kind=1 then r else if kind=2 then c else if kind=3 then r else c)<=6:=by
  split<;>(try split)<;>(try split)<;>(try split)<;>lia
 exact jp h h4
def SU(kind:Nat):eI:=if kind=0 then [.non]else [.non,.int 0]
def zzh(kind:Nat)(v:V):decide (v∈SU kind)=MC kind v:=by
 unfold SU MC;by_cases h:kind=0;subst h;simp;rw[if_neg h];simp[sr h]
def eQ{kind:Nat}{A:BA}{n r c w:Nat}{rows:yD}{nn:Nat}{cs:yH}{outs:zE}{g:eF}{l:Addr}{H':Hp}(N:kind<3)(T:TB K a)(TP:D0 K a)(s:Same H H')(B:EA a H A w rows nn cs outs)(O:rows.length=n+r+c+r+c)(h1:n<=6)(h2:r<=6)(h3:c<=6)(h4:w<=6)
  (U:∀ i j v,E3 cs rows i j=some v->GoodV 4 H v) (d:g.length=BQ n r c w kind) (Y:∀ k t,g[k]? =some t->H' t=some (.tup [.int (BM n r c w kind k:Nat),.int (k%w:Nat)])) (el:H' l=some (.lst<|g.map V.ref))
  (q:∀ k:Nat,E4 (NN cs rows n r c w kind) (BQ n r c w kind)=k->∀ H',Same H H'->Q (.int k) H') (qe:E4 (NN cs rows n r c w kind) (BQ n r c w kind)= -1->∀ H',Same H H'->E (.ref<|a "NoRoom") none H') :
  ∀ u,H' u=none->OY K a [.ref A.b,.ref l,.ref u] (upd H' u<|.tup<|SU kind) Q E:=λu hu=>by
 have x:=AL (o:=.tup<|SU kind) hu
 have p:=s.trans x;refine QL A w _ nn cs _ l u g _ _ _ {rfl,T,TP,B.same p,x _ _ el,d,oA (WW  h1 h2 h3 h4) rfl,AG,λz hz=>?_,λk t e=>?_,λk b y D=>q k b y<|p.trans D,λb y D=>qe b y<|p.trans D};unfold SU at hz;split at hz<;>simp at hz;exact .inl hz;let z||z:=hz
 exact .inl z;exact .inr {0,z}
 have L:=d ▸ ((η.mp e).1)
 have hb:=zzg N L
 have M:k%w<w:=sq _<|(Pp L);let[v,I]:=Pm (λr' J=>B.pk.wd r' J) (show BM n r c w kind k<rows.length by lia) M cs;refine x3 _ _ v {x _ _<|Y k t e,{i0,c_.mpr<|O ▸ hb,i0,c_.mpr M},I,(U _ _ _ I).keep p.tk,?_};unfold NN;rw[I,zzh]
example:(zzi,V0,c9,3):=by
 apply u2;intro p b [rfl,A,n,r,c,w,rows,nn,cs,outs,rfl,T,TP,u,L,h1,h2,h3,h4,B,v,x,q,y];let[M,e]:=L.ob;erw[c9,c90_];refine y2 {e,B0,x5 p n r c w {rfl,u,L,λt z=>?_}}
 have d:=AL (o:=.tup [V.int (n*w),V.int<|r*w,V.int<|c*w]) z;refine BU AG  rfl rfl ?_;revert d
 have D:=WW (kind:=0) h1 h2 h3 h4
 have N:n*w=(BQ n r c w 0):=by unfold BQ;simp
 refine λd=>{i0,by lia,eO   (oA D rfl) (λi H' O U g I=>(y2 {g _ _<|d _ _ e,B0,x6 p n r c w i {(by simp),u,(L.same d).same g,?_}})) λY H' l j g s J=>{by decide,eQ  (by decide) T TP (d.trans g) B v h1 h2 h3 h4 x j s J q y}}
 exact I
example:(zzj,aC,dA,3):=by
 apply u2;intro p b [rfl,A,n,r,c,w,rows,nn,cs,outs,rfl,T,TP,u,L,h1,h2,h3,h4,B,v,x,q,y];let[M,e]:=L.ob;erw[dA,dA0_];refine y2 {e,B0,x5 p n r c w {rfl,u,L,λt z=>?_}}
 have d:=AL (o:=.tup [V.int (n*w),V.int<|r*w,V.int<|c*w]) z;refine BU AG  rfl rfl ?_;revert d
 have D:=WW (kind:=1) h1 h2 h3 h4
 have N:r*w=(BQ n r c w 1):=by unfold BQ;simp
 refine λd=>{i0,by lia,eO   (oA D rfl) (λi H' O U g I=>(y2 {g _ _<|d _ _ e,B0,x6 p n r c w i {(by simp),u,(L.same d).same g,?_}})) λY H' l j g s J=>{by decide,eQ  (by decide) T TP (d.trans g) B v h1 h2 h3 h4 x j s J q y}}
 exact I
example:(zzk,aD,dB,3):=by
 apply u2;intro p b [rfl,A,n,r,c,w,rows,nn,cs,outs,rfl,T,TP,u,L,h1,h2,h3,h4,B,v,x,q,y];let[M,e]:=L.ob;erw[dB,dB0_];refine y2 {e,B0,x5 p n r c w {rfl,u,L,λt z=>?_}}
 have d:=AL (o:=.tup [V.int (n*w),V.int<|r*w,V.int<|c*w]) z;refine BU AG  rfl rfl ?_;revert d
 have D:=WW (kind:=2) h1 h2 h3 h4
 have N:c*w=(BQ n r c w 2):=by unfold BQ;simp
 refine λd=>{i0,by lia,eO   (oA D rfl) (λi H' O U g I=>(y2 {g _ _<|d _ _ e,B0,x6 p n r c w i {(by simp),u,(L.same d).same g,?_}})) λY H' l j g s J=>{by decide,eQ  (by decide) T TP (d.trans g) B v h1 h2 h3 h4 x j s J q y}}
 exact I
def zzl{cs:yH}{rows:yD}(g:goodH H cs rows){i j:Int}{v:V}(h:E3 cs rows i j=some v):GoodV 4 H v:=by
 unfold E3 at h;cases e:D8 cs i j with
 |some k =>
  rw[e]at h
  have h:(cs[k]?).map _=some v:=h;cases b:cs[k]? with
  |none=>rw[b]at h;cases h
  |some c =>
   rw[b]at h;obtain rfl:=μ h;exact g.2 c<|θ b
 |none =>
  rw[e]at h;cases d:rows[i.toNat]? with
  |none=>rw[d]at h;cases h
  |some r =>
   rw[d]at h;exact g.1 r (θ d) v (θ h)
def goodH.keep(g:goodH H cs rows)(k:EE H H'):goodH H' cs rows:={λr b v d=>(g.1 r b v d).keep k,λc e=>(g.2 c e).keep k}
def zzm{cs:yH}{rows:yD}{i j:Int}{b c:Nat}{v:V}{nd:yG}:E3 (cs++[⟨b,c,v,nd⟩]) rows i j=if(b:Int)=i/\(c:Int)=j then some v else E3 cs rows i j:=by
 unfold E3;rw[ZN];by_cases h:b=i/\c=j;rw[if_pos h,if_pos h];simp;rw[if_neg h,if_neg h];cases e:D8 cs i j with
 |none=>rfl
 |some k =>
  show((cs++[_])[k]?).map _=(cs[k]?).map _;rw[bc (RQ e)]
def LC{G:yE}{H H':Hp}(s:SameBut G H H')(g:∀ x,G x->ES (H x)):EE H H':=λb xs e=>s _ _ e λz=>(g _ z).1 _ e
def eU{z:Str}{i:Int}{n:Nat}{c:Nat}{Q:VK}(b:i=n)(d:z.cps.toList.length<=1000)(e:z.cps.toList[n]? =some c)(q:Q (.str {#[c]}) H):BZ K (.str z) (.int i) H Q:=by
 subst b;exact .inr (.inr (x3 z n c {rfl,rfl,υ (d) (BP _ (by decide)),UH e,q}))
def zzn:[c]<(ζ " ").cps.toList↔c<32:=by
 rw[show(ζ _).cps.toList=[32] by decide +kernel,iy];simp
def zzo:(ζ "~").cps.toList<[c]↔126<c:=by
 rw[show(ζ _).cps.toList=[126] by decide +kernel,iy];simp
def zzp:[c]<(ζ "a").cps.toList↔c<97:=by
 rw[show(ζ _).cps.toList=[97] by decide +kernel,iy];simp
def zzq:(ζ "z").cps.toList<[c]↔122<c:=by
 rw[show(ζ _).cps.toList=[122] by decide +kernel,iy];simp
example:(zzr,aE,bT,1,h):=by
 let[c,rfl,q]:=h;erw[bT,bT0_,zzn,zzo];unfold NO at q;split;rename_i h1;split;rename_i h2;rw[decide_eq_true (cm h1),decide_eq_true<|cm h2]at q
 have e:(!decide (((#[c].getD 0 0):Int)=37))=decide (c≠37):=by
  rw[show(#[c]).getD 0 0=c from rfl,<-decide_not];exact decide_eq_decide.mpr (by lia)
 refine{rfl,?_};rw[e];exact q;rw[show decide (c<=126)=false from decide_eq_false (by lia)]at q;simpa using q;rw[decide_eq_false (by lia)]at q;exact q
def eV(hz:z.length<=1000)(j:∀ c (g:VK),g (.bl<|f c) H->l [some (.str {#[c]})] H g)(q:∀ H',Same H H'->Q (.bl<|z.cps.toList.all f) H') :
  EN (RD z) (AF 0) CQ l 1 [] [some (.str z)] H λx n=>NG K [x] n Q:=by
 refine zfg (BP _<|oA hz rfl) (λi ys H'=>H'=H/\ys=(z.cps.toList.take i).map λc=>V.bl<|f c) ⟨rfl,rfl⟩ (λi c ys H' o r b=>?_) (λys H' r b p s=>?_);let[rfl,d]:=b
 have e:z.cps.toList[i]? =some c:=by simpa using o
 refine j c _ {rfl,?_};rw[cu,e,d];simp;let[rfl,d]:=b
 have u:ys=(z.cps.toList.map f).map V.bl:=by
  rw[d,jh,dv (by simp)];rfl
 refine x2 p _ {rfl,by rw[<-u];exact SqL.of AG,?_};rw[C_];exact(q _<|AL  s)
example:(zzs,aF,bU,1,h):=by
 let[z,rfl,hz,q]:=h;erw[bU,bU0_];unfold BD at q;refine{_,{BP _<|oA hz rfl,rfl},?_};split;rename_i h1;rw[decide_eq_true (by exact c_.mp h1)]at q;by_cases h2:z.length<=8;rw[decide_eq_true h2]at q;rw[if_pos (by lia)];refine eV hz (λc d b=>?_) q;erw[zzp,zzq];unfold OZ at b;split;rename_i h3;rw[decide_eq_true (cm h3)]at b;rw[show(!decide _)=decide (c<=122) by rw[<-decide_not];exact decide_eq_decide.mpr (by lia)];exact b;rw[decide_eq_false (by lia)]at b;exact b;rw[decide_eq_false h2]at q;rw[if_neg (by exact λz=>h2<|j_.mp z)];exact q _<|Same.refl _;rename_i h1;rw[decide_eq_false (λz=>h1<|j_.mpr z)]at q;exact q _<|Same.refl _
example:(zzt,aG,cO,1,h):=by
 let[z,rfl,hz,q]:=h;erw[cO,cO0_];unfold GY at q;refine{_,{BP _<|oA hz rfl,rfl},?_};split;rename_i h1;rw[decide_eq_true (by exact c_.mp h1)]at q;by_cases h2:z.length<=40;rw[decide_eq_true h2]at q;rw[if_pos (by lia)];exact eV hz (λc d b=>⟨c,rfl,b⟩) q;rw[decide_eq_false h2]at q;rw[if_neg (by exact λz=>h2<|j_.mp z)];exact q _<|Same.refl _;rename_i h1;rw[decide_eq_false (λz=>h1<|j_.mpr z)]at q;exact q _<|Same.refl _
def MQ(x y:Str):(x++y).length=x.length+y.length:=PySem.strLen_append x y
def SV(x:Int){n:Nat}(h:1<=n):∃ b:Nat,x%(n:Int)=b/\b<n :=
 ⟨_,(fm (yp x (show(n:Int)≠0 by exact λz=>i_ h<|ca z))).symm,by
  have:=vp x (show(0:Int)<n by exact c_.mpr h)
  lia⟩
def zzu{z:Str}{i:Int}{n:Nat}{Q:VK}(b:i=n)(d:n<z.length)(hz:z.length<=1000)(q:∀ c,Q (.str {#[c]}) H):BZ K (.str z) (.int i) H Q:=by
 subst b;exact .inr<|.inr<|x3 z n _ {rfl,rfl,BP _<|oA hz rfl,UH<|ι<|d,q _}
section
variable{lp b tk:Addr}
def IB:(sf lp b tk).lookup ("plan":Str)=some (V.ref lp):=by simp[sf]
def IC:(sf lp b tk).lookup ("book":Str)=some (V.ref b):=by
 simp[sf,au,BB (a:="book") (b:="plan") (by decide)]
def eZ:(sf lp b tk).lookup ("taken_out":Str)=some (V.ref tk):=by
 simp[sf,au,BB (a:="taken_out") (b:="plan") (by decide),BB (a:="taken_out") (b:="book") (by decide)]
def BR{x:Str}(h:(D9 x "plan" || D9 x "book" || D9 x "taken_out")=false:=by decide +kernel):(sf lp b tk).lookup x=none:=by
 simp only[ff]at h;let[[h1,h2],h3]:=h;simp[sf,au,BB h1,BB h2,BB h3]
def zzv:BO "taken_out" (.ref tk) (BO "book" (.ref b) (BO "plan" (.ref lp) []))=sf lp b tk:=by
 rfl
end
def zzw{w k b:Nat}(h1:k/w=b/w)(h2:k%w=b%w):k=b:=by
 rw[<-rn k w,<-rn b w,h1,h2]
def zzx{f:yF}{m k:Nat}(h:E4 f m=k):k<m:=by
 unfold E4 at h;cases e:(ο m).find? f with
 |none=>rw[e]at h;simp at h
 |some b =>
  have:=ao.mp<|wq e
  lia
def Pq{z:Str}(h:BD z=true):dn z=true:=by
 unfold BD at h;rw[bv]at h
 have h:=h.2;unfold dn;rw[<-um];rw[fe]at h ⊢;intro c b
 have:=h c b;simp only[OZ,bv,decide_eq_true_eq]at this ⊢;exact oC this.2 rfl
def RepC.keep(k:EE H H'):∀ {x:CV} {v:V},RepC H x v->RepC H' x v
 |.no,_,h=>h
 |.nm _ _,_,⟨t,e,b⟩=>{t,e,k _ _ b}
 |.mk _,_,h=>h
 |.rc _ _,_,⟨t,u,e,b,c⟩=>{t,u,e,k _ _ b,k _ _ c}
 |.tx _,_,h=>h
theorem LaidA.keep(k:EE H H')(h:LaidA n r c w H cs as):LaidA n r c w H' cs as:=by
 induction h with
 |nil=>exact .nil
 |snoc _ b d e g i j l=>exact l.snoc b d (e.keep k) g i j
def SM.same(I:SM a H S n r c w rows nn cs outs b M)(s:Same H H'):SM a H' S n r c w rows nn cs outs b M:=by
 let[[i,j],l,o,p,q,u,x,y,z,d,e,g]:=I;exact{{i,s _ _ j},l.same s,o.same s,s _ _ p,q,u,x,y,z.keep s.tk,λkind k v h1 h2 A=>(d _ k v h1 h2 A).keep s.tk,e,g.keep s.tk}
example:(zzy,aH,wS,1):=by
 apply u5;intro x c d b tk [rfl,T,e,q];exact y3 ⟨e,T.cl,T.n2,_,IC,q⟩
def BookAt.ins1(B:BookAt a C H A w rows n cs outs)(s:SameBut (· =x) H H')(D:H x=some (.ins C' dx fs))(hf:fs.length<=2):BookAt a C H' A w rows n cs outs:=by
 let[[[I,J],[L,M,N],O,T,U,[kvs,Y,e8],[DW,e9,p],r1,r2,r3,r4,r5],[[d2,f1],[ts,f2,f3],f4,f5,f6],nb]:=B
 have o:∀ {y:Addr} {o:HO},H y=some o->(∀ b g ,o≠.ins b g fs)->H' y=some o:=λe h=>s _ _ e<|BI e D<|h _ _
 have q:∀ {y:Addr} {b g:Addr} {j:List _},H y=some _->2<j.length->H' y=some (.ins b g j):=λe h=>o e λv v z=>by injection z with _ _ z;rw[z]at h;exact nL h hf
 have ol:∀ {y:Addr} {u:HO},H y=some u->(∀ b g j,u≠.ins b g j)->H' y=some u:=λe h=>o e λv v=>h _ _ _;exact{{{I,q J (by simp[bf])},{_,ol M (by simp),Paired.mapP N (by intro y c [d,pl,nt,g1,g2,g3];exact x3 d pl nt {q g1 (by simp[GD]),ol g2 (by simp),ol g3 (by simp)})},ol O (by simp),λi l h=>ol (T i l h) (by simp),U,{_,ol Y (by simp),e8},{_,ol e9 (by simp),p},r1,r2,r3,r4,r5},{{d2,q f1 (by simp[pf])},{ts,ol f2 (by simp),Paired.mapP f3 λt r z=>ol z (by simp)},f4,f5,f6},nb}
example:(zzz,O1,Dq,3):=by
 apply QN;intro x d i gp cl n r c w rows nn M [rfl,[T,TP,TL,TS],l,L,P,sz,g,N,hok,q];refine y3 {l,TS.cl,TS.n1,by decide,?_}
 have s:upd H x _ x=some (.ins (a "Store") d (BO "plan" (.ref i) [])):=AG
 have j:SameBut _ H (upd H x<|.ins (a "Store") d (BO "plan" (.ref i) [])):=λy o e n=>by rw[AJ n];exact e
 revert s j;generalize upd H x _=H1;intro s j
 have P1:PlankAt a H1 gp cl w rows nn:=by
  let[[dx',f1],[ts,f2,f3],r1,r2,r3]:=P;exact{{_,j _ _ f1 (BI f1 l (OU (by simp[pf])))},{ts,j _ _ f2 (BI f2 l (by intro z;cases z)),Paired.mapP f3 λt r z=>j _ _ z (BI z l (by intro z;cases z))},r1,r2,r3}
 refine zyq T TP P1 λA I eg ec off B O=>?_
 have u:=O _ _ s;refine y3 {u,TS.cl,TS.n2,FZ  (by decide),λp D=>?_}
 have np:=BJ AG D;rw[AJ np.symm]at D;refine y3 {by rw[AJ np,AG],TS.cl,TS.n3,FZ  (FZ  (by decide)),?_};rw[zzv]
 have J:SameBut _ I (upd (upd (upd I x<|.ins (a "Store") d (BO "book" (.ref A.b) (BO "plan" (.ref i) []))) p (.dK [])) x (.ins (a "Store") d (sf i A.b p))):=λy o e n=>by
  rw[AJ n,AJ<|BJ e D,AJ n];exact e
 have U:upd (upd (upd I x<|.ins (a "Store") d (BO "book" (.ref A.b) (BO "plan" (.ref i) []))) p (.dK [])) x _ x=some (.ins (a "Store") d (sf i A.b p)):=AG
 have Y:upd (upd (upd I x<|.ins (a "Store") d (BO "book" (.ref A.b) (BO "plan" (.ref i) []))) p (.dK [])) x (.ins (a "Store") d (sf i A.b p)) p=some (.dK []):=by rw[AJ np.symm,AG]
 revert J U Y;generalize upd _ x _=H3;intro J U Y
 have sb:=(j.trans<|Same.sb O).trans J
 have tk:EE H H3:=λb xs e=>sb _ _ e (BI e l (by intro z;cases z));let[dl,el]:=L.ob;refine q ⟨A,x,i,p⟩ H3 rfl rfl eg ec (λy o e=>?_) (j.none (by rw[s];intro z;cases z) (O.free D)) {⟨d,U⟩,L.sb sb (BI el l (OU (by simp[lf]))),(B.ins1 J u (υ (QY _ _ _) (by simp))),Y,π _,λz v h=>by simp[BF]at h,B.off D,sz,{λr hr v hv=>(g r hr v hv).keep tk,λc hc=>by cases hc},λkind k v h1 h2 hv=>(N _ k v h1 h2 hv).keep tk,hok,.nil} sb;by_cases hy:y=x;subst hy;exact(off _ _ s).imp id id;exact off y o<|j _ _ e hy
section
variable{X:SX}{cs:yH}{tks:cD}{M:Hs}
def fA{n r c w kind d k i:Nat}(h1:kind<5)(h2:d<5)(o:k<BQ n r c w kind)(j:i<BQ n r c w d)(l:BM n r c w kind k=BM n r c w d i)(p:k%w=i%w):kind=d/\k=i:=by
 have f:∀ {kind x:Nat},kind<5->x<(if kind=0 then n else if kind=1 then r else if kind=2 then c else if kind=3 then r else c)->∀ b,(if kind=0 then 0 else if kind=1 then n+r+c else if kind=2 then n+r+c+r else if kind=3 then n else n+r)+x=b->(if b<n then 0 else if b<n+r then 3 else if b<n+r+c then 4 else if b<n+r+c+r then 1 else 2)=kind:=by
  intro kind x h g b e
  match kind,h with
  |0,_=>rw[if_pos]<;>simp at g e<;>exact e ▸ g
  |1,_=>rw[if_neg]<;>simp at g e<;>lia
  |2,_=>rw[if_neg]<;>simp at g e<;>lia
  |3,_=>rw[if_neg]<;>simp at g e<;>lia
  |4,_=>rw[if_neg]<;>simp at g e<;>lia
 have key:kind=d/\k/w=i/w:=by
  obtain rfl:kind=d:=(f h1 (kh (by rw[da];exact o)) _ l).symm.trans (f h2 (kh (by rw[da];exact j)) _ rfl);exact{rfl,Nat.add_left_cancel l}
 exact{key.1,zzw key.2 p}
def LaidA.newest{n r c w:Nat}{H:Hp}{cs:yH}{as:zH}(h:LaidA n r c w H cs as){kind k:Nat}(h1:kind<5)(d:k<BQ n r c w kind):D8 cs (BM n r c w kind k:Nat) (k%w:Nat)=IT kind k as/\cs.length=as.length:=by
 induction h with
 |nil=>exact⟨rfl,rfl⟩
 |@snoc cs as ch x _ g i o p j l b =>
  refine{?_,by rw[ae,b.2];rfl};rw[ZN,b.1,b.2]
  show _=(if x.kind=kind/\x.k=k then some _ else IT _ k as);by_cases e:x.kind=kind/\x.k=k;rw[if_pos e,if_pos {by rw[g,e.1,e.2],by rw[i,e.2]}];rw[if_neg e,if_neg λz=>e (fA j h1 l d (by lia) (by lia))]
def SM.on(I:X.at a H cs tks M)(h1:kind<5)(b:k<BQ X.n X.r X.c X.w kind):BM X.n X.r X.c X.w kind k<X.rows.length/\k%X.w<X.w:=by
 refine{?_,sq _<|(Pp b)};rw[I.sz.2.2.2.2];unfold BM
 have hd:=kh (by rw[da];exact b);rcases(c5 h1)with z|z|z|z|z<;>subst z<;>simp at hd ⊢ <;>lia
def SM.onPl(I:X.at a H cs tks M){kind k:Nat}(h1:kind<5)(b:k<BQ X.n X.r X.c X.w kind):onPl X.rows X.w (BM X.n X.r X.c X.w kind k:Nat) (k%X.w:Nat):=by
 have:=I.on h1 b;exact{jk _,by lia,jk _,c_.mpr this.2}
def SM.val(I:X.at a H cs tks M){kind k:Nat}(h1:kind<5)(c:k<BQ X.n X.r X.c X.w kind):∃ v,E3 cs X.rows (BM X.n X.r X.c X.w kind k:Nat) (k%X.w:Nat)=some v/\RepC H (M kind k) v:=by
 let[e,g]:=I.on h1 c;let[v,d]:=Pm (λi b=>I.bk.pk.wd i b) e g cs;exact{v,d,I.rp _ k v h1 c d}
def SM.snoc{H':Hp}{kind k:Nat}{v:V}{x:CV}{nd:yG}{i:wH}(hd:∀ y:Int,y∈nd↔(∃ j∈i,y=(j:Nat))\/vG cs (BM X.n X.r X.c X.w kind k:Nat) (k%X.w:Nat) y)(I:X.at a H cs tks M)(h1:kind<5)(l:k<BQ X.n X.r X.c X.w kind)(B:EA a H' X.S.A X.w X.rows X.nn (cs++[{BM X.n X.r X.c X.w kind k,k%X.w,v,nd}]) X.outs)(s:SameBut X.S.A.F H H')(g:GoodV 4 H' v)(w:RepC H' x v)(ox:EB kind x):X.at a H' (cs++[{BM X.n X.r X.c X.w kind k,k%X.w,v,nd}]) tks (M.put kind k x i):=by
 have lo:∀ x,X.S.A.F x->ES _:=λx O=>I.bk.loose O
 have tk:=LC s lo;let[[T,D],J,e3,U,Y,e6,L,e8,N,q,r,n]:=I;let[dl,el]:=J.ob;refine{{T,s _ _ D λz=>(lo _ z).2 _ _ _ D},J.sb s λz=>(lo _ z).2 _ _ _ el,B,s _ _ U L,by rw[ae];exact ck Y,λz v h=>?_,L,e8,{(N.keep tk).1,λc hc=>?_},λb p v' d e o=>?_,λb p d e=>?_,(n.keep tk).snoc rfl rfl w (λy=>by rw[hd];unfold vG;rw[(n.newest h1 l).1]) h1 l};let[k,ek,l]:=e6 z v h;exact{k,ek,by rw[ae];exact ck l};let y||y:=bh.mp hc
 exact(N.keep tk).2 c y;rw[aa.mp y];exact g;rw[zzm]at o;rw[Hs.put_at];by_cases u:b=kind/\p=k;let[rfl,rfl]:=u;rw[if_pos ⟨rfl,rfl⟩]at o ⊢;obtain rfl:=μ o;exact w;rw[if_neg λy=>u (by
  have:=fA h1 d l e (ca y.1) (ca y.2);exact⟨this.1.symm,this.2.symm⟩)]at o
 rw[if_neg u];exact(q _ p v' d e o).keep tk;rw[Hs.put_at];split;rename_i y;rw[y.1];exact ox;exact r _ p d e
def IX{kind k:Nat}{v:V}{x:CV}{u nl:Addr}{ns:yG}(o:CO K a)(I:X.at a H cs tks M)(h1:kind<5)(c:k<BQ X.n X.r X.c X.w kind)(p:H u=some (.tup [.int (BM X.n X.r X.c X.w kind k:Nat),.int (k%X.w:Nat)]))(r:H nl=some (.lst<|ns.map V.int))(s:ns.length<=60)(d:cs.length<990)(i:∀ x∈ns,known cs x)(g:GoodV 4 H v)(w:RepC H x v)(ox:EB kind x)
  (q:∀ ch H',X.at a H' (cs++[ch]) tks (M.put kind k x<|MD ns)->SameBut X.S.A.F H H'->Q (.int cs.length) H'):GW K a [.ref X.S.A.b,.ref u,v,.ref nl] H Q E:=by
 let[T,TP,L,TS]:=o;refine QL _ _ _ _ cs _ u nl v ns _ _ {rfl,T,TP,I.bk,p,SqL.of r,s,d,λz z nd B N mem D l=>?_,λy=>absurd (I.onPl h1 c) y,λz ⟨x,b,c⟩=>absurd (i x b) c}
 have tk:=LC l λx b=>I.bk.loose b;refine q _ B (I.snoc (λy=>?_) h1 c D l (g.keep tk) (w.keep tk) ox) l;rw[mem];refine or_congr {λh=>{_,a_.mpr ⟨y,h,rfl⟩,(fm<|(i y h).1).symm},λn=>?_} Ko;let[j,J,e]:=n;let[x,b,rfl]:=a_.mp J
 have:=(i x b).1;rw[show y=x by lia];exact b
end
def NmX(H:Hp)(v:V):Option (Str × Nat)->Prop
 |none=>v=.non
 |some (z,k)=>∃ t,v=.ref t/\H t=some (.tup [.str z,.int k])
def NmX.keep(h:NmX H v x)(k:EE H H'):NmX H' v x:=by
 cases x with
 |none=>exact h
 |some p=>let[t,e,b]:=h;exact{t,e,k _ _ b}
def RepC.nmv(h:RepC H (M 0 k) v)(ok:EB 0 (M 0 k)):NmX H v (E5 M k):=by
 unfold E5;cases e:M 0 k with
 |no=>rw[e]at h;exact h
 |nm z r=>rw[e]at h;exact h
 |mk i=>rw[e]at ok;exact ok.elim
 |rc m ps=>rw[e]at ok;exact ok.elim
 |tx z=>rw[e]at ok;exact ok.elim
example:(zz1,R4,cX,1):=by
 apply u4;intro X cs N M [rfl,[T,TP,D,TS],I,q];let[S,n,r,c,w,rows,nn,outs]:=X;let[dx,j]:=I.ob;let[dl,J]:=I.ly.ob;let[db,O]:=I.bk.bk.ob
 have hz:=I.sz
 have l:=jp hz.1 hz.2.2.2.1;erw[cX,cX0_];refine y3 {j,TS.cl,TS.n1,_,IB,y2 {J,B0,x5 _ n r c w {rfl,D,I.ly,λt U=>?_}}}
 have A:=AL (o:=.tup [V.int (n*w),V.int<|r*w,V.int<|c*w]) U;refine BU AG  rfl rfl ?_;revert A
 have Y:(n:Int)*w=(n*w:Nat):=rfl;intro A;rw[Y];erw[];refine{i0,by lia,NF (BP _<|oA l rfl) (λi ys H'=>Same H H'/\ys.length=i/\∀ k v,ys[k]? =some v->E3 cs rows (BM n r c w 0 k) (k%w)=some v) {A,rfl,λk v h=>by simp at h} (λi ys H' hi e d=>?_) (λys H' e d p hp=>?_)}
 ·let[s,x,B]:=d;refine y3 {s _ _ j,TS.cl,TS.n2,_,IC,y2 {s _ _ O,DC,y3 {s _ _ j,TS.cl,TS.n1,_,IB,y2 {s _ _ J,B0,x6 _ n r c w i {by simp,D,I.ly.same s,λu hu=>?_}}}}}
  have L:=s.trans<|AL (o:=.tup [.int (0+i/w),.int<|i%w]) hu;refine x9 _ w rows nn cs _ u (BM n r c w 0 i) (i%w) {rfl,T,TP,I.bk.same L,by rw[AG];simp[BM],λx v H3 ev g=>{L.trans g,by simp[e],λk v' b=>?_},λz=>absurd (SM.onPl I  (by decide) (hi)) z};let z||z:=ee k _
  rw[bc z]at b;exact B k v' b
  have:k=i:=by
   let y||y:=Nat.eq_or_lt_of_le z
   exact e ▸ y.symm;rw[bd (by simp;lia)]at b;cases b
  rw[b_ z]at b;subst this;rw[e,vk]at b;obtain rfl:=μ b;exact ev
 let[s,x,B]:=d
 have g:=s.trans<|AL (o:=.lst ys) hp;exact q p ys _ g AG e λk v b=>((I.rp 0 k v (by decide) (by simp[BQ];exact e ▸ ((η.mp b).1)) (B k v b)).keep g.tk)
def zz2(b:i<m)(h:(E5 M i).any (λp=>decide<|p.1=z)=true)(c:∀ j<i,(E5 M j).any (λp=>decide<|p.1=z)=false):cellOf M m z=some i:=by
 unfold cellOf;let[d,rfl]:=ie<|show i+1<=m from b;rw[lj];refine{h,x2 (ο i) ((ο d).map (i+1+·)) {?_,λj e=>by rw[c j (ao.mp e)];rfl}};rw[dz,wg,wg];simp[dz,Et]
def zz3(b:∀ j<m,(E5 M j).any (λp=>decide<|p.1=z)=false):cellOf M m z=none:=js.mpr λj c=>by rw[b j (ao.mp c)];exact ay
example:(zz4,O3,Em,4):=by
 apply u5;intro X cs O M z [rfl,T,I,q];let[dx,U]:=I.ob;refine y2 {U,BR,x4 X cs _ M {rfl,T,I,λl xs D Y J n hx=>({{_,SqL.of J},YX  (λi e H'=>(Same H H'/\Same D H'/\∀ j<i,(E5 M j).any (λp=>decide<|p.1=z)=false)/\∃ x y,e=[some _,some _,x,y]) {{Y,Same.refl _,λj r=>absurd r<|me _},x2 _ _ rfl} (by intro i e H' v [[v,s,v],v];exact SqL.of<|s _ _ J) (λi x e H' t d c L=>?_) (λe H' c=>?_)})}};let[[w,s,lo],y1,y2,rfl]:=c
 have A:=(η.mp d).1
 have g:=s.trans<|AL (o:=.tup [.int i,x]) L
 have b:=w.trans<|AL (o:=.tup [.int i,x]) L
 have nx:=((hx i x d).nmv (I.ok 0 i (by decide) (by rw[n]at A;exact A))).keep g.tk;refine{_,SqT.of AG,rfl,?_};revert g b nx;generalize upd H' t _=N;intro g b nx
 have next:(E5 M i).any (λp=>decide _)=false->Same H N/\Same D N/\∀ j<i+1,(E5 M j).any (λp=>decide _)=false:=λh=>⟨b,g,λj r=>by
  let y||y:=ee j i
  exact lo j y;rw[show j=i by exact jz (du r) y];exact h⟩
 erw[Em1_,Em0_];cases B:E5 M i with
 |none =>
  rw[B]at nx next;rw[nx];exact next rfl
 |some p =>
  rw[B]at nx next;let[u,rfl,eu]:=nx;refine BU eu  rfl rfl ?_;erw[];by_cases hz:p.1=z;rw[if_pos hz]
  have:=q _ b;rw[zz2  (n ▸ A) (by rw[B];simpa using hz) lo]at this;exact this;rw[if_neg hz];exact next (by simpa using hz)
 let[[w,s,lo],y1,y2,ez]:=c
 have:=q _ w;rw[zz3 (by rw[<-n];exact lo)]at this;exact this
example:(zz5,O2,dC,1):=by
 apply u4;intro X cs N M [rfl,O,I,q]
 have hz:=I.sz;let[dx,T]:=I.ob
 have g:=jp hz.1 hz.2.2.2.1;erw[dC,dC0_];refine y2 {T,BR (by decide),x4 X cs _ M {rfl,O,I,λl xs U v w r Y=>(.inl {{_,SqL.of w},tS  (BP _<|oA (υ (ba r) g) rfl) (λi b ys H'=>H'=U/\(∃ A,b=[A])/\ys=(JT M i).map V.str) {rfl,⟨_,rfl⟩,rfl} (by intro i b ys H' [e,z,d];exact{e ▸ SqL.of w,by rw[d,ε];exact υ (gy _ _) (by simp)}) (λi x b ys H' j s c=>?_) (λb ys H' c p hp=>?_)})}};let[e,[A,es],d]:=c
 have nx:=(Y i x s).nmv (I.ok 0 i (by decide) (by rw[r]at j;simpa [BQ]using j));subst e es
 have n:JT M (i+1)=JT M i++((E5 M i).map (·.1)).toList:=by
  unfold JT;rw[bx];cases e:E5 M i<;>simp[e]
 cases B:E5 M i with
 |none =>
  rw[B]at nx n;rw[nx];exact{_,by lia,rfl,j,by rw[n,d];simp}
 |some p =>
  rw[B]at nx n;let[u,rfl,eu]:=nx;exact{λy J=>y=.str _/\J=H',(by intro y J [e1,e2];exact{_,by lia,rfl,j,e2,by rw[n,d,e1];simp}),BU eu  rfl rfl ⟨rfl,rfl⟩}
 let[rfl,z,d]:=c
 have sp:=AL (o:=.lst ys) hp;exact x2 p (JT M _) {rfl,by rw[<-r,<-d];exact SqL.of AG,cg (gy _ _) (by simp;exact oC g rfl),λD ks L pk hs=>(q D ks _ (v.free<|sp.free L) ((v.trans sp).trans (AL L)) AG pk hs)}
example:(zz6,WA,dG,3):=by
 apply u7;intro X cs w M z O zs [rfl,A,I,n,B,D,q,q1,q2];let[T,J]:=I.ob;erw[dG,dG1_];refine .inl {{_,SqL.of n},UT  (BP _ (by rw[ε];exact oA B rfl)) (λi ys H'=>Same H H'/\ys=((zs.take i).map BD).map V.bl) {Same.refl _,rfl} (λi ys H' y ⟨s,_⟩=>SqL.of<|s _ _ n) (λi x ys H' d j c=>?_) (λys H' j c p L=>?_)};let[s,g]:=c;rw[ψ,ai]at d;let[r,e,rfl]:=d;refine{r,rfl,D r<|θ e,λU b=>{s.trans b,?_}};rw[cu,e,g];simp;let[s,g]:=c;rw[ε,bz]at g
 have b:=s.trans<|AL (o:=.lst ys) L;refine x2 p _ {rfl,by rw[<-g];exact SqL.of AG,?_};rw[C_,Function.id_comp];revert b;intro b;cases l:zs.all _ with
 |false =>
  exact{by decide,q1 l _ b}
 |true =>
  refine y2 {b _ _ J,BR,x5 X cs _ M z {rfl,A,I.same b,λY N=>?_}}
  have u:=b.trans N;cases v:cellOf M _ z with
  |none =>
   exact q l v _ u
  |some k =>
   exact{by decide,q2 l ⟨k,v⟩ _ u}
def LD{S:SA}{l n d e g lt i:Addr}{c:Str}{P:V->Prop}(TS:O0 K a)(o:H S.st=some (.ins (a "Store") l (sf S.lp S.A.b S.tk)))(q:H S.A.b=some (.ins (a "Hold") n (bf d e g lt i)))(r:(bf d e g lt i).lookup c=none)(p:P (.ref S.A.b)) :
  ∃ x s x2,H S.st=some (.ins x s x2)/\Cls K x/\NoAttr K x "book"/\∃ v,x2.lookup ("book":Str)=some v/\CT v λb=>∃ y j,H b=some (.ins (a "Hold") y j)/\j.lookup c=none/\P v:=y3 {o,TS.cl,TS.n2,_,IC,y2 ⟨q,r,p⟩}
def HG{S:SA}{g dl:Addr}{n r c w:Int}{d:Str}{P:V->Prop}(TS:O0 K a)(i:H S.st=some (.ins (a "Store") g (sf S.lp S.A.b S.tk)))(j:H S.lp=some (.ins (a "Layout") dl (lf n r c w)))(l:(lf n r c w).lookup d=none)(p:P (.ref S.lp)) :
  ∃ x o x2,H S.st=some (.ins x o x2)/\Cls K x/\NoAttr K x "plan"/\∃ v,x2.lookup ("plan":Str)=some v/\CT v λb=>∃ y e,H b=some (.ins (a "Layout") y e)/\e.lookup d=none/\P v:=y3 {i,TS.cl,TS.n1,_,IB,y2 ⟨j,l,p⟩}
section
variable{p:Addr}{n r c w k:Nat}
def Pw(b:EG K a)(L:LayAt a H p n r c w)(q:HD (0+k/w) (k%w) Q H):K2 K a [.ref p,.int k] H Q E:=x6 p n r c w k ⟨rfl,b,L,q⟩
def P0(b:EG K a)(L:LayAt a H p n r c w)(q:HD (n+k/w) (k%w) Q H):HW K a [.ref p,.int k] H Q E:=x6 p n r c w k ⟨rfl,b,L,q⟩
def Px(b:EG K a)(L:LayAt a H p n r c w)(q:HD (n+r+k/w) (k%w) Q H):NK K a [.ref p,.int k] H Q E:=x6 p n r c w k ⟨rfl,b,L,q⟩
def Py(b:EG K a)(L:LayAt a H p n r c w)(q:HD (n+r+c+k/w) (k%w) Q H):K3 K a [.ref p,.int k] H Q E:=x6 p n r c w k ⟨rfl,b,L,q⟩
def lPM(b:EG K a)(L:LayAt a H p n r c w)(q:HD (n+r+c+r+k/w) (k%w) Q H):K4 K a [.ref p,.int k] H Q E:=x6 p n r c w k ⟨rfl,b,L,q⟩
end
theorem fB:∀ {l:wH},(∀ k∈l,f k=g k)->l.find? f=l.find? g
 | [],_=>rfl
 |k::l,h=>by
  rw[u_,u_,h k χ,fB λc b=>h c<|τ _ b]
def zz8(h:∀ k<m,f k=g k):E4 f m=E4 g m:=by
 unfold E4;rw[fB λk b=>h k<|ao.mp b]
section
variable{X:SX}{cs:yH}{tks:cD}{M:Hs}
def SM.free(I:X.at a H cs tks M){kind:Nat}(d:kind<3):E4 (NN cs X.rows X.n X.r X.c X.w kind) (BQ X.n X.r X.c X.w kind)=DU M kind (BQ X.n X.r X.c X.w kind):=zz8 λk c=>by
 let[v,g,b]:=I.val (oA d rfl) c;unfold NN;rw[g];cases e:M _ k with
 |no=>rw[e]at b;rw[b];simp[MC,HE]
 |nm z r=>rw[e]at b;let[t,rfl,y]:=b;simp[MC,HE]
 |mk i =>
  rw[e]at b;rw[b];simp[MC,HE]
 |rc m ps=>rw[e]at b;revert b;apply u2;intro t u [rfl,y];simp[MC,HE]
 |tx z=>rw[e]at b;rw[b];simp[MC,HE]
def Pz(h:cellOf M m z=some cell):cell<m/\∃ k,M 0 cell=.nm z k:=by
 have h2:=H_ h;unfold E5 at h2;refine{(ao.mp<|wq h),?_};cases e:M 0 _ with
 |nm b k =>
  rw[e]at h2;simp at h2;exact{k,by rw[h2]}
 |_=>rw[e]at h2;simp at h2
def WX{kind:Nat}(c:CO K a)(I:X.at a H cs tks M)(b:kind<3)(q:∀ k:Nat,DU M kind (BQ X.n X.r X.c X.w kind)=k->k<BQ X.n X.r X.c X.w kind->∀ H',Same H H'->Q (.int k) H')(d:DU M kind (BQ X.n X.r X.c X.w kind)= -1->D2 a H "NoRoom" E):VZ kind K a X.S.lp X.S.A.b H Q E:=by
 let[g,l,n,o,p]:=I.sz;let[T,TP,r,TS]:=c;refine x9 _ _ _ _ _ _ _ cs _ {rfl,T,TP,r,I.ly,g,l,n,o,I.bk,p,λi j v u=>zzl I.gd u,λk e H' s=>?_,λe H' s=>?_};rw[I.free b]at e;exact q k e (zzx e) H' s;rw[I.free b]at e;exact d e H' s
end
example:(zz9,JU,cY,2):=by
 apply u5;intro X cs i M b [rfl,[T,TP,j,TS],I,l,q];let[A,c]:=I.ob;let[dl,n]:=I.ly.ob;let[B,p]:=I.bk.bk.ob
 have d:b<BQ X.n X.r X.c _ 3:=l;erw[cY,cY0_];refine LD TS (c) (p) (DC) (HG TS (c) (n) (B0) (P0 j (I.ly) λu r=>?_))
 have e:=AL (o:=.tup [.int (X.n+b/X.w),.int<|b%X.w]) r;refine x9 _ _ _ _ cs _ u _ _ {rfl,T,TP,I.bk.same e,by rw[AG];simp[BM],λy v s w x=>?_,λz=>absurd (I.onPl  (by decide) d) z}
 have g:=e.trans x;exact q v s ((I.rp 3 _ v (by decide) d w).keep g.tk) g
example:(z0a,K6,Fp,3):=by
 apply u5;intro X cs o M z [rfl,d,I,q,p];let[x,g]:=I.ob;refine y2 {g,BR,x5 X cs _ M z {rfl,d,I,λy b=>?_}};cases e:cellOf M _ z with
 |none =>
  exact{by decide,p e _ b}
 |some cell =>
  let[i,k,j]:=Pz e;refine y2 {b _ _ g,BR,x4 X cs _ M {rfl,d,I.same b,λl xs A r s u v=>?_}}
  have ex:=ι (by rw[u];exact i)
  have n:=v _ _ ex;rw[j]at n;let[t,w,c]:=n;exact CJ (SqL.of s) rfl ex (by rw[w];exact BU c  rfl rfl (q _ k e i j _<|b.trans r))
def Qb{X:SX}{cs:yH}{g:cD}{M:Hs}{cell c need:Nat}{z:Str}{nl:Addr}{ns:yG}{i:Hp}(w:CO K a)(I:X.at a H cs g M)(L:cell<X.m0)(j:cs.length<980)(hz:dn z=true)(s:Same H i)(N:i nl=some (.lst<|ns.map V.int))(O:ns.length<=60)(U:∀ x∈ns,known cs x)
  (q:WB X a H cs g (M.put 0 cell (.nm z c) (MD ns)) Q) :
  c73 K a (λ_=>E) (λ_=>E) (AW Q) [some (.ref X.S.st),some<|.int cell,some<|.str z,some<|.int c,some<|.int need,some<|.ref nl] i:=by
 have l:=w;let[T,TP,Y,TS]:=w;let[dx,y]:=I.ob;let[dl,el]:=I.ly.ob;let[db,eb]:=I.bk.bk.ob;erw[c73_];refine LD TS (s _ _ y) (s _ _ eb) (DC) (HG TS (s _ _ y) (s _ _ el) (B0) (Pw Y (I.ly.same s) λu A=>?_))
 have p:=s.trans<|AL (o:=.tup [.int (0+cell/X.w),.int<|cell%X.w]) A
 have r:upd i u (.tup [.int (0+cell/X.w),.int<|cell%X.w]) u=some (.tup [.int (BM X.n X.r X.c X.w 0 cell),.int<|cell%X.w]):=by rw[AG];simp[BM]
 have d:=AL (o:=.tup [.int (0+cell/X.w),.int<|cell%X.w]) A _ _ N;revert p r d;generalize upd i u _=H3;refine λp r d=>{by decide,λt ht=>?_}
 have st:=AL (o:=.tup [V.str z,V.int c]) ht
 have B:=p.trans st
 have D:upd H3 t _ t=some (.tup [V.str z,V.int c]):=AG;refine IX l (I.same B)  (x:=.nm z _) (by decide) (L) (st _ _ r) (st _ _ d) O (oA j rfl) U {_,D,by simp,λv J=>?_} ⟨t,rfl,D⟩ trivial λch H' I' sb=>q ch H' I' λb o e n=>sb _ _ (B _ _ e) n;simp only[af,bw,or_false]at J;let rfl||rfl:=J
 exact hz
 trivial
example:(z0b,WC,c7,6):=by
 apply u8;intro X cs i M cell s need z [rfl,[T,TP,l,TS],I,n,u,b,hz,q];let[y,p]:=I.ob;erw[c7,c70_];refine{by decide,λnl c=>?_}
 have d:=AL (o:=.lst [V.int need]) c;refine y3 {d _ _ p,TS.cl,TS.n3,_,eZ,_,dS<|d _ _ I.tk,?_}
 have j:upd H nl _ nl=some (.lst [V.int need]):=AG
 have r:known cs _:={i0,c_.mpr u}
 cases e:BF i _ with
 |none =>
  rw[show EU _ z=[] by unfold EU;rw[e]]at q;exact Qb (ns:=[need]) ⟨T,TP,l,TS⟩ I n b hz d j (by simp) (λx g=>by rw[aa.mp g];exact r) q
 |some v =>
  let[k,rfl,w]:=I.tv z v e;rw[show EU _ z=[k] by unfold EU;rw[e];rfl]at q;refine{.inl {rfl,_,SqL.of j},y3 {d _ _ p,TS.cl,TS.n3,_,eZ,_,dS' (d _ _ I.tk) e,{_,j,(by show 1<sizeLine;decide),?_}}};rw[GJ];refine Qb (ns:=[need,k]) ⟨T,TP,l,TS⟩ I n b hz (AL c) AG (by simp) (λx g=>?_) q;simp only[af,bw,or_false]at g;let rfl||rfl:=g
  exact r;exact{i0,c_.mpr w}
def z0c(ps:wH):∀ v∈AS ps,GoodV (n+1) H v:=λv b=>by
 let[p,z,rfl]:=a_.mp b
 trivial
def fC{H:Hp}{t u:Addr}{m:Nat}{ps:wH}(h1:H t=some (.tup [.int m,.ref u]))(h2:H u=some (.tup<|AS ps))(c:ps.length<=100):GoodV 4 H (.ref t):=⟨_,h1,by simp,λv b=>by
 simp only[af,bw,or_false]at b;let rfl||rfl:=b
 trivial
 exact{_,h2,by simp[AS];exact c,z0c ps}⟩
example:(z0d,R5,Ev,5):=by
 apply T2;intro X cs U M c m i more ps nl ns [rfl,A,I,B,Y,j,l,en,hl,kn,p,q]
 have g:=A;let[T,TP,TL,TS]:=A;let[dx,r]:=I.ob;let[dl,el]:=I.ly.ob;let[db,eb]:=I.bk.bk.ob;refine y2 {r,BR,x5 X cs _ M _ {rfl,g,I,B,λv D J s=>?_}};rw[Y]at J;revert J;apply u2;intro t0 w [rfl,L,GI];erw[Ev1_];refine LD TS (s _ _ r) (s _ _ eb) (DC) (HG TS (s _ _ r) (s _ _ el) (B0) (P0 TL (I.ly.same s) λu hu=>?_))
 have d:=AL (o:=.tup [.int (X.n+c/X.w),.int<|c%X.w]) hu
 have y:upd D u (.tup [.int (X.n+c/X.w),.int<|c%X.w]) u=some (.tup [.int (BM X.n X.r X.c X.w 3 c),.int<|c%X.w]):=by rw[AG];simp[BM]
 revert d y;generalize upd D u _=H2;refine λd y=>BU (d _ _ L)  rfl rfl (BU (d _ _ L)  rfl rfl {by decide,λt ht=>?_});rw[j]
 have st:=AL (o:=.tup [V.int i,V.ref w]) ht
 have z:=(s.trans d).trans st
 have N:upd H2 t _ t=some (.tup [V.int i,V.ref w]):=AG
 have O:=st _ _<|d _ _ GI;exact IX g (I.same z)  (x:=.rc i ps) (by decide) (B) (st _ _ y) (z _ _ en) hl (oA p rfl) kn (fC N O l) (x2 t w ⟨rfl,N,O⟩) trivial λch H' I' sb=>q ch H' I' λb o e n=>sb _ _ (z _ _ e) n
example:(z0e,WD,dD,4):=by
 apply T2;intro X cs L M c m ps N j nl ns [rfl,y,I,z,O,l,p,U,Y,kn,r,q]
 have d:=y;let[T,TP,TL,TS]:=y;let[dx,s]:=I.ob;let[dl,el]:=I.ly.ob;let[db,eb]:=I.bk.bk.ob;erw[dD,dD0_];refine LD TS (s) (eb) (DC) (HG TS (s) (el) (B0) (P0 TL (I.ly) λu hu=>?_))
 have g:=AL (o:=.tup [.int (X.n+c/X.w),.int<|c%X.w]) hu
 have w:upd H u (.tup [.int (X.n+c/X.w),.int<|c%X.w]) u=some (.tup [.int (BM X.n X.r X.c X.w 3 c),.int<|c%X.w]):=by rw[AG];simp[BM]
 revert g w;refine λg w=>y2 {g _ _ s,BR,x5 X cs _ M _ {rfl,d,I.same g,z,λv H3 A B=>?_}};rw[O]at A;revert A;apply u2;intro t0 u0 [rfl,G5,GI];refine BU G5  rfl rfl {by decide,λt ht=>?_}
 have st:=AL (o:=.tup [V.int m,V.ref j]) ht
 have i:=(g.trans B).trans st
 have D:upd H3 t _ t=some (.tup [V.int m,V.ref j]):=AG
 have J:=i _ _ l;exact IX d (I.same i)  (x:=.rc m _) (by decide) (z) (st _ _<|B _ _ w) (i _ _ U) Y (oA r rfl) kn (fC D J p) (x2 t j ⟨rfl,D,J⟩) trivial λch H' I' sb=>q ch H' I' λb o e n=>sb _ _ (i _ _ e) n
theorem NY{α b c :Type}{F: α -> b ->Prop}{G: α -> c ->Prop}{f: b -> c}:∀ {l:List α} {m:List b},Paired F l m->(∀ x y,F x y->G x (f y))->Paired G l (m.map f)
 |_,_,.nil,_=>.nil
 |_,_,.cons h t,k=>.cons (k _ _ h) (NY t k)
def fD{j:TE}{l:wH}{d:St}{b:Addr}{xs:eI}(v:xs.length<=sizeLine)(Pv:Nat->eI->Hp->Prop)(h0:Pv 0 [] H)(r:∀ i ys H,i<=xs.length->Pv i ys H->SqT K H b xs)
  (hs:∀ i x ys H,xs[i]? =some x->ys.length=i->Pv i ys H->j (some x::C1 l d) H λy s=>Pv (i+1) (ys++[y]) s)
  (hd:∀ ys H,ys.length=xs.length->Pv xs.length ys H->∀ p,H p=none->Q (.ref p) (upd H p<|.lst ys)) :
  EN (JE K b) (AF 0) CQ j 1 l d H Q:=by
 refine{λi m c ys H=>m=xs.length-i/\i<=xs.length/\ys.length=i/\(∃ n,c=n::C1 _ d)/\Pv i ys H,{xs.length,rfl,bt _,rfl,⟨_,rfl⟩,h0},?_};intro i m c ys H [rfl,u,g,[n,rfl],p]
 have q:=r i ys H u p;by_cases o:i<xs.length;refine .inr {x2 xs (xs[i]) {q,by simp[o]},by lia,λx H' y=>?_};let[rfl,y]:=y;refine{_,λy w q=>{_,by lia,rfl,o,?_,⟨_,rfl⟩,q},hs i x ys _ (y xs q) g p};rw[ae,ix,g]
 have e:i=xs.length:=by lia
 subst e;exact .inl {{xs,q,π _},hd ys H g p}
section
variable{X:SX}{cs:yH}{tks:cD}{M:Hs}
def SM.lput{l:Addr}{xs ys:eI}(I:X.at a H cs tks M)(e:H l=some (.lst xs))(f:¬ X.S.A.F l):X.at a (upd H l<|.lst ys) cs tks M:=by
 have s:SameBut _ H (upd H l<|.lst ys):=λy o r n=>by rw[AJ n];exact r
 have g:∀ x,x=l->ES _:=λx b=>by rw[b];exact RV e
 have tk:=LC s g;let[[u,j],p,w,q,B,D,J,L,N,c,d,i]:=I;let[dl,O]:=p.ob;exact{{u,s _ _ j (BI j e (by intro z;cases z))},p.sb s (BI O e (by intro z;cases z)),w.sb s g λx b=>by rw[b];exact f,s _ _ q (BI q e (by intro z;cases z)),B,D,J,L,N.keep tk,λkind k v h1 h2 T=>(c _ k v h1 h2 T).keep tk,d,i.keep tk}
def SM.taken(I:X.at a H cs tks M)(q:k<cs.length)(r:tks.length<cs.length):X.at a (upd H X.S.tk<|.dK<|CF tks (.inr z) (.int k)) cs (CF tks (.inr z) (.int k)) M:=by
 have s:SameBut _ H (upd H X.S.tk<|.dK<|CF tks (.inr z) (.int k)):=λy o u n=>by rw[AJ n];exact u
 have g:∀ x,x=X.S.tk->ES _:=λx b=>by rw[b];exact RW I.tk
 have tk:=LC s g;let[[w,i],j,A,l,O,B,p,D,J,c,d,e]:=I;let[dl,L]:=j.ob;refine{{w,s _ _ i (BI i l (by intro z;cases z))},j.sb s (BI L l (by intro z;cases z)),A.sb s g λx b=>by rw[b];exact p,AG,υ (JI ..) (r),λy v h=>?_,p,D,J.keep tk,λkind k v h1 h2 N=>(c _ k v h1 h2 N).keep tk,d,e.keep tk};rw[IM]at h;split at h;obtain rfl:=μ h;exact⟨k,rfl,q⟩;exact B y v h
end
example:(z0f,WE,dH,4):=by
 apply u8;intro X cs v M cell z nl ns [rfl,p,I,w,A,B,D,J,b,q]
 have c:=p;let[dx,g]:=I.ob;let[dl,L]:=I.ly.ob;let[T,TP,N,TS]:=p;let[db,O]:=I.bk.bk.ob;erw[dH,dH0_];refine y3 {g,TS.cl,TS.n2,_,IC,y2 {O,DC,y3 {g,TS.cl,TS.n1,_,IB,y2 {L,B0,y2 {g,BR,x5 X cs _ M z {rfl,c,I,λU r=>?_}}}}}};rw[w];refine x6 _ _ _ _ _ _ {rfl,N,I.ly.same r,λu Y=>?_}
 have i:upd U u (.tup [.int (0+cell/X.w),.int<|cell%X.w]) u=some (.tup [.int (BM X.n X.r X.c X.w 0 cell),.int<|cell%X.w]):=by rw[AG];simp[BM]
 have d:=r.trans<|AL (o:=.tup [.int (0+cell/X.w),.int<|cell%X.w]) Y;revert i d;refine λi d=>IX c (I.same d)  (x:=.no) (by decide) (A) i (d _ _ B) D (oA b rfl) J trivial rfl trivial λch H3 j sb=>?_;let[dx3,l]:=j.ob
 have s:=I.tl;refine y3 {l,TS.cl,TS.n3,_,eZ,_,pS j.tk<|oD (cg s b) rfl,(q ch _ (j.taken (by simp) (by simp;exact wu s)) λy o e n=>?_)};rw[AJ λy=>n<|.inr y];exact sb _ _ (d _ _ e) λy=>n<|.inl y
def drI(a:Ad)(X:SX)(cs:yH)(c:cD)(M:Hs)(b gone:Nat)(g d:Addr)(e:List (Nat × Nat))(j:Hp)(i:Nat)(l:St)(H':Hp):Prop:=(∃ ex,ex.length=i+1/\X.at a H' (cs++ex) c ((e.take i).foldl (λ(M:Hs) (y:Nat × Nat)=>M.put y.1 y.2 (.mk 0) [cs.length]) (M.put 3 b .no [gone]))/\H' d=some (.lst (AS ((ο<|i+1).map (cs.length+·))))/\SameBut (λx=>X.S.A.F x\/x=d) j H')/\∃ n,l=[some (.ref X.S.st),some<|.int b,some<|.int gone,some<|.ref g,some<|.int cs.length,some<|.ref d,n]
example:(z0h,aJ,Fd,7):=by
 apply u8;intro X cs tks M c m gone ps [rfl,T4,I,hr,eM,hg,hps,CC,hcs,q]
 have T4':=T4;let[dx,ho]:=I.ob;let[T,TP,TL,TS]:=T4;refine y2 {ho,BR,x5 X cs _ M _ {rfl,T4',I,hr,λv H1 rv s=>?_}};rw[eM]at rv;revert rv;apply u2;intro t0 u0 [rfl,G5,GI]
 have I1:=I.same s;refine BU G5  rfl rfl ?_;let[dx1,ho1]:=I1.ob;let[dl1,el1]:=I1.ly.ob;let[db1,eb1]:=I1.bk.bk.ob;erw[Fd1_];refine LD TS (ho1) (eb1) (DC) (HG TS (ho1) (el1) (B0) (P0 TL (I1.ly) λu hu=>{by decide,λnl hnl=>?_}))
 have sb:=AL (o:=.lst [V.int gone]) hnl
 have eu:=sb _ _ (show upd H1 u _ u=some (.tup [.int (BM X.n X.r X.c X.w 3 c),.int<|c%X.w]) by rw[AG];simp[BM])
 have en:upd (upd H1 u<|.tup [.int (X.n+c/X.w),.int<|c%X.w]) nl _ nl=some (.lst<|[(gone:Int)].map V.int):=AG
 have s2:=(AL  hu).trans sb;revert eu en s2;refine λeu en s2=>IX T4' (I1.same s2)  (x:=.no) (by decide) (hr) eu en (by simp) (oA hcs rfl) (λx l=>by rw[aa.mp l];exact{i0,c_.mpr hg}) trivial rfl trivial λch H3 I3 TR=>?_;erw[Fd2_];refine{by decide,λml hml=>?_}
 have sm:=AL (o:=.lst [V.int cs.length]) hml
 have I4:=I3.same sm
 have fml:=I3.bk.off hml
 have eu4:=sm _ _<|(LC TR λx l=>(I1.same s2).bk.loose l) _ _ (s2 _ _ GI)
 have B:upd H3 ml _ ml=some (.lst [V.int cs.length]):=AG
 have hmlH:H ml=none:=by
  cases e:H ml with
  |none=>rfl
  |some o=>have:=TR _ _ (s2 _ _<|s _ _ e) fml;rw[hml]at this;cases this
 have sb4:SameBut _ H _:=λy o e n=>sm _ _<|TR _ _ (s2 _ _<|s _ _ e) n;revert I4 eu4 B sb4;generalize upd H3 ml _=H4;intro I4 eu4 B sb4;let[dx4,ho4]:=I4.ob;let[dl4,el4]:=I4.ly.ob;erw[Fd4_];refine .inr {{_,SqT.of eu4},fD  (BP _ (by simp[AS];exact oA CC rfl)) (λi ys H'=>Same H4 H'/\∃ us:List _,ys=us.map V.ref/\Paired (λu p=>H' u=some (.tup [.int (BM X.n X.r X.c X.w 2 p),.int<|p%X.w])) us (ps.take i)) {Same.refl _,[],rfl,.nil} (λi ys H' j ⟨s',_⟩=>SqT.of<|s' _ _ eu4) (λi x ys H' l D g=>?_) (λys H' D g lc hlc=>?_)};let[s',us,ey,pu]:=g;unfold AS at l;rw[ψ,ai]at l;let[p,ep,rfl]:=l;erw[C1];refine y3 {s' _ _ ho4,TS.cl,TS.n1,_,IB,y2 {s' _ _ el4,B0,x6 _ _ _ _ _ p {rfl,TL,I4.ly.same s',λu' J=>?_}}}
 have su:=AL (o:=.tup [.int (X.n+X.r+X.c+X.r+(p:Int)/X.w),.int<|(p:Int)%X.w]) J;refine{s'.trans su,us++[u'],by rw[ey,ak];rfl,?_};rw[cu,ep];exact Paired.snoc (Paired.mapP pu λt r z=>su _ _ z) (by rw[AG];simp[BM]);let[s',us,rfl,pu]:=g;rw[show(AS ps).length=ps.length by simp[AS],bz]at pu
 have sc:=AL (o:=.lst<|us.map V.ref) hlc
 have s5:=s'.trans sc;refine HG TS (s5 _ _ ho4) (s5 _ _ el4) (B0) (Py TL (I4.ly.same s5) λd hur=>{by decide,λlr hlr=>.inl ?_})
 have se:=AL (o:=.lst [V.ref d]) hlr
 have sd:=AL (o:=.tup [.int (X.n+X.r+X.c+(c:Int)/X.w),.int<|(c:Int)%X.w]) hur;refine x4 lc lr _ _ {rfl,rfl,se _ _<|sd _ _ AG,AG,BP _ (by have:=pu.length;simp;exact oA (υ (ba this) CC) rfl),λl2 DH=>?_}
 have sf':=AL (o:=.lst<|us.map V.ref++[V.ref d]) DH
 have er:upd (upd (upd (upd H' lc<|.lst<|us.map V.ref) d (.tup [.int (X.n+X.r+X.c+(c:Int)/X.w),.int<|(c:Int)%X.w])) lr (.lst [V.ref d])) l2 (.lst<|us.map V.ref++[V.ref d]) d=some (.tup [.int (BM X.n X.r X.c X.w 1 c:Nat),.int (c%X.w:Nat)]):=(se.trans sf') _ _ (by rw[AG];simp[BM])
 have sg:=(sd.trans se).trans sf'
 have hl2F:¬ X.S.A.F l2:=by
  have:=((I4.same s5).same (sd.trans se)).bk.off DH;exact this
 have L:upd (upd (upd (upd H' lc<|.lst<|us.map V.ref) d (.tup [.int (X.n+X.r+X.c+(c:Int)/X.w),.int<|(c:Int)%X.w])) lr (.lst [V.ref d])) l2 (.lst<|us.map V.ref++[V.ref d]) l2=some (.lst<|(us++[d]).map V.ref):=by rw[AG];simp
 have s6:=s5.trans sg
 have nlm:=(BJ (se _ _<|sd _ _<|s5 _ _ B) DH).symm
 have PP:Paired (λu (y:Nat × Nat)=>upd (upd (upd (upd H' lc<|.lst<|us.map V.ref) d (.tup [.int (X.n+X.r+X.c+(c:Int)/X.w),.int<|(c:Int)%X.w])) lr (.lst [V.ref d])) l2 (.lst<|us.map V.ref++[V.ref d]) u=some (.tup [.int (BM X.n X.r X.c X.w y.1 y.2:Nat),.int (y.2%X.w:Nat)])) (us++[d]) (ps.map (λp=>(2,p))++[(1,c)]) :=
  Paired.snoc (NY pu λu p z=>sg _ _<|sc _ _ z) er
 revert s6 L PP;generalize upd (upd (upd (upd H' lc<|.lst<|us.map V.ref) d (.tup [.int (X.n+X.r+X.c+(c:Int)/X.w),.int<|(c:Int)%X.w])) lr (.lst [V.ref d])) l2 (.lst<|us.map V.ref++[V.ref d])=H6;intro L s6 PP;generalize us++[d]=vs at L PP
 have N:∀ y∈ps.map (λp=>(2,p))++[(1,c)],(y.1=1\/y.1=2)/\y.2<BQ X.n X.r X.c X.w y.1:=λy hy=>by
  let hy||hy:=bh.mp hy
  ·let[p,hp,rfl]:=a_.mp hy;exact{.inr rfl,by simpa [BQ]using hps p hp}
  ·rw[aa.mp hy];exact{.inl rfl,by simpa [BQ]using hr}
 have D:(ps.map (λp=>((2:Nat),p))++[(1,c)]).length=ps.length+1:=by simp
 have O:(ps.map (λp=>(2,p))++[(1,c)]).foldl (λ(M:Hs) (y:Nat × Nat)=>M.put y.1 y.2 (.mk 0) [cs.length]) (M.put 3 c .no [gone])=((M.put 3 c .no [gone]).unmark cs.length ps).put 1 c (.mk 0) [cs.length]:=by
  rw[kf,List.foldl_map];rfl
 revert N D O PP;generalize ps.map (λp=>((2:Nat),p))++[(1,c)]=w;intro PP N D O;refine(.inl ⟨{_,SqL.of L},HS (xs:=vs.map V.ref) (drI a X cs tks M c gone u0 ml w H6)
  {{[ch],rfl,I4.same s6,by rw[s6 _ _ B];simp[AS,bx],λy o e j=>e},_,rfl} (λi σ H' j {⟨_,_,_,_,sb'⟩,_}=>SqL.of<|sb' _ _ L ?_) (λi x σ H7 l g=>?_) (λσ H7 g=>?_)⟩)
 rintro (y|y);exact hl2F y;exact nlm y;let[[ex,TU,I7,U,sb7],y6,rfl]:=g
 have hi:=(η.mp l).1;rw[ε]at hi
 have hip:i<w.length:=by rw[<-PP.length];exact hi
 have ey:=ι hip;let[u',eu',J]:=KQ PP ey;rw[ψ,eu']at l;obtain rfl:=μ l;let[Y,hky]:=N _<|θ ey
 have etk:w.take (i+1)=w.take i++[w[i]]:=by rw[cu,ey];rfl
 revert etk Y hky J;generalize w[i]=y;intro J Y hky etk;let[dx7,ho7]:=I7.ob;let[db7,eb7]:=I7.bk.bk.ob;erw[Fd3_]
 have k67:∀ b xs,H6 b=some (.tup xs)->H7 b=some (.tup xs):=λb xs e=>sb7 _ _ e λz=>z.elim (λz=>((I4.same s6).bk.loose z).1 _ e) λz=>by rw[z,s6 _ _ B]at e;cases e
 refine{.inl {rfl,_,SqL.of U},y3 {ho7,TS.cl,TS.n2,_,IC,y2 {eb7,DC,by decide,λn8 hn8=>?_}}}
 have s8:=AL (o:=.lst [V.int cs.length]) hn8;refine IX (ns:=[(cs.length:Int)]) T4' (I7.same s8) (kind:=y.1) (x:=.mk 0) (by lia) hky (s8 _ _<|k67 _ _ J) AG (by simp) (by simp;lia) (λx l=>by rw[aa.mp l];exact{i0,by simp;lia}) trivial rfl (by let z||z:=Y<;>rw[z]<;>exact bt _) λch9 H9 I9 QJ=>?_
 have em9:=QJ _ _ (s8 _ _ U) fml;refine{_,em9,ω (show(AS ((ο<|i+1).map (cs.length+·))).length<1000 by simp[AS];lia) (by decide),({{ex++[ch9],by simp[TU],by have:=I9.lput (ys:=AS ((ο<|i+1).map (cs.length+·))++[V.int ((cs++ex).length:Nat)]) em9 fml;rw[etk,kf,<-dk];exact this,by rw[AG];simp[AS,bx,TU],λb o e n=>?_},_,rfl})};rw[AJ λz=>n<|.inr z];exact QJ _ _ (s8 _ _<|sb7 _ _ e n) λz=>n<|.inl z;let[[ex,TU,I7,U,sb7],y6,rfl]:=g
 have hvl:=PP.length;rw[ε,hvl,D]at TU U;rw[ε,hvl,bz,O]at I7;exact q ex ml H7 hmlH U TU I7 λy o e n=>(sb7 _ _ (s6 _ _<|sb4 _ _ e n) λy'=>y'.elim n λz=>by rw[z,hmlH]at e;cases e)
def NZ{X:SX}{cs:yH}{c:cD}{M:Hs}{H':Hp}{l:Addr}(I:X.at a H' cs c M)(sb:SameBut (λx=>X.S.A.F x\/x=X.S.tk) H H')(b:H' l=none):H l=none:=by
 cases e:H l with
 |none=>rfl
 |some o =>
  have:=sb _ _ e λz=>z.elim (I.bk.off b) λz=>by rw[z,I.tk]at b;cases b
  rw[b]at this;cases this
example:(z0i,O4,dJ,6):=by
 apply u5;intro X cs tks M z [rfl,T4,I,hzl,j,q,q1,q2,q3];let[dx,r]:=I.ob
 have c:=T4
 have hm3:BQ X.n X.r X.c X.w 3=X.r*X.w:=by simp[BQ]
 erw[dJ,dJ0_];refine y2 {r,BR,by decide,λgl hgl=>?_}
 have s1:=AL (o:=.lst [V.str z]) hgl;refine x7 X cs _ M z gl [z] {rfl,T4,I.same s1,AG,by simp,λy hy=>by rw[aa.mp hy];exact hzl,λg s H2 v=>?_,λg H2 v=>q1 (by simpa using g) _ (s1.trans v),λg s H2 v=>q2 (by simpa using g) s _ (s1.trans v)}
 have g:BD z=true:=by simpa using g
 have w:=s1.trans v;let[T,TP,TL,TS]:=T4;refine y3 {w _ _ r,TS.cl,TS.n1,_,IB,y3 {w _ _ r,TS.cl,TS.n2,_,IC,x2 _ _ {rfl,WX c (I.same w) (by decide) (λb B LH H3 D=>?_) λB H3 D=>q3 g s (.inl<|B) _ (w.trans D)}}}
 have d:=w.trans D;refine y3 {d _ _ r,TS.cl,TS.n1,_,IB,y3 {d _ _ r,TS.cl,TS.n2,_,IC,x2 _ _ {rfl,WX c (I.same d) (by decide) (λcell ec BL H4 s4=>?_) λB H3 D=>q3 g s (.inr<|B) _ (d.trans D)}}}
 have J:=d.trans s4
 have L:=I.same J;let[dl4,el4]:=L.ly.ob;let[dx4,N]:=L.ob;let[db4,eb4]:=L.bk.bk.ob;erw[dJ3_];refine LD TS (N) (eb4) (DC) (HG TS (N) (el4) (B0) (Py TL (L.ly) λu hu=>{by decide,λl0 hl0=>?_}))
 have sb:=AL (o:=.lst []) hl0
 have eu:=sb _ _ (show upd H4 u _ u=some (.tup [.int (BM X.n X.r X.c X.w 1 b),.int<|b%X.w]) by rw[AG];simp[BM])
 have p:upd (upd H4 u<|.tup [.int (X.n+X.r+X.c+b/X.w),.int<|b%X.w]) l0 _ l0=some (.lst<|([]).map V.int):=AG
 have s5:=(AL (o:=.tup [.int (X.n+X.r+X.c+b/X.w),.int<|b%X.w]) hu).trans sb;revert eu p s5;refine λeu p s5=>IX c (L.same s5)  (x:=.mk 1) (by decide) (LH) eu p (by simp) (oA j rfl) (λx hx=>by cases hx) trivial rfl (π _) λc1 H6 O sb6=>?_;let[dx6,U]:=O.ob;let[dl6,el6]:=O.ly.ob;let[db6,eb6]:=O.bk.bk.ob;erw[dJ4_];refine LD TS (U) (eb6) (DC) (HG TS (U) (el6) (B0) (P0 TL (O.ly) λu2 hu2=>({by decide,λe6 he6=>{by decide,λt6 ht6=>{by decide,λl6 hl6=>?_}}})))
 have sc:=AL (o:=.tup [.int 1,.ref e6]) ht6
 have sd:=AL (o:=.lst [.int cs.length]) hl6
 have sb:=AL (o:=.tup []) he6
 have i:=(((AL  hu2).trans sb).trans sc).trans sd
 have f1:=sd _ _ (sc _ _ (sb _ _ (show upd H6 u2 _ u2=some (.tup [.int (BM X.n X.r X.c X.w 3 b),.int<|b%X.w]) by rw[AG];simp[BM])))
 have f2:=sd _ _<|sc _ _<|AG   
 have f3:=sd _ _<|AG   
 have f4:=AG (H:=upd (upd (upd H6 u2<|.tup [.int (X.n+b/X.w),.int<|b%X.w]) e6 (.tup [])) t6 (.tup [.int 1,.ref e6])) (a:=l6) (o:=.lst [.int cs.length]);revert i f1 f2 f3 f4;refine λi f1 f2 f3 f4=>IX (ns:=[cs.length]) c (O.same i)  (x:=.rc 1 []) (by decide) (by exact LH) f1 f4 (by simp) (by simp;exact oC j rfl) (λx hx=>by rw[aa.mp hx];exact{i0,by simp;exact zu _}) (fC (ps:=[]) f3 f2 (by simp)) (x2 t6 e6 ⟨rfl,f3,f2⟩) trivial λc2 H8 I8 sb8=>?_;let[dx8,ho8]:=I8.ob
 have CK:(cs++[c1]).length=cs.length+1:=by simp
 erw[dJ5_];rw[CK];refine y2 {ho8,BR,x8 X _ _ _ _ _ _ z {rfl,c,I8,BL,by simp,by simp;exact oH j rfl,Pq g,λc3 H9 I9 QJ=>{by decide,λl hl=>?_}}}
 have sl:=AL (o:=.lst [V.int cs.length,V.int<|cs.length+1,V.int<|(cs++[c1]++[c2]).length]) hl
 have Y:SameBut (λx=>X.S.A.F x\/x=X.S.tk) H H9:=λy o e n=>QJ _ _ (sb8 _ _ (i _ _<|sb6 _ _ (s5 _ _<|J _ _ e) λz=>n<|.inl z) λz=>n<|.inl z) λz=>n<|.inl z;exact q g s _ _ B ec LH BL _ l _ rfl (NZ I9 Y hl) (by rw[AG];simp[AS,bx]) (by simpa using (I9.same sl)) λy o e n=>sl _ _<|Y _ _ e n
example:(z0j,NQ,dM,6):=by
 apply u6;intro X cs tks M y z [rfl,J,I,L,N,i,q,q1,q2,q3,q4]
 have d:=J;let[dx,j]:=I.ob;erw[dM,dM0_];refine y2 {j,BR,by decide,λgl O=>?_}
 have v:=AL (o:=.lst [V.str y,V.str z]) O;refine x7 X cs _ M z gl [y,z] {rfl,J,I.same v,AG,by simp,λx w=>?_,λb p H2 r=>?_,λb H2 r=>q1 (by simpa using b) _ (v.trans r),λb p H2 r=>?_};simp only[af,bw,or_false]at w;let rfl||rfl:=w
 exact L;exact N
 have b:BD y=true/\BD z=true:=by simpa using b
 have B:=v.trans r;let[T,TP,TL,TS]:=J;refine y2 {B _ _ j,BR,x5 X cs _ M y {rfl,d,I.same B,λold rec D U eM H3 s=>?_,λD H3 s=>q3 b.1 b.2 p D _<|B.trans s}}
 have c:=B.trans s;refine y3 {c _ _ j,TS.cl,TS.n1,_,IB,y3 {c _ _ j,TS.cl,TS.n2,_,IC,x2 _ _ {rfl,WX d (I.same c) (by decide) (λcell ec BL H4 s4=>?_) λer H3 s=>q4 b.1 b.2 p ⟨_,D⟩ (er) _ (c.trans s)}}};let[hr,m,ps,eR,Y,q]:=q b.1 b.2 p _ _ _ D U eM
 have g:=c.trans s4;refine y2 {g _ _ j,BR,by decide,λl0 hl0=>?_}
 have s5:=AL (o:=.lst []) hl0;refine KI X cs _ M _ m _ 1 ps l0 [] {rfl,d,(I.same g).same s5,hr,eR,rfl,Y,AG,by simp,(λx w=>by cases w),oA i rfl,λc1 H6 I6 sb6=>?_};let[dx6,ho6]:=I6.ob;erw[dM4_];refine y2 {ho6,BR,x8 X _ _ _ _ _ _ z {rfl,d,I6,BL,by simp,by simp;exact oC i rfl,Pq b.2,λc2 H7 I7 sb7=>{by decide,λl hl=>?_}}}
 have sl:=AL (o:=.lst [V.int cs.length,V.int<|(cs++[c1]).length]) hl
 have u:SameBut (λx=>X.S.A.F x\/x=X.S.tk) H H7:=λy o e n=>sb7 _ _ (sb6 _ _ (s5 _ _<|g _ _ e) λz=>n<|.inl z) λz=>n<|.inl z;exact q ec BL _ l _ rfl (NZ I7 u hl) (by rw[AG];simp[AS,bx]) (by simpa using (I7.same sl)) λy o e n=>sl _ _<|u _ _ e n
 have b:BD y=true/\BD z=true:=by simpa using b
 exact q2 b.1 b.2 p _<|v.trans r
def z0k(n d:Nat):AS ((ο<|d+1).map (n+·))=[V.int n]++AS ((ο d).map (n+1+·)):=by
 rw[yk];simp[AS,dz,tq 1]
example:(z0l,O5,Gh,4):=by
 apply u5;intro X cs tks M z [rfl,r,I,g,q,q1];let[dx,ho]:=I.ob;refine y2 {ho,BR,x5 X cs _ M z {rfl,r,I,λcell rec ec BL eM H1 D=>?_,λeo H3 s3=>q1 eo _ s3}};let[J,m,ps,eR,L,CC,q2,q3]:=q _ _ ec BL eM;refine y2 {D _ _ ho,BR,by decide,λl0 N=>?_}
 have s2:=AL (o:=.lst []) N;refine x8 X cs _ M _ z l0 [] {rfl,r,(I.same D).same s2,ec,BL,AG,by simp,(λx O=>by cases O),oA g rfl,λT H3 U TR=>?_}
 have sb:SameBut (λx=>X.S.A.F x\/x=X.S.tk) H H3:=λy o e n=>TR _ _ (s2 _ _<|D _ _ e) n
 have i:(M.put 0 cell .no<|MD []) 3 _=.rc m ps:=eR;let[dx3,j]:=U.ob;refine y2 {j,BR,x5 X _ _ _ _ {rfl,r,U,J,λv H4 rv s=>?_}};rw[i]at rv;revert rv;apply u2;intro t0 u0 [rfl,G5,GI]
 have Y:=U.same s;refine BU G5  rfl rfl ?_;erw[];split;rename_i hm;erw[Gh2_];refine y2 {s _ _ j,BR,by decide,λl5 c=>?_}
 have p:=AL (o:=.lst [V.int cs.length]) c;refine KI X _ _ _ _ m (m-1) _ ps l5 [cs.length] {rfl,r,Y.same p,J,i,by lia,oA CC rfl,AG,by simp,(λx O=>by rw[aa.mp O];exact{i0,by simp;exact zu _}),by simp;exact oC g rfl,λc2 H6 u d=>{by decide,λl hl=>?_}}
 have w:=AL (o:=.lst [V.int cs.length,V.int<|(cs++[T]).length]) hl
 have b:SameBut (λx=>X.S.A.F x\/x=X.S.tk) H H6:=λy o e n=>d _ _ (p _ _<|s _ _<|sb _ _ e n) λz=>n<|.inl z;exact q2 (c_.mp hm) _ l _ rfl (NZ u b hl) (by rw[AG];simp[AS,bx]) (by simpa using (u.same w)) λy o e n=>w _ _<|b _ _ e n;erw[Gh4_];refine{by decide,λl5 c=>?_}
 have p:=AL (o:=.lst [V.int cs.length]) c;refine y2 {p _ _<|s _ _ j,BR,x8 X _ _ _ _ m _ ps {rfl,r,(Y.same p),J,i,by simp,L,CC,by simp;exact oC g rfl,λex l H6 hl6 el6 hex u d=>.inl (x4 l5 l _ _ {rfl,rfl,d _ _ AG<|Y.bk.off c,el6,BP _ (by simp[AS];lia),λl7 B=>?_})}}
 have w:=AL (o:=.lst ([V.int cs.length]++AS ((ο<|ps.length+2).map ((cs++[T]).length+·)))) B
 have b:SameBut (λx=>X.S.A.F x\/x=X.S.tk) H H6:=λy o e n=>d _ _ (p _ _<|s _ _<|sb _ _ e n) λz=>n<|.inl z;exact q3 (by lia) (T::ex) l7 _ (by simp[hex]) (NZ u b B) (by rw[AG,z0k _<|ps.length+2];simp) (by simpa using (u.same w)) λy o e n=>w _ _<|b _ _ e n
def cat_tup(h1:H b=some (.tup xs))(h2:H d=some (.tup ys))(g:ys≠[])(i:xs.length+ys.length<=1000)(q:∀ p H',Same H H'->H' p=some (.tup<|xs++ys)->Q (.ref p) H'):A8 K (.ref b) (.ref d) H Q:=by
 by_cases c:xs=[];subst c;exact .inr<|.inr<|x3 b d ys {rfl,rfl,SqT.of h1,SqT.of h2,q d H (Same.refl _) h2};exact .inr<|.inl<|x4 b d xs ys {rfl,rfl,SqT.of h1,SqT.of h2,c,BP _<|oA i rfl,λe=>absurd e g,λz p j=>q p _ (AL j) AG}
example:(z0m,O6,Gq,7):=by
 apply u6;intro X cs tks M z t [rfl,T4,I,htl,hts,g,q,q1,q2,q3]
 have b:=T4;let[dx,ho]:=I.ob;refine y2 {ho,BR,x5 X cs _ M z {rfl,T4,I,λcell rec ec BL eM H1 s1=>?_,λeo H3 s3=>q1 eo _ s3}};let[T,TP,TL,TS]:=T4;refine{t,rfl,htl,λH2 s2=>?_}
 have c:=s1.trans s2;cases hb:GY t with
 |false =>
  exact{by decide,q2 ⟨_,ec⟩ hb _ c}
 |true =>
  refine y3 {c _ _ ho,TS.cl,TS.n1,_,IB,y3 {c _ _ ho,TS.cl,TS.n2,_,IC,x2 _ _ {rfl,WX b (I.same c) (by decide) (λp ep CC H4 s4=>?_) λer H3 s3=>q3 ⟨_,ec⟩ hb (er) _ (c.trans s3)}}};let[hr,m,ps,eR,r,q]:=q _ _ ec BL eM hb p ep CC
  have s:=c.trans s4
  have w:=I.same s;let[dx4,B]:=w.ob;let[dl4,el4]:=w.ly.ob;let[db4,eb4]:=w.bk.bk.ob;erw[Gq4_];refine LD TS (B) (eb4) (DC) (HG TS (B) (el4) (B0) (lPM TL (w.ly) λu hu=>{by decide,λl0 hl0=>?_}))
  have sb:=AL (o:=.lst []) hl0
  have j:=AL (o:=.tup [.int (X.n+X.r+X.c+X.r+p/X.w),.int<|p%X.w]) hu
  have eu:=sb _ _ (show upd H4 u _ u=some (.tup [.int (BM X.n X.r X.c X.w 2 p),.int<|p%X.w]) by rw[AG];simp[BM])
  have i:upd (upd H4 u<|.tup [.int (X.n+X.r+X.c+X.r+p/X.w),.int<|p%X.w]) l0 _ l0=some (.lst<|([]).map V.int):=AG
  have s5:=j.trans sb;revert eu i s5;refine λeu i s5=>IX b (w.same s5)  (x:=.mk 1) (by decide) (CC) eu i (by simp) (oA g rfl) (λx D=>by cases D) trivial rfl (π _) λc1 H6 J sb6=>?_;let[dx6,L]:=J.ob;let[dl6,el6]:=J.ly.ob;let[db6,eb6]:=J.bk.bk.ob;erw[Gq5_];refine LD TS (L) (eb6) (DC) (HG TS (L) (el6) (B0) (Px TL (J.ly) λu2 hu2=>{by decide,λl6 hl6=>?_}))
  have sb:=AL (o:=.lst [.int cs.length]) hl6
  have f1:=sb _ _ (show upd H6 u2 _ u2=some (.tup [.int (BM X.n X.r X.c X.w 4 p),.int<|p%X.w]) by rw[AG];simp[BM])
  have j:=AL (o:=.tup [.int (X.n+X.r+p/X.w),.int<|p%X.w]) hu2
  have f4:=AG (H:=upd H6 u2<|.tup [.int (X.n+X.r+p/X.w),.int<|p%X.w]) (a:=l6) (o:=.lst [.int cs.length])
  have d:=j.trans sb;revert d f1 f4;refine λf1 f4 d=>IX (ns:=[cs.length]) b (J.same d)  (x:=.tx t) (by decide) (by exact CC) f1 f4 (by simp) (by simp;exact oC g rfl) (λx D=>by rw[aa.mp D];exact{i0,by simp;exact zu _}) hts rfl trivial λc2 H8 I8 sb8=>?_;let[dx8,N]:=I8.ob
  have O:((M.put 2 p (.mk 1) (MD [])).put 4 p (.tx t) (MD [cs.length])) 3 rec=.rc m ps:=eR;erw[Gq6_];refine y2 {N,BR,y2 {N,BR,x5 X _ _ _ _ {rfl,b,I8,hr,λv H9 rv s9=>?_}}};rw[O]at rv;let[t0,u0,rfl,G5,GI]:=rv;refine BU G5  rfl rfl {by decide,λt9 ht9=>?_}
  have j:=AL (o:=.tup [V.int p]) ht9;refine cat_tup (j _ _ GI) AG (by simp) (by simp[AS];exact oA r rfl) λpp H10 s10 epp=>{by decide,λl10 U=>?_}
  have sc:=AL (o:=.lst [V.int ((cs++[c1]).length)]) U
  have c:=((s9.trans j).trans s10).trans sc;refine KI X _ _ _ _ m ps (ps++[p]) pp _ [((cs++[c1]).length)] {rfl,b,I8.same c,hr,O,sc _ _ (by rw[epp];simp[AS]),by simp;exact oA r rfl,AG,by simp,(λx D=>by rw[aa.mp D];exact{i0,by simp}),by simp;exact oH g rfl,λc3 H13 Y sb13=>{by decide,λl hl=>?_}}
  have sl:=AL (o:=.lst [V.int cs.length,V.int<|(cs++[c1]).length,V.int<|(cs++[c1]++[c2]).length]) hl
  have sbH:SameBut (λx=>X.S.A.F x\/x=X.S.tk) H _:=λy o e n=>sb13 _ _ (c _ _<|sb8 _ _ (d _ _<|sb6 _ _ (s5 _ _<|s _ _ e) λz=>n<|.inl z) λz=>n<|.inl z) λz=>n<|.inl z;exact q _ l _ rfl (NZ Y sbH hl) (by rw[AG];simp[AS,bx]) (by simpa using (Y.same sl)) λy o e n=>sl _ _<|sbH _ _ e n
example:(z0n,O7,Gy,3):=by
 apply u5;intro X cs tks M z [rfl,O,I,q,q1]
 have d:=O;let[dx,r]:=I.ob;let[dl,el]:=I.ly.ob;let[db,eb]:=I.bk.bk.ob;let[T,TP,TL,TS]:=O;refine y2 {r,BR (by decide),y2 {r,BR (by decide),x5 X cs _ M z {rfl,d,I,λcell rec ec BL eM H1 U=>?_,λeo H3 u=>q1 eo _ u}}};let[hr,m,ps,eR,w,A,pt,q]:=q _ _ ec BL eM;refine x5 X cs _ M _ {rfl,d,I.same U,hr,λv H2 e s2=>?_};rw[eR]at e;revert e;apply u2;intro t0 u0 [rfl,G5,Y]
 have B:=U.trans s2;refine BU G5  rfl rfl (.inr {{_,SqT.of Y},fD  (BP _ (by simp[AS];exact oA w rfl)) (λi ys H'=>Same H2 H'/\ys=(A.take i).map V.str) {Same.refl _,rfl} (λi ys H' y ⟨b,_⟩=>SqT.of<|b _ _ Y) (λi x ys H' D J c=>?_) (λys H' J c lc g=>?_)});let[b,s]:=c;unfold AS at D;rw[ψ,ai]at D;let[p,ep,rfl]:=D
 have L:i<A.length:=by have:=(η.mp ep).1;have:=pt.length;lia
 have j:=ι L;let[p',l,TX,eP]:=KQ pt j;rw[ep]at l;obtain rfl:=μ l
 have hm:p<BQ X.n X.r X.c _ 4:=TX
 have n:=B.trans b
 have I':=I.same n;refine y3 {n _ _ r,TS.cl,TS.n2,_,IC,y2 {n _ _ eb,DC (by decide),y3 {n _ _ r,TS.cl,TS.n1,_,IB,y2 {n _ _ el,B0 (by decide),x6 _ _ _ _ _ p {rfl,TL,I'.ly,λu' N=>?_}}}}}
 have su:=AL (o:=.tup [.int (X.n+X.r+p/X.w),.int<|p%X.w]) N;refine x9 _ _ _ _ cs _ u' _ _ {rfl,T,TP,I'.bk.same su,by rw[AG];simp[BM],λy v H3 ev u=>?_,λz=>absurd (I.onPl  (by decide) hm) z}
 have e:=I.rp 4 p v (by decide) hm ev;rw[eP]at e;rw[e];refine{(b.trans su).trans u,?_};rw[cu,j,s,ak]
 rfl;let[b,s]:=c
 have hl:(AS ps).length=A.length:=by rw[<-pt.length];simp[AS]
 rw[hl,bz]at s;subst s;exact q lc _ (B.free<|b.free g) ((B.trans b).trans (AL  g)) AG
def z0o(h1:H b=some (.tup xs))(h2:H d=some (.tup ys))(c:xs.length+ys.length<=1000)(q:∀ p H',Same H H'->H' p=some (.tup<|xs++ys)->Q (.ref p) H'):A8 K (.ref b) (.ref d) H Q:=by
 by_cases g:ys=[];subst g;by_cases i:xs=[];subst i;exact .inr<|.inr<|x3 b d [] {rfl,rfl,SqT.of h1,SqT.of h2,q d H (Same.refl _) h2};exact .inr (.inl (x4 b d xs [] {rfl,rfl,SqT.of h1,SqT.of h2,i,BP _<|oA c rfl,λz=>q b H (Same.refl _) (by rw[h1];simp),λe=>absurd rfl e}));exact cat_tup h1 h2 g c q
example:(z0p,O8,Gx,6):=by
 apply u6;intro X cs tks M z x [rfl,s,I,b,q,q1]
 have c:=s;let[dx,J]:=I.ob;refine y2 {J,BR,x5 X cs _ M z {rfl,s,I,λcell L ec BL eM H1 N=>?_,λeo H3 s3=>q1 eo _ s3}};let[hr,m,ps,eR,hps,q2,q3]:=q _ _ ec BL eM;refine y2 {N _ _ J,BR,x5 X cs _ M L {rfl,s,I.same N,hr,λv H2 rv s2=>?_}};rw[eR]at rv;revert rv;apply u2;intro t0 u0 [rfl,G5,w]
 have B:=N.trans s2;refine BU G5  rfl rfl ?_;erw[Gx3_];split;rename_i h0;refine{ps.length,.inr {_,SqT.of w,by simp[AS]},?_};split;exact{by decide,q2 (by lia) _ B};obtain⟨k,rfl⟩:∃ k:Nat,x=k:={_,(fm h0).symm}
 have O:k<ps.length:=by lia
 have ek:=ι O;let[hp,q3]:=q3 k _ rfl ek
 have e1:HT.sIx (AS ps).length (AS ps).length (some k)=k:=by
  simp[AS];exact rf<|ka O
 refine y2 {B _ _ J,BR,?_}
 have e2:HT.sIx (AS ps).length 0 (some<|k+1)=k+1:=by
  simp[AS];exact rf O
 have hnl:(AS ps).length=ps.length:=by simp[AS]
 refine .inr (x2 u0 _ {rfl,SqT.of w,λy=>by lia,λp1 QI=>?_})
 have D:=AL (o:=.tup<|GO (AS ps) none (some k)) QI;refine .inr (x2 u0 _ {rfl,SqT.of<|D _ _ w,λy=>by lia,λp2 KF=>?_})
 have sb:=AL (o:=.tup<|GO (AS ps) (some<|k+1) none) KF
 have U:GO (AS ps) none (some k)=AS (ps.take k):=by rw[zl6 _ (i0),cj];simp[AS]
 have c2:GO (AS ps) (some<|k+1) none=AS (ps.drop<|k+1):=by rw[zl7 _ (by exact i0)];simp[AS]
 rw[U,c2]at sb;rw[U]at D;rw[U,c2];refine z0o (sb _ _ AG) AG (by simp[AS];lia) λpp H5 s5 Y=>{by decide,λl5 hl5=>?_}
 have sc:=AL (o:=.lst []) hl5
 have s6:=(((B.trans D).trans sb).trans s5).trans sc;refine KI X cs _ M _ m ps (ps.eraseIdx k) pp l5 [] {rfl,c,I.same s6,hr,eR,sc _ _ (by rw[Y,kx];simp[AS]),(by rw[List.length_eraseIdx];split<;>lia),AG,by simp,(λx d=>by cases d),oA b rfl,λg H7 i j=>?_};let[T,TP,TL,TS]:=s;let[dx7,p]:=i.ob;let[dl7,el7]:=i.ly.ob;let[db7,eb7]:=i.bk.bk.ob;erw[Gx5_]
 have hm2:BQ X.n X.r X.c X.w 2=X.c*X.w:=by simp[BQ]
 refine y3 {p,TS.cl,TS.n2,_,IC,y2 {eb7,DC,y3 {p,TS.cl,TS.n1,_,IB,y2 {el7,B0,BU ((LC j λx d=>(I.same s6).bk.loose d) _ _ ((((D.trans sb).trans s5).trans sc) _ _ w)) (n:=k) rfl (by unfold AS;rw[ψ,ek];rfl) (x6 X.S.lp X.n X.r X.c X.w (ps[k]) {rfl,TL,i.ly,λu hu=>{by decide,λl8 hl8=>?_}})}}}}
 have se:=AL (o:=.lst [.int cs.length]) hl8
 have sd:=AL (o:=.tup [.int (X.n+X.r+X.c+X.r+(ps[k]:Int)/X.w),.int<|(ps[k]:Int)%X.w]) hu;refine IX (ns:=[(cs.length:Int)]) c (i.same<|sd.trans se) (kind:=2) (x:=.mk 0) (by decide) (by rw[hm2];exact hp) (se _ _ (show upd H7 u (.tup [.int (X.n+X.r+X.c+X.r+(ps[k]:Int)/X.w),.int<|(ps[k]:Int)%X.w]) u=some (.tup [.int (BM X.n X.r X.c X.w 2 ps[k]:Nat),.int (ps[k]%X.w:Nat)]) by rw[AG];simp[BM])) AG (by simp) (by simp;exact oC b rfl) (λx d=>by rw[aa.mp d];exact{i0,by simp;exact zu _}) trivial rfl (bt _) λc2' H9 I9 QJ=>{by decide,λl hl=>?_}
 have sl:=AL (o:=.lst [V.int cs.length,V.int ((cs++[g]).length:Nat)]) hl
 have r:SameBut (λx=>X.S.A.F x\/x=X.S.tk) H H9:=λy o e n=>QJ _ _ ((sd.trans se) _ _ (j _ _ (s6 _ _ e) λz=>n<|.inl z)) λz=>n<|.inl z;exact q3 [g,c2'] l _ rfl (NZ I9 r hl) (by rw[AG];simp[AS,bx]) (by have:=I9.same sl;simpa using this) λy o e n=>sl _ _<|r _ _ e n;exact{by decide,q2 (by lia) _ B}
def P7{f:yF}{m k:Nat}(h:E4 f m=k):f k=true:=by
 unfold E4 at h;cases e:(ο m).find? f with
 |none=>rw[e]at h;simp at h
 |some b =>
  rw[e]at h
  have:=H_ e
  have  :=ca h;subst this
  assumption
def z0q(b:y≠z)(d:HE 0 (M 0 cell)=true):cellOf ((M.put 3 c x i).put 0 cell (.nm z c) j) m y=cellOf M m y:=by
 refine fB λk v=>?_;unfold E5;by_cases g:k=cell;subst g;rw[Hs.put_at];cases e:M 0 k with
 |nm l n=>rw[e]at d;simp[HE]at d
 |_=>simp;exact λh=>b h.symm
 rw[Hs.put_at,if_neg<|λz=>g z.2,Hs.put_at,if_neg<|nE rfl]
example:(z0r,O9,Hj,6):=by
 apply u6;intro X cs j M y z [rfl,O,I,Y,hzl,d,q,q1,q2,q3,q4];let[dx,ho]:=I.ob;refine y2 {ho,BR,x6 X cs _ M y z {rfl,O,I,Y,hzl,oA d rfl,λhy hz hc old c cell T p e0=>?_,q1,q2,q3,q4}};let[hr,m,ps,e3,r,q]:=q hy hz hc _ _ _ T p e0;refine{hr,x2 m ps {e3,r,λec BL ex l1 H1 hex DP s I1 sb1=>?_}}
 have fc:=P7 ec
 have e01:((M.put 3 c (.rc (m+1) ps) []).put 0 cell (.nm z c) (cs.length::EU j z)) 0 old=.nm y c:=by rw[Hs.put_at,if_neg (λz=>(λh=>by rw[<-h,e0]at fc;simp[HE]at fc) z.2)];exact e0
 have g:cellOf ((M.put 3 c (.rc (m+1) ps) []).put 0 cell (.nm z c) (cs.length::EU j z)) X.m0 y=some old:=by rw[z0q (λh=>by rw[h,hc]at T;cases T) fc];exact T
 let[dx1,u]:=I1.ob
 have i:¬ X.S.A.F l1/\l1≠X.S.tk:={λz=>(I.bk.off DP) z,λz=>by rw[z,I.tk]at DP;cases DP}
 refine y2 {u,BR,x5 X _ _ _ y {rfl,O,I1,λcell' k' w hc' B H2 D=>?_,λe=>by rw[g]at e;cases e}};rw[g]at w;obtain rfl:=μ w;rw[e01]at B;cases B;erw[Hj2_];refine y2 {D _ _ u,BR,CJ (SqL.of<|D _ _ s)  (v:=.int<|cs.length+1) rfl (by simp[AS]) {by decide,λl3 hl3=>?_}}
 have s3:=AL (o:=.lst [V.int (cs.length+1)]) hl3;refine x8 X _ _ _ _ y l3 [((cs.length+1))] {rfl,O,((I1.same D).same s3),g,p,AG,by simp,(λx hx=>by rw[aa.mp hx];exact{i0,by simp[hex]}),by simp[hex];exact oH d rfl,λc3 H4 I4 J=>?_};let[dx4,ho4]:=I4.ob
 have CK:(cs++ex).length=cs.length+2:=by simp[hex]
 rw[CK];erw[Hj3_];refine y2 {ho4,BR,by decide,λl5 hl5=>?_}
 have s5:=AL (o:=.lst [V.int (cs.length+2)]) hl5;refine KI X _ _ _ _ _ m _ ps l5 [((cs.length+2))] {rfl,O,I4.same s5,hr,(by rw[Hs.put_at,if_neg<|nE rfl];exact(by rw[Hs.put_at,if_neg<|nE rfl,Hs.put_at,if_pos ⟨rfl,rfl⟩])),by lia,r,AG,by simp,(λx hx=>by rw[aa.mp hx];exact{i0,by simp[hex]}),by simp[hex];exact oH d rfl,λc4 H6 I6 L=>{by decide,λl6 hl6=>.inl ?_}}
 have U:=AL (o:=.lst [V.int (cs.length+2),V.int<|(cs++ex++[c3]).length]) hl6;refine x4 l1 l6 _ _ {rfl,rfl,U _ _<|L _ _ (s5 _ _<|J _ _ (s3 _ _<|D _ _ s) λz=>z.elim i.1 i.2) i.1,AG,BP _ (by simp[AS]),λl hl=>?_}
 have sl:=AL (o:=.lst (AS ((ο 2).map (cs.length+·))++[V.int (cs.length+2),V.int<|(cs++ex++[c3]).length])) hl
 have h2:((cs.length:Int)+2).toNat=cs.length+2:=rfl
 have N:SameBut (λx=>X.S.A.F x\/x=X.S.tk) H _:=λb o e n=>U _ _<|L _ _ (s5 _ _<|J _ _ (s3 _ _<|D _ _<|sb1 _ _ e n) n) λz=>n<|.inl z;exact(q ec BL) (ex++[c3]++[c4]) l _ (by simp[hex]) (NZ (I6.same U) N hl) (by rw[AG];simp[AS,bx,hex]) (by simpa [hex,h2]using ((I6.same U).same sl)) λb o e n=>sl _ _<|N _ _ e n
theorem Qc(C d:yF)(g:∀ j,C j=true->d j=true)(kind k:Nat):∀ as:zH,(∃ x,∀ M,sh M d as kind k=x)\/((∀ M,sh M d as kind k=M kind k)/\∀ M,sh M C as kind k=M kind k)
 | []=>.inr {λ_=>rfl,λ_=>rfl}
 |b::r=>by
  have i:=Qc C d g kind k r;by_cases e:kind=b.kind/\k=b.k;let[rfl,rfl]:=e;by_cases c:d r.length=true;exact .inl {_,λM=>by rw[C8 c,CY]};let[x,h]||[h1,h2]:=i
  exact .inl {x,λM=>by rw[ET c];exact h M};exact .inr {λM=>by rw[ET c];exact h1 M,λM=>by rw[ET (λz=>c<|g _ z)];exact h2 M}
  have far:∀ (D:yF) (M:Md),sh M D _ _ k=sh M D r _ k:=λD M=>by
   by_cases c:D r.length=true;rw[C8 c];exact if_neg e;rw[ET c]
  let[x,h]||[h1,h2]:=i
  exact .inl {x,λM=>by rw[far];exact h M};exact .inr {λM=>by rw[far];exact h1 M,λM=>by rw[far];exact h2 M}
def z0s(c:∀ j,C j=true->b j=true):sh (sh M C as) b as kind k=sh M b as kind k:=by
 let[x,h]||[h1,h2]:=Qc C b c _ k as
 rw[h,h];rw[h1,h1,h2]
def z0t:EY (cs++[ch]) O b row=if ch.blk=b/\O cs.length=true then(EY cs O b row).set ch.cell ch.val else EY cs O b row:=by
 have st:∀ (l:List _) (row:eI),(∀ k∈l,k<cs.length)->l.foldl (HV (cs++[ch]) O) row=l.foldl (HV cs O) row:=by
  intro l
  induction l with
  |nil=>intro y y;rfl
  |cons k l d =>
   intro row h;rw[gg,gg,d _ λj g=>h j<|τ _ g];unfold HV;rw[bc (h k χ)]
 have lt:∀ k∈DI cs b,k<cs.length:=λk i=>by
  let[c,e,y]:=VG.mp i;exact(η.mp e).1
 have n:DI (cs++[ch]) b=if ch.blk=b then DI cs b++[cs.length]else DI cs b:=by simp[DI,FW]
 unfold EY;rw[n];by_cases e:ch.blk=b;rw[if_pos e,kf,st _ _ lt];simp only[gg,List.foldl_nil];unfold HV;rw[b_ (π _),vk];by_cases o:O cs.length=true;rw[if_pos o,if_pos ⟨e,o⟩];rfl;rw[if_neg o,if_neg λz=>o z.2];rw[if_neg e,if_neg λz=>e z.1,st _ _ lt]
section
variable{n r c w:Nat}{cs:yH}{as:zH}
def LaidA.len(h:LaidA n r c w H cs as):cs.length=as.length:=by
 induction h with
 |nil=>rfl
 |snoc _ _ _ _ _ _ _ b=>rw[ae,b];rfl
def LaidA.cut(h:LaidA n r c w H cs as)(b:VN cs outs):GT (λj=>outs (j:Nat)) as:=by
 induction h with
 |nil=>trivial
 |@snoc cs as ch x l q s u d v z g =>
  refine{g λk c e=>b k c (by rw[bc (η.mp e).1];exact e),λo=>?_}
  have nd:=b _ ch (by rw[b_ (π _),vk];rfl) (by rw[l.len];exact o);exact{λy i=>nd _<|(d _).mpr (.inl ⟨y,i,rfl⟩),λj p=>nd _<|(d _).mpr (.inr ⟨j,p,rfl⟩)}
def LaidA.far(h:LaidA n r c w H cs as){C i:zE}(p:∀ (j:Nat) (ch:Ch),cs[j]? =some ch->ch.blk≠b->i j=C j)(s:BM n r c w kind k≠b):sh M (λj=>i (j:Nat)) as kind k=sh M (λj=>C (j:Nat)) as kind k:=by
 induction h with
 |nil=>rfl
 |@snoc cs as ch x l u v y z A B d =>
  have d:=d λj c q=>p j c (by rw[bc (η.mp q).1];exact q);by_cases e:kind=x.kind/\k=x.k
  have g:=p _ ch (by rw[b_ (π _),vk];rfl) (by rw[u,<-e.1,<-e.2];exact s);rw[l.len]at g;by_cases o:C as.length=true;rw[C8 (C:=λj=>C j) o,C8  (g.trans o),e.1,e.2,CY,CY];rw[ET (C:=λj=>C j) o,ET  (by rw[g];exact o)];exact d
  have far:∀ D:Nat->Bool,sh M D _ _ k=sh M D as _ k:=λD=>by
   by_cases o:D as.length=true;rw[C8 o];exact if_neg e;rw[ET o]
  rw[far,far];exact d
def LaidA.laid(h:LaidA n r c w H cs as)(A:∀ kind k v,kind<5->k<BQ n r c w kind->BM n r c w kind k=b->row[k % w]? =some v->RepC H (S kind k) v):∀ kind k v,kind<5->k<BQ n r c w kind->BM n r c w kind k=b->(EY cs O b row)[k % w]? =some v->RepC H (sh S (λj=>O (j:Nat)) as kind k) v:=by
 induction h with
 |nil=>exact A
 |@snoc cs as ch x l p q B J D I g =>
  intro kind k v h1 s i d;rw[z0t]at d
  have g:=g _ k v h1 s i;by_cases e:kind=x.kind/\k=x.k;let[rfl,rfl]:=e;rw[p,i]at d;by_cases o:O as.length=true;rw[C8  o,CY];rw[if_pos {rfl,by rw[l.len];exact o},q]at d
  have u:=(η.mp d).1;rw[jx]at u;rw[gk u]at d;obtain rfl:=μ d;exact B;rw[ET  o];rw[if_neg λz=>o (by rw[<-l.len];exact z.2)]at d;exact g d
  have far:sh S (λj=>O j) (x::as) kind k=sh S (λj=>O j) as kind k:=by
   by_cases o:O as.length=true;rw[C8  o];exact if_neg e;rw[ET  o]
  rw[far];refine g ?_;split at d;rename_i z
  have:ch.cell≠k%w:=λy=>e ((fA     h1 D s I (by rw[i,<-p];exact z.1.symm) (by rw[<-y,q])));rw[ia this]at d;exact d;exact d
end
def RowsAre.keep(h:RowsAre H n r c w rows S)(k:EE H H'):RowsAre H' n r c w rows S:=λkind i v h1 h2 h3=>(h _ i v h1 h2 h3).keep k
def RowsAre.write{rows:yD}{outs:zE}(h:RowsAre H n r c w rows (sh B (λj=>outs (j:Nat)) as))(l:LaidA n r c w H cs as)(q:rows[b]? =some row) :
  RowsAre H n r c w (rows.set b<|EY cs (DF cs outs b) b row) (sh B (λj=>DF cs outs b (j:Nat)) as):=λkind k v h1 o d=>by
 by_cases e:BM n r c w kind k=b;rw[e,gk<|(η.mp q).1]at d
 have:=l.laid     (λkind k v h1 o e d=>h _ k v h1 o (by rw[e,q];exact d)) _ k v h1 o e d;rw[z0s   (λj e=>by unfold DF;rw[e];rfl)]at this;exact this;rw[ia (λz=>e z.symm)]at d;rw[l.far    (λj ch s u=>?_) e];exact h _ k v h1 o d;unfold DF
 have:(outcome cs outs (λy=>false) b).out.any (λi=>j ==(i:Int))=false:=by
  rw[Cu];intro z;let[i,x,p]:=dt.mp z
  have p:=ca (beq_iff_eq.mp p).symm;subst p;let[D,g,A]:=VG.mp<|(VJ.2.1 i x).2;rw[s]at g;obtain rfl:=μ g;exact u A
 rw[this,pq]
def z0u(l:D8 cs (b:Nat) (j:Nat)=none):(EY cs O b row)[j]? =row[j]? :=by
 rw[zmg,vA];cases n:JS cs _ j with
 |none=>simp
 |some c =>
  let[k,o,i,d,z]:=vB n;let[q,e,p]:=VG.mp (di.mp o).1;rw[i]at e;obtain rfl:=μ e;refine u2 ?_<|zmh i;intro r s [g,z];rw[p,d,l]at g;cases g
def z0v(h:v∈EY cs O b row):v∈row\/∃ c∈cs,v=c.val:=by
 unfold EY at h;revert h;generalize DI cs b=l
 induction l generalizing row with
 |nil=>exact .inl
 |cons k l d =>
  intro h;let h||h:=d h
  unfold HV at h;split at h;split at h;rename_i c e;let h||h:=pd h
  exact .inl h;exact .inr {c,θ e,h};exact .inl h;exact .inl h;exact .inr h
theorem WY{α b :Type}{F: α -> b ->Prop}{x: α}:∀ {l:List α} {m:List b} {i:Nat},Paired F l m->l[i]? =some x->∃ y,m[i]? =some y/\F x y
 |_,_,0,.cons h _,e=>{_,rfl,by cases e;exact h}
 |_,_,i+1,.cons _ t,e=>WY (i:=i) t e
example:(z0w,aK,Hc,4):=by
 apply u5;intro X cs tks M z [rfl,T4,I,q,qE];let[dx,ho]:=I.ob
 have g:=T4;let[T,TP,Y,TS]:=T4;refine y2 {ho,BR (by decide),x5 X cs _ M z {rfl,g,I,λcell c e BL hm H1 s1=>?_,qE}};let[hr,m,ps,e3,hps,TX,q]:=q _ _ e BL hm
 have L:=I.same s1;let[d1,B]:=L.ob;let[dl1,el1]:=L.ly.ob;erw[Hc1_];refine HG TS B el1 (B0 (by decide)) (y2 {B,BR (by decide),x5 X cs _ M z {rfl,g,L,λH2 s2=>?_}});rw[e]
 have I2:=L.same s2;refine Pw  Y I2.ly λN D=>?_
 have I3:=I2.same<|AL (o:=.tup [.int (0+cell/X.w),.int<|cell%X.w]) D;let[d3,ho3]:=I3.ob;let[dl3,el3]:=I3.ly.ob
 have b1:∀ k:Nat,[V.int _,V.int _]=WF X (0,k):=λk=>by
  rfl
 have b3:∀ k:Nat,[V.int _,V.int _]=WF X (3,k):=λk=>rfl;refine HG TS ho3 el3 (B0 (by decide)) (P0  Y I3.ly λO ht2=>{by decide,λl1 DP=>?_})
 have j:=AL (o:=.lst [.ref N,.ref O]) DP
 have J:=AL (o:=.tup [.int (X.n+c/X.w),.int<|c%X.w]) ht2
 have n:=j _ _<|J _ _<|AG   
 have r:=j _ _<|AG  
 have U:=s1.trans<|s2.trans<|(AL  D).trans (J.trans j)
 have b:upd (upd (upd H2 N<|.tup [.int (0+cell/X.w),.int<|cell%X.w]) O (.tup [.int (X.n+c/X.w),.int<|c%X.w])) l1 _ l1=some (.lst [.ref N,.ref O]):=AG;erw[Hc2_];revert n r U b;intro n r U b
 have I4:=I.same U;let[d4,ho4]:=I4.ob;refine y2 {ho4,BR (by decide),x5 X cs _ M _ {rfl,g,I4,hr,λv H5 rv s5=>?_}};rw[e3]at rv;revert rv;apply u2;intro t u [rfl,et,eu];refine BU et  rfl rfl (.inr {{_,SqT.of eu},fD  (BP _ (by simp[AS];exact oA hps rfl)) (λi ys H'=>Same H5 H'/\∃ d:List _,ys=d.map V.ref/\Paired (λt p=>H' t=some (.tup<|WF X p)) d ((ps.take i).map λp=>(4,p))) {Same.refl _,[],rfl,.nil} (λi ys H' y ⟨s,_⟩=>SqT.of<|s _ _ eu) (λi x ys H' hx hyl w=>?_) (λys H' hyl w lc hlc=>?_)});let[s,d,ey,P]:=w;unfold AS at hx;rw[ψ,ai]at hx
 have I6:=(I4.same s5).same s;let[p,hp,rfl]:=hx;let[d6,ho6]:=I6.ob;let[dl6,el6]:=I6.ly.ob;erw[C1];refine HG TS ho6 el6 (B0 (by decide)) (Px  Y I6.ly λt ht=>{s.trans<|AL ht,d++[t],by rw[ey,ak];rfl,?_});rw[cu,hp,ak];exact Paired.snoc (Paired.mapP P λt p h=>AL ht _ _ h) AG;let[s,d,ey,P]:=w;rw[ey]
 have s6:=AL (o:=.lst<|d.map V.ref) hlc
 have hts:d.length<=100:=by
  have:=P.length;rw[ε,cz]at this
  lia
 refine .inl (x4 l1 lc _ _ {rfl,rfl,s6 _ _<|s _ _<|s5 _ _ b,AG,by rw[fk];simp;lia,λl hl=>?_})
 have s7:=s6.trans<|AL (o:=.lst<|[V.ref N,V.ref O]++d.map V.ref) hl
 have A:=s5.trans<|s.trans s7;refine q l _ _ (U.trans A) AG (.cons ?_<|.cons ?_ ?_);exact A _ _ n;exact A _ _ r
 have P':=Paired.mapP P λt p h=>s7 _ _ h;rw[dv (by simp[AS])]at P';exact P'
example:(z0x,ME,Hm,4):=by
 apply u5;intro X cs tks M z [rfl,O,I,q,qE];let[dx,u]:=I.ob
 have w:=O;let[T,TP,TL,TS]:=O;refine y2 {u,BR (by decide),y5 {rfl,TS,u,?_}};erw[Hm1_];refine y2 {u,BR (by decide),x5 X cs _ M z {rfl,w,I,λcell b e U hm=>?_,qE}};let[Y,m,ps,e3,y,TX,q]:=q _ _ e U hm;refine{Y,x2 m ps {e3,y,TX,λl ts H1 A el P=>(.inl {{_,SqL.of el},?_})}}
 have I1:=I.same A
 have j:ts.length<=102:=by
  have:=P.length;unfold HY at this;simp at this
  lia
 have on:∀ p∈HY cell b ps,p.1<5/\p.2<BQ _ _ _ _ p.1:=λp g=>by
  let rfl||g:=af.mp g
  exact{by show 0<5;decide,U};let rfl||g:=af.mp g
  exact{by show 3<5;decide,Y};let[k,hk,rfl]:=a_.mp g;exact{by show 4<5;decide,TX k hk}
 refine UT  (BP _ (by rw[ε];exact oA j rfl)) (λi ys H'=>Same H1 H'/\ys=((HY cell b ps).take i).map λp=>VS<|D8 cs (BM X.n X.r X.c X.w p.1 p.2) (p.2%X.w:Nat)) {Same.refl _,rfl} (λi ys H' _ ⟨d,_⟩=>SqL.of<|d _ _ el) (λi x ys H' r B c=>?_) (λys H' B c lc D=>?_);let[d,s]:=c;rw[ψ,ai]at r
 have J:=I1.same d;let[t,ht,rfl]:=r;let[p,g,e1]:=WY P ht;let[o1,o2]:=on p<|θ g;let[db,eb]:=J.bk.bk.ob;refine y2 {eb,DC (by decide),x9 _ _ _ _ cs _ t _ _ {rfl,T,TP,J.bk,d _ _ e1,λ_=>{d,?_},λz=>absurd (J.onPl o1 o2) z}};rw[cu,g,ak,s]
 rfl;let[d,s]:=c
 have e6:upd H' lc _ lc=some (.lst ys):=AG;erw[Hm2_];refine .inl {{_,SqL.of e6},YV (λv=>match v with|.non=>false|_=>true) (BP _ (by simp at *;lia)) (SqL.of e6) (λv hv QB n=>?_) λl2 DH=>?_};rw[s]at hv;let[p,_,rfl]:=a_.mp hv;revert n;cases D8 cs _ _ with
 |none=>intro n;exact n
 |some k=>intro n;exact n
 have ef:ys.filter (λv=>match v with|.non=>false|_=>true)=(K7 X cs<|HY cell b ps).map V.int:=by
  rw[s,dv (by rw[ε];exact ba P.length.symm)];unfold K7;generalize HY _ _ ps=L
  induction L with
  |nil=>rfl
  |cons p L ih =>
   rw[bu,ph];cases D8 cs _ _ with
   |none=>exact ih
   |some k=>exact congrArg _ ih
 have N:=(AL  D).trans (AL (o:=.lst<|(K7 X cs<|HY cell b ps).map V.int) DH);rw[ef]
 have ln:(K7 X cs<|HY cell b ps).length<=200:=by
  refine υ (gy _ _) ?_;exact oA (υ (ba P.length.symm) j) rfl
 refine x8 _ _ _ _ cs _ l2 _ {rfl,T,(I1.same<|d.trans N).bk,SqL.of AG,by omega,λ_ l' row R H8 c1 c2 c3 c4 s8 e8=>q l' _ R H8 c1 c2 c3 ((A.trans<|d.trans N).free c4) (A.trans<|(d.trans N).trans s8) e8,λc=>?_};let[x,r,nx]:=c;exfalso;let[p,_,ex]:=lm.mp r;let[k,ek,rfl]:=ai.mp ex;exact nx {i0,c_.mpr<|RQ ek}
def F5{c A B:Prop}[Decidable c](h:c)(x:A):if c then A else B:=by rw[if_pos h];exact x
def E6{c A B:Prop}[Decidable c](h:¬ c)(x:B):if c then A else B:=by rw[if_neg h];exact x
def z0y{α :Type}{l:List (Option α)}{k:Nat}{c: α}(h:AZ l k=some c):some c∈l:=by
 unfold AZ at h;cases e:l[k]? with
 |none=>rw[e]at h;cases h
 |some y =>
  rw[e]at h;exact h ▸ θ e
def FindsL.on{H':Hp}{l:Addr}{fs:yD}(h:FindsL H l fs)(b:∀ o,H l=some o->H' l=some o)(tk:EE H H'):FindsL H' l fs:=by
 let[ps,e,P]:=h;exact{ps,b _ e,Paired.mapP P λp f e=>tk _ _ e}
def NmV.keep(k:EE H H')(h:NmV H v c):NmV H' v c:=by
 cases c with
 |none=>exact h
 |some c=>let[p,e,h1]:=h;exact{p,e,k _ _ h1}
def RcV.keep(k:EE H H')(h:RcV H v c):RcV H' v c:=by
 cases c with
 |none=>exact h
 |some c=>revert h;apply u2;intro p q [e,h1,h2];exact x2 p q {e,k _ _ h1,k _ _ h2}
def PcV.keep(_:EE H H')(h:PcV H v c):PcV H' v c:=by
 cases c<;>exact h
def MkV.keep(_:EE H H')(h:MkV H v c):MkV H' v c:=by
 cases c<;>exact h
def LstAt.keep{α :Type}{R:Hp->V-> α ->Prop}{H':Hp}{p:Addr}{cs:List α}(h:LstAt R H p cs)(b:∀ v c,R H v c->R H' v c)(d:∀ o,H p=some o->H' p=some o):LstAt R H' p cs:=by
 let[vs,e,P]:=h;exact{vs,d _ e,Paired.mapP P λv c=>b v c}
def FindsL.same(h:FindsL H l fs)(s:Same H H'):FindsL H' l fs:=by
 let[ps,e,P]:=h;exact{ps,s _ _ e,Paired.mapP P λp f e=>s _ _ e}
def ViewAt.same{H':Hp}{x:Addr}{A:VA}{b:Vw}(h:ViewAt a H x A b)(s:Same H H'):ViewAt a H' x A b:=by
 let[[d,e],h1,h2,h3,h4,h5,h6,h7,h8,ok]:=h;exact{{d,s _ _ e},h1.keep (λv c=>NmV.keep s.tk) (λo=>s _ _),h2.keep (λv c=>RcV.keep s.tk) (λo=>s _ _),h3.keep (λv c=>PcV.keep s.tk) (λo=>s _ _),h4.keep (λv c=>MkV.keep s.tk) (λo=>s _ _),h5.keep (λv c=>MkV.keep s.tk) (λo=>s _ _),s _ _ h6,s _ _ h7,s _ _ h8,ok}
def LstAt.at{α :Type}{R:Hp->V->Option α ->Prop}{p:Addr}{cs:List (Option α)}{k:Nat}(h:LstAt R H p cs)(b:k<cs.length):∃ vs v,H p=some (.lst vs)/\vs.length=cs.length/\vs[k]? =some v/\R H v (AZ cs k):=by
 let[vs,e,P]:=h;let[v,c,d]:=KQ P<|ι b;refine x2 vs v {e,P.length,c,?_};unfold AZ;rw[ι b];exact d
def WZ{l:wH}{k:Nat}{m:Nat}(h:l[k]? =some m):(AS l)[k]? =some (.int m):=by
 unfold AS;rw[ψ,h]
 rfl
def P8{n k:Nat}{f:Nat->Nat}(h:k<n):((ο n).map f)[k]? =some (f k):=by
 rw[ψ,vd h]
 rfl
def SW{p:Addr}{n k:Nat}{f:Nat->Nat}{Q:VK}(h:H p=some (.lst<|AS<|(ο n).map f))(b:k<n)(q:Q (.int<|f k) H):BZ K (.ref p) (.int k) H Q :=
 CJ (SqL.of h)  rfl (WZ<|P8 b) q
def z0z:(vf A).lookup ("name_values":Str)=some (V.ref A.n):=by simp[vf]
def W1:(vf A).lookup ("record_values":Str)=some (V.ref A.r):=by
 simp[vf,au,BB (a:="record_values") (b:="name_values") (by decide)]
def z00:(vf A).lookup ("piece_values":Str)=some (V.ref A.p):=by
 simp[vf,au,BB (a:="piece_values") (b:="name_values") (by decide),BB (a:="piece_values") (b:="record_values") (by decide)]
def Qd{A:VA}:(vf A).lookup ("record_marks":Str)=some (V.ref A.rm):=by
 simp[vf,au,BB (a:="record_marks") (b:="name_values") (by decide),BB (a:="record_marks") (b:="record_values") (by decide),BB (a:="record_marks") (b:="piece_values") (by decide)]
def Qg{A:VA}:(vf A).lookup ("piece_marks":Str)=some (V.ref A.pm):=by
 simp[vf,au,BB (a:="piece_marks") (b:="name_values") (by decide),BB (a:="piece_marks") (b:="record_values") (by decide),BB (a:="piece_marks") (b:="piece_values") (by decide),BB (a:="piece_marks") (b:="record_marks") (by decide)]
def fE{A:VA}:(vf A).lookup ("leads":Str)=some (V.ref A.ld):=by
 simp[vf,au,BB (a:="leads") (b:="name_values") (by decide),BB (a:="leads") (b:="record_values") (by decide),BB (a:="leads") (b:="piece_values") (by decide),BB (a:="leads") (b:="record_marks") (by decide),BB (a:="leads") (b:="piece_marks") (by decide)]
def Qh{A:VA}:(vf A).lookup ("namings":Str)=some (V.ref A.ng):=by
 simp[vf,au,BB (a:="namings") (b:="name_values") (by decide),BB (a:="namings") (b:="record_values") (by decide),BB (a:="namings") (b:="piece_values") (by decide),BB (a:="namings") (b:="record_marks") (by decide),BB (a:="namings") (b:="piece_marks") (by decide),BB (a:="namings") (b:="leads") (by decide)]
def z01:(vf A).lookup ("reached":Str)=some (V.ref A.rh):=by
 simp[vf,au,BB (a:="reached") (b:="name_values") (by decide),BB (a:="reached") (b:="record_values") (by decide),BB (a:="reached") (b:="piece_values") (by decide),BB (a:="reached") (b:="record_marks") (by decide),BB (a:="reached") (b:="piece_marks") (by decide),BB (a:="reached") (b:="leads") (by decide),BB (a:="reached") (b:="namings") (by decide)]
def N0{A:VA}{x:Str}(h:(D9 x "name_values" || D9 x "record_values" || D9 x "piece_values" || D9 x "record_marks" || D9 x "piece_marks" || D9 x "leads" || D9 x "namings" || D9 x "reached")=false):(vf A).lookup x=none:=by
 simp only[ff]at h;let[[[[[[[h1,h2],h3],h4],h5],h6],h7],h8]:=h;simp[vf,au,BB h1,BB h2,BB h3,BB h4,BB h5,BB h6,BB h7,BB h8]
section
variable{tt:TT}{te:TE}{A5:wH}{σ:St}
def ID{b H':Hp}{l:Addr}{o:HO}(s:Same b H')(h:H' l=none):Same b (upd H' l o):=s.trans<|AL h
def FnW(H:Hp)(is:wH)(p:yF)(f:zD)(i:Nat)(ys:eI)(H':Hp):Prop:=Same H H'/\∃ ps:eF,ys=ps.map V.ref/\Paired (λq g=>H' q=some (.tup g)) ps (((is.take i).filter p).map f)
def J0{α :Type}{l:List α}{i:Nat}{x: α}(h:l[i]? =some x):l.take (i+1)=l.take i++[x]:=by
 let[g1,g2]:=η.mp h;rw[<-g2,kq]
def FnW.yes{p:yF}{f:zD}(h:FnW H is p f i ys H')(c:is[i]? =some k)(d:p k=true)(b:H' t=none):FnW H is p f (i+1) (ys++[.ref t]) (upd H' t<|.tup<|f k):=by
 let[s,ps,e,P]:=h;refine{ID s b,ps++[t],by rw[e,ak];rfl,?_};rw[J0 c,l_,ak]
 have:([k].filter p).map f=[f k]:=by simp[d]
 rw[this];exact Paired.snoc (Paired.mapP P λq g e=>AL b _ _ e) AG
def FnW.no{is:wH}{p:yF}{f:zD}{i k:Nat}{ys:eI}{H':Hp}(h:FnW H is p f i ys H')(b:is[i]? =some k)(c:p k=false):FnW H is p f (i+1) ys H':=by
 let[s,ps,e,P]:=h;refine{s,ps,e,?_}
 have:([k].filter p).map f=[]:=by simp[c]
 rw[J0 b,l_,ak,this,iq];exact P
def FnW.len{is:wH}{p:yF}{f:zD}{i:Nat}{ys:eI}{H':Hp}(h:FnW H is p f i ys H'):ys.length<=i:=by
 let[s,ps,e,P]:=h;rw[e,ε,P.length,ε];exact υ (cr ..) (by rw[cz];lia)
def FnW.fin{is:wH}{p:yF}{f:zD}{ys:eI}{H':Hp}{l:Addr}(h:FnW H is p f is.length ys H')(b:H' l=none):H l=none/\Same H (upd H' l<|.lst ys)/\FindsL (upd H' l<|.lst ys) l ((is.filter p).map f):=by
 let[s,ps,rfl,P]:=h;rw[bz]at P;exact{s.free b,ID s b,ps,AG,Paired.mapP P λq g e=>AL b _ _ e}
def N1{b:Addr}{is:wH}(p:yF)(f:zD)(u:H b=some (.lst<|AS is))(v:is.length<=1000)
  (w:∀ k∈is,∀ H',Same H H'->∀ l:Bool->Hp->Prop,l (p k) H'->tt (some (.int (k:Int))::C1 A5 σ) H' l)
  (he:∀ k∈is,p k=true->∀ H' (o:VK),Same H H'->(∀ t,H' t=none->o (.ref t) (upd H' t<|.tup<|f k))->te (some (.int (k:Int))::C1 A5 σ) H' o) (hd:newF ((is.filter p).map f) H Q):EN (GK K b) (AF 0) tt te 1 A5 σ H Q:=by
 have d:∀ {i:Nat} {x:V},(AS is)[i]? =some x->∃ k,is[i]? =some k/\x=.int k:=λe=>by
  unfold AS at e;rw[ψ,ai]at e;let[k,h1,h2]:=e;exact⟨k,h1,h2.symm⟩
 have r:(AS is).length=is.length:=by simp[AS]
 refine t5  (λi=>match is[i]? with
  |some k=>p k
  |none=>false) (BP _<|oA (υ (ba r) v) rfl) (FnW H is p f) {Same.refl _,[],rfl,.nil} (λi ys H' _ h=>{SqL.of<|h.1 _ _ u,h.len}) (λi x ys H' j h l s=>?_) (λi x ys H' j g h=>?_) (λi x ys H' j g h=>?_) (λys H' h q y=>?_)
 let[k,c,rfl]:=d j;simp only[c]at s;exact w k (θ c) H' h.1 l s;let[k,c,rfl]:=d j;simp only[c]at g;exact he k (θ c) g H' _ h.1 λt n=>h.yes c g n;let[k,c,rfl]:=d j;simp only[c]at g;exact h.no c g;rw[r]at h;let[h1,h2,h3]:=h.fin y;exact hd q _ h1 h2 h3
def SY{b:Addr}{xs:eI}(p:yF)(n:H b=some (.lst xs))(r:xs.length<=1000)
  (u:∀ i x,xs[i]? =some x->∀ H',Same H H'->∀ c:Bool->Hp->Prop,c (p i) H'->tt (some (.int (i:Int))::some x::C1 A5 σ) H' c) (hd:newL (AS<|(ο xs.length).filter p) H Q):EN (L7 K b) (FQ K 2<|DX (AF 0) (DX (AF 1) FO)) tt (D7 0) 2 A5 σ H Q:=by
 refine Y2  p (BP _<|oA r rfl) (λi ys H'=>Same H H'/\ys=AS ((ο i).filter p)) {Same.refl _,rfl} (λi ys H' z ⟨s,e⟩=>{SqL.of<|s _ _ n,?_}) (λi ys H' t o ⟨s,e⟩ h=>{ID s h,e}) (λi x ys H' d ⟨s,e⟩ c v=>u i x d H' s c v) (λi x ys H' d g ⟨s,e⟩=>{s,by rw[e];unfold AS;rw[bx];simp[g]}) (λi x ys H' d g ⟨s,e⟩=>{s,?_}) (λys H' j q l=>?_);rw[e];unfold AS;rw[ε];exact υ (cr ..) (by rw[ce];exact π _);rw[e];rw[bx];simp[g];let[s,rfl]:=j;exact hd q _ (s.free l) (ID s l) AG
end
def ViewAt.rl{x:Addr}{A:VA}{b:Vw}(h:ViewAt a H x A b):∃ vs,H A.r=some (.lst vs)/\vs.length=b.rc.length:=by
 let[vs,e,P]:=h.r;exact⟨vs,e,P.length⟩
def fF(h:RcV H v c):decide (v=.non)=c.isNone:=by
 cases c with
 |none=>rw[h];rfl
 |some c=>revert h;apply u2;intro p q [rfl,z];rfl
def z02{v:V}{c:PD}(h:NmV H v c):decide (v=.non)=c.isNone:=by
 cases c with
 |none=>rw[h];rfl
 |some c=>let[p,rfl,z]:=h;rfl
def z03(h:PcV H v c):decide (v=.non)=c.isNone:=by
 cases c with
 |none=>rw[h];rfl
 |some c=>rw[h];rfl
example:(z04,WI,vT,2):=by
 apply u5;intro x A d r c [rfl,T,I,b,q];let[o,e]:=I.ob
 have j:r<d.rc.length:=by
  unfold AZ at b;cases g:d.rc[r]? with
  |none=>rw[g]at b;cases b
  |some _=>exact(η.mp g).1
 refine u2 ?_<|I.r.at j;intro us v [l,s,n,i];rw[b]at i;revert i;apply u2;intro p u [rfl,h1,h2];exact y3 {e,T.cl,T.n2,_,W1,CJ (SqL.of l)  rfl n (BU h1  rfl rfl q)}
example:(z05,WH,vR,1):=by
 apply u3;intro x A l [rfl,T,I,q];let[u,e]:=I.ob;let[us,c,P]:=I.r
 have d:=P.length;refine y3 {e,T.cl,T.n2,_,W1,{_,SqL.of c},SY (λr=>(AZ l.rc r).isSome) c (oA (υ (ba d) I.ok.br) rfl) (λi v g H' s w n=>?_) ?_};refine u2 ?_<|I.r.at  (d ▸ ((η.mp g).1));intro o y [b,z,j,p];rw[c]at b;cases b;rw[g]at j;obtain rfl:=μ j;erw[];rw[fF p];simpa using n;rw[d];exact q
def fG(n:Nat):decide ((0:Int)<(n:Int))=decide (0<n):=by simp
def z06(n:Nat):decide ((1:Int)<(n:Int))=decide (1<n):=by
 lia
def z07(n:Nat):decide ((n:Int)=(0:Int))=decide (n=0):=by simp
def IE(l:wH):(AS l).length=l.length:=by simp[AS]
def N2(n:Nat)(f:Nat->Nat):((ο n).map f).length=n:=by simp
example:(z08,SB,vS,1):=by
 apply u3;intro x A g [rfl,T,I,q];let[l,e]:=I.ob
 have c:=I.ng;refine y3 {e,T.cl,T.n7,_,Qh,{_,SqL.of c},SY (λp=>decide<|0<FD g p) c (by rw[IE,N2];exact oA I.ok.bp rfl) (λi v b H' s n j=>?_) ?_}
 have d:=(η.mp b).1;rw[IE,N2]at d;rw[WZ (P8 d)]at b;obtain rfl:=μ b;erw[];rw[fG];exact j;rw[IE,N2];exact q
example:(z09,aL,vQ,1):=by
 apply u4;intro x ar al g [rfl,T,[dx,fs,e,L],[M,N,D,l2],I,w,O,q];rw[e]at D
 have y:=I;cases D;let[us,A,P]:=I
 have u:=P.length;refine y3 {e,T.cl,T.n2,_,L,{_,SqL.of A},(Y2  (λr=>decide<|0<led g r) (BP _<|oA (υ (ba u) O) rfl) (λi ys H'=>Same H H'/\Paired (RcV H') ys (((ο i).filter λr=>decide<|0<led g r).map (AZ g.rc))) {Same.refl _,.nil} (λi ys H' z ⟨s,e⟩=>{SqL.of<|s _ _ A,?_}) (λi ys H' t o ⟨s,d⟩ h=>{ID s h,Paired.mapP d λv c=>RcV.keep (AL h).tk}) (λi v ys H' l b QB U=>?_) (λi v ys H' l j b=>?_) (λi v ys H' l j ⟨s,d⟩=>{s,?_}) (λys H' b p j=>?_))};rw[e.length,ε];exact υ (cr ..) (by rw[ce];exact π _);let[s,d]:=b;refine y3 {s _ _ e,T.cl,T.n6,_,l2,SW (s _ _ w) (u ▸ ((η.mp l).1)) ?_};erw[];rw[fG];exact U;let[s,d]:=b;refine u2 ?_<|y.at  (u ▸ ((η.mp l).1));intro Y v' [n,z,J,B];rw[A]at n;cases n;rw[l]at J;obtain rfl:=μ J;refine{s,?_};rw[bx,l_,ak]
 have:(([i].filter λr=>decide<|0<led g r).map (AZ g.rc))=[AZ g.rc i]:=by simp[j]
 rw[this];exact Paired.snoc d<|RcV.keep s.tk B;rw[bx,l_,ak]
 have:(([i].filter λr=>decide<|0<led g r).map (AZ g.rc))=[]:=by simp[j]
 rw[this,iq];exact d;let[s,d]:=b;rw[u]at d;exact q p _ (s.free j) (ID s j) {ys,AG,Paired.mapP d λv c=>RcV.keep (AL j).tk}
def Qj(h:MkV b v c)(q:Q (.bl<|decide<|c=some 1) H):CG K v (.int 1) H Q:=by
 cases c with
 |none=>rw[h];exact q
 |some j=>rw[h];show Q _ _;simpa using q
def Qk{b:Hp}{v:V}{c:Option Int}{Q:VK}(h:MkV b v c)(q:Q (.bl<|!decide (c=some 1)) H):DY K v (.int 1) H Q:=by
 cases c with
 |none=>rw[h];exact q
 |some j=>rw[h];show Q _ _;simpa using q
def LE{n:Nat}{p q r:yF}{f:zD}(h:∀ k,k<n->(p k&&q k)=r k):(((ο n).filter p).filter q).map f=DQ n r f:=by
 rw[Bo]
 congr 1
 refine t_ λk b=>?_;rw[Bool.and_comm];exact h k<|ao.mp b
def MR{n:Nat}{p:yF}(h:n<=100):((ο n).filter p).length<=1000:=υ (cr ..) (by rw[ce];exact oA h rfl)
def MS{n k:Nat}{p:yF}(h:k∈(ο n).filter p):k<n/\p k=true:=by
 let[h1,h2]:=di.mp h;exact{ao.mp h1,h2}
def newF.of{fs:yD}{b:Hp}(q:newF fs H Q)(s:Same H b):newF fs b Q:=λl H' c d F=>q l H' (s.free c) (s.trans d) F
def newL.of{xs:eI}{b:Hp}(q:newL xs H Q)(s:Same H b):newL xs b Q:=λl H' c d F=>q l H' (s.free c) (s.trans d) F
example:(z1a,aQ,bQ,2):=by
 apply u3;intro x A n [rfl,T,I,q];let[N,e]:=I.ob
 have B:=I.ok.bp;let[us,d,P]:=I.pm
 have l2:=I.ok.l2
 have o:=P.length;erw[bQ,bQ0_];refine y3 {e,T.cl,T.n5,_,Qg,{_,SqL.of d},SY (λp=>decide<|AZ n.pm p=some 1) d (by lia) (λi v r H' s D g=>?_) λl O U u j=>?_};refine u2 ?_<|I.pm.at  (o ▸ ((η.mp r).1));intro J Y [b,z,w,L];rw[d]at b;cases b;rw[r]at w;obtain rfl:=μ w;erw[];exact Qj L g;rw[o,l2]at j;refine .inl {{_,SqL.of j},N1 (λp=>decide<|HZ n p=0) (λp=>[.str "left",.str "piece",.int p]) j (MR B) (λk c H' s D g=>?_) (λk c hp H' Q' s M=>?_) ?_};let[c,z]:=MS c
 have y:=u.trans s;refine y3 {y _ _ e,T.cl,T.n8,_,z01,SW (y _ _ I.rh) c ?_};erw[];rw[z07];exact g;erw[];exact{by decide,M};rw[LE λk z=>rfl];exact q.of u
example:(z1b,aR,bR,2):=by
 apply u3;intro x A w [rfl,T,I,q];let[U,e]:=I.ob
 have L:=I.ok.br;let[us,g,P]:=I.rm
 have l2:=I.ok.l1
 have y:=P.length;erw[bR,bR0_];refine y3 {e,T.cl,T.n4,_,Qd,{_,SqL.of g},SY (λp=>decide<|AZ w.rm p=some 1) g (by lia) (λi v B H' s M j=>?_) λl Y DP D n=>?_};refine u2 ?_<|I.rm.at  (y ▸ ((η.mp B).1));intro o N [b,z,c,u];rw[g]at b;cases b;rw[B]at c;obtain rfl:=μ c;erw[];exact Qj u j;rw[y,l2]at n;refine .inl {{_,SqL.of n},N1 (λr=>(AZ w.rc r).isNone) (λr=>[.str "marked",.int r]) n (MR L) (λk d H' s M j=>?_) (λk d hp H' Q' s O=>?_) ?_};let[d,z]:=MS d
 have J:=D.trans s;refine u2 ?_<|(I.same J).r.at d;intro o N [b,z,c,u];refine y3 {J _ _ e,T.cl,T.n2,_,W1,CJ (SqL.of b)  rfl c ?_};erw[];rw[fF u];exact j;erw[];exact{by decide,O};rw[LE λk z=>rfl];exact q.of D
theorem N3{α b :Type}{F: α -> b ->Prop}:∀ {l c:List α} {m d:List b},Paired F l m->Paired F c d->Paired F (l++c) (m++d)
 |_,_,_,_,.nil,h=>h
 |_,_,_,_,.cons x r,h=>.cons x<|N3 r h
def D4{n:Nat}{p:yF}{f:zD}(h:n<=100):(DQ n p f).length<=100:=by
 unfold DQ;rw[ε];exact υ (cr ..) (by rw[ce];exact h)
def J6{b l2:Addr}{f1 f2:yD}{Q:VK}(h1:FindsL H b f1)(h2:FindsL H l2 f2)(i:f1.length+f2.length<=10000)(q:newF (f1++f2) H Q):A8 K (.ref b) (.ref l2) H Q:=by
 let[n,j,d]:=h2;let[o,l,g]:=h1;exact .inl (x4 b l2 _ _ {rfl,rfl,l,j,BP _ (by rw[ε,ε,g.length,d.length];exact oA i rfl),λp c=>(q p _ c (AL c) {_,by rw[AG,ak],Paired.mapP (N3 g d) λx f e=>AL c _ _ e})})
def W2(ok:EO b):(R6 b).length<=200/\(R7 b).length<=300/\(R8 b).length<=200/\(PJ b).length<=200/\(PK b).length<=100/\(PL b).length<=100:=by
 unfold R6 R7 R8 PJ PK PL;simp only[ae];exact{ua (D4 ok.bn) (D4 ok.bn),ua (ua (D4 ok.bp) (D4 ok.bp)) (D4 ok.br),ua (D4 ok.br) (D4 ok.bp),ua (D4 ok.br) (D4 ok.br),D4 ok.bp,D4 ok.br}
example:(z1c,WJ,Bm,1):=by
 apply u3;intro x A b [rfl,T,I,q];let[o,p,r,z]:=W2 I.ok;exact x3 x A b {rfl,T,I,λs u h1 c i=>x3 x A b {rfl,T,I.same c,λl2 v h2 d j=>J6 (i.same d) j (by lia) λw y h3 e l=>x3 x A b {rfl,T,I.same<|(c.trans d).trans e,λB D h4 g n=>J6 (l.same g) n (by simp only[ae];lia) (q.of<|((c.trans d).trans e).trans g)}}}
example:(z1d,aS,Bp,1):=by
 apply u3;intro x A b [rfl,T,I,q];let[z,z,z,o,p,r]:=W2 I.ok;exact x3 x A b {rfl,T,I,λs u h1 c i=>x3 x A b {rfl,T,I.same c,λl2 v h2 d j=>J6 (i.same d) j (by lia) λw y h3 e l=>x3 x A b {rfl,T,I.same<|(c.trans d).trans e,λB D h4 g n=>J6 (l.same g) n (by simp only[ae];lia) (q.of<|((c.trans d).trans e).trans g)}}}
example:(z1e,aO,cI,4):=by
 apply u3;intro x A c [rfl,T,I,q];let[dx,e]:=I.ob
 have n:=I.ok.br
 have N:=I.ok.bp;erw[cI,cI0_];refine y3 {e,T.cl,T.n6,_,fE,{_,SqL.of I.ld},SY (λp=>decide<|0<led c p) I.ld (by rw[IE,N2];exact oA n rfl) (λi v o H' s O g=>?_) λl H1 DP u w=>?_}
 have U:=(η.mp o).1;rw[IE,N2]at U;rw[WZ (P8 U)]at o;obtain rfl:=μ o;erw[];rw[fG];exact g;rw[IE,N2]at w;erw[cI1_];refine .inl {{_,SqL.of w},N1 (λr=> !decide (AZ c.rm r=some 1)) (λr=>[.str "free",.str "record",.int r]) w (MR n) (λk b H' s O g=>?_) (λk b hp H' Q' s y=>?_) ?_};let[b,z]:=MS b
 have Y:=u.trans s;refine u2 ?_ ((I.same Y).rm.at  (by rw[I.ok.l1];exact b));intro B v' [d,z,D,J];erw[C1];exact y3 {Y _ _ e,T.cl,T.n4,_,Qd,CJ (SqL.of d)  rfl D (Qk J g)};erw[];exact{by decide,y};rw[LE λk z=>rfl];intro l2 H2 DH s2 F2
 have L:=I.same<|u.trans s2;let[dx2,e2]:=L.ob;erw[cI2_];refine y2 {e2,N0 (by decide),x3 x A c {rfl,T,L,λl3 H3 hl3 M j=>(.inl {{_,SqL.of j},N1 (λp=> !decide (AZ c.pm p=some 1)) (λp=>[.str "free",.str "piece",.int p]) j (MR N) (λk b H' s O g=>?_) (λk b hp H' Q' s y=>?_) ?_})}};let[b,z]:=MS b
 have I':=(L.same M).same s;let[dx',e']:=I'.ob;refine u2 ?_ (I'.pm.at  (by rw[I.ok.l2];exact b));intro B v' [d,z,D,J];erw[C1];exact y3 {e',T.cl,T.n5,_,Qg,CJ (SqL.of d)  rfl D (Qk J g)};erw[];exact{by decide,y};rw[LE λk z=>rfl];intro l4 H4 hl4 s4 F4
 have n2:=D4 (p:=λp=>decide (0<FD c p) && !decide (AZ c.pm p=some 1)) (f:=λp=>[.str "free",.str "piece",.int p]) N
 have n1:=D4 (p:=λr=>decide (0<led c r) && !decide (AZ c.rm r=some 1)) (f:=λr=>[.str "free",.str "record",.int r]) n;exact J6 (F2.same<|M.trans s4) F4 (by omega) (q.of<|((u.trans s2).trans M).trans s4)
example:(z1f,aN,cH,4):=by
 apply u3;intro x A b [rfl,T,I,q];let[dx,e]:=I.ob
 have O:=I.ok.br
 have y:=I.ok.bp;erw[cH,cH0_];refine y2 {e,N0 (by decide),x3 x A b {rfl,T,I,λl1 H1 DP D l=>(.inl {{_,SqL.of l},N1 (λp=>decide<|1<FD b p) (λp=>[.str "shared",.int p]) l (MR y) (λk d H' s U i=>?_) (λk d Y H' Q' s n=>?_) ?_})}};let[d,z]:=MS d
 have g:=(I.same D).same s;let[o,j]:=g.ob;refine y3 {j,T.cl,T.n7,_,Qh,SW g.ng d ?_};erw[];rw[z06];exact i;erw[];exact{by decide,n};rw[LE (r:=λp=>decide<|1<FD b p) λk z=>by
  by_cases h:1<FD b k;simp[h];exact υ (by decide) h
  ·simp[h]]
 intro l2 H2 DH s2 F2
 have B:=I.same<|D.trans s2;let[dx2,e2]:=B.ob;erw[cH1_];refine y2 {e2,N0 (by decide),x3 x A b {rfl,T,B,λl3 H3 hl3 J u=>(.inl {{_,SqL.of u},N1 (λp=>(AZ b.pc p).isNone) (λp=>[.str "empty",.int p]) u (MR y) (λk d H' s U i=>?_) (λk d Y H' Q' s n=>?_) ?_})}};let[d,z]:=MS d
 have g:=(B.same J).same s;let[o,j]:=g.ob;refine u2 ?_<|g.p.at d;intro us' v' [L,z,ev,hr];refine y3 {j,T.cl,T.n3,_,z00,CJ (SqL.of L)  rfl ev ?_};erw[];rw[z03 hr];exact i;erw[];exact{by decide,n};rw[LE λk z=>rfl];intro l4 H4 hl4 s4 F4
 have M:=(B.same J).same s4;let[dx4,e4]:=M.ob;erw[cH2_];refine y2 {e4,N0 (by decide),x3 x A b {rfl,T,M,λl5 H5 hl5 N v=>(.inl {{_,SqL.of v},N1 (JW b) (λr=>[.str "few",.int r]) v (MR O) (λk d H' s U i=>?_) (λk d Y H' Q' s n=>?_) ?_})}};let[d,hs]:=MS d
 have g:=(M.same N).same s;let[o,j]:=g.ob;let[c,hc]:=cw.mp hs;refine y2 {j,N0 (by decide),x5 x A b k c {rfl,T,g,hc,x3 _ _ _ {j,T.cl,T.n6,_,fE,SW g.ld d ?_}}};unfold JW at i;rw[hc]at i;exact i;erw[];exact{by decide,n};rw[LE (r:=JW b) λk z=>by
  unfold JW;cases AZ _ k<;>simp]
 intro l6 H6 hl6 s6 F6
 have n2:=D4 (p:=λp=>decide (0<FD b p)&&(AZ b.pc p).isNone) (f:=λp=>[.str "empty",.int p]) y
 have n1:=D4 (p:=λp=>decide<|1<FD b p) (f:=λp=>[.str "shared",.int p]) y
 have n3:=D4 (p:=JW b) (f:=λr=>[.str "few",.int r]) O
 have w:=((J.trans s4).trans N).trans s6;exact J6 (F2.same w) (F4.same<|N.trans s6) (by lia) λl7 H7 hl7 s7 F7=>J6 F7 (F6.same s7) (by simp only[ae];lia) (q.of<|((D.trans s2).trans w).trans s7)
def TwoL(H:Hp)(b l2:Addr)(f1 f2:yD)(H':Hp):Prop:=SameBut (λy=>y=b\/y=l2) H H'/\FindsL H' b f1/\FindsL H' l2 f2/\b≠l2
def TwoL.same(h:TwoL H b l2 f1 f2 c)(s:Same c d):TwoL H b l2 f1 f2 d:={h.1.trans s.sb,h.2.1.same s,h.2.2.1.same s,h.2.2.2}
def z1g(h:TwoL H b l2 f1 f2 H')(i:H' t=some (.tup f)):TwoL H b l2 (f1++[f]) f2 (upd H' b<|.lst<|((h.2.1).choose++[t]).map V.ref):=by
 let[s,c,[j,l,p],n]:=h
 have k:∀ {y:Addr} {g:eI},H' y=some (.tup g)->upd H' b (.lst<|(c.choose++[t]).map V.ref) y=some _:=λe=>by rw[AJ (BI e c.choose_spec.1 (by intro z;cases z))];exact e
 exact{λy o e d=>by rw[AJ λz=>d<|.inl z];exact s _ _ e d,{_,AG,Paired.snoc (Paired.mapP c.choose_spec.2 λq g e=>k e) (k i)},{j,by rw[AJ n.symm];exact l,Paired.mapP p λq g e=>k e},n}
def TwoL.flip{b l2:Addr}{f1 f2:yD}{H':Hp}(h:TwoL H b l2 f1 f2 H'):TwoL H l2 b f2 f1 H':={h.1.wide λz=>Or.symm,h.2.2.1,h.2.1,h.2.2.2.symm}
def W8{b l2 t:Addr}{f1 f2:yD}{f:eI}{H':Hp}{Q:VK}(h:TwoL H b l2 f1 f2 H')(d:f1.length<=1000)(e:H' t=some (.tup f))(q:∀ c,TwoL H b l2 (f1++[f]) f2 c->Q .non c):FV (.ref b) [.ref t] H' Q:=by
 have:=q _<|z1g h e;refine{_,h.2.1.choose_spec.1,ω (show(h.2.1.choose.map _).length<10000 by rw[ε,h.2.1.choose_spec.2.length];exact oC d rfl) (by decide),?_};rw[ak]at this;exact this
def Ql:DQ (n+1) p f=if p n=true then DQ n p f++[f n]else DQ n p f:=by
 unfold DQ;rw[bx];split;rename_i h;simp[h];rename_i h;simp[h]
def IF(is:wH)(p:yF)(f:zD)(i:Nat):yD:=((is.take i).filter p).map f
def Qm{is:wH}{p:yF}{f:zD}{i k:Nat}(h:is[i]? =some k):IF is p f (i+1)=if p k=true then IF is p f i++[f k]else IF is p f i:=by
 unfold IF;rw[J0 h];split;rename_i h;simp[h];rename_i h;simp[h]
def Qp{is:wH}{p:yF}{f:zD}{i:Nat}(h:is.length<=1000):(IF is p f i).length<=1000:=by
 unfold IF;rw[ε];exact υ (cr ..) (by rw[cz];lia)
def ViewAt.two(I:ViewAt a b x A c)(d:Same b H)(g:b i=none)(j:b l2=none)(W:TwoL H i l2 f1 f2 H'):ViewAt a H' x A c :=
 I.same λy o e=>W.1 _ _ (d _ _ e) λz=>by
  let z||z:=z
  rw[z,g]at e;cases e;rw[z,j]at e;cases e
example:(z1h,aP,yM,5):=by
 apply u3;intro x A b [rfl,T,I,q]
 have N:=I.ok.br;refine{by decide,λn J=>{by decide,λl2 O=>?_}}
 have L:Same H (upd _ l2<|.lst []):=(AL J).trans (AL O)
 have s:=BJ AG O
 have k1:FindsL (upd (upd H n<|.lst []) l2 (.lst [])) n []:={[],by rw[AJ s,AG];rfl,.nil}
 have k2:FindsL (upd (upd H n<|.lst []) l2 (.lst [])) l2 []:={[],AG,.nil}
 have f2:=(AL J).free O;revert L k1 k2;generalize upd _ l2 _=H2;intro L k1 k2
 have I2:=I.same L;let[dx2,e2]:=I2.ob;refine y2 {e2,N0 (by decide),x3 x A b {rfl,T,I2,λl3 H3 w U B=>(.inl {{_,SqL.of B},?_})}}
 have m1:n≠l3:=λz=>by
  let[ps,e,u]:=k1;rw[z,w]at e;cases e
 have m2:l2≠l3:=λz=>by
  let[ps,e,u]:=k2;rw[z,w]at e;cases e
 have GH:=L.trans U
 let is:=(ο b.rc.length).filter λr=>(AZ b.rc r).isSome
 have D:is.length<=1000:=MR N;refine HS  (λi M H'=>TwoL H3 n l2 (IF is (GZ b) (λr=>[.str "many",.int r,.int<|led b r]) i) (IF is (λr=>decide<|led b r=0) (λr=>[.str "left",.str "record",.int r]) i) H'/\∃ y3 y4,M=[some _,some _,some _,y3,y4]) {{SameBut.refl _,k1.same U,k2.same U,s},x2 _ _ rfl} (by intro i M H' u [W,u];exact SqL.of<|W.1 _ _ B λz=>z.elim (λz=>m1 z.symm) λz=>m2 z.symm) (λi v M H' Y d=>?_) (λM H' d=>?_);let[W,y3,y4,g]:=d;subst g;unfold AS at Y;rw[ψ,ai]at Y;let[k,j,rfl]:=Y;let[hk,hsm]:=MS<|θ j
 have I':=I.two GH J f2 W;let[dx',e']:=I'.ob;let[c,hc]:=cw.mp hsm;refine x3 _ _ _ {e',T.cl,T.n6,_,fE,SW I'.ld hk ?_}
 have im:GZ b k=(decide (0<led b k)&&decide ((led b k)<c.1)):=by unfold GZ;rw[hc]
 erw[yM6_];rw[Qm j,Qm j,im];by_cases h0:led b k=0;refine F5 (congrArg _ h0) ?_;erw[yM3_];let[ps2,l,u]:=W.2.2.1;refine{.inl {rfl,_,SqL.of l},by decide,λt ht=>W8 (W.same<|AL ht).flip (Qp D) AG λH4 W4=>?_};rw[decide_eq_false (h0.symm ▸ by decide),if_pos h0];exact W4.flip;refine E6 (λz=>h0<|ca z) (y2 {e',N0 (by decide +kernel),x5 x A b k c {rfl,T,I',hc,?_}});erw[];by_cases h1:(led b k)<c.1;refine F5 h1 ?_;erw[yM4_];let[ps2,l,u]:=W.2.1;refine{.inl {rfl,_,SqL.of l},by decide,λt ht=>W8 (W.same<|AL ht) (Qp D) AG λH4 W4=>?_};rw[decide_eq_true (show 0<led b k by exact sr h0),decide_eq_true h1,if_neg h0];exact W4;refine E6 h1 ?_;rw[decide_eq_false h1,Iy,if_neg h0];exact W;let[W,y3,y4,g]:=d;subst g;rw[IE]at W
 have g1:IF is (GZ b) (λr=>[.str "many",.int r,.int<|led b r]) is.length=DQ b.rc.length (GZ b) (λr=>[.str "many",.int r,.int<|led b r]):=by
  unfold IF;rw[bz];exact LE λk u=>by
   unfold GZ;cases AZ _ k<;>simp
 have g2:IF is (λr=>decide<|led b r=0) (λr=>[.str "left",.str "record",.int r]) is.length=DQ b.rc.length (λr=>(AZ b.rc r).isSome&&decide (led b r=0)) (λr=>[.str "left",.str "record",.int r]):=by
  unfold IF;rw[bz];exact LE λk u=>rfl
 rw[g1,g2]at W
 have n1:=D4 (p:=GZ b) (f:=λr=>[.str "many",.int r,.int<|led b r]) N
 have n2:=D4 (p:=λr=>(AZ b.rc r).isSome&&decide (led b r=0)) (f:=λr=>[.str "left",.str "record",.int r]) N;exact J6 W.2.1 W.2.2.1 (by lia) (q.of λy o e=>W.1 _ _ (GH _ _ e) λz=>by
  let z||z:=z
  rw[z,J]at e;cases e;rw[z,f2]at e;cases e)
def P9(b:Vw)(i:Nat)(s:Str):Bool:=(ο i).any λj=>match AZ b.nm j with
  |none=>false
  |some d=>decide<|d.1=s
structure NmW(H3:Hp)(vw:Vw)(l1 l2 sn:Addr)(i:Nat)(lo tw:yD)(j:Nat)(H':Hp):Prop where
 s:SameBut (λy=>y=l1\/y=l2\/y=sn) H3 H'
 f1:FindsL H' l1 lo
 f2:FindsL H' l2 tw
 d:∃ kvs:cD,H' sn=some (.dK kvs)/\(∀ s:Str,(BF kvs<|.inr s).isSome=P9 vw j s)/\kvs.length<=j
def NmW.two{g:Hp}{l:Vw}{d l2 sn:Addr}{i j:Nat}{lo tw b c:yD}{H' n:Hp}(h:NmW g l d l2 sn i lo tw j H')(o:sn≠d)(p:sn≠l2)(W:TwoL H' d l2 b c n):NmW g l d l2 sn i b c j n:=by
 let[kvs,e,r]:=h.d;exact{h.s.trans<|W.1.wide λy z=>z.elim .inl λz=>.inr<|.inl z,W.2.1,W.2.2.1,{_,W.1 _ _ e λz=>z.elim o p,r}}
def NmW.same{b:Hp}{c:Vw}{d l2 sn:Addr}{i j:Nat}{lo tw:yD}{H' g:Hp}(h:NmW b c d l2 sn i lo tw j H')(s:Same H' g):NmW b c d l2 sn i lo tw j g:=by
 let[kvs,e,r]:=h.d;exact{h.s.trans s.sb,h.f1.same s,h.f2.same s,{_,s _ _ e,r}}
example:(z1i,aM,vY,6):=by
  apply u3;intro x A b [rfl,T,I,q]
  have bn:=I.ok.bn;refine{by decide,λl DP=>{by decide,λl2 DH sn L=>?_}}
  have n12:=BJ AG DH
  have s2:Same H (upd _ l2<|.lst []):=(AL DP).trans (AL DH)
  have k1:FindsL (upd (upd H l<|.lst []) l2 (.lst [])) l []:={[],by rw[AJ n12,AG];rfl,.nil}
  have k2:FindsL (upd (upd H l<|.lst []) l2 (.lst [])) l2 []:={[],AG,.nil}
  have f2:=(AL DP).free DH;revert L s2 k1 k2;generalize upd _ l2 _=H2;intro L s2 k1 k2
  have fsn:=s2.free L;let[H3,zz0,s3,e3]:=EI  L;rw[zz0]
  have GH:=s2.trans s3
  have I3:=I.same GH;let[dx3,ob3]:=I3.ob;let[us,en,P]:=I3.n
  have hl:=P.length;refine y3 {ob3,T.cl,T.n1,_,z0z,{_,SqL.of en},?_}
  have m1:sn≠l:=λz=>by
    let[ps,e,_]:=k1;rw[<-z,L]at e;cases e
  have m2:sn≠l2:=λz=>by
    let[ps,e,_]:=k2;rw[<-z,L]at e;cases e
  have vi:∀ {H':Hp} {i j:Nat} {lo tw:List _},NmW H3 b l l2 sn i lo tw j H'->ViewAt a H' x A b:=λh=>I.same λy o e=>h.s _ _ (GH _ _ e) λz=>by
    let z||z||z:=z
    rw[z,DP]at e;cases e;rw[z,f2]at e;cases e;rw[z,fsn]at e;cases e
  have nA:A.n≠l/\A.n≠l2/\A.n≠sn:=by
    let[us',e0,_]:=I.n;exact{λz=>(by rw[z,DP]at e0;cases e0),λz=>(by rw[z,f2]at e0;cases e0),λz=>(by rw[z,fsn]at e0;cases e0)}
  let w:=λi=>DQ i (IA b) (λk=>[.str "lost",.int k])
  let B:=λi=>DQ i (IV b) (λk=>[.str "twice",.int k])
  refine YX  (λi M H'=>NmW H3 b l l2 sn i (w i) (B i) i H'/\∃ y4 y5,M=[some (.ref x),some<|.ref l,some<|.ref l2,some<|.ref sn,y4,y5]) {{SameBut.refl _,k1.same s3,k2.same s3,[],e3,λ_=>rfl,π _},x2 _ _ rfl} (λi M H' _ ⟨W,_⟩=>SqL.of<|W.s _ _ en λz=>z.elim nA.1 λz=>z.elim nA.2.1 nA.2.2) (λi v M H' t hx hzz ht=>?_) (λM H' hzz=>?_);let[W0,y4,y5,eσ]:=hzz;subst eσ
  have hi:=(η.mp hx).1;erw[];refine{_,SqT.of AG,rfl,?_}
  have W:=W0.same<|AL (o:=.tup [.int (i:Int),v]) ht;revert W;generalize upd H' t (.tup [.int (i:Int),v])=H4;intro W
  have I4:=vi W;let[dx4,ob4]:=I4.ob;refine u2 ?_<|I4.n.at (k:=i) (hl ▸ hi);intro us' v' [e1',_,ev,hr];rw[W.s _ _ en (λz=>z.elim nA.1 λz=>z.elim nA.2.1 nA.2.2)]at e1';cases e1';rw[hx]at ev;have bi:i<=100:=by lia
  obtain rfl:=μ ev
  have hLO:w (i+1)=if IA b i=true then w i++[[.str "lost",.int i]]else w i:=Ql
  have hTW:B (i+1)=if IV b i=true then B i++[[.str "twice",.int i]]else B i:=Ql
  have n1:(w i).length<=100:=D4 bi
  have n2:(B i).length<=100:=D4 bi
  have sS:∀ s:Str,P9 b (i+1) s=(P9 b i s||match AZ b.nm i with
    |none=>false
    |some d=>decide<|d.1=s):=λs=>by
    unfold P9;rw[bx,HJ];simp
  erw[vY8_];cases D:AZ b.nm i with
  |none =>
    rw[D]at hr;refine E6 (λz=>z hr) ?_
    have z1:IA b i=false:=by unfold IA;rw[D]
    have z2:IV b i=false:=by unfold IV;rw[D]
    rw[hLO,hTW,z1,z2,if_neg ay,if_neg ay];let[kvs,ek,hv,JA]:=W.d;exact{W.s,W.f1,W.f2,kvs,ek,λs=>by rw[hv,sS,D,pq],ck JA}
  | some c =>
    rw[D]at hr;let[p,rfl,hp]:=hr;refine F5 (by simp) ?_
    have hm:some c∈b.nm:=by
      unfold AZ at D;cases e2:b.nm[i]? with
      |none=>rw[e2]at D;cases D
      |some y =>
        rw[e2]at D
        have D:y=some c:=D;exact D ▸ θ e2
    have hcr:=(I.ok.n1 c hm).1
    have z1:IA b i=(AZ b.rc c.2).isNone:=by unfold IA;rw[D]
    have z2:IV b i=P9 b i c.1:=by unfold IV P9;simp only[D]<;>rfl
    have tail:∀ {H5:Hp},NmW H3 b l l2 sn i (w<|i+1) (B i) i H5->H5 p=some (.tup [.str c.1,.int c.2])->AH (vY6 K a (λ_=>E) (λ_=>E)) (vY7 K a (λ_=>E) (λ_=>E)) { nx:=λM H'=>NmW H3 b l l2 sn (i+1) (w<|i+1) (B<|i+1) (i+1) H'/\∃ y4 y5,M=[some (V.ref x),some<|V.ref l,some<|V.ref l2,some<|V.ref sn,y4,y5],rt:=Q,bk:=vY10 K a (λx=>E) (λx=>E) (AW Q),ct:=λM H'=>NmW H3 b l l2 sn (i+1) (w<|i+1) (B<|i+1) (i+1) H'/\∃ y4 y5,M=[some (V.ref x),some<|V.ref l,some<|V.ref l2,some<|V.ref sn,y4,y5] } [some (V.ref x),some<|V.ref l,some<|V.ref l2,some<|V.ref sn,some<|V.int ↑i,some<|V.ref p] H5:=λ{H5} W5 N=>by
      have last:∀ {U:Hp},NmW H3 b l l2 sn i (w<|i+1) (B<|i+1) i U->U p=some (.tup [.str c.1,.int c.2])->vY7 K a (λ_=>E) (λ_=>E) { nx:=λM H'=>NmW H3 b l l2 sn (i+1) (w<|i+1) (B<|i+1) (i+1) H'/\∃ y4 y5,M=[some (V.ref x),some<|V.ref l,some<|V.ref l2,some<|V.ref sn,y4,y5],rt:=Q,bk:=vY10 K a (λx=>E) (λx=>E) (AW Q),ct:=λM H'=>NmW H3 b l l2 sn (i+1) (w<|i+1) (B<|i+1) (i+1) H'/\∃ y4 y5,M=[some (V.ref x),some<|V.ref l,some<|V.ref l2,some<|V.ref sn,y4,y5] } [some (V.ref x),some<|V.ref l,some<|V.ref l2,some<|V.ref sn,some<|V.int ↑i,some<|V.ref p] U:=λ{U} Y hp6=>by
        let[kvs,ek,hv,JA]:=Y.d;erw[vY7_];refine BU hp6 (n:=0) rfl rfl {_,pS ek (by lia),?_}
        have s7:SameBut (· =sn) U (upd U sn<|.dK<|CF kvs (.inr c.1) (.bl true)):=λy o e ny=>by rw[AJ ny];exact e
        let[q1,g1,P1]:=Y.f1;let[q2,g2,P2]:=Y.f2
        have kt:∀ {y:Addr} {g:eI},U y=some (.tup g)->upd U sn (.dK<|CF kvs (.inr c.1) (.bl true)) y=some (.tup g):=λe=>s7 _ _ e (BI e ek (by intro z;cases z));refine{Y.s.trans<|s7.wide λy z=>.inr<|.inr z,{q1,s7 _ _ g1 m1.symm,Paired.mapP P1 λq g e=>kt e},{q2,s7 _ _ g2 m2.symm,Paired.mapP P2 λq g e=>kt e},_,AG,λs=>?_,?_}
        · rw[IM,sS,D,<-hv]
          by_cases z:s=c.1
          ·subst z;simp
          · rw[if_neg (by simpa using z)]
            have:decide (c.1=s)=false:=by simpa using λu=>z<|Aa u
            simp only[this,pq]
        · have:=JI kvs (.inr c.1) (.bl true)
          lia
      let[kvs,ek,hv,JA]:=W5.d;erw[vY6_];refine BU N (n:=0) rfl rfl {_,dS ek,?_};rw[hv,<-z2];cases hz:IV b i with
      | true =>
        refine F5 rfl ?_;erw[vY5_];let[ps2,ep2,_]:=W5.f2;refine{.inl {rfl,_,SqL.of ep2},by decide,λt2 O=>?_}
        have J:=W5.same<|AL (o:=.tup [V.str (ζ "twice"),V.int ↑i]) O;refine W8 (H:=upd H5 t2<|.tup [V.str (ζ "twice"),V.int ↑i]) (l2:=l) (f2:=w<|i+1) {SameBut.refl _,J.f2,J.f1,n12.symm} (by lia) AG λU Y=>?_
        have W7:=J.two m1 m2 Y.flip;rw[show B i++[[V.str (ζ "twice"),V.int ↑i]]=B (i+1) by rw[hTW,hz,if_pos rfl]]at W7;exact last W7 (Y.1 _ _ (AL O _ _ N) λz=>by
          let z||z:=z
          · let[ps,e,_]:=W5.f2
            rw[<-z,N]at e;cases e
          · let[ps,e,_]:=W5.f1
            rw[<-z,N]at e;cases e)
      |false =>
        refine E6 ay ?_;rw[show B i=B (i+1) by rw[hTW,hz,if_neg ay]]at W5;exact last W5 N
    refine u2 ?_<|I4.r.at hcr;intro us2 v2 [e2,_,ev2,MY];erw[vY4_];refine y3 {ob4,T.cl,T.n2,_,W1,BU hp (n:=1) rfl rfl (CJ (SqL.of e2) (n:=c.2) rfl ev2 ?_)};erw[]
    have KH:=fF MY;by_cases hz:v2=.non
    · refine F5 hz ?_
      have hz':IA b i=true:=by rw[z1,<-KH];simpa using hz
      erw[vY3_];let[ps2,ep2,_]:=W.f1;refine{.inl {rfl,_,SqL.of ep2},by decide,λt2 O=>?_}
      have J:=W.same<|AL (o:=.tup [V.str (ζ "lost"),V.int ↑i]) O;refine W8 (H:=upd H4 t2<|.tup [V.str (ζ "lost"),V.int ↑i]) (l2:=l2) (f2:=B i) {SameBut.refl _,J.f1,J.f2,n12} (by lia) AG λU Y=>?_
      have W7:=J.two m1 m2 Y;rw[show w i++[[V.str (ζ "lost"),V.int ↑i]]=w (i+1) by rw[hLO,hz',if_pos rfl]]at W7;exact tail W7 (Y.1 _ _ (AL O _ _ hp) λz=>by
          let z||z:=z
          · let[ps,e,_]:=W.f1
            rw[<-z,hp]at e;cases e
          · let[ps,e,_]:=W.f2
            rw[<-z,hp]at e;cases e)
    · refine E6 hz ?_
      have hz':IA b i=false:=by rw[z1,<-KH];simpa using hz
      rw[show w i=w (i+1) by rw[hLO,hz',if_neg ay]]at W;exact tail W hp
  let[W,y4,y5,eσ]:=hzz;subst eσ;rw[hl]at W;exact J6 W.f1 W.f2 (by have:=D4 (p:=IA b) (f:=λk=>[.str "lost",.int k]) bn;have:=D4 (p:=IV b) (f:=λk=>[.str "twice",.int k]) bn;show(DQ _ _ _).length+(DQ _ _ _).length<=_;lia) (q.of λy o e=>W.s _ _ (GH _ _ e) λz=>by
    let z||z||z:=z
    ·rw[z,DP]at e;cases e
    ·rw[z,f2]at e;cases e
    ·rw[z,fsn]at e;cases e)
def z1j{n b:Nat}(h:b<n):HP n (b:Int)=some b:=by
 unfold HP;rw[if_pos (i0),if_pos<|c_.mpr h,cj]
theorem LF{α b :Type}{F: α -> b ->Prop}:∀ {l:List α} {m:List b} {i:Nat} {x: α},Paired F l m->l[i]? =some x->∃ y,m[i]? =some y/\F x y
 |_,_,_,_,.nil,h=>by simp at h
 |_,_,0,_,.cons h _,e=>by obtain rfl:=μ e;exact⟨_,rfl,h⟩
 |_,_,i+1,_,.cons _ r,e=>by
  let[y,h1,h2]:=LF  r (e);exact⟨y,h1,h2⟩
example:(z1k,MI,Bq,2):=by
 apply u8;intro O T pl w rows m ts ps [rfl,TP,P,n,o,j,U,q]
 have r:=o.length;refine .inl {{_,SqL.of n},tS  (BP _ (by rw[ε];exact oA (υ (ba r) U) rfl)) (λi b ys H'=>Same H H'/\ys=(ps.take i).map (λc=>MH rows c.1 c.2)/\∃ u A,b=[u,A,some _]) {Same.refl _,rfl,x2 _ _ rfl} (λi b ys H' ⟨s,e,_⟩=>{SqL.of<|s _ _ n,by rw[e,ε,cz];lia}) (λi x b ys H' B D d=>?_) (λb ys H' d p I=>?_)};let[s,e,u,A,l]:=d;subst l;rw[ε]at B;rw[ψ,ai]at D;let[t,Y,rfl]:=D;let[c,g,et]:=LF o Y
 have hb:=j c<|θ g
 have J:=P.same s;let[dp,N6]:=J.ob;erw[];refine{_,SqT.of<|s _ _ et,rfl,y2 {rfl,y2 {rfl,rfl,({λy L=>Same H L/\y=MH rows c.1 c.2,λy L ⟨s4,ey⟩=>cnx (by rw[ε];exact B) {s4,?_},y2 {N6,NX _ _ _,x6 O T w _ m _ {rfl,TP,J,λb' row eb M l1 DP=>?_,λz=>by lia}}})}}};rw[ey,e,J0 g,ak]
 rfl;obtain rfl:c.1=b':=ca eb
 have N:=ι   (ω hb.2<|ba (P.wd _<|θ M).symm);refine CJ (SqL.of AG)  rfl N {ID s DP,?_};unfold MH;rw[M]
 show _=(row[c.2]?).getD _;rw[N];rfl;let[s,e,v]:=d;rw[ε,r,bz]at e;subst e;exact q p _ (s.free I) (ID s I) AG
example:(z1l,R9,bS,4):=by
 apply u3;intro many nl I [rfl,g,u,J,L,q];erw[bS,bS0_]
 have M:(ο many).map (λx=>V.int 0)=AS ((ο many).map λk=>([]).count k):=by
  unfold AS;rw[jh]
  rfl
 refine{i0,by lia,ze6 (BP _<|oA J rfl) (λx=>V.int 0) (λj d O N=>N) λl w=>?_};rw[M]
 have p:=AL (o:=.lst<|AS<|(ο many).map λk=>([]).count k) w
 have A:upd H l _ l=some (.lst<|AS<|(ο many).map λk=>([]).count k):=AG;revert p A;refine λp A=>.inl {{_,SqL.of<|p _ _ g},HS  (λi r H'=>(Same H H'/\H' l=some (.lst<|AS<|(ο _).map λk=>(I.take i).count k))/\∃ y,r=[some _,some _,some _,y]) {⟨p,A⟩,_,rfl} (by intro i r H' x [[s,x],x];exact SqL.of<|s _ _ g) (λi v r H' B b=>?_) (λr H' b=>?_)};let[[s,e],y,c]:=b;subst c;unfold AS at B;rw[ψ,ai]at B;let[k,n,rfl]:=B
 have D:=u k<|θ n;erw[bS1_];refine x2 _ k {rfl,SqL.of e,_,WZ<|P8 D,?_};erw[];refine x4 l _ _ k {rfl,rfl,e,z1j (by rw[IE,N2];exact D),λy o e=>by rw[AJ (BJ e w)];exact s _ _ e,?_};rw[AG]
 congr 2
 unfold AS;refine xc λj=>?_;by_cases d:j<many;rw[ψ,P8 d,J0 n,List.count_append];by_cases z:k=j;subst z;rw[gk (by simpa using d)];simp;rw[ia z,ψ,P8 d]
 have:List.count j [k]=0:=by simp[z]
 rw[this]
 rfl;rw[bd (by simp;exact cm d),bd (by simp;exact cm d)];let[[s,e],y,c]:=b;subst c;rw[IE,bz]at e;exact q l _ w s e
example:(z1m,WG,wA,3):=by
 apply u2;intro rl cs [rfl,[us,u,P],J,w,q]
 have L:=P.length;refine{by decide,λl b=>?_}
 have j:=AL (o:=.lst []) b
 have r:upd H l _ l=some (.lst<|AS<|FC []):=AG;revert j r
 have M:∀ i,(FC<|cs.take i).length<=i * 20:=λi=>by
  induction i with
  |zero=>exact π _
  | succ i A =>
   cases e:cs[i]? with
   |none =>
    rw[dv (ck<|pe.mp e)];rw[dv ((pe.mp e))]at A
    lia
   | some c =>
    rw[J0 e];unfold FC at A ⊢;rw[List.flatMap_append,ae]
    have:(List.flatMap MF [c]).length<=20:=by
     cases c with
     |none=>simp[MF]
     |some c =>
      simp[MF];exact w c<|θ e
    lia
 refine λj r=>.inl {{_,SqL.of<|j _ _ u},HS  (λi n H'=>(Same H H'/\H' l=some (.lst<|AS<|FC<|cs.take i))/\∃ y,n=[some _,some _,y]) {⟨j,r⟩,_,rfl} (by intro i n H' x [[s,x],x];exact SqL.of<|s _ _ u) (λi v n H' B d=>?_) (λn H' d=>?_)};let[[s,e],y,g]:=d;subst g;let[c,D,I]:=LF P B
 have N:=M i
 have O:FC (cs.take<|i+1)=FC (cs.take i)++MF c:=by
  rw[J0 D];unfold FC;simp
 have T:=(η.mp B).1;rw[O];erw[wA2_];cases c with
 |none =>
  refine E6 (λz=>z I) ?_;rw[show MF _=[]from rfl,iq];exact⟨s,e⟩
 |some c =>
  revert I;apply u2;intro p t [rfl,h1,h2]
  have U:=w c<|θ D;erw[wA1_];refine{.inl {rfl,_,SqL.of e},BU (s _ _ h1)  rfl rfl (x4 l t _ _ {rfl,rfl,e,SqT.of<|s _ _ h2,BP _ (by rw[IE,IE];lia),{λy o e=>by rw[AJ (BJ e b)];exact s _ _ e,?_}})};rw[AG];unfold AS;rw[ak]
  rfl
 let[[s,e],y,g]:=d;subst g;rw[L,bz]at e;exact q l _ b s e
def IG{α :Type}{l b:List α}{a k:Nat}(h:l.length=a):(l++b)[a+k]? =b[k]? :=by
 subst h;rw[b_ (ui _ _),Nat.add_sub_cancel_left]
theorem W9:∀ {rows:yD} {b j:Nat},(∀ r∈rows,r.length=w)->b<rows.length->j<w->rows.flatten[b*w+j]? =(rows[b]?).bind (·[j]?)
 | [],b,j,_,c,_=>by simp at c
 |r::e,0,j,h,_,d=>by
  rw[vm,kg,ii,bc<|ω d<|ba (h r χ).symm]
  rfl
 |r::e,b+1,j,h,c,d=>by
  rw[tm,tq<|b*w,dz,ii,IG<|h r χ,W9 (λr g=>h r<|τ _ g) (by simpa using c) d]
  rfl
def Qq(h:∀ r∈rows,r.length=w)(c:1<=w)(d:k<n*w)(i:b+n<=rows.length):(rows.flatten[b*w+k]?)=some (MH rows (b+k/w) (k%w))/\b+k/w<rows.length/\k%w<w:=by
 have h2:k%w<w:=sq _<|c
 have h1:=kh (by rw[da];exact d)
 have e:b*w+k=(b+k/w)*w+k%w:=by
  rw[dw,dz,Go]
 refine{?_,by lia,h2};rw[e,W9 h (by lia) h2];unfold MH
 have g:b+k/w<rows.length:=by lia
 rw[ι _]
 show(rows[b+k/w])[k%w]? =some (((rows[b+k/w])[k%w]?).getD _);rw[ι (ω h2<|ba (h _<|uj _).symm)]
 rfl
def z1n(h:∀ r∈rows,r.length=w)(g:1<=w)(i:b+n<=rows.length)(e:rows.flatten=pre++vs++post)(j:pre.length=b*w)(d:vs.length=n*w):(ο<|n*w).map (λk=>MH rows (b+k/w) (k%w))=vs:=by
 refine xc λk=>?_;by_cases c:k<n*w
 ·rw[ψ,vd c]
  show some _=_;rw[<-((Qq h g c i).1),e,dk,IG j,bc<|d ▸ c]
 ·rw[bd (by simp;exact cm c),bd<|d ▸ cm c]
def z1o(q:N<=1000)
  (he:∀ k,k<N->∀ H' (n:VK),Same H H'->(∀ t,H' t=none->n (.ref t) (upd H' t<|.tup [.int ((b+k/w:Nat):Int),.int ((k%w:Nat):Int)]))->r (some (.int (k:Int))::C1 u v) H' n)
  (hd:∀ (j:Addr) (c:eF) (H':Hp),H j=none->Same H H'->H' j=some (.lst<|c.map V.ref)->Paired (λt (d:Nat × Nat)=>H' t=some (.tup [.int d.1,.int d.2])) c ((ο N).map λk=>(b+k/w,k%w))->Q (.ref j) H'):EN (FR 0 N) (AF 0) CQ r 1 u v H Q:=by
 refine NF (BP _<|oA q rfl) (λi ys H'=>Same H H'/\∃ c:List _,ys=c.map V.ref/\Paired (λt (d:Nat × Nat)=>H' t=some (.tup [.int d.1,.int d.2])) c ((ο i).map λk=>(b+k/w,k%w))) {Same.refl _,[],rfl,.nil} (λi ys H' x z g=>?_) (λys H' z g p l=>?_);let[s,c,e,P]:=g;rw[vj];refine he i x H' _ s λt o=>{ID s o,c++[t],by rw[e,ak];rfl,?_}
 rw[bx,ak];exact Paired.snoc (Paired.mapP P λt d e=>AL o _ _ e) AG;let[s,c,rfl,P]:=g;exact hd p c _ (s.free l) (ID s l) AG (Paired.mapP P λt d e=>AL l _ _ e)
def SZ{n b w m:Nat}{d l:Addr}{rows:yD}{o:TE}{p:wH}{r:St}{u:VK}{pre us post:eI}(TP:D0 K a)(P:PlankAt a H d l w rows m)(x:1<=w)(c:n*w<=1000)(y:b+n<=rows.length)(e:rows.flatten=pre++us++post)(A:pre.length=b*w)(B:us.length=n*w)
  (he:∀ k,k<n*w->∀ H' (z:VK),Same H H'->(∀ t,H' t=none->z (.ref t) (upd H' t<|.tup [.int ((b+k/w:Nat):Int),.int ((k%w:Nat):Int)]))->o (some (.int (k:Int))::C1 p r) H' z)
  (q:newL us H u):EN (FR 0<|n*w) (AF 0) CQ o 1 p r H (λv D=>MI K a [.ref d,v] D u E):=by
 refine z1o c he λI J H' N s g L=>(x8 d l I w _ m J _ {rfl,TP,P.same s,g,L,λi j=>?_,by rw[ε,ce];exact c,?_})
 let[k,M,rfl]:=a_.mp j;exact(Qq P.wd x (ao.mp M) y).2;rw[jh,show((ο _).map ((λi:Nat × Nat=>MH _ i.1 i.2) ∘ λk=>(b+k/w,k%w)))=us from(z1n P.wd x y e A B)];exact q.of s
section
variable{u1 u2 u3 u4 u5 u6:V}{rest:cC}
def z1p:(("name_values",u1)::rest:cC).lookup ("name_values":Str)=some u1:=rfl
def Qv:(("name_values",u1)::("record_values",u2)::rest:cC).lookup ("record_values":Str)=some u2:=by
 simp[au,BB (a:="record_values") (b:="name_values") (by decide)]
def z1q:(("name_values",u1)::("record_values",u2)::("piece_values",u3)::("record_marks",u4)::("piece_marks",u5)::("leads",u6)::rest:cC).lookup ("leads":Str)=some u6:=by
 simp[au,BB (a:="leads") (b:="name_values") (by decide),BB (a:="leads") (b:="record_values") (by decide),BB (a:="leads") (b:="piece_values") (by decide),BB (a:="leads") (b:="record_marks") (by decide),BB (a:="leads") (b:="piece_marks") (by decide)]
end
def QC(b:eG)(as:eF):cC:=List.zipWith (λk l=>(k,V.ref l)) b as
theorem Qw:∀ {c:eG} {as:eF},c.length=as.length->c.all (λg=> !D9 g f)=true->BO f (.ref l) (QC c as)=QC (c++[f]) (as++[l])
 | [],[],_,_=>rfl
 |k::c,b::as,h,e=>by
  simp only[uv,bv,xf]at e
  show BO f _ ((k,V.ref b)::QC c as)=_;rw[OV e.1,Qw (Kn h) e.2]
  rfl
structure VI(C:Addr)(H H':Hp)(x dx:Addr)(ks:eG)(as:eF)(ls:List (Addr × HO)):Prop where
 ob:H' x=some (.ins C dx<|QC ks as)
 s:SameBut (· =x) H H'
 al:∀ p∈ls,H' p.1=some p.2/\p.1≠x
section
variable{C x dx l:Addr}{ks:eG}{as:eF}{ls:List (Addr × HO)}{H1 H2:Hp}{o:HO}
def VI.same(I:VI C H H1 x dx ks as ls)(s:Same H1 H2):VI C H H2 x dx ks as ls:={s _ _ I.ob,I.s.trans s.sb,λp b=>{s _ _ (I.al p b).1,(I.al p b).2}}
def VI.add(I:VI C H H1 x dx ks as ls)(e:H1 l=some o)(no:∀ D d f,o≠.ins D d f:=by intro y y y z;cases z):VI C H H1 x dx ks as ((l,o)::ls):=⟨I.ob,I.s,λp b=>by
 let rfl||b:=af.mp b
 exact{e,λz=>by rw[show l=x from z,I.ob]at e;exact no _ _ _ (μ e).symm};exact I.al p b⟩
def VI.new(I:VI C H H1 x dx ks as ls)(h:H1 l=none)(no:∀ D d f,o≠.ins D d f:=by intro y y y z;cases z):VI C H (upd H1 l o) x dx ks as ((l,o)::ls):=(I.same<|AL h).add AG no
def VI.put{f:Str}{P:Hp->Prop}(I:VI C H H1 x dx ks as ls)(T:Cls K C)(j:NoAttr K C f)(q:∀ i,VI C H i x dx (ks++[f]) (as++[l]) ls->P i)(n:ks.length=as.length:=by rfl)(hf:ks.all (λg=> !D9 g f)=true:=by decide +kernel)(h9:ks.length<1000:=by decide) :
  ∃ D d b,H1 x=some (.ins D d b)/\Cls K D/\NoAttr K D f/\b.length<1000/\P (upd H1 x<|.ins D d<|BO f (.ref l) b) :=
 {_,_,_,I.ob,T,j,cg (by unfold QC;rw[List.length_zipWith];exact Nat.min_le_left _ _) h9,q _ {by rw[AG,Qw n hf],I.s.trans λy o e r=>by rw[AJ r];exact e,λp c=>{by rw[AJ (I.al p c).2];exact(I.al p c).1,(I.al p c).2}}}
end
def S0{b k w:Nat}{z:Int}{Q:VK}(hz:z=b)(q:∀ t,H t=none->Q (.ref t) (upd H t<|.tup [.int ((b+k/w:Nat):Int),.int ((k%w:Nat):Int)])):HD (z+(k:Int)/(w:Int)) ((k:Int)%(w:Int)) Q H:=by
 have c:z+k/w=((b+k/w:Nat)):=by rw[hz];simp
 rw[c];exact q
def PlankAt.off{c:Hp}{b d x j C:Addr}{w m:Nat}{rows:yD}{fs:cC}(P:PlankAt a H b d w rows m)(g:H x=some (.ins C j fs))(l:b≠x)(s:SameBut (· =x) H c):PlankAt a c b d w rows m:=by
 let[[n,o],[p,i,q],u,v,y]:=P;exact{{n,s _ _ o l},{p,s _ _ i (BI i g (by intro z;cases z)),Paired.mapP q λt r e=>s _ _ e (BI e g (by intro z;cases z))},u,v,y}
example:(z1r,SD,Dl,6):=by
 apply QN;intro x dx ly gp cl n r c w rows m A [rfl,T,TL,TP,hx,L,P,LH,[[v1,D,v3,v4,v5,ef,P1,P2,P3,P4,P5],ln,lr,N,ok],q];let[dl,JB]:=L.ob;let[u,b1,b2,b3,b4,b5]:=id L
 have q1:=P1.length
 have q3:=P3.length
 have q2:=P2.length
 have q4:=P4.length
 have ok1:=ok.l1
 have q5:=P5.length
 have ok2:=ok.l2
 have br:=ok.br
 have bp:=ok.bp
 have bn:=ok.bn;refine y2 {JB,B0 (by decide +kernel),x5 ly n r c w {rfl,TL,L,λt ht=>?_}};let[H1,zz0,s1,et]:=EI (o:=.tup [.int ((n:Int)*w),.int<|(r:Int)*w,.int<|(c:Int)*w]) ht;rw[zz0];refine BU et (n:=1) rfl rfl (BU et (n:=2) rfl rfl ?_);erw[Dl3_];refine BU et (n:=0) rfl rfl ?_
 have cn:∀ k:Nat,((k:Int)*w)=((k*w:Nat):Int):=λk=>by simp
 have ngx:gp≠x:=λz=>by
  let[dp,e]:=P.ob;rw[z,hx]at e
  have e:=(HO.ins.inj<|μ e).2.2;simp[pf]at e
 have nlx:ly≠x:=λz=>by
  rw[z,hx]at JB
  have JB:=(HO.ins.inj<|μ JB).2.2;simp[lf]at JB
 have L':∀ {H':Hp},SameBut (· =x) H H'->LayAt a H' ly n r c w:=λs=>L.sb s nlx
 have V1:VI (a "View") H H1 x dx [] [] []:={s1 _ _ hx,s1.sb,λp J=>by cases J}
 have P':∀ {H':Hp},SameBut (· =x) H H'->PlankAt a H' gp cl w rows m:=λs=>P.off hx ngx s;rw[cn n,cn r,cn c];refine{i0,by lia,?_};refine SZ (n:=n) (b:=0) (us:=v1) (pre:=[]) (post:=D++v3++v4++v5) TP (P' V1.s) b4 (oA (υ (ba ln.symm) bn) rfl) (by lia) (by rw[ef];simp) (by simp) (ln ▸ q1) (λk j H' Q' s O=>?_) λan H2 han s2 ean=>((V1.same s2).add ean).put T.cl T.n1 λH3 V2=>?_
 have B:=L'<|V1.s.trans s.sb;let[U,g]:=B.ob;exact y2 {g,B0 (by decide +kernel),x6 ly n r c w k {rfl,TL,B,S0 (by simp) O}};erw[Dl4_];refine{i0,by lia,SZ (n:=r) (b:=n) (us:=D) (pre:=v1) (post:=v3++v4++v5) TP (P' V2.s) b4 (by lia) (by lia) (by simp[ef]) (by first|(simp only[ae,dw];lia)|exact ln ▸ q1) (lr ▸ q2) (λk j H' Q' s O=>?_) λar H4 h4 s4 e4=>((V2.same s4).add e4).put T.cl T.n2 λH5 V3=>?_}
 have B:=L'<|V2.s.trans s.sb;let[U,g]:=B.ob;exact y2 {g,B0 (by decide +kernel),x6 ly n r c w k {rfl,TL,B,S0 (by simp) O}};erw[Dl5_];refine{i0,by lia,SZ (n:=c) (b:=n+r) (us:=v3) (pre:=v1++D) (post:=v4++v5) TP (P' V3.s) b4 (oA (υ (ba N.symm) bp) rfl) (by lia) (by simp[ef]) (by first|(simp only[ae,dw];lia)|lia) (N ▸ q3) (λk j H' Q' s O=>?_) λap H4 h4 s4 e4=>((V3.same s4).add e4).put T.cl T.n3 λH5 V4=>?_}
 have B:=L'<|V3.s.trans s.sb;let[U,g]:=B.ob;exact y2 {g,B0 (by decide +kernel),x6 ly n r c w k {rfl,TL,B,S0 (by simp) O}};erw[Dl6_];refine{i0,by lia,SZ (n:=r) (b:=n+r+c) (us:=v4) (pre:=v1++D++v3) (post:=v5) TP (P' V4.s) b4 (by lia) (by lia) (by simp[ef]) (by first|(simp only[ae,dw];lia)|lia) (by lia) (λk j H' Q' s O=>?_) λam H4 h4 s4 e4=>((V4.same s4).add e4).put T.cl T.n4 λH5 V5=>?_}
 have B:=L'<|V4.s.trans s.sb;let[U,g]:=B.ob;exact y2 {g,B0 (by decide +kernel),x6 ly n r c w k {rfl,TL,B,S0 (by simp) O}};erw[Dl7_];refine{i0,by lia,SZ (n:=c) (b:=n+r+c+r) (us:=v5) (pre:=v1++D++v3++v4) (post:=[]) TP (P' V5.s) b4 (oA (υ (ba N.symm) bp) rfl) (ba LH.symm) (by simp[ef]) (by first|(simp only[ae,dw];lia)|lia) (by lia) (λk j H' Q' s O=>?_) λaq H4 h4 s4 e4=>((V5.same s4).add e4).put T.cl T.n5 λH5 V6=>?_}
 have B:=L'<|V5.s.trans s.sb;let[U,g]:=B.ob;exact y2 {g,B0 (by decide +kernel),x6 ly n r c w k {rfl,TL,B,S0 (by simp) O}};erw[Dl8_]
 have P1':=Paired.mapP P1 λv c=>NmV.keep λy xs e=>V6.s _ _ e (BI e hx (by intro z;cases z))
 have ean2:=(V6.al (an,.lst v1) (by simp)).1;refine y3 {V6.ob,T.cl,T.n1,_,z1p,.inl {{_,SqL.of ean2},(t5 (xs:=v1) (λi=>(AZ A.nm i).isSome) (BP _<|oA (υ (ba q1) bn) rfl) (λi ys H'=>H'=H5/\ys=AS (NR<|A.nm.take i)) ⟨rfl,rfl⟩ (λi ys H' u ⟨e,e'⟩=>{e ▸ SqL.of ean2,?_}) (λi v ys H' hv Y QB qb=>?_) (λi v ys H' hv J Y=>?_) (λi v ys H' hv J ⟨e,e'⟩=>{e,?_}) (λys H' Y p J=>?_))}};rw[e',IE];exact υ (gy ..) (by rw[cz];lia);let[c',ec,hr]:=LF P1' hv;erw[];rw[z02 hr];unfold AZ at qb;rw[ec]at qb;simpa using qb;let[rfl,e']:=Y;let[c',ec,hr]:=LF P1' hv
 have:c'.isSome=true:=by
  unfold AZ at J;rw[ec]at J;exact J
 let[d,rfl]:=cw.mp this;let[p,rfl,hp']:=hr;refine BU hp' (n:=1) rfl rfl {rfl,?_};rw[e',J0 ec];unfold NR AS;rw[List.filterMap_append,ak]
 rfl;let[c',ec,hr]:=LF P1' hv
 have:c'=none:=by
  unfold AZ at J;rw[ec]at J;cases c' with
  |none=>rfl
  |some _=>cases J
 subst this;rw[e',J0 ec];unfold NR AS;simp;let[rfl,e']:=Y;rw[q1,bz]at e';let[H12,zz0,DK,e12]:=EI (o:=.lst<|AS<|NR A.nm) J;subst e';rw[zz0];refine x3 (r*w) p (NR A.nm) {rfl,e12,λk j=>?_,by lia,oA (υ (gy ..) bn) rfl,λal H13 hal s13 eal=>((V6.same<|DK.trans s13).add eal).put T.cl T.n6 λH14 V7=>?_};let[d,h1,h2]:=lm.mp j;rw[ai]at h2;let[c2,rfl,rfl]:=h2;rw[<-lr];exact(ok.n1 c2 h1).1
 have tkx:∀ {H':Hp} {ks as ls},VI (a "View") H H' x dx ks as ls->EE H H':=λI y xs e=>I.s _ _ e (BI e hx (by intro z;cases z))
 have rcs:∀ {H':Hp} {ks as ls},VI (a "View") H H' x dx ks as ls->H' ar=some (.lst D)->LstAt RcV H' ar A.rc:=λI e=>{D,e,Paired.mapP P2 λv c=>RcV.keep<|tkx I}
 have n10:∀ d,some d∈A.rc->d.2.length<=20:=λd h=>(ok.n2 d h).2
 have pb:∀ (l:List JV),l.length<=100->(∀ d,some d∈l->d.2.length<=20)->(FC l).length<=2000:=λl hl h=>by
  have:(FC l).length<=l.length * 20:=by
   clear hl
   induction l with
   |nil=>simp[FC]
   |cons y l ih =>
    have ih:=ih λd hc=>h d<|τ _ hc;unfold FC at ih ⊢;rw[List.flatMap_cons,ae,cf]
    have:(MF y).length<=20:=by
     cases y with
     |none=>simp[MF]
     |some c=>exact h c χ
    lia
  lia
 erw[Dl9_];refine y3 {V7.ob,T.cl,T.n2,_,Qv,x2 ar A.rc {rfl,rcs V7 ((V7.al (ar,.lst D) (by simp)).1),br,n10,λpl H15 CC s15 epl=>x3 (c*w) pl (FC A.rc) {rfl,epl,λk j=>?_,oA (υ (ba N.symm) bp) rfl,by have:=pb _ br n10;lia,λag H16 hag s16 eag=>((V7.same<|s15.trans s16).add eag).put T.cl T.n7 λH17 V8=>?_}}}
 ·unfold FC at j;let[d,h1,h2]:=uo.mp j;cases d with
  |none=>cases h2
  |some d =>
   rw[<-N];exact(ok.n2 d h1).1 k h2
 have hal':H17 al=some (.lst<|AS<|(ο A.rc.length).map (led A)):=by rw[lr];exact(V8.al _<|.tail _<|.head _).1
 have ltm:∀ d,some d∈MG A->some d∈A.rc:=λd h=>by
  unfold MG at h;let[k,u,j]:=a_.mp h;unfold AZ at j;cases e:A.rc[k]? with
  |none=>rw[e]at j;cases j
  |some y =>
   rw[e]at j
   have j:y=some d:=j;exact j ▸ θ e
 have ltl:(MG A).length<=100:=by
  unfold MG;rw[ε];exact υ (cr ..) (by rw[ce];exact br)
 erw[Dl10_];refine y2 {V8.ob,?_,x4 x ar al A {rfl,T,y2 ⟨V8.ob,Qv⟩,y2 ⟨V8.ob,z1q⟩,rcs V8 ((V8.al (ar,.lst D) (by simp)).1),hal',br,λlt H18 A0 s18 E8=>x2 lt (MG A) {rfl,E8,ltl,λd h=>n10 d<|ltm d h,λpl2 H19 hpl2 s19 epl2=>x3 (c*w) pl2 (FC<|MG A) {rfl,epl2,λk j=>?_,oA (υ (ba N.symm) bp) rfl,by have:=pb _ ltl<|λd h=>n10 d<|ltm d h;lia,λah H20 hah s20 eah=>((V8.same<|(s18.trans s19).trans s20).add eah).put T.cl T.n8 λH21 M=>?_}}}}
 ·simp[QC,au,BB (a:="records_led_to") (b:="name_values") (by decide +kernel),BB (a:="records_led_to") (b:="record_values") (by decide +kernel),BB (a:="records_led_to") (b:="piece_values") (by decide +kernel),BB (a:="records_led_to") (b:="record_marks") (by decide +kernel),BB (a:="records_led_to") (b:="piece_marks") (by decide +kernel),BB (a:="records_led_to") (b:="leads") (by decide +kernel),BB (a:="records_led_to") (b:="namings") (by decide +kernel)]
 ·unfold FC at j;let[d,h1,h2]:=uo.mp j;cases d with
  |none=>cases h2
  |some d =>
   rw[<-N];exact(ok.n2 d<|ltm d h1).1 k h2
 have tk:=tkx M;refine q ⟨an,ar,ap,am,aq,al,ag,ah⟩ _ {⟨dx,M.ob⟩,{v1,(M.al (an,.lst v1) (by simp)).1,Paired.mapP P1 λv c=>NmV.keep tk},{D,(M.al (ar,.lst D) (by simp)).1,Paired.mapP P2 λv c=>RcV.keep tk},{v3,(M.al (ap,.lst v3) (by simp)).1,Paired.mapP P3 λv c=>PcV.keep tk},{v4,(M.al (am,.lst v4) (by simp)).1,Paired.mapP P4 λv c=>MkV.keep tk},{v5,(M.al (aq,.lst v5) (by simp)).1,Paired.mapP P5 λv c=>MkV.keep tk},by rw[lr];exact(M.al _<|.tail _<|.tail _<|.head _).1,by rw[N];exact(M.al _<|.tail _<|.head _).1,by rw[N];exact(M.al _<|.head _).1,ok} M.s
def PlV.same(h:PlV H rows n r c w b)(tk:EE H H'):PlV H' rows n r c w b:=by
 let[[v1,d,e,v4,g,i,j,l,P3,o,p],q,x2,x3,x4]:=h;exact{x5 v1 d e v4 g {i,Paired.mapP j λv c=>NmV.keep tk,Paired.mapP l λv c=>RcV.keep tk,Paired.mapP P3 λv c=>PcV.keep tk,Paired.mapP o λv c=>MkV.keep tk,Paired.mapP p λv c=>MkV.keep tk},q,x2,x3,x4}
def Ground.same(g:Ground K a H b d e)(s:Same H H'):Ground K a H' b d e:=by
 revert g;apply u7;intro i n r c w rows m [T,j,TP,L,P,l,pv];exact x7 i n r c w _ m {T,j,TP,L.same s,P.same s,l,pv.same s.tk}
def Ground.ok{d e:Addr}{b:Vw}(g:Ground K a H d e b):EO b:=by
 revert g;apply u7;intro i n r c w rows m [T,j,TP,L,P,l,pv];exact pv.ok
def Qx{j l:Addr}{p:Vw}{Q:Addr->Hp->Prop}(g:Ground K a H j l p)(q:TV K a->∀ x A d,ViewAt a d x A p->Same H d->Q x d) :
  ∀ x b,H x=none->H b=none->b≠x->SD K a [.ref x,.ref j,.ref l] (upd (upd H b<|.own x) x (.ins (a "View") b [])) (λv d=>v=.non/\Q x d) E:=λx b u z nd=>by
 have i:Same H (upd (upd H b<|.own x) x (.ins (a "View") b [])):=(AL z).trans (AL (by rw[AJ nd.symm];exact u));revert g;apply u7;intro B n r c w rows m [T,D,TP,L,P,J,pv];exact QL x b j l B n r c w _ m p {rfl,T,D,TP,AG,L.same i,P.same i,J,pv.same i.tk,λA H' I s=>{rfl,q T x A H' I λy o e=>s _ _ (i _ _ e) (BJ e u)}}
example:(z1s,SE,Eb,3):=by
 apply u3;intro l n b [rfl,g,q];let[o,p,r,s,u,v]:=W2 g.ok;refine Qx g λT x A w I e=>(x3 x A b {rfl,T,I,λy z h2 c i=>x3 x A b {rfl,T,I.same c,λl2 B h3 d j=>J6 (i.same d) j ?_ (q.of<|(e.trans c).trans d)}})
 unfold faults IW;simp only[ae]
 lia
example:(z1t,aT,c8,2):=by
 apply u3;intro n o b [rfl,g,q];erw[c8,c80_];refine Qx g λT x A p I c=>x3 x A b {rfl,T,I,λr d h2 i j=>?_};let[ps,e,P]:=j;refine{_,.inl {_,SqL.of e,by rw[ε,P.length]},?_}
 have l:decide (((faults b).length:Int)=0)=decide (faults b=[]):=by
  rw[decide_eq_decide];constructor;intro h;exact fb.mp (by lia);intro h;rw[h];rfl
 rw[l];exact(q d<|c.trans i)
def Qy(b:Vw):IW b=(FJ b).map (vI b):=by
 unfold IW PJ PK PL FJ DQ;simp only[ak,jh]
 rfl
def MT{α :Type}{f:Nat->Option α}{n k:Nat}:AZ ((ο n).map f) k=if k<n then f k else none:=by
 unfold AZ;by_cases h:k<n;rw[if_pos h,ψ,vd h]
 rfl;rw[if_neg h,bd (by simp;exact cm h)]
 rfl
def XA{α :Type}{l:List (Option α)}{k:Nat}(h:¬ k<l.length):AZ l k=none:=by
 unfold AZ;rw[bd (cm h)]
 rfl
section
variable{vw:Vw}
def fH(r:Nat):AZ (mended vw).rc r=FY vw r:=by
 show AZ ((ο _).map _) r=_;rw[MT];split
 rfl;rename_i h;unfold FY;rw[XA h]
def fI(ok:EO vw)(r:Nat):AZ (mended vw).rm r=K8 vw r:=by
 show AZ ((ο _).map _) r=_;rw[MT];split
 rfl;rename_i h;unfold K8;rw[XA h,(XA (by rw[ok.l1];exact h))];simp
def Qz(ok:EO vw)(p:Nat):AZ (mended vw).pm p=NS vw p:=by
 show AZ ((ο _).map _) p=_;rw[MT];split
 rfl;rename_i h;unfold NS;rw[(XA (by rw[ok.l2];exact h))];simp
def z1u{r:Nat}{d:Int × wH}(h:FY vw r=some d):∃ c,AZ vw.rc r=some c/\0<led vw r/\d=((led vw r:Int),c.2):=by
 unfold FY at h;cases e:AZ _ r with
 |none=>rw[e]at h;cases h
 |some c =>
  rw[e]at h;by_cases h0:led vw r=0;simp only[h0]at h;cases h;simp only[h0,if_false,w_]at h;exact{c,rfl,sr h0,h.symm}
def Rb{r:Nat}{c:Int × wH}(h:AZ vw.rc r=some c)(b:0<led vw r):FY vw r=some ((led vw r:Int),c.2):=by
 unfold FY;rw[h];simp only;rw[if_neg (i_ b)]
def XB(ok:EO vw):EO (mended vw):=by
 refine{λc h=>?_,λc h=>?_,ok.n3,?_,?_,ok.bn,?_,ok.bp}
 show c.2<((ο _).map _).length/\_;simp only[ε,ce];exact ok.n1 c h;let[r,z,b]:=a_.mp h;let[d,hd,z,rfl]:=z1u b;exact ok.n2 d<|z0y hd
 show((ο _).map _).length=((ο _).map _).length;simp
 show((ο _).map _).length=vw.pc.length;simp
 show((ο _).map _).length<=100;simp only[ε,ce];exact ok.br
end
theorem QD{α b c :Type}{F: α -> b ->Prop}{G: α -> c ->Prop}{f: b -> c}(k:∀ x y,G x (f y)->F x y):∀ {l:List α} {m:List b},Paired G l (m.map f)->Paired F l m
 |_,[],h=>by cases h;exact .nil
 |_,y::m,h=>by
  cases h with
  |cons h t=>exact .cons (k _ _ h) (QD k t)
theorem S5{α d :Type}{F: α -> d ->Prop}:∀ {bs:List d} {l:List α} {c:List d},Paired F l (bs++c)->∃ x y,l=x++y/\Paired F x bs/\Paired F y c
 | [],l,c,h=>x2 [] l {rfl,.nil,h}
 |b::bs,l,c,h=>by
  cases h with
  |cons h t =>
   refine u2 ?_<|S5 t;intro x y [rfl,e,g];exact x2 _ y {rfl,.cons h e,g}
def PlV.asC{rows:yD}{n r c w:Nat}{b:Vw}(h:PlV H rows n r c w b):Paired (CelV H) rows.flatten (DO b):=by
 refine u5 ?_ h.vs;intro v1 l o v4 p [d,e,g,P3,i,j];rw[d];exact N3 (N3 (N3 (N3 (NY e λz z h=>h) (NY g λz z h=>h)) (NY P3 λz z h=>h)) (NY i λz z h=>h)) (NY j λz z h=>h)
def PlV.of{rows:yD}{n r c w:Nat}{b:Vw}(P:Paired (CelV H) rows.flatten (DO b))(d:b.nm.length=n*w)(e:b.rc.length=r*w)(g:b.pc.length=c*w)(ok:EO b):PlV H rows n r c w b:=by
 refine u2 ?_<|S5 P;intro x4 i [j,P,l];refine u2 ?_<|S5 P;intro x3 v4 [o,P,p];refine u2 ?_<|S5 P;intro x2 q [s,P,P3];refine u2 ?_<|S5 P;intro v1 u [v,x,y];exact{x5 v1 u q v4 i {by rw[j,o,s,v],QD  (f:=Cel.nm) (λz z h=>h) x,QD  (f:=Cel.rc) (λz z h=>h) y,QD  (f:=Cel.pc) (λz z h=>h) P3,QD  (f:=Cel.mk) (λz z h=>h) p,QD  (f:=Cel.mk) (λz z h=>h) l},d,e,g,ok}
theorem CelV.keep{H':Hp}(tk:EE H H'){v:V}:∀ {c:Cel},CelV H v c->CelV H' v c
 |.nm _,h=>NmV.keep tk h
 |.rc _,h=>RcV.keep tk h
 |.pc _,h=>PcV.keep tk h
 |.mk _,h=>MkV.keep tk h
def z1v{α :Type}{l:List (Option α)}{k:Nat}(h:k<l.length):l[k]? =some (AZ l k):=by
 unfold AZ;rw[ι h]
 rfl
def Rc(b:Vw)(ok:EO b):(DO b).length=b.nm.length+b.rc.length+b.pc.length+b.rc.length+b.pc.length:=by
 unfold DO;simp only[ae,ε,ok.l1,ok.l2]
def S6{α b :Type}{f:Option α -> b}{l:List (Option α)}{c:List b}{k:Nat}(h:k<l.length):(l.map f++c)[k]? =some (f<|AZ l k):=by
 rw[bc (by rwa [ε]),ψ,z1v h]
 rfl
section
variable{vw:Vw}{N R P k:Nat}
def S7(vw:Vw):DO vw=vw.nm.map .nm++(vw.rc.map .rc++(vw.pc.map .pc++(vw.rm.map .mk++(vw.pm.map .mk++[])))):=by simp[DO]
def fJ(h1:vw.nm.length=N)(h:k<N):(DO vw)[k]? =some (.nm<|AZ vw.nm k):=by
 subst h1;rw[S7,S6 h]
def QE(h1:vw.nm.length=N)(h2:vw.rc.length=R)(h:k<R):(DO vw)[N+k]? =some (.rc<|AZ vw.rc k):=by
 subst h1 h2;rw[S7,IG<|ε _,S6 h]
def fK(h1:vw.nm.length=N)(h2:vw.rc.length=R)(h3:vw.pc.length=P)(h:k<P):(DO vw)[N+R+k]? =some (.pc<|AZ vw.pc k):=by
 subst h1 h2 h3;rw[S7,dz,IG<|ε _,IG<|ε _,S6 h]
def S8(ok:EO vw)(h1:vw.nm.length=N)(h2:vw.rc.length=R)(h3:vw.pc.length=P)(h:k<R):(DO vw)[N+R+P+k]? =some (.mk<|AZ vw.rm k):=by
 subst h1 h2 h3;rw[S7,dz,dz,IG<|ε _,IG<|ε _,IG<|ε _,S6<|ok.l1 ▸ h]
def XC(ok:EO vw)(h1:vw.nm.length=N)(h2:vw.rc.length=R)(h3:vw.pc.length=P)(h:k<P):(DO vw)[N+R+P+R+k]? =some (.mk<|AZ vw.pm k):=by
 subst h1 h2 h3;rw[S7,dz,dz,dz,IG<|ε _,IG<|ε _,IG<|ε _,IG<|(ε _).trans ok.l1,S6<|ok.l2 ▸ h]
def Rg{f:Nat}{A:Nat->Prop}(h0:f<N->A f)(h3:∀ k,k<R->A (N+k))(h4:∀ k,k<P->A (N+R+k))(h1:∀ k,k<R->A (N+R+P+k))(h2:∀ k,k<P->A (N+R+P+R+k))(hf:f<N+R+P+R+P):A f:=by
 let h||h:=ee f N
 exact h0 h;let[f,rfl]:=ie h;let h||h:=ee f R
 exact h3 f h;let[f,rfl]:=ie h;rw[<-dz]at hf ⊢;let h||h:=ee f P
 exact h4 f h;let[f,rfl]:=ie h;rw[<-dz]at hf ⊢;let h||h:=ee f R
 exact h1 f h;let[f,rfl]:=ie h;rw[<-dz]at hf ⊢;exact h2 f<|Nat.lt_of_add_lt_add_left hf
end
def z1w(h:DQ n p f=[])(b:k<n):p k=false:=by
 simpa using (yo.mp (Ai.mp h) k (ao.mpr b))
def z1x(h:faults b=[])(c:r<b.rc.length):JW b r=false:=z1w (ub.mp<|(ub.mp (ub.mp h).1).2).2 c
def Rh{b:Vw}{c:Lv}(h:c∈FJ b):(∃ r,c=.many r/\r<b.rc.length/\GZ b r=true)\/(∃ r,c=.leftR r/\r<b.rc.length/\(AZ b.rc r).isSome=true/\led b r=0)\/(∃ p,c=.leftP p/\p<b.pc.length/\AZ b.pm p=some 1/\HZ b p=0)\/∃ r,c=.marked r/\r<b.rc.length/\AZ b.rm r=some 1/\AZ b.rc r=none:=by
 unfold FJ at h;simp only[bh,a_,di,ao,bv,decide_eq_true_eq]at h;rcases h with((⟨r,h,rfl⟩|⟨r,h,rfl⟩)|⟨p,h,rfl⟩)|⟨r,h,rfl⟩
 exact .inl ⟨r,rfl,h.1,h.2⟩;exact .inr<|.inl ⟨r,rfl,h.1,h.2.1,h.2.2⟩;exact .inr<|.inr<|.inl ⟨p,rfl,h.1,h.2.1,h.2.2⟩;exact .inr<|.inr<|.inr {r,rfl,h.1,h.2.1,wp.mp h.2.2}
section
variable{vw:Vw}{n r c w:Nat}
def z1y(ok:EO vw)(p:vw.nm.length=n*w)(i:vw.rc.length=r*w)(j:vw.pc.length=c*w)(h:q∈FJ vw)(b:l∈FE vw n r c w q):(DO<|mended vw)[l.1]? =some l.2:=by
 have g2:(mended vw).rc.length=r*w:=by
  show((ο vw.rc.length).map (FY vw)).length=_;simp[i]
 have g:=XB ok
 have g1:(mended vw).nm.length=n*w:=p
 have g3:(mended vw).pc.length=c*w:=j;let[k,rfl,e,s]||[k,rfl,e,hs,o]||[k,rfl,e,h1,h2]||[k,rfl,e,h1,h2]:=Rh h
 ·simp only[FE,aa]at b;subst b;rw[QE g1 g2 (i ▸ e),fH]
 ·let[d,hd]:=cw.mp hs;simp only[FE,af,bw,or_false]at b;let rfl||rfl:=b
  ·rw[QE g1 g2 (i ▸ e),fH];unfold FY;rw[hd];simp[o]
  ·simp only[dw];rw[S8 g g1 g2 g3 (i ▸ e),fI ok];unfold K8;rw[hd];simp[o]
 ·simp only[FE,aa]at b;subst b;simp only[dw];rw[XC g g1 g2 g3 (j ▸ e),Qz ok];unfold NS;rw[if_pos ⟨h1,h2⟩]
 ·simp only[FE,aa]at b;subst b;simp only[dw];rw[S8 g g1 g2 g3 (i ▸ e),fI ok];unfold K8;rw[h2];simp[h1]
def z1z(ok:EO vw)(l:vw.nm.length=n * w)(j:vw.rc.length=r * w)(o:vw.pc.length=c * w)(q:faults vw=[])(hf:f<n * w+r * w+c * w+r * w+c * w):(∀ s∈FJ vw,∀ u∈FE vw n r c w s,u.1≠f)->(DO<|mended vw)[f]? =(DO vw)[f]? :=by
 have g2:(mended vw).rc.length=r*w:=by
  show((ο vw.rc.length).map (FY vw)).length=_;simp[j]
 have p:=XB ok
 have g1:(mended vw).nm.length=n*w:=l
 have g3:(mended vw).pc.length=c*w:=o;refine Rg (A:=λf=>(∀ s∈FJ vw,∀ u∈FE vw n r c w s,u.1≠f)->(DO<|mended vw)[f]? =(DO vw)[f]?) (λh b=>?_) (λk g b=>?_) (λk g b=>?_) (λk g b=>?_) (λk g b=>?_) hf
 ·rw[fJ g1 h,fJ l h];rfl
 ·rw[QE g1 g2 g,QE l j g,fH]
  have i:k<vw.rc.length:=j.symm ▸ g
  congr 2
  cases e:AZ vw.rc k with
  |none=>unfold FY;rw[e]
  |some d =>
   have h0:0<led vw k:=by
    rcases ma (led vw k)with z|z
    ·refine absurd rfl (b (.leftR k) ?_ (n*w+k,.rc none) (by simp[FE]));unfold FJ;simp only[bh,a_,di,ao,bv,decide_eq_true_eq];exact .inl (.inl (.inr {k,{i,by rw[e];rfl,z},rfl}))
    ·exact z
   have h1:¬ ((led vw k:Int)<d.1):=λz=>by
    refine absurd rfl (b (.many k) ?_ (n*w+k,.rc<|FY vw k) (by simp[FE]));unfold FJ;simp only[bh,a_,di,ao,bv,decide_eq_true_eq];refine .inl<|.inl<|.inl {k,{i,?_},rfl};unfold GZ;rw[e];simp[h0,z]
   have h2:=z1x q i;unfold JW at h2;rw[e]at h2;rw[Rb e h0]
   have:d.1=(led vw k:Int):=by lia
   rw[<-this]
 ·rw[fK g1 g2 g3 g,fK l j o g];rfl
 ·rw[S8 p g1 g2 g3 g,S8 ok l j o g,fI ok]
  have i:k<vw.rc.length:=j.symm ▸ g
  congr 2
  cases e:AZ vw.rc k with
  |none =>
   unfold K8;rw[e];simp only;rw[if_neg];intro z;refine absurd (by simp only[dw]) (b (.marked k) ?_ ((n+r+c)*w+k,.mk<|some 0) (by simp[FE]));unfold FJ;simp only[bh,a_,di,ao,bv,decide_eq_true_eq];exact .inr {k,{i,z,by rw[e];rfl},rfl}
  |some d =>
   unfold K8;rw[e];simp only;rw[if_neg];intro z;refine absurd (by simp only[dw]) (b (.leftR k) ?_ ((n+r+c)*w+k,.mk<|some 0) (by simp[FE]));unfold FJ;simp only[bh,a_,di,ao,bv,decide_eq_true_eq];exact .inl (.inl (.inr {k,{i,by rw[e];rfl,z},rfl}))
 ·rw[XC p g1 g2 g3 g,XC ok l j o g,Qz ok]
  congr 2
  unfold NS;rw[if_neg];intro[v,x];refine absurd (by simp only[dw]) (b (.leftP k) ?_ ((n+r+c+r)*w+k,.mk<|some 0) (by simp[FE]));unfold FJ;simp only[bh,a_,di,ao,bv,decide_eq_true_eq];exact .inl<|.inr {k,{o.symm ▸ g,v,x},rfl}
end
def FG:Cel->xm
 |.nm none=>.none
 |.nm (some c)=>.tuple [.str c.1,.int c.2]
 |.rc none=>.none
 |.rc (some c)=>.tuple [.int c.1,.tuple<|c.2.map λ(k:Nat)=>Br k]
 |.pc none=>.none
 |.pc (some s)=>.str s
 |.mk none=>.none
 |.mk (some i)=>.int i
def z10(l:wH):∀ {n:Nat},Paired (Dat K H n) (AS l) (l.map λ(k:Nat)=>Br k):=by
 induction l with
 |nil=>exact .nil
 |cons x r b=>exact .cons (.int _) b
def CelV.dat:∀ {c:Cel},CelV H v c->c.ok->Dat K H 2 v (FG c)
 |.nm none,h,_=>by cases (h);exact Dat.non
 |.nm (some c),h,o=>by
  let[p,rfl,e]:=(h)
  exact Dat.tup  (SqT.of e) (.cons {.str _,o,bt _} (.cons (Dat.int _) .nil))
 |.rc none,h,_=>by cases (h);exact Dat.non
 |.rc (some c),h,_=>by
  refine u2 ?_<|h;intro p q [rfl,e,b];exact Dat.tup  (SqT.of e) (.cons (Dat.int _) (.cons (Dat.tup  (SqT.of b) (z10 _)) .nil))
 |.pc none,h,_=>by cases (h);exact Dat.non
 |.pc (some s),h,o=>by
  cases (h);exact{.str s,o,bt _}
 |.mk none,h,_=>by cases (h);exact Dat.non
 |.mk (some i),h,_=>by cases (h);exact Dat.int i
theorem Rj:∀ (l m:wH),p_ (l.map λ(k:Nat)=>Br k) (m.map λ(k:Nat)=>Br k)=decide (l=m)
 | [],[]=>rfl
 | [],_::_=>rfl
 |_::_,[]=>rfl
 |x::l,y::m=>by
  show((x ==(y:Int))&&p_ _ _)=_;rw[Rj l m];simp
  lia
def z11:∀ {c b:Cel},c.kind=b.kind->io (FG c) (FG b)=decide (c=b)
 | .nm c,.nm b,_=>by
  cases c with
  |none=>cases b<;>simp[FG,io]
  |some c =>
   cases b with
   |none=>simp[FG,io]
   |some d =>
    let[s,k]:=c;let[e,g]:=d;simp[FG,io,p_]
    lia
 | .rc c,.rc b,_=>by
  cases c with
  |none=>cases b<;>simp[FG,io]
  |some c =>
   cases b with
   |none=>simp[FG,io]
   |some d =>
    let[s,k]:=c;let[e,g]:=d;rw[jd];simp[FG,io,p_,Rj]
 | .pc c,.pc b,_=>by
  cases c with
  |none=>cases b<;>simp[FG,io]
  |some c =>
   cases b with
   |none=>simp[FG,io]
   |some d =>
    rw[jd];simp[FG,io]
 | .mk c,.mk b,_=>by
  cases c with
  |none=>cases b<;>simp[FG,io]
  |some c =>
   cases b with
   |none=>simp[FG,io]
   |some d =>
    rw[jd];simp[FG,io]
 |.nm _,.rc _,h=>by cases h
 |.nm _,.pc _,h=>by cases h
 |.nm _,.mk _,h=>by cases h
 |.rc _,.nm _,h=>by cases h
 |.rc _,.pc _,h=>by cases h
 |.rc _,.mk _,h=>by cases h
 |.pc _,.nm _,h=>by cases h
 |.pc _,.rc _,h=>by cases h
 |.pc _,.mk _,h=>by cases h
 |.mk _,.nm _,h=>by cases h
 |.mk _,.rc _,h=>by cases h
 |.mk _,.pc _,h=>by cases h
theorem Rl:∀ {cs b:xH},cs.map Cel.kind=b.map Cel.kind->p_ (cs.map FG) (b.map FG)=decide (cs=b)
 | [],[],_=>rfl
 | [],_::_,h=>by cases h
 |_::_,[],h=>by cases h
 |x::l,y::m,h=>by
  injection h with h1 h2
  show(io _ _&&p_ _ _)=_;rw[z11 h1,Rl h2];simp
def Rm(h:Paired (CelV H) xs cs)(ok:∀ c∈cs,c.ok):Paired (Dat K H 2) xs (cs.map FG):=by
 induction h with
 |nil=>exact .nil
 |cons h t b=>exact .cons (h.dat<|ok _ χ) (b λc d=>ok c<|τ _ d)
def Rp{p q:Addr}{xs ys:eI}{cs b:xH}(h1:H p=some (.lst xs))(h2:H q=some (.lst ys))(g:Paired (CelV H) xs cs)(i:Paired (CelV H) ys b)(j:∀ c∈cs,c.ok)(l:∀ c∈b,c.ok)(n:cs.map Cel.kind=b.map Cel.kind)(o:Q (.bl<|!decide (cs=b)) H):OJ K (.ref p) (.ref q) H Q:=by
 have d:Dat K H 3 _ _:=Dat.lst (SqL.of h1) (Rm g j)
 have e:Dat K H 3 _ _:=Dat.lst (SqL.of h2) (Rm i l);refine y2 {d.1,e.1,d.shp (by decide),e.shp (by decide),?_}
 show Q (.bl<|!PyData.eqvAll _ _) H;rw[Rl n];exact o
def Rq{w f g:Nat}(h:pk w f=pk w g):f=g:=by
 injection h with h1 h
 injection h with h2 _
 injection h1 with h1
 injection h2 with h2
 have b:=rn f w;rw[show f/w=g/w by exact ca h1,show f%w=g%w by exact ca h2]at b;exact b ▸ (rn g w)
def fL(b j:Nat):Int:=reduceHash<|Ja [hashInt b,hashInt j]
def z12:∀ j,j<6->∀ b,b<31->∀ c,c<31->fL b j=fL c j->b=c:=by decide +kernel
def z13{k:List AN}{v:V}:U1 [(k,v)]:=λP w=>by simp
def z14{w f g:Nat}{v u:V}(b:w<=6)(c:1<=w)(hf:f/w<31)(d:g/w<31)(he:f%w=g%w)(ne:f/w≠g/w):U1 [(pk w f,v),(pk w g,u)]:=λP W=>by
 have e:∀ h:Nat,(nv<|EW P W).hash (pk w h)=fL (h/w) (h%w):=λh=>rfl;simp only[bu,vh,g_,aa,bw,not_false_eq_true,jn,and_true];rw[e,he];exact λz=>ne<|z12 (g%w) (ω (sq _ c) b) _ hf _ d z
def S9{w b k:Nat}{x:Int}(c:1<=w)(d:x=b):([.int (x+(k:Int)/(w:Int)),.int<|(k:Int)%(w:Int)]:eI)=(pk w<|b*w+k).map kV:=by
 unfold pk
 have h2:(b*w+k)%w=k%w:=by rw[da,mo]
 have h1:(b*w+k)/w=b+k/w:=by rw[da,mq<|c]
 rw[h1,h2,d];simp only[bu,vh,kV];rw[Ic,Gr,Gs]
def z15{c d:Addr}{w m f:Nat}{rows:yD}{cs:xH}{x:Cel}(P:PlankAt a H c d w rows m)(g:1<=w)(i:Paired (CelV H) rows.flatten cs)(l:cs[f]? =some x)(n:f/w<rows.length):∃ row v,rows[f/w]? =some row/\row[f%w]? =some v/\CelV H v x:=by
 let[v,o,p]:=KQ i l
 have e:=W9  (j:=f%w) P.wd n (sq _ g);rw[da,rn,o]at e;cases b:rows[f/w]? with
 |none=>rw[b]at e;cases e
 |some row =>
  rw[b]at e;exact x2 _ v ⟨rfl,e.symm,p⟩
example:(z16,aU,cV,4):=by
 apply QN;intro ly gp cl fd n r c w rows m N lv [rfl,S,hlv,u,q]
 have J:=S.w1;let[dl,JB]:=S.la.ob
 have z2:=S.pv.lr
 have n6:=S.n6
 have r6:=S.r6
 have c6:=S.c6
 have q1:∀ {p t:Addr} {f:Nat} {x:Cel} {v:V} {A:Hp},H p=none->Same H A->A p=some (.dT [])->A t=some (.tup<|(pk w f).map kV)->CelV A v x->FE N n r c w lv=[(f,x)]->A p=some (.dT [])/\∃ kvs:zA,U2 A [(.ref t,v)] kvs/\kvs.length<=15/\Q (.ref p) (upd A p<|.dT<|EX [] kvs):=λ{p t f x v A} B s e et hv ef=>by
  refine{e,[(pk w f,v)],.cons {⟨t,rfl,et⟩,rfl} .nil,by simp,?_};refine q p [(pk w f,v)] _ B (λy o M=>by rw[AJ (BJ M B)];exact s _ _ M) AG ?_ z13;rw[ef];exact .cons {rfl,CelV.keep (λy ys M=>by rw[AJ (BI M e (λz=>nomatch z))];exact M) hv} .nil
 let[k,rfl,Y,O]||[k,rfl,Y,hsm,hl]||[k,rfl,Y,h1,h2]||[k,rfl,Y,h1,h2]:=Rh hlv
 obtain⟨d,hd⟩:∃ d,AZ N.rc k=some d:=by
  unfold GZ at O;cases e:AZ N.rc k with
  |none=>rw[e]at O;cases O
  |some d=>exact⟨d,rfl⟩
 have hl:0<led N k:=by
  unfold GZ at O;rw[hd]at O;simp at O;exact O.1
 refine BU u (n:=0) rfl rfl (y2 {JB,B0 (by decide +kernel),BU u (n:=1) rfl rfl (x6 ly n r c w k {rfl,S.tl,S.la,λt T=>?_})});let[H1,g,s1,e1]:=EI (o:=.tup [.int ((n:Int)+(k:Int)/(w:Int)),.int<|(k:Int)%(w:Int)]) T;rw[g];erw[cV1_];intro p B;let[A,g,j,U]:=EI (o:=.dT []) B;rw[g]
 have LG:=s1.trans j
 have P2:=S.pl.same LG
 have f1:(n*w+k)/w=n+k/w:=by rw[da,mq (by exact J)]
 have f2:(n*w+k)%w=k%w:=by rw[da,mo]
 let[dp,N6]:=P2.ob
 have hkw:k/w<r:=by
  rw[ue (by exact J)];exact z2 ▸ Y
 let[row,v,er,ev,hv]:=z15 (f:=n*w+k) (x:=.rc<|AZ N.rc k) P2 J (S.pv.same LG.tk).asC (QE S.pv.ln z2<|z2 ▸ Y) (by rw[S.rl];lia);rw[f1]at er;rw[f2]at ev;rw[hd]at hv;revert hv;apply u2;intro pv tv [rfl,hpv,htv];refine BU ((s1.trans j) _ _ u) (n:=2) rfl rfl (y2 {N6,NX _ _ _,BU (j _ _ e1) (n:=0) rfl rfl (x6 gp cl w rows m _ {rfl,S.tp,P2,λi row' eb er' l hnl=>?_,λz=>?_})})
 have ei:i=n+k/w:=by
  have:((n+k/w:Nat):Int)=(n:Int)+(k:Int)/(w:Int):=by rw[Ic,Gr]
  exact ca eb.symm
 subst ei;rw[er]at er';let[H3,g,I,L]:=EI (o:=.lst row) hnl;obtain rfl:=μ er';rw[g];refine BU (I _ _<|j _ _ e1) (n:=1) rfl rfl (CJ (SqL.of L) (n:=k%w) (by rw[Gs]) ev (BU (I _ _ hpv) (n:=1) rfl rfl {by decide,λp1 QI=>?_}))
 have s4:=AL (o:=.tup [V.int ↑(led N k),V.ref tv]) QI
 have D:=I.trans s4;refine q1 (f:=n*w+k) (x:=.rc<|FY N k) (s1.free B) (LG.trans D) (D _ _ U) ?_ ?_ rfl;rw[<-S9 (x:=(n:Int)) J rfl];exact D _ _<|j _ _ e1;rw[Rb hd hl];exact x2 p1 tv {rfl,AG,D _ _ htv}
 have rl:=S.rl;let z||z:=z
 exact absurd z<|vy.mpr<|jk _
 ·have z:rows.length<=n+k/w:=j_.mp z
  lia
 refine BU u (n:=0) rfl rfl ?_;refine BU u (n:=0) rfl rfl ?_;refine BU u (n:=1) rfl rfl ?_;intro p B;let[A,g,j,U]:=EI (o:=.dT []) B;rw[g];refine y2 {j _ _ JB,B0 (by decide +kernel),BU (j _ _ u) (n:=2) rfl rfl (x6 ly n r c w k {rfl,S.tl,S.la.same j,λt T=>?_})}
 have I:=AL (o:=.tup [.int ((n:Int)+(k:Int)/(w:Int)),.int<|(k:Int)%(w:Int)]) T
 have L:upd A t (.tup [.int ((n:Int)+(k:Int)/(w:Int)),.int<|(k:Int)%(w:Int)]) t=some (.tup<|(pk w<|n*w+k).map kV):=by rw[AG,S9 (x:=(n:Int)) J rfl]
 revert I L;generalize upd A t (.tup [.int ((n:Int)+(k:Int)/(w:Int)),.int<|(k:Int)%(w:Int)])=H3;intro I L
 have GH:=j.trans I;refine y2 {GH _ _ JB,B0 (by decide +kernel),BU (GH _ _ u) (n:=2) rfl rfl (x6 ly n r c w k {rfl,S.tl,S.la.same GH,λt2 ht2=>?_})}
 have s4:=AL (o:=.tup [.int ((n:Int)+r+c+(k:Int)/(w:Int)),.int<|(k:Int)%(w:Int)]) ht2
 have e4:upd H3 t2 (.tup [.int ((n:Int)+r+c+(k:Int)/(w:Int)),.int<|(k:Int)%(w:Int)]) t2=some (.tup<|(pk w<|(n+r+c)*w+k).map kV):=by rw[AG,S9 (x:=(n:Int)+r+c) (b:=n+r+c) J (by exact rfl)]
 revert s4 e4;intro s4 e4
 have D:=I.trans s4
 have f1:(n*w+k)/w=n+k/w:=by rw[da,mq (by exact J)]
 have f2:(n*w+k)%w=k%w:=by rw[da,mo]
 have g1:((n+r+c)*w+k)/w=n+r+c+k/w:=by rw[da,mq (by exact J)]
 have g2:((n+r+c)*w+k)%w=k%w:=by rw[da,mo]
 have hkw:k/w<r:=by
  rw[ue (by exact J)];exact z2 ▸ Y
 have mg:EX [] [(pk w<|n*w+k,V.non),(pk w<|(n+r+c)*w+k,.int 0)]=[(pk w<|n*w+k,V.non),(pk w<|(n+r+c)*w+k,.int 0)]:=Y5 _ [] (by
  simp only[jy,bu,vh,g_,aa,bw,not_false_eq_true,jn,and_true];intro z
  have:=Rq z
  have e9:(n*w+k)/w=((n+r+c)*w+k)/w:=by rw[this]
  rw[f1,g1]at e9
  lia)
 refine{(D _ _ U),[(pk w<|n*w+k,V.non),(pk w<|(n+r+c)*w+k,.int 0)],.cons {{t,rfl,s4 _ _ L},rfl} (.cons {⟨t2,rfl,e4⟩,rfl} .nil),by simp,?_};rw[mg];refine q p _ _ B (λy o M=>by rw[AJ (BJ M B)];exact(j.trans D) _ _ M) AG (.cons ⟨rfl,rfl⟩ (.cons ⟨rfl,rfl⟩ .nil)) (z14 S.w6 J (by rw[f1];lia) (by rw[g1];lia) (by rw[f2,g2]) (by rw[f1,g1];lia));refine BU u (n:=0) rfl rfl ?_;erw[];refine BU u (n:=0) rfl rfl ?_;erw[];erw[cV6_];refine BU u (n:=1) rfl rfl ?_;erw[];refine E6 (by decide +kernel) ?_;erw[cV7_];intro p B;let[A,g,j,U]:=EI (o:=.dT []) B;rw[g];refine y2 {j _ _ JB,B0 (by decide +kernel),BU (j _ _ u) (n:=2) rfl rfl (x6 ly n r c w k {rfl,S.tl,S.la.same j,λt T=>?_})}
 have I:=AL (o:=.tup [.int ((n:Int)+r+c+r+(k:Int)/(w:Int)),.int<|(k:Int)%(w:Int)]) T
 have L:upd A t (.tup [.int ((n:Int)+r+c+r+(k:Int)/(w:Int)),.int<|(k:Int)%(w:Int)]) t=some (.tup<|(pk w<|(n+r+c+r)*w+k).map kV):=by rw[AG,S9 (x:=(n:Int)+r+c+r) (b:=n+r+c+r) J (by exact rfl)]
 exact q1 (f:=(n+r+c+r)*w+k) (x:=.mk<|some 0) B (j.trans I) (I _ _ U) L rfl rfl
 ·have u:H fd=some (.tup [.str (ζ "marked"),.int k]):=u;erw[cV,cV2_];refine BU u (n:=0) rfl rfl ?_;erw[];refine E6 (by decide +kernel) ?_;erw[cV4_];refine BU u (n:=0) rfl rfl ?_;erw[];erw[cV3_];intro p B;let[A,g,j,U]:=EI (o:=.dT []) B;rw[g];refine y2 {j _ _ JB,B0 (by decide +kernel),BU (j _ _ u) (n:=1) rfl rfl (x6 ly n r c w k {rfl,S.tl,S.la.same j,λt T=>?_})}
  have I:=AL (o:=.tup [.int ((n:Int)+r+c+(k:Int)/(w:Int)),.int<|(k:Int)%(w:Int)]) T
  have L:upd A t (.tup [.int ((n:Int)+r+c+(k:Int)/(w:Int)),.int<|(k:Int)%(w:Int)]) t=some (.tup<|(pk w<|(n+r+c)*w+k).map kV):=by rw[AG,S9 (x:=(n:Int)+r+c) (b:=n+r+c) J (by exact rfl)]
  exact q1 (f:=(n+r+c)*w+k) (x:=.mk<|some 0) B (j.trans I) (I _ _ U) L rfl rfl
theorem Rv{α b :Type}{F: α -> b ->Prop}:∀ {l:List α} {m:List b} (k:Nat),Paired F l m->Paired F (l.take k) (m.take k)
 |_,_,0,_=>.nil
 |_,_,_+1,.nil=>.nil
 |_,_,k+1,.cons h t=>.cons h<|Rv k t
theorem Rw{α b :Type}{F: α -> b ->Prop}:∀ {l:List α} {m:List b} (k:Nat),Paired F l m->Paired F (l.drop k) (m.drop k)
 |_,_,0,h=>h
 |_,_,_+1,.nil=>.nil
 |_,_,k+1,.cons h t=>Rw k t
def Rx{w b:Nat}{cs:xH}:DS w cs (b+1)=DS w (cs.drop w) b:=by
 unfold DS;rw[List.drop_drop,tm,tq]
theorem XD{w:Nat}:∀ {rows:yD} {cs:xH},(∀ r∈rows,r.length=w)->Paired (CelV H) rows.flatten cs->∀ {b:Nat} {row:eI},rows[b]? =some row->Paired (CelV H) row (DS w cs b)
 | [],_,_,_,_,_,e=>by simp at e
 |d::g,cs,c,P,0,row,e=>by
  obtain rfl:=μ e
  have h0:=c d χ
  have:=Rv w P;rw[ii,<-h0,List.take_left]at this;unfold DS;rw[vm,<-h0];exact this
 |d::g,cs,c,P,b+1,row,e=>by
  have h0:=c d χ
  have:=Rw w P;rw[ii,<-h0,List.drop_left,h0]at this;rw[Rx];exact XD (λr i=>c r<|τ _ i) this e
theorem Ry{w:Nat}:∀ {rows:yD} {cs:xH},cs.length=rows.length * w->(∀ {b:Nat} {row:eI},rows[b]? =some row->Paired (CelV H) row (DS w cs b))->Paired (CelV H) rows.flatten cs
 | [],cs,c,_=>by
  rw[mn,vm]at c;rw[fb.mp c];exact .nil
 |i::d,cs,c,h=>by
  rw[cf]at c
  have h0:=h (b:=0) rfl;unfold DS at h0;rw[vm,I_]at h0
  have g:=Ry (w:=w) (rows:=d) (cs:=cs.drop w) (by rw[ic,c,tm,Nat.add_sub_cancel]) λ{b row} e=>by
   rw[<-Rx];exact h  e
  have:=N3 h0 g;rw[ju]at this;exact this
theorem XF{w:Nat}:∀ {rows:yD},(∀ r∈rows,r.length=w)->rows.flatten.length=rows.length*w
 | [],_=>by simp
 |r::c,h=>by
  rw[ii,ae,XF λx b=>h x<|τ _ b,h r χ,cf,tm];exact tq _ _
def z17(b:Addr)(w n:Int):(pf b w n).lookup ("blocks":Str)=none:=JO _ _ _ (by decide) (by decide) (by decide)
def Rz{w b j:Nat}{cs:xH}(c:j<w):(DS w cs b)[j]? =cs[b*w+j]? :=by
 unfold DS;rw[List.getElem?_take,if_pos c,Bn]
def z18{w b:Nat}{cs c:xH}(h:c.map Cel.kind=cs.map Cel.kind):(DS w c b).map Cel.kind=(DS w cs b).map Cel.kind:=by
 unfold DS;rw[At,Au,At,Au,h]
def XG{w b:Nat}{cs:xH}{c:Cel}(h:c∈DS w cs b):c∈cs:=zv<|zw h
def Sb{w i:Nat}{cs b:xH}:NT w (i+1) cs b=NT w i cs b+if DS w cs i=DS w b i then 0 else 1:=by
 unfold NT;rw[bx];by_cases h:DS w cs i=DS w b i;simp[h];simp[h]
def z19{w b j:Nat}(c:j<w):([.int (b:Int),.int (j:Int)]:eI)=(pk w<|b*w+j).map kV:=by
 unfold pk
 have h1:(b*w+j)/w=b:=by rw[da,mq (by lia),Nat.div_eq_of_lt c,Nat.add_zero]
 have h2:(b*w+j)%w=j:=by rw[da,mo,Nat.mod_eq_of_lt c]
 rw[h1,h2]
 rfl
structure Sc(a:Ad)(gp cl:Addr)(w m M:Nat)(cs cs':xH)(H:Hp)(i:Nat)(rs:yD)(H':Hp):Prop where
 p:PlankAt a H' gp cl w rs (m+NT w i cs cs')
 l:rs.length=M
 c:∀ {b:Nat} {row:eI},rs[b]? =some row->Paired (CelV H') row (if b<i then DS w cs' b else DS w cs b)
 s:SameBut (λx=>x=gp\/x=cl) H H'
example:(z2a,aV,cW,5):=by
 apply u9;intro U Y dl w rows m kvs cs d [rfl,TP,P,hM,w1,w6,L,PC,hk,o1,o2,hc,q];let[dp,N6]:=P.ob;let[tc,BL,_]:=P.ls
 have n:cs.length=rows.length*w:=by
  rw[<-PC.length];exact XF P.wd
 have HK:d.length=cs.length:=by
  simpa using (congrArg f_ hk)
 have ndl:dl≠U/\dl≠Y:={BI L N6 (λz=>nomatch z),BI L BL (λz=>nomatch z)}
 erw[cW,cW4_];refine y2 {N6,z17 _ _ _,x5 U Y w _ m {rfl,TP,P,?_}};erw[];refine{i0,by lia,YL (λi σ H'=>(∃ r,Sc a U Y w m _ cs d H i r H')/\∃ y2 y3 y4,σ=[some _,some _,y2,y3,y4]) {{_,{P,rfl,λe=>XD P.wd PC e,SameBut.refl _}},x3 _ _ _ rfl} (λi σ H1 hi g=>?_) (λσ H1 g=>?_)};let[[r,J],y2,y3,y4,eσ]:=g;subst eσ;let[dp1,hob1]:=J.p.ob
 have er:=ι   (by rw[J.l];exact hi)
 have tk1:EE H H1:=λy ys e=>J.s _ _ e λz=>by
  let z||z:=z
  rw[z,N6]at e;cases e;rw[z,BL]at e;cases e
 revert er;generalize r[i]'(by rw[J.l];exact hi)=row;intro er
 have Pr:=J.c er;rw[if_neg (ji _)]at Pr
 have M:=J.p.wd _<|θ er;erw[vj];refine x2 _ _ {hob1,NX _ _ _,x6 U Y w r _ i {rfl,TP,J.p,λi' row' eb er' l hl=>?_,λz=>by rw[J.l]at z;lia}};obtain rfl:i=i':=ca eb;rw[er]at er';obtain rfl:=μ er';let[H2,N,s2,e2]:=EI  hl;rw[N];erw[cW1_];refine{{_,SqL.of e2},Y2  (λ_=>true) (BP _<|oA (υ (ba M) w6) rfl) (λj ys H'=>Same H2 H'/\Paired (CelV H') ys ((DS w d i).take j)) {Same.refl _,.nil} (λj ys H' hj ⟨s,P⟩=>{SqL.of<|s _ _ e2,?_}) (λj ys H' t o ⟨s,P⟩ h=>{ID s h,Paired.mapP P λv c=>CelV.keep (AL h).tk}) (λj x ys H' hx _ QB qb=>qb) (λj x ys H' hx _ g=>?_) (λj x ys H' hx hp=>by cases hp) (λys H3 g l2 DH=>?_)};rw[P.length,cz];lia
 have hj:j<w:=by rw[<-M];exact(η.mp hx).1
 let[s,P]:=g
 have hd':=s _ _<|s2 _ _<|J.s _ _ L λz=>z.elim ndl.1 ndl.2;erw[C1]
 have A0:i*w+j<cs.length:=by
  rw[n]
  have:=uy w<|hi
  lia
 refine{.inr {_,.inl hd'},by decide,λp hp=>{BF kvs<|pk w<|i*w+j,?_,ID s hp,?_}}
 have sp:=AL (o:=.tup [V.int i,V.int j]) hp;exact DGet.t (sp _ _ hd') (by rw[AG,z19 hj])
 have sp:=AL (o:=.tup [V.int i,V.int j]) hp
 have u:=ι (l:=d)  (by rw[HK];exact A0);revert u;generalize d[i*w+j]'(by rw[HK];exact A0)=c';intro u;let[c,ec,hv]:=LF Pr hx;rw[Rz hj]at ec;rw[J0  (by rw[Rz hj];exact u)]
 have s1p:=(s2.trans s).trans sp;refine Paired.snoc (Paired.mapP P λv c=>CelV.keep sp.tk) ?_;let[e1,O]||[v,e1,O]:=hc _ c c' ec u
 rw[e1,O];exact CelV.keep s1p.tk hv;rw[e1];exact CelV.keep s1p.tk<|CelV.keep tk1 O
 have D:(DS w d i).length=w:=by
  unfold DS;rw[cz,ic,HK,n]
  have:=uy w<|hi
  lia
 let[s,P]:=g;rw[M,dv<|ba D]at P;let[H4,N,s4,e4]:=EI  DH
 have A:=(s2.trans s).trans s4
 have P4:=Paired.mapP P λv c=>CelV.keep s4.tk
 have hys:ys.length=w:=by rw[P4.length,D]
 have B:Sc a U Y w m _ cs _ H i r H4:={J.p.same A,J.l,λe=>Paired.mapP (J.c e) λv c=>CelV.keep A.tk,J.s.trans A.sb}
 rw[N];erw[cW3_];refine Rp e4 ((s.trans s4) _ _ e2) P4 (Paired.mapP Pr λv c=>CelV.keep A.tk) (λc hc=>o2 c<|XG hc) (λc hc=>o1 c<|XG hc) (z18 hk) ?_;by_cases he:DS w d i=DS w cs i;refine E6 (by simp[he]) ({r,{by rw[Sb,if_pos he.symm];exact B.p,B.l,λ{b row} e=>?_,B.s}})
 have:=B.c e;by_cases T:b=i;rw[T,if_neg<|ji _]at this;rw[T,if_pos<|fh _,he];exact this;simp only[propext {λh=>lz (du h) T,λh=>ck h}];exact this;let[dp4,I]:=B.p.ob;let[tc4,hcl4,_]:=B.p.ls;refine F5 (by simp[he]) ?_;erw[cW2_];refine x2 _ _ {I,Ph _ _ _,x8 U Y w r _ _ l2 ys {rfl,TP,B.p,SqL.of e4,by lia,λi' eb hb' hyl H5 P5 KG=>?_,λz=>by rw[J.l]at z;lia}};obtain rfl:i=i':=ca eb
 have tk5:EE H4 H5:=λy ys e=>KG _ _ e λz=>by
  let z||z:=z
  rw[z,I]at e;cases e;rw[z,hcl4]at e;cases e
 refine{r.set i ys,{?_,by rw[jx];exact J.l,λ{b row} e=>?_,B.s.trans KG}};rw[Sb,if_neg<|λz=>he z.symm];exact P5;by_cases T:b=i;subst T;rw[gk (by rw[J.l];exact hi)]at e;obtain rfl:=μ e;rw[if_pos (fh _)];exact Paired.mapP P4 λv c=>CelV.keep tk5;rw[ia (λz=>T z.symm)]at e
 have:=B.c e;simp only[show(b<i+1)=(b<i)from propext {λh=>by exact lz (du h) T,λh=>by exact ck h}];exact Paired.mapP this λv c=>CelV.keep tk5;let[[r,J],y2,y3,y4,eσ]:=g;refine q r H1 J.p J.l (Ry (w:=w) (by rw[J.l,HK,n]) λ{b row} e=>?_) J.s
 have:=J.c e;rw[if_pos (by rw[<-J.l];exact(η.mp e).1)]at this;exact this
def TC{g:Vw}(ok:EO g):∀ c∈DO g,c.ok:=λc e=>by
 unfold DO at e;simp only[bh,a_]at e;rcases e with(((⟨x,b,rfl⟩|⟨x,b,rfl⟩)|⟨x,b,rfl⟩)|⟨x,b,rfl⟩)|⟨x,b,rfl⟩
 cases x with
 |none=>exact trivial
 |some d=>exact(ok.n1 d b).2
 cases x<;>exact trivial;cases x with
 |none=>exact trivial
 |some d=>exact ok.n3 d b
 cases x<;>exact trivial;cases x<;>exact trivial
def J7{α :Type}{f: α ->Cel}(h:∀ x,(f x).kind=k)(l:List α):(l.map f).map Cel.kind=az l.length k:=by
 rw[jh]
 induction l with
 |nil=>rfl
 |cons x r b=>rw[bu,b];exact congrArg (· ::_) (h x)
def z2b{b:Vw}(ok:EO b):(DO<|mended b).map Cel.kind=(DO b).map Cel.kind:=by
 have c:=XB ok
 have d:(mended b).rc.length=b.rc.length:=by
  show((ο _).map _).length=_;simp
 unfold DO;simp only[ak];rw[J7  (f:=Cel.nm) λz=>rfl,J7  (f:=Cel.rc) λz=>rfl,J7  (f:=Cel.pc) λz=>rfl,J7  (f:=Cel.mk) λz=>rfl,J7  (f:=Cel.mk) λz=>rfl,
  J7  (f:=Cel.nm) λz=>rfl,J7  (f:=Cel.rc) λz=>rfl,J7  (f:=Cel.pc) λz=>rfl,J7  (f:=Cel.mk) λz=>rfl,J7  (f:=Cel.mk) λz=>rfl,c.l1,c.l2,ok.l1,ok.l2,d]
 rfl
theorem Sd{P:List AN->V->Prop}:∀ {more kvs:zA},(∀ k v,BF kvs k=some v->P k v)->(∀ b∈more,P b.1 b.2)->∀ k v,BF (EX kvs more) k=some v->P k v
 | [],kvs,h,_=>h
 |p::r,kvs,h,d=>Sd  (kvs:=CF _ _ _) (λk v e=>by
   rw[IM]at e;by_cases z:k=p.1;rw[if_pos z]at e;obtain rfl:=μ e;rw[z];exact d p χ;rw[if_neg z]at e;exact h k v e) λb c=>d b<|τ _ c
theorem fM:∀ {more kvs:zA} {k:List AN},(BF kvs k).isSome=true->(BF (EX kvs more) k).isSome=true
 | [],_,_,h=>h
 |p::r,kvs,k,h=>fM  (kvs:=CF _ _ _) (by
   rw[IM];split
   rfl;exact h)
theorem Sg:∀ {more kvs:zA} {b:List AN × V},b∈more->(BF (EX kvs more) b.1).isSome=true
 | [],_,_,h=>by cases h
 |p::r,kvs,b,h=>by
  let rfl||h:=af.mp h
  exact fM  (kvs:=CF _ _ _) (by rw[IM,if_pos rfl];rfl);exact Sg (more:=r) h
def z2c(b:Lv):(FE d n r c w b).length<=2:=by
 cases b<;>simp[FE]
structure DuI(vw:Vw)(n r c w:Nat)(dl:Addr)(H2:Hp)(i:Nat)(kvs:zA)(H':Hp):Prop where
 s:Same H2 H'
 e:H' dl=some (.dT kvs)
 A:∀ k v,BF kvs k=some v->∃ lv∈FJ vw,∃ fx∈FE vw n r c w lv,k=pk w fx.1/\CelV H' v fx.2
 B:∀ j lv,j<i->(FJ vw)[j]? =some lv->∀ fx∈FE vw n r c w lv,(BF kvs<|pk w fx.1).isSome=true
 l:kvs.length<=2*i
def z2e(ok:EO b):(FJ b).length<=400:=by
 let[z,z,z,c,d,e]:=W2 ok
 have:=congrArg f_<|Qy b;unfold IW at this;simp only[ae,ε]at this
 lia
def Site.ground(S:Site K a H b d e n r c w rows m g):Ground K a H b d g:=x7 e n r c w _ m ⟨S.tv,S.tl,S.tp,S.la,S.pl,S.rl,S.pv⟩
def Site.same{b d e:Addr}{n r c w:Nat}{rows:yD}{m:Nat}{g:Vw}{H':Hp}(S:Site K a H b d e n r c w rows m g)(s:Same H H'):Site K a H' b d e n r c w rows m g:={S.tv,S.tl,S.tp,S.la.same s,S.pl.same s,S.rl,S.pv.same s.tk,S.w1,S.w6,S.n6,S.r6,S.c6}
example:(z2f,vJ,dF,5):=by
 apply QM;intro ly L cl n r c w rows m p [rfl,S,hf,q]
 have z1:=S.pv.ln
 have z2:=S.pv.lr
 have z3:=S.pv.lp
 have ok:=S.pv.ok
 have n6:=S.n6
 have r6:=S.r6
 have c6:=S.c6
 have rl:=S.rl;refine x3 ly L p {rfl,S.ground,λH1 M=>?_};rw[decide_eq_true hf];refine x3 ly L p {rfl,S.ground.same M,λfo H2 s s2 F2=>?_};rw[hf,jy]at F2
 have F0:=F2;rw[Qy]at F2
 have LG:=M.trans s2;let[ps,N,PF]:=F2;intro dl O;let[H3,zz0,s3,e3]:=EI  O
 have ln:=z2e ok
 have pl:ps.length=(FJ p).length:=by rw[PF.length,ε]
 rw[zz0];refine .inl {{_,SqL.of<|s3 _ _ N},HS  (λi σ H'=>(∃ kvs,DuI p n r c w dl H2 i kvs H')/\∃ y,σ=[some _,some _,some _,some _,y]) {{[],{s3,e3,λk v h=>(by cases h),λj u h=>absurd h<|me _,π _}},_,rfl} (by intro i σ H' _ [[_,J],_];exact SqL.of<|J.s _ _ N) (λi x σ H4 hx A=>?_) (λσ H4 A=>?_)};let[[kvs,J],y,B]:=A;subst B;rw[ψ,ai]at hx;let[fd,efd,rfl]:=hx;let[g,eg,FA]:=LF PF efd;rw[ψ,ai]at eg;let[u,D,rfl]:=eg
 have b:=θ D
 have hi:=(η.mp D).1;erw[dF4_];refine{.inr<|.inr<|.inl {rfl,.inr ⟨_,J.e⟩},QL ly L cl fd n r c w _ m p u {rfl,(S.same LG).same J.s,b,J.s _ _ FA,λdm more T hdm s5 e5 PM ap=>?_}}
 have ml:more.length<=2:=by rw[PM.length];exact z2c u
 have U:EE T (upd T dl<|.dT<|EX kvs more):=λy ys Y=>by rw[AJ (BI Y (s5 _ _ J.e) (λz=>nomatch z))];exact Y
 have jl:=J.l;refine x4 dl dm _ _ {rfl,rfl,BJ J.e hdm,s5 _ _ J.e,e5,λ_=>ap,BP _ (by lia),_,{λy o Y=>?_,AG,?_,λj lv' hj I l d=>?_,?_}};rw[AJ (BJ Y O)];exact s5 _ _<|J.s _ _ Y;refine Sd (λk v e=>?_) λkv hkv=>?_;let[lv',h1,l,h2,h3,h4]:=J.A k v e;exact{_,h1,l,h2,h3,CelV.keep U<|CelV.keep s5.tk h4};let[k,ek]:=RU hkv;let[l,efx,h1,h2]:=LF PM ek;exact{u,b,l,θ efx,h1,CelV.keep U h2};by_cases hji:j<i;exact fM<|J.B j _ hji I l d;obtain rfl:j=i:=jz (du hj) (cm hji);rw[D]at I;obtain rfl:=μ I;let[k,ek]:=RU d;let[kv,ekv,h1,_]:=KQ PM ek;rw[<-h1];exact Sg<|θ ekv
 have:=Y4 more kvs
 lia
 let[[kvs,J],y,B]:=A
 have S4:=(S.same LG).same J.s;subst B;let[dp,XR]:=S4.pl.ob;let[dp1,hgp1]:=(S.same M).pl.ob;let[tc1,hcl1,_]:=(S.same M).pl.ls;let[tc,BL,_]:=S4.pl.ls
 have nfo:fo≠L/\fo≠cl:={(BJ hgp1 s).symm,(BJ hcl1 s).symm}
 have ok2:=XB ok
 have g2:(mended p).rc.length=r*w:=by
  show((ο _).map _).length=_;simp[z2]
 erw[dF6_];refine x9 L cl dl w _ m _ _ _ {rfl,S.tp,S4.pl,by lia,S.w1,S.w6,J.e,S4.pv.asC,z2b ok,TC ok,TC ok2,λf x x' ex pN=>?_,λrows' T P5 hl5 PC5 KG=>?_}
 have A0:f<n*w+r*w+c*w+r*w+c*w:=by
  have:=(η.mp ex).1;rw[Rc p ok]at this
  lia
 cases ev:BF _ (pk w f)with
 |none =>
  refine .inl {rfl,?_}
  have:=z1z ok z1 z2 z3 hf A0 λu b l d e=>?_;rw[ex,pN]at this;exact μ this;let[j,I]:=RU b
  have:=J.B j u (by rw[ε,pl];exact(η.mp I).1) I l d;rw[e,ev]at this;cases this
 |some v =>
  let[u,b,l,d,e1,e2]:=J.A _ v ev
  have h3:=z1y ok z1 z2 z3 b d;rw[<-(Rq e1),pN]at h3;obtain rfl:=μ h3;exact .inr ⟨v,rfl,e2⟩
 have tk5:EE H4 T:=λy ys e=>KG _ _ e λz=>by
  let z||z:=z
  rw[z,XR]at e;cases e;rw[z,BL]at e;cases e
 exact q fo _ T (M.free s) ((F0.same J.s).on (λo e=>KG _ _ e λz=>z.elim nfo.1 nfo.2) tk5) P5 (by rw[hl5,rl]) (PlV.of PC5 z1 g2 z3 ok2) ((LG.trans J.s).sb.trans KG)
theorem Sh:∀ {b:zH},(∀ j,as.length<=j->C j=false)->sh M C (b++as)=sh M C as
 | [],_=>rfl
 |e::b,h=>by
  rw[oa,ET (by rw[h _ (by simp)];exact ay)];exact Sh h
def fN{b:cD}{z:Str}{k:Nat}:MK (CF b (.inr z) (.int (k:Nat)))=EZ (MK b) z k:=by
 funext y;unfold MK EU EZ;rw[IM];by_cases e:y=z;subst e;rw[if_pos rfl,if_pos rfl];rfl;rw[if_neg (λh=>e<|Kr h),if_neg e]
def fP{b:cD}{z:Str}{j:Nat}(h:MK b z=some j):j∈EU b z:=List.mem_of_mem_head? h
def LaidA.off{n r c w:Nat}{cs:yH}{as:zH}{B:Md}(h:LaidA n r c w H cs as)(b:∀ kind k,¬ k<BQ n r c w kind->B kind k=.no){C:yF}{kind k:Nat}(d:¬ k<BQ n r c w kind):sh B C as kind k=.no:=by
 induction h with
 |nil=>exact b _ _ d
 |@snoc cs as ch x l j o p q s i g =>
  by_cases c:C as.length=true;rw[C8 c];unfold Md.put;rw[if_neg (λe=>d (by rw[e.1,e.2];exact i))];exact g;rw[ET c];exact g
def z2g(b:∀ kind k,EB kind<|B kind k)(h:∀ x∈as,EB x.kind x.x)(kind k:Nat):EB kind (sh B C as kind k):=by
 induction as with
 |nil=>exact b _ _
 |cons x r d =>
  have d:=d λy e=>h y<|τ _ e;by_cases c:C r.length=true;rw[C8 c];unfold Md.put;split;rename_i z;rw[z.1];exact h x χ;exact d;rw[ET c];exact d
section
variable{X:SX}{cs:yH}{tks:cD}{M:Hs}
theorem SM.out(I:X.at a H cs tks M){j:Nat}(i:cs.length<=j):X.outs j=false:=by
 let[l,e,c,d]:=I.bk.bk.out;cases b:X.outs j with
 |false=>rfl
 |true =>
  rw[<-c,<-NA]at b;let[p,g,n]:=dt.mp b
  have:=d.2 p g
  lia
def C6.more{H':Hp}{ex:yH}{b:cD}{d:Hs}(I:C6 a H X cs tks M)(q:X.at a H' (cs++ex) b d)(sb:SameBut (λx=>X.S.A.F x\/x=X.S.tk) H H')(r:∃ o,Hist X.m0 d.b d.as (MK b) o)(l:d.b=M.b)(hs:∃ g,d.as=g++M.as/\∀ x∈g,EB x.kind x.x):C6 a H' X (cs++ex) b d:=by
 let[g,he,s]:=hs
 have out:∀ j:Nat,cs.length<=j->X.outs j=false:=λj i=>I.st.out i;refine{q,r,l ▸ I.bo,λk c n o=>?_,?_,I.few,λx e=>?_,I.w1};by_cases p:k<cs.length;rw[bc p]at n;exact I.cut k c n o;rw[out k (cm p)]at o;cases o;rw[l,he,Sh λj i=>out j (by rw[I.st.la.len];exact i)];exact I.rows.keep (LC sb λx e=>e.elim (λh=>I.st.bk.loose h) λh=>by rw[h];exact RW I.st.tk);rw[he]at e;let h||h:=bh.mp e
 exact s x h;exact I.ok x h
def XH{m:Nat}{z:Str}(h:cellOf M m z=none):∀ j r,j<m->M 0 j≠.nm z r:=λj r b e=>by
 have:=js.mp h j<|ao.mpr b;unfold E5 at this;rw[e]at this;simp at this
def fQ{cell:Nat}(h:HE 0 (M 0 cell)=true):M 0 cell=.no:=by
 cases e:M 0 _ with
 |no=>rfl
 |_=>rw[e]at h;simp[HE]at h
def Sj{kind k:Nat}(h:HE kind (M kind k)=true):M kind k≠.mk 1:=λe=>by
 rw[e]at h;simp[HE]at h
def C6.snd(I:C6 a H X cs tks M):Snd X.m0 (sh M.b X.C M.as):=by
 let[o,b]:=I.hi;exact b.sd _<|I.st.la.cut I.cut
def C6.now(I:C6 a H X cs tks M):Snd X.m0 M.f:=by
 let[o,b]:=I.hi;exact b.now
def C6.inl(I:C6 a H X cs tks M)(C:yF):InL X.n X.r X.c X.w (sh M.b C M.as):={λz z h=>I.st.la.off I.bo.no h,z2g I.bo.ok I.ok}
end
def Snd.few{n r c w:Nat}{S:Md}(s:Snd (n*w) S)(b:InL n r c w S){q m:Nat}{ps:wH}(h:S 3 q=.rc m ps):(∀ p∈ps,p<c*w)/\ps.length<=c*w:=by
 have lt:∀ p∈ps,p<c*w:=λp d=>by
  have e:=(s.pm q m ps h p d).1;let z||z:=ee p _
  exact z;rw[b.no 2 p (λg=>nL g z)]at e;cases e
 have:=ul (s.nd q m ps h)  λp d=>ao.mpr<|lt p d;rw[ce]at this;exact⟨lt,this⟩
def Snd.rl{n r c w:Nat}{S:Md}(s:Snd (n*w) S)(b:InL n r c w S){k q:Nat}{z:Str}(d:k<n*w)(e:S 0 k=.nm z q):∃ m ps,q<r*w/\S 3 q=.rc m ps:=by
 refine u2 ?_<|s.nl k z q d e;rintro m ps g;refine x2 m ps {?_,g};let h||h:=ee q _
 exact h;rw[b.no 3 q (λd=>nL d h)]at g;cases g
section
variable{X:SX}{cs:yH}{tks:cD}{M:Hs}
def C6.ps(I:C6 a H X cs tks M){r m:Nat}{ps:wH}(h:M 3 r=.rc m ps):(∀ p∈ps,p<X.c*X.w)/\ps.length<=18:=by
 have:=I.now.few (I.inl _) h;exact{this.1,υ this.2 I.few}
def C6.rl(I:C6 a H X cs tks M){k b:Nat}{z:Str}(c:k<X.m0)(e:M 0 k=.nm z b):∃ m ps,b<X.r*X.w/\M 3 b=.rc m ps:=I.now.rl (I.inl _) c e
def SM.sbG{G:yE}{H':Hp}(I:X.at a H cs tks M)(s:SameBut G H H')(g:∀ x,G x->ES (H x))(f:∀ x,G x->¬ X.S.A.F x/\x≠X.S.tk):X.at a H' cs tks M:=by
 let[[j,e],i,l,n,o,p,q,r,u,b,c,d]:=I;let[dl,w]:=i.ob
 have tk:=LC s g;exact{{j,s _ _ e λz=>(g _ z).2 _ _ _ e},i.sb s λz=>(g _ z).2 _ _ _ w,l.sb s g λx y=>(f x y).1,s _ _ n λz=>(f _ z).2 rfl,o,p,q,r,u.keep tk,λkind k v h1 h2 B=>(b _ k v h1 h2 B).keep tk,c,d.keep tk}
def C6.sbG{G:yE}{H':Hp}(I:C6 a H X cs tks M)(s:SameBut G H H')(g:∀ x,G x->ES (H x))(f:∀ x,G x->¬ X.S.A.F x/\x≠X.S.tk):C6 a H' X cs tks M:={I.st.sbG s g f,I.hi,I.bo,I.cut,I.rows.keep<|LC s g,I.few,I.ok,I.w1}
def C6.same{H':Hp}(I:C6 a H X cs tks M)(s:Same H H'):C6 a H' X cs tks M:={I.st.same s,I.hi,I.bo,I.cut,I.rows.keep s.tk,I.few,I.ok,I.w1}
def C6.write(I:C6 a H X cs tks M)(c:X.rows[b]? =some row)(d:(X.wr cs b row).at a H' cs tks M)(sb:SameBut (λx=>X.S.A.F x\/x=X.S.A.gp) H H'):C6 a H' (X.wr cs b row) cs tks M:=by
 let[i,g]:=I.st.bk.pk.ob;exact{d,I.hi,I.bo,zmj I.cut b,(I.rows.write I.st.la c).keep (λy ys e=>sb _ _ e λz=>z.elim (λz=>(I.st.bk.loose z).1 _ e) λz=>by rw[z,g]at e;cases e),I.few,I.ok,I.w1}
end
def Sk:Nat->CV->Cel
 |0,x=>.nm<|PN x
 |1,x=>.mk<|G0 x
 |2,x=>.mk<|G0 x
 |3,x=>.rc<|NU x
 |_,x=>.pc<|SG x
def HH(n r c kind:Nat):Nat:=if kind=0 then 0 else if kind=1 then n+r+c else if kind=2 then n+r+c+r else if kind=3 then n else n+r
def Sl(b:kind<5)(ok:EB kind x):RepC H x v↔CelV H v (Sk kind x):=by
 let _||_||_||_||_||k:=kind
 all_goals cases x<;>first|exact ok.elim|exact Ko
section
variable{n r c w:Nat}{S:Md}
def Sm(k:Nat):AZ (BX n r c w S).nm k=if k<n*w then PN (S 0 k)else none:=MT
def Sq(k:Nat):AZ (BX n r c w S).rc k=if k<r*w then NU (S 3 k)else none:=MT
def Sv(k:Nat):AZ (BX n r c w S).pc k=if k<c*w then SG (S 4 k)else none:=MT
def Sw(k:Nat):AZ (BX n r c w S).rm k=if k<r*w then G0 (S 1 k)else none:=MT
def Sx(k:Nat):AZ (BX n r c w S).pm k=if k<c*w then G0 (S 2 k)else none:=MT
def J8:(BX n r c w S).nm.length=n*w:=by simp[BX]
def J9:(BX n r c w S).rc.length=r*w:=by simp[BX]
def MU:(BX n r c w S).pc.length=c*w:=by simp[BX]
def InL.rc(b:InL n r c w S)(k:Nat):AZ (BX n r c w S).rc k=NU (S 3 k):=by
 rw[Sq];split
 rfl;rename_i h;rw[b.no 3 k (h)];rfl
def InL.nm(b:InL n r c w S)(k:Nat):AZ (BX n r c w S).nm k=PN (S 0 k):=by
 rw[Sm];split
 rfl;rename_i h;rw[b.no 0 k (h)];rfl
def InL.pc(b:InL n r c w S)(k:Nat):AZ (BX n r c w S).pc k=SG (S 4 k):=by
 rw[Sv];split
 rfl;rename_i h;rw[b.no 4 k (h)];rfl
def InL.rm(b:InL n r c w S)(k:Nat):AZ (BX n r c w S).rm k=G0 (S 1 k):=by
 rw[Sw];split
 rfl;rename_i h;rw[b.no 1 k (h)];rfl
def InL.pm(b:InL n r c w S)(k:Nat):AZ (BX n r c w S).pm k=G0 (S 2 k):=by
 rw[Sx];split
 rfl;rename_i h;rw[b.no 2 k (h)];rfl
def z2h(h:PN x=some (z,q)):x=.nm z q:=by
 cases x<;>simp[PN]at h;rw[h.1,h.2]
def z2i(h:NU x=some d):∃ m:Nat,x=.rc m d.2/\d.1=m:=by
 cases x with
 |rc m ps=>cases h;exact⟨m,rfl,rfl⟩
 |_=>cases h
def z2j(h:SG x=some z):x=.tx z:=by
 cases x with
 |tx y=>cases h;rfl
 |_=>cases h
def TF(q:Nat):led (BX n r c w S) q=ld (n * w) S q:=by
 unfold led ld NR BX;generalize ο _=l
 induction l with
 |nil=>rfl
 |cons k l b =>
  rw[bu,x_];cases e:S 0 k with
  |nm z d =>
   show List.count q (d::_)=_;rw[List.count_cons,b]
   rfl
  |_=>exact b
def Sy(h:0<ld (n*w) S q):∃ k z,k<n*w/\S 0 k=.nm z q:=by
 let[k,d,e]:=vc.mp h;cases b:S 0 k with
 |nm z g =>
  rw[b]at e
  have:g=q:=by simpa [GU]using e
  exact x2 k z {ao.mp d,by rw[<-this];exact b}
 |_=>rw[b]at e;cases e
def z2k(b:k<n*w)(e:S 0 k=.nm z q):0<ld (n*w) S q:=vc.mpr {k,ao.mpr b,by rw[e];simp[GU]}
def z2l(b:InL n r c w S)(h:0<FD (BX n r c w S) p):∃ q m ps,S 3 q=.rc m ps/\p∈ps:=by
 let[d,hd,g]:=uo.mp<|Bs.mp h;let[k,i,rfl]:=a_.mp hd;cases e:S 3 k with
 |rc m ps=>rw[e]at g;exact x3 k m ps ⟨e,g⟩
 |_=>rw[e]at g;cases g
def z2m(s:Snd (n * w) S)(p:Nat):FD (BX n r c w S) p<=1:=by
 refine zr.mp (List.pairwise_flatMap.mpr {λd hd=>?_,List.pairwise_map.mpr<|ip.imp λ{i j} l x b y g z=>?_}) p;let[k,v,rfl]:=a_.mp hd;cases e:S 3 k with
 |rc m ps=>exact s.nd k m ps e
 |_=>exact .nil
 cases e:S 3 i with
 |rc m ps =>
  cases o:S 3 j with
  |rc q u =>
   rw[e]at b;rw[o]at g;exact s.dj i j m q ps _ (bm l) e o x b (z ▸ g)
  |_=>rw[o]at g;cases g
 |_=>rw[e]at b;cases b
def N4(h:∀ k,k<n->p k=false):DQ n p f=[]:=by
 unfold DQ;rw[yo.mpr λk b=>by rw[h k (ao.mp b)];exact ay]
 rfl
def Snd.fault(s:Snd (n * w) S)(b:InL n r c w S):faults (BX n r c w S)=[]:=by
 have pm:∀ {p},0<FD _ p->S 2 p=.mk 1/\∃ t,S 4 p=.tx t:=λ{p} h=>by
  refine u3 ?_<|z2l b h;intro q m ps [e,g];exact s.pm q m ps e p g
 have o:∀ k,k<(BX n r c w S).nm.length->IA _ k=false:=λk d=>by
  unfold IA;rw[b.nm];cases e:S 0 k with
  |nm z q =>
   refine u2 ?_ (s.nl k z q (by rw[J8]at d;exact d) e);rintro m ps i
   show(AZ _ q).isNone=false;rw[b.rc,i];rfl
  |_=>rfl
 have u:∀ k,k<(BX n r c w S).nm.length->IV _ k=false:=λk d=>by
  unfold IV;rw[b.nm];cases e:S 0 k with
  |nm z q =>
   show List.any _ _=false;rw[wt];intro j l
   have l:=ao.mp l;rw[b.nm];cases v:S 0 j with
   |nm x A =>
    have d:k<n*w:=by rw[J8]at d;exact d
    show ¬ decide _=true;rw[decide_eq_true_eq];rintro rfl
    have:=s.un j k x A q (yj l d) d v e
    lia
   |_=>exact ay
  |_=>rfl
 have B:∀ p,p<(BX n r c w S).pc.length->decide (1<FD (BX n r c w S) p)=false:=λp g=>by
  have:=z2m (r:=r) (c:=c) s p
  lia
 have D:∀ p,p<(BX n r c w S).pc.length->(decide _&&(AZ _ p).isNone)=false:=λp g=>by
  by_cases h:0<FD (BX n r c w S) p;let[y,t,e]:=pm h;rw[b.pc,e,decide_eq_true h];rfl;rw[decide_eq_false h];rfl
 have I:∀ q,q<(BX n r c w S).rc.length->JW _ q=false:=λq J=>by
  unfold JW;rw[b.rc];cases e:S 3 q with
  |rc m ps =>
   have:=s.ct q m ps e
   show decide _=false;rw[TF];lia
  |_=>rfl
 have L:∀ q,q<(BX n r c w S).rc.length->(decide (0<led (BX n r c w S) q) && !decide (AZ (BX n r c w S).rm q=some 1))=false:=λq J=>by
  rw[TF,b.rm];by_cases h:0<ld (n*w) S q;refine u2 ?_<|Sy h;intro k z [d,e];refine u2 ?_<|s.nl k z q d e;rintro m ps i;rw[s.mr q m ps i,decide_eq_true h];rfl;rw[decide_eq_false h];rfl
 have M:∀ p,p<(BX n r c w S).pc.length->(decide _ && !decide (AZ (BX n r c w S).pm p=some 1))=false:=λp g=>by
  by_cases h:0<FD (BX n r c w S) p;rw[b.pm,(pm h).1,decide_eq_true h];rfl;rw[decide_eq_false h];rfl
 unfold faults R6 R7 R8;rw[N4 o,N4 u,N4 B,N4 D,N4 I,N4 L,N4 M]
 rfl
end
section
variable{n r c w:Nat}{S:Md}
def z2n(e:S 3 k=.rc m ps)(h:0<ld (n*w) S k):ED n r c w S 3 k=.rc (ld (n*w) S k) ps:=by
 unfold ED;simp only[lh,if_false,if_true,e];rw[if_neg (i_ h)]
def QF(h:ED n r c w S 3 k=.rc m ps):∃ b,S 3 k=.rc b ps/\0<ld (n*w) S k/\m=ld (n*w) S k:=by
 unfold ED at h;simp only[lh,if_false,if_true]at h;cases e:S 3 k with
 |rc b d =>
  rw[e]at h;simp only at h;split at h;cases h;cases h;exact{b,rfl,by lia,rfl}
 |_=>rw[e]at h;cases h
def Snd.mended(s:Snd (n*w) S)(b:InL n r c w S):Snd (n*w) (ED n r c w S):=by
 refine{λk z q i e=>?_,λq m ps e=>?_,λq m ps e=>?_,λq m ps e=>?_,λq m ps e p l=>?_,λq o m g ps u v e A=>?_,s.un};refine u2 ?_<|s.nl k z q i e;rintro m ps d;exact x2 _ _<|z2n d<|z2k i e;let[g,x,x,rfl]:=QF e;exact ba<|(λq=>rfl) q;let[g,d,h,x]:=QF e;unfold ED;simp only[d];rw[if_neg (i_ h)];exact s.mr q g ps d;let[g,d,x,x]:=QF e;exact s.nd q g ps d;let[g,d,h,x]:=QF e;let[h2,h4]:=s.pm q g ps d p l;refine{?_,h4};unfold ED;simp only[h2]
 have:0<HZ (BX n r c w S) p:=by
  refine Bs.mpr (uo.mpr {_,a_.mpr {q,di.mpr {ao.mpr ?_,?_},b.rc q},by rw[d];exact l});rw[J9];refine u2 ?_<|Sy h;intro k y [i,B];refine u2 ?_<|s.rl b i B;intro x x [h',x];exact h';rw[TF];exact decide_eq_true h
 lia
 let[x,d,x,x]:=QF e;let[x,j,x,x]:=QF A;exact s.dj q o _ _ ps _ v d j
def InL.mended(b:InL n r c w S):InL n r c w (ED n r c w S):=by
 constructor;intro kind k h
 have e:=b.no _ k h;unfold ED;split;rename_i z;subst z;rw[e,b.no 3 k<|h];split;rename_i z;subst z;rw[e];split;rename_i z;subst z;rw[e];exact e;intro kind k
 have e:=b.ok kind k;unfold ED;split;rename_i z;subst z;cases g:S 3 k with
 |rc m ps =>
  show EB 1 (if _ then _ else _);split;exact bt 1;exact e
 |_ =>
  cases d:S 1 k with
  |mk i =>
   show EB 1 (if _ then _ else _);rw[d]at e;split;exact bt 1;exact e
  |_=>rw[d]at e;exact e
 split;rename_i z;subst z;cases d:S 2 k with
 |mk i =>
  show EB 2 (if _ then _ else _);rw[d]at e;split;exact bt 1;exact e
 |_=>rw[d]at e;exact e
 split;rename_i z;subst z;cases d:S 3 k with
 |rc m ps =>
  show EB 3 (if _ then _ else _);split
  trivial
  trivial
 |_=>rw[d]at e;exact e
 exact e
def fR{α :Type}{f g:Nat-> α}{m:Nat}(h:∀ k,k<m->f k=g k):(ο m).map f=(ο m).map g:=vb λk b=>h k<|ao.mp b
def z2o(b:InL n r c w S):mended (BX n r c w S)=BX n r c w (ED n r c w S):=by
 unfold mended;rw[J9,MU]
 have d:(ο _).map (FY _)=(ο<|r*w).map λk=>NU (ED n r c w S 3 k):=fR λk y=>by
  unfold FY ED;rw[b.rc,TF];cases e:S 3 k with
  |rc m ps =>
   show(if ld _ S k=0 then none else some _)=NU _;split<;>rfl
  |_=>rfl
 have g:(ο _).map (K8 _)=(ο<|r * w).map λk=>G0 (ED n r c w S 1 k):=fR λk y=>by
  unfold K8 ED;rw[b.rc,b.rm,TF];cases e:S 3 k with
  |rc m ps =>
   show(if ld _ S k=0 then some 0 else G0 _)=G0 _;split<;>rfl
  |_ =>
   cases d:S 1 k with
   |mk i =>
    show(if(some (i:Int))=some 1 then some 0 else some _)=G0 (if i=1 then .mk 0 else .mk i);by_cases h:i=1;subst h;rfl;rw[if_neg h,if_neg (λz=>h (by exact ca<|μ z))];rfl
   |_=>rfl
 have j:(ο _).map (NS _)=(ο<|c*w).map λk=>G0 (ED n r c w S 2 k):=fR λk y=>by
  unfold NS ED;rw[b.pm];cases d:S 2 k with
  |mk i =>
   show(if some (i:Int)=some 1/\HZ _ k=0 then some 0 else some _)=G0 (if i=1/\HZ _ k=0 then .mk 0 else .mk i);by_cases h:i=1/\HZ (BX n r c w S) k=0;rw[if_pos h,if_pos {by rw[h.1];rfl,h.2}];rfl;rw[if_neg h,if_neg<|λz=>h {ca<|μ z.1,z.2}];rfl
  |_=>rfl
 rw[d,g,j]
 rfl
def Sz(ok:EO (BX n r c w S))(h1:kind<5)(b:k<BQ n r c w kind):(DO<|BX n r c w S)[HH n r c kind*w+k]? =some (Sk kind<|S kind k):=by
 unfold BQ at b;unfold HH;let _||_||_||_||_||kind:=kind
 ·simp only[if_true,vm,kg]at b ⊢;rw[fJ J8 b,Sm,if_pos b];rfl
 ·simp only[lh,if_false,if_true,kg,dw]at b ⊢;rw[S8 ok J8 J9 MU b,Sw,if_pos b];rfl
 ·simp only[lh,if_false,if_true,kg,xr,dw]at b ⊢;rw[XC ok J8 J9 MU b,Sx,if_pos b];rfl
 ·simp only[lh,if_false,if_true,kg,xr]at b ⊢;rw[QE J8 J9 b,Sq,if_pos b];rfl
 ·simp only[lh,if_false,if_true,kg,xr,dw]at b ⊢;rw[fK J8 J9 MU b,Sv,if_pos b];rfl
 ·lia
def z2p(b:1<=w):BM n r c w kind k=(HH n r c kind*w+k)/w/\k%w=(HH n r c kind*w+k)%w:=by
 constructor;rw[da,mq<|b];rfl;rw[da,mo]
def z2q(hf:f<(n+r+c+r+c)*w):∃ kind k,kind<5/\k<BQ n r c w kind/\f=HH n r c kind*w+k:=by
 simp only[dw]at hf;refine Rg (N:=n*w) (R:=r*w) (P:=c*w) (A:=λf=>∃ kind k,kind<5/\k<BQ n r c w kind/\f=HH n r c kind*w+k) (λh=>x2 0 f {by decide,h,by simp[HH]}) (λk h=>x2 3 k {by decide,h,rfl}) (λk h=>x2 4 k {by decide,h,by simp[HH,dw]}) (λk h=>x2 1 k {by decide,h,by simp[HH,dw]}) (λk h=>x2 2 k {by decide,h,by simp[HH,dw]}) hf
theorem Tb{α d :Type}{F: α -> d ->Prop}:∀ {l:List α} {m:List d},l.length=m.length->(∀ (i:Nat) x y,l[i]? =some x->m[i]? =some y->F x y)->Paired F l m
 | [],[],_,_=>.nil
 |x::l,y::m,h,f=>.cons (f 0 x y rfl rfl) (Tb (by simpa using h) λi a b e g=>f (i+1) a b e g)
 | [],_::_,h,_=>by simp at h
 |_::_,[],h,_=>by simp at h
def XI(P:PlankAt a H x y w rows m)(b:1<=w)(rl:rows.length=n+r+c+r+c)(h1:kind<5)(o:k<BQ n r c w kind):∃ v,(rows[BM n r c w kind k]?).bind (λq=>q[k%w]?)=some v/\rows.flatten[HH n r c kind*w+k]? =some v/\∃ q∈rows,v∈q:=by
 let[g,p]:=z2p      b
 have s:HH n r c kind*w+k<(n+r+c+r+c)*w:=by
  refine ω (Nat.add_lt_add_left o _) ?_;unfold BQ;rw[<-dw];refine uy _ ?_;unfold HH;let _||_||_||_||_||kind:=kind<;>simp<;>lia
 have i:BM n r c w kind k<rows.length:=by rw[rl,g];exact(ue<|b).mpr s
 have j:k%w<w:=sq _<|b
 have d:=ι i
 have u:=P.wd _<|θ d
 have l:=ι (show k%w<(rows[BM n r c w kind k]).length by rw[u];exact j)
 have e:(rows[BM n r c w kind k]?).bind (λq=>q[k%w]?)=some ((rows[BM n r c w kind k])[k%w]):=by rw[d];exact l
 refine{_,e,?_,_,θ d,θ l};rw[<-e,<-W9 P.wd i j,g,p,Go]
def z2r(P:PlankAt a H U Y w rows m)(u:1<=w)(sz:n<=6/\r<=6/\c<=6/\w<=6/\rows.length=n+r+c+r+c)(few:c*w<=18)(A:R3 H rows)(R:RowsAre H n r c w rows S)(b:InL n r c w S)(s:Snd (n*w) S):EO (BX n r c w S):=by
 let[D,I,z3,J,rl]:=sz
 have B:∀ {x:Nat},x<=6->x*w<=36:=λ{x} h=>jp h J;refine{λd hd=>?_,λd hd=>?_,λz hz=>?_,by simp[BX],by simp[BX],by rw[J8];exact oA (B D) rfl,by rw[J9];exact oA (B I) rfl,by rw[MU];exact oA few rfl};let[k,g,e]:=a_.mp hd
 have g:=ao.mp g
 have e:=z2h   e;rw[J9];refine u2 ?_<|s.rl b g e;intro y y [L,y];refine{L,?_};let[v,o,y,q,j,i]:=XI    P u rl (kind:=0)  (by decide) (g)
 have l:=R 0 k v (by decide) (g) o;rw[e]at l;let[t,rfl,M]:=l;let[xs,ex,y,N]:=A q j _ i;rw[M]at ex;cases ex;exact N _ χ;let[k,g,e]:=a_.mp hd;let[m,O,y]:=z2i e
 have:=s.few b O;exact{λp T=>by rw[MU];exact this.1 p T,oA (υ this.2 few) rfl};let[k,g,e]:=a_.mp hz;let[v,o,y,q,j,i]:=XI    P u rl (kind:=4)  (by decide) (by simpa [BQ]using g)
 have l:=R 4 k v (by decide) (by simpa [BQ]using g) o;rw[(z2j e)]at l;rw[l]at i;exact A q j _ i
def RowsAre.plv{rows:yD}(R:RowsAre H n r c w rows S)(P:PlankAt a H o p w rows m)(j:1<=w)(rl:rows.length=n+r+c+r+c)(b:InL n r c w S)(ok:EO (BX n r c w S)):PlV H rows n r c w (BX n r c w S):=by
 refine PlV.of (Tb ?_ λf v x e g=>?_) J8 J9 MU ok;rw[XF P.wd,Rc _ ok,J8,J9,MU,rl];simp only[dw]
 have hf:=(η.mp e).1;rw[XF P.wd,rl]at hf;refine u2 ?_<|z2q hf;intro kind k [h1,d,rfl];rw[Sz ok h1 d]at g;let[q,l,i,z]:=XI P j rl h1 d;obtain rfl:=μ g;rw[e]at i;obtain rfl:=μ i;exact(Sl h1<|b.ok _ _).mp (R _ k v h1 d l)
def PlV.rows{g i:Addr}{m:Nat}{rows:yD}(L:PlV H rows n r c w (BX n r c w S))(P:PlankAt a H g i w rows m)(j:1<=w)(rl:rows.length=n+r+c+r+c)(b:InL n r c w S):RowsAre H n r c w rows S:=λkind k v h1 e l=>by
 let[q,d,o,z]:=XI P j rl h1 e;rw[l]at d;obtain rfl:=μ d;let[x,ex,p]:=WY L.asC o;rw[Sz L.ok h1 e]at ex;obtain rfl:=μ ex;exact(Sl h1<|b.ok _ _).mpr p
def PlV.good{rows:yD}{g:Vw}(L:PlV H rows n r c w g):R3 H rows:=λq l v o=>by
 let[f,hf]:=List.mem_iff_getElem?.mp<|List.mem_flatten.mpr ⟨q,l,o⟩;let[x,ex,b]:=WY L.asC hf
 have ok:=TC L.ok x<|θ ex;cases x with
 | nm d =>
  cases d with
  |none=>rw[b];trivial
  |some d =>
   let[t,rfl,e]:=b;exact⟨_,e,by simp,λu j=>by
    simp only[af,bw,or_false]at j;let rfl||rfl:=j
    exact ok
    trivial⟩
 | rc d =>
  cases d with
  |none=>rw[b];trivial
  |some d =>
   revert b;apply u2;intro t u [rfl,e,p]
   have hd:some d∈g.rc:=by
    have:=θ ex;unfold DO at this;simp only[bh,a_,reduceCtorEq,and_false,exists_false,false_or,or_false,Cel.rc.injEq,exists_eq_right]at this;exact this
   exact⟨_,e,by simp,λx b=>by
    simp only[af,bw,or_false]at b;let rfl||rfl:=b
    trivial
    refine{_,p,by simp[AS];exact oA ((L.ok.n2 d hd).2) rfl,λy s=>?_};let[i,z,rfl]:=a_.mp s
    trivial⟩
 |pc d =>
  cases d with
  |none=>rw[b];trivial
  |some d=>rw[b];exact ok
 |mk d =>
  cases d with
  |none=>rw[b];trivial
  |some d=>rw[b];trivial
end
def z2s(s:Snd m0 S):∃ o,Hist m0 S [] (MK []) o:={λz=>none,λz z=>s,λz z z z z=>rfl,λz z=>rfl,λz z z z z z z=>Ko}
def fS{Q:Addr->Hp->Prop}{E:XK}(G:Gnd K a b j l p n r c w rows nn S)
  (q:∀ (X:SX) (d:Hp),X.S.lp=j->X.S.A.gp=l->X.S.A.cl=p->X.n=n->X.r=r->X.c=c->X.w=w->X.nn=nn/\X.outs=(λ_=>false)->(∀ y o,b y=some o->y=p\/¬ X.S.A.F y)->b X.S.tk=none->C6 a d X [] [] {S,[]}->Same b d->Q X.S.st d) :
  ∀ x g,b x=none->b g=none->g≠x->O1 K a [.ref x,.ref j,.ref l] (upd (upd b g<|.own x) x (.ins (a "Store") g [])) (λv d=>v=.non/\Q x d) E:=λx g u J nd=>by
 have i:Same b (upd (upd b g<|.own x) x (.ins (a "Store") g [])):=(AL J).trans (AL (by rw[AJ nd.symm];exact u));refine QL x g j l p n r c w _ nn S {rfl,G.t4,AG,G.la.same i,G.pl.same i,G.sz,λq L v s=>(G.gd q L v s).keep i.tk,λkind k v h1 M s=>(G.rw.keep i.tk) _ k v h1 M s,λkind k z z=>G.bo.ok _ k,λN d O T U Y off B I sb=>{rfl,?_}}
 have D:Same b d:=λy o e=>sb _ _ (i _ _ e) (BJ e u)
 have:=q {N,n,r,c,w,_,nn,λz=>false} d T U Y rfl rfl rfl rfl ⟨rfl,rfl⟩ (λy o e=>off y o<|i _ _ e) (by
  cases e:b _ with
  |none=>rfl
  |some o=>rw[i _ _ e]at B;cases B) {I,z2s G.sd,G.bo,λk c ec=>by simp at ec,G.rw.keep D.tk,G.few,λz h=>by simp at h,G.w1} D
 rw[<-O];exact this
def z2t(h:aW K a vs H Q E):dF K a (λ_=>E) (AW Q) (AX ["layout","plank","finds","due","find"] vs) H:=z2f h
def Gnd.site(G:Gnd K a H d e g n r c w rows nn S):Site K a H d e g n r c w rows nn (BX n r c w S):=by
 let[i,j,l,o,b]:=G.sz;exact{G.tv,G.t4.2.2.1,G.t4.2.1,G.la,G.pl,b,G.rw.plv G.pl G.w1 b G.bo<|z2r G.pl G.w1 G.sz G.few G.gd G.rw G.bo G.sd,G.w1,o,i,j,l}
example:(z2u,WK,Hd,2):=by
 apply QM;intro s g j n r c w rows nn S [rfl,G,q];let[dl,l]:=G.la.ob;let[dp,I]:=G.pl.ob;let[tc,J,x]:=G.pl.ls
 have u:¬ (s=g\/s=j):=λz=>by
  let z||z:=z
  rw[z,I]at l;injection l with z;injection z with _ _ z;exact absurd (congrArg f_ z) (by simp[pf,lf])
  rw[z,J]at l;cases l
 refine TZ s g j n r c w _ nn _ {rfl,G.site,G.sd.fault G.bo,λfo v L M F2 i B b p=>?_};rw[z2o G.bo]at b;refine fS  {G.tv,G.t4,G.la.sb p u,i,⟨G.sz.1,G.sz.2.1,G.sz.2.2.1,G.sz.2.2.2.1,B⟩,G.few,G.w1,b.good,b.rows i G.w1 B G.bo.mended,G.bo.mended,G.sd.mended G.bo} λX N O T U Y e5 e6 e7 D off ht C s3=>?_
 have old:∀ y,L y=none->H y=none:=λy e=>by
  cases e':H y with
  |none=>rfl
  |some o =>
   by_cases z:y=g\/y=j;let z||z:=z
   let[x,d]:=i.ob;rw[z,d]at e;cases e;let[x,A,x]:=i.ls;rw[z,A]at e;cases e;rw[p _ _ e' z]at e;cases e
 refine q X N O T U Y e5 e6 e7 {by rw[D.1,G.sz.2.2.2.2];rfl,D.2} (λy o e=>?_) (old _ ht) C (p.trans<|Same.sb s3);by_cases z:y=g\/y=j;let z||z:=z
 let[x,d]:=i.ob;rw[z];exact off g _ d;exact .inl z;exact off y o<|p _ _ e z
def C6.gnd(I:C6 a H X cs b M)(c:TV K a)(d:CO K a):Gnd K a H X.S.lp X.S.A.gp X.S.A.cl X.n X.r X.c X.w X.rows X.nn (sh M.b X.C M.as):={c,d,I.st.ly,I.st.bk.pk,I.st.sz,I.few,I.w1,I.st.gd.1,I.rows,I.inl _,I.snd}
def E7{M:Hs}{kind k:Nat}{x:CV}{nd:wH}:(M.put kind k x nd).f=M.f.put kind k x:=rfl
def FM{c kind k:Nat}{S:Md}{x:CV}(h:kind≠2):EH c (S.put kind k x)=EH c S:=by
 unfold EH
 congr 1
 funext j;rw[NM h.symm]
def fT{k:Nat}{S:Md}{x:CV}:∀ {c:Nat},k<c->EH c (S.put 2 k x)+(if PR (S 2 k)then 1 else 0)=EH c S+(if PR x then 1 else 0):=by
 intro c;unfold EH
 induction c with
 |zero=>intro h;exact nZ h
 |succ n d =>
  rw[bx,sx,sx];simp only[x_,Hu];by_cases e:k=n;subst e
  have:(ο k).countP (λj=>PR<|(S.put 2 k x) 2 j)=(ο k).countP (λj=>PR _):=Es λj b=>by
   rw[D1 (bm<|ao.mp b)]
  rw[CY]
  lia
  rw[D1 (λz=>e z.symm)]
  lia
theorem Tc{c d:Nat}:∀ {ps:wH} {M:Hs},ps.Nodup->(∀ p∈ps,p<c/\M 2 p=.mk 1)->EH c (M.unmark d ps).f+ps.length=EH c M.f
 | [],_,_,_=>rfl
 |p::ps,M,i,h=>by
  let[h1,h2]:=g_.mp i;let[j,e]:=h p χ
  have l:=Tc  (d:=d)  (M:=M.put 2 p (.mk 0) [d]) h2 λq b=>⟨(h q<|τ _ b).1,by
   rw[Hs.put_at,if_neg<|λ(z:2=2/\q=p)=>h1<|z.2 ▸ b];exact(h q<|τ _ b).2⟩
  have g:=fT (S:=M.f) (x:=.mk 0) j;rw[e]at g
  have g:EH c (M.put 2 p _ [d]).f+1=EH c _+0:=g
  show EH c ((M.put 2 p _ _).unmark d ps).f+_=_;rw[cf]
  lia
theorem TJ:∀ {ps:wH} {M:Hs},(M.unmark d ps).as=(ps.map λp=>({2,p,.mk 0,[d]}:AC)).reverse++M.as/\(M.unmark d ps).b=M.b
 | [],_=>⟨rfl,rfl⟩
 |p::ps,M=>by
  have:=TJ (d:=d) (ps:=ps) (M:=M.put 2 p (.mk 0) [d]);refine{?_,this.2};rw[bu,na,dk];exact this.1
def z2v:∀ i:Fin 26,(ζ "abcdefghijklmnopqrstuvwxyz").cps.toList[i.val]? =some (97+i.val):=by decide
def z2w{i:Int}{n:Nat}{Q:VK}(b:i=n)(c:n<26)(q:Q (.str {#[97+n]}) H):BZ K (.str<|ζ "abcdefghijklmnopqrstuvwxyz") (.int i) H Q:=eU b (by decide) (z2v ⟨n,c⟩) q
def XJ(q:∀ n:Nat,n<26->Q (.str {#[97+n]}) H):BZ K (.str<|ζ "abcdefghijklmnopqrstuvwxyz") (.int<|x%26) H Q:=by
 let[b,c,d]:=SV x (n:=26) (by decide);rw[show((26:Nat):Int)=26 from rfl]at c;rw[c];exact z2w rfl d<|q b d
theorem Td:∀ l:eG,(∀ x∈l,x.length=1)->(l.map (·.length)).sum=l.length
 | [],_=>rfl
 |x::r,h=>by
  rw[bu,xt,Td r λy b=>h y<|τ _ b,h x χ];exact tq _ _
section
variable{X:SX}{M:Hs}{y:Str}
end
def z2x:z∈JT M m↔∃ k d,k<m/\M 0 k=.nm z d:=by
 unfold JT;rw[lm];constructor;intro[k,g,e];let[p,b,rfl]:=ai.mp e;unfold E5 at b;cases c:M 0 k with
 |nm y r=>rw[c]at b;cases b;exact x2 k r {ao.mp g,c}
 |no=>rw[c]at b;cases b
 |mk i=>rw[c]at b;cases b
 |rc m ps=>rw[c]at b;cases b
 |tx t=>rw[c]at b;cases b
 intro[k,d,g,e];exact{k,ao.mpr g,by unfold E5;rw[e];rfl}
theorem Tg{c:Nat}{M:Hs}:∀ {ps:wH},(∀ p∈ps,p<c/\∃ t,M 4 p=.tx t)->∃ b,Paired (λp t=>p<c/\M 4 p=.tx t) ps b
 | [],_=>{[],.nil}
 |p::ps,h=>by
  let[b,P]:=Tg λq d=>h q<|τ _ d;let[h1,t,h2]:=h p χ;exact{_,.cons ⟨h1,h2⟩ P}
section
variable{X:SX}{cs:yH}{tks:cD}{M:Hs}
def C6.cell(I:C6 a H X cs tks M){k b:Nat}{z:Str}(c:k<X.m0)(e:M 0 k=.nm z b):cellOf M X.m0 z=some k:=by
 cases d:cellOf M _ z with
 |none=>exact absurd e<|XH d k _ c
 |some j =>
  let[g,i,l]:=Pz d;rw[I.now.un j k z i _ g c l e]
end
def z2y{p b:Addr}(h1:H p=some (.lst []))(h2:H b=some (.lst []))(q:Q (.bl true) H):LZ K (.ref p) (.ref b) H Q:=by
 have c:Dat K H 1 _ _:=Dat.lst  (SqL.of h1) .nil
 have d:Dat K H 1 _ _:=Dat.lst  (SqL.of h2) .nil;exact y2 {c.1,d.1,c.shp (by decide),d.shp (by decide),q}
def Th:EH c S<=c:=by
 refine υ List.countP_le_length ?_;rw[ce];exact π _
def z2z{c:Nat}:[c]<(ζ "0").cps.toList↔c<48:=by
 rw[show(ζ _).cps.toList=[48] by decide +kernel,iy];simp
def z20{c:Nat}:(ζ "9").cps.toList<[c]↔57<c:=by
 rw[show(ζ _).cps.toList=[57] by decide +kernel,iy];simp
def QH{b c st:Addr}:(hf b c st).lookup ("plan":Str)=some (.ref b):=rfl
def TK{c b st:Addr}:(hf c b st).lookup ("ground":Str)=some (.ref b):=rfl
example:(z21,a0,wT,1,h):=by
 revert h;refine u5 ?_;intro h b c d st [rfl,T,e,q];exact x3 _ _ _ ⟨e,T.cl,T.n2,_,TK,q⟩
example:(z22,aY,bV,1,h):=by
  let[z,rfl,hz,q]:=h;erw[bV,bV1_,bV2_]
  have d:z.cps.toList.length=z.length:=by simp[yg]
  unfold ML at q;rw[d]at q;refine{_,{BP _ (by lia),rfl},?_};split;rw[show decide _=true from decide_eq_true (by omega)]at q;by_cases h2:z.length<=3;rw[show decide _=true from decide_eq_true h2]at q;rw[if_neg (by omega)];refine eV hz (f:=λc=>decide (48<=c)&&decide (c<=57)) (λc l b=>?_) λH' s=>?_;erw[z2z,z20];split;rw[show decide _=true from decide_eq_true (by omega)]at b;rw[show(!decide _)=decide (c<=57) by rw[<-decide_not];exact decide_eq_decide.mpr (by lia)];exact b;rw[show decide _=false from decide_eq_false (by omega)]at b;exact b
  have b:=q H' s;revert b;cases z.cps.toList.all _ with
  |false=>intro b;exact b
  | true =>
    intro b
    have i:(ζ "0").cps.toList=[48]:=by decide
    by_cases h4:z=ζ "0";rw[if_pos h4];rw[h4]at b;exact b;rw[if_neg h4];rw[decide_eq_false (λe=>h4 (by rw[<-ZG z,e,<-i]))]at b;cases g:z.cps.toList with
    |nil=>rw[g]at d;simp at d;omega
    | cons c r =>
      refine eU  rfl (by omega) (by rw[g];rfl) ?_;rw[g]at b
      have j:(!decide ({#[c]}=ζ "0"))=decide ((c::r).head? ≠some 48):=by
        rw[<-decide_not];refine decide_eq_decide.mpr<|not_congr {λe=>?_,λe=>?_}
        have:=congrArg (λs:Str=>s.cps.toList) e;rw[i]at this;simpa using this
        · simp at e
          rw[e];decide +kernel
      erw[];rw[j];exact b
  rw[show decide (z.length<=3)=false from decide_eq_false h2]at q;rw[if_pos (by omega)];exact q H<|Same.refl _;rw[show decide (1<=z.length)=false from decide_eq_false (by omega)]at q;exact q H<|Same.refl _
example:(z23,WL,bW,3,h):=by
 revert h;refine u5 ?_;intro t ol e out held [rfl,[b,c,hs,d,P],h1,h2,q];erw[bW,bW0_,bW1_,bW2_];exact BU b  rfl rfl {_,.inl {_,SqL.of c,by rw[ε]},BU b  rfl rfl {_,.inl {_,SqL.of d,by rw[ε,P.length]},by lia,by omega,by lia,by omega,q}}
example:(z24,SH,bX,1,h):=by
 revert h;refine u2 ?_;intro l b [rfl,e,c,q];erw[bX,bX0_];unfold MN at q;refine{_,.inl {_,SqL.of e,by rw[ε]},?_};cases b with
 |nil=>exact q
 |cons k r =>
  rw[if_pos (by simp)];exact{rfl,x3 _ l _ {rfl,rfl,SqL.of e,by decide,by lia,q}}
example:(z25,aZ,Al,3,h):=by
 let[z,rfl,T,hz,c,b]:=h;refine{rfl,x2 z _ {rfl,rfl,by decide,by omega,λt g=>BU AG  rfl rfl ?_}}
 have j:=AL (o:=.tup [.str (Txt.partition z<|ζ " ").1,.str (Txt.partition z<|ζ " ").2.1,.str (Txt.partition z<|ζ " ").2.2]) g;revert j;generalize upd H t _=M;intro j;rw[zl1 z (by omega)];unfold ER MM at c b
 have hs:=ZI z
 have v:=zl0 z
 have x:∀ w∈CW _,w.length<=z.cps.toList.length:=λw h=>VC h;revert c b hs v x;generalize CW _=ws;generalize C7 _=k;intro c b hs v x;erw[Al2_];cases g:HU _ k with
 |none =>
  simp only[g]at b;exact{by decide,b trivial _ j}
 | some n =>
  simp only[g]at c b;rw[if_neg (by simp)]
  have fin:∀ {vs:List _} {l:Addr} {q:Hp},(if k=("put")then VB ws else ws)=vs->H l=none->Same H q->q l=some (.lst<|(vs.map C7).map V.str)->Al5 K a (λ_=>E) (λ_=>E) { nx:=AH (Al7 K a (λ_=>E) λ_=>E) (Al8 K a (λ_=>E) λ_=>E) (AW Q),rt:=Q } [some (.str z),some<|.str k,some<|.ref l] q:=by
   intro vs l q y i r s;rw[y]at c b;erw[Al5_];refine{vs.length,.inl {_,SqL.of s,by rw[ε,ε]},n,g,?_};by_cases p:(vs.length:Int)=n;rw[if_neg (by simpa using p)];rw[if_neg (by simpa using p)]at c b;refine x2 _ _ {rfl,.inr<|T.wn q,rfl,rfl,?_}
   have J:OG (.str k) (NV.map V.str)=decide (k∈NV):=by
    show((ζ "take")==k||((ζ "write")==k||false))=_;rw[jd];simp only[mh,beq_iff_eq,l8,or_false,decide_eq_true_eq,NV,af,bw];exact{λh=>h.imp Aa Aa,λh=>h.imp Aa Aa}
   rw[J];erw[];by_cases d:k∈NV;refine F5 d ?_
   have D:vs≠[]:=λe=>by
    rw[e]at p
    have:n=0:=p.symm;rw[this]at g;rcases(show k=("take":Str)\/k=("write":Str) by simpa [NV]using d)with h|h
    ·rw[h]at g;revert g;decide +kernel
    ·rw[h]at g;revert g;decide +kernel
   obtain⟨us,u,rfl⟩:∃ us u,vs=us++[u]:=x2 vs.dropLast (vs.getLast D) ((List.dropLast_concat_getLast D).symm);refine .inl<|x4 l _ _ (.str<|C7 u) {rfl,rfl,SqL.of s,?_,C7 u,rfl,?_,λN A=>?_};rw[ak,ak];exact zl2;rw[if_neg (λe=>by rw[e]at d;revert d;decide +kernel)]at y
   have:=x u (by rw[y];exact ci _ χ)
   show u.toArray.size<=_;rw[aw]
   have O:z.cps.toList.length=z.length:=by simp[yg]
   omega
   ·rw[show ML ((us++[u]).getLastD [])=ML u by simp]at c b
    have L:(C7 u).cps.toList=u:=rfl;rw[L];cases I:ML u with
    |false =>
     rw[if_pos ⟨d,I⟩]at b;erw[Al6_];exact{by decide,b rfl _<|r.trans A}
    |true =>
     rw[if_neg (by rw[I];simp)]at c;erw[Al8_];exact c _ rfl _ _ i (r.trans A) (A _ _ s)
   ·refine E6 d ?_;rw[if_neg λz=>d z.1]at c;erw[Al8_];exact c _ rfl _ _ i r s
   ·rw[if_pos p];rw[if_pos p]at b;erw[Al4_];exact{by decide,b rfl _ r}
  erw[Al3_];split;rename_i d;refine{rfl,x2 z _ {rfl,by decide +kernel,by omega,.inr {2,by omega,rfl,λl i=>?_}}}
  have B:Txt.splitMax z (ζ " ") ((2:Nat):Int)=(VB ws).map C7:=v;rw[B];exact fin (if_pos d) (j.free i) (j.trans<|AL i) AG;rename_i d;refine{rfl,x2 z _ {rfl,by decide +kernel,by omega,.inl {rfl,λl i=>?_}}};rw[hs];exact fin (if_neg d) (j.free i) (j.trans<|AL i) AG
section
variable{st l:Addr}{k:Str}{us:eI}
abbrev KA(K:W.Frag)(a:Ad)(st l:Addr)(k:Str)(H:Hp)(Q:VK)(E:XK)(f:W.Frag->Ad->XE->XE->TS):Prop:=f K a (λ_=>E) (λ_=>E) (AW Q) [some (.ref st),some<|.ref l,some<|.str k] H
def z26(h0:H l=some (.lst (V.str k::us)))(h1:k=("make":Str)->KA K a st l k H Q E Jl1)(h2:k=("link":Str)->KA K a st l k H Q E Jl2)(h3:k=("cut":Str)->KA K a st l k H Q E Jl3)(h4:k=("put":Str)->KA K a st l k H Q E Jl4)(h5:k=("take":Str)->KA K a st l k H Q E Jl5)(h6:k≠("make":Str)->k≠("link":Str)->k≠("cut":Str)->k≠("put":Str)->k≠("take":Str)->KA K a st l k H Q E Jl6):BZ K (.ref l) (.int 0) H λx H'=>Jl11 K a (λ_=>E) (λ_=>E) (AW Q) [some (.ref st),some<|.ref l,some x] H':=by
 refine CJ (SqL.of h0)  rfl rfl ?_;erw[Jl11_];split;exact h1 ‹_›;erw[Jl10_];split;exact h2 ‹_›;erw[Jl9_];split;exact h3 ‹_›;erw[Jl8_];split;exact h4 ‹_›;erw[Jl7_];split;exact h5 ‹_›;exact h6 ‹_› ‹_› ‹_› ‹_› ‹_›
end
example:(z27,SI,Jl,3):=by
 intro[st,l,ws,rfl,[j,n,b,tk,d],c,h];let[y,rfl,h]||[y,t,rfl,h]||[y,z,rfl,h]||[y,z,rfl,h]||[y,rfl,h]||[y,w,x,rfl,g,i,h]:=h<;>refine z26 c ?_ ?_ ?_ ?_ ?_ ?_<;>first|exact λe=>absurd e (by decide)|exact λh1 h2 h3 h4 h5=>(by first|exact absurd rfl h1|exact absurd rfl h2|exact absurd rfl h3|exact absurd rfl h4|exact absurd rfl h5)|intros
 exact x2 _ _ {d,BR,CJ (SqL.of c)  rfl rfl h};exact x2 _ _ {d,BR,CJ (SqL.of c)  rfl rfl (CJ (SqL.of c)  rfl rfl h)};exact x2 _ _ {d,BR,CJ (SqL.of c)  rfl rfl (CJ (SqL.of c)  rfl rfl h)};exact x2 _ _ {d,BR,CJ (SqL.of c)  rfl rfl (CJ (SqL.of c)  rfl rfl h)};exact x2 _ _ {d,BR,CJ (SqL.of c)  rfl rfl h};exact x2 _ _ {d,BR,CJ (SqL.of c)  rfl rfl (CJ (SqL.of c)  rfl rfl (x2 w x ⟨rfl,g,i,h⟩))}
def fU:∀ b:Fin 100,(B9 (b.val:Nat)).length<=2:=by decide
theorem fV:∀ {row:wH},(∀ b∈row,b<100)->((row.map λ(b:Nat)=>B9 b).map (·.length)).sum<=2*row.length
 | [],_=>π _
 |b::row,h=>by
  have h2:=fV  λc d=>h c<|τ _ d
  have h1:=fU {b,h b χ};simp only[bu,xt,cf]
  lia
def z28{d:VK}{vs:eI}(h:ME K a vs H Q E)(f:∀ v H',Q v H'->d v H'):ME K a vs H d E:=by
 let[X,cs,b,M,z,e,T,I,q,g]:=h;refine{X,cs,b,M,z,e,T,I,λcell c h1 h2 h3=>?_,g};let[i,j,ps,n,o,p,q]:=q cell c h1 h2 h3;exact{i,j,ps,n,o,p,λl row R H' r s c3 u c5 w=>f _ _<|q l row R H' r s c3 u c5 w}
section
variable{st l:Addr}{k:Str}{us:eI}
def z29(h0:H l=some (.lst (V.str k::us)))(h1:k=("write":Str)->KA K a st l k H Q E dQ1)(h2:k=("keep":Str)->KA K a st l k H Q E dQ3)(h3:k=("show":Str)->KA K a st l k H Q E dQ5)(h4:k≠("write":Str)->k≠("keep":Str)->k≠("show":Str)->KA K a st l k H Q E dQ7):dQ K a (λ_=>E) (AW Q) (AX ["","",""] [.ref st,.ref l]) H:=by
 refine CJ (SqL.of h0)  rfl rfl ?_;erw[dQ2_];split;exact h1 ‹_›;erw[dQ4_];split;exact h2 ‹_›;erw[dQ6_];split;exact h3 ‹_›;exact h4 ‹_› ‹_› ‹_›
end
example:(z3a,SJ,dQ,3):=by
 intro[st,l,ws,rfl,[J,L,b,tk,n],g,h];let[b,rfl,o,h]||[y,rfl,h]||[rfl,h]||[y,rfl,h]:=h<;>refine z29 g ?_ ?_ ?_ ?_<;>first|exact λe=>absurd e (by decide)|exact λh1 h2 h3=>(by first|exact absurd rfl h1|exact absurd rfl h2|exact absurd rfl h3)|intros
 exact x2 _ _ {n,BR,CJ (SqL.of g)  rfl rfl (x2 _ b {rfl,υ (K0 (by lia) (by lia)) (by lia),W.KIN.num_reads (by lia) (by lia),h})};erw[dQ3_];refine CJ (SqL.of g)  rfl rfl (z28 h ?_);intro v D [p,row,rfl,A,M,o,q];refine .inl {{_,SqL.of A},?_}
 have r:(AS row).length=row.length:=by unfold AS;rw[ε]
 refine UT (xs:=AS row) (BP _ (by lia)) (λi ys H'=>H'=D/\ys=(row.take i).map λ(b:Nat)=>V.str<|B9 b) ⟨rfl,rfl⟩ (λi ys H' z q=>by rw[q.1];exact SqL.of A) (λi x ys H' s u w=>?_) (λys H' u w I d=>?_);let[e,j]:=w;unfold AS at s;rw[ψ,ai]at s;let[c,B,rfl]:=s
 have:=o c<|θ B;refine{_,rfl,by lia,by lia,e,?_};rw[cu,B,ak,j]
 rfl;let[e,j]:=w;rw[e]at d ⊢;rw[r,dv<|π _]at j
 have:=fV o;exact x2 I _ {rfl,by rw[AG,j,jh];rfl,by rw[ε];lia,q _<|AL d};exact x2 _ _ ⟨n,BR,h⟩;exact{rfl,x2 _ _ {n,BR,CJ (SqL.of g)  rfl rfl h}}
def TM(X:SX)(H:Hp)(x:Addr):Prop:=(∃ C b fs,H x=some (.ins C b fs)/\∀ c v d,fs≠GD c v d)/\X.S.st≠x/\X.S.lp≠x/\X.S.A.b≠x/\X.S.A.gp≠x
def SM.far{X:SX}{cs:yH}{w:cD}{M:Hs}{G:yE}{H':Hp}(I:X.at a H cs w M)(s:SameBut G H H')(g:∀ x,G x->TM X H x\/(ES (H x)/\¬ X.S.G x)):X.at a H' cs w M:=by
 have p:EE H H':=λy ys h=>s _ _ h λz=>(g _ z).elim (λ⟨⟨C,d,f,e,_⟩,_⟩=>by rw[e]at h;cases h) λl=>l.1.1 _ h
 have D:∀ {y Y b:Addr} {B:cC},H y=some (.ins Y b B)->¬ TM X H y->H' y=some (.ins Y b B):=λh n=>s _ _ h λz=>(g _ z).elim n λl=>l.1.2 _ _ _ h
 have u:∀ {y:Addr} {o:HO},H y=some o->X.S.A.F y->H' y=some o:=λh hf=>s _ _ h λz=>(g _ z).elim (λ⟨⟨C,d,f,e,_⟩,_⟩=>(I.bk.loose hf).2 _ _ _ e) λq=>q.2<|.inl hf;let[[d1,e1],e2,[[[d3,b1],[J,b2,b3],b4,b5,b6,[kvs,b7,b8],[DW,b9,L],r1,r2,r3,r4,r5],[[d4,p1],[ts,p2,p3],q1,q2,q3],nb],N,e5,e6,e7,e8,e9,O,T,U]:=I;let[dl,el]:=e2.ob;refine{{d1,D e1 λz=>z.2.1 rfl},e2.sb s λz=>(g _ z).elim (λz=>z.2.2.1 rfl) λl=>l.1.2 _ _ _ el,{{{d3,D b1 λz=>z.2.2.2.1 rfl},{J,u b2<|.inl rfl,Paired.mapP b3 λx c h=>?_},u b4<|.inr<|.inl rfl,λi l h=>u (b5 i l h) (.inr<|.inr<|.inl<|θ h),b6,{kvs,u b7<|.inr<|.inr<|.inr<|.inl rfl,b8},{DW,u b9<|.inr<|.inr<|.inr<|.inr<|.inl rfl,L},r1,r2,r3,r4,r5},{{d4,D p1 λz=>z.2.2.2.2 rfl},{ts,u p2<|.inr<|.inr<|.inr<|.inr<|.inr rfl,Paired.mapP p3 λt r q=>p _ _ q},q1,q2,q3},nb},s _ _ N λz=>(g _ z).elim (λ⟨⟨C,d,f,e,_⟩,_⟩=>by rw[e]at N;cases N) λq=>q.2<|.inr rfl,e5,e6,e7,e8,e9.keep p,λkind k v h1 h2 hv=>(O kind k v h1 h2 hv).keep p,T,U.keep p};let[b,pl,nt,j,c2,c3]:=h;exact{b,pl,nt,D j λ⟨⟨C,d,f,e,n⟩,_⟩=>by rw[e]at j;injection j with j;injection j with _ _ j;exact n _ _ _ j,p _ _ c2,p _ _ c3}
def Tj{b c st:Addr}:(hf b c st).lookup ("store":Str)=some (.ref st):=rfl
def z3b{k:Str}{Q:VK}(T:EQ K a)(q:Q (.bl<|decide<|k∈K9) H):RI K (.str k) (.ref<|a "DEEDS") H Q:=by
 have b:OG (.str k) (K9.map V.str)=decide (k∈K9):=by
  show((ζ _)==k||((ζ _)==k||((ζ _)==k||((ζ _)==k||((ζ _)==k||((ζ _)==k||false))))))=_;rw[jd]
  have e:∀ {x:Str},x=k↔k=x:=⟨Aa,Aa⟩
  simp only[mh,beq_iff_eq,l8,decide_eq_true_eq,K9,af,bw];rw[e,e,e,e,e,e]
 refine x2 _ _ {rfl,.inr<|T.dd H,rfl,rfl,?_};rw[b];exact q
example:(z3c,GG,Kv,3):=by
 intro[h,o,p,r,st,z,rfl,T,d,i,hz,w,ws,e,q];refine{z,rfl,T,hz,λj b l n s c g=>?_,λb=>by rw[e]at b;cases b};rw[e]at b;obtain rfl:=μ b
 have q:=q l n c g;erw[Kv3_];refine CJ (SqL.of g)  rfl rfl (z3b T ?_);erw[];let[hd,q]||q:=q
 exact F5 hd<|x3 _ _ _ {c _ _ d,T.ho.cl,T.ho.n3,_,Tj,q};refine E6 (q.elim (λq=>by rw[q.1];decide +kernel) λq=>q.1) ?_;refine CJ (SqL.of g)  rfl rfl ?_;erw[];let[hd,q]||[_,hd,q]:=q
 exact F5 hd<|x2 _ _ {c _ _ d,rfl,q};exact E6 hd<|x3 _ _ _ {c _ _ d,T.ho.cl,T.ho.n3,_,Tj,q}
def KB{x h C d c g:Addr}{fs b:cC}{k:Str}(i:H h=some (.ins C d fs))(e:H x=some (.ins c g b))(k1:fs.lookup k≠none)(k2:b.lookup k=none):x≠h:=λz=>by
 rw[z,i]at e;injection e with e
 injection e with _ _ e
 exact k1<|e ▸ k2
def C6.far{X:SX}{cs:yH}{b:cD}{M:Hs}{G:yE}{H':Hp}(I:C6 a H X cs b M)(s:SameBut G H H')(g:∀ x,G x->TM X H x\/(ES (H x)/\¬ X.S.G x)):C6 a H' X cs b M:={I.st.far s g,I.hi,I.bo,I.cut,I.rows.keep (λy ys e=>s _ _ e λz=>(g _ z).elim (λ⟨⟨C,d,f,c,_⟩,_⟩=>by rw[c]at e;cases e) λl=>l.1.1 _ e),I.few,I.ok,I.w1}
def C6.oth{X:SX}{cs:yH}{d:cD}{M:Hs}{h C e:Addr}{fs:cC}(I:C6 a H X cs d M)(b:H h=some (.ins C e fs))(c:fs.lookup ("plan":Str)≠none)(g:fs.lookup ("ground":Str)≠none):TM X H h:=by
 let[y,i]:=I.st.ob;let[y,j]:=I.st.ly.ob;let[y,l]:=I.st.bk.bk.ob;let[y,n]:=I.st.bk.pk.ob;exact{{_,_,_,b,λo v p z=>c (by rw[z];rfl)},KB b i g BR,KB b j c B0,KB b l c DC,KB b n c (JO _ _ _ (by decide +kernel) (by decide +kernel) (by decide +kernel))}
def C6.farh{X:SX}{cs:yH}{b:cD}{M:Hs}{h C d:Addr}{fs c:cC}(I:C6 a H X cs b M)(g:H h=some (.ins C d fs))(i:fs.lookup ("plan":Str)≠none)(j:fs.lookup ("ground":Str)≠none):C6 a (upd H h<|.ins C d c) X cs b M:=I.far (G:=(· =h)) (λy o e n=>by rw[AJ n];exact e) λx z=>.inl<|z ▸ I.oth g i j
def HsC.same{h:Addr}{X:SX}{cs:yH}{b:cD}{M:Hs}{H':Hp}(A:HsC a H h X cs b M)(s:Same H H'):HsC a H' h X cs b M:=by
 let[[c,e],I]:=A;exact{{c,s _ _ e},I.same s}
def HsC.st{h:Addr}{X:SX}{cs:yH}{b:cD}{M:Hs}(A:HsC a H h X cs b M):WM a H X.S.st:=by
 let[c,e]:=A.2.st.ob;exact x4 c _ _ _ e
def z3d{c d st b:Addr}:BO (ζ "store") (.ref b) (hf c d st)=hf c d b:=by
 unfold hf;rw[OV (by decide),OV (by decide)];unfold BO;rw[if_pos (by decide)]
def Tk{b:Vw}(ok:EO b):(IW b).length<=400:=by
 have h2:=D4 (p:=λr=>(AZ b.rc r).isSome&&decide (led b r=0)) (f:=λr=>[.str "left",.str "record",.int r]) ok.br
 have h1:=D4 (p:=GZ b) (f:=λr=>[.str "many",.int r,.int<|led b r]) ok.br
 have h4:=D4 (p:=λr=>decide (AZ b.rm r=some 1)&&(AZ b.rc r).isNone) (f:=λr=>[.str "marked",.int r]) ok.br
 have h3:=D4 (p:=λp=>decide (AZ b.pm p=some 1)&&decide (HZ b p=0)) (f:=λp=>[.str "left",.str "piece",.int p]) ok.bp;simp only[IW,PJ,PK,PL,ae]
 lia
example:(z3e,SK,dN,2):=by
 intro[h,X,cs,tks,M,rfl,T,B,[[D,g],I],q]
 have J:=T.s4
 have G:=I.gnd B J
 have S:=G.site;erw[dN,dN0_];refine{_,_,_,g,T.ho.cl,T.ho.n1,_,QH,_,_,_,g,T.ho.cl,T.ho.n2,_,TK,X.S.lp,X.S.A.gp,_,rfl,⟨_,_,_,_,_,_,_,S.tv,S.tl,S.tp,S.la,S.pl,S.rl,S.pv⟩,λl H1 i c j=>?_};let[ps,p,r]:=j;rw[G.sd.fault G.bo,jy]at r
 have s:=I.same c
 have b:=c _ _ g;erw[dN1_];refine{_,_,_,b,T.ho.cl,T.ho.n1,_,QH,_,_,_,b,T.ho.cl,T.ho.n2,_,TK,X.S.lp,X.S.A.gp,X.S.A.cl,X.n,X.r,X.c,X.w,X.rows,X.nn,_,rfl,s.gnd B J,λX' L N O b3 b4 b5 b6 b7 U off ht C' sb=>?_}
 have Y:X.S.A.F X.S.A.cl:=.inr<|.inr<|.inr<|.inr<|.inr rfl;let[x,ep]:=s.st.bk.pk.ob
 have u:=KB b ep (k:="plan") (by rw[QH];nofun) (JO _ _ _ (by decide +kernel) (by decide +kernel) (by decide +kernel))
 have v:X.S.A.cl≠h:=λz=>(s.st.bk.loose Y).2 _ _ _ (z ▸ b)
 have d:L h=some (.ins (a "House") D (hf X.S.lp X.S.A.gp X.S.st)):=sb _ _ b λz=>z.elim (λz=>u z.symm) λz=>v z.symm
 have w:L l=some (.lst<|ps.map V.ref):=sb _ _ p λz=>z.elim (λz=>by rw[z,ep]at p;cases p) λz=>I.st.bk.off i<|z ▸ Y
 have nl:l≠h:=λz=>by rw[z,g]at i;cases i
 refine{_,_,_,d,T.ho.cl,T.ho.n3,by show 3<1000;decide,?_};rw[z3d];erw[dN2_]
 have bl:ps.length<1000000:=cg (r.length ▸ Tk S.pv.ok) (by decide);refine{ps.length,.inl {_,SqL.of (by rw[AJ nl];exact w),by rw[ε]},_,rfl,by lia,by lia,?_};rw[r.length];refine q X' _ {{D,by rw[N,O];exact AG},C'.farh d (by rw[QH];nofun) (by rw[TK];nofun)} {N,O,⟨b4,b5,b6,b7⟩,U.1,U.2,λy o e=>?_,λy o e n=>?_}
 ·refine(off y o<|c _ _ e).elim .inl λn=>.inr λz=>z.elim n λz=>?_
  have e:=c _ _ e;rw[z,ht]at e;cases e
 ·rw[AJ λz=>n<|.inr<|.inr z];exact sb _ _ (c _ _ e) λz=>n<|z.imp id .inl
def N5(b c:Addr):cC:=[("plan",.ref b),("ground",.ref c)]
def Tl{j l o:Addr}{n r c w:Nat}(q:TV K a)(s:CO K a)(L:LayAt a H j n r c w)(P:PlankAt a H l o w (az (n+r+c+r+c) (az w .non)) 0)(z:n<=6/\r<=6/\c<=6/\1<=w/\w<=6/\c*w<=18):Gnd K a H j l o n r c w (az (n+r+c+r+c) (az w .non)) 0 (λ_ _=>.no):=by
 let[u,x,A,B,D,I]:=z
 have p:∀ d∈az (n+r+c+r+c) (az w V.non),∀ v∈d,v=.non:=λd b v g=>by
  rw[pz b]at g;exact pz g
 refine{q,s,L,P,{u,x,A,D,by simp},I,B,(λd b v g=>by rw[p d b v g];trivial),(λkind k v y y g=>?_),{λy y y=>rfl,λkind y=>by cases kind<;>trivial},{λy y y y e=>(by cases e),λy y y e=>(by cases e),λy y y e=>(by cases e),λy y y e=>(by cases e),λy y y e=>(by cases e),λy y y y y y y e=>(by cases e),λy y y y y y y e=>(by cases e)}};let[d,i,J]:=xx.mp g;exact p d (θ i) _ (θ J)
example:(z3f,bA,dE,2):=by
 intro[h,i,b,n,r,c,w,rfl,T,tv,U,L,zz,q];erw[dE,dE0_];let[Y,TH,x,x]:=T;let[TB',TP,TL,TS]:=id Y;refine y3 {U,TH.cl,TH.n1,by decide,?_};erw[dE1_];let[dl,s]:=L.ob
 have nh:b≠h:=λz=>by
  rw[z,U]at s;injection s with s
  injection s with _ _ s
  exact absurd (congrArg f_ s) (by simp[lf])
 have k1:SameBut (· =h) H (upd H h<|.ins (a "House") i (BO (ζ "plan") (.ref b) [])):=λy o e n=>by rw[AJ n];exact e
 have j:upd H h (.ins (a "House") i (BO (ζ "plan") (.ref b) [])) h=_:=AG
 have f1:∀ y,upd H h (.ins (a "House") i (BO (ζ "plan") (.ref b) [])) y=none->H y=none:=λy d=>by
  by_cases z:y=h
  ·rw[z,AG]at d;cases d
  ·rw[AJ z]at d;exact d
 generalize upd H h (.ins (a "House") i (BO (ζ "plan") (.ref b) []))=H1 at *
 have B:=L.sb k1 nh;let[dl1,D]:=B.ob;refine y2 {D,B0,x5 b n r c w {rfl,TL,TP,B,λg cl u XR BL P2 v=>y3 {v _ _ j,TH.cl,TH.n2,(show 1<1000 by decide),?_}}};erw[dE2_]
 have I:BO (ζ "ground") (.ref g) (BO (ζ "plan") (.ref b) [])=N5 b g:=by
  rw[ZR,OV (by decide +kernel),ZR]
  rfl
 rw[I]
 have J:g≠h:=(BJ j XR).symm
 have A:cl≠h:=(BJ j BL).symm
 have k3:SameBut (· =h) u (upd u h<|.ins (a "House") i (N5 b g)):=λy o e n=>by rw[AJ n];exact e
 have l:upd u h (.ins (a "House") i (N5 b g)) h=_:=AG
 have f3:∀ y,upd u h (.ins (a "House") i (N5 b g)) y=none->u y=none:=λy d=>by
  by_cases z:y=h
  ·rw[z,AG]at d;cases d
  ·rw[AJ z]at d;exact d
 generalize upd u h (.ins (a "House") i (N5 b g))=H3 at *
 have L3:=(B.same v).sb k3 nh
 have P3:PlankAt a H3 g cl w (az (n+r+c+r+c) (az w .non)) 0:=by
  let[[dx,p1],[ts,p2,p3],q1,q2,q3]:=P2;exact{{dx,k3 _ _ p1 J},{ts,k3 _ _ p2 A,Paired.mapP p3 λt r q=>k3 _ _ q λz=>by rw[z,v _ _ j]at q;cases q},q1,q2,q3}
 refine y3 {l,TH.cl,TH.n2,_,rfl,?_};refine fS (Tl tv Y L3 P3 zz) λX H5 a1 a2 a3 a4 a5 a6 a7 a8 off M C5 N=>?_
 have O:BO (ζ "store") (.ref X.S.st) (N5 b g)=hf b g X.S.st:=by
  unfold N5;rw[OV (by decide +kernel),OV (by decide +kernel),ZR]
  rfl
 refine y3 {N _ _ l,TH.cl,TH.n3,(show 2<1000 by decide),?_};rw[O]
 have all:∀ y o,H y=some o->y≠h->H3 y=some o:=λy o e n=>k3 _ _ (v _ _<|k1 _ _ e n) n;refine q X _ a1 a4 a5 a6 a7 a8 (λy d=>?_) {{i,by rw[a1,a2];exact AG},C5.farh (N _ _ l) nofun nofun} λy o e n=>by rw[AJ n];exact N _ _<|all _ _ e n
 rcases d with(d|rfl)|rfl
 ·cases e:H y with
  |none=>rfl
  |some o =>
   exfalso;by_cases z:y=h
   ·exact(off y _<|z ▸ l).elim (λp=>A<|p ▸ z) λp=>p d
   ·refine(off y _<|all _ _ e z).elim (λp=>?_) λp=>p d
    have:=k1 _ _ (p ▸ e) (p ▸ z);rw[BL]at this;cases this
 ·exact f1 _<|v.free<|f3 _ M
 ·rw[a2];exact f1 _ XR
def fW(z:Str):z.cps.toList.length=z.length:=by simp[yg]
def TN(x y:Str):(x++y).cps.toList=x.cps.toList++y.cps.toList:=by
 show(x.cps++y.cps).toList=_;simp
def z3g{z:Str}{k:Nat}(h:k<=z.length):(Txt.slice z none<|some (k:Int)).cps.toList=z.cps.toList.take k:=by
 rw[eq_of_beq (slice_closes_to   {i0,by rw[fW];lia})];simp
def z3h{z:Str}{k:Nat}(h:k<=z.length):(Txt.slice z (some (k:Int)) none).cps.toList=z.cps.toList.drop k:=by
 rw[eq_of_beq (slice_closes_from   {i0,by rw[fW];omega})]
 have:((z.cps.toList.length:Int)-k).toNat=(z.cps.toList.drop k).length:=by rw[ic];lia
 simp only[cj,this,bz]
def Lts(z:Str)(n:Nat):Prop:=z.cps.toList.length=n/\z.cps.toList.all OZ=true
def Lts.len{z:Str}{n:Nat}(h:Lts z n):z.length=n:=h.1
def Lts.cat{x y:Str}{n m:Nat}(h:Lts x n)(h':Lts y m):Lts (x++y) (n+m):=by
 unfold Lts;rw[TN,ae,List.all_append,h.1,h'.1,h.2,h'.2];exact⟨rfl,rfl⟩
def Lts.one{n:Nat}(h:n<26):Lts {#[97+n]} 1:={rfl,by simp[OZ];exact Ae (du h) _}
def Lts.to{z:Str}{n k:Nat}(h:Lts z n)(b:k<=n):Lts (Txt.slice z none<|some (k:Int)) k:=by
 unfold Lts;rw[z3g (by rw[h.len];exact b)];refine{by rw[cz,h.1];exact rf b,?_};rw[fe];exact λc d=>fe.mp h.2 c<|zw d
def Lts.from{z:Str}{n k:Nat}(h:Lts z n)(b:k<=n):Lts (Txt.slice z (some (k:Int)) none) (n-k):=by
 unfold Lts;rw[z3h (by rw[h.len];exact b)];refine{by rw[ic,h.1],?_};rw[fe];exact λc d=>fe.mp h.2 c<|zv d
def Lts.name{z:Str}{n:Nat}(h:Lts z n)(h1:1<=n)(h8:n<=8):BD z=true:=by
 unfold BD;rw[h.len,h.2];simp;exact⟨h1,h8⟩
example:(z3i,bB,cA,9,h):=by
 let[x,rfl,q]:=h;obtain⟨m,D,d⟩:∃ m:Nat,1+x%6=m/\1<=m/\m<=6:=md _ 6 (by decide);erw[cA,cA0_,cA1_,cA2_,cA5_];rw[D,cj];clear D;refine{{by decide,by decide},i0,iA d.2 rfl,YL (λi r H'=>∃ (p:Str) (rest:Int),H'=H/\Lts p i/\∃ y,r=[some (.int x),some<|.str<|ζ "abcdefghijklmnopqrstuvwxyz",some<|.str p,some<|.int rest,y,none,none,none,none]) (x2 (ζ "") _ {rfl,{by decide +kernel,by decide +kernel},_,rfl}) (λi r H' hi ⟨p,rest,e,g,y,s⟩=>?_) (λr H' ⟨p,rest,e,g,y,s⟩=>?_)};subst e s;erw[cA3_,cA4_]
 have:=g.len;refine{.inl {by decide,by decide},{by decide,by decide},.inl {i0,by omega},XJ λn I=>?_};erw[]
 have h1:=(Lts.one I).len;exact{BP _ (by omega),{by decide,by decide},.inl {by decide,by decide},_,g.cat<|Lts.one I,rfl}
 ·subst e s
  have j:=g.len;erw[cA6_];refine{{by decide,by decide},m,{BP _<|oA (υ (ba j) d.2) rfl,j.symm},c_.mpr (ω (by decide) d.1),?_};let[b,u,o]:=SV (x/7) (n:=m) (d.1);rw[u];erw[cA7_];refine{{by decide,by decide},XJ λJ v=>?_};erw[cA8_];refine{{by decide,by decide},{by decide,by decide},XJ λL w=>?_};erw[cA9_];refine{rfl,zzu (n:=b) rfl (j ▸ o) (oA (υ (ba j) d.2) rfl) λc=>y2 {rfl,rfl,?_}};erw[];refine{{by decide,by decide},XJ λO A=>?_};erw[cA10_]
  have B:=Lts.one v
  have l2:=Lts.one w
  have M:=Lts.one A
  have lt:=g.to (k:=b) (ka o)
  have lf:=g.from (k:=b+1) (o)
  have d1:=B.len
  have d2:=l2.len
  have d3:=M.len
  have d4:=lt.len
  have d5:=lf.len
  have T:((b:Nat):Int)+1=((b+1:Nat):Int):=rfl;rw[T]
  have U:=g.cat l2
  have Y:=B.cat g
  have e3:=(lt.cat M).cat lf
  have e4:=(g.cat l2).cat B;refine{BP _<|oC (υ (ba j) d.2) rfl,BP _ (by omega),BP _<|oA (υ (ba j) d.2) rfl,BP _ (by omega),BP _<|oA (υ (ba j) d.2) rfl,BP _ (by rw[MQ];omega),BP _<|oC (υ (ba j) d.2) rfl,BP _ (by rw[MQ];omega),by decide,λl N=>?_};refine q l [p,p++({#[97+L]}:Str),({#[97+J]}:Str)++p,Txt.slice p none (some (b:Int))++({#[97+O]}:Str)++Txt.slice p (some ((b+1:Nat):Int)) none,p++({#[97+L]}:Str)++({#[97+J]}:Str)] _ N (AL N) (by rw[AG];rfl) rfl λz hz=>?_;simp only[af,bw,or_false]at hz;let rfl||rfl||rfl||rfl||rfl:=hz
  ·exact g.name (d.1) (oA d.2 rfl)
  ·exact U.name (yq _ _) (oC d.2 rfl)
  ·exact Y.name (ui _ _) (by omega)
  ·exact e3.name (by omega) (by omega)
  ·exact e4.name (yq _ _) (oG d.2 rfl)
def z3j:∀ i:Fin 94,LA.cps.toList[i.val]? =some (LA.cps.toList.getD i.val 0)/\NO (LA.cps.toList.getD i.val 0)=true:=by decide
theorem Tm{p:yF}:∀ (l:eG) (b:Array Nat),b.all p=true->(∀ z∈l,z.cps.all p=true)->(l.foldl (λb q=>b++(ζ "").cps++q.cps) b).all p=true
 | [],b,h,_=>h
 |z::l,b,h,hz=>by
  refine Tm l _ ?_ λy c=>hz y<|τ _ c;rw[Gu,Gu,h,hz z χ,show(ζ "").cps= #[] by decide +kernel];simp
def z3k{l:eG}(h1:1<=l.length)(h2:l.length<=40)(h:∀ z∈l,z.length=1/\z.cps.all NO=true):GY (Txt.join (ζ "") l)=true:=by
 unfold GY;rw[W.KT.join_ones l λz hz=>(h z hz).1,decide_eq_true h2,um];cases l with
 |nil=>simp at h1
 |cons z l=>exact Tm l _ (h z χ).2 λy b=>(h y<|τ _ b).2
def Tp(x:Int)(j:Nat):∃ b:Nat,(x/3+(1+x/19%93)*((j:Int)/(1+x/7%3)))%94=b/\LA.cps.toList[b]? =some (LA.cps.toList.getD b 0)/\SL x j={#[LA.cps.toList.getD b 0]}/\NO (LA.cps.toList.getD b 0)=true:=by
 let[b,c,d]:=SV (x/3+(1+x/19%93)*((j:Int)/(1+x/7%3))) (n:=94) (by decide);rw[show((94:Nat):Int)=94 from rfl]at c;let[h1,h2]:=z3j ⟨b,d⟩;exact{b,c,h1,by unfold SL;rw[c];rfl,h2}
def Tq{x:Int}{m:Nat}(e:MO x=m)(h1:1<=m)(h2:m<=40):GY (G2 x)=true:=by
 unfold G2;rw[e];refine z3k (by rw[ε,ce];exact h1) (by rw[ε,ce];exact h2) λz hz=>?_;let[j,y,rfl]:=a_.mp hz;let[b,y,y,e,h]:=Tp x j;rw[e];exact{rfl,by simpa using h}
def Tv(x:Int):1<=MO x/\MO x<=40:=by
 unfold MO;split<;>lia
def z3l(x:Int):GY (G2 x)=true:=Tq rfl (Tv x).1 (Tv x).2
def z3m(x:Int):JX x<1000:=by
 unfold JX;split<;>lia
example:(z3n,SN,cE,5):=by
 intro[x,rfl,q]
 have tail:∀ m:Nat,MO x=m->1<=m->m<=40->cE5 K a (λ_=>E) (λ_=>E) { nx:=AH (cE6 K a (λ_=>E) (λ_=>E)) (cE7 K a (λ_=>E) (λ_=>E)) (AW Q),rt:=Q } [some (.int x),some<|.str LA,some<|.int m,none,none] H:=λm c g d=>by
  erw[cE5_,cE6_,cE7_];refine{{by decide,by decide},{by decide,by decide},rfl,by lia,by lia,NF (BP _ (by lia)) (λi ys H'=>H'=H/\ys=((ο i).map (SL x)).map V.str) ⟨rfl,rfl⟩ (λi ys H' w y e=>?_) (λys H' n e p o=>?_)}
  ·let[rfl,l]:=e;erw[C1]
   have hd:(0+(i:Int))/(1+x/7%3)<=40/\0<=(0+(i:Int))/(1+x/7%3):={J_ (Int.ediv_le_self _ (by lia)) (by lia),Int.ediv_nonneg (by lia) (by lia)}
   let[b,r,s,u,_]:=Tp x i;refine{{by decide,by decide},{by lia,by lia},.inl {by lia,by lia},?_};rw[vj,r];refine eU rfl (by decide) s {rfl,?_};rw[l,bx,ak,ak,<-u]
   rfl
  ·let[rfl,l]:=e
   have v:∀ z∈(ο m).map (SL x),z.length=1:=λz hz=>by
    let[j,_,rfl]:=a_.mp hz
    rfl
   have:=q (upd H' p<|.lst ys) (Tq c g d) (AL o);unfold G2 at this;rw[c]at this;exact x3 _ p _ {rfl,rfl,by rw[<-l];exact SqL.of AG,by decide,by rw[Td _ v,ε,ce];lia,this}
 erw[cE,cE0_,cE1_,cE2_,cE4_,cE3_];refine{by decide +kernel,{by decide,by decide},?_};split
 ·rename_i h;obtain⟨m,c,d⟩:∃ m:Nat,40-x/40%2=m/\1<=m/\m<=40:={(40-x/40%2).toNat,by lia,by lia}
  rw[c];exact{{by decide,by decide},tail m (by unfold MO;rw[if_pos h,c];rfl) d.1 d.2}
 ·rename_i h;obtain⟨m,c,d⟩:∃ m:Nat,1+x%5=m/\1<=m/\m<=40:={(1+x%5).toNat,by lia,by lia}
  rw[c];exact tail m (by unfold MO;rw[if_neg h,c];rfl) d.1 d.2
example:(z3o,WN,cF,1):=by
 intro[x,rfl,q];erw[cF,cF0_,cF1_,cF2_];unfold JX at q;refine{{by decide,by decide},?_};split
 ·rename_i h;rw[if_pos h]at q;rw[show(((x/20%1000).toNat:Nat):Int)=x/20%1000 by lia]at q;exact{{by decide,by decide},q (by lia)}
 ·rename_i h;rw[if_neg h]at q;rw[show(((x%5).toNat:Nat):Int)=x%5 by lia]at q;exact q (by lia)
def IY{z:Str}(h:BD z=true):Lts z z.length/\1<=z.length/\z.length<=8:=by
 unfold BD at h;simp only[bv,decide_eq_true_eq]at h;exact{{fW z,h.2},h.1.1,h.1.2}
def KC{y:Str}(h:BD y=true):32∉y.cps.toList:=λz=>by
 have:=fe.mp (IY h).1.2 32 z;revert this;decide
theorem Tw:∀ l:wH,JN (CW l)=l/\CW l≠[]
 | []=>⟨rfl,nofun⟩
 |c::r=>by
  let[h1,h2]:=Tw r;unfold CW;split;rename_i e;refine{?_,nofun};revert h1 h2;cases CW r with
  |nil=>exact λ_ h=>absurd rfl h
  |cons w ws=>intro h1 _;rw[e];show []++32::JN _=_;rw[h1];rfl
  revert h1 h2;cases CW r with
  |nil=>exact λ_ h=>absurd rfl h
  |cons w ws =>
   refine λh1 _=>{?_,nofun}
   rw[<-h1];cases ws<;>rfl
section
variable{p u v k:Str}{c:wH}
def w2(b:32∉v.cps.toList)(d:p.cps.toList=c++[32])(e:32∉c)(h:MM [c,v.cps.toList]=some [C7 c,C7 v.cps.toList])(g:C7 c=k):ER (p++v)=some [k,v]:=by
 unfold ER;rw[TN,d,dk]
 show MM (CW (c++32::v.cps.toList))=_;rw[RO e,OR b,h,g]
def w3(b:32∉u.cps.toList)(d:p.cps.toList=c++[32])(e:32∉c)(h:MM (c::u.cps.toList::CW v.cps.toList)=some [C7 c,C7 u.cps.toList,C7 v.cps.toList])(g:C7 c=k):ER (p++u++ζ " "++v)=some [k,u,v]:=by
 unfold ER;rw[TN,TN,TN,d,dk,dk,dk]
 show MM (CW (c++32::(u.cps.toList++32::v.cps.toList)))=_;rw[RO e,RO b,h,g]
def Tx{r:List (wH)}(n:Nat)(h1:HU PQ (C7 c)=some (n:Int))(h2:C7 c≠"put")(h3:r.length+1=n)(h4:ML ((c::r).getLastD [])=true):MM (c::r)=some ((c::r).map C7):=by
 unfold MM;rw[List.headD_cons,h1];dsimp only;rw[if_neg h2,if_neg (by rw[cf,h3];exact λz=>z rfl),if_neg (λz=>by rw[h4]at z;cases z.2)]
def XL:∀ b:Fin 1000,ML (B9 (b.val:Nat)).cps.toList=true/\32∉(B9 (b.val:Nat)).cps.toList:=by decide +kernel
def Ty(h:BD v=true):ER (ζ "make "++v)=some [("make":Str),v]:=w2 (c:=[109,97,107,101]) (KC h) (by decide) (by decide) rfl (by decide)
def z3p(h:BD v=true):ER (ζ "cut "++v)=some [("cut":Str),v]:=w2 (c:=[99,117,116]) (KC h) (by decide) (by decide) rfl (by decide)
def z3q(h:BD v=true):ER (ζ "keep "++v)=some [("keep":Str),v]:=w2 (c:=[107,101,101,112]) (KC h) (by decide) (by decide) rfl (by decide)
def z3r(h:BD v=true):ER (ζ "show "++v)=some [("show":Str),v]:=w2 (c:=[115,104,111,119]) (KC h) (by decide) (by decide) rfl (by decide)
def z3s{b:Nat}(h:b<100):ER (ζ "write "++B9 b)=some [("write":Str),B9 b]:=w2 (c:=[119,114,105,116,101]) (XL {b,oA h rfl}).2 (by decide +kernel) (by decide) (Tx 2 (by decide +kernel) (by decide +kernel) rfl (XL {b,oA h rfl}).1) (by decide +kernel)
def z3t(h:BD u=true)(h':BD v=true):ER (ζ "link "++u++ζ " "++v)=some [("link":Str),u,v]:=w3 (c:=[108,105,110,107]) (KC h) (by decide) (by decide) (by rw[OR (KC h')];rfl) (by decide)
def z3u(h:BD u=true)(h':BD v=true):ER (ζ "move "++u++ζ " "++v)=some [("move":Str),u,v]:=w3 (c:=[109,111,118,101]) (KC h) (by decide) (by decide) (by rw[OR (KC h')];rfl) (by decide)
def z3v{b:Nat}(h:BD u=true)(d:b<1000):ER (ζ "take "++u++ζ " "++B9 b)=some [("take":Str),u,B9 b]:=w3 (c:=[116,97,107,101]) (KC h) (by decide +kernel) (by decide) (by rw[OR (XL ⟨b,d⟩).2];exact Tx 3 (by decide +kernel) (by decide +kernel) rfl (XL ⟨b,d⟩).1) (by decide +kernel)
def Tz(h:BD u=true):ER (ζ "put "++u++ζ " "++v)=some [("put":Str),u,v]:=w3 (c:=[112,117,116]) (KC h) (by decide) (by decide) (by
 let[e,n]:=Tw _;revert e n;cases CW _ with
 |nil=>exact λz n=>absurd rfl n
 |cons w ws =>
  intro e z
  show some [C7 _,C7 _,C7 _]=_;rw[e]) (by decide)
end
def fX{nl:Addr}{zs:eG}{x:Int}{Q:VK}(h:vL H nl zs)(q:∀ z∈zs,Q (.str z) H):BZ K (.ref nl) (.int<|x%5) H Q:=by
 let[b,c,d]:=SV x (n:=5) (by decide);rw[show((5:Nat):Int)=5 from rfl]at c;rw[c]
 have hz:b<zs.length:=by rw[h.2.1];exact d
 exact CJ (SqL.of h.1) rfl (by rw[ψ,ι hz];rfl) (q _<|uj hz)
def XM{z:Str}(h:GY z=true):z.length<=40/\dn z=true:=by
 unfold GY at h;simp only[bv,decide_eq_true_eq]at h;refine{h.1.2,?_};unfold dn;rw[<-um,fe];intro c b
 have:=fe.mp h.2 c b;unfold NO at this
 lia
def Ub{p q:Addr}{xs ys:eI}{Q:VK}(h1:H p=some (.lst xs))(h2:H q=some (.lst ys))(b:xs.length+ys.length<=1000)(k:∀ r,H r=none->Q (.ref r) (upd H r<|.lst<|xs++ys)):A8 K (.ref p) (.ref q) H Q:=.inl (x4 p q xs ys {rfl,rfl,h1,h2,υ b (by decide),k})
abbrev Uc(y v:Str)(x:Int):eI:=([.str (ζ "make "++y),.str<|ζ "make "++y,.str<|ζ "link "++y++ζ " "++v,.str<|ζ "cut "++y]++[.str (ζ "put "++y++ζ " "++G2 x),.str<|ζ "put "++y++ζ " "++G2 x])++[.str (ζ "take "++y++ζ " "++B9 (JX x)),.str<|ζ "move "++y++ζ " "++v]
example:(z3w,bC,cU,5):=by
 intro[k,x,y,v,rfl,k0,k8,d,s,q]
 have ly:=(IY d).2.2
 have lv:=(IY s).2.2
 have O:(ζ " ").length=1:=by decide
 have two:∀ {p:Str},p.length<=5->p.length+y.length<=sizeLine/\(p++y).length<=900:=λh=>by rw[MQ];exact{BP _ (by lia),by lia}
 have c:∀ {p t:Str},p.length<=5->t.length<=40->(p++y).length+(ζ " ").length<=sizeLine/\(p++y++ζ " ").length+t.length<=sizeLine/\(p++y++ζ " "++t).length<=900:=λh h'=>by
  simp only[MQ,O];exact{BP _ (by lia),BP _ (by lia),by lia}
 have mk:=two (p:=ζ "make ") (by decide)
 have ct:=two (p:=ζ "cut ") (by decide)
 have T:=two (p:=ζ "link ") (by decide)
 have pt:=two (p:=ζ "put ") (by decide)
 have tk:=two (p:=ζ "take ") (by decide)
 have U:=two (p:=ζ "move ") (by decide)
 have i:=c (p:=ζ "link ") (t:=v) (by decide) (by lia)
 have j:=c (p:=ζ "move ") (t:=v) (by decide) (by lia);erw[cU,cU0_];refine{mk.1,mk.1,T.1,i.1,i.2.1,ct.1,by decide,λl1 Y=>?_};let[H1,b,s1,e1]:=EI (o:=.lst [.str (ζ "make "++y),.str<|ζ "make "++y,.str<|ζ "link "++y++ζ " "++v,.str<|ζ "cut "++y]) Y;rw[b];erw[cU1_]
 have l:=c (p:=ζ "put ") (t:=v) (by decide) (by lia);refine{pt.1,l.1,_,rfl,λH2 po I=>?_}
 have g:=c (p:=ζ "put ") (by decide) (XM po).1;erw[];refine{g.2.1,pt.1,l.1,_,rfl,λH3 u J=>?_};erw[];refine{g.2.1,by decide,λl2 DH=>?_};let[H4,b,L,e4]:=EI (o:=.lst [.str (ζ "put "++y++ζ " "++G2 x),.str<|ζ "put "++y++ζ " "++G2 x]) DH;rw[b];refine Ub ((I.trans<|J.trans L) _ _ e1) e4 (show 4+2<=1000 by decide) λl3 w=>?_;let[H5,b,s5,e5]:=EI (o:=.lst<|[.str (ζ "make "++y),.str<|ζ "make "++y,.str<|ζ "link "++y++ζ " "++v,.str<|ζ "cut "++y]++[.str (ζ "put "++y++ζ " "++G2 x),.str<|ζ "put "++y++ζ " "++G2 x]) w;rw[b];erw[cU2_];refine{tk.1,(c (p:=ζ "take ") (t:=v) (by decide) (by lia)).1,_,rfl,λhb=>{_,rfl,by lia,by lia,?_}}
 have r:=c (p:=ζ "take ") (t:=B9<|JX x) (by decide) (υ (K0 (by lia) (by lia)) (by decide));erw[];refine{r.2.1,U.1,j.1,j.2.1,by decide,λl4 A=>?_};let[H6,b,M,e6]:=EI (o:=.lst [.str (ζ "take "++y++ζ " "++B9 (JX x)),.str<|ζ "move "++y++ζ " "++v]) A;rw[b];refine Ub (M _ _ e5) e6 (show 6+2<=1000 by decide) λl5 B=>?_;let[N,b,s7,e7]:=EI (o:=.lst<|Uc y v x) B;rw[show upd H6 l5 (.lst (_++_))=N from b];erw[cU3_]
 have D:=(s1.trans<|I.trans<|J.trans L).trans (s5.trans<|M.trans s7)
 have go:∀ {n:Nat} {z:Str},k=n->(Uc y v x)[n]? =some (.str z)->z.length<=900->ER z=some (WO k y v x)->BZ K (.ref l5) (.int k) N Q:=λe ez hz hw=>CJ (SqL.of e7) e ez (q _ _ D hz hw);obtain rfl|rfl|rfl|rfl|rfl|rfl|rfl|rfl:k=0\/k=1\/k=2\/k=3\/k=4\/k=5\/k=6\/k=7:=by lia
 ·exact go (n:=0) rfl rfl mk.2 (Ty d)
 ·exact go (n:=1) rfl rfl mk.2 (Ty d)
 ·exact go (n:=2) rfl rfl i.2.2 (z3t d s)
 ·exact go (n:=3) rfl rfl ct.2 (z3p d)
 ·exact go (n:=4) rfl rfl g.2.2 (Tz d)
 ·exact go (n:=5) rfl rfl g.2.2 (Tz d)
 ·exact go (n:=6) rfl rfl r.2.2 (z3v d hb)
 ·exact go (n:=7) rfl rfl j.2.2 (z3u d s)
theorem fY{P:CV->Prop}{b:Md}(c:∀ kind k,P<|b kind k):∀ {as:zH},(∀ x∈as,P x.x)->∀ kind k,P (hnd b as kind k)
 | [],_,kind,k=>c _ k
 |⟨d,e,v,nd⟩::as,hs,kind,k=>by
  show P (if kind=d/\k=e then v else hnd b as _ k);split;exact hs _ χ;exact fY c (λy g=>hs y<|τ _ g) _ k
theorem Ud{P:CV->Prop}{C:yF}{b:Md}(c:∀ kind k,P<|b kind k):∀ {as:zH},(∀ x∈as,P x.x)->∀ kind k,P (sh b C as kind k)
 | [],_,kind,k=>c _ k
 |⟨e,g,v,nd⟩::as,hs,kind,k=>by
  have d:=Ud (C:=C) c (λy i=>hs y<|τ _ i) kind k;unfold sh;split
  show P (if kind=e/\k=g then v else sh b C as _ k);split;exact hs _ χ;exact d;exact d
def MV{M:Hs}{k r:Nat}{z:Str}(h:M 0 k=.nm z r):CZ M k=r:=by unfold CZ;rw[h]
def HI{M:Hs}{r m:Nat}{ps:wH}(h:M 3 r=.rc m ps):LB M r=m/\G3 M r=ps:=by unfold LB G3;rw[h];exact⟨rfl,rfl⟩
def MW{α :Type}{o:Option α}(h:o=none):¬ o.isSome=true:=by rw[h];nofun
def z3x{α :Type}{o:Option α}{k: α}(h:o=some k):o.isSome=true:=by rw[h];rfl
def fZ{α :Type}{o:Option α}(h:∃ k,o=some k):o.isSome=true:=h.elim λz h=>z3x h
section
variable{X:SX}{cs:yH}{tks:cD}{M:Hs}{zs:eG}{R:DR}{P:Hp->Prop}{y v:Str}
def DE.same{H':Hp}(D:DE a X cs M zs R H P E)(s:Same H H'):DE a X cs M zs R H' P E:={λd b i g h1 h2 h3 h4 h5=>D.g d b i g h1 h2 h3 h4 λy o e n=>h5 _ _ (s _ _ e) n,λc j e g l=>D.b c j e g<|s.trans l}
def DE.good(D:DE a X cs M zs R H P E)(I:C6 a H X cs tks M)(e:FL M zs){ex:yH}{b:cD}{c:Hs}{H':Hp}{d:Nat}(l:ex.length=d)(hd:d+EH (X.c*X.w) c<=EH (X.c*X.w) M+4)(n:X.at a H' (cs++ex) b c)(h3:∃ o,Hist X.m0 c.b c.as (MK b) o)(h4:c.b=M.b)(h5:∃ g,c.as=g++M.as/\∀ x∈g,EB x.kind x.x/\HF zs x.x)(p:R=.ok (b,c))(sb:SameBut (λx=>X.S.A.F x\/x=X.S.tk) H H'):P H':=by
 let[g,j,h5]:=h5;exact D.g _ _ _ _ p (I.more n sb h3 h4 {g,j,λx i=>(h5 x i).1}) (by rw[ae,l];lia) {h4 ▸ e.b,λx i=>(bh.mp<|j ▸ i).elim (λh=>(h5 x h).2) λh=>e.s x h} sb
def z3y{z:Str}(h:BD z=true){p:Prop}:BD z=false->p:=λh'=>by rw[h]at h';cases h'
def C6.make(l:CO K a)(I:C6 a H X cs tks M)(c:cs.length<900)(d:FL M zs)(e:BD y=true)(n:y∈zs)(D:DE a X cs M zs (bD cs.length X.m0 (X.r*X.w) tks M y) H P E):O4 K a [.ref X.S.st,.str y] H (λ_ H'=>P H') E:=by
 let[o,p]:=I.hi
 have len:=I.st.la.len;refine x5 X cs tks M y {rfl,l,I.st,oA (IY e).2.2 rfl,oA c rfl,λx b q cell g i B r ex v H' u x x w sb=>?_,z3y e,λx b H' s=>D.b _ (.inr<|.inl rfl) (if_pos<|fZ b) H' s,λx b h H' s=>D.b _ (.inr<|.inr<|.inr rfl) ((if_neg<|MW b).trans (if_pos h)) H' s}
 have A:=fQ<|P7 i
 have f1:=Sj (kind:=1) (P7 g);refine D.good I d u ?_ w ?_ rfl {[_,_,_],rfl,by simp[EB,HF,n]} ?_ sb
 ·rw[E7,E7,E7,FM (by decide),FM (by decide),FM (by decide)];lia
 ·have:=p.make (z:=y) (nd:=(cs.length+1)::EU tks y) r A (XH b) f1 (by rw[len];simp) λj h=>τ _<|fP h;rw[<-len]at this;exact⟨_,this⟩
 ·unfold bD;rw[g,i,if_neg<|MW b,if_neg (by lia)]
  rfl
def C6.link(q:CO K a)(I:C6 a H X cs tks M)(d:cs.length<900)(e:FL M zs)(i:BD y=true)(l:BD v=true)(r:v∈zs)(D:DE a X cs M zs (bE cs.length X.m0 tks M y v) H P E):NQ K a [.ref X.S.st,.str y,.str v] H (λ_ H'=>P H') E:=by
 let[o,u]:=I.hi
 have len:=I.st.la.len;refine x6 X cs tks M y v {rfl,q,I.st,oA (IY i).2.2 rfl,oA (IY l).2.2 rfl,oA d rfl,λz z b old w cell x g n=>(u2 ?_<|I.rl g n),(λh=>by rw[i,l]at h;cases h),λz z b H' s=>D.b _ (.inr<|.inl rfl) (if_pos<|fZ b) H' s,λz z b h H' s=>D.b _ (.inl rfl) ((if_neg<|MW b).trans (by rw[h])) H' s,λz z b ⟨k,h⟩ h' H' s=>D.b _ (.inr<|.inr<|.inr rfl) ((if_neg<|MW b).trans (by rw[h];exact if_pos h')) H' s};intro m ps [A,c];refine{A,x2 m ps {c,by have:=(I.ps c).2;exact oA this rfl,λp B ex v H' J z z L sb=>?_}}
 have N:=fQ<|P7 p;refine D.good I e J ?_ L ?_ rfl {[_,_],rfl,by simp[EB,HF,r]} ?_ sb
 ·rw[E7,E7,FM (by decide),FM (by decide)];lia
 ·exact{_,u.link (nd:=cs.length::EU tks _) B N (XH b) c (by rw[len];simp) λj h=>τ _<|fP h}
 ·unfold bE;rw[if_neg (MW b),x];dsimp only;rw[p,if_neg (by lia),MV n,(HI c).1,(HI c).2]
  rfl
def C6.put'(j:CO K a)(I:C6 a H X cs tks M)(c:cs.length<900)(d:FL M zs)(po:GY v=true)(D:DE a X cs M zs (SQ cs.length X.m0 (X.c*X.w) tks M y v) H P E):O6 K a [.ref X.S.st,.str y,.str v] H (λ_ H'=>P H') E:=by
 let[o,l]:=I.hi
 have len:=I.st.la.len;refine x6 X cs tks M y v {rfl,j,I.st,oA (XM po).1 rfl,(XM po).2,oA c rfl,λcell n q r g z p i u=>(u2 ?_<|I.rl r g),λe H' s=>D.b _ (.inl rfl) (by unfold SQ;rw[e]) H' s,(λz h=>by rw[po]at h;cases h),λ⟨k,e⟩ z h H' s=>D.b _ (.inr<|.inr<|.inr rfl) (by unfold SQ;rw[e];exact if_pos h) H' s};intro m ps [w,b];refine{w,x2 m ps {b,oA (I.ps b).2 rfl,λex z H' A z z B sb=>D.good I d A ?_ B ?_ rfl {[_,_,_],rfl,by simp[EB,HF,(XM po).1]} ?_ sb}}
 ·rw[E7,E7,E7,FM (by decide),FM (by decide)]
  have:=fT (S:=M.f) (x:=.mk 1) u
  lia
 ·have:=l.put (x:=v) (Sj (kind:=2) (P7 i)) b;rw[<-len]at this;exact⟨_,this⟩
 ·unfold SQ;rw[q];dsimp only;rw[i,if_neg (by lia),MV g,(HI b).1,(HI b).2]
  rfl
def C6.take{x:Nat}(q:CO K a)(I:C6 a H X cs tks M)(e:cs.length<900)(g:FL M zs)(D:DE a X cs M zs (SR cs.length X.m0 tks M y x) H P E):O8 K a [.ref X.S.st,.str y,.int x] H (λ_ H'=>P H') E:=by
 let[o,r]:=I.hi
 have len:=I.st.la.len;refine x6 X cs tks M y _ {rfl,q,I.st,oA e rfl,λcell c l u i=>(u2 ?_<|I.rl u i),λw H' s=>D.b _ (.inl rfl) (by unfold SR;rw[w]) H' s};intro m ps [A,b];let[n,B]:=I.ps b;refine{A,x2 m ps {b,oA B rfl,λO H' s=>D.b _ (.inr<|.inr<|.inl rfl) ?_ H' s,λj p T d=>{n p<|θ d,λex v H' J z z L sb=>D.good I g J ?_ L ?_ rfl {[_,_],rfl,by simp[EB,HF]} ?_ sb}}}
 ·unfold SR;rw[l];dsimp only;rw[MV i,(HI b).2,bd (by lia)]
 ·rw[E7,E7]
  have:=fT (S:=M.f.put 3 c<|.rc m<|ps.eraseIdx j) (x:=.mk 0) (n p<|θ d)
  have N:EH (X.c*X.w) (M.f.put 3 c<|.rc m<|ps.eraseIdx j)=EH (X.c*X.w) M.f:=FM (by decide)
  have:(if PR (.mk 0)=true then 1 else 0)=0:=rfl
  lia
 ·have:=r.take b d;rw[<-len]at this;exact⟨_,this⟩
 ·obtain rfl:x=j:=by lia
  unfold SR;rw[l];dsimp only;rw[MV i,(HI b).1,(HI b).2,d]
def C6.move(A:CO K a)(I:C6 a H X cs tks M)(l:cs.length<900)(n:FL M zs)(q:BD y=true)(r:BD v=true)(B:v∈zs)(D:DE a X cs M zs (bF cs.length X.m0 tks M y v) H P E):O9 K a [.ref X.S.st,.str y,.str v] H (λ_ H'=>P H') E:=by
 let[o,J]:=I.hi
 have len:=I.st.la.len;refine x6 X cs tks M y v {rfl,A,I.st,oA (IY q).2.2 rfl,oA (IY r).2.2 rfl,oA l rfl,λx x b old c cell L d g=>(u2 ?_<|I.rl d g),(λh=>by rw[q,r]at h;cases h),λx x b H' s=>D.b _ (.inr<|.inl rfl) (if_pos<|fZ b) H' s,λx x b h H' s=>D.b _ (.inl rfl) ((if_neg<|MW b).trans (by rw[h])) H' s,λx x b ⟨k,h⟩ h' H' s=>D.b _ (.inr<|.inr<|.inr rfl) ((if_neg<|MW b).trans (by rw[h];exact if_pos h')) H' s};intro m ps [N,i];refine{N,x2 m ps {i,by have:=(I.ps i).2;exact oA this rfl,λu O ex v' H' T x x U sb=>?_}}
 have w:=fQ<|P7 u;refine D.good I n T ?_ U ?_ rfl {[_,_,_,_],rfl,by simp[EB,HF,B]} ?_ sb
 ·rw[E7,E7,E7,E7,FM (by decide),FM (by decide),FM (by decide),FM (by decide)];lia
 ·have p:old≠cell:=λe=>by rw[e,w]at g;cases g
  have Y:=J.link (z:=v) (nd:=cs.length::EU tks v) O w (XH b) i (by rw[len];simp) λj h=>τ _<|fP h
  have l2:=Y.unlead (z:=y) (nd:=[cs.length+1]) (m:=m) (ps:=ps) d (by rw[IU,D1 p,IU,NM (by simp)];exact g) (by rw[IU,NM (by simp),IU,CY])
  have l3:({0,cell,.nm v c,cs.length::EU tks v}::{3,c,.rc (m+1) ps,[]}::M.as:zH).length=cs.length+2:=by rw[len];rfl
  rw[l3]at l2;rw[fN];exact⟨_,l2⟩
 ·unfold bF;rw[if_neg (MW b),L];dsimp only;rw[u,if_neg (by lia),MV g,(HI i).1,(HI i).2]
  rfl
def C6.cut'(T:CO K a)(I:C6 a H X cs tks M)(j:cs.length<900)(g:FL M zs)(D:DE a X cs M zs (SO cs.length X.m0 tks M y) H P E):O5 K a [.ref X.S.st,.str y] H (λ_ H'=>P H') E:=by
 let[o,w]:=I.hi
 have len:=I.st.la.len
 have A:=I.now;refine x5 X cs tks M y {rfl,T,I.st,oA j rfl,λcell b U l i=>(u2 ?_<|I.rl l i),λY H' s=>D.b _ (.inl rfl) (by unfold SO;rw[Y]) H' s};intro m ps [hr,e];let[B,p2]:=I.ps e
 have J:∀ {r:DR},(.ok (CF tks (.inr y) (.int cs.length),if 1<m then(M.put 0 cell .no []).put 3 b (.rc (m-1) ps) [cs.length]else(((M.put 0 cell .no []).put 3 b .no [cs.length]).unmark (cs.length+1) ps).put 1 b (.mk 0) [cs.length+1]):DR)=r->SO cs.length X.m0 tks M y=r:=λh=>by
  rw[<-h];unfold SO;rw[U];dsimp only;rw[MV i,(HI e).1,(HI e).2]
 refine{hr,x2 m ps {e,B,oA p2 rfl,λn ex v H' q z z u sb=>D.good I g q ?_ u ?_ rfl {[_,_],rfl,by simp[EB,HF]} (J (by rw[if_pos n])) sb,λn ex v H' q z z u sb=>D.good I g q ?_ u ?_ ?_ ?_ (J (by rw[if_neg (by lia)])) sb}}
 ·rw[E7,E7,FM (by decide),FM (by decide)];lia
 ·obtain⟨L,rfl⟩:∃ L,m=L+1:={m-1,by lia}
  have:=w.unlead (nd:=[]) l i e;rw[<-len]at this;rw[fN];exact⟨_,this⟩
 ·rw[E7,FM (by decide)]
  have:=Tc (c:=X.c*X.w) (d:=cs.length+1) (ps:=ps) (M:=(M.put 0 cell .no []).put 3 b .no [cs.length]) (A.nd b m ps e) λp N=>{B p N,(A.pm b m ps e p N).1}
  rw[E7,E7,FM (by decide),FM (by decide)]at this
  lia
 ·have:=w.dropped (nd:=[]) l i e n;rw[<-len]at this;rw[fN];refine{EZ o y cs.length,?_}
  show Hist X.m0 (Hs.unmark _ _ _).b ({1,b,.mk 0,[cs.length+1]}::(Hs.unmark _ _ _).as) _ _;rw[TJ.1,TJ.2];exact this
 ·exact TJ.2
 ·refine{{1,b,.mk 0,[cs.length+1]}::((ps.map λp=>({2,p,.mk 0,[cs.length+1]}:AC)).reverse++[{3,b,.no,[cs.length]},{0,cell,.no,[]}]),?_,λx O=>?_}
  ·show{1,b,.mk 0,[cs.length+1]}::(Hs.unmark _ _ _).as=_;rw[TJ.1];simp[Hs.put]
  ·simp only[af,bh,Gn,a_,bw,or_false]at O;let rfl||[p,_,rfl]||rfl||rfl:=O<;>simp[EB,HF]
end
section
variable{h:Addr}{X:SX}{cs:yH}{tks:cD}{M:Hs}{z:Str}
def HsC.say(T:EQ K a)(A:HsC a H h X cs tks M)(hz:z.length<=900){w:Str}{ws:eG}(e:ER z=some (w::ws))(q:∀ l b,Same H b->b l=some (.lst<|(w::ws).map V.str)->(w∈K9/\SI K a [.ref X.S.st,.ref l] b (λ_ H'=>Q (.str "ok") H') E)\/(w="stop"/\SK K a [.ref h] b Q E)\/(w∉K9/\w≠"stop"/\SJ K a [.ref X.S.st,.ref l] b Q E)):GG K a [.ref h,.str z] H Q E:=by
 let[c,d]:=A.1;exact x6 h c _ _ _ z {rfl,T,d,A.st,hz,x2 w ws ⟨e,q⟩}
def HsC.deed{zs:eG}{k x:Int}{y v:Str}(T:EQ K a)(A:HsC a H h X cs tks M)(B:DB a H X cs tks M zs k y v)(hz:z.length<=900)(e:ER z=some (WO k y v x))(D:DE a X cs M zs (X.df cs.length tks M k y v x) H (λH'=>Q (.str "ok") H') E):GG K a [.ref h,.str z] H Q E:=by
 have g:=B.zok y B.hy
 have i:=B.zok v B.hv
 have po:=z3l x
 have j:=z3m x;unfold SX.df at D;unfold WO at e;by_cases k1:k<2
 ·rw[if_pos k1]at D e;exact A.say T hz e λl d b c=>.inl {by decide +kernel,_,l,_,rfl,(A.same b).st,c,.inl {y,rfl,(A.same b).2.make T.s4 B.l B.vin g B.hy (D.same b)}}
 rw[if_neg k1]at D e;by_cases k2:k=2
 ·rw[if_pos k2]at D e;exact A.say T hz e λl d b c=>.inl {by decide +kernel,_,l,_,rfl,(A.same b).st,c,.inr<|.inr<|.inl {y,v,rfl,(A.same b).2.link T.s4 B.l B.vin g i B.hv (D.same b)}}
 rw[if_neg k2]at D e;by_cases k3:k=3
 ·rw[if_pos k3]at D e;exact A.say T hz e λl d b c=>.inl {by decide +kernel,_,l,_,rfl,(A.same b).st,c,.inr<|.inr<|.inr<|.inr<|.inl {y,rfl,(A.same b).2.cut' T.s4 B.l B.vin (D.same b)}}
 rw[if_neg k3]at D e;by_cases k4:k<6
 ·rw[if_pos k4]at D e;exact A.say T hz e λl d b c=>.inl {by decide +kernel,_,l,_,rfl,(A.same b).st,c,.inr<|.inl {y,_,rfl,(A.same b).2.put' T.s4 B.l B.vin po (D.same b)}}
 rw[if_neg k4]at D e;by_cases k5:k=6
 ·rw[if_pos k5]at D e;exact A.say T hz e λl d b c=>.inl {by decide +kernel,_,l,_,rfl,(A.same b).st,c,.inr (.inr (.inr (.inr (.inr {y,_,_,rfl,υ (K0 (by lia) (by lia)) (by decide),W.KIN.num_reads (by lia) (by lia),(A.same b).2.take T.s4 B.l B.vin (D.same b)}))))}
 rw[if_neg k5]at D e;exact A.say T hz e λl d b c=>.inl {by decide +kernel,_,l,_,rfl,(A.same b).st,c,.inr<|.inr<|.inr<|.inl {y,v,rfl,(A.same b).2.move T.s4 B.l B.vin g i B.hv (D.same b)}}
end
example:(z3z,bG,dR,5):=by
 apply u9;intro X cs g M zs k y v x [rfl,T,B,D];let[i,b]:=B.I.st.ob
 have c:=B.zok y B.hy
 have d:=B.zok v B.hv;unfold SX.df at D;erw[dR,dR10_,dR0_];by_cases k1:k<2
 ·rw[if_pos k1]at D;refine F5 k1 {_,_,b,BR,?_};erw[dR11_];exact B.I.make T B.l B.vin c B.hy D
 rw[if_neg k1]at D;refine E6 k1 ?_;erw[dR9_,dR1_];by_cases k2:k=2
 ·rw[if_pos k2]at D;refine F5 k2 {_,_,b,BR,?_};erw[dR11_];exact B.I.link T B.l B.vin c d B.hv D
 rw[if_neg k2]at D;refine E6 k2 ?_;erw[dR8_,dR2_];by_cases k3:k=3
 ·rw[if_pos k3]at D;refine F5 k3 {_,_,b,BR,?_};erw[dR11_];exact B.I.cut' T B.l B.vin D
 rw[if_neg k3]at D;refine E6 k3 ?_;erw[dR7_,dR3_];by_cases k4:k<6
 ·rw[if_pos k4]at D;refine F5 k4 {_,_,b,BR,x,rfl,λj po e=>?_};erw[dR11_];exact(B.I.same e).put' T B.l B.vin po (D.same e)
 rw[if_neg k4]at D;refine E6 k4 ?_;erw[dR6_,dR4_];by_cases k5:k=6
 ·rw[if_pos k5]at D;refine F5 k5 {_,_,b,BR,x,rfl,λz=>?_};erw[dR11_];exact B.I.take T B.l B.vin D
 rw[if_neg k5]at D;refine E6 k5 ?_;erw[dR5_];refine{_,_,b,BR,?_};erw[dR11_];exact B.I.move T B.l B.vin c d B.hv D
example:(z30,WP,d0,7):=by
 apply T2;intro q r X cs e M zs k y v x [rfl,T,TD,B,w,g,p];erw[d0,d00_,d08_,d03_]
 have bad:∀ c:String,(c="NoName"\/c="Twice"\/c="NoPiece"\/c="NoRoom")->X.df cs.length e M k y v x=.error c->∀ H',Same H H'->G7 (λcls=>W.exmOne K cls<|.ref<|a "NoName") (d07 K a (λu=>E) λu=>E) (G7 (λcls=>W.exmOne K cls<|.ref<|a "Twice") (d06 K a (λu=>E) λu=>E) (G7 (λcls=>W.exmOne K cls<|.ref<|a "NoPiece") (d05 K a (λu=>E) λu=>E) (G7 (λcls=>W.exmOne K cls<|.ref<|a "NoRoom") (d04 K a (λu=>E) λu=>E) ND))) (.ref<|a c) { nx:=d09 K a (λu=>E) (λu=>E) (AW Q),rt:=Q } [some q,some r,some<|.int k,some<|.str y,some<|.str v,some<|.int x,some<|.str<|ζ ""] H':=λc D he H' s=>by
  let rfl||rfl||rfl||rfl:=D
  ·refine .inl {TD.n1,?_};erw[d07_,d09_];exact g _ he _ s
  ·refine .inr {TD.t1,.inl {TD.t2,?_}};erw[d06_,d09_];exact g _ he _ s
  ·refine .inr {TD.p1,.inr {TD.p2,.inl {TD.p3,?_}}};erw[d05_,d09_];exact g _ he _ s
  ·refine .inr {TD.r1,.inr {TD.r2,.inr {TD.r3,.inl {TD.r4,?_}}}};erw[d04_,d09_];exact g _ he _ s
 let[rfl,rfl]||[h,rfl,A]:=w
 ·erw[d01_];refine x9 X cs e M zs k y v x {rfl,T.s4,B,λd b i H' j C l n sb=>?_,bad};erw[d09_];exact p d b i H' j C l n sb
 ·let[N,J]:=A.1;erw[d02_];refine{_,_,J,rfl,k,x,y,v,rfl,B.hk.1,B.hk.2,B.zok y B.hy,B.zok v B.hv,λz O o hz L=>?_};refine(A.same o).deed T { B with I:=B.I.same o } hz L (DE.same {λd b i H' j C l n sb=>?_,bad} o);erw[d09_];exact p d b i H' j C l n sb
def z31{l:eG}(h:∀ z∈l,dn z=true):Paired (Dat K H 2) (l.map V.str) (l.map PyData.str):=by
 induction l with
 |nil=>exact .nil
 |cons z l b=>exact .cons {.str z,h z χ,by simp[Ef]} (b λy c=>h y<|τ _ c)
def z32{p b:Addr}{k:Str}{l:eG}(h1:H p=some (.lst<|(k::l).map V.str))(h2:H b=some (.lst []))(ok:∀ z∈k::l,dn z=true)(q:Q (.bl false) H):LZ K (.ref p) (.ref b) H Q:=by
 have c:Dat K H 3 _ _:=Dat.lst (SqL.of h1) (z31 ok)
 have d:Dat K H 3 _ _:=Dat.lst (SqL.of h2) .nil;exact y2 {c.1,d.1,c.shp (by decide),d.shp (by decide),q}
example:(z33,WQ,cG,1):=by
 intro[l,g,rfl,c,i,ok,q];erw[cG,cG1_];refine{by decide,λp j=>?_};let[n,d,b,e]:=EI (o:=.lst []) j;rw[d]
 have q:=q n b;unfold MN at q;cases g with
 |nil =>
  refine z2y (b _ _ c) e ?_;erw[cG0_];exact q
 |cons k r =>
  rw[if_neg (by simp)]at q;refine z32 (b _ _ c) e ok ?_;erw[cG2_];exact{rfl,x3 _ l _ {rfl,rfl,SqL.of<|b _ _ c,by decide +kernel,υ i (by decide),q}}
def sk(c:Ch):Nat × Nat × yG:=(c.blk,c.cell,c.nd)
def XN{cs b:yH}(e:cs.map sk=b.map sk){k:Nat}{c:Ch}(h:cs[k]? =some c):∃ d,b[k]? =some d/\d.blk=c.blk/\d.cell=c.cell/\d.nd=c.nd:=by
 have h1:(b.map sk)[k]? =some (sk c):=by rw[<-e,ψ,h];rfl
 rw[ψ,ai]at h1;let[d,h2,h3]:=h1;injection h3 with h3 h4
 injection h4 with h4 h5
 exact⟨d,h2,h3,h4,h5⟩
theorem Ug:∀ {l m:yH},l.map sk=m.map sk->∀ b,FW l b=FW m b
 | [],[],_,_=>rfl
 | [],_::_,e,_=>by cases e
 |_::_,[],e,_=>by cases e
 |c::l,d::m,e,b=>by
  rw[bu,bu]at e;injection e with g i
  injection g with g _
  have:=congrArg f_ i;rw[ε,ε]at this;unfold FW;rw[Ug i b,g,this]
theorem Uh:∀ {l m:yH},l.map sk=m.map sk->∀ i j,JP l i j=JP m i j
 | [],[],_,_,_=>rfl
 | [],_::_,e,_,_=>by cases e
 |_::_,[],e,_,_=>by cases e
 |c::l,d::m,e,i,j=>by
  rw[bu,bu]at e;injection e with b n
  injection b with b g
  injection g with g _
  have:=congrArg f_ n;rw[ε,ε]at this;unfold JP;rw[Uh n i j,b,g,this]
def Uj{cs b:yH}(e:cs.map sk=b.map sk):cs.reverse.map sk=b.reverse.map sk:=by rw[G_,G_,e]
def z34{cs b:yH}(e:cs.map sk=b.map sk)(outs:zE):DD cs outs=DD b outs:=by
 funext s k;unfold DD
 have:((cs[k]?).bind λc=>IS c.nd λx=>outs x||s.gone x)=(b[k]?).bind λc=>IS c.nd λx=>outs x||s.gone x:=by
  cases h:cs[k]? with
  |none =>
   have:=congrArg f_ e;rw[ε,ε]at this;rw[bd (by rw[<-this];exact pe.mp h)]
  |some c =>
   let[d,h1,z,z,h2]:=XN e h;rw[h1]
   show IS c.nd _=IS d.nd _;rw[h2]
 rw[this]
def Uk{cs c:yH}(e:cs.map sk=c.map sk)(outs tk:zE)(b:Nat):outcome cs outs tk b=outcome c outs tk b:=by
 unfold outcome DI;rw[z34 e,Ug<|Uj e]
def Ul{cs c:yH}(e:cs.map sk=c.map sk)(outs:zE)(b:Nat):DF cs outs b=DF c outs b:=by
 unfold DF;rw[Uk e]
def z35{cs i:yH}(e:cs.map sk=i.map sk){outs:zE}{ns:yG}{R:zE}(h:JR cs outs ns R):JR i outs ns R:=by
 refine{h.all,λk c b=>?_,λx j=>(h.only x j).imp id λg=>?_}
 ·let[d,h1,z,z,h2]:=XN e.symm b;rw[<-h2];exact h.up k d h1
 ·let[k,c,b,r]:=g;let[d,h1,z,z,h2]:=XN e b;exact{k,d,h1,by rw[h2];exact r}
def z36{cs b:yH}(e:cs.map sk=b.map sk){outs:zE}{l row:wH}(h:HC cs outs l row):HC b outs l row:=by
 induction h with
 |nil=>exact .nil
 |cons g _ c =>
  let[d,h1,h2,z]:=XN e g;rw[Ul e,<-h2]at c;rw[<-h2];exact .cons h1 c
def z37{cs:yH}{outs:zE}{l c b:wH}(h:HC cs outs l c)(h2:HC cs outs l b):c=b:=by
 induction h generalizing b with
 |nil=>cases h2;rfl
 |cons e _ g =>
  cases h2 with
  |cons d h' =>
   rw[e]at d;cases d;rw[g h']
def LaidA.alike{n r c w:Nat}{H':Hp}{cs b:yH}{as:zH}(L:LaidA n r c w H cs as)(e:LaidA n r c w H' b as)(h:∀ x∈cs,x.nd.Pairwise (· <·))(h':∀ x∈b,x.nd.Pairwise (· <·)):cs.map sk=b.map sk:=by
 induction L generalizing b with
 |nil=>cases e;rfl
 |snoc _ g i _ j _ _ l =>
  cases e with
  |snoc o f1 f2 _ p _ _ =>
   rw[ak,ak,l o (λx d=>h x<|fz _ d) λx d=>h' x<|fz _ d]
   have q:=vE (h _ (by simp)) (h' _ (by simp)) λy=>(j y).trans (p y).symm
   congr 1
   simp only[bu,vh,yx,and_true];unfold sk;rw[g,i,f1,f2,q]
def C6.loose{X:SX}{cs:yH}{b:cD}{M:Hs}(I:C6 a H X cs b M){x:Addr}(h:X.S.G x):ES (H x):=h.elim (λh=>I.st.bk.loose h) λh=>by rw[h];exact RW I.st.tk
def C6.there{X:SX}{cs:yH}{b:cD}{M:Hs}(I:C6 a H X cs b M){x:Addr}(h:X.S.G x):H x≠none:=λe=>h.elim (λh=>I.st.bk.off e h) λh=>by rw[h,I.st.tk]at e;cases e
abbrev SA.Gp(S:SA):Addr->Prop:=λx=>S.G x\/x=S.A.gp
def C6.othp{X Y:SX}{cs g:yH}{d b:cD}{M i:Hs}(I:C6 a H X cs d M)(J:C6 a H Y g b i)(j:X.S.A.gp≠Y.S.A.gp):TM X H Y.S.A.gp:=by
 let[y,l]:=I.st.ob;let[y,o]:=I.st.ly.ob;let[y,p]:=I.st.bk.bk.ob;let[y,e]:=J.st.bk.pk.ob
 have c:∀ {q:Addr} {w n:Int},(pf q w n).lookup ("contents":Str)≠none:=λh=>by rw[OS]at h;cases h
 exact{{_,_,_,e,λr v s z=>c (by rw[z];rfl)},KB e l c BR,KB e o c B0,KB e p c DC,j}
def C6.frm{X Y:SX}{cs d:yH}{b c:cD}{M e:Hs}{H':Hp}(I:C6 a H X cs b M)(J:C6 a H Y d c e)(ap:∀ y,Y.S.G y->¬ X.S.G y)(g:X.S.A.gp≠Y.S.A.gp)(s:SameBut Y.S.Gp H H'):C6 a H' X cs b M:=I.far s λx i=>i.elim (λh=>.inr {J.loose h,ap x h}) λh=>.inl<|h ▸ I.othp J g
def z38{h:Addr}{Y:SX}{j:yH}{b:cD}{l:Hs}{H':Hp}{d g i st:Addr}(J:C6 a H Y j b l)(c:H h=some (.ins (a "House") d (hf g i st)))(s:SameBut Y.S.Gp H H'):H' h=some (.ins (a "House") d (hf g i st)):=by
 let[y,e]:=J.st.bk.pk.ob;exact s _ _ c λz=>z.elim (λz=>(J.loose z).2 _ _ _ c) λz=>KB e c (k:="contents") (λh=>by rw[OS]at h;cases h) (by simp[hf];decide +kernel) z
def HsC.frm{h:Addr}{X Y:SX}{cs d:yH}{b c:cD}{M g:Hs}{H':Hp}(A:HsC a H h X cs b M)(J:C6 a H Y d c g)(ap:∀ y,Y.S.G y->¬ X.S.G y)(i:X.S.A.gp≠Y.S.A.gp)(s:SameBut Y.S.Gp H H'):HsC a H' h X cs b M:={A.1.imp λz e=>z38 J e s,A.2.frm J ap i s}
def C6.frmh{h:Addr}{X Y:SX}{cs e:yH}{d b:cD}{M g:Hs}{H':Hp}(I:C6 a H Y e b g)(A:HsC a H h X cs d M)(ap:∀ y,X.S.G y->¬ Y.S.G y)(i:Y.S.A.gp≠X.S.A.gp)(s:SameBut (λx=>X.S.Gp x\/x=h) H H'):C6 a H' Y e b g:=by
 let[l,j]:=A.1;refine I.far s λx c=>?_;rcases c with(c|c)|c
 ·exact .inr {A.2.loose c,ap x c}
 ·exact .inl<|c ▸ I.othp A.2 i
 ·exact .inl (c ▸ I.oth j (by rw[QH];nofun) (by rw[TK];nofun))
section
variable{h:Addr}{X X':SX}{S S':SA}{rs rs':yD}{cs ds cs' ds':yH}{tks tks':cD}{M M':Hs}{H':Hp}
def Two.same(J:Two a H h X S rs cs ds tks M)(s:Same H H'):Two a H' h X S rs cs ds tks M:={J.A.same s,J.B.same s,J.lp,J.ap,J.gp}
def Two.ap'(J:Two a H h X S rs cs ds tks M):∀ y,S.G y->¬ X.S.G y:=λy h h'=>J.ap y h' h
def Two.sk(J:Two a H h X S rs cs ds tks M):cs.map sk=ds.map sk:=by
 have b:∀ {Y:SX} {c:yH} {H':Hp},C6 a H' Y c tks M->∀ x∈c,x.nd.Pairwise (· <·):=λI x d=>by
  let[k,e]:=List.getElem?_of_mem d;exact(I.st.bk.bk.need k x e).2.1
 exact J.A.2.st.la.alike J.B.st.la (b J.A.2) (b J.B)
def Two.len(J:Two a H h X S rs cs ds tks M):ds.length=cs.length:=by
 have:=congrArg f_ J.sk;rw[ε,ε]at this;exact this.symm
def Nx.of(s:Same H H'):Nx H X S H' X S:={rfl,⟨rfl,rfl⟩,⟨rfl,rfl,rfl,rfl⟩,λl xs e b c=>{s _ _ e,b,c}}
def Nx.trans{b:SX}{c:SA}{d:Hp}(h:Nx H X S H' X' S')(h':Nx H' X' S' d b c):Nx H X S d b c:=⟨h'.lp.trans h.lp,{h'.gp.1.trans h.gp.1,h'.gp.2.trans h.gp.2},{h'.sz.1.trans h.sz.1,h'.sz.2.1.trans h.sz.2.1,h'.sz.2.2.1.trans h.sz.2.2.1,h'.sz.2.2.2.trans h.sz.2.2.2},λl xs e g i=>by
 let[j,n,o]:=h.o l xs e g i;exact h'.o l xs j n o⟩
def TQ{Y:SX}{b:yH}(I:C6 a H Y b tks M){l:Addr}{xs:eI}(e:H l=some (.lst xs)):l≠Y.S.A.gp:=λz=>by
 let[y,c]:=I.st.bk.pk.ob;rw[z,c]at e;cases e
def Nx.one{Y:SX}{g:yH}(I:C6 a H Y g tks M)(b:X'.S=X.S)(i:X'.n=X.n/\X'.r=X.r/\X'.c=X.c/\X'.w=X.w)(j:Y.S=X.S\/Y.S=S)(sb:SameBut Y.S.Gp H H'):Nx H X S H' X' S:={by rw[b],{by rw[b],rfl},i,λl xs e c d=>{sb _ _ e λz=>z.elim (λz=>j.elim (λq=>c<|q ▸ z) λq=>d<|q ▸ z) (TQ I e),by rw[b];exact c,d}}
end
def z39{S:Md}{zs:eG}{ps:wH}{b:eG}(P:Paired (λp t=>S 4 p=.tx t) ps b)(h:∀ kind k,HF zs<|S kind k):(b.map (·.length)).sum+b.length<=41*ps.length:=by
 induction P with
 |nil=>exact π _
 |cons e _ c =>
  have:=h 4 ‹_›;rw[e]at this
  have:_<=40:=this;simp only[bu,xt,cf]
  lia
def z4a{cs:yH}{m:Nat}{row:wH}{outs:zE}{left:wH}(h:∀ c∈cs,c.blk<m)(r:HC cs outs left row):∀ b∈row,b<m:=by
 induction r with
 |nil=>exact λb d=>by cases d
 |cons e _ g =>
  intro b d;let rfl||d:=af.mp d
  exact h _<|θ e;exact g b d
def f7(M:Hs)(p:Nat):Str:=match M 4 p with
 |.tx t=>t
 |_=>""
def IZ(M:Hs)(m:Nat)(z:Str):Option (eG):=(cellOf M m z).map λk=>(G3 M<|CZ M k).map (f7 M)
def z4b{c:Nat}{M:Hs}{ps:wH}{b:eG}(P:Paired (λp t=>p<c/\M 4 p=.tx t) ps b):b=ps.map (f7 M):=by
 induction P with
 |nil=>rfl
 |cons e _ d =>
  rw[d,bu]
  congr 1
  unfold f7;rw[e.2]
section
variable{h:Addr}{X:SX}{cs:yH}{tks:cD}{M:Hs}{z:Str}{zs:eG}
def l5(b:BD z=true):(ζ "show ").length+z.length<=sizeLine/\(ζ "show "++z).length<=900/\(ζ "keep ").length+z.length<=sizeLine/\(ζ "keep "++z).length<=900:=by
 have:=(IY b).2.2;rw[MQ,MQ,show(ζ _).length=5 by decide,show(ζ _).length=5 by decide];exact{BP _ (by lia),by lia,BP _ (by lia),by lia}
def C6.texts(T:CO K a)(I:C6 a H X cs tks M)(i:FL M zs)(g:∀ d l H',IZ M X.m0 z=some d->(d.map (·.length)).sum+d.length<=1000->Same H H'->H' l=some (.lst<|d.map V.str)->Q (.ref l) H')(b:IZ M X.m0 z=none->D2 a H "NoName" E):O7 K a [.ref X.S.st,.str z] H Q E:=by
 refine x5 X cs tks M z {rfl,T,I.st,λcell n r u o=>?_,λv=>b (by unfold IZ;rw[v];rfl)};let[m,ps,w,j]:=I.rl u o;let[x,A]:=I.ps j;let[d,P]:=Tg (c:=X.c*X.w) (M:=M) (ps:=ps) λp q=>{x p q,(I.now.pm n m ps j p q).2}
 refine{w,m,ps,j,oA A rfl,d,P,λl H' y s e=>g d l H' ?_ ?_ s e}
 ·unfold IZ;rw[r,z4b P,mf,MV o,(HI j).2]
 ·have:=z39 (S:=M.f) (zs:=zs) (Paired.mapP P λp t h=>h.2) (fY i.b i.s)
  lia
def HsC.show(T:EQ K a)(A:HsC a H h X cs tks M)(i:FL M zs)(o:BD z=true)(g:∀ c H',IZ M X.m0 z=some c->Same H H'->Q (.str<|Txt.join "" c) H')(b:IZ M X.m0 z=none->D2 a H "NoName" E):GG K a [.ref h,.str<|ζ "show "++z] H Q E :=
 A.say T (l5 o).2.1 (z3r o) λl s d q=>.inr (.inr {by decide +kernel,by decide +kernel,_,l,_,rfl,(A.same d).st,q,.inr (.inr (.inr {z,rfl,(A.same d).2.texts T.s4 i (λc p j e hs n r=>x3 _ p c {rfl,rfl,SqL.of r,by decide,υ hs (by decide),g c j e<|d.trans n}) λe j n=>b e j<|d.trans n}))})
end
example:(z4c,bH,d9,5):=by
 apply QM;intro h X S n cs D o M zs z [rfl,W,hz,q]
 have j:=W.zok z hz
 have T:=W.T
 have p:=l5 j
 have fin:∀ {v:V} {g:Hp},Same H g->(∀ b,IZ M X.m0 z=some b->v=.str (Txt.join "" b))->(IZ M X.m0 z=none->v=.non)->d97 K a (λy=>E) (λy=>E) { nx:=d98 K a (λy=>E) (λy=>E) (AW Q),rt:=Q } [some (.ref h),some<|.ref S.st,some<|.str z,some .non,some v] g:=λ{v g} d h1 h2=>by
  have A:=W.J.A.same d;let[I,r]:=A.1;erw[d97_,d95_];refine y2 {r,rfl,p.1,A.show T W.vin j (λb s e i=>?_) λe s i=>?_}
  ·rw[h1 b e];erw[d98_];exact q _<|d.trans i
  ·rw[h2 e];refine .inl {W.TD.n1,?_};erw[d96_,d98_];exact q _<|d.trans i
 let[L,u]:=W.J.B.st.ob;erw[d9,d90_,d91_,d94_,d92_];refine{rfl,y2 {u,BR,W.J.B.texts (X:=X.tw S n) T.s4 W.vin (λb l g e hs d w=>?_) λe g d=>?_}}
 ·exact x3 _ l b {rfl,rfl,SqL.of w,by decide,υ hs (by decide),fin d (λx c=>by rw[show IZ M X.m0 z=some b from e]at c;cases c;rfl) λc=>by rw[show IZ M X.m0 z=some b from e]at c;cases c}
 ·refine .inl {W.TD.n1,?_};erw[d93_];exact fin d (λb c=>by rw[show IZ M X.m0 z=none from e]at c;cases c) λy=>rfl
structure Rk(X:SX)(cs:yH)(M:Hs)(z:Str)(row:wH)(k:Nat)(R:zE):Prop where
 c:cellOf M X.m0 z=some k
 r:JR cs X.outs (K7 X cs<|HY k (CZ M k) (G3 M<|CZ M k)) R
 o:HC cs X.outs (GE cs.length X.outs R) row
section
variable{h:Addr}{X:SX}{S:SA}{rs:yD}{cs ds:yH}{tks:cD}{M:Hs}{z:Str}{zs:eG}
def Two.row(J:Two a H h X S rs cs ds tks M){row b:wH}{k d:Nat}{R g:zE}(l:Rk X cs M z row k R)(n:Rk (X.tw S rs) ds M z b d g):row=b:=by
 let[i,q1,o]:=l;let[q,q2,j]:=n;rw[show cellOf M X.m0 z=some d from q]at i;cases i
 have e:=J.sk
 have r:K7 (X.tw S rs) ds (HY k (CZ M k) (G3 M<|CZ M k))=K7 X cs (HY k (CZ M k) (G3 M<|CZ M k)):=by
  unfold K7 D8
  congr 1
  funext p;rw[Uh (Uj e)]
 rw[r]at q2
 have s:g=R:=funext λx=>zmc (λk c u x v=>((J.A.2.st.bk.bk.need k c u).1 x v).2) (λy=>Ko) (z35 e.symm q2) q1 x;rw[s,J.len]at j;exact z37 o<|z36 e.symm j
def C6.keeps(T:CO K a)(I:C6 a H X cs tks M)(o:cs.length<=300)(g:∀ row k R l H',Rk X cs M z row k R->row.length<=300->(∀ b∈row,b<100)->Same H H'->H' l=some (.lst<|AS row)->Q (.ref l) H')(b:cellOf M X.m0 z=none->D2 a H "NoName" E):ME K a [.ref X.S.st,.str z] H Q E:=by
 have B:=I.st.sz;refine x5 X cs tks M z {rfl,T,I.st,λcell p q r j=>?_,b};let[m,ps,u,d]:=I.rl r j;let[v,w]:=I.ps d;refine{u,m,ps,d,oA w rfl,v,λl row R H' x n c3 y s e=>g row cell R l H' {q,by rw[MV j,(HI d).2];exact x,n} (by lia) (λb i=>?_) s e}
 have:=z4a (λc A=>I.st.bk.nb ▸ (I.st.bk.bk.inn c A).1) n b i
 lia
def HsC.keep(T:EQ K a)(A:HsC a H h X cs tks M)(d:cs.length<=300)(j:BD z=true)(g:∀ row k R H',Rk X cs M z row k R->Same H H'->Q (.str<|MN<|row.map λ(b:Nat)=>B9 b) H')(b:cellOf M X.m0 z=none->D2 a H "NoName" E):GG K a [.ref h,.str<|ζ "keep "++z] H Q E :=
 A.say T (l5 j).2.2.2 (z3q j) λl x c o=>.inr (.inr {by decide +kernel,by decide +kernel,_,l,_,rfl,(A.same c).st,o,.inr<|.inl {z,rfl,(A.same c).2.keeps T.s4 d (λrow k R p n q r s i u=>{p,row,rfl,u,r,s,λv w=>g row k R v q<|c.trans<|i.trans w}) λe n i=>b e n<|c.trans i}})
end
def z4d:∀ b:Fin 100,dn (B9 (b.val:Nat))=true:=by decide +kernel
example:(z4e,bI,eC,5):=by
 apply QM;intro h X S rs cs ds tks M zs z [rfl,W,hz,q]
 have O:=W.zok z hz
 have T:=W.T
 have s5:=l5 O
 have fin:∀ {v:V} {g:Hp},Same H g->(∀ row k R,Rk X cs M z row k R->v=.str (MN<|row.map λ(b:Nat)=>B9 b))->(cellOf M X.m0 z=none->v=.non)->eC7 K a (λu=>E) (λu=>E) { nx:=eC8 K a (λu=>E) (λu=>E) (AW Q),rt:=Q } [some (.ref h),some<|.ref S.st,some<|.str z,some .non,some v] g:=λ{v g} d h1 h2=>by
  have A:=W.J.A.same d;let[dh,eh]:=A.1;erw[eC7_,eC5_];refine y2 {eh,rfl,s5.2.2.1,A.keep T W.l O (λrow k R U j n=>?_) λe U n=>?_}
  ·rw[h1 row k R j];erw[eC8_];exact q _<|d.trans n
  ·rw[h2 e];refine .inl {W.TD.n1,?_};erw[eC6_,eC8_];exact q _<|d.trans n
 erw[eC,eC0_,eC1_,eC4_,eC2_];refine W.J.B.keeps (X:=X.tw S rs) T.s4 (by rw[W.J.len];exact W.l) (λrow k R l g j hr s d Y=>?_) λe g d=>?_
 ·refine .inl {{_,SqL.of Y},?_}
  have w:(AS row).length=row.length:=by unfold AS;rw[ε]
  refine UT (xs:=AS row) (BP _ (by lia)) (λi ys H'=>H'=g/\ys=(row.take i).map λ(b:Nat)=>V.str<|B9 b) ⟨rfl,rfl⟩ (λi ys H' u q=>by rw[q.1];exact SqL.of Y) (λi x ys H' D I L=>?_) (λys H' I L lc o=>?_)
  ·let[e,p]:=L;unfold AS at D;rw[ψ,ai]at D;let[c,r,rfl]:=D
   have:=s c<|θ r;erw[C1];refine{_,rfl,by lia,by lia,e,?_};rw[cu,r,ak,p]
   rfl
  ·let[e,p]:=L;rw[e]at o ⊢;rw[w,dv<|π _]at p
   have:=fV s;refine{lc,row.map λ(b:Nat)=>B9 b,rfl,by rw[AG,p,jh];rfl,by rw[ε];lia,λy hy=>?_,λU n=>?_}
   ·let[c,r,rfl]:=a_.mp hy;exact z4d {c,s c r}
   ·erw[];exact fin (d.trans<|(AL o).trans n) (λrow' k' R' N=>by rw[W.J.row N j]) λe'=>by rw[show cellOf M X.m0 z=some k from j.c]at e';cases e'
 ·refine .inl {W.TD.n1,?_};erw[eC3_];exact fin d (λrow k R j=>by have:=j.c;rw[show cellOf M X.m0 z=none from e]at this;cases this) λu=>rfl
example:(z4f,SF,Dv,2):=by
 apply u6;intro X cs tks M b row [rfl,[T,TP,TL,TS],I,r,q];let[N,ho]:=I.ob;let[dp,s]:=I.bk.pk.ob
 have hb:=(η.mp r).1;let[db,eb]:=I.bk.bk.ob;refine y3 {ho,TS.cl,TS.n2,_,IC,y2 {eb,DC (by decide),x7 _ _ _ _ cs _ b {rfl,T,TP,I.bk,λb' O t ol hl H' w n o1 o2 u o3 B' sb=>?_,λz=>by lia}}};obtain rfl:b=b':=ca w;rw[r]at n
 have lo:∀ x,X.S.A.F x->ES _:=λx hx=>I.bk.loose hx;obtain rfl:=μ n;let[[N,i],U,e3,B,e5,e6,Y,o,e9,D,J,L]:=I
 have tk:EE H H':=λy ys e=>sb _ _ e λz=>z.elim (λz=>(lo _ z).1 _ e) λz=>by rw[z,s]at e;cases e
 let[dl,l]:=U.ob;refine q t ol hl H' o1 o2 o3 {{N,sb _ _ i λz=>z.elim (λz=>(lo _ z).2 _ _ _ i) λz=>?_},U.sb sb λz=>z.elim (λz=>(lo _ z).2 _ _ _ l) λz=>?_,B',sb _ _ B λz=>z.elim Y λz=>?_,e5,e6,Y,{o.1,o.2.1,o.2.2.1,o.2.2.2.1,by show(X.rows.set b _).length=X.n+X.r+X.c+X.r+X.c;rw[jx];exact o.2.2.2.2},{λq p v d=>?_,(e9.keep tk).2},λkind k v h1 hk d=>?_,J,L.keep tk} sb;rw[show X.S.st=X.S.A.gp from z,s]at i;injection i with i
 injection i with _ _ i
 cases (congrArg (·.lookup ("plan":Str)) i);rw[z,s]at l;injection l with l
 injection l with _ _ l
 exact absurd (congrArg f_ l) (by simp[pf,lf]);rw[show X.S.tk=X.S.A.gp from z,s]at B;cases B
 have g:=e9.keep tk;let p||p:=pd p
 exact g.1 q p v d;rw[p]at d;let d||[c,hc,rfl]:=z0v d
 exact g.1 _ (θ r) v d;exact g.2 c hc
 have d:E3 cs (X.rows.set b _) (BM X.n X.r X.c X.w _ k) (k%X.w:Nat)=some v:=d;refine(D _ k v h1 hk ?_).keep tk;rw[<-d];unfold E3;cases en:D8 cs _ _ with
 |some j=>rfl
 |none =>
  rw[cj];by_cases e:BM X.n X.r X.c X.w kind k=b;rw[e]at en ⊢;rw[r,gk hb]
  show row[_]? =(EY cs _ b _)[_]?;rw[cj,z0u en];rw[ia (λz=>e z.symm)]
def z4g{l:eG}(h:∀ y∈l,y.length<=8):(l.map (·.length)).sum<=8*l.length:=by
 induction l with
 |nil=>exact π _
 |cons y l b =>
  have h1:=h y χ
  have h2:=b λx c=>h x<|τ _ c;simp only[bu,xt,cf]
  lia
def Um{cs:yH}{outs:zE}{b:Nat}:(outcome cs outs (λ_=>false) b).out.length+(outcome cs outs (λ_=>false) b).held.length<=cs.length:=by
 have:=ZV (cs:=cs) (outs:=outs) (DI cs b) {[],[],λz=>false}
 have h2:=ZQ cs b;unfold outcome;simp at this ⊢
 lia
section
variable{h:Addr}{X:SX}{cs:yH}{tks:cD}{M:Hs}{z:Str}{zs:eG}
def C6.hs(A:HsC a H h X cs tks M){e:SX}{c:yH}{b:cD}{g:Hs}{H':Hp}(C:C6 a H' e c b g)(i:e.S=X.S)(sb:SameBut (λx=>X.S.A.F x\/x=X.S.tk\/x=X.S.A.gp) H H'):HsC a H' h e c b g:=by
 let[[j,d],I]:=A;let[y,l]:=I.st.bk.pk.ob;refine{{j,?_},C};rw[i];refine sb _ _ d λz=>?_;let z||z||z:=z
 exact(I.st.bk.loose z).2 _ _ _ d;rw[z,I.st.tk]at d;cases d;exact KB d l  (by rw[QH];nofun) (JO _ _ _ (by decide) (by decide) (by decide)) z.symm
def HsC.write{b:Nat}(T:EQ K a)(A:HsC a H h X cs tks M)(i:b<X.rows.length)(j:cs.length<=900)(q:∀ row H',X.rows[b]? =some row->HsC a H' h (X.wr cs b row) cs tks M->SameBut (λx=>X.S.A.F x\/x=X.S.A.gp) H H'->Q (.str<|B9 (outcome cs X.outs (λ_=>false) b).out.length++(" ":Str)++B9 (outcome cs X.outs (λ_=>false) b).held.length) H'):GG K a [.ref h,.str<|ζ "write "++B9 b] H Q E:=by
 have sz:=A.2.st.sz
 have g:b<100:=by lia
 have e:=ι i
 have u:(ζ "write ").length=6:=by decide
 have l2:(B9 b).length<=2:=fU ⟨b,g⟩;refine A.say T (by rw[MQ];lia) (z3s g) λl v d p=>.inr (.inr {by decide +kernel,by decide +kernel,_,l,_,rfl,(A.same d).st,p,.inl {b,rfl,by lia,x6 X cs tks M b _ {rfl,T.s4,(A.same d).2.st,e,λt ol r H' y y told s sb=>?_}}})
 have w:=Um (cs:=cs) (outs:=X.outs) (b:=b)
 have c:SameBut (λx=>X.S.A.F x\/x=X.S.A.gp) H H':=λx o ex n=>sb _ _ (d _ _ ex) n;exact x5 t ol r _ _ {rfl,told,by lia,by lia,q _ H' e (C6.hs A ((A.same d).2.write e s sb) rfl λx o ex n=>c _ _ ex λz=>n<|z.imp id .inr) c}
def z4h{z:Str}(h:BD z=true):dn z=true:=by
 unfold dn;rw[<-um,fe];intro c b
 have:=fe.mp (IY h).1.2 c b;unfold OZ at this
 lia
def C6.names(T:CO K a)(I:C6 a H X cs tks M)(c:FL M zs)(d:∀ z∈zs,BD z=true)(q:∀ b l H',Same H H'->H' l=some (.lst<|b.map V.str)->b.Perm (JT M X.m0)->z_ b=true->(∀ y∈b,dn y=true)->(b.map (·.length)).sum+b.length<=1000->Q (.ref l) H'):O2 K a [.ref X.S.st] H Q E:=by
 refine x4 X cs tks M {rfl,T,I.st,λp b n x o s j hs=>?_}
 have g:∀ y∈b,y∈zs:=λy i=>by
  let[k,r,u,e]:=z2x.mp<|j.mem_iff.mp i
  have:=fY c.b c.s 0 k;rw[show hnd M.b M.as 0 k=_ from e]at this;exact this
 have h1:=z4g λy i=>(IY<|d y<|g y i).2.2
 have h2:b.length<=X.m0:=by
  rw[j.length_eq];exact υ (gy _ _) (by rw[ce];exact π _)
 have h3:X.m0<=36:=υ (jp I.st.sz.1 I.st.sz.2.2.2.1) (by decide);exact q b p n o s j hs (λy i=>z4h<|d y<|g y i) (by lia)
def HsC.names(T:EQ K a)(A:HsC a H h X cs tks M)(c:FL M zs)(d:∀ z∈zs,BD z=true)(q:∀ b H',Same H H'->b.Perm (JT M X.m0)->z_ b=true->Q (.str<|MN b) H'):GG K a [.ref h,.str<|ζ "names"] H Q E :=
 A.say T (by decide +kernel) (w:="names") (ws:=[]) (by decide +kernel) λl s e g=>.inr (.inr {by decide +kernel,by decide +kernel,_,l,_,rfl,(A.same e).st,g,.inr<|.inr<|.inl {rfl,(A.same e).2.names T.s4 c d λb p i j n o hs y r=>{p,b,rfl,n,r,q b i (e.trans j) o hs}}})
end
example:(z4i,aI,wR,1):=by
 apply u5;intro x c d b tk [rfl,T,e,q];exact y3 ⟨e,T.cl,T.n1,_,IB,q⟩
example:(z4j,bJ,eE,7):=by
 apply T2;intro h X S g cs d i M zs z x [rfl,W,hz,n1,q]
 have T:=W.T;let[TB,TP,TL,TS]:=id T.s4;let[dh,eh]:=W.J.A.1;erw[eE,eE1_];refine y2 {eh,rfl,W.J.A.names T W.vin W.zok λks H1 s1 p1 N=>?_}
 have J1:=W.J.same s1;let[dx,ho]:=J1.B.st.ob;refine y2 {ho,BR,J1.B.names (X:=X.tw S g) T.s4 W.vin W.zok λO l H2 s2 el p2 U ok Y=>{l,O,rfl,el,Y,ok,λH3 s3=>?_}};obtain rfl:=zg2 N U<|p1.trans p2.symm;erw[]
 have r:=s1.trans<|s2.trans s3
 have W3:SS K a H3 h X S g cs d i M zs:={ W with J:=W.J.same r }
 refine TZ h X S g cs d i M zs z {rfl,W3,hz,λH4 s4=>?_};erw[eE3_]
 have W4:SS K a H4 h X S g cs d i M zs:={ W3 with J:=W3.J.same s4 }
 refine TZ h X S g cs d i M zs z {rfl,W4,hz,λD s5=>?_};erw[eE8_]
 have c:=W4.J.same s5
 have s:=r.trans<|s4.trans s5;by_cases k2:x%2=0
 ·refine F5 k2 ?_;erw[eE4_];let[dx5,j]:=c.B.st.ob;let[dl5,el5]:=c.A.2.st.ly.ob
  have rl:=c.A.2.st.sz
  have rl':g.length=X.n+X.r+X.c+X.r+X.c:=c.B.st.sz.2.2.2.2
  have elS:S.lp=X.S.lp:=c.lp;refine{{by decide,by decide},y2 {j,BR,x5 _ _ _ _ _ {rfl,TS,j,?_}}};erw[];rw[elS];refine y2 {el5,B0,x5 _ _ _ _ _ {rfl,TL,c.A.2.st.ly,?_}};let[b,eb,hb]:=SV (x/2) (n:=X.rows.length) (by lia);erw[];refine{by lia,?_};rw[show((X.n:Int)+X.r+X.c+X.r+X.c)=(X.rows.length:Nat) by lia,eb]
  have u:=ι (show b<g.length by lia);erw[eE5_];refine y2 {j,BR,x6 (X.tw S g) d i M b _ {rfl,T.s4,c.B.st,u,λt ol Y H6 N U told I6 w=>?_}}
  have C6':=c.B.write u I6 w
  have g6:SameBut S.Gp D H6:=λy o e n=>w _ _ e λz=>n<|z.imp .inl id
  have p:=c.A.frm c.B c.ap' c.gp.symm g6
  have nx6:Nx D X S H6 X S:=Nx.one c.B rfl ⟨rfl,rfl,rfl,rfl⟩ (.inr rfl) g6;let[e1,e2,hs,e3,P]:=told;erw[];refine{_,SqT.of e1,rfl,?_};erw[eE7_];let[dh6,eh6]:=p.1
  have b1:b<100:=by lia
  have l2:(B9 b).length<=2:=fU ⟨b,b1⟩
  have l6:(ζ "write ").length=6:=by decide
  have cl:=W.l;refine y2 {eh6,rfl,_,rfl,by lia,by lia,?_};erw[];refine{BP _ (by lia),p.write T hb (by lia) λrow I er A7 sb7=>?_}
  have L:SameBut X.S.Gp H6 I:=λy o e n=>sb7 _ _ e λz=>n<|z.imp .inl id
  have nG:∀ {l:Addr},D l=none->¬ X.S.G l:=λe z=>c.A.2.there z e
  have e2':I ol=some (.lst _):=L _ _ e2 λz=>z.elim (nG N) (TQ p.2 e2)
  have e3':I Y=some (.lst _):=L _ _ e3 λz=>z.elim (nG U) (TQ p.2 e3)
  have eo:=Uk c.sk X.outs (λv=>false) b
  have CK:(outcome cs X.outs (λv=>false) b).out.length+(outcome cs X.outs (λv=>false) b).held.length<=cs.length:=Um;rw[eo]at CK ⊢;refine{_,.inl {_,SqL.of e2',rfl},?_}
  have hP:=P.length;refine{_,rfl,by rw[ε];lia,by rw[ε];show((outcome d X.outs (λv=>false) b).out.length:Int)<_;lia,?_}
  have n1:(B9 ((outcome d X.outs (λv=>false) b).out.length:Nat)).length<=10:=K0 (by lia) (by lia)
  have n2:(B9 ((outcome d X.outs (λv=>false) b).held.length:Nat)).length<=10:=K0 (by lia) (by lia)
  have e7:(ζ " ").length=1:=by decide
  rw[ε]
  show A8 K (.str<|B9 ((outcome d X.outs (λv=>false) b).out.length:Nat)) _ _ _;erw[];refine{BP _ (by lia),_,.inl {_,SqL.of e3',rfl},_,rfl,by lia,by rw[ε,hP];show((outcome d X.outs (λv=>false) b).held.length:Int)<_;lia,?_};rw[ε,hP]
  show A8 K _ (.str<|B9 ((outcome d X.outs (λv=>false) b).held.length:Nat)) _ _;erw[];refine{BP _ (by rw[MQ];lia),?_};erw[eE9_]
  have eX:(X.tw S g).wr d b g[b]=(X.wr cs b row).tw S (g.set b<|EY d (DF d X.outs b) b g[b]):=by
   show SX.mk _ _ _ _ _ _ _ (DF d X.outs b)=SX.mk _ _ _ _ _ _ _ (DF cs X.outs b);rw[Ul c.sk]
   rfl
  have B7:=C6'.frmh p c.ap c.gp λy o e n=>L _ _ e λz=>n<|.inl z;rw[eX]at B7;exact q _ _ I ⟨A7,B7,c.lp,c.ap,c.gp⟩ ((Nx.of s).trans (nx6.trans<|Nx.one p.2 rfl ⟨rfl,rfl,rfl,rfl⟩ (.inl rfl) L))
 ·refine E6 k2 ?_;erw[eE9_];exact q X g D c<|Nx.of s
section
variable{h:Addr}{X:SX}{cs:yH}{tks:cD}{M:Hs}
def Up.pre{H' b:Hp}{X c:SX}{S:Md}{D:yE}(s:Same H H')(u:Up H' b X c S D):Up H b X c S D:={u.lp,u.gp,u.sz,u.nn,u.ou,λy o e=>u.nw y o<|s _ _ e,λy o e n=>u.sb _ _ (s _ _ e) n}
def HsC.stop(T:EQ K a)(d:TV K a)(A:HsC a H h X cs tks M)(q:∀ b H',HsC a H' h b [] [] {ED X.n X.r X.c X.w<|sh M.b X.C M.as,[]}->Up H H' X b (sh M.b X.C M.as) (· =h)->Q (.str<|B9 (IW<|BX X.n X.r X.c X.w<|sh M.b X.C M.as).length) H'):GG K a [.ref h,.str<|ζ "stop"] H Q E :=
 A.say T (by decide +kernel) (w:="stop") (ws:=[]) (by decide +kernel) λl g c i=>.inr<|.inl {rfl,x5 h X cs tks M {rfl,T,d,A.same c,λb H' e up=>q b H' e<|up.pre c}}
end
def Uq{X Y:SX}(b:Y.n=X.n/\Y.r=X.r/\Y.c=X.c/\Y.w=X.w)(c:Y.nn=X.nn)(d:Y.outs=X.outs):Y=X.tw Y.S Y.rows:=by
 cases Y;let[rfl,rfl,rfl,rfl]:=b;cases c;cases d
 rfl
example:(z4k,bK,eD,5):=by
 apply u8;intro h X S v cs ds tks M [rfl,T,w,J,q]
 have G:=J.B.gnd w T.s4;rw[show(X.tw S v).S.lp=X.S.lp from J.lp]at G
 have b:=G.site;erw[eD,eD0_];refine{X.S.lp,S.A.gp,_,rfl,⟨_,_,_,_,_,_,_,b.tv,b.tl,b.tp,b.la,b.pl,b.rl,b.pv⟩,λl U hl s1 x=>?_};let[ps,el,D]:=x;rw[G.sd.fault G.bo,jy]at D
 have bl:ps.length<1000000:=cg (D.length ▸ Tk b.pv.ok) (by decide);refine{ps.length,.inl {_,SqL.of el,by rw[ε]},_,rfl,by lia,by lia,?_};rw[D.length]
 have c:=J.same s1
 have G1:=c.B.gnd w T.s4;rw[show(X.tw S v).S.lp=X.S.lp from J.lp]at G1;erw[eD1_];refine{X.S.lp,S.A.gp,S.A.cl,X.n,X.r,X.c,X.w,v,X.nn,_,rfl,G1,λY p b1 b2 b3 b4 b5 b6 b7 b8 off ht C' sb=>?_}
 have I:S.A.F S.A.cl:=.inr<|.inr<|.inr<|.inr<|.inr rfl
 have g2:SameBut S.Gp U p:=λy o e n=>sb _ _ e λz=>n<|z.elim .inr λz=>.inl<|.inl<|z ▸ I
 have r:=c.A.frm c.B c.ap' c.gp.symm g2
 have d:∀ y,X.S.G y->¬ Y.S.G y:=λy s u=>by
  cases e:U y with
  |none=>exact c.A.2.there s e
  |some o=>exact u.elim (λz=>(off y o e).elim (λL=>J.ap y s<|L ▸ .inl I) λn=>n z) λz=>by rw[z,ht]at e;cases e
 have g:Y.S.A.gp≠X.S.A.gp:=by rw[b2];exact J.gp
 let[dh,eh]:=r.1;erw[eD3_];refine y2 {eh,rfl,r.stop T w λN H3 A3 up=>?_};erw[eD4_]
 have O:X.S.A.F X.S.A.cl:=.inr<|.inr<|.inr<|.inr<|.inr rfl
 have C3:=C'.frmh r d g (H':=H3) λy o e n=>up.sb _ _ e λz=>n (by
  let z||z||z:=z
  ·exact .inl<|.inr z
  ·exact .inl<|.inl<|.inl<|z ▸ O
  ·exact .inr z)
 have eY:Y=N.tw Y.S Y.rows:=Uq {b4.trans up.sz.1.symm,b5.trans up.sz.2.1.symm,b6.trans up.sz.2.2.1.symm,b7.trans up.sz.2.2.2.symm} (b8.1.trans up.nn.symm) (b8.2.trans up.ou.symm);rw[eY]at C3
 have n3:∀ y o,p y=some o->¬ X.S.G y->¬ N.S.G y:=λy o e n=>(up.nw y o e).elim (λz=>absurd (.inl<|z ▸ O) n) id;refine q N Y.S Y.rows H3 {A3,C3,b1.trans up.lp.symm,λy s u=>?_,λz=>g<|z.trans up.gp} {up.lp,⟨up.gp,b2⟩,up.sz,λl xs e n1 n2=>?_}
 ·cases e:p y with
  |none=>exact C'.there u e
  |some o =>
   by_cases hx:X.S.G y
   ·exact d y hx u
   ·exact n3 y o e hx s
 ·have i:=s1 _ _ e
  have j:p l=some (.lst xs):=g2 _ _ i λz=>z.elim n2<|TQ c.B i;refine{up.sb _ _ j λz=>?_,n3 l _ j n1,λz=>z.elim (λz=>(off l _ i).elim (λL=>n2<|L ▸ .inl I) λn=>n z) λz=>by rw[z,ht]at i;cases i};let z||z||z:=z
  ·exact TQ r.2 j z
  ·exact n1<|.inl<|z ▸ O
  ·rw[z,eh]at j;cases j
example:(z4l,VD,xA,1):=by
 apply u5;intro p b w rows n [rfl,T,P,q];let[c,h1]:=P.ob;exact y3 {h1,T.cl,T.nN,_,uO _ _ _,q}
def z4m(ns:yG):∃ b:yG,GO (ns.map V.int) (some 1) none=b.map V.int/\b.length<=ns.length - 1:=by
 refine{(ns.drop<|HT.sIx ns.length 0<|some 1).take (HT.sIx ns.length ns.length none-HT.sIx ns.length 0 (some 1)),?_,?_}
 ·unfold GO;rw[ε,<-Au,<-At]
 ·rw[cz,ic]
  have:HT.sIx ns.length 0 (some 1)=min 1 ns.length:=by
   unfold HT.sIx;simp
   try omega
  omega
def z4n{zs:eG}{n r c w:Nat}{S:Md}(h:∀ kind k,HF zs<|S kind k)(kind k:Nat):HF zs (ED n r c w S kind k):=by
 unfold ED
 repeat' split
 all_goals first|trivial|exact h _ _|(rename_i e;rw[<-e];exact h _ _)
structure L71(a:Ad)(h ly nl rr gp pg:Addr)(zs:eG)(ms:yG)(i:Nat)(X:SX)(S:SA)(rs:yD)(cs ds:yH)(tks:cD)(M:Hs)(H:Hp):Prop where
 J:Two a H h X S rs cs ds tks M
 e:X.S.lp=ly/\X.S.A.gp=gp/\S.A.gp=pg
 w:X.c*X.w<=12/\1<=X.n
 b:cs.length+EH (X.c*X.w) M<=12+4*i
 v:FL M zs
 nm:vL H nl zs
 er:H rr=some (.lst<|ms.map V.int)
 g:(¬ X.S.G nl/\¬ S.G nl)/\¬ X.S.G rr/\¬ S.G rr
section
variable{h ly nl rr gp pg s:Addr}{zs:eG}{ms:yG}{i i':Nat}{X X':SX}{S S':SA}{rs rs':yD}{cs ds cs' ds':yH}{tks tks':cD}{M M':Hs}{H':Hp}
def L71.go(L:L71 a h ly nl rr gp pg zs ms i X S rs cs ds tks M H)(c:Two a H' h X' S' rs' cs' ds' tks' M')(d:cs'.length+EH (X'.c*X'.w) M'<=12+4*i')(g:FL M' zs)(nx:Nx H X S H' X' S'):L71 a h ly nl rr gp pg zs ms i' X' S' rs' cs' ds' tks' M' H':=by
 let[J,e,w,b,v,nm,j,g1,g2]:=L;let[l,n]:=nx.o nl _ nm.1 g1.1 g1.2;let[o,p]:=nx.o rr _ j g2.1 g2.2;exact{c,{nx.lp.trans e.1,nx.gp.1.trans e.2.1,nx.gp.2.trans e.2.2},by rw[nx.sz.1,nx.sz.2.2.1,nx.sz.2.2.2];exact w,d,g,⟨l,nm.2⟩,o,n,p}
def L71.same(L:L71 a h ly nl rr gp pg zs ms i X S rs cs ds tks M H)(s:Same H H'):L71 a h ly nl rr gp pg zs ms i X S rs cs ds tks M H':=L.go (L.J.same s) L.b L.v (Nx.of s)
def LI(a:Ad)(h ly nl rr gp pg:Addr)(zs:eG)(ms:yG)(s:Addr)(i:Nat)(e:St)(H':Hp):Prop:=∃ X S rs cs ds tks M,L71 a h ly nl rr gp pg zs ms i X S rs cs ds tks M H'/\∃ g j l b c d,e=[some (.ref s),g,some<|.ref ly,some<|.ref h,some<|.ref gp,some<|.ref pg,some<|.ref S.st,some<|.ref nl,j,l,b,c,d]
end
section
variable{h ly nl rr gp pg s:Addr}{zs:eG}{ms:yG}{i:Nat}{X:SX}{S:SA}{rs:yD}{cs ds:yH}{tks:cD}{M:Hs}{y:Int}{D:Ends}
def L71.tail(T:EQ K a)(TD:TD K a)(hz:∀ z∈zs,BD z=true)(q:i<=62)(L:L71 a h ly nl rr gp pg zs ms i X S rs cs ds tks M H)(g:D.nx=LI a h ly nl rr gp pg zs ms s i){j l c:Option V}{t t':Str}(n:t=t'):AH (eL16 K a (λ_=>E) λ_=>E) (eL18 K a (λ_=>E) λ_=>E) D [some (.ref s),some<|.int y,some<|.ref ly,some<|.ref h,some<|.ref gp,some<|.ref pg,some<|.ref S.st,some<|.ref nl,j,l,some<|.str t,some<|.str t',c] H:=by
 subst n;erw[eL16_];refine ze7 (.inl<|.str _) (.ty _) (b:=true) rfl ?_;erw[eL18_];refine{{by decide,by decide},fX L.nm λz d=>?_};erw[]
 have r:=L.b;refine{{by decide,by decide},KI h X S rs cs ds tks M zs z _ {rfl,{T,TD,L.J,L.v,hz,by lia},d,L.w.2,λo e H' p nx=>?_}};erw[];rw[g];exact{o,S,e,cs,ds,tks,M,L.go p (by rw[nx.sz.2.2.1,nx.sz.2.2.2];exact L.b) L.v nx,_,_,_,_,_,_,rfl}
def L71.mid(T:EQ K a)(TD:TD K a)(hz:∀ z∈zs,BD z=true)(hi:i<=61)(L:L71 a h ly nl rr gp pg zs ms i X S rs cs ds tks M H)(U:D.nx=LI a h ly nl rr gp pg zs ms s (i+1)){y8 y9 x B I:Option V}:AH (eL11 K a (λ_=>E) λ_=>E) (AH (eL12 K a (λ_=>E) λ_=>E) (AH (eL13 K a (λ_=>E) λ_=>E) (AH (eL14 K a (λ_=>E) λ_=>E) (AH (eL16 K a (λ_=>E) λ_=>E) (eL18 K a (λ_=>E) λ_=>E))))) D [some (.ref s),some<|.int y,some<|.ref ly,some<|.ref h,some<|.ref gp,some<|.ref pg,some<|.ref S.st,some<|.ref nl,y8,y9,x,B,I] H:=by
 have bb:=L.b
 have el:=L.J.len;erw[eL11_];refine{{by decide,by decide},fX L.nm λq g=>?_};erw[eL12_];refine{{by decide,by decide},fX L.nm λr j=>?_};erw[eL13_]
 have k8:0<=y%8/\y%8<8:=by lia
 have Y:(X.tw S rs).df ds.length tks M (y%8) q r (y/200)=X.df cs.length tks M (y%8) q r (y/200):=by rw[el];rfl
 refine{{by decide,by decide},KI _ _ (X.tw S rs) ds tks M zs (y%8) q r (y/200) {rfl,T,TD,{L.J.B,by lia,L.v,hz,g,j,k8},.inl ⟨rfl,rfl⟩,λc he N s1=>?_,λO d M' N l C hb v' sb=>?_}}
 ·rw[Y]at he
  have w:=L.same s1;erw[eL14_];refine{{by decide,by decide},KI _ _ X cs tks M zs (y%8) q r (y/200) {rfl,T,TD,{w.J.A.2,by lia,L.v,hz,g,j,k8},.inr ⟨h,rfl,w.J.A⟩,λc' b p s2=>?_,λu d M' p l=>?_}}
  ·rw[he]at b;cases b
   have L2:L71 a h ly nl rr gp pg zs ms (i+1) X S rs cs ds tks M p:=w.go (w.J.same s2) (by lia) L.v (Nx.of s2);exact L2.tail T TD hz (by lia) U rfl
  ·rw[he]at l;cases l
 ·rw[Y]at l
  have g1:SameBut S.Gp H N:=λy o e n=>sb _ _ e λz=>n<|.inl z
  have v:=L.J.A.frm L.J.B L.J.ap' L.J.gp.symm g1;erw[eL14_];refine{{by decide,by decide},KI _ _ X cs tks M zs (y%8) q r (y/200) {rfl,T,TD,{v.2,by lia,L.v,hz,g,j,k8},.inr ⟨h,rfl,v⟩,λc' b=>?_,λu tks2 M2 p MY C2 hb2 v2 LJ=>?_}}
  ·rw[l]at b;cases b
  ·rw[l]at MY;cases MY
   have g2:SameBut X.S.Gp N p:=λy o e n=>LJ _ _ e λz=>n<|.inl z
   have B2:=C.frmh v L.J.ap L.J.gp λy o e n=>g2 _ _ e λz=>n<|.inl z
   have A2:=C6.hs v C2 rfl λy o e n=>LJ _ _ e λz=>n<|z.elim .inl λz=>.inr<|.inl z
   have nx:Nx H X S p X S:=(Nx.one L.J.B rfl ⟨rfl,rfl,rfl,rfl⟩ (.inr rfl) g1).trans (Nx.one v.2 rfl ⟨rfl,rfl,rfl,rfl⟩ (.inl rfl) g2)
   have L2:L71 a h ly nl rr gp pg zs ms (i+1) X S rs u O d M' p:=L.go ⟨A2,B2,L.J.lp,L.J.ap,L.J.gp⟩ (by lia) v2 nx;exact L2.tail T TD hz (by lia) U rfl
end
example:(z4o,vM,eL,13):=by
 apply u2;intro s ns [rfl,tv,T,TD,hs,hl,q];let[TB,TP,TL,TS]:=id T.s4;erw[eL,eL0_];refine x3 s ns 0 {rfl,hs,oA hl rfl,?_};generalize R0 ns 0=x;erw[eL1_]
 have md:∀ (y:Int) (n:Nat),0<n->∃ m:Nat,1+y%n=m/\1<=m/\m<=n:=λy n hn=>{(1+y%n).toNat,by have:=yp y (b:=n) (by lia);have:=vp y (b:=n) (by lia);exact{by lia,by lia,by lia}}
 let[n,en,n1,n3]:=md x 3 (by decide);let[r,er,r1,r3]:=md (x/3) 3 (by decide);let[c,ec,c1,c3]:=md (x/9) 3 (by decide);let[w,ew,w1,w4]:=md (x/27) 4 (by decide);rw[show 1+x%3=_ from en,show 1+x/3%3=_ from er,show 1+x/9%3=_ from ec,show 1+x/27%4=_ from ew];refine{{by decide,by decide},{by decide,by decide},{by decide,by decide},λlp dl hlp hdl ndl=>x6 lp dl n r c w {rfl,TL,AG,oA n3 rfl,oA r3 rfl,oA c3 rfl,w1,oA w4 rfl,λH1 L1 sb1=>{rfl,?_}}}
 have s1:Same H H1:=λy o e=>sb1 _ _ (((AL hdl).trans (AL (by rw[AJ ndl.symm];exact hlp))) _ _ e) (BJ e hlp)
 have fw:c*w<=12:=jp c3 w4
 have zz:n<=6/\r<=6/\c<=6/\1<=w/\w<=6/\c*w<=18:={oA n3 rfl,oA r3 rfl,oA c3 rfl,w1,oA w4 rfl,oA fw rfl}
 erw[eL2_];intro h dh hh hdh ndh;refine x7 h dh lp n r c w {rfl,T,tv,AG,?_,zz,λX H2 a1 a4 a5 a6 a7 a8 off A2 LJ=>{rfl,?_}}
 ·exact L1.same ((AL hdh).trans (AL (by rw[AJ ndh.symm];exact hh)))
 have O:Same H1 H2:=λy o e=>LJ _ _ (((AL hdh).trans (AL (by rw[AJ ndh.symm];exact hh))) _ _ e) (BJ e hh);let[dh2,eh2]:=A2.1;erw[eL3_];refine{_,_,eh2,rfl,h,dh2,_,_,_,rfl,T.ho,eh2,?_};erw[eL4_]
 have L2:=L1.same O;let[dl2,el2]:=L2.ob;refine y2 {el2,B0,x5 lp n r c w {rfl,TL,TP,L2,λpg cl H3 hpg BL P3 I=>?_}};erw[eL5_]
 have A3:=A2.same I;refine fS (Tl tv T.s4 (L2.same I) P3 zz) λY H4 b1 b2 b3 b4 b5 b6 b7 b8 offY htk C4 s4=>?_
 have eY:Y=X.tw Y.S Y.rows:=Uq {b4.trans a4.symm,b5.trans a5.symm,b6.trans a6.symm,b7.trans a7.symm} (b8.1.trans a8.1.symm) (b8.2.trans a8.2.symm)
 have J4:Two a H4 h X Y.S Y.rows [] [] [] {λu u=>.no,[]}:=by
  refine{A3.same s4,eY ▸ C4,b1.trans a1.symm,λy hy hY=>?_,λz=>?_}
  ·cases e:H2 y with
   |none=>exact A2.2.there hy e
   |some o=>exact hY.elim (λz=>(offY y o<|I _ _ e).elim (λz'=>by rw[z',BL]at e;cases e) λn=>n z) λz=>by have:=I _ _ e;rw[z,htk]at this;cases this
  ·let[u,D]:=A2.2.st.bk.pk.ob;rw[<-z,b2,hpg]at D;cases D
 erw[eL6_];refine{{by decide,by decide},_,rfl,λnl zs H5 hnl s5 enl hzl hz=>?_}
 have J5:=J4.same s5;let[ms,ems,hms]:=z4m ns;erw[eL19_];refine zl8 (((s1.trans O).trans (I.trans<|s4.trans s5)).seq hs) λrr U=>?_;rw[ems];let[H6,g,s6,e6]:=EI (o:=.lst<|ms.map V.int) U;rw[g]
 have L6:L71 a h lp nl rr X.S.A.gp pg zs ms 0 X Y.S Y.rows [] [] [] {λu u=>.no,[]} H6:={J5.same s6,⟨a1,rfl,b2⟩,by rw[a4,a6,a7];exact⟨fw,n1⟩,υ (by rw[mn,kg];exact Th) (by rw[a6,a7];exact fw),{λu u=>trivial,λu h=>(by cases h)},{s6 _ _ enl,hzl,hz},e6,{λz=>J4.A.2.there z hnl,λz=>J4.B.there z hnl},λz=>J5.A.2.there z U,λz=>J5.B.there z U}
 obtain⟨gp,egp⟩:∃ gp,X.S.A.gp=gp:=⟨_,rfl⟩
 rw[egp]at L6 ⊢;refine .inl {{_,SqL.of e6},HS (xs:=ms.map V.int) (LI a h lp nl rr gp pg zs ms s) {X,Y.S,Y.rows,[],[],[],_,L6,_,_,_,_,_,_,rfl} (λi σ H' u d=>?_) (λi v σ H' ev d=>?_) (λσ H' d=>?_)}
 ·let[X,S,rs,cs,ds,tks,M,L,u]:=d;exact SqL.of L.er
 ·let[X,S,rs,cs,ds,tks,M,L,yc,y8,y9,y10,y11,p,rfl]:=d;rw[ψ,ai]at ev;let[y,ey,rfl]:=ev
  have hi:=(η.mp ey).1
  have hi:i<=61:=by lia
  erw[eL10_];refine{{by decide,by decide},?_};by_cases k4:y/17%11=4
  ·refine F5 k4 ?_;erw[eL7_];let[el,eg,D]:=L.e;refine x8 h X S rs cs ds tks M {by rw[el,D],T,tv,L.J,λX' S' rs' H1 J1 nx=>?_};erw[eL9_]
   have L1:L71 a h lp nl rr gp pg zs ms i X' S' rs' [] [] [] _ H1:=L.go J1 (υ (by rw[mn,kg,nx.sz.2.2.1,nx.sz.2.2.2];exact Th) (υ L.w.1<|ui _ _)) {z4n<|Ud L.v.b L.v.s,λu h=>(by cases h)} nx;exact L1.mid T TD hz hi rfl
  ·refine E6 k4 ?_;exact L.mid T TD hz hi rfl
 ·let[X,S,rs,cs,ds,tks,M,L,yc,y8,y9,y10,y11,p,rfl]:=d;let[el,eg,D]:=L.e;subst el eg D;let[dl,ely]:=L.J.A.2.st.ly.ob
  have sz:=L.J.A.2.st.sz
  have sz':rs.length=X.n+X.r+X.c+X.r+X.c:=L.J.B.st.sz.2.2.2.2;erw[eL22_];refine y2 {ely,B0,x5 _ _ _ _ _ {rfl,TL,L.J.A.2.st.ly,?_}};erw[];refine{by lia,by lia,?_};rw[show((X.n:Int)+X.r+X.c+X.r+X.c).toNat=X.rows.length by lia]
  have GA:=(L.J.A.2.gnd tv T.s4).site.pv
  have GB:=(L.J.B.gnd tv T.s4).site.pv;refine YL (λj σ H2=>Same H' H2/\∃ p,σ=[some (.ref s),yc,some<|.ref X.S.lp,some<|.ref h,some<|.ref X.S.A.gp,some<|.ref S.A.gp,some<|.ref S.st,some<|.ref nl,y8,y9,y10,y11,p]) {Same.refl _,_,rfl} (λj σ H2 hj d=>?_) (λσ H2 d=>?_)
  ·let[O,p,rfl]:=d
   have N:=L.J.same O;let[dp,D]:=N.A.2.st.bk.pk.ob;erw[eL21_,vj];refine y2 {D,NX _ _ _,x6 _ _ _ _ _ (j:Int) {rfl,TP,N.A.2.st.bk.pk,λj' row ej er l hl=>?_,λz=>by lia}};obtain rfl:j=j':=ca ej;let[H3,g,I,e3]:=EI (o:=.lst row) hl;rw[g]
   have J3:=N.same I;let[dp3,ep3]:=J3.B.st.bk.pk.ob;refine y2 {ep3,NX _ _ _,x6 _ _ _ _ _ (j:Int) {rfl,TP,J3.B.st.bk.pk,λj' row' ej er' l' hl'=>?_,λz=>by have:(X.tw S rs).rows.length=rs.length:=rfl;lia}};obtain rfl:j=j':=ca ej;let[H4,g,s4,e4]:=EI (o:=.lst row') hl';rw[g]
   have s24:=O.trans<|I.trans s4
   have P1:=Paired.mapP (XD L.J.A.2.st.bk.pk.wd GA.asC er) λv c=>CelV.keep s24.tk
   have P2:=Paired.mapP (XD L.J.B.st.bk.pk.wd GB.asC er') λv c=>CelV.keep s24.tk;erw[];refine Rp (s4 _ _ e3) e4 P1 P2 (λc hc=>TC GA.ok c<|XG hc) (λc hc=>TC GA.ok c<|XG hc) rfl ?_;rw[show(!decide (DS X.w (DO<|BX X.n X.r X.c X.w<|sh M.b X.C M.as) j=DS X.w (DO<|BX X.n X.r X.c X.w<|sh M.b X.C M.as) j))=false by simp];erw[];exact s24
  ·let[O,p,rfl]:=d
   have N:=L.J.same O;let[dp,D]:=N.A.2.st.bk.pk.ob;let[dp',ep']:=N.B.st.bk.pk.ob;erw[eL23_];refine y2 {D,Pj _ _ _,x5 _ _ _ _ _ {rfl,TP,N.A.2.st.bk.pk,y2 {ep',Pj _ _ _,x5 _ _ _ _ _ {rfl,TP,N.B.st.bk.pk,?_}}}};erw[];exact q _
end
def KD:Expr->eG
 |.Name x _=>[x]
 |.Tuple [.Name x _,.Name y _] _ _=>[x,y]
 |_=>[]
def Uv(N:eG)(a:wH):eG:=a.filterMap λi=>N[i]?
def FnScope.cq{X:Cx}{scope outer:Scope}{N P b:eG}{a:wH}(_:FnScope N P outer)(h:UR scope outer N (Uv N a) a=true:=by decide +kernel)(h1:X.env.scope=outer:=by exact rfl)(h2:X.N=N:=by exact rfl):KP X scope b (Uv N a) a:=sR h1 h2 h
section
variable{X:Cx}{tg iter E8:Expr}{E9:wF}{scope:Scope}{pos:Pos}{wi:TI}{td:TE}{g:TG}{tt:TT}{te:TE}{cn:eG}{A5:wH}
def pcm(S:KP X scope (KD tg) cn A5)(d:X.calm=true)(e:PI X tg iter wi)(i:∀ a s H b C c,PG (X.block a s H (KD tg++cn) scope b C c) tg g)(j:∀ a s H b C c,LW (X.block a s H (KD tg++cn) scope b C c) E9 tt)(he:∀ a s H b C c,PE (X.block a s H (KD tg++cn) scope b C c) E8 te)
  (hs:∀ x,mx iter X.env x=pure x:=by intro _;rfl):PE X (.ListComp E8 [{tg,iter,E9,0}] scope pos) (BY wi g tt te (KD tg).length A5):=zcr S d e i j he hs
def pcs{i:Nat}{x:Str}{l a:Pos}(S:KP X scope (KD tg) cn A5)(n:X.calm=true)(o:X.N.Nodup)(e:X.N[i]? =some x)(p:X.env.scope.names.lookup x=some .local)(q:PI X tg iter wi)(r:∀ b s H c C d,PG (X.block b s H (KD tg++cn) scope c C d) tg g)(u:∀ b s H c C d,LW (X.block b s H (KD tg++cn) scope c C d) E9 tt)(he:∀ b s H c C d,PE (X.block b s H (KD tg++cn) scope c C d) E8 te)
  (j:vn (.ListComp E8 [{tg,iter,E9,0}] scope pos) (some<|.Name x l) a.line X.env=pure true:=by rfl)
  (hs:∀ x,mx iter X.env x=pure x:=by intro _;rfl):PS X (.Assign [.Name x l] (.ListComp E8 [{tg,iter,E9,0}] scope pos) a) (AO (BY wi g tt te (KD tg).length A5) (AF i)):=zcs S n o e p q r u he j hs
end
def top(i:Nat):Stmt:=PySem.Challenge.pw_holdback_k71_rows_answered.main.body.getD i<|.Pass {0,0,0,0}
structure Txt(K:W.Frag)(mg:Str->Option Value)(a:Ad):Prop where
 z76:Cls K (a "Change")
 Uz:Cls K (a "Hold")
 Vb:Cls K (a "House")
 Vc:Cls K (a "Layout")
 Vd:Cls K (a "Plank")
 Vg:Cls K (a "Store")
 Vh:Cls K (a "View")
 z77:GV mg "DEEDS" (.ref<|a "DEEDS")
 Vj:GV mg "FORMS" (.ref<|a "FORMS")
 Vk:TabK K (a "FORMS") PQ
 z78:GV mg "MOST_FIGURES" (.int 3)
 z79:GV mg "MOST_LETTERS" (.int 8)
 z8a:GV mg "MOST_PIECE_SIGNS" (.int 40)
 z8d:mg "NoBlock"=some (.ref<|a "NoBlock")
 jbt:GV mg "NoBlock" (.ref<|a "NoBlock")
 z8h:Exc K (a "NoBlock")
 z8e:mg "NoChange"=some (.ref<|a "NoChange")
 jbu:GV mg "NoChange" (.ref<|a "NoChange")
 z8i:Exc K (a "NoChange")
 Vl:mg "NoName"=some (.ref<|a "NoName")
 jbv:GV mg "NoName" (.ref<|a "NoName")
 z8j:Exc K (a "NoName")
 Vm:mg "NoPiece"=some (.ref<|a "NoPiece")
 jbw:GV mg "NoPiece" (.ref<|a "NoPiece")
 z8k:Exc K (a "NoPiece")
 Vp:mg "NoRoom"=some (.ref<|a "NoRoom")
 jbx:GV mg "NoRoom" (.ref<|a "NoRoom")
 z8l:Exc K (a "NoRoom")
 z8f:mg "NoRow"=some (.ref<|a "NoRow")
 jby:GV mg "NoRow" (.ref<|a "NoRow")
 z8m:Exc K (a "NoRow")
 z8g:mg "NotSound"=some (.ref<|a "NotSound")
 jbz:GV mg "NotSound" (.ref<|a "NotSound")
 z8n:Exc K (a "NotSound")
 z8b:GV mg "PERCENT" (.int 37)
 Vq:mg "Twice"=some (.ref<|a "Twice")
 jb0:GV mg "Twice" (.ref<|a "Twice")
 z8o:Exc K (a "Twice")
 z8c:GV mg "WITH_A_NUMBER_LAST" (.ref<|a "WITH_A_NUMBER_LAST")
 z7u:mg "all"=none
 z7v:mg "dict"=none
 z7w:mg "enumerate"=none
 z7x:mg "int"=none
 z7y:mg "isinstance"=none
 z7z:mg "len"=none
 z70:mg "list"=none
 z71:mg "ord"=none
 z72:mg "range"=none
 z73:mg "reversed"=none
 z74:mg "set"=none
 Ux:mg "sorted"=none
 Uy:mg "str"=none
 z75:mg "tuple"=none
section
variable(P:bq)(w:World){K:W.Frag}{mg:Str->Option Value}(base:Heap){a:Ad}{f:Addr}{fd:gq}
seal wpAny
seal M4 LR RJ Y6 M3 M8 QT HB GS CD DZ NI IR IN FQ FB RE AF DL LQ Q7 CN tB UY D7 AD T8 BV A4 DY RC M6 Q8 CS FV AH Q2 MA OC M5 FH OK UF AR G9 Q5 DT F8 A8 OO BE EF OD JL JM U0 Q9 AO AV KW L5 tC F9 DX GP GQ KY FU RH FI D6 DN CA HA FO OP Q6 L9 MB BH UZ KN CM AM EC BK Q0 NG JF QS Y1 QZ CG YY PE PT FN PS PA PI PG LW JD PW CH IxR
def dvT:Nat->List String->Array Lean.Term->Lean.MacroM (Lean.Term × List String)
 |0,_,_=>Lean.Macro.throwUnsupported
 |n+1,l,a=>match l with
  |"("::r=>do
   let x<-dvT n r #[]
   dvT n x.2 (a.push x.1)
  |")"::r=>pure (Lean.Syntax.mkApp a[0]! (a.extract 1 a.size),r)
  |[]=>pure (Lean.Syntax.mkApp a[0]! (a.extract 1 a.size),[])
  |s::r=>do
   let x:Lean.Term<-match s with
    |"?"=>`(?_)
    |"_"=>`(_)
    |"1"=>`(by assumption)
    |"2"=>`(by rfl)
    |"3"=>`(by with_unfolding_all rfl)
    |"4"=>`(show List.Nodup (_++_) by decide +kernel)
    |"5"=>`(fun _ _=>rfl)
    |"6"=>`(fun _ _ _ _ _ _=>?_)
    |"7"=>`(⟨rfl,rfl,rfl,rfl⟩)
    |"8"=>let h:=Lean.mkIdent `hx1;let e:=Lean.mkIdent `E1;`(fun $e _ _ $h=>?_)
    |"9"=>`(by simp)
    |"10"=>`(fun _=>rfl)
    |"11"=>`(fun _=>?_)
    |_=>pure<|Lean.mkIdent s.toName
   dvT n r (a.push x)
def dvC(R:Array String):Nat->StateT (List Char) Lean.MacroM Lean.Term
 |0=>Lean.Macro.throwUnsupported
 |n+1=>do
  let c::l<-get|Lean.Macro.throwUnsupported
  set l
  let k:=c.toNat
  let x<-dvT 99 ((R[if k<58 then k-48 else if k<91 then k-55 else if k<123 then k-61 else k-130]!).splitOn " ") #[]
  return ⟨<-x.1.raw.replaceM fun s=>if s.isOfKind `Lean.Parser.Term.syntheticHole then do return some (<-dvC R n).raw else return none⟩
def dvR:="pvr _|tX ?|Yb ?|Xz ? ?|pT|pFl ( zat ? rfl )|Yd ?|psl _ nd ?|U4 ( pmx ? ? 1 hr hx ? )|Wz|tY ? ?|QW zc5 ? ?|Yg ? ? ?|Y7 ( pcx 1 hr hx ? )|qU sM ? ? 5|T.Vg|tW _ 4|Xy|pei ?|T.Vc|zaz ?|Yc ?|Wy|U4 ( pmz ? ? 1 hr hx )|pSq ( zdo ? )|tZ ? ? ?|QW zjh ? ?|pSf ( zau ? ? rfl )|T.Uz|pcm sc.cq rfl ? 6 6 6|QW zji ? ?|zay ?|L8 ( LN ( uC hr.units ) ? ? ( LM _ ) )|tW _ nd|zco|Yj ? ?|Zc hx.po rfl ? ? ?|OE zkc rfl T.z7z 2 ?|zcp ?|UG|pR1 ( Yz rfl T.z72 ? )|U4 ( YF ? ? 1 hr.m sG ? )|T.Vd|Wx|pcs sc.cq rfl nd rfl rfl ? 6 6 6|Xm ?|Yk rfl ?|Yh|pTb ( Xg ? 3 )|M9 PySem.F.plainAttrs_list PySem.F.slot_list_append PySem.F.type_list_append zln ? ?|pEn ( zgy rfl T.z7w ? )|pTr ( zah ? 10 )|zg6 ? ? ? ?|L8 ( LN ( uD hr.units ) ? ? ( LM _ ) )|pMk ( zcw 1 hr.m hx.passes rfl ? )|L8 ( LN zj8 ? ? ( LM _ ) )|L8 ( LN zj9 ? ? ( LM _ ) )|pGc ?|pDp ( zb7 ( LU hr ) ? ? ? rfl )|PW.pt ?|QW zdg ? ?|T.Vh|OF zlq rfl T.Uy 2 ?|T.Vb|zc0 ? 11 ?|L8 ( LN zdh ? ? ( LM _ ) )|pW nd rfl ( zj rfl ) ?|zb9|pDn ( zb6 ( LU hr ) ? ? )|M7 ? ?|pDi ( zb5 ( LU hr ) ? ? )|uA ( p6 RA sI ? ? ? )|pCh ( zae RA RA ? ? ? )|p5 ( uC hr.units ) ? ? ( LM _ )|M9 PySem.F.plainAttrs_str PySem.F.slot_str_join PySem.F.type_str_join zgs ? ?|zbd zdk ? ? ?|zbb|pPt ( zbc ? )|zcc ? ? ?|zc1 rfl rfl rfl rfl 8 ?|UP rfl T.Vl|zcx|pTp ?|pGn ?|Xk ? ?|Xh ?|Xp ?|OE ( zfd rfl ) rfl T.z7u 2 ?|Xl ? ?|Xj ?|L8 ( LN sI ? ? ( LM _ ) )|zhs ( LU hr ) ? rfl rfl 9 9|zcb|Y7 ( YE 1 hr.m hx1.passes rfl ? )|U4 ( YF ? ? 1 hr.m hx1.passes ? )|OF zki rfl T.z75 2 ?|OF zkf rfl T.z70 2 ?|Ym ? ?|pAv ( Xq ? ? )|zfb ?|LX hx T.z8h rfl T.z8d ?|LX hx T.z8m rfl T.z8f ?|Zk zjj ?|zgd rfl rfl T.Ux rfl T.z74 ?|Yl ? ? sO|p5 ( uD hr.units ) ? ? ( LM _ )|Xw ? ? ?|zca|Y7 ( YE 1 hr.m sG rfl ? )|M9 PySem.F.plainAttrs_str PySem.F.slot_str_split PySem.F.type_str_split zlp ? ?|L8 ( LN ( tP hr.units ) ? ? 3 )|LX hx T.z8j rfl T.Vl ?|LX hx T.z8k rfl T.Vm ?|OF zlr rfl T.z7x 2 ?|zhe ? ? ? qH|M9 PySem.F.plainAttrs_list PySem.F.slot_list_extend PySem.F.type_list_extend zhg ? ?|LX hx T.z8i rfl T.z8e ?|OE zfc rfl T.z71 2 ?|LY T.z8b rfl|LY T.z79 rfl|uA ( p6 RA RA ? ? ? )|LY T.z78 rfl|pOv ?|Xv ? ?|zlt ? ?|M9 PySem.F.plainAttrs_str PySem.F.slot_str_find PySem.F.type_str_find zg3 ? ?|QW zjg ? ?|zgg rfl T.z73 ?|OF zgh rfl T.z7v 2 ?|LY T.z8a rfl|M9 PySem.F.plainAttrs_str PySem.F.slot_str_partition PySem.F.type_str_partition zlo ? ?|zlx T.Vj rfl T.Vk ?|zly T.Vj rfl T.Vk ? 5|LY T.z8c rfl|zav ? ? qH|pV nd rfl ( zj rfl )|zcg ( LU hr ) ? ? ? 7|Yq hx.po ? ?|pD1 ( zcf ( LU hr ) ? ? 7 )|L8 ( LN ( zg0 hr.units ) ? ? 3 )|LX hx T.z8l rfl T.Vp ?|pDg ( zb4 ( LU hr ) ? ? 5 )|OE ( zg1 rfl ) rfl T.Ux 2 ?|LX hx T.z8n rfl T.z8g ?|M9 PySem.F.plainAttrs_dict PySem.F.slot_dict_update PySem.F.type_dict_update ? ? ?|zho ( LU hr )|LX hx T.z8o rfl T.Vq ?|LY T.z77 rfl|UP rfl T.Vq|UP rfl T.Vm|UP rfl T.Vp|OE zdu rfl T.z7y 2 ?|Xc rfl T.Uy 2 rfl".splitOn "|"
local macro_rules
 |`(command|example:($v:str,$x,*):=$t:term)=>do
  let a:=x.getElems
  let i:=fun (n:Lean.Name)=>Lean.mkIdent n
  let j:=fun (k:Nat)=>i (a[k]!).raw.getId
  let [v,c]:=v.getString.splitOn " "|Lean.Macro.throwUnsupported
  let d<-(dvC dvR.toArray 99).run' c.toList
  let f<-`(fun _ _ _ _ _ $(i `E) $(i `hr) $(i `hx)=>have $(i `sc):ident:=$(j 2);have $(i `nd):ident:=$(i `sc.nd);$d)
  let u:Array Lean.Term:=#[i `P,i `w,i `mg,i `base,a[4]!,<-`($(a[3]!) $(i `K) $(i `a)),j 2,a[7]!]
  let e<-if a.size=9 then `($(i `F.oK) $u* ($(i `len):ident:=$(a[8]!)) $f) else `($(i `F.oK) $u* $f)
  return Lean.mkNullNode #[<-`(command|abbrev $(j 1):ident:Stmt:=$t),<-`(command|def $(j 2):ident:AY $(a[6]!) $(a[5]!) (AT $(j 1)):=.go),<-`(command|def $(j 0):ident ($(i `T):ident:Txt $(i `K) $(i `mg) $(i `a)) ($(i `F):ident:Fun $(i `K) $(Lean.Syntax.mkStrLit ((v.splitOn ".").getLast!)) $(Lean.Syntax.mkStrLit v) $(j 1) $(i `f) $(i `fd)):=$e)]
example:("View.records_led_to 26To150kZGZGlcÃE50040",z4r,f8,f9,vQ,0,1,["self"],z09):=BN (top 12) 1
example:("View.records_standing 26To150kZGZGlcu0M0",z4s,gA,gB,vR,0,1,["self"],z05):=BN (top 12) 2
example:("View.pieces_named 26To150kZGZGlcÃ040",z4t,gC,gD,vS,0,1,["self"],z08):=BN (top 12) 3
example:("View.count_of 26EE5004",z4u,gE,gF,vT,0,2,["self","record"],z04):=BN (top 12) 4
example:("faults_of_names 37Kd37Kd37Å3ao150ÔkvZXvZXÕl2Cu0M3CtE50I0M2Ln01VA90H3CmÈI002Ln01VA90H2w0I0hH26B00",z4v,gG,gH,vY,0,1,["view","lost","twice","seen","k","value"],z1i):=top 16
example:("left_pieces 3io150kZGZGlcW04026TO0GcWE5004VP990",z4w,gI,gJ,bQ,0,1,["view","marked"],z1a):=top 21
example:("marked_records 3io150kZGZGlcW04026TO0GctE500MVA90",z4x,gK,gL,bR,0,1,["view","marked"],z1b):=top 22
example:("tally 3ie10GY43aO0X2ô004260",z4y,gM,gO,bS,0,2,["many","numbers","counts","number"],z1l):=top 24
example:("pieces_in 37Kd3aO0X2Cu0M2Lõ01I0H260",z4z,gP,gQ,wA,0,1,["records","pieces","value"],z1m):=top 25
example:("Change.__init__ 3R003R002R00",z40,gR,gS,wB,0,4,["self","place","value","needs"],zye):=BN (top 33) 0
example:("Book.waiting 26Te1b150GcmÆ0500",z41,gT,gU,wC,0,1,["self"],zyk):=BN (top 34) 4
example:("Book.block_of 26E5E5004",z42,gW,gX,wD,0,2,["self","number"],zyx):=BN (top 34) 8
example:("Book.ask_for_changes 2aO0X2CjÉ40b1502ö19H",z43,gY,gZ,wG,0,2,["self","numbers","number"],zyj):=BN (top 34) 10
example:("needs_with 3Ct0M26á1é0H26á1éBâ10K10",z44,g5,g8,WT,0,2,["needs","ahead"],zyg):=top 35
example:("Hold.lack_of 3aO5E500X2CxÖmÆ050×mÆ00260H26M",z45,g9,hE,wL,0,3,["self","number","gone","need"],zys):=BN (top 37) 2
example:("Hold.laid_over 37â103aOE500X2CmÈ0502ã5E500ê0E5E5004H260",z46,hG,hU,wO,0,3,["self","values","block","laid","number"],zyv):=BN (top 37) 3
example:("is_sign 26äÊ909Øë÷10ø",z47,hV,hX,bT,0,1,["sign"],zzr):=top 40
example:("is_name 26äÊ4b10ùØÙ1Tå0GYÊ909",z48,hZ,iB,bU,0,1,["thing"],zzs):=top 44
example:("Store.layout 2650",z49,iC,iD,wR,0,1,["self"],z4i):=BN (top 51) 11
example:("Store.hold 2650",z5a,iE,iF,wS,0,1,["self"],zzy):=BN (top 51) 12
example:("House.plank 2650",z5b,iG,iH,wT,0,1,["self"],z21):=BN (top 60) 1
example:("is_number 3CxÚjú4b10ûÛjpÙ1Tå0GYÊ90926hH26üýË09ØëI09",z5c,iI,iJ,bV,0,1,["word"],z22):=top 62
example:("numbers_of_writing 37b1I037b1I026þ00",z5d,iK,iL,bW,0,1,["told","out","held"],z23):=top 65
example:("joined_or_dash 26ìÃb104Ì9109",z5e,iN,iO,bX,0,1,["parts"],z24):=top 66
example:("Plank.__init__ 3R0Te10GYyV1M03R002R04",z5f,iP,iQ,bY,0,3,["self","blocks","cells"],zx8):=BN (top 68) 0
example:("Plank.blocks 26b150",z5g,iR,iS,w8,0,1,["self"],zx9):=BN (top 68) 1
example:("Plank.cells 2650",z5h,iT,iU,w9,0,1,["self"],zya):=BN (top 68) 2
example:("Plank.writings 2650",z5i,iV,iW,xA,0,1,["self"],z4l):=BN (top 68) 3
example:("Plank.ask_for_block 2CjÉ40b1502æ19H",z5j,iX,iY,bZ,0,2,["self","block"],zyb):=BN (top 68) 6
example:("Layout.__init__ 3R003R003R002R00",z5k,iZ,i4,xC,0,5,["self","names","records","pieces","cells"],zy0):=BN (top 70) 0
example:("Layout.counts 26VPy5050y5050y5050",z5l,i5,i6,xD,0,1,["self"],zy9):=BN (top 70) 6
example:("Layout.blocks_ahead_of_marks 26BB505050",z5m,i7,i8,xE,0,1,["self"],zy7):=BN (top 70) 9
example:("Layout.place_from 26VAB0U050Q050",z5n,i9,jA,xF,0,3,["self","block","k"],zy1):=BN (top 70) 10
example:("_law_cell_at 3CÜ0b1026E00H264",z5o,jB,jC,b0,0,2,["script","k"],zx7):=top 72
example:("_law_names 37937937U043ae1B4Q04X37B0E0QB0yy40QU044427BU04y4037QU04b1037E0QU04437E0QBBU044QU044437E0QBBÿ01E004QU044426KÇ0qB00B00BBÍ0ÎÏ00Í0ÏB04ÎBB000",z5p,jD,jE,cA,0,1,["cell","letters","base","rest","k","at","first","last","turned"],z3i):=top 73
example:("_law_text 3Ä93ÄB0937B4Q043CWQU044427Ā4QU044H3ÄB4QU0443ÄB4QU04426Ì91Te10GYE0QBU04y0U004",z5q,jF,jG,cE,0,1,["cell","signs","many","step","wide"],z3n):=top 74
example:("_law_at 3CWQU044426QU044H26Q04",z5r,jH,jI,cF,0,1,["cell"],z3o):=top 75
example:("_law_joined 3CW0Kd269H26Ì910",z5s,jJ,jK,cG,0,1,["words"],z33):=top 79
variable(jbj:BS P w K mg base (a "View") 1 "pieces_named" gD (SB K a))(jbl:BS P w K mg base (a "View") 1 "records_standing" gB (WH K a))(jbi:BS P w K mg base (a "View") 1 "count_of" gF (WI K a))
example:("faults_of_things 3iON0zGcÃE5004VA903iON0zGctE500MVA903iON0zGcÜf0z10E500VA9026BB000",z5t,jL,jM,cH,1,1,["view","shared","empty","few"],z1f):=top 17
example:("faults_of_marks 3io150kZGZGlcÃ0403iO0GcrE5004VP9903iON0zGcrE5004VP99026B00",z5u,jN,jO,cI,1,1,["view","led_to","records","pieces"],z1e):=top 18
example:("leavings_of_records 37Kd37Kd3aON0zX37E5002CW042Ln01VP9902CÃ80z1002Ln01VP900H26B00",z5v,jP,jQ,yM,1,1,["view","many","left","record","leads"],z1h):=top 20
variable(jar:BS P w K mg base (a "Plank") 1 "blocks" iS (RP K a))
example:("Book.__init__ 3R003R0Kd3R0Te1N0gGYKd3R0í2R0Å",z5w,jR,jS,cJ,1,2,["self","plank"],zyf):=BN (top 34) 0
variable(z91:BS P w K mg base (a "Hold") 1 "ask_for_changes" gZ (VU K a))(jab:BS P w K mg base (a "Hold") 1 "waiting" gU (VW K a))
example:("Book.closure 3L80S103ÄÅ3aO0X2w00h3aā1N0SX2CmÈ002aO5E500X2w00hH26TON0SGcmÈ000",z5x,jT,jU,zF,1,2,["self","numbers","found","number","need"],zyp):=BN (top 34) 6
variable(jas:BS P w K mg base (a "Plank") 1 "cells" iU (ZM K a))
example:("Book.ask_for_place 2CxÚjÉ4I0N50gÛjÉ4I0N50g2æ19H",z5y,jV,jW,zG,1,2,["self","place"],zyh):=BN (top 34) 9
variable(z97:BS P w K mg base (a "Hold") 1 "lack_of" hE (Z7 K a))
example:("Hold.outcome 37Ă1037Kd37Kd3aOE500X2CxÖmÆ050×mÆ003780SA002Ct0M3w00h2Ln0102Ln01VA00H26VA00",z5z,jX,jY,cN,1,3,["self","block","taken","gone","out","held","number","lack"],zyu):=BN (top 37) 1
variable(z85:CI P w K mg base 1 "is_sign" hX (aE K a))
example:("is_piece 26äÊ4b10ăØÙ1Tå0GYî10",z50,jZ,j3,cO,1,1,["thing"],zzt):=top 45
variable(z83:CI P w K mg base 1 "is_number" iJ (aY K a))
example:("words_of 37EĄ01943Cmą02ç19H37ìW09ï0A94ï0193Crb10Ć02ç19H3CxÖð0ć×jpD1E0è42ç19H260",z51,j4,j5,Al,1,1,["row","kind","words"],z25):=top 61
variable(jaq:BS P w K mg base (a "Plank") 1 "ask_for_block" iY (OT K a))
example:("Plank.read 3L80g1026â1E500",z52,j6,j7,cS,1,2,["self","block"],zyc):=BN (top 68) 4
example:("Plank.write 3L80g103Crb10502æ19H3ãá10ê5002Ĉ04",z53,j8,j9,cT,1,3,["self","block","values"],zyd):=BN (top 68) 5
variable(jam:BS P w K mg base (a "Layout") 1 "place_from" jA (NJ K a))
example:("Layout.name_at 2680JA40",z54,kA,kB,Ax,1,2,["self","k"],zy2):=BN (top 70) 1
example:("Layout.record_at 2680JA500",z55,kC,kD,Ay,1,2,["self","k"],zy3):=BN (top 70) 2
example:("Layout.piece_at 2680JAB50500",z56,kE,kG,Az,1,2,["self","k"],zy4):=BN (top 70) 3
variable(jah:BS P w K mg base (a "Layout") 1 "blocks_ahead_of_marks" i8 (RY K a))
example:("Layout.record_mark 2680JAN0J0",z57,kH,kJ,Bb,1,2,["self","k"],zy5):=BN (top 70) 4
example:("Layout.piece_mark 2680JABN0J500",z58,kK,kL,Bc,1,2,["self","k"],zy6):=BN (top 70) 5
example:("Layout.blocks 26BBN0J5050",z59,kM,kN,Bd,1,1,["self"],zy8):=BN (top 70) 7
variable(z9i:CI P w K mg base 1 "_law_text" jG (SN K a))(z88:CI P w K mg base 1 "_law_at" jI (WN K a))
example:("_law_row 37KqB90B90BBB9090B9037B0KABBB909D10BBB909D1037B0KABBB909À1D10BBB909026E00",z6a,kO,kP,cU,1,4,["kind","one","other","cell","words"],z3w):=top 76
variable(z8x:CI P w K mg base 1 "faults_of_names" gH (aM K a))(z8y:CI P w K mg base 2 "faults_of_things" jM (aN K a))(z8w:CI P w K mg base 2 "faults_of_marks" jO (aO K a))
example:("faults_in 26BBD10D10D10",z6b,kQ,kR,Bm,2,1,["view"],z1c):=top 15
variable(z9l:CI P w K mg base 2 "leavings_of_records" jQ (aP K a))(z9m:CI P w K mg base 1 "left_pieces" gJ (aQ K a))(z9o:CI P w K mg base 1 "marked_records" gL (aR K a))
example:("leavings_in 26BBD10D10D10",z6c,kS,kU,Bp,2,1,["view"],z1d):=top 19
variable(jat:BS P w K mg base (a "Plank") 2 "read" j7 (K1 K a))
example:("values_at 26TO0kZGZGlYEf0g100",z6d,kW,kX,Bq,2,2,["plank","places"],z1k):=top 23
variable(jao:BS P w K mg base (a "Layout") 2 "record_at" kD (HW K a))(jap:BS P w K mg base (a "Layout") 2 "record_mark" kJ (K3 K a))(jal:BS P w K mg base (a "Layout") 2 "piece_mark" kL (K4 K a))
example:("mended_cells 3CWI093780J1I026ÝÐ0VAI0EE80g1I0I04ÞH3CWI0926ÝÐ80J1I04ÞH3CWI0926ÝÐ80J1I0MÐ80J1I04ÞH26ÝÐ80J1I04Þ",z6e,kY,kZ,cV,2,3,["layout","plank","find","place"],z16):=top 28
variable(jau:BS P w K mg base (a "Plank") 2 "write" j9 (VE K a))
example:("write_due 2ae1N0gĉ3780g103io10kZGZGlYĊ0VA0002Cr002L80gA00H",z6f,k7,k9,cW,2,2,["plank","due","block","before","after"],z2a):=top 29
variable(z95:BS P w K mg base (a "Hold") 2 "closure" jU (Z5 K a))(z93:BS P w K mg base (a "Hold") 1 "block_of" gX (aA K a))(jaa:BS P w K mg base (a "Hold") 2 "outcome" jY (VX K a))
example:("row_for 37Kd3ÄÅ3780S103ċp03780S1I03Ln0103aOE80SA004X2w00h2iO0GcmÆ000260",z6g,lA,lB,Cp,2,2,["hold","numbers","row","taken","left","block","number"],zyz):=top 31
variable(z92:BS P w K mg base (a "Hold") 2 "ask_for_place" jW (Z4 K a))
example:("Book.newest 3L80S1026Č500",z6h,lC,lD,Cq,2,2,["self","place"],zyi):=BN (top 34) 3
variable(z98:BS P w K mg base (a "Hold") 1 "laid_over" hU (Z8 K a))
example:("Hold.write 37850g103780SA0Å3aOI0X2w500h3L850gA080SA00260",z6i,lE,lF,Cw,2,2,["self","block","values","told","number"],zyw):=BN (top 37) 0
variable(jag:BS P w K mg base (a "Layout") 2 "blocks" kN (RZ K a))(jbq:NH P w K mg base (a "Plank") 1 "Plank" iQ (ZL K a))
example:("Layout.plank 26sAN0J50",z6j,lG,lH,Cy,2,1,["self"],zza):=BN (top 70) 8
variable(jai:BS P w K mg base (a "Layout") 1 "counts" i6 (NL K a))(jaj:BS P w K mg base (a "Layout") 2 "name_at" kB (K2 K a))(z9x:CI P w K mg base 3 "values_at" kX (MI K a))(jak:BS P w K mg base (a "Layout") 2 "piece_at" kG (NK K a))(z9w:CI P w K mg base 1 "tally" gO (R9 K a))(z9t:CI P w K mg base 1 "pieces_in" gQ (WG K a))(jbk:BS P w K mg base (a "View") 1 "records_led_to" f9 (aL K a))
example:("View.__init__ 37N0J37I037I03R0DA0Te1I0GYf0J103R0DA0Te10GYf0J103R0DA0Te10GYf0J103R0DA0Te10GYf0J103R0DA0Te10GYf0J103R0DA0TO50Gcu0MI03R0DA0D1502R0DA0D1N0z",z6k,lI,lJ,Dl,3,3,["self","layout","plank","counts","records","pieces"],z1r):=BN (top 12) 0
variable(z99:BS P w K mg base (a "Hold") 3 "newest" lD (R1 K a))(z9r:CI P w K mg base 1 "needs_with" g8 (Z3 K a))(jbm:NH P w K mg base (a "Change") 1 "Change" gS (Z2 K a))
example:("Book.change 3780S103L80S1037b1503Ln501sP00DA003LnE50I0103w5000260",z6l,lK,lL,Dm,3,4,["self","place","value","needs","ahead","number"],zyl):=BN (top 34) 1
example:("Book.in_hand 3780S103Ct0M26E850g1I0I0H265E500",z6m,lM,lN,Dp,3,2,["self","place","number"],zyr):=BN (top 34) 2
variable(jbn:NH P w K mg base (a "Hold") 2 "Hold" jS (VT K a))
example:("Store.__init__ 3R003R0s102R0Å",z6n,lO,lP,Dq,3,3,["self","layout","plank"],zzz):=BN (top 51) 0
variable(jac:BS P w K mg base (a "Hold") 3 "write" lF (Z9 K a))
example:("Store.write 26850S10",z6o,lQ,lR,Dv,3,2,["self","block"],z4f):=BN (top 51) 10
variable(z96:BS P w K mg base (a "Hold") 4 "in_hand" lN (OX K a))
example:("lowest_with 3ao10ÔkvZXvZXÕl2Cč80S100260H2Ď19",z6p,lS,lT,Dw,4,3,["hold","places","values","k","place"],zzf):=top 49
example:("Store.name_cells 26Te1EN50J4GYf50S1f50J10",z6q,lU,lV,cX,4,1,["self"],zz1):=BN (top 51) 16
example:("Store.standing 26850S1850J10",z6r,lW,lX,cY,4,2,["self","record"],zz9):=BN (top 51) 17
variable(z94:BS P w K mg base (a "Hold") 4 "change" lL (GW K a))
example:("Store.fill_cell 37K103CmÈ0502Ln01ď500H26850SP850J10VA000",z6s,lY,lZ,c7,4,5,["self","cell","name","record","need","needs"],z0b):=BN (top 51) 18
variable(jbs:NH P w K mg base (a "View") 4 "View" lJ (SD K a))(z8v:CI P w K mg base 3 "faults_in" kR (WJ K a))(z9k:CI P w K mg base 3 "leavings_in" kU (aS K a))
example:("walk 37sA0026BD10D10",z6t,l9,mB,Eb,5,2,["layout","plank","view"],z1s):=top 13
example:("is_sound 26Ëb1D1sA004",z6u,mC,mD,c8,5,2,["layout","plank"],z1t):=top 14
variable(z9n:CI P w K mg base 5 "lowest_with" lT (OY K a))
example:("free_name 3ie1EN0J4GYf0J1026DP00V1M",z6v,mE,mF,c9,5,2,["layout","hold","places"],zzi):=top 46
example:("free_record 3ie1EN0J4GYf0J1026DP00VAM4",z6w,mG,mH,dA,5,2,["layout","hold","marks"],zzj):=top 47
example:("free_piece 3ie1EN0J4GYf0J1026DP00VAM4",z6x,mI,mJ,dB,5,2,["layout","hold","marks"],zzk):=top 48
variable(ja7:BS P w K mg base (a "Store") 5 "name_cells" lV (R4 K a))
example:("Store.names 26Đ1TON0FGcu0MI0",z6y,mK,mM,dC,5,1,["self"],zz5):=BN (top 51) 7
example:("Store.cell_of 3ao1N0FÔkvZXvZXÕl2CxÖu0M×WI00260H26M",z6z,mO,mP,Em,5,2,["self","name","cell","value"],zz4):=BN (top 51) 15
variable(jbe:BS P w K mg base (a "Store") 5 "standing" lX (JU K a))
example:("Store.recount 3780F1026850SP850J10VABI00I00",z60,mQ,mR,Ev,5,4,["self","record","more","needs","value"],z0d):=BN (top 51) 20
example:("Store.regroup 26850SP850J10VAE80F10400",z61,mS,mT,dD,5,4,["self","record","pieces","needs"],z0e):=BN (top 51) 21
example:("Store.drop_record 37E80F10437850SP850J10MK1037K103aOBTO0GYf50J10K1850J10X2Ln01850SP04K10260",z62,mU,mV,Fd,5,3,["self","record","gone","pieces","dropped","made","mark"],z0h):=BN (top 51) 22
variable(jan:BS P w K mg base (a "Layout") 3 "plank" lH (VR K a))(jbr:NH P w K mg base (a "Store") 4 "Store" lP (O1 K a))
example:("House.__init__ 3R003R0N0J2R0sA050",z63,mW,mX,dE,5,2,["self","layout"],z3f):=BN (top 60) 0
variable(z86:CI P w K mg base 6 "is_sound" mD (aT K a))(z9y:CI P w K mg base 6 "walk" mB (SE K a))(z9q:CI P w K mg base 3 "mended_cells" kZ (aU K a))(z90:CI P w K mg base 3 "write_due" k9 (aV K a))
example:("mend 3CjpDA002đ19H37DA0037í3aO0X2LĒē01DP0003LDA00260",z64,mY,mZ,dF,6,2,["layout","plank","finds","due","find"],z2t):=top 27
variable(z82:CI P w K mg base 1 "is_name" iB (aF K a))(jax:BS P w K mg base (a "Store") 6 "cell_of" mP (O3 K a))
example:("Store.ask_for_new_name 3CjpÙ1TO0GYî102ñ19H2Cu80F10M2Ĕ19H",z65,m7,m8,dG,6,3,["self","new","given"],zz6):=BN (top 51) 13
example:("Store.record_of 3780F103Ct0M2ñ19H26EEN0F04",z66,m9,nB,Fp,6,2,["self","name","cell"],z0a):=BN (top 51) 14
example:("Store.empty_cell 37850SP850J180F10M03w5000260",z67,nD,nF,dH,6,3,["self","name","needs","gone"],z0f):=BN (top 51) 19
variable(jaw:BS P w K mg base (a "Store") 7 "ask_for_new_name" m8 (WA K a))(z81:CI P w K mg base 6 "free_record" mH (aC K a))(z8z:CI P w K mg base 6 "free_name" mF (V0 K a))(ja1:BS P w K mg base (a "Store") 5 "fill_cell" lZ (WC K a))
example:("Store.make 3L80FA0K1037DA505037DA505037850SP850J104Kd37850SP850J10VA4VdK1026KP0080Fq0000",z68,nH,nJ,dJ,7,2,["self","name","record","cell","mark","stands"],z0i):=BN (top 51) 1
variable(jbb:BS P w K mg base (a "Store") 7 "record_of" nB (K6 K a))(jbc:BS P w K mg base (a "Store") 6 "recount" mR (R5 K a))
example:("Store.link 3L80FA0KA003780F1037DA50503780FP04Kd26KA080Fq0000",z69,nK,nQ,dM,7,3,["self","old","new","record","cell","more"],z0j):=BN (top 51) 2
variable(ja0:BS P w K mg base (a "Store") 7 "empty_cell" nF (WE K a))(jaz:BS P w K mg base (a "Store") 6 "drop_record" mV (aJ K a))
example:("Store.cut 3780F103780FA0Kd3CÃE80F104426KA080FP0è4K10H26BK1080FA00",z7a,nR,nS,Gh,7,2,["self","name","record","gone"],z0l):=BN (top 51) 3
variable(z84:CI P w K mg base 2 "is_piece" j3 (aG K a))(z80:CI P w K mg base 6 "free_piece" mJ (aD K a))(jbd:BS P w K mg base (a "Store") 6 "regroup" mT (WD K a))
example:("Store.put 3780F103CjpD102ò19H37DA505037850SP850J104Kd37850SP850J100K1026KP0080FP0BE80F104V10K10",z7b,nT,nU,Gq,7,3,["self","name","text","record","piece","mark","filled"],z0m):=BN (top 51) 4
example:("Store.take 3780F1037E80F1043CjÉ40b102ò19H3780FP0BÍ0ÎÏ0Í0ÏB04ÎKd26KA0850SP850J1E004K10",z7c,nX,nY,Gx,7,3,["self","name","at","record","pieces","without"],z0p):=BN (top 51) 5
example:("Store.texts 37E80F180F10426TO0GYf50S1f50J10",z7d,n0,oE,Gy,7,2,["self","name","pieces"],z0n):=BN (top 51) 8
example:("Store.places_of 3780F1037KA850J180F10850J1026B0TOE80F104GYf50J10",z7e,oF,oI,Hc,7,2,["self","name","record","own"],z0w):=BN (top 51) 9
variable(z9p:CI P w K mg base 7 "mend" mZ (aW K a))
example:("come_up 3LDA0026sA00",z7f,oJ,oM,Hd,7,2,["layout","plank"],z2u):=top 54
variable(ja4:BS P w K mg base (a "Store") 8 "link" nQ (NQ K a))
example:("Store.move 3780FA003780F103780FA0K1I026B0KA080FP0è4K10",z7g,oN,oO,Hj,8,3,["self","old","new","linked","record","gone"],z0r):=BN (top 51) 6
variable(ja2:BS P w K mg base (a "Store") 1 "hold" iF (aH K a))(ja9:BS P w K mg base (a "Store") 8 "places_of" oI (aK K a))(z9u:CI P w K mg base 3 "row_for" lB (aB K a))
example:("row_to_keep 3ÄN0F3iO80F10GYf0S1026DA0TO0Gcu0M0",z7h,oP,oQ,Hm,8,2,["store","name","hold","newest"],z0x):=top 53
variable(z8t:CI P w K mg base 8 "come_up" oM (WK K a))
example:("House.come_up_again 37DA50503R0DA505026À1b10",z7i,oR,oU,dN,8,1,["self","finds"],z3e):=BN (top 60) 3
variable(ja5:BS P w K mg base (a "Store") 8 "make" nJ (O4 K a))(jay:BS P w K mg base (a "Store") 8 "cut" nS (O5 K a))(jba:BS P w K mg base (a "Store") 8 "put" nU (O6 K a))(jbf:BS P w K mg base (a "Store") 8 "take" nY (O8 K a))(ja6:BS P w K mg base (a "Store") 9 "move" oO (O9 K a))
example:("do_deed 37I02CW092L80F1I02CW092L80FAI0I02CW092L80F1I02CW092L80FAI0I02CW092L80FAI0ó1I02L80FAI0I0",z7j,oV,oX,Jl,9,2,["store","words","kind"],z27):=top 63
variable(jbh:BS P w K mg base (a "Store") 4 "write" lR (SF K a))(z9s:CI P w K mg base 1 "numbers_of_writing" iL (WL K a))(z9v:CI P w K mg base 9 "row_to_keep" oQ (ME K a))(z87:CI P w K mg base 1 "joined_or_dash" iO (SH K a))(jbg:BS P w K mg base (a "Store") 8 "texts" oE (O7 K a))(ja8:BS P w K mg base (a "Store") 6 "names" mM (O2 K a))
example:("answer_of 37I03CW0926D180F1ó1I0H3CW0926D1TODA0I0GYÀ10H3CW0926Ì9180F1I0H26D1N0F",z7k,oY,oZ,dQ,9,2,["store","words","kind"],z3a):=top 64
example:("_law_deed 3CÜ042L80F102CW042L80FA002CW042L80F102CÜ042L80FA0D102CW042L80FA0D102L80FA00269",z7l,o0,o5,dR,9,5,["store","kind","one","other","cell"],z3z):=top 77
variable(z9z:CI P w K mg base 2 "words_of" j5 (aZ K a))(z8u:CI P w K mg base 10 "do_deed" oX (SI K a))(jad:BS P w K mg base (a "House") 9 "come_up_again" oU (SK K a))(z8s:CI P w K mg base 10 "answer_of" oZ (SJ K a))
example:("House.say 37D103CðI0ĕ3LDA500269H3CWI0926N0ÁH26DA500",z7m,o6,o7,Kv,10,2,["self","row","words"],z3c):=BN (top 60) 2
variable(z9a:CI P w K mg base 10 "_law_deed" o5 (bG K a))(z9f:CI P w K mg base 2 "_law_row" kP (bC K a))(jaf:BS P w K mg base (a "House") 11 "say" o7 (GG K a))
example:("_law_tried 3793Ñ2Ct0M27ßÇ0q000027à0Á1ßq0000ÂÒ279ÂĖ279Âė279ÂĘ279Ó260",z7n,o8,o9,d0,11,6,["house","store","kind","one","other","cell","told"],z30):=top 78
example:("_law_shown 37M37M3Ñ27Ì91à0F10ÂÒ27MÓ3Ñ27à0Á1B90ÂÒ27MÓ26Ë00",z7o,pA,pB,d9,11,3,["house","store","name","told","due"],z4c):=top 80
variable(z9b:CI P w K mg base 1 "_law_joined" jK (WQ K a))
example:("_law_keeps 37M37M3Ñ27ß1TOßA00GYÀ10ÂÒ27MÓ3Ñ27à0Á1B90ÂÒ27MÓ26Ë00",z7p,pC,pD,eC,11,3,["house","store","name","told","due"],z4e):=top 81
example:("_law_stopped 37À1b1DA0037DA003Cr80Á19026MH260",z7q,pE,pF,eD,11,3,["house","layout","plank","due","store"],z4k):=top 83
variable(z9g:CI P w K mg base 12 "_law_shown" pB (bH K a))(z9c:CI P w K mg base 12 "_law_keeps" pD (bI K a))(ja3:BS P w K mg base (a "Store") 1 "layout" iD (aI K a))
example:("_law_looks 3CxÚr80Á19D1N0FÛjpDP00026hH3CjpDP00026hH3CWQ04437QU04NN0FJ3ã80F10ÔkvZXvZXÕl2Cr80Á1B9À10BBÀ1b109À1b1026hHH26h",z7r,pG,pH,eE,12,4,["house","store","name","cell","block","out","back"],z4j):=top 82
variable(z89:CI P w K mg base 1 "_law_cell_at" jC (Z1 K a))(jbp:NH P w K mg base (a "Layout") 1 "Layout" i4 (ZZ K a))(jbo:NH P w K mg base (a "House") 6 "House" mX (bA K a))(jae:BS P w K mg base (a "House") 1 "plank" iH (a0 K a))(z9e:CI P w K mg base 1 "_law_names" jE (bB K a))(z9h:CI P w K mg base 12 "_law_stopped" pF (bK K a))(z9j:CI P w K mg base 12 "_law_tried" o9 (WP K a))(z9d:CI P w K mg base 13 "_law_looks" pH (bJ K a))(jav:BS P w K mg base (a "Plank") 1 "writings" iW (VD K a))
example:("law 37DA0437sqB4Q04B4QU044B4QU044B4QU04437s1037N0Á37N0J37sA0037D1U043aOÍ0Ï4ÎX3CWQU044437DP0002Ct0M26hHH37E0QU04437E0QU04437DÇMÇ0qQ0400U0437DÇ0Ç0qQ0400U043CxÚjpęA0ĚÛr0026hH2CjpDq00E0QU044U0426hH3ae1N0JX2Cr80g1080g1026hH26ËN0gN0g",z7s,pJ,Uw,eL,13,1,["script","cell","layout","house","ground","plank","store","names","one","other","due","told","block"],z4o):=top 84
end
def z7t(b c d e g i j l n o p q r u v w x y:Addr):∃ a:Ad,a "NoBlock"=b/\a "NoChange"=c/\a "NoRoom"=d/\a "NoName"=e/\a "Twice"=g/\a "NoPiece"=i/\a "NotSound"=j/\a "NoRow"=l/\a "View"=n/\a "Change"=o/\a "Hold"=p/\a "Store"=q/\a "House"=r/\a "Plank"=u/\a "Layout"=v/\a "DEEDS"=w/\a "FORMS"=x/\a "WITH_A_NUMBER_LAST"=y :=
 {λs=>(([("NoBlock",b),("NoChange",c),("NoRoom",d),("NoName",e),("Twice",g),("NoPiece",i),("NotSound",j),("NoRow",l),("View",n),("Change",o),("Hold",p),("Store",q),("House",r),("Plank",u),("Layout",v),("DEEDS",w),("FORMS",x),("WITH_A_NUMBER_LAST",y)]:List (String × Addr)).lookup s).getD 0,rfl,rfl,rfl,rfl,rfl,rfl,rfl,rfl,rfl,rfl,rfl,rfl,rfl,rfl,rfl,rfl,rfl,rfl}
def pK(K:W.Frag):Sp:=λvs H Q _=>∃ (s:Addr) (ns:List Int),vs=[.ref s]/\SqL K H s (ns.map V.int)/\ns.length<=63/\∀ H',Q (.bl true) H'
local macro_rules
 | `(tactic| injections)=>`(tactic| skip)
 | `(tactic| injections $x:ident $y*)=>`(tactic| ((first|have:=gmc (ok:=by intro _ _ F;apply $x<;>assumption)|have:=gfc (ok:=by intro _ _ F;apply $x<;>assumption)|have:=gnc (ok:=by intro _ _ F;apply $x<;>assumption));injections $y*))
def all_mk{P:bq}{w:World}{K:W.Frag}{h:Heap}{mg:Str->Option Value}{fa:Addr}{A B l n o p D I g r c b j i d x u y:Addr}{tk_MOST_FIGURES:Tok}{tk_MOST_LETTERS:Tok}{tk_MOST_PIECE_SIGNS:Tok}{tk_PERCENT:Tok}{o_DEEDS:Obj}{o_FORMS:Obj}{o_WITH_A_NUMBER_LAST:Obj}(X:K.In h)(G:h.Ns bg mg)(O:mg "law"=some (.ref fa))
  (J:GX K A "NoBlock")
  (q1:GX K B "NoChange")
  (q2:GX K l "NoRoom")
  (q3:GX K n "NoName")
  (q4:GX K o "Twice")
  (L:GX K p "NoPiece")
  (M:GX K D "NotSound")
  (N:GX K I "NoRow")
  (q8:GC K g "View")
  (q9:GC K r "Change")
  (qa:GC K c "Hold")
  (qb:GC K b "Store")
  (qc:GC K j "House")
  (qd:GC K i "Plank")
  (qe:GC K d "Layout")
  (qf:W.nsIn K bg "DEEDS"=some (some<|.ref x))
  (qg:K.lookup x=some o_DEEDS)
  (qh:U9 o_DEEDS ["make","link","cut","put","take","move"]=true)
  (qi:W.nsIn K bg "FORMS"=some (some<|.ref u))
  (qj:K.lookup u=some o_FORMS)
  (qk:(u==gr)=false)
  (ql:U8 o_FORMS PQ=true)
  (qm:W.nsIn K bg "MOST_FIGURES"=some (some<|.int 3 tk_MOST_FIGURES))
  (qn:W.nsIn K bg "MOST_LETTERS"=some (some<|.int 8 tk_MOST_LETTERS))
  (qo:W.nsIn K bg "MOST_PIECE_SIGNS"=some (some<|.int 40 tk_MOST_PIECE_SIGNS))
  (qp:W.nsIn K bg "PERCENT"=some (some<|.int 37 tk_PERCENT))
  (qq:W.nsIn K bg "WITH_A_NUMBER_LAST"=some (some<|.ref y))
  (qr:K.lookup y=some o_WITH_A_NUMBER_LAST)
  (qs:U9 o_WITH_A_NUMBER_LAST ["take","write"]=true)
  (qt:W.nsIn K bg "all"=some none)
  (qu:W.nsIn K bg "dict"=some none)
  (qv:W.nsIn K bg "enumerate"=some none)
  (qw:W.nsIn K bg "int"=some none)
  (qx:W.nsIn K bg "isinstance"=some none)
  (qy:W.nsIn K bg "len"=some none)
  (qz:W.nsIn K bg "list"=some none)
  (U:W.nsIn K bg "ord"=some none)
  (Y:W.nsIn K bg "range"=some none)
  (q12:W.nsIn K bg "reversed"=some none)
  (q13:W.nsIn K bg "set"=some none)
  (q14:W.nsIn K bg "sorted"=some none)
  (q15:W.nsIn K bg "str"=some none)
  (q16:W.nsIn K bg "tuple"=some none)
  (q17:GF K "law" pJ)
  (_:GM K g "pieces_named" "View.pieces_named" gC)
  (_:GM K g "records_standing" "View.records_standing" gA)
  (_:GM K g "count_of" "View.count_of" gE)
  (_:GM K i "blocks" "Plank.blocks" iR)
  (_:GM K c "ask_for_changes" "Book.ask_for_changes" gY)
  (_:GM K c "waiting" "Book.waiting" gT)
  (_:GM K i "cells" "Plank.cells" iT)
  (_:GM K c "lack_of" "Hold.lack_of" g9)
  (_:GF K "is_sign" hV)
  (_:GF K "is_number" iI)
  (_:GM K i "ask_for_block" "Plank.ask_for_block" iX)
  (_:GM K d "place_from" "Layout.place_from" i9)
  (_:GM K d "blocks_ahead_of_marks" "Layout.blocks_ahead_of_marks" i7)
  (_:GF K "_law_text" jF)
  (_:GF K "_law_at" jH)
  (_:GF K "faults_of_names" gG)
  (_:GF K "faults_of_things" jL)
  (_:GF K "faults_of_marks" jN)
  (_:GF K "leavings_of_records" jP)
  (_:GF K "left_pieces" gI)
  (_:GF K "marked_records" gK)
  (_:GM K i "read" "Plank.read" j6)
  (_:GM K d "record_at" "Layout.record_at" kC)
  (_:GM K d "record_mark" "Layout.record_mark" kH)
  (_:GM K d "piece_mark" "Layout.piece_mark" kK)
  (_:GM K i "write" "Plank.write" j8)
  (_:GM K c "closure" "Book.closure" jT)
  (_:GM K c "block_of" "Book.block_of" gW)
  (_:GM K c "outcome" "Hold.outcome" jX)
  (_:GM K c "ask_for_place" "Book.ask_for_place" jV)
  (_:GM K c "laid_over" "Hold.laid_over" hG)
  (_:GM K d "blocks" "Layout.blocks" kM)
  (_:GN K i "Plank" "Plank.__init__" iP)
  (_:GM K d "counts" "Layout.counts" i5)
  (_:GM K d "name_at" "Layout.name_at" kA)
  (_:GF K "values_at" kW)
  (_:GM K d "piece_at" "Layout.piece_at" kE)
  (_:GF K "tally" gM)
  (_:GF K "pieces_in" gP)
  (_:GM K g "records_led_to" "View.records_led_to" f8)
  (_:GM K c "newest" "Book.newest" lC)
  (_:GF K "needs_with" g5)
  (_:GN K r "Change" "Change.__init__" gR)
  (_:GN K c "Hold" "Book.__init__" jR)
  (_:GM K c "write" "Hold.write" lE)
  (_:GM K c "in_hand" "Book.in_hand" lM)
  (_:GM K c "change" "Book.change" lK)
  (_:GN K g "View" "View.__init__" lI)
  (_:GF K "faults_in" kQ)
  (_:GF K "leavings_in" kS)
  (_:GF K "lowest_with" lS)
  (_:GM K b "name_cells" "Store.name_cells" lU)
  (_:GM K b "standing" "Store.standing" lW)
  (_:GM K d "plank" "Layout.plank" lG)
  (_:GN K b "Store" "Store.__init__" lO)
  (_:GF K "is_sound" mC)
  (_:GF K "walk" l9)
  (_:GF K "mended_cells" kY)
  (_:GF K "write_due" k7)
  (_:GF K "is_name" hZ)
  (_:GM K b "cell_of" "Store.cell_of" mO)
  (_:GM K b "ask_for_new_name" "Store.ask_for_new_name" m7)
  (_:GF K "free_record" mG)
  (_:GF K "free_name" mE)
  (_:GM K b "fill_cell" "Store.fill_cell" lY)
  (_:GM K b "record_of" "Store.record_of" m9)
  (_:GM K b "recount" "Store.recount" mQ)
  (_:GM K b "empty_cell" "Store.empty_cell" nD)
  (_:GM K b "drop_record" "Store.drop_record" mU)
  (_:GF K "is_piece" jZ)
  (_:GF K "free_piece" mI)
  (_:GM K b "regroup" "Store.regroup" mS)
  (_:GF K "mend" mY)
  (_:GM K b "link" "Store.link" nK)
  (_:GM K b "hold" "Store.hold" iE)
  (_:GM K b "places_of" "Store.places_of" oF)
  (_:GF K "row_for" lA)
  (_:GF K "come_up" oJ)
  (_:GM K b "make" "Store.make" nH)
  (_:GM K b "cut" "Store.cut" nR)
  (_:GM K b "put" "Store.put" nT)
  (_:GM K b "take" "Store.take" nX)
  (_:GM K b "move" "Store.move" oN)
  (_:GM K b "write" "Store.write" lQ)
  (_:GF K "numbers_of_writing" iK)
  (_:GF K "row_to_keep" oP)
  (_:GF K "joined_or_dash" iN)
  (_:GM K b "texts" "Store.texts" n0)
  (_:GM K b "names" "Store.names" mK)
  (_:GF K "words_of" j4)
  (_:GF K "do_deed" oV)
  (_:GM K j "come_up_again" "House.come_up_again" oR)
  (_:GF K "answer_of" oY)
  (_:GF K "_law_deed" o0)
  (_:GF K "_law_row" kO)
  (_:GM K j "say" "House.say" o6)
  (_:GF K "_law_joined" jJ)
  (_:GF K "_law_shown" pA)
  (_:GF K "_law_keeps" pC)
  (_:GM K b "layout" "Store.layout" iC)
  (_:GF K "_law_cell_at" jB)
  (_:GN K d "Layout" "Layout.__init__" iZ)
  (_:GN K j "House" "House.__init__" mW)
  (_:GM K j "plank" "House.plank" iG)
  (_:GF K "_law_names" jD)
  (_:GF K "_law_stopped" pE)
  (_:GF K "_law_tried" o8)
  (_:GF K "_law_looks" pG)
  (_:GM K i "writings" "Plank.writings" iV)
  (q49:W.findIn K (.ref i) "contents"=some none)
  (q4a:W.findIn K (.ref i) "width"=some none)
  (q4b:W.findIn K (.ref i) "written"=some none)
  (q4c:W.findIn K (.ref c) "ground"=some none)
  (q4d:W.findIn K (.ref c) "made"=some none)
  (q4e:W.findIn K (.ref c) "made_in"=some none)
  (q4f:W.findIn K (.ref c) "latest"=some none)
  (q4g:W.findIn K (.ref c) "outs"=some none)
  (q4h:W.findIn K (.ref r) "place"=some none)
  (q4i:W.findIn K (.ref r) "value"=some none)
  (q4j:W.findIn K (.ref r) "needs"=some none)
  (q4k:W.findIn K (.ref d) "name_blocks"=some none)
  (q4l:W.findIn K (.ref d) "record_blocks"=some none)
  (q4m:W.findIn K (.ref d) "piece_blocks"=some none)
  (q4n:W.findIn K (.ref d) "width"=some none)
  (q4o:W.findIn K (.ref b) "plan"=some none)
  (q4p:W.findIn K (.ref b) "book"=some none)
  (q4q:W.findIn K (.ref b) "taken_out"=some none)
  (q4r:W.findIn K (.ref g) "name_values"=some none)
  (q4s:W.findIn K (.ref g) "record_values"=some none)
  (q4t:W.findIn K (.ref g) "piece_values"=some none)
  (q4u:W.findIn K (.ref g) "record_marks"=some none)
  (q4v:W.findIn K (.ref g) "piece_marks"=some none)
  (q4w:W.findIn K (.ref g) "leads"=some none)
  (q4x:W.findIn K (.ref g) "namings"=some none)
  (q4y:W.findIn K (.ref g) "reached"=some none)
  (q4z:W.findIn K (.ref j) "plan"=some none)
  (q50:W.findIn K (.ref j) "ground"=some none)
  (q51:W.findIn K (.ref j) "store"=some none)
  (q52:W.exmOne K (.ref n) (.ref n)=some true)
  (q53:W.exmOne K (.ref o) (.ref n)=some false)
  (q54:W.exmOne K (.ref o) (.ref o)=some true)
  (q55:W.exmOne K (.ref p) (.ref n)=some false)
  (q56:W.exmOne K (.ref p) (.ref o)=some false)
  (q57:W.exmOne K (.ref p) (.ref p)=some true)
  (q58:W.exmOne K (.ref l) (.ref n)=some false)
  (q59:W.exmOne K (.ref l) (.ref o)=some false)
  (q5a:W.exmOne K (.ref l) (.ref p)=some false)
  (q5b:W.exmOne K (.ref l) (.ref l)=some true) :
  ∃ fd:gq,(∀ (s:ν) (v:Value),ww s fd {[v],[]} [("script",v)])/\∀ base:Heap,K.In base->base.Ns bg mg->FnOk P w K mg base (EM P w) 14 fa fd ["script"] (pK K):=by
 let[a,rfl,rfl,rfl,rfl,rfl,rfl,rfl,rfl,rfl,rfl,rfl,rfl,rfl,rfl,rfl,rfl,rfl,rfl]:=z7t A B l n o p D I g r c b j i d x u y
 have T:Txt K mg a:={q9.c,qa.c,qc.c,qe.c,qd.c,qb.c,q8.c,{_,W.mg_of X G qf,rfl},{_,W.mg_of X G qi,rfl},zlu qj ql qk,{_,W.mg_of X G qm,_,rfl},{_,W.mg_of X G qn,_,rfl},{_,W.mg_of X G qo,_,rfl},W.mg_of X G J.ac,{_,W.mg_of X G J.ac,rfl},{⟨_,J.ac⟩,J.ex},W.mg_of X G q1.ac,{_,W.mg_of X G q1.ac,rfl},{⟨_,q1.ac⟩,q1.ex},W.mg_of X G q3.ac,{_,W.mg_of X G q3.ac,rfl},{⟨_,q3.ac⟩,q3.ex},W.mg_of X G L.ac,{_,W.mg_of X G L.ac,rfl},{⟨_,L.ac⟩,L.ex},W.mg_of X G q2.ac,{_,W.mg_of X G q2.ac,rfl},{⟨_,q2.ac⟩,q2.ex},W.mg_of X G N.ac,{_,W.mg_of X G N.ac,rfl},{⟨_,N.ac⟩,N.ex},W.mg_of X G M.ac,{_,W.mg_of X G M.ac,rfl},{⟨_,M.ac⟩,M.ex},{_,W.mg_of X G qp,_,rfl},W.mg_of X G q4.ac,{_,W.mg_of X G q4.ac,rfl},{⟨_,q4.ac⟩,q4.ex},{_,W.mg_of X G qq,rfl},W.mg_none_of X G qt,W.mg_none_of X G qu,W.mg_none_of X G qv,W.mg_none_of X G qw,W.mg_none_of X G qx,W.mg_none_of X G qy,W.mg_none_of X G qz,W.mg_none_of X G U,W.mg_none_of X G Y,W.mg_none_of X G q12,W.mg_none_of X G q13,W.mg_none_of X G q14,W.mg_none_of X G q15,W.mg_none_of X G q16}
 have TPk:D0 K a:=⟨T.Vd,q49,q4a,q4b⟩
 have TBk:uU K (a "Hold") (a "Change"):=⟨T.Uz,q4c,q4d,q4e,q4f,q4g,T.z76,q4h,q4i,q4j⟩
 have TLy:EG K a:=⟨T.Vc,q4k,q4l,q4m,q4n⟩
 have TSt:O0 K a:=⟨T.Vg,q4o,q4p,q4q⟩
 have TVw:TV K a:=⟨T.Vh,q4r,q4s,q4t,q4u,q4v,q4w,q4x,q4y⟩
 have THo:aX K a:=⟨T.Vb,q4z,q50,q51⟩
 have EQ:EQ K a:={⟨TBk,TPk,TLy,TSt⟩,THo,uG qg qh,uG qr qs}
 have TRm:TD K a:=⟨q52,q53,q54,q55,q56,q57,q58,q59,q5a,q5b⟩
 let[fd,hb,F]:=q17.law X G O<|λz z z z z z z z=>.of_eq rfl;refine{fd,hb,λbase z z=>?_}
 injections z4r z4s z4t z4u z4v z4w z4x z4y z4z z40 z41 z42 z43 z44 z45 z46 z47 z48 z49 z5a z5b z5c z5d z5e z5f z5g z5h z5i z5j z5k
 injections z5l z5m z5n z5o z5p z5q z5r z5s z5t z5u z5v z5w z5x z5y z5z z50 z51 z52 z53 z54 z55 z56 z57 z58 z59 z6a z6b z6c z6d z6e
 injections z6f z6g z6h z6i z6j z6k z6l z6m z6n z6o z6p z6q z6r z6s z6t z6u z6v z6w z6x z6y z6z z60 z61 z62 z63 z64 z65 z66 z67 z68
 injections z69 z7a z7b z7c z7d z7e z7f z7g z7h z7i z7j z7k z7l z7m z7n z7o z7p z7q z7r
 exact FnOk.imp (sp:=vM K a) (by apply z7s<;>assumption) (λvs H Q E ⟨s,ns,e,hs,hn,q⟩=>⟨s,ns,e,TVw,EQ,TRm,hs,hn,q⟩)
def walk{l:W.OpenLaw}{q:bq}{loose:List Str}{g:(Str->Option Value)->Heap->Prop}{c:World->Heap->Prop}{d:DefRec}{K:Params->W.Frag}(i:l.most=some 63)(b:d.params.defaults=[])
  (j:∀ (w:World) (h:Heap),c w h->(K w.params).In h)
  (F:∀ (w:World) (mg:Str->Option Value) (e:Addr) (h:Heap),(K w.params).In h->h.Ns bg mg->mg d.name=some (.ref e) ->
   ∃ fd:gq,(∀ (s:ν) (u:Value),ww s fd {[u],[]} [("script",u)])/\∀ base:Heap,(K w.params).In base->base.Ns bg mg->FnOk l.prog w (K w.params) mg base (EM l.prog w) 14 e fd ["script"] (pK<|K w.params)) :
  W.WalkO q loose g c l.row.toRowW d [] (λf vs=>PySem.call f vs) :=
 L2.walk_of (n:=63) (k:=14) (x:="script") (CX:=λw=>EM l.prog w) (sp:=λw=>pK<|K w.params) i (by decide) b {rfl,by decide,by decide} j F (λy y a ns o y p=>{a,ns,rfl,p,o,λy=>rfl}) λy y y y y z=>sF z
end L2
local macro_rules
 |`(command|example:=$s:str)=>do
  return Lean.mkNullNode (<-(s.getString.splitOn " "++(List.range 1138).map (s!"o_{·}")).toArray.mapM fun n=>`(command|theorem $(Lean.mkIdent (.mkSimple ("tw"++if n.front.isDigit then n else s!"{(`PySem.Challenge.cw_holdback_k71_rows_answered_holds++.mkSimple n:Lean.Name).hash}"))):ident:True:=⟨⟩))
namespace PySem.W.Fast
example:="tree_361 sts_1129 tree_130 tree_1046 sts_540 view_39 tree_100 heap_39 tree_951 sts_362 sts_146 sts_86 tree_498 sts_1047 tree_70 tree_47 tree_240 tree_145 tree_190 sts_191 sts_861 sts_131 tree_704 tree_888 6609439043559246591 tree_1137 env_41 sts_161 sts_449 tree_539 sts_805 sts_952 tree_1128 tree_782 tree_115 sts_71 sts_322 tree_952 heap_1138 heap_46 sts_241 sts_116 sts_786 5606483048252981345 tree_85 sts_49 sts_954 tree_160 tree_802 sts_499 sts_176 tree_321 tree_175 tree_448 sts_889 sts_101 tree_860"
end PySem.W.Fast
open PySem PySem.W PyProof.Rows
set_option Elab.async false
set_option tactic.hygienic true
set_option maxRecDepth 100000 in
set_option maxHeartbeats 0 in
theorem PySem.Challenge.cw_holdback_k71_rows_answered_holds : PySem.Challenge.rw_holdback_k71_rows_answered.Holds := by
 w_on;o_law;k_head;(case hw=>w_witness2)
 k_fill
 refine L2.walk (l:=PySem.Challenge.rw_holdback_k71_rows_answered) rfl rfl (λw h Y=>PySem.W.kIn_of Y) ?F
 case F =>
  intro w mg fa h KX G hmg;apply L2.all_mk KX G hmg<;>first|(apply L2.gc;(case a=>k_is);(case l=>k_is);(case c=>k_is);(case k=>k_is);(case i=>k_is))|(apply L2.GX.mk;(case ac=>k_is);(case ex=>k_exc))|(apply L2.gf;(case a=>k_is);(case l=>k_is);(case c=>k_is);(case k=>k_is))|(apply L2.gm;(case a=>k_is);(case l=>k_is);(case c=>k_is);(case k=>k_is);(case i=>k_is))|(apply L2.gn;(case a=>k_is);(case l=>k_is);(case c=>k_is);(case k=>k_is);(case i=>k_is);(case m=>k_is);(case n=>k_is);(case s=>k_is))|k_is|decide +kernel|kernel_rfl|kts_exm
