import PyProof.Rows.All
import KE.RegKTryMore
import KE.KDictList
import KE.KDictOf
import KE.KEqDict
import KE.KFromBytes
import KE.KIntText
import KE.KItem
import KE.KRevIter
import KE.KRevSl
import KE.KTabLook
import KE.KUnpack
import PySem.Challenge.RW_holdback_k74_whole_kept_behind_a_stop
set_option linter.all false
set_option maxRecDepth 100000
set_option maxHeartbeats 8000000
set_option tactic.hygienic false
set_option compiler.extract_closed false
open PySem PySem.Spec PyProof.Rows
def pT (s:Lean.Syntax):Lean.Syntax:=
 let N:=Lean.Syntax.node .none;let T s:=`Lean.Parser.Tactic++.mkSimple s;let R s:=T "rcasesPat"++.mkSimple s
 s.rewriteBottomUp fun
  |s@(.ident _ _ _ _)=>N (R "one") #[s]
  |s@(.node _ k a)=>if k== `«term[_]» then N (R "tuple") #[a[0]!,N `null (a[1]!.getArgs.mapIdx fun i x=>if i%2==0 then N (T "rcasesPatLo") #[N (T "rcasesPatMed") #[N `null #[x]],N `null #[]] else x),a[2]!] else if k== `Lean.Parser.Term.hole then N (R "ignore") a else if k== `«term_||_» then N `u (if a[0]!.isOfKind `u then a[0]!.getArgs++a[1:] else a) else s
  |s=>s
theorem A'2{z:Prop}(k:A->B->z)(h:A/\B):z:=k h.1 h.2
theorem A'3{z:Prop}(k:A->B->C->z)(h:A/\B/\C):z:=A'2 (λx=>A'2 (k x)) h
theorem A'4{z:Prop}(k:A->B->C->D->z)(h:A/\B/\C/\D):z:=A'2 (λx=>A'3 (k x)) h
theorem A'5{z:Prop}(k:A->B->C->D->F->z)(h:A/\B/\C/\D/\F):z:=A'2 (λx=>A'4 (k x)) h
theorem A'6{z:Prop}(k:A->B->C->D->F->G->z)(h:A/\B/\C/\D/\F/\G):z:=A'2 (λx=>A'5 (k x)) h
theorem A'7{z:Prop}(k:A->B->C->D->F->G->I->z)(h:A/\B/\C/\D/\F/\G/\I):z:=A'2 (λx=>A'6 (k x)) h
theorem A'8{z:Prop}(k:A->B->C->D->F->G->I->J->z)(h:A/\B/\C/\D/\F/\G/\I/\J):z:=A'2 (λx=>A'7 (k x)) h
theorem A'9{z:Prop}(k:A->B->C->D->F->G->I->J->L->z)(h:A/\B/\C/\D/\F/\G/\I/\J/\L):z:=A'2 (λx=>A'8 (k x)) h
theorem A'10{z:Prop}(k:A->B->C->D->F->G->I->J->L->M->z)(h:A/\B/\C/\D/\F/\G/\I/\J/\L/\M):z:=A'2 (λx=>A'9 (k x)) h
theorem A'1{p:α->Prop}{z:Prop}(k:∀ x,p x->z)(h:∃ x,p x):z:=h.elim k
local macro_rules
 |`(tactic|let [$p,$ps,*]:=$e)=>do
  let q:=pT (<-`([$p,$ps,*]));let o<-`(tactic|obtain $(⟨.node .none `Lean.Parser.Tactic.rcasesPatMed #[.node .none `null (if q.isOfKind `u then q.getArgs else #[q])]⟩):rcasesPatMed:=$e)
  let s:=ps.getElems
  if s.isEmpty then return o
  let c<-`(tactic|try clear $(⟨e⟩))
  let c:=if e.raw.isIdent then #[c] else #[]
  let g f (x:Lean.Term) (s:Array Lean.Term):Lean.MacroM (Lean.TSyntax `tactic):=do
   let f:=Lean.mkIdent f
   let r<-if c.isEmpty&&(s.push x).all fun t=>t.raw.isOfKind `Lean.Parser.Term.hole||t.raw.isIdent&&t.raw.getId≠`rfl then pure #[<-`(tactic|refine $f (fun $x $s*=>?_) $e)] else pure (#[<-`(tactic|refine $f ?_ $e)]++c++#[<-`(tactic|intro $x $s*)])
   `(tactic|($[$r];*))
  let r<-if s.size==1 then pure s else pure #[<-`([$ps,*])]
  `(tactic|first|$(<-g (.mkSimple s!"A'{s.size+1}") p s):tactic|$(<-g `A'2 p r):tactic|$(<-g `A'1 p r):tactic|$o:tactic)
 |`(tactic|let $p:term:=$e)=>if p.raw.isOfKind `«term_||_» then let q:=pT p;`(tactic|obtain $(⟨.node .none `Lean.Parser.Tactic.rcasesPatMed #[.node .none `null (if q.isOfKind `u then q.getArgs else #[q])]⟩):rcasesPatMed:=$e) else Lean.Macro.throwUnsupported
local macro_rules|`(tactic|intro $ts*)=>do
  let f:=(·.raw.isOfKind `«term[_]»)
  let h (t:Lean.Term):=t.raw.isIdent&&t.raw.getId== `rfl
  unless ts.any f||ts.any h do Lean.Macro.throwUnsupported
  let v:=Lean.mkIdent `v9
  let mut r:=#[]
  let mut a:Array Lean.Term:=#[]
  for t in ts do
   if f t then
    a:=a.push v
    r:=(r.push (<-`(tactic|intro $a*))).push (<-`(tactic|let $t:term:=$v));a:=#[]
   else if h t then
    unless a.isEmpty do r:=r.push (<-`(tactic|intro $a*))
    r:=r.push (<-`(tactic|rintro $(⟨.node .none `Lean.Parser.Tactic.rintroPat.one #[pT t]⟩)));a:=#[]
   else a:=a.push t
  unless a.isEmpty do r:=r.push (<-`(tactic|intro $a*))
  `(tactic|($[$r];*))
local macro_rules|`({$xs:term,*})=>`(⟨$xs,*⟩)
open _root_.Array renaming length_toList->cw,getElem?_eq_getElem->dz,getElem?_eq_some_iff->il,getElem?_toList->ja,getElem?_eq_none->ue,all_toList->uv,size_push->zf,mem_toList_iff->zo,append_assoc->B_,size_append->Dt,toList_push->Eo,isEmpty_iff->Fe,all_append->Ho,toList->Kt
open _root_.Bool renaming false_ne_true->ay,and_eq_true->bz,or_eq_false_iff->fj,eq_iff_iff->kf,or_assoc->li,false_eq_true->mv,or_eq_true->m_,true_or->ph,or_false->rg,false_or->xy,not_eq_true->yk,not_eq_true'->Fo,and_false->Jo
open _root_.Eq renaming symm->Ar
open _root_.False renaming elim->ju
open _root_.ForInStep renaming yield->jm
open _root_.Function renaming comp_def->xr
open _root_.Iff renaming rfl->Ls
open _root_.Int renaming toNat_natCast->ci,ofNat_lt->c_,toNat_of_nonneg->fz,natCast_nonneg->jt,ofNat_le->kg,zero_add->uf,not_lt->wg,natCast_mul->zb,lt_succ->Ae,emod_lt_of_pos->Bs,le_of_lt->Cu,natCast_ediv->Hi,natCast_emod->Hn,emod_nonneg->Ic,min_eq_left->Ie,natCast_add->Il,le_trans->Kr
open _root_.Int.ofNat renaming inj->ce
open _root_.List renaming length_map->ε,getElem?_eq_some_iff->ζ,getElem?_eq_getElem->θ,mem_of_getElem?->ι,mem_cons_of_mem->ρ,range->τ,mem_cons_self->υ,getElem?_map->ψ,mem_singleton->aa,length_append->ae,mem_cons->aj,mem_range->ak,lookup_cons->ao,mem_map->av,map_append->aw,size_toArray->ax,replicate->ba,getElem?_append_left->bc,mem_append->bd,mem_append_right->bt,getElem?_eq_none->bu,length_cons->bw,not_mem_nil->bx,take_length->b_,range_succ->ca,getElem?_append_right->cf,map_cons->cg,length_range->cr,length_filter_le->cu,take_add_one->cv,mem_filter->de,length_take->di,any_eq_true->dn,append_assoc->dt,take_of_length_le->eq,length_eq_zero_iff->fg,all_eq_true->fh,foldl_cons->fq,getElem?_set_self->gk,length_reverse->gr,lookup->gu,length_filterMap_le->gy,nodup_cons->gz,getElem?_set_ne->ia,length_drop->ic,flatten_cons->ii,pairwise_lt_range->ip,append_nil->iu,forIn_cons->iw,drop_eq_getElem_cons->ix,length_singleton->i_,cons_lt_cons_iff->jb,mem_filterMap->jc,map_map->jf,mem_append_left->jg,length->ji,getElem_of_mem->jo,nodup_nil->jv,find?_eq_none->jz,take_append_drop->j_,length_set->ka,foldl_append->ko,take_append_getElem->lg,eraseIdx_eq_take_drop_succ->lj,replicate_succ->lq,find?_eq_some_iff_append->mh,pairwise_cons->mq,filter_append->mw,length_nil->nc,nodup_append->nw,reverse_cons->nz,cons_append->pi,Perm->pq,getElem_mem->pr,pairwise_iff_getElem->pz,mem_or_eq_of_mem_set->p_,filterMap_cons->q_,any_cons->rj,eq_of_mem_replicate->rq,nil_append->r_,countP_append->tq,filter_congr->ug,append_eq_nil_iff->ui,length_replicate->uj,mem_flatMap->uw,all_cons->u_,sum_cons->vb,length_take_le'->vd,reverse_reverse->ve,find?_cons->vk,map_congr_left->vn,countP_pos_iff->vo,getElem?_range->vp,getD_eq_getElem?_getD->wj,length_eraseIdx_of_lt->wk,range_add->wu,mem_of_find?_eq_some->xa,getElem?_eq_none_iff->xb,any_eq_false->xc,ext_getElem?->xp,getElem?_replicate->yf,countP_cons->yl,foldl->yt,range_succ_eq_map->yv,map_nil->yw,filter_eq_nil_iff->yz,of_mem_zip->za,filter_map->ze,getElem?_toArray->zj,pairwise_append->zx,nodup_iff_count->Aa,mem_of_mem_drop->Af,mem_of_mem_take->Ai,map_eq_nil_iff->A_,map_take->Bo,map_drop->Br,getElem?_drop->Cf,filter_filter->Ci,count_pos_iff->Co,take_sublist->C_,all_map->Du,getElem_take->Ef,getElem?_set->Fi,countP_congr->Fn,getElem_inj->Ft,perm_middle->Go,range'_succ->Gu,mem_reverse->He,range'->H_,countP_nil->Ii,any_append->Ij,find?_some->Ik,drop_zero->Js,map->Lf,map_id->Li
open _root_.List.Nodup renaming length_le_of_subset->uu
open _root_.List.Pairwise renaming nil->Dr
open _root_.List.cons renaming injEq->zg
open _root_.Nat renaming le_refl->ο,le_trans->χ,lt_of_lt_of_le->ω,le_of_eq->a_,zero_le->bg,ne_of_lt->bh,lt_of_le_of_lt->cj,le_succ_of_le->ck,le_of_not_lt->cm,mul_comm->da,le_of_lt_succ->dq,add_mul->dv,add_assoc->fb,lt_or_ge->fe,lt_succ_self->fu,exists_eq_add_of_le->ie,mul_le_mul->io,not_lt_zero->ir,le_of_ble_eq_true->iy,ne_of_gt->je,lt_irrefl->jq,le_succ->jr,lt_of_le_of_ne->jw,le_antisymm->ke,le_of_lt->kh,zero_add->kq,div_lt_of_lt_mul->ku,reduceEqDiff->ma,eq_zero_or_pos->mx,min_eq_left->mz,mul_add_mod->ni,mul_add_div->nj,lt_succ_of_lt->nv,succ_lt_succ->py,div_add_mod->sv,mod_lt->tj,pos_of_ne_zero->tm,succ_mul->ub,add_comm->uc,add_le_add->uh,div_lt_iff_lt_mul->ul,mul_le_mul_right->vg,le_add_left->vh,sub_self->vy,zero_mul->vz,lt_succ_of_le->xf,reduceAdd->yb,lt_succ_iff_lt_or_eq->yd,le_add_right->yh,succ_le_succ->yj,lt_trans->yu,le_of_succ_le_succ->yy,sub_eq_zero_of_le->zi,add_le_add_left->At,ble->Cr,lt_trichotomy->Ea,min_eq_right->Ga,div_add_mod'->Hf,not_lt->Iq
open _root_.Nat.succ renaming inj->Fa
open _root_.Ne renaming symm->fk
open _root_.Option renaming map_eq_some_iff->af,isSome_iff_exists->dg,map_some->si,isSome_map->ud,isNone_iff_eq_none->w_,none->xj,bind_eq_some_iff->yi,map_map->zy,filter->Bn,bind_some->Ha
open _root_.Option.some renaming inj->μ,injEq->xl
open _root_.Or renaming inr->zu,inl->Gi
open _root_.Prod.mk renaming injEq->Ka
open _root_.PyProof.Rows renaming slot_tuple_getitem->jn,callWith_type1->jp,IntsAre->sj,AllBare->t9,size_push'->ut,step_dedup->wm,firstMet->wo,firstMet_length_le->wp,envOfC->xu,subscriptTail_builtinR->yp,Subscript_->Ce
open _root_.PyProof.Rows.F renaming entry_set_update_loop->rf,plain_set_update_loop->Au
open _root_.PyProof.Rows.IntsAre renaming length->zz
open _root_.PyProof.Rows.IsTup renaming new->Ki
open _root_.PySem renaming wpAny_bind->δ,wpAny_pure->ν,Shared->π,starEach->az,mainGlobals->bq,Program->bv,wpAny_callSpecial?_slot->cz,Around->df,wpAny_call_entry->dk,wpAny_newObj_type->dr,compareOp->d_,sizeLine_eq->fi,wpAny_passesOwn->fm,sysModules->gb,FuncData->gq,wpAny_holding->gx,wpAny_truthy_bool->ig,call_meets->ik,wpAny_dictEntries->iq,binaryOp->iz,tupleKind_room_in1->jd,backTo->jh,wpAny_field->jj,wpAny_typeNameOfWhole_keyiter->jk,wpAny_setField_rec->jy,foldedSetIterable->ki,wpAny_setState_of->kj,rawInt->k_,wpAny_attempt->lb,wpAny_typeNameOf_keyiter->lh,intKind->lm,wpAny_setEntries_of->lu,wpAny_setField->lw,wpAny_askSetting->lx,wpAny_isInstance->l8,keywordEach->me,codeAny_mono->mj,typeIs_str->mn,wpAny_execs_nil->my,codeAny_builtin->na,behindInMarks->nq,wpAny_mono->oa,wpAny_fieldsOf->o_,tupleKind->pe,strLen_append->rn,wpAny_ite_false->sq,wpAny_dictEpoch->sr,wpAny_Call_Name_kw->s_,wpAny_rule->tf,bootBuiltins->t5,holding->t_,getMethod->uo,codeAny->uy,attributeBase->uz,backToKw->vc,wpAny_specialOf->vj,call_meetsIn->vq,Builtin->vt,swapsWith->v_,scanBound->wa,DictEntry->wb,entryOfKey->wc,assignEach->wf,isSubtype_stop->wq,wpAny_FormattedValue_plain->wt,wpAny_binaryOp_repeat_ref->wy,BindsTo->xh,storedH->xi,wpAny_pyIter_list->xk,fits_of_scanBound->xm,wpAny_pyIter_slot->xo,pyNext->xt,wpAny_comprehension_free->xv,ExceptHandler->xw,PyData->xx,plainId_quiet->xz,NameKind->ye,noFill_tuple_add->yg,standAt->ym,getItem->yn,wpAny_typeOf->yo,typeIs_int->yr,letOwnedTupleGo->y_,wpAny_updateSeq->zd,wpAny_isTrue_Compare1->zh,wpAny_notOrdered_dict->zk,wpAny_isOneOf_keyiter->zl,wpAny_formatField_int->zm,pyIter->zn,callWith->zq,IsPart->zr,subscripted->zt,wpAny_seqItems->zv,wpAny_of_eq->zw,wpAny_pyIter_revIter->z_,Keyword->An,ElemsOf->Ao,codeAny_forLoop_any->As,length_partsBetween->Ba,wpAny_standAt->Be,seq_tuple_add->Bf,wpAny_handled->Bi,GenState->Cs,wpAny_assign_Name->Ct,concat_meets->De,seqIndex_neg->Df,slot_list_getitem->Di,valueAt->Dn,wpAny_Call_method->Do,relayAll->Ei,wpAny_storeSet_of->Er,setNext->Es,wpAny_setEpoch_of->Et,wpAny_pyIter_enum->E_,wpAny_execs_cons->Fu,PassesOwn->F_,wpAny_Dict_empty->Gf,setFlight->Gn,wpAny_forIn_list->Gs,wpAny_items_cons->G_,seqIndex_of->Ht,sliceBounds->Hu,wpAny_throw->HE,callerA->Io,limitOf->Ip,builtinsNs->Iv,wpAny_Name->Iw,wpAny_call->Ix,typeLookup->I_,intKind_is->Jf,cellsFrom->Kf,noteFrame->Kn,pickOrder->Ko,isTrue->Ks,assign->Ku,setItem->K_
open _root_.PySem.AutoSeq1 renaming wpAny_loadPart'->ya
open _root_.PySem.Builtin.Dict renaming showsAll->uk,mergeDict->yx
open _root_.PySem.Builtin.Frozenset renaming updateFrom->Ih
open _root_.PySem.Builtin.List renaming listTooLong->kz,listSameRef->x_
open _root_.PySem.Builtin.Range renaming rangeSize->Ke
open _root_.PySem.Builtin.Slice renaming sliceAdjust->wv,slicePlaces->wx,slicePartIndex->Ig,sliceApplied->Iy
open _root_.PySem.Builtin.SmallTypes renaming nextOf->wz
open _root_.PySem.Builtin.Tuple renaming tupleItemsOf->Iz,tupleTooMany->Ja,tupleHashOf->Jt
open _root_.PySem.Calls renaming evalArgs_plain->om,spliced_cons->sy,callWith_builtin->ua,Name_function_global->we,spliced_nil->xg,Constant_str->Ca
open _root_.PySem.CmpOp renaming NotIn->Le
open _root_.PySem.Heap renaming get?_push_of_some->ξ,get?_push_size->ai,lt_size->au,get?_update_other->cy,get?_update_self->du,SameBut->gj,ExtBut->mf,size_push->zp
open _root_.PySem.Heap.IsSliceOf renaming new->Ln
open _root_.PySem.Heap.SameBut renaming update->dw,refl->xn
open _root_.PySem.NameKind renaming free->gg,cell->gi
open _root_.PySem.Obj renaming data_mapFields->h_,mapSeq->mo,isFreed_of_fields->nu,data_mapDictKeys->pd,mapFields->va,isFreed_of_dict->vm,cls_mapFields->Ds,data_mapDict->Gr,putSet->Ji
open _root_.PySem.PyData renaming strOk->e_,eqv->f_,eqvAll->nr,depth->vx,int->Cn,canLayAll0->Eu
open _root_.PySem.SeqAt renaming in_tupleAt->Ge,EqAt->Lo
open _root_.PySem.SeqAt.EqAt renaming int_str->Bt,str_int->Bu
open _root_.PySem.SetTable renaming below->jx,grown->oq,Probe->Je,slot->J_
open _root_.PySem.SetTable.below renaming go->D_
open _root_.PySem.SetTable.probe renaming go->Ee
open _root_.PySem.Str renaming ofString->η,empty->uq,length->yq,join->Ff
open _root_.PySem.StrLaws renaming occBody->g_,partsBetween_eq->l_,partsFrom->xq,occ_eq->Jr
open _root_.PySem.Value renaming ref->ff,none->ky,type->n_,isInt_shape->tz,int->um,str->Fs,isInt->Hr,bool->Ir,isStrOf->Ju
open _root_.PySem.Walks renaming list->Lr
open _root_.PySem.pickOrder renaming go->En
open _root_.Sum renaming inl->ux,inr->Im
open _root_.Sum.inr renaming inj->La
open _root_.True renaming intro->sx
namespace L2
def md(y:Int)(k:Nat)(h:0<k):∃ n:Nat,1+y%(k:Int)=n/\1<=n/\n<=k:=by
 let[b,e]:=Int.eq_ofNat_of_zero_le (Ic y (show(k:Int)≠0 by omega))
 have:=Bs y (show 0<(k:Int) by omega);exact{1+b,by omega,by omega,by omega}
section
variable{a b c k:Nat}{z:Int}
def c3(h:a<3):a=0\/a=1\/a=2:=by
 let _||_||_||n:=a
 exact .inl rfl;exact .inr<|.inl rfl;exact .inr<|.inr rfl;exact absurd h<|Iq.mpr<|vh 3 n
def c5{a:Nat}(h:a<5):a=0\/a=1\/a=2\/a=3\/a=4:=by revert a;decide
def cq{n i:Nat}(h:i<n):n-(i+1)<n-i:=Nat.sub_lt_sub_left h<|fu i
def oA(h:a<=b)(d:Cr b c=true):a<=c:=χ h<|iy d
def oB(h:a<b)(d:Cr b (c+1)=true):a<=c:=dq<|ω h<|iy d
def oC(h:a<=b)(d:Cr (b+1) c=true):a<c:=cj h<|iy d
def oD(h:a<b)(d:Cr b c=true):a<c:=ω h<|iy d
def oG(h:a<=b)(d:Cr (b+k+1) c=true):a+k<c:=cj (Nat.add_le_add_right h k) (iy d)
def oH(h:a<b)(d:Cr (b+k) c=true):a+k<c:=ω (Nat.add_lt_add_right h k) (iy d)
def iA(h:a<=b)(d:decide ((b:Int)<z)=true):(a:Int)<z:=Int.lt_of_le_of_lt (kg.mpr h) (of_decide_eq_true d)
def iM(d:decide (z<=0)=true):z<=(a:Int):=Kr (of_decide_eq_true d) (jt a)
def i0:(0:Int)<=(a:Int):=jt a
def nE{P:Prop}(d:Nat.beq a b=false):¬(a=b/\P):=λh=>by rw[h.1,Nat.beq_refl]at d;cases d
def nL{α :Prop}(h:a<b)(g:b<=a): α :=absurd h<|Iq.mpr g
def nZ{α :Prop}(h:a<0): α :=absurd h<|ir a
end
def x2{p:A->B->Prop}(a b)(h:p a b):∃ a b,p a b:=⟨_,_,h⟩
def x3{p:A->B->C->Prop}(a b c)(h:p a b c):∃ a b c,p a b c:=⟨_,_,_,h⟩
def x4{p:A->B->C->D->Prop}(a b c d)(h:p a b c d):∃ a b c d,p a b c d:=⟨_,_,_,_,h⟩
def x5{p:A->B->C->D->F->Prop}(a b c d e)(h:p a b c d e):∃ a b c d e,p a b c d e:=⟨_,_,_,_,_,h⟩
def x6{p:A->B->C->D->F->G->Prop}(a b c d e f)(h:p a b c d e f):∃ a b c d e f,p a b c d e f:=⟨_,_,_,_,_,_,h⟩
def x7{p:A->B->C->D->F->G->I->Prop}(a b c d e f g)(h:p a b c d e f g):∃ a b c d e f g,p a b c d e f g:=⟨_,_,_,_,_,_,_,h⟩
def x8{p:A->B->C->D->F->G->I->J->Prop}(a b c d e f g i)(h:p a b c d e f g i):∃ a b c d e f g i,p a b c d e f g i:=⟨_,_,_,_,_,_,_,_,h⟩
def x9{p:A->B->C->D->F->G->I->J->L->Prop}(a b c d e f g i j)(h:p a b c d e f g i j):∃ a b c d e f g i j,p a b c d e f g i j:=⟨_,_,_,_,_,_,_,_,_,h⟩
def WK{p:A->B->C->D->F->G->I->J->L->M->Prop}(a b c d e f g i j l)(h:p a b c d e f g i j l):∃ a b c d e f g i j l,p a b c d e f g i j l:=⟨_,_,_,_,_,_,_,_,_,_,h⟩
def OY{p:A->B->C->D->F->G->I->J->L->M->N->Prop}(a b c d e f g i j l m)(h:p a b c d e f g i j l m):∃ a b c d e f g i j l m,p a b c d e f g i j l m:=⟨_,_,_,_,_,_,_,_,_,_,_,h⟩
def OZ{p:A->B->C->D->F->G->I->J->L->M->N->O->Prop}(a b c d e f g i j l m n)(h:p a b c d e f g i j l m n):∃ a b c d e f g i j l m n,p a b c d e f g i j l m n:=⟨_,_,_,_,_,_,_,_,_,_,_,_,h⟩
def y2{p:A->B->Prop}(h:p a b):∃ a b,p a b:=⟨_,_,h⟩
def y3{p:A->B->C->Prop}(h:p a b c):∃ a b c,p a b c:=⟨_,_,_,h⟩
def y4{p:A->B->C->D->Prop}(h:p a b c d):∃ a b c d,p a b c d:=⟨_,_,_,_,h⟩
def y5{p:A->B->C->D->F->Prop}(h:p a b c d e):∃ a b c d e,p a b c d e:=⟨_,_,_,_,_,h⟩
def u2{p:A->B->Prop}{z:Prop}(k:∀ a b,p a b->z):(∃ a b,p a b)->z:=λh=>by let[y,y,h]:=h;exact k _ _ h
def u3{p:A->B->C->Prop}{z:Prop}(k:∀ a b c,p a b c->z):(∃ a b c,p a b c)->z:=λh=>by let[y,y,y,h]:=h;exact k _ _ _ h
def u4{p:A->B->C->D->Prop}{z:Prop}(k:∀ a b c d,p a b c d->z):(∃ a b c d,p a b c d)->z:=λh=>by let[y,y,y,y,h]:=h;exact k _ _ _ _ h
def u5{p:A->B->C->D->F->Prop}{z:Prop}(k:∀ a b c d e,p a b c d e->z):(∃ a b c d e,p a b c d e)->z:=λh=>by let[y,y,y,y,y,h]:=h;exact k _ _ _ _ _ h
def u6{p:A->B->C->D->F->G->Prop}{z:Prop}(k:∀ a b c d e f,p a b c d e f->z):(∃ a b c d e f,p a b c d e f)->z:=λh=>by let[y,y,y,y,y,y,h]:=h;exact k _ _ _ _ _ _ h
def u7{p:A->B->C->D->F->G->I->Prop}{z:Prop}(k:∀ a b c d e f g,p a b c d e f g->z):(∃ a b c d e f g,p a b c d e f g)->z:=λh=>by let[y,y,y,y,y,y,y,h]:=h;exact k _ _ _ _ _ _ _ h
def u8{p:A->B->C->D->F->G->I->J->Prop}{z:Prop}(k:∀ a b c d e f g i,p a b c d e f g i->z):(∃ a b c d e f g i,p a b c d e f g i)->z:=λh=>by let[y,y,y,y,y,y,y,y,h]:=h;exact k _ _ _ _ _ _ _ _ h
def u9{p:A->B->C->D->F->G->I->J->L->Prop}{z:Prop}(k:∀ a b c d e f g i j,p a b c d e f g i j->z):(∃ a b c d e f g i j,p a b c d e f g i j)->z:=λh=>by let[y,y,y,y,y,y,y,y,y,h]:=h;exact k _ _ _ _ _ _ _ _ _ h
def WL{p:A->B->C->D->F->G->I->J->L->M->Prop}{z:Prop}(k:∀ a b c d e f g i j l,p a b c d e f g i j l->z):(∃ a b c d e f g i j l,p a b c d e f g i j l)->z:=λh=>by let[y,y,y,y,y,y,y,y,y,y,h]:=h;exact k _ _ _ _ _ _ _ _ _ _ h
def mE{p:A->B->C->D->F->G->I->J->L->M->N->Prop}{z:Prop}(k:∀ a b c d e f g i j l m,p a b c d e f g i j l m->z):(∃ a b c d e f g i j l m,p a b c d e f g i j l m)->z:=λh=>by let[y,y,y,y,y,y,y,y,y,y,y,h]:=h;exact k _ _ _ _ _ _ _ _ _ _ _ h
def O0{p:A->B->C->D->F->G->I->J->L->M->N->O->Prop}{z:Prop}(k:∀ a b c d e f g i j l m n,p a b c d e f g i j l m n->z):(∃ a b c d e f g i j l m n,p a b c d e f g i j l m n)->z:=λh=>by let[y,y,y,y,y,y,y,y,y,y,y,y,h]:=h;exact k _ _ _ _ _ _ _ _ _ _ _ _ h
def Pc{p:A->B->C->D->F->G->I->J->L->M->N->O->P->R->Prop}{z:Prop}(k:∀ a b c d e f g i j l m n o q,p a b c d e f g i j l m n o q->z):(∃ a b c d e f g i j l m n o q,p a b c d e f g i j l m n o q)->z:=λh=>by let[y,y,y,y,y,y,y,y,y,y,y,y,y,y,h]:=h;exact k _ _ _ _ _ _ _ _ _ _ _ _ _ _ h
end L2
set_option Elab.async false
namespace L2
abbrev AN:=Sum Int Str
def L9:AN->Value->Bool
 |.inl k,v=>Hr k v
 |.inr x,v=>Ju x v
def Pd(w:World):AN->Int
 |.inl k=>hashInt k
 |.inr x=>hashStr w x
def IV:∀ {k:AN} {v:Value},L9 k v=true->(∃ i t,k=ux i/\v=um i t)\/(∃ x t,k=Im x/\v=Fs x t)
 |.inl i,v,h=>by
  let[t,e]:=tz   h;exact .inl<|x2 i t ⟨rfl,e⟩
 |.inr x,v,h=>by
  let[t,e]:=Value.isStrOf_shape   h;exact .inr<|x2 x t ⟨rfl,e⟩
def Pg(i:Int)(t:Tok):L9 (.inl i) (.int i t)=true:=by simp[L9,Hr]
def Ph(x:Str)(t:Tok):L9 (.inr x) (.str x t)=true:=by simp[L9,Ju]
def Pj(a b:Int):decide ((ux a:AN)=ux b)=(a==b):=by
 by_cases e:a=b;subst e;simp;rw[decide_eq_false (λq=>e<|Sum.inl.inj q)];exact(beq_eq_false_iff_ne.mpr e).symm
def Pk(a b:Str):decide ((Im a:AN)=Im b)=decide (a=b):=by
 by_cases e:a=b;simp;rw[decide_eq_false (λq=>e<|La q),decide_eq_false e]
def Pl(a:Int)(b:Str):decide ((ux a:AN)=Im b)=false:=decide_eq_false (λq=>nomatch q)
def Pm(a:Str)(b:Int):decide ((Im a:AN)=ux b)=false:=decide_eq_false (λq=>nomatch q)
def EE(prog:bv)(w:World):PySem.KeyKind prog w AN where
 is:=L9
 hash:=Pd w
 inj:=λv a b l g=>by
  let[i,t,rfl,rfl]||[x,t,rfl,rfl]:=IV l
  ·let[j,u,rfl,e]||[y,u,rfl,e]:=IV g
   ·injection e with c _;rw[c]
   ·exact nomatch e
  ·let[j,u,rfl,e]||[y,u,rfl,e]:=IV g
   ·exact nomatch e
   ·injection e with c _;rw[c]
 byValue:=λk v h=>by
  let[i,t,rfl,rfl]||[x,t,rfl,rfl]:=IV h<;>rfl
 pyHash:=λd h=>by
  let[i,t,rfl,rfl]||[x,t,rfl,rfl]:=IV d
  ·exact wpAny_pyHash_int h
  ·exact wpAny_pyHash_str h
 eqBool:=λn d h=>by
  let[i,t,rfl,rfl]||[x,t,rfl,rfl]:=IV n
  ·let[j,u,rfl,rfl]||[y,u,rfl,rfl]:=IV d
   ·rw[Pj]at h;exact wpAny_eqBool_int h
   ·rw[Pl]at h;exact Bt i t y u _ _ _ _ h
  ·let[j,u,rfl,rfl]||[y,u,rfl,rfl]:=IV d
   ·rw[Pm]at h;exact Bu x t j u _ _ _ _ h
   ·rw[Pk]at h;exact wpAny_eqBool_str h
 «strs» :=λk x t v h=>by
  let[i,u,rfl,e]||[y,u,rfl,e]:=IV h
  ·exact nomatch e
  ·injection e with c _
   subst c;cases v<;>rfl
def Pp(prog:bv)(w:World)(i:Int)(t:Tok):(EE prog w).is (.inl i) (.int i t)=true:=Pg i t
def Pq(prog:bv)(w:World)(x:Str)(t:Tok):(EE prog w).is (.inr x) (.str x t)=true:=Ph x t
inductive V where
 |non|bl (b:Bool)|int (i:Int)|str (x:Str)|byt (b:Array UInt8)|flt (b:UInt64)|ref (a:Addr)|ty (n:String)
 deriving DecidableEq
def RelV:V->Value->Prop
 |.non,u=>u=ky
 |.bl b,u=>u=Ir b
 |.int i,u=>∃ t,u=um i t
 |.str x,u=>∃ t,u=Fs x t
 |.byt b,u=>∃ t,u=Value.bytes b t
 |.flt b,u=>∃ t,u=Value.float b t
 |.ref a,u=>u=ff a
 |.ty n,u=>u=n_ n
abbrev _root_.vE:=List V
abbrev _root_.vC:=List Value
abbrev Vals:vE->vC->Prop:=Paired RelV
def Vals.length{xs:vE}{us:vC}(r:Vals xs us):xs.length=us.length:=Paired.length r
def WM{α a :Type}{F: α -> a ->Prop}{l:List α}{m:List a}{i:Nat}{x: α}(h:Paired F l m)(e:l[i]? =some x):∃ y,m[i]? =some y/\F x y:=by
 induction h generalizing i with
 |nil=>cases e
 |cons h t b=>cases i with
  |zero=>cases e;exact⟨_,rfl,h⟩
  |succ i=>exact b e
def Vals.get:∀ {xs:vE} {us:vC} {i:Nat} {x:V},Vals xs us->xs[i]? =some x->∃ u,us[i]? =some u/\RelV x u:=λh e=>WM h e
theorem Vals.set{x:V}{u:Value}(r:RelV x u):∀ {xs:vE} {us:vC} (i:Nat),Vals xs us->Vals (xs.set i x) (us.set i u)
 |_,_,_,.nil=>.nil
 |_,_,0,.cons _ t=>.cons r t
 |_,_,i+1,.cons q t=>.cons q<|Vals.set r i t
def Vals.append:∀ {xs ys:vE} {us ws:vC},Vals xs us->Vals ys ws->Vals (xs++ys) (us++ws):=λh s=>by
 induction h with
 |nil=>exact s
 |cons r t a=>exact .cons r a
theorem Vals.take:∀ {xs:vE} {us:vC} (n:Nat),Vals xs us->Vals (xs.take n) (us.take n)
 |_,_,0,_=>.nil
 |_,_,_+1,.nil=>.nil
 |_,_,n+1,.cons r t=>.cons r<|Vals.take n t
theorem Vals.drop:∀ {xs:vE} {us:vC} (n:Nat),Vals xs us->Vals (xs.drop n) (us.drop n)
 |_,_,0,r=>r
 |_,_,_+1,.nil=>.nil
 |_,_,n+1,.cons _ t=>Vals.drop n t
def RelO:Option V->Option Value->Prop
 |some v,some u=>RelV v u
 |none,none=>True
 |_,_=>False
def KV{a :Type}:List (a × V)->List (a × Value)->Prop:=Paired λ(p: a × V) (q: a × Value)=>p.1=q.1/\RelV p.2 q.2
def kV:AN->V
 |.inl i=>.int i
 |.inr x=>.str x
abbrev _root_.yB:=List (AN × V)
abbrev _root_.uA:=List (List AN × V)
abbrev _root_.wC:=Int->Bool
abbrev _root_.vB:=List (Str × V)
inductive HO where
 /-- a list -/
 |lst (xs:vE)
 /-- a tuple (never changes) -/
 |tup (xs:vE)
 /-- a dict whose keys are ints and texts;one whose keys are tuples of ints and texts (the empty one is both) -/
 |dK (kvs:yB)|dT (kvs:uA)
 /-- a set of ints: AK members,AK size -/
 |set (S:wC) (n:Nat)
 /-- an instance of the class at C,AK dict at dx,AK attributes -/
 |ins (C dx:Addr) (fs:vB)
 /-- the dict of the instance at x -/
 |own (x:Addr)
 /-- the dict of an exception -/
 |xd (fs:vB)
 /-- a bound method,f of x -/
 |met (f x:Addr)
 /-- a range object lo,lo+1,.. below hi -/
 |rng (lo hi:Int)
 /-- a thing that is known to the object (the script;a dict while a loop walks it): read,never written while it is so -/
 |frz (o:Obj) (u:HO)
 /-- a code object's table -/
 |tbl (ps:Array Value)
 /-- any other thing,by what is true of AK one object (a def of one's own: SetO a S n:=HO.ext λh=>..) -/
 |ext (φ :Heap->Prop)
abbrev Hp:=Addr->Option HO
def upd(H:Hp)(a:Addr)(o:HO):Hp:=λb=>if b=a then some o else H b
def AE{H:Hp}{a:Addr}{o:HO}:upd H a o a=some o:=by unfold upd;rw[if_pos rfl]
def AI{H:Hp}{a b:Addr}{o:HO}(h:b≠a):upd H a o b=H b:=by unfold upd;rw[if_neg h]
def GG:upd (upd H a o) a u=upd H a u:=by
 funext b;unfold upd;split<;>rfl
def BJ{H:Hp}{a b:Addr}{o u:HO}(h:H a=some o)(h':H b=some u)(d:o≠u):a≠b:=by
 rintro rfl;rw[h]at h';exact d<|μ h'
def BK{H:Hp}{a b:Addr}{o:HO}(h:H a=some o)(h':H b=none):a≠b:=by
 rintro rfl;rw[h]at h';cases h'
section
variable(P:bv)(w:World)
abbrev _root_.bA:=List (List AN × Addr × Value)
def ObjOk(H:Hp)(h:Heap)(a:Addr):HO->Prop
 |.lst xs=>xs.length<=sizeLine/\∃ (c:vC) (n:Nat),Vals xs c/\h.get? a=some { cls:=.type "list",data:=.seq c.toArray n }
 |.tup xs=>xs.length<=sizeLine/\∃ c:vC,Vals xs c/\IsTup h a c.toArray
 |.dK kvs=>kvs.length<=sizeLine/\(a==gb)=false/\∃ vs,KV kvs vs/\h.DictOf (EE P w) a vs
 |.dT kvs=>kvs.length<=sizeLine/\(a==gb)=false/\∃ xs:bA,
   Paired (λ(p:List AN × V) (q:List AN × Addr × Value)=>p.1=q.1/\H q.2.1=some (.tup<|p.1.map kV)/\RelV p.2 q.2.2) kvs xs /\
   ∃ o g i,h.get? a=some o/\o.ExactDict/\o.data=.dict g i/\g.toList=xs.map (wc<|pe<|EE P w)/\(xs.map (·.1)).Nodup
 |.set S n=>h.SetOf (lm P w) a S n
 |.ins C d fs=>H d=some (.own a)/\fs.length<=1000/\d≠a/\h.get? a=some (W.instObj C d) /\
   ∃ b,h.Ns1 d b/\(∀ f,RelO (fs.lookup f) (b f))/\PySem.Within b (fs.map (·.1))
 |.own _=>∃ o,h.get? a=some o
 |.xd fs=>∃ b,h.Ns1 a b/\∀ f,RelO (fs.lookup f) (b f)
 |.rng lo j=>∃ t u v,h.get? a=some { cls:=.type "range",data:=.fields #[.int lo t,.int j u,.int 1 v] }
 |.frz o u=>h.get? a=some o/\ObjOk H h a u
 |.tbl ps=>h.get? a=some { cls:=.none,data:=.fields ps }
 |.met f x=>h.get? a=some (W.methodObj (.ref f) (.ref x))
 |.ext e => e h/\(∃ o,h.get? a=some o)/\∀ h1 h2:Heap,e h1->(∀ o,h1.get? a=some o->h2.get? a=some o)-> e h2
def HOk(H:Hp)(h:Heap):Prop:=∀ a o,H a=some o->ObjOk P w H h a o
end
section
variable{P:bv}{w:World}{H H':Hp}{h h':Heap}{a:Addr}{o:HO}
theorem ObjOk.lt(x:ObjOk P w H h a o):a<h.objs.size:=by
 cases o with
 |lst xs=>let[z,z,z,z,e]:=x;exact au e
 |tup xs=>let[z,z,z,p]:=x;exact p.lt
 |dK kvs=>let[z,z,z,z,o,z,z,e,z]:=x;exact au e
 |dT kvs=>let[z,z,z,z,o,z,z,e,z]:=x;exact au e
 |set S n=>revert x;apply u4;intro o z z z [e,z];exact au e
 |ins C b fs=>let[z,z,z,e,z]:=x;exact au e
 |own y=>let[z,e]:=x;exact au e
 |xd fs=>let[z,[z,z,z,e,z],z]:=x;exact au e
 |rng lo c=>revert x;apply u3;rintro z z z e;exact au e
 |frz ob u=>let[e,z]:=x;exact au e
 |tbl ps=>exact au<|x
 |met f y=>exact au<|x
 |ext d =>let[z,[z,e],z]:=x;exact au e
def SJ{α b :Type}{F: α -> b ->Prop}{x: α}{l:List α}{m:List b}(h:Paired F (x::l) m):∃ y c,m=y::c/\F x y/\Paired F l c:=by
 cases h;exact{_,_,rfl,‹_›,‹_›}
def SK{α b :Type}{F: α -> b ->Prop}{m:List b}(h:Paired F [] m):m=[]:=by cases h;rfl
def Paired.mapP{α e :Type}{F G: α -> e ->Prop}:∀ {c:List α} {d:List e},Paired F c d->(∀ a b,F a b->G a b)->Paired G c d:=λh k=>by
 induction h with
 |nil=>exact .nil
 |cons h t g=>exact .cons (k _ _ h) g
def ObjOk.stay(x:ObjOk P w H h a o)(k:∀ b u,(b=a\/H b=some (.own a))->h.get? b=some u->h'.get? b=some u)
  (s:∀ b,H b=some (.own a)->H' b=some (.own a)) (A:∀ b xs,H b=some (.tup xs)->H' b=some (.tup xs)):ObjOk P w H' h' a o:=by
 induction o with
 |lst xs=>let[z,B,n,r,e]:=x;exact{z,x2 _ n {r,k _ _ (.inl rfl) e}}
 |tup xs=>let[z,B,r,ob,e,c]:=x;exact{z,_,r,ob,k _ _ (.inl rfl) e,c}
 |dK kvs=>let[z,y,vs,r,ob,g,i,e,c]:=x;exact{z,y,vs,r,x3 ob g i {k _ _ (.inl rfl) e,c}}
 |dT kvs =>
  let[z,y,xs,r,ob,g,i,e,c]:=x;exact{z,y,xs,Paired.mapP r λp q z=>{z.1,A _ _ z.2.1,z.2.2},x3 ob g i {k _ _ (.inl rfl) e,c}}
 |set S n=>revert x;apply u4;intro ob g i t [e,c];exact x4 ob g i t {k _ _ (.inl rfl) e,c}
 |ins C I fs =>
  let[d,z,ne,e,j,[l,g,i,D,c],r]:=x;exact{s _ d,z,ne,k _ _ (.inl rfl) e,j,x3 l g i {k _ _ (.inr d) D,c},r}
 |own y=>let[ob,e]:=x;exact{ob,k _ _ (.inl rfl) e}
 |xd fs=>let[j,[l,g,i,e,c],r]:=x;exact{j,x3 l g i {k _ _ (.inl rfl) e,c},r}
 |rng lo J=>revert x;apply u3;rintro t u v e;exact x3 t u v<|k _ _ (.inl rfl) e
 |frz ob u E=>let[e,q]:=x;exact{k _ _ (.inl rfl) e,E q}
 |tbl ps =>
  have e:h.get? a=some _:=x;exact k a _ (.inl rfl) e
 |met f y =>
  exact k a _ (.inl rfl) x
 |ext L =>let[p,[o,e],st]:=x;exact{st _ _ p λo q=>k _ _ (.inl rfl) q,{o,k _ _ (.inl rfl) e},st}
def HOk.lt(x:HOk P w H h)(e:H a=some o):a<h.objs.size:=(x a o e).lt
def HOk.fresh(x:HOk P w H h)(e:h.objs.size<=a):H a=none:=by
 cases q:H a with
 |none=>rfl
 |some u=>exact absurd (ω (x.lt q) e) (jq _)
def HOk.kept(x:HOk P w H h)(k:∀ b u,h.get? b=some u->h'.get? b=some u):HOk P w H h':=λa o e =>
 (x a o e).stay (λb u z q=>k b u q) (λz q=>q) λz z q=>q
def HOk.laid(x:HOk P w H h)(k:∀ b u,h.get? b=some u->h'.get? b=some u)(i:h.objs.size<=a)(new:ObjOk P w (upd H a o) h' a o):HOk P w (upd H a o) h':=λb u e=>by
 have d:=x.fresh i;by_cases g:b=a;subst g;rw[AE]at e;obtain rfl:=μ e;exact new;rw[AI g]at e;exact(x b u e).stay (λc v z q=>k c v q) (λc q=>by rw[AI (BK q d)];exact q) λc xs q=>by rw[AI (BK q d)];exact q
end
def Rd(H:Hp)(a:Addr)(u:HO):Prop:=H a=some u\/∃ o,H a=some (.frz o u)
def Rd.ok(r:Rd H a u)(x:HOk P w H h):ObjOk P w H h a u:=by
 let r||[o,r]:=r
 exact x a u r;let[z,q]:=x a _ r;exact q
def O1:Option HO->Prop
 |some (.lst _)=>True
 |some (.dK _)=>True
 |some (.dT _)=>True
 |some (.set _ _)=>True
 |some (.ins _ _ _)=>True
 |some (.ext _)=>True
 |_=>False
section
variable{P:bv}{w:World}{H:Hp}{h h':Heap}{x e:Addr}{o':HO}
def HOk.write(ok:HOk P w H h)(g:O1 (H x))(he:e=x\/H e=some (.own x))(k:∀ b u,b≠e->h.get? b=some u->h'.get? b=some u)(l:∃ u,h'.get? e=some u)
  (new:ObjOk P w (upd H x o') h' x o'):HOk P w (upd H x o') h':=λb u q=>by
 have d:∀ c y,H c=some (.own y)->c≠x:=λc y r z=>by subst z;rw[r]at g;exact g
 by_cases i:b=x;subst i;rw[AE]at q;obtain rfl:=μ q;exact new;rw[AI i]at q;by_cases a:b=e
 have n:H b=some (.own x):=by
  let z||z:=he
  exact absurd (a.trans z) i;rw[a];exact z
 rw[q]at n;let[v,o]:=l;obtain rfl:=μ n;exact{v,by rw[a];exact o};refine(ok b u q).stay (λc v j r=>k c v ?_ r) (λc r=>by rw[AI (d c b r)];exact r) λc xs r=>by rw[AI ((λc xs r z=>by subst z;rw[r]at g;exact g) c xs r)];exact r
 let rfl||j:=j
 exact a;rintro rfl;let z||z:=he
 exact d c b j z;rw[j]at z;cases z;exact i rfl
end
abbrev _root_.xC:=List Addr
structure Un(fs ex:xC)(H H':Hp)(h h':Heap):Prop where
 keep:∀ b o,h.get? b=some o->H b=none->b∉fs->b∉ex->h'.get? b=some o
 slot:∀ b o,h.get? b=some o->H b=none->b∈fs->b∉ex->∃ sl,h'.get? b=some { o with slots:=sl }
 free:∀ b o,h.get? b=some o->H b=none->b∉ex->H' b=none
 there:∀ b o,h.get? b=some o->b∉ex->∃ o',h'.get? b=some o'
 tups:∀ b xs,H b=some (.tup xs)->H' b=some (.tup xs)
 frzs:∀ b o u,H b=some (.frz o u)->H' b=some (.frz o u)
 tbls:∀ b ps,H b=some (.tbl ps)->∃ more,H' b=some (.tbl<|ps++more)
section
variable{fs fs' ex mD:xC}{H H1 H2:Hp}{h h1 h2 h':Heap}{a x e:Addr}{o:HO}
def Un.any(u:Un fs ex H H1 h h1)(q:h.get? b=some ob)(n:H b=none)(c:b∉ex):∃ g,h1.get? b=some { ob with slots:=g }:=by
 by_cases d:b∈fs;exact u.slot b ob q n d c;exact{_,u.keep b ob q n d c}
def Un.kept(k:∀ b u,h.get? b=some u->h'.get? b=some u):Un fs ex H H h h' :=
 {λb ob q z z z=>k b ob q,λb ob q z z z=>{_,k b ob q},λz z z n z=>n,λb ob q z=>{ob,k b ob q},λz z q=>q,λz z z q=>q,λz ps q=>{#[],by rw[q];simp}}
def Un.refl:Un fs ex H H h h:=Un.kept λz z q=>q
def Un.laid(k:∀ b u,h.get? b=some u->h'.get? b=some u)(d:h.objs.size<=a)(c:H a=none):Un fs ex H (upd H a o) h h' where
 keep:=λb u q z z z=>k b u q
 slot:=λb u q z z z=>{_,k b u q}
 free:=λb u q n z=>by rw[AI (bh<|ω (au q) d)];exact n
 there:=λb u q z=>{u,k b u q}
 tups:=λb xs q=>by rw[AI (BK q c)];exact q
 frzs:=λb u xs q=>by rw[AI (BK q c)];exact q
 tbls:=λb ps q=>{#[],by rw[AI (BK q c),q];simp}
def Un.write(d:O1 (H x))(he:e=x\/H e=some (.own x))(k:∀ b u,b≠e->h.get? b=some u->h'.get? b=some u)(g:∃ u,h'.get? e=some u):Un fs ex H (upd H x o) h h':=by
 have j:∀ b,H b=none->b≠x:=λb n z=>by subst z;rw[n]at d;exact d
 have i:∀ b u,H b=some u->¬ O1 (some u)->b≠x:=λb u q nm z=>by subst z;rw[q]at d;exact nm d
 have l:∀ b,H b=none->b≠e:=λb n z=>by
  subst z;let r||r:=he
  exact j b n r;rw[n]at r;cases r
 refine⟨λb u q n y y=>k b u (l b n) q,λb u q n y y=>{_,k b u (l b n) q},λb u q n y=>by rw[AI (j b n)];exact n,λb u q y=>?_,
  λb xs q=>by rw[AI (i b _ q λz=>z)];exact q,λb u xs q=>by rw[AI (i b _ q λz=>z)];exact q,λb ps q=>{#[],by rw[AI (i b _ q λz=>z),q];simp}⟩
 by_cases c:b=e;subst c;exact g;exact{u,k b u c q}
end
def Pw(h:Heap)(H:Hp):xC:=(τ h.objs.size).filter λa=>(H a).isSome
def NC(h:Heap)(H:Hp):Heap:=W.hideAll h<|Pw h H
def Px(h:Heap)(H:Hp):(NC h H).objs.size=h.objs.size:=W.hideAll_size _ _
def Py(e:h.get? b=some o)(n:H b=none):(NC h H).get? b=some o :=
 W.hideAll_get _ e λa=>by
  have q:=(de.mp a).2;rw[n]at q;simp at q
def Pz(e:(NC h H).get? b=some o):h.get? b=some o/\H b=none:=by
 have a:=W.of_hideAll _ e;refine{a,?_};cases q:H b with
 |none=>rfl
 |some x =>
  have z:(NC h H).get? b=none:=W.hideAll_none _ (de.mpr {ak.mpr<|au a,by simp[q]});rw[z]at e;cases e
abbrev _root_.wA:=List (Addr × Obj)
def Qb(g h:Heap)(L:Addr):wA:=(τ h.objs.size).filterMap λa=>if a=L\/(g.get? a).isSome=true then none else(h.get? a).map λo=>(a,o)
def rest(g h:Heap)(L d:Addr):wA:=(Qb g h L).filter λp=>decide<|p.1≠d
abbrev _root_.xA:=Str->Option Value
structure Mod(K:W.Frag)(mg:xA)(base:Heap):Prop where
 kin:K.In base
 glob:base.Ns bq mg
 blt:∃ mb,base.Ns Iv mb/\∀ x:Str,x≠"__name__"->mb x=t5 x
 nolimit:base.NoLimit
abbrev _root_.aD:=List Str
abbrev _root_.uD:=List Env
structure Cx where
 prog:bv
 w:World
 K:W.Frag
 mg:Str->Option Value
 base:Heap
 A:df
 N:aD
 s₀:π
 H₀:Hp
 env:Env
 outer:uD
 stack:uD
 ex:xC
 fn:Str->Bool
 calm:Bool
 pn:wA
 xe:Value->π->Prop
def EF(l:uD):xC:=l.filterMap (·.frame)
abbrev Cx.fs(X:Cx):xC:=EF X.outer
def SL(a:Scope)(x:Str):Prop:=a.names.lookup x=some .local\/a.names.lookup x=some .cell\/a.names.lookup x=some .free
def ND(a:Scope)(x:Str):Prop:=a.names.lookup x=some .local\/a.names.lookup x=some .cell
def Qc(env:Env)(h:Heap)(m:xA)(x:Str)(u:Value):Prop :=
 (env.kindOf x=some .local/\m x=some u)\/((env.kindOf x=some .cell\/env.kindOf x=some .free)/\∃ c,env.cells.lookup x=some c/\h.IsCell c (some u))
structure Cx.Ok(X:Cx):Prop where
 mod:Mod X.K X.mg X.base
 kind:X.env.scope.kind=.function
 glob:X.env.globals=bq
 blt:X.env.builtins=Iv
 above:X.s₀.heap.objs.size<=X.env.locals
 inj:∀ x y c,X.env.cells.lookup x=some c->X.env.cells.lookup y=some c->x=y
 has:∀ x,(X.env.kindOf x=some .cell\/X.env.kindOf x=some .free)->∃ c,X.env.cells.lookup x=some c
 cab:∀ x c,X.fn x=true->X.env.cells.lookup x=some c->X.s₀.heap.objs.size<=c
 hd:X.calm=true->X.A.handled=none
 frames:X.A.frames=some X.stack
 stk:X.stack=X.outer\/(X.stack=X.env::X.outer/\X.env.frame=some X.env.locals)
 exf:∀ b∈X.ex,b≠X.env.locals/\∀ x c,X.env.cells.lookup x=some c->c≠b
 bs:∀ b o,X.base.get? b=some o->X.s₀.heap.get? b=some o/\X.H₀ b=none
 bsz:X.base.objs.size<=X.s₀.heap.objs.size
 noex:∀ b o,X.base.get? b=some o->b∉X.ex
 exfs:∀ b∈X.ex,b∉X.fs
 funs:X.s₀.heap.FunFrames X.base X.outer
 frf:∀ b∈X.fs,X.H₀ b=none
structure Inv(X:Cx)(AA:wA)(σ:List (Option V))(H:Hp)(s:π):Prop where
 ok:X.Ok
 os:s.os=X.s₀.os
 bare:t9 s.gens
 base:Un X.fs X.ex X.H₀ H X.s₀.heap s.heap
 loc:∃ m,s.heap.Ns X.env.locals m/\∀ (i:Nat) (x:Str) (v:V),X.N[i]? =some x->σ[i]? =some (some v)->SL X.env.scope x->∃ u,RelV v u/\Qc X.env s.heap m x u
 cell:∀ x c,X.env.cells.lookup x=some c->∃ v,s.heap.IsCell c v
 free:H X.env.locals=none
 freeC:∀ x c,X.env.cells.lookup x=some c->H c=none
 pin:∀ p∈X.pn++AA,s.heap.get? p.1=some p.2/\H p.1=none/\p.1≠X.env.locals/\p.1∉X.fs/\∀ v,p.2.data≠.cell v
 hok:HOk X.prog X.w H s.heap
 len:σ.length=X.N.length
section
variable{X:Cx}{AA:wA}{σ:List (Option V)}{H H':Hp}{s:π}{h':Heap}
def Cx.Ok.nofr(ok:X.Ok)(e:X.base.get? b=some o):b∉X.fs:=λa=>by
 have:=(ok.funs.mem a).1;rw[e]at this;cases this
def Inv.bs(I:Inv X AA σ H s):∀ b o,X.base.get? b=some o->s.heap.get? b=some o/\H b=none:=λb o e =>
 {I.base.keep b o (I.ok.bs b o e).1 (I.ok.bs b o e).2 (I.ok.nofr e) (I.ok.noex b o e),I.base.free b o (I.ok.bs b o e).1 (I.ok.bs b o e).2 (I.ok.noex b o e)}
def Inv.bk(I:Inv X AA σ H s):∀ b o,X.base.get? b=some o->s.heap.get? b=some o:=λb o e=>(I.bs b o e).1
def Inv.mod(I:Inv X AA σ H s):Mod X.K X.mg X.base:=I.ok.mod
def Inv.kIn(I:Inv X AA σ H s):X.K.In s.heap:=I.ok.mod.kin.keeps I.bk
def Inv.lt(I:Inv X AA σ H s):X.env.locals<s.heap.objs.size:=let ⟨_,a,_⟩:=I.loc;a.lt
def Inv.sz(I:Inv X AA σ H s):X.s₀.heap.objs.size<=s.heap.objs.size:=χ I.ok.above<|kh I.lt
def Inv.nofs(I:Inv X AA σ H s)(h:s.heap.objs.size<=a):a∉X.fs:=λb=>by
 let[z,o,c,z]:=I.ok.funs.mem b;exact absurd (ω (au c) (χ I.sz h)) (jq _)
def Inv.cne(I:Inv X AA σ H s):∀ x c,X.env.cells.lookup x=some c->c≠X.env.locals:=λx c e z=>by
 let[m,[g,i,j,a,b,y],y]:=I.loc;let[v,o,d,hd]:=I.cell x c e;rw[z,a]at d;obtain rfl:=μ d;rw[b]at hd;cases hd
def Inv.funs(I:Inv X AA σ H s):s.heap.FunFrames X.base X.outer:=by
 have all:∀ (l:List _),(∀ b∈EF l,b∈X.fs)->X.s₀.heap.FunFrames X.base l->s.heap.FunFrames X.base l:=by
  intro l
  induction l with
  |nil=>intro y y;trivial
  |cons env r d =>
   intro hs [g,[L,o,hf,i,j,hd],n]
   have a:=hs L (by unfold EF;rw[q_,hf];exact υ);let[p,e]:=I.base.slot L o j (I.ok.frf L a) a λz=>I.ok.exfs L z a;exact{g,x2 L _ ⟨hf,i,e,hd⟩,d (λb c=>hs b (by unfold EF;rw[q_,hf];exact ρ _ c)) n}
 exact all _ (λy c=>c) I.ok.funs
def Inv.stack(I:Inv X AA σ H s):s.heap.FunFrames X.base X.stack:=by
 let e||[e,hf]:=I.ok.stk
 rw[e];exact I.funs;let[m,a,z]:=I.loc;rw[e];exact .cons (by rw[I.ok.kind];decide) hf a (Heap.get?_none_of_le<|χ I.ok.bsz I.ok.above) I.funs
def Inv.stkSub(I:Inv X AA σ H s):∀ b∈EF X.stack,b∈X.env.locals::X.fs:=λb a=>by
 let e||[e,hf]:=I.ok.stk
 rw[e]at a;exact ρ _ a;rw[e]at a;unfold EF at a;rw[q_,hf]at a;exact a
def Inv.stkFree(I:Inv X AA σ H s):∀ b∈EF X.stack,H b=none:=λb a=>by
 rcases aj.mp (I.stkSub b a)with e|a
 rw[e];exact I.free;let[y,o,c,y]:=I.ok.funs.mem a;exact I.base.free b o c (I.ok.frf b a) λz=>I.ok.exfs b z a
def Inv.step{O:Array Cs}{t':Nat}{Y:Drawn}{ch:xC}(I:Inv X AA σ H s)
  (E:∀ b∈ch,(b∈X.ex\/X.s₀.heap.objs.size<=b)/\b≠X.env.locals/\(∀ x c,X.env.cells.lookup x=some c->c≠b)/\∀ p∈X.pn++AA,p.1≠b)
  (keep:∀ b o,b≠X.env.locals->b∉X.fs->b∉ch->s.heap.get? b=some o->H b=none->h'.get? b=some o)
  (slot:∀ b o,b≠X.env.locals->b∈X.fs->b∉ch->s.heap.get? b=some o->H b=none->∃ N,h'.get? b=some { o with slots:=N }) (free:∀ b o,b∉ch->s.heap.get? b=some o->H b=none->H' b=none)
  (there:∀ b o,b∉ch->s.heap.get? b=some o->∃ J,h'.get? b=some J)
  (tups:∀ b xs,H b=some (.tup xs)->H' b=some (.tup xs)) (frzs:∀ b o u,H b=some (.frz o u)->H' b=some (.frz o u)) (tbls:∀ b ps,H b=some (.tbl ps)->∃ more,H' b=some (.tbl<|ps++more))
  (ns:∀ m,s.heap.Ns X.env.locals m->h'.Ns X.env.locals m) (hok:HOk X.prog X.w H' h') (hg:t9 O) :
  Inv X AA σ H' { s with heap:=h',gens:=O,drawn:=Y,toks:=t' }:=by
 have L:∀ b o,X.s₀.heap.get? b=some o->b≠X.env.locals:=λb o e=>bh<|ω (au e) I.ok.above
 have w:∀ b o,X.s₀.heap.get? b=some o->b∉X.ex->b∉ch:=λb o e a B=>by
  let z||z:=(E b B).1
  exact a z;exact absurd (ω (au e) z) (jq _)
 have g:∀ x c,X.env.cells.lookup x=some c->∀ v,s.heap.IsCell c v->h'.IsCell c v:=λx c e v ⟨o,D,hd⟩=>by
  have j:=λz=>(E c z).2.2.1 x c e rfl;by_cases Q:c∈X.fs;let[N,q]:=slot c o (I.cne x c e) Q j D (I.freeC x c e);exact⟨_,q,hd⟩;exact{o,keep c o (I.cne x c e) Q j D (I.freeC x c e),hd}
 refine{I.ok,I.os,hg,{λb o e n B a=>(keep b o (L b o e) B (w b o e a) (I.base.keep b o e n B a) (I.base.free b o e n a)),λb o e n B a=>?_,λb o e n a=>?_,λb o e a=>?_,λb xs e=>tups b xs<|I.base.tups b xs e,λb o xs e=>frzs b o xs<|I.base.frzs b o xs e,λb ps e=>?_},?_,λx c e=>?_,?_,λx c e=>?_,λp T=>?_,hok,I.len};let[N,A]:=I.base.slot b o e n B a;let[sl',M]:=slot b _ (L b o e) B (w b o e a) A (I.base.free b o e n a);exact⟨_,M⟩;let[J,A]:=I.base.there b o e a;exact free b J (w b o e a) A (I.base.free b o e n a);let[J,A]:=I.base.there b o e a;exact there b J (w b o e a) A;let[m1,A]:=I.base.tbls b ps e;let[m2,M]:=tbls b _ A;exact{_,by rw[M,B_]};let[m,hn,hl]:=I.loc;refine{m,ns m hn,λi x v A M e3=>?_};let[u,r,l]:=hl i x v A M e3;refine{u,r,?_};let l||[k,c,e,z]:=l
 exact .inl l;exact .inr {k,c,e,g x c e _ z};let[v,z]:=I.cell x c e;exact{v,g x c e v z};let[m,[o,y,y,D,y],y]:=I.loc;exact free _ o (λz=>(E _ z).2.1 rfl) D I.free;let[v,o,D,hd]:=I.cell x c e;exact free c o (λz=>(E c z).2.2.1 x c e rfl) D (I.freeC x c e)
 have j:=λz=>(E _ z).2.2.2 p T rfl;let[e,n,ne,U,d]:=I.pin p T;exact{keep _ _ ne U j e n,free _ _ j e n,ne,U,d}
def Inv.un{t':Nat}(I:Inv X AA σ H s)(u:Un X.fs [] H H' s.heap h')(hok:HOk X.prog X.w H' h'):Inv X AA σ H' { s with heap:=h',toks:=t' }:=by
 let[m,[o,q,v,d,r],_]:=id I.loc;let[w,g]:=u.any d I.free (by simp);exact I.step   (ch:=[]) (λ_ z=>nomatch z) (λb o _ c _ e n=>u.keep b o e n c (by simp)) (λb o _ c _ e n=>u.slot b o e n c (by simp)) (λb o _ e n=>u.free b o e n (by simp)) (λb o _ e=>u.there b o e (by simp)) u.tups u.frzs u.tbls (λx i=>by
  revert i;apply u3;intro y j l [a,p];rw[d]at a;obtain rfl:=μ a;exact x3 _ _ _ ⟨g,p⟩) hok I.bare
def Inv.call{i:Array Cs}{t':Nat}{q:Drawn}{ch:xC}(I:Inv X AA σ H s)(u:Un (EF X.stack) ch H H' s.heap h')(hok:HOk X.prog X.w H' h')(v:t9 i)
  (j:∀ b∈ch,(b∈X.ex\/X.s₀.heap.objs.size<=b)/\b≠X.env.locals/\(∀ x c,X.env.cells.lookup x=some c->c≠b)/\∀ p∈X.pn++AA,p.1≠b) :
  Inv X AA σ H' { s with heap:=h',gens:=i,drawn:=q,toks:=t' }:=by
 let[m,[o,J,L,l,r],y]:=id I.loc;let[M,g]:=u.any l I.free λz=>(j _ z).2.1 rfl;exact I.step  j (λb o g w a e n=>u.keep b o e n (λz=>(aj.mp<|I.stkSub b z).elim g w) a) (λb o y y a e n=>u.any e n a) (λb o a e n=>u.free b o e n a) (λb o a e=>u.there b o e a) u.tups u.frzs u.tbls (λN A=>by
  revert A;apply u3;intro O B D [d,E];rw[l]at d;obtain rfl:=μ d;exact x3 _ _ _ ⟨g,E⟩) hok v
def Inv.turned{t':Nat}{it:Addr}(I:Inv X AA σ H s)(k:∀ b o,b≠it->s.heap.get? b=some o->h'.get? b=some o)(i:H it=none)(g:it≠X.env.locals)
  (h1:it∈X.ex\/X.s₀.heap.objs.size<=it) (h2:∀ x c,X.env.cells.lookup x=some c->c≠it) (h3:∀ p∈X.pn++AA,p.1≠it):Inv X AA σ H { s with heap:=h',toks:=t' }:=by
 have d:∀ b u,H b=some u->b≠it:=λb u e z=>by rw[z,i]at e;cases e
 refine I.step   (ch:=[it]) (λb j=>?_) (λb o y y a e y=>k b o (λz=>a (by simp[z])) e) (λb o y y a e y=>{_,k b o (λz=>a (by simp[z])) e}) (λy y y y n=>n)
  (λb o a e=>{o,k b o (λz=>a (by simp[z])) e}) (λy y e=>e) (λy y y e=>e) (λb ps e=>{#[],by rw[e];simp}) (λm l=>?_) (λb u e=>?_) I.bare
 have e:b=it:=by simpa using j
 subst e;exact⟨h1,g,h2,h3⟩;revert l;apply u3;intro o w A [B,r];exact x3 o w A {k _ o (fk g) B,r};refine(I.hok b u e).stay (λc v a q=>k c v ?_ q) (λy q=>q) λy y q=>q;let z||z:=a
 rw[z];exact d b u e;exact d c _ z
def Inv.tok(I:Inv X AA σ H s)(t:Nat):Inv X AA σ H { s with toks:=t }:=I.un   Un.refl I.hok
def Inv.kept(I:Inv X AA σ H s)(k:∀ b u,s.heap.get? b=some u->h'.get? b=some u):Inv X AA σ H { s with heap:=h',toks:=t' }:=I.un (Un.kept k) (I.hok.kept k)
def Inv.laid{a:Addr}{o:HO}{t':Nat}(I:Inv X AA σ H s)(k:∀ b u,s.heap.get? b=some u->h'.get? b=some u)(c:s.heap.objs.size<=a)(new:ObjOk X.prog X.w (upd H a o) h' a o) :
  Inv X AA σ (upd H a o) { s with heap:=h',toks:=t' }:=I.un (Un.laid k c<|I.hok.fresh c) (I.hok.laid k c new)
def Inv.write(I:Inv X AA σ H s)(c:O1 (H x))(he:e=x\/H e=some (.own x))(k:∀ b u,b≠e->s.heap.get? b=some u->h'.get? b=some u)(a:∃ u,h'.get? e=some u)
  (new:ObjOk X.prog X.w (upd H x o) h' x o):Inv X AA σ (upd H x o) { s with heap:=h',toks:=t' }:=I.un (Un.write c he k a) (I.hok.write c he k a new)
def Inv.pins_of(I:Inv X AA σ H s)(h:∀ p∈a,s.heap.get? p.1=some p.2/\H p.1=none/\p.1≠X.env.locals/\p.1∉X.fs/\∀ v,p.2.data≠.cell v):Inv X a σ H s :=
 {I.ok,I.os,I.bare,I.base,I.loc,I.cell,I.free,I.freeC,λp b=>(bd.mp b).elim (λz=>I.pin p<|jg _ z) (h p),I.hok,I.len}
def mF{N:aD}(c:N.Nodup){i j:Nat}{x:Str}(a:N[i]? =some x)(b:N[j]? =some x):i=j:=by
 let[h1,d]:=ζ.mp a;let[h2,e]:=ζ.mp b;exact(Ft c).mp (d.trans e.symm)
abbrev _root_.wB:=Value->π->Prop
def mG{M:Model}{A:df}{E:wB}{i:Nat}{x:Str}{v:V}{u:Value}{Q:Unit->π->Prop}(I:Inv X AA σ H s)(hN:X.N.Nodup)(Y:X.N[i]? =some x)(w:ND X.env.scope x)(r:RelV v u)
  (h:∀ s',Inv X AA (σ.set i<|some v) H s'->(∃ a,gj a s.heap s'.heap/\(a=X.env.locals\/X.env.cells.lookup x=some a))->Q () s') (hf:X.fn x=true\/X.env.scope.names.lookup x=some .local:=by first|exact .inl rfl|exact .inr rfl|assumption):wpAny M A (storeName X.env x u) Q E s:=by
 let[m,hn,hl]:=id I.loc
 have J:i<σ.length:=by rw[I.len];exact(ζ.mp Y).1
 have cne:=I.cne
 have tracked:∀ {a:Addr} {h':Heap},(∃ o,s.heap.get? a=some o/\H a=none)->gj a _ h'->HOk _ _ H h':=λ{a h'} ha hs b ob e=>by
  let[t,t,B]:=ha;refine(I.hok b ob e).stay (λc w' l q=>(hs.2 c ?_).trans q) (λt q=>q) λt t q=>q;rintro rfl;let rfl||l:=l
  rw[B]at e;cases e;rw[B]at l;cases l
 let L||L:=w
 refine wpAny_storeName_local L hn (λh' hn' hs=>(u3 ?_<|id hn)) (by rw[I.ok.kind];rfl);intro oL t t [hoL,t];refine h _ {I.ok,I.os,I.bare,{λb o e n O w=>((hs.2 b<|bh<|ω (au e) I.ok.above).trans (I.base.keep b o e n O w)),λb o e n O w=>?_,I.base.free,λb o e w=>?_,I.base.tups,I.base.frzs,I.base.tbls},{_,hn',λj y v' g D e3=>?_},λy c e=>?_,I.free,I.freeC,λp hp=>?_,tracked ⟨oL,hoL,I.free⟩ hs,by simpa using I.len} {_,hs,.inl rfl};let[sl,g]:=I.base.slot b o e n O w;exact{sl,(hs.2 b<|bh<|ω (au e) I.ok.above).trans g};let[o',g]:=I.base.there b o e w;exact{o',(hs.2 b<|bh<|ω (au e) I.ok.above).trans g};by_cases T:j=i;subst T;rw[Y]at g;obtain rfl:=μ g;rw[gk J]at D;cases D;exact{u,r,.inl {L,by simp}};rw[ia (fk T)]at D;let[u',r',q]:=hl j y v' g D e3;refine{u',r',?_};let[k,e]||[k,c,e,z]:=q
 have:y≠x:=λe=>T<|mF hN g<|e ▸ Y;refine .inl {k,?_};simp[this,e];exact .inr {k,c,e,z.sameBut hs<|cne y c e};let[w',z]:=I.cell y c e;exact{w',z.sameBut hs<|cne y c e};let[e,n,ne,nf,d]:=I.pin p hp;exact{(hs.2 _ ne).trans e,n,ne,nf,d};let[c,l]:=I.ok.has x<|.inl L
 have U:X.fn x=true:=by
  let z||z:=hf
  exact z;rw[z]at L;cases L
 let[w',z]:=I.cell x c l;refine wpAny_storeName_cell I.ok.kind L l z<|λh' hc' hs=>?_;let[oc,hoc,hocd]:=id z;refine h _ {I.ok,I.os,I.bare,{λb o e n O w=>((hs.2 b<|bh<|ω (au e) (I.ok.cab x c U l)).trans (I.base.keep b o e n O w)),λb o e n O w=>?_,I.base.free,λb o e w=>?_,I.base.tups,I.base.frzs,I.base.tbls},{m,hn.sameBut hs<|fk<|cne x c l,λj y v' g D e3=>?_},λy c' e=>?_,I.free,I.freeC,λp hp=>?_,tracked {oc,hoc,I.freeC x c l} hs,by simpa using I.len} {c,hs,.inr l};let[sl,g]:=I.base.slot b o e n O w;exact{sl,(hs.2 b<|bh<|ω (au e) (I.ok.cab x c U l)).trans g};let[o',g]:=I.base.there b o e w;exact{o',(hs.2 b<|bh<|ω (au e) (I.ok.cab x c U l)).trans g};by_cases T:j=i;subst T;rw[Y]at g;obtain rfl:=μ g;rw[gk J]at D;cases D;exact{u,r,.inr {.inl L,c,l,hc'}};rw[ia (fk T)]at D;let[u',r',q]:=hl j y v' g D e3;refine{u',r',?_};let q||[k,c',e,z']:=q
 exact .inl q;refine .inr {k,c',e,z'.sameBut hs ?_};rintro rfl;exact T<|mF hN g<|I.ok.inj _ _ _ e l ▸ Y;by_cases hcc:c'=c;subst hcc;exact⟨_,hc'⟩;let[w2,z2]:=I.cell y c' e;exact{w2,z2.sameBut hs hcc};let[e,n,ne,nf,d]:=I.pin p hp;refine{(hs.2 _ ?_).trans e,n,ne,nf,d};intro q;rw[q,hoc]at e;exact d w' (by rw[<-(μ e)];exact hocd)
def mH(I:Inv X AA σ H s)(b:X.N.Nodup)(c:X.N[i]? =some x)(d:ND X.env.scope x)(r:RelV v u)
  (h:∀ a,Inv X AA (σ.set i<|some v) H a->Q () a) (hf:X.fn x=true\/X.env.scope.names.lookup x=some .local:=by first|exact .inl rfl|exact .inr rfl|assumption):wpAny M A (storeName X.env x u) Q E s :=
 mG I b c d r (λa e z=>h a e) hf
def Inv.call'(I:Inv X AA σ H s)(d:a.os=s.os)(u:Un (EF X.stack) ch H H' s.heap a.heap)(hok:HOk X.prog X.w H' a.heap)(e:t9 a.gens)
  (g:∀ b∈ch,(b∈X.ex\/X.s₀.heap.objs.size<=b)/\b≠X.env.locals/\(∀ x c,X.env.cells.lookup x=some c->c≠b)/\∀ p∈X.pn++AA,p.1≠b):Inv X AA σ H' a:=by
 let[h',i,j,t',l]:=a;subst d;exact I.call    u hok e g
end
abbrev XK:=Value->Option Addr->Hp->Prop
abbrev St:=List<|Option V
abbrev VK:=V->Hp->Prop
abbrev TE:=St->Hp->VK->Prop
abbrev TT:=St->Hp->(Bool->Hp->Prop)->Prop
abbrev TA:=St->Hp->(vE->Hp->Prop)->Prop
structure Ends where
 nx:St->Hp->Prop
 rt:VK
 bk:St->Hp->Prop:=λ_ _=>False
 ct:St->Hp->Prop:=λ_ _=>False
abbrev TS:=Ends->St->Hp->Prop
def EP(X:Cx)(b:wA)(c:St)(Q:VK)(u:Value)(d:π):Prop:=∃ v a,Inv X b c a d/\RelV v u/\Q v a
abbrev _root_.xB:=Bool->Hp->Prop
def TP(X:Cx)(c:wA)(d:St)(Q:xB)(b:Bool)(e:π):Prop:=∃ a,Inv X c d a e/\Q b a
def AP(X:Cx)(b:wA)(c:St)(Q:vE->Hp->Prop)(us:vC)(d:π):Prop:=∃ vs a,Inv X b c a d/\Vals vs us/\Q vs a
def SP(X:Cx)(c:wA)(D:Ends)(f:Flow)(d:π):Prop :=
 match f with
 |.next=>∃ a b,Inv X c a b d/\D.nx a b
 |.brk=>∃ a b,Inv X c a b d/\D.bk a b
 |.cont=>∃ a b,Inv X c a b d/\D.ct a b
 |.ret u=>∃ v a b,Inv X c a b d/\RelV v u/\D.rt v b
def PE(X:Cx)(e:Expr)(t:TE):Prop :=
 ∀ (b:wA) (s:π) (a:St) (H:Hp) (Q:VK),Inv X b a H s->t a H Q->wpAny (model X.prog X.w) X.A (eval e X.env) (EP X b a Q) X.xe s
def PT(X:Cx)(e:Expr)(t:TT):Prop :=
 ∀ (b:wA) (s:π) (a:St) (H:Hp) (Q:xB),Inv X b a H s->t a H Q->wpAny (model X.prog X.w) X.A (Ks e X.env<|eval e X.env) (TP X b a Q) X.xe s
def PW(X:Cx)(e:Expr)(t:TT):Prop :=
 ∀ (whole:Sem Value) (b:wA) (s:π) (a:St) (H:Hp) (Q:xB),Inv X b a H s->t a H Q->wpAny (model X.prog X.w) X.A (Ks e X.env whole) (TP X b a Q) X.xe s
def PW.pt(h:PW X e t):PT X e t:=h _
abbrev _root_.yC:=List Expr
def PA(X:Cx)(c:yC)(t:TA):Prop :=
 ∀ (pos:Pos) (b:wA) (s:π) (a:St) (H:Hp) (Q:vE->Hp->Prop),Inv X b a H s->t a H Q->wpAny (model X.prog X.w) X.A (spliced<|jh pos<|az c X.env) (AP X b a Q) X.xe s
def PS(X:Cx)(st:Stmt)(t:TS):Prop :=
 ∀ (a:wA) (s:π) (b:St) (H:Hp) (D:Ends),Inv X a b H s->t D b H->wpAny (model X.prog X.w) X.A (exec st X.env) (SP X a D) X.xe s
def FC(X:Cx)(st:List Stmt)(t:TS):Prop :=
 ∀ (a:wA) (s:π) (b:St) (H:Hp) (D:Ends),Inv X a b H s->t D b H->wpAny (model X.prog X.w) X.A (execs st X.env) (SP X a D) X.xe s
def AR{α :Type}{t:Sem α}{Q b: α ->π->Prop}{M:Model}{A:df}{E:wB}{s:π}(h:wpAny M A t Q E s)(c:∀ a s,Q a s->b a s):wpAny M A t b E s:=oa h c λz z x=>x
section
variable{X:Cx}
def SN(i:Nat):TE:=λa H Q=>∃ v,a[i]? =some (some v)/\Q v H
def tC(v:V):TE:=λ_ H Q=>Q v H
def mI(g:X.N[i]? =some x)(j:SL X.env.scope x)(hd:(x ==("__debug__":Str))=false:=by decide)(n:(x ==("__classdict__":Str))=false:=by decide):PE X (.Name x pos) (SN i):=by
 intro y s o H Q I [v,e,h];let[m,p,q]:=I.loc;let[u,r,l]:=q i x v g e j
 have fin:EP X _ o Q u s:=x2 v H ⟨I,r,h⟩;let[b,w]||[b,c,d,a]:=l
 exact Iw (wpAny_loadName_local I.ok.kind b p w fin) hd;let b||b:=b
 exact Iw (wpAny_loadName_cell I.ok.kind b d a fin) hd;exact Iw (wpAny_loadName_free I.ok.kind b d a fin n) hd
def mJ{i j pos}:PE X (.Constant (.int i) j pos) (tC<|.int i):=λz z z H z I h=>wpAny_Constant_int<|x2 (.int i) H {I.tok _,⟨_,rfl⟩,h}
def Qd{b j pos}:PE X (.Constant (.bool b) j pos) (tC<|.bl b):=λz z z H z I h=>Constant_bool<|x2 (.bl b) H ⟨I,rfl,h⟩
def Qg{j pos}:PE X (.Constant .none j pos) (tC .non):=λz z z H z I h=>Constant_none<|x2 (.non) H ⟨I,rfl,h⟩
def Qh{x j pos}:PE X (.Constant (.str x) j pos) (tC<|.str x):=λz z z H z I h=>Ca<|x2 (.str x) H {I.tok _,⟨_,rfl⟩,h}
def Gl(X:Cx)(x:Str):Prop:=X.env.kindOf x=some .globalImplicit
def NE(I:Inv X c d H s)(a:Gl X x)(b:X.mg x=some u)(h:Q u s)
  (hd:(x ==("__debug__":Str))=false:=by decide):wpAny (model X.prog X.w) X.A (eval (.Name x pos) X.env) Q E s :=
 we I.ok.kind a (Calls.loadGlobal_global (by rw[I.ok.glob];exact I.mod.glob.keeps I.bk) b h) hd
def O2{E:wB}{a:wA}{s:π}{b:St}{H:Hp}{x:Str}{u:Value}{pos:Pos}{Q:wB}(I:Inv X a b H s)(c:Gl X x)(d:X.mg x=none)(e:t5 x=some u)(h:Q u s)
  (g:x≠"__name__":=by decide) (hd:(x ==("__debug__":Str))=false:=by decide):wpAny (model X.prog X.w) X.A (eval (.Name x pos) X.env) Q E s:=by
 let[i,h1,h2]:=I.mod.blt;exact we I.ok.kind c (Calls.loadGlobal_builtin (by rw[I.ok.glob];exact I.mod.glob.keeps I.bk) d (by rw[I.ok.blt];exact h1.keeps I.bk) ((h2 x g).trans e) h) hd
def Qj(a:Gl X x)(b:X.mg x=some u)(r:RelV v u)(hd:(x ==("__debug__":Str))=false:=by decide):PE X (.Name x pos) (tC v) :=
 λz z z H z I h=>NE I a b (x2 v H ⟨I,r,h⟩) hd
variable{a b:Expr}{ta tb:TE}{pos:Pos}
def PC(X:Cx)(op:CmpOp)(a b:Expr)(t:TE):Prop :=
 ∀ (g:wA) (s:π) (e:St) (H:Hp) (Q:VK),Inv X g e H s->t e H Q ->
  wpAny (model X.prog X.w) X.A (eval a X.env) (λv c=>wpAny (model X.prog X.w) X.A (eval b X.env) (λu d=>wpAny (model X.prog X.w) X.A (d_ op v u) (EP X g e Q) X.xe d) X.xe c) X.xe s
def Qk(b:Expr)(h:op≠.In)(h2:op≠.NotIn):nq op b=false:=by
 have c:(op==CmpOp.In)=false:=by cases op<;>first|rfl|exact absurd rfl h
 have d:(op==Le)=false:=by cases op<;>first|rfl|exact absurd rfl h2
 cases b<;>simp[nq,c,d]
def tB(t:TE):TT:=λd H Q=>t d H λx e=>∃ c,x=.bl c/\Q c e
def Ql{t:TE}(h:PC X op a b t)(h1:nq op b=false:=by first|exact Qk _ (by decide) (by decide)|rfl):PT X (.Compare a [op] [b] pos) (tB t):=by
 refine λo s g H Q I i=>zh (AR (h _ s g H _ I i) λv p h1=>AR h1 λu r h2=>AR h2 λc w e=>?_) h1;let[x,j,l,n,[d,rfl,q]]:=e;subst n;exact ig ⟨j,l,q⟩
variable{tA tB':TT}{rest:yC}
def IW(t u:TT):TT:=λd H Q=>t d H λc e=>if c=true then u d e Q else Q false e
def MA(t u:TT):TT:=λd H Q=>t d H λc e=>if c=true then Q true e else u d e Q
def F8(t:TT):TT:=λd H Q=>t d H λc e=>Q (!c) e
def Qm(d:PT X a tA):PW X (.BoolOp .And [a] pos) tA:=by
 refine λi j s g H Q I h=>isTrue_and<|AR (d _ s g H Q I h) λc l e=>?_;cases c with
 |true=>exact isTrue_and_nil e
 |false=>exact e
def Qp(d:PT X a tA):PW X (.BoolOp .Or [a] pos) tA:=by
 refine λi j s g H Q I h=>isTrue_or<|AR (d _ s g H Q I h) λc l e=>?_;cases c with
 |false=>exact isTrue_or_nil e
 |true=>exact e
def Qq(j:PT X a tA)(l:PW X (.BoolOp .And (b::rest) pos) tB'):PW X (.BoolOp .And (a::b::rest) pos) (IW tA tB'):=by
 refine λn p s e H Q I h=>isTrue_and<|AR (j _ s e H _ I h) λc o d=>?_;let[g,i,q1]:=d;cases c with
 |true=>exact l n _ o e g Q i q1
 |false=>exact⟨g,i,q1⟩
def Qv(j:PT X a tA)(l:PW X (.BoolOp .Or (b::rest) pos) tB'):PW X (.BoolOp .Or (a::b::rest) pos) (MA tA tB'):=by
 refine λn p s e H Q I h=>isTrue_or<|AR (j _ s e H _ I h) λc o d=>?_;let[g,i,q1]:=d;cases c with
 |true=>exact⟨g,i,q1⟩
 |false=>exact l n _ o e g Q i q1
def Qw(d:PT X a tA):PT X (.UnaryOp .Not a pos) (F8 tA):=λi s e H Q I h=>isTrue_not<|d _ s e H (λc g=>Q _ g) I h
def O3(ta tb:TE):TE:=λd H Q=>ta d H λx e=>∃ c,x=.bl c/\if c=true then tb d e Q else Q (.bl false) e
def SO(ta tb:TE):TE:=λd H Q=>ta d H λx e=>∃ c,x=.bl c/\if c=true then Q (.bl true) e else tb d e Q
def Qx{op}(h:PE X a t):PE X (.BoolOp op [a] pos) t:=λe s c H Q I d=>BoolOp_one<|h _ s c H Q I d
def Qy(j:PE X a ta)(l:PE X (.BoolOp .And (b::rest) pos) tb):PE X (.BoolOp .And (a::b::rest) pos) (O3 ta tb):=by
 refine λp s e H Q I h=>BoolOp_and<|AR (j _ s e H _ I h) λv n d=>?_;let[x,g,i,o,[c,rfl,q1]]:=d;subst o;refine ig ?_;cases c with
 |true=>exact l _ n e g Q i q1
 |false=>exact x2 (.bl _) g ⟨i,rfl,q1⟩
def Qz(l:PE X a ta)(n:PE X (.BoolOp .Or (b::rest) pos) tb):PE X (.BoolOp .Or (a::b::rest) pos) (SO ta tb):=by
 refine λe s g H Q I h=>BoolOp_or<|AR (l e s g H _ I h) λv o d=>?_;let[x,i,j,p,q1]:=d;let[c,rfl,q1]:=q1;cases p;refine ig ?_;cases c with
 |false=>exact n e o g i Q j q1
 |true=>exact x2 (.bl true) i ⟨j,rfl,q1⟩
def SQ(t:TT)(ta tb:TE):TE:=λd H Q=>t d H λc e=>if c=true then ta d e Q else tb d e Q
def Rb{c:Expr}(o:PT X c tA)(p:PE X a ta)(q:PE X b tb):PE X (.IfExp c a b pos) (SQ tA ta tb):=by
 refine λe s g H Q I h=>wpAny_IfExp<|AR (o e s g H _ I h) λd j i=>?_;let[l,n,q1]:=i;cases d with
 |true=>exact p e j g l Q n q1
 |false=>exact q e j g l Q n q1
end
def SqL(K:W.Frag)(H:Hp)(a:Addr)(xs:vE):Prop :=
 Rd H a (.lst xs) ∨
  ∃ (o:Obj) (b:Array Value) (n:Nat),K.lookup a=some o/\o.cls=.type "list"/\o.dict=none/\o.data=.seq b n/\b.size<=sizeLine/\Vals xs b.toList
def SqT(K:W.Frag)(H:Hp)(a:Addr)(xs:vE):Prop :=
 Rd H a (.tup xs) ∨
  ∃ (o:Obj) (b:Array Value) (n:Nat),K.lookup a=some o/\o.cls=.type "tuple"/\o.data=.seq b n/\b.size<=sizeLine/\Vals xs b.toList
def Rc:Value->Option V
 |.none=>some .non
 |.bool b=>some<|.bl b
 |.int i _=>some<|.int i
 |.str x _=>some<|.str x
 |.bytes b _=>some<|.byt b
 |.float b _=>some<|.flt b
 |.ref a=>some<|.ref a
 |.type n=>some<|.ty n
 |_=>none
def RelV.abs(r:RelV x u):Rc u=some x:=by
 cases x with
 |non=>subst r;rfl
 |bl _=>subst r;rfl
 |int _=>let[t,rfl]:=r;rfl
 |str _=>let[t,rfl]:=r;rfl
 |byt _=>let[t,rfl]:=r;rfl
 |flt _=>let[t,rfl]:=r;rfl
 |ref _=>subst r;rfl
 |ty _=>subst r;rfl
def RelV.inj{x y:V}{u:Value}(r:RelV x u)(q:RelV y u):x=y:=μ<|r.abs.symm.trans q.abs
theorem Vals.inj:∀ {xs ys:vE} {us:vC},Vals xs us->Vals ys us->xs=ys:=by
 intro xs ys us h h'
 induction h generalizing ys with
 |nil=>cases h';rfl
 |cons r t a=>cases h' with|cons b t'=>rw[r.inj b,a t']
section
variable{X:Cx}{AA:wA}{σ:St}{H:Hp}{s:π}{a:Addr}{xs ys:vE}
def SqL.of{K:W.Frag}(h:H a=some (.lst xs)):SqL K H a xs:=.inl<|.inl h
def SqT.of{K:W.Frag}(h:H a=some (.tup xs)):SqT K H a xs:=.inl<|.inl h
def Inv.list(I:Inv X AA σ H s)(h:SqL X.K H a xs):∃ b:vC,Vals xs b/\PlainL s.heap a b.toArray/\xs.length<=sizeLine:=by
 let h||[o,b,n,c,d,hd,hs,hz,r]:=h
 let[z,b,n,r,e]:=h.ok I.hok;exact{_,r,x2 _ n ⟨e,rfl,rfl,rfl⟩,z};refine{_,r,x2 o n {I.kIn a o c,d,hd,hs},?_};exact r.length ▸ hz
def Inv.tuple(I:Inv X AA σ H s)(h:SqT X.K H a xs):∃ b:vC,Vals xs b/\IsTup s.heap a b.toArray/\xs.length<=sizeLine:=by
 let h||[o,b,n,c,d,hs,hz,r]:=h
 let[z,b,r,p]:=h.ok I.hok;exact⟨_,r,p,z⟩;refine{_,r,{o,I.kIn a o c,d,n,hs},?_};exact r.length ▸ hz
def Inv.list_inj(I:Inv X AA σ H s)(h:SqL X.K H a xs)(h':SqL X.K H a ys):xs=ys:=by
 let[i,r,[o,n,e,z,z,d],z]:=I.list h;let[b,j,[p,q,c,z,z,g],z]:=I.list h';rw[e]at c;obtain rfl:=μ c;rw[d]at g;injection g with l _
 have:i=b:=congrArg Kt l;subst this;exact r.inj j
def Inv.tuple_inj(I:Inv X AA σ H s)(h:SqT X.K H a xs)(h':SqT X.K H a ys):xs=ys:=by
 let[i,r,[o,e,z,n,d],z]:=I.tuple h;let[b,j,[p,c,z,q,g],z]:=I.tuple h';rw[e]at c;obtain rfl:=μ c;rw[d]at g;injection g with l _
 have:i=b:=congrArg Kt l;subst this;exact r.inj j
end
section
variable{X:Cx}{AA:wA}{σ:St}{H:Hp}{s:π}{E:wB}
end
section
variable{X:Cx}{st:Stmt}{rest:List Stmt}{t u:TS}{e:Expr}{te:TE}{pos:Pos}
def BW:TS:=λD a H=>D.nx a H
def AH(t u:TS):TS:=λD a H=>t { D with nx:=u D } a H
def Rg:FC X [] BW:=λz z a H z I h=>my<|x2 a H ⟨I,h⟩
def Rh(h1:PS X st t)(h2:FC X rest u):FC X (st::rest) (AH t u):=by
 refine λi s a H D I h=>Fu<|AR (h1 _ s a H _ I h) λf b q=>?_;cases f with
 |next =>
  revert q;apply u2;intro c d [g,q];exact h2 _ b _ d D g q
 |ret v=>exact q
 |brk=>exact q
 |cont=>exact q
def Rj(h1:PS X st t):FC X [st] t:=by
 refine λb s a H D I h=>Fu<|AR (h1 _ s a H D I h) λf c q=>?_;cases f with
 |next=>exact my q
 |ret v=>exact q
 |brk=>exact q
 |cont=>exact q
def Inv.quiet{a:wA}{b:St}{H:Hp}{s:π}(I:Inv X a b H s):interactive X.env=false:=by simp[interactive,I.ok.kind]
def CP(te:TE):TS:=λD a H=>te a H λ_ b=>D.nx a b
def Rk(he:PE X e te)(hs:v_ e none pos.line X.env=pure false:=by rfl):PS X (.Expr e pos) (CP te):=λd s a H D I h=>wpAny_Expr_any (AR (he _ s a H _ I h) (by intro v g [x,b,c,i,q1];exact x2 a b ⟨c,q1⟩)) I.quiet hs
def AV(te:TE):TS:=λD a H=>te a H D.rt
def Rl(he:PE X e te):PS X (.Return (some e) pos) (AV te):=λg s a H D I h=>wpAny_Return_some (AR (he _ s a H _ I h) (by intro v i [x,b,c,d,q1];exact x3 x a b ⟨c,d,q1⟩))
def BM(c:TT)(t u:TS):TS:=λD a H=>c a H λb d=>if b=true then t D a d else u D a d
def Rm{j:TT}(p:PT X c j)(q:FC X a t)(r:FC X b u):PS X (.If c a b pos) (BM j t u):=by
 refine λv s g H D I h=>wpAny_If<|AR (p _ s g H _ I h) λd l i=>?_;let[n,o,q1]:=i;cases d with
 |true=>exact q _ l g n D o q1
 |false=>exact r _ l g n D o q1
end
abbrev TG:=V->St->Hp->(St->Hp->Prop)->Prop
abbrev HG:=vE->St->Hp->(St->Hp->Prop)->Prop
def PG(X:Cx)(target:Expr)(t:TG):Prop :=
 ∀ (b:wA) (s:π) (c:St) (H:Hp) (v:V) (u:Value) (Q:St->Hp->Prop),Inv X b c H s->RelV v u->t v c H Q ->
  wpAny (model X.prog X.w) X.A (Ku target X.env u) (λ_ e=>∃ a d,Inv X b a d e/\Q a d) X.xe s
def IX(X:Cx)(e:yC)(t:HG):Prop :=
 ∀ (b:wA) (s:π) (c:St) (H:Hp) (vs:vE) (us:vC) (Q:St->Hp->Prop),Inv X b c H s->Vals vs us->t vs c H Q ->
  wpAny (model X.prog X.w) X.A (assignInOrder ((wf e X.env).map (·.2)) us) (λ_ g=>∃ a d,Inv X b a d g/\Q a d) X.xe s
abbrev WN:=V->V->V->Hp->(Hp->Prop)->Prop
def WO(X:Cx)(t:WN):Prop :=
 ∀ (a:wA) (s:π) (b:St) (H:Hp) (o i v:V) (c iv u:Value) (Q:Hp->Prop),Inv X a b H s->RelV o c->RelV i iv->RelV v u->t o i v H Q ->
  wpAny (model X.prog X.w) X.A (K_ c iv u) (λ_ e=>∃ d,Inv X a b d e/\Q d) X.xe s
abbrev mK:=V->V->Hp->VK->Prop
section
variable{X:Cx}{pos:Pos}
def AG(i:Nat):TG:=λv a H Q=>Q (a.set i<|some v) H
def mM(a:X.N.Nodup)(b:X.N[i]? =some x)(c:ND X.env.scope x)(hf:X.fn x=true\/X.env.scope.names.lookup x=some .local:=by first|exact .inl rfl|exact .inr rfl|assumption):PG X (.Name x pos) (AG i):=λe s g H v u Q I r h=>Ct<|mH I a b c r (λj d=>x2 _ H ⟨d,h⟩) hf
def FL:HG:=λvs a H Q=>vs=[]/\Q a H
def DP(t:TG)(u:HG):HG:=λvs b H Q=>∃ v r,vs=v::r/\t v b H λa c=>u r a c Q
def Rp:IX X [] FL:=by
 intro b s a H vs us Q I r [rfl,h];exact assignInOrder_nil<|x2 a H ⟨I,h⟩
def Rq{e:Expr}{a:yC}{t:TG}{u:HG}(h1:PG X e t)(h2:IX X a u)
  (hs:(wf (e::a) X.env).map (·.2)=Ku e X.env::(wf a X.env).map (·.2):=by rfl):IX X (e::a) (DP t u):=by
 intro l s b H vs us Q I r h;revert h;apply u2;intro v n [rfl,h];cases r with
 |cons r c =>
  rw[hs];exact assignInOrder_cons (AR (h1 _ s b H _ _ _ I r h) (by intro z d [g,i,j,q1];exact(h2 _ d _ i _ _ Q j c q1)))
def FM(K:W.Frag)(n:Nat)(t:HG):TG:=λv b H Q=>∃ a xs,v=.ref a/\SqT K H a xs/\xs.length=n/\t xs b H Q
def Rv(l:X.calm=true)(h:IX X c t)
  (p:(wf c X.env).length=n:=by rfl) (d:(wf c X.env).findIdx? (·.1)=none:=by rfl):PG X (.Tuple c k pos) (FM X.K n t):=by
 intro A s i H v u Q I r g;revert g;apply u2;intro a xs [rfl,q,w,g];subst r;let[B,j,x,hz]:=I.tuple q;refine assign_Tuple_tuple (I.ok.hd l) x (by simp[p,<-w,j.length]) d λh' y=>?_
 have z:Inv X _ i H { s with heap:=h' }:=I.kept  λb o e=>y b o (bh<|au e) e;exact h _ _ i H xs _ Q z (j) g
def O4(to b:TE)(t:WN):TG:=λv a H Q=>to a H λo c=>b a c λi d=>t o i v d λe=>Q a e
def Rw{to c:TE}{t:WN}(d:PE X o to)(e:PE X i c)(hs:WO X t)
  (E:∀ v,Ku (.Subscript o i pos) X.env v=(do
   let a ← t_ [v] (eval o X.env)
   let iv ← t_ [v,a] (eval i X.env)
   ym pos
   t_ [v,a,iv] (K_ a iv v)
   release [v,a,iv] []):=by intro z;rfl):PG X (.Subscript o i pos) (O4 to c t):=λJ s b H v u Q I r h=>δ (gx (AR (d _ s b H _ I h) (by intro a g [x,j,l,n,q1];exact(δ (gx (AR (e _ g b j _ l q1) (by intro iv p [y,q,w,A,q2];exact(δ (Be (δ (gx (AR (hs _ p b q x y v a iv u _ w n A r q2) (by intro z L [B,D,q3];exact(wpAny_release<|x2 b B ⟨D,q3⟩))))))))))))))
def AT(b:TE)(g:TG):TS:=λD a H=>b a H λx c=>g x a c D.nx
def Rx{c:TE}(he:PE X e c)(i:PG X a g)(hs:swapsWithSole [a] e pos.line X.env=pure false:=by rfl)(j:swappedStores [a] e X.env=pure none:=by rfl)
  (h1:(wf [a] X.env).map (·.2)=[Ku a X.env]:=by rfl):PS X (.Assign [a] e pos) (AT c g):=by
 refine λr s d H D I h=>wpAny_Assign_stores (AR (he _ s d H _ I h) λv l b=>?_) hs j;let[x,n,o,p,q1]:=b;rw[h1];exact AR (i _ l d n x v _ o p q1) λz u q=>q
def mO{b:TE}(c:X.N.Nodup)(d:X.N[i]? =some x)(g:ND X.env.scope x)(he:PE X e b)(hs:v_ e (some<|.Name x a) pos.line X.env=pure false:=by rfl)(hf:X.fn x=true\/X.env.scope.names.lookup x=some .local:=by first|exact .inl rfl|exact .inr rfl|assumption) :
  PS X (.Assign [.Name x a] e pos) (AT b<|AG i):=λq s j H D I h=>wpAny_Assign_Name (AR (he _ s j H _ I h) (by intro v r [y,l,n,o,q1];exact(mH n c d g o (λu p=>x2 _ l ⟨p,q1⟩) hf))) hs
def Ry(f:Int->Int->Int):mK:=λx y H Q=>∃ i j,x=.int i/\y=.int j/\Q (.int<|f i j) H
end
section
variable{X:Cx}{pos:Pos}
def mP(c:TT)(j:TS):TS:=λD a H=>∃ W:Nat->St->Hp->Prop,(∃ m,W m a H)/\∀ m a H,W m a H ->
 c a H λb e=>if b=true then ∃ N:St->Hp->Prop,(∀ d g,N d g->∃ i,i<m/\W i d g)/\j { D with nx:=N,ct:=N,bk:=D.nx } a e else D.nx a e
def Rz(q:F_ (model X.prog X.w) X.A X.env X.xe)(z:PT X c A)(B:FC X body E):PS X (.While c body [] pos) (mP A E):=by
 intro AA s J H D I [W,[m0,L],a];refine wpAny_While<|codeAny_whileLoop (λn M=>∃ d r,Inv X _ d r M/\W n d r) ?_ m0 (x2 J H ⟨I,L⟩);intro n O [Q,u,T,U];refine fm q<|AR (z _ O _ u _ T<|a n _ u U) λb Y g=>?_;let[w,x,q2]:=g;cases b with
 |true =>
  let[N,y,q2]:=q2;refine fm q<|AR (B _ Y _ w _ x q2) λf s3 q3=>?_;cases f with
  |next =>
   revert q3;apply u2;intro i e [j,l];let[o,p,w3]:=y _ e l;exact{o,p,x2 _ e ⟨j,w3⟩}
  |cont =>
   revert q3;apply u2;intro i e [j,l];let[o,p,w3]:=y _ e l;exact{o,p,x2 _ e ⟨j,w3⟩}
  |brk=>exact q3
  |ret v=>exact q3
 |false =>
  exact my<|x2 _ w ⟨x,q2⟩
end
structure It where
 go:Nat->Hp->Prop
 yld:Nat->Hp->V->Hp->Prop
 stop:Nat->Hp->Prop
def FpOk(X:Cx)(a:wA)(H:Hp)(b:Addr):Prop :=
 H b=none/\b≠X.env.locals/\b∉X.fs/\(b∈X.ex\/X.s₀.heap.objs.size<=b)/\(∀ x c,X.env.cells.lookup x=some c->c≠b)/\∀ p∈X.pn++a,p.1≠b
def Inv.fpOk(I:Inv X d l H s)(a:s.heap.objs.size<=b)(g:i b=none):FpOk X d i b:=by
 refine{g,je<|ω I.lt a,I.nofs a,.inr<|χ I.sz a,λx c e z=>?_,λp j z=>(absurd (ω (au (I.pin p j).1) (by rw[z];exact a)) (jq _))};let[v,q]:=I.cell x c e;exact absurd (ω q.lt (by rw[z];exact a)) (jq _)
structure JY(P:bv)(w:World)(K:W.Frag)(tg:Expr)(J:It)(fp:xC)(it:Addr)(tn:Nat->Heap->Prop):Prop where
 mem:it∈fp
 obj:∀ i h,tn i h->∀ b∈fp,∃ o,h.get? b=some o/\∀ v,o.data≠.cell v
 keep:∀ i h h',tn i h->(∀ b∈fp,∀ o,h.get? b=some o->h'.get? b=some o)->tn i h'
 item:∀ (X:Cx),X.prog=P->X.w=w->X.K=K->X.calm=true->∀ (i:Nat) (AA:wA) (s:π) (σ:St) (H:Hp) (E:wB),Inv X AA σ H s->(∀ b∈fp,FpOk X AA H b)->tn i s.heap->J.go i H ->
  wpAny (model P w) X.A (xt<|.ref it) (λr s1=>∃ u,r=some u /\
   wpAny (model P w) X.A (y_ tg (.ref it) u) (λ_ s2=>∃ x H',Inv X AA σ H' s2/\RelV x u/\J.yld i H x H'/\tn (i+1) s2.heap/\∀ b∈fp,H' b=none) E s1) E s
 done:∀ (X:Cx),X.prog=P->X.w=w->X.K=K->X.calm=true->∀ (i:Nat) (AA:wA) (s:π) (σ:St) (H:Hp) (E:wB),Inv X AA σ H s->(∀ b∈fp,FpOk X AA H b)->tn i s.heap->J.stop i H ->
  wpAny (model P w) X.A (xt<|.ref it) (λr s1=>r=none/\Inv X AA σ H s1) E s
 self:∀ (A:df) (i:Nat) (s:π) (Q:wB) (E:wB),tn i s.heap->Q (.ref it) s->wpAny (model P w) A (zn<|.ref it) Q E s
abbrev TI:=St->Hp->(It->Hp->Prop)->Prop
def WP(X:Cx)(d:wA)(j:St)(l:Expr)(R:It->Hp->Prop)(a:Value)(e:π):Prop :=
 ∃ (it:Addr) (g:xC) (i:Nat->Heap->Prop) (J:It) (c:Hp),a=.ref it/\Inv X d j c e/\JY X.prog X.w X.K l J g it i/\i 0 e.heap/\(∀ b∈g,FpOk X d c b)/\R J c
def PI(X:Cx)(c iter:Expr)(d:TI):Prop :=
 ∀ (b:wA) (s:π) (a:St) (H:Hp) (R:It->Hp->Prop),Inv X b a H s->d a H R ->
  wpAny (model X.prog X.w) X.A (eval iter X.env) (λv e=>wpAny (model X.prog X.w) X.A (zn v) (WP X b a c R) X.xe e) X.xe s
def NF(b:s.heap.get? it=some o)(c:o.cls=.type n)(hd:o.data=.fields vs)
    (d:["enumerate","zip","dict_itemiterator","dict_reverseitemiterator","odict_iterator","itertools.zip_longest","itertools.pairwise"].contains n=false) (a:Q () s):wpAny M A (y_ e (.ref it) u) Q E s:=by
  cases e<;>first
    |exact ν a
    | (cases u<;>first
        |exact ν a
        | (refine δ (wpAny_load b ?_)
           rw[c,hd]
           show wpAny M A (if(["enumerate","zip","dict_itemiterator","dict_reverseitemiterator","odict_iterator","itertools.zip_longest","itertools.pairwise"].contains n&&vs[0]? == some _)=true then _ else _) Q E s;rw[if_neg (by intro h;rw[d]at h;cases h)];exact ν a))
def GH(K:W.Frag)(a:Addr):It :=
 {λi H=>∃ xs x,SqL K H a xs/\xs[i]? =some x,λi H x b=>b=H/\∀ xs,SqL K H a xs->xs[i]? =some x,λi H=>∃ xs,SqL K H a xs/\xs.length<=i}
def IY(K:W.Frag)(a:Addr):It :=
 {λi H=>∃ xs x,SqT K H a xs/\xs[i]? =some x,λi H x b=>b=H/\∀ xs,SqT K H a xs->xs[i]? =some x,λi H=>∃ xs,SqT K H a xs/\xs.length<=i}
def FN(lo:Int)(n:Nat):It:={λi _=>i<n,λi H x a=>a=H/\x=.int (lo+i),λi _=>n<=i}
def Sb{P:bv}{w:World}{K:W.Frag}{Q:Expr}(a it:Addr):JY P w K Q (GH K a) [it] it (λi h=>h.IsListIter it a i) where
 mem:=by simp
 obj:=λi h st b g=>by
  have e:b=it:=by simpa using g
  subst e;let[o,e,c,d]:=st;exact{o,e,λv z=>by rw[d]at z;cases z}
 keep:=λi h h' st k=>st.at λo e=>k it (by simp) o e
 item:=by
  intro X q r A N i T s O H E I hf st U;subst q r A;revert U;apply u2;intro xs x [l,n];let[Y,B,p,hz]:=I.list l;let[D,f1,f2,J,L,M]:=hf it (by simp);let[u,hu,ru]:=B.get n;refine wpAny_pyNext_list_item st p.isList  (by simpa using hu) λh' j sb=>?_
  have I1:Inv X _ O H { s with heap:=h' }:=I.turned  (λb o g e=>(sb.2 b g).trans e) D f1 J L M;let[o,e,c,d]:=id j;exact{u,rfl,NF  e c d (by decide) (x2 x H {I1,ru,{rfl,λys hy=>by rw[I.list_inj hy l];exact n},j,λb g=>(hf b g).1})}
 done:=by
  intro X q r A N i T s O H E I hf st [xs,l,n];subst q r A;let[Y,B,p,hz]:=I.list l;let[D,f1,f2,J,L,M]:=hf it (by simp);exact wpAny_pyNext_list_end (I.ok.hd N) st p.isList (by simp;exact B.length ▸ n) λh' eb=>{rfl,I.turned  (λb o g e=>eb b o g e) D f1 J L M}
 self:=λy y y y y st h=>wpAny_pyIter_listiter st h
def Sc{P:bv}{w:World}{K:W.Frag}{Q:Expr}(a it:Addr):JY P w K Q (IY K a) [it] it (λi h=>h.IsTupleIter it a i) where
 mem:=by simp
 obj:=λi h st b g=>by
  have e:b=it:=by simpa using g
  subst e;let[o,e,c,d]:=st;exact{o,e,λv z=>by rw[d]at z;cases z}
 keep:=λi h h' st k=>st.at λo e=>k it (by simp) o e
 item:=by
  intro X q r A N i T s O H E I hf st U;subst q r A;revert U;apply u2;intro xs x [l,n];let[Y,B,p,hz]:=I.tuple l;let[D,f1,f2,J,L,M]:=hf it (by simp);let[u,hu,ru]:=B.get n;refine wpAny_pyNext_tuple_item st (p)  (by simpa using hu) λh' j sb=>?_
  have I1:Inv X _ O H { s with heap:=h' }:=I.turned  (λb o g e=>(sb.2 b g).trans e) D f1 J L M;let[o,e,c,d]:=id j;exact{u,rfl,NF  e c d (by decide) (x2 x H {I1,ru,{rfl,λys hy=>by rw[I.tuple_inj hy l];exact n},j,λb g=>(hf b g).1})}
 done:=by
  intro X q r A N i T s O H E I hf st [xs,l,n];subst q r A;let[Y,B,p,hz]:=I.tuple l;let[D,f1,f2,J,L,M]:=hf it (by simp);exact wpAny_pyNext_tuple_end (I.ok.hd N) st (p) (by simp;exact B.length ▸ n) λh' eb=>{rfl,I.turned  (λb o g e=>eb b o g e) D f1 J L M}
 self:=λy y y y y st h=>wpAny_pyIter_tupleiter st h
def Sd{P:bv}{w:World}{K:W.Frag}{u:Expr}(it:Addr)(lo:Int)(n:Nat):JY P w K u (FN lo n) [it] it (λi h=>IsRangeIter h it (lo+(i:Nat) * 1) ((n:Int) - (i:Nat)) 1) where
 mem:=by simp
 obj:=λi h st b a=>by
  have e:b=it:=by simpa using a
  subst e;exact⟨_,st,λv z=>by
   cases z⟩
 keep:=λi h h' st k=>k it (by simp) _ st
 item:=by
  intro X x A B d i D s r H E I hf st g;let[j,f1,f2,l,p,q]:=hf it (by simp);refine(Walks.range   (I.ok.hd d) it lo 1 n).item i s _ _ g st λv h' tk J c L=>?_;let[t,rfl]:=J
  have M:Inv X _ r H { s with heap:=h',toks:=tk }:=I.turned (λb o a e=>L b o (by simpa using a) e) j f1 l p q;refine{_,rfl,NF   c rfl rfl (by decide) (x2 (.int _) H {M,{t,?_},⟨rfl,rfl⟩,c,λb a=>(hf b a).1})};rw[Int.mul_one]
 done:=by
  intro X x A B d i D s r H E I hf st g;let[j,f1,f2,l,p,q]:=hf it (by simp);exact wpAny_pyNext_range_end (I.ok.hd d) st (by have:n<=i:=g;lia) λh' N=>{rfl,I.turned  (λb o a e=>N b o a e) j f1 l p q}
 self:=λy y y y y st h=>wpAny_pyIter_rangeiter st h
section
variable{X:Cx}{tg:Expr}
def Sg{g:wA}{c:St}{H:Hp}{s:π}{R:It->Hp->Prop}{E:wB}{lo a:Int}{t u v:Tok}{tk:Nat}(I:Inv X g c H s)(h1: -(2^62)<=lo)(h2:lo<2^62)(h3: -(2^62)<=a)(h4:a<2^62)
  (q:R (FN lo (a-lo).toNat) H):wpAny (model X.prog X.w) X.A (zn<|.ref s.heap.objs.size) (WP X g c tg R) E { s with heap:=s.heap.push { cls:=.type "range",data:=.fields #[.int lo t,.int a u,.int 1 v] },toks:=tk }:=by
 refine wpAny_pyIter_range (IsRange.new ..) (small_one h1 h2 h3 h4) ?_
 have d:Inv X _ c H { s with heap:=s.heap.push { cls:=.type "range",data:=.fields #[.int lo t,.int a u,.int 1 v] },toks:=tk }:=I.kept λb o e=>ξ _ e;refine⟨_,_,_,_,H,rfl,
  d.kept  λb o e=>ξ _ e,Sd _ lo _,?_,λb i=>?_,q⟩
 have j:lo+((0:Nat))*1=lo:=by simp
 have l:(((a-lo).toNat))-((0:Nat))=Ke lo a 1:=by rw[rangeSize_one];split<;>omega
 rw[j,l];exact ai _ rfl
 have e:b=(s.heap.push { cls:=.type "range",data:=.fields #[.int lo t,.int a u,.int 1 v] }).objs.size:=by simpa using i
 subst e;exact d.fpOk (ο _) (d.hok.fresh<|ο _)
def SR(a:TA):TI:=λb H R=>a b H λvs c=>∃ j:Int,vs=[.int j]/\ -(2^62)<=j/\j<2^62/\R (FN 0 j.toNat) c
def Sh{a:Expr}{c:TA}{p pos:Pos}(d:Gl X "range")(e:X.mg "range"=none)(g:PA X [a] c)(hs:az [a] X.env=[(false,eval a X.env)]:=by rfl):PI X tg (.Call (.Name "range" p) [a] [] pos) (SR c):=by
 refine λu s i H R I h=>Call_<|O2 I d e boot_range<|jp (AR (g _ _ s i H _ I h) λus v b=>?_) hs rfl;let[vs,w,l,n,[j,rfl,q1,q2,q]]:=b;cases n with
 |cons r o =>
  cases o;let[t,rfl]:=r;exact call_range_1 (Sg l (by decide) (by decide) q1 q2 (by simpa using q))
def DG(j:TI)(g:TG)(l:TS):TS:=λD a H=>j a H λJ n=>∃ W:Nat->Nat->St->Hp->Prop,(∃ m,W 0 m a n)/\∀ i m a H,W i m a H ->
 (J.stop i H/\D.nx a H)\/(J.go i H/\∃ N:St->Hp->Prop,(∀ b c,N b c->∃ e,e<m/\W (i+1) e b c)/\∀ x c,J.yld i H x c->g x a c λd o=>l { D with nx:=N,ct:=N,bk:=D.nx } d o)
def O5(a:xC)(h:Heap):wA:=a.filterMap λb=>(h.get? b).map λo=>(b,o)
def NG(a:b∈c)(e:h.get? b=some o):(b,o)∈O5 c h:=jc.mpr {b,a,by rw[e];rfl}
def Sj(a:p∈O5 c h):p.1∈c/\h.get? p.1=some p.2:=by
 let[b,d,e]:=jc.mp a;cases q:h.get? b with
 |none=>rw[q]at e;cases e
 |some o =>
  rw[q]at e
  have g:=μ e;subst g;exact⟨d,q⟩
def Inv.pinned(I:Inv X a j H s)(hf:∀ b∈c,FpOk X a H b)(l:∀ b∈c,∃ o,s.heap.get? b=some o/\∀ v,o.data≠.cell v):Inv X (a++O5 c s.heap) j H s :=
 I.pins_of λp n=>(bd.mp n).elim (λz=>I.pin p<|bt _ z) λz=>by
  let[g,e]:=Sj z;let[q,f1,f2,y]:=hf _ g;let[o,i,d]:=l _ g;rw[e]at i;obtain rfl:=μ i;exact⟨e,q,f1,f2,d⟩
def Inv.unpinned(I:Inv X (a++d) b H s):Inv X a b H s:=I.pins_of λp c=>I.pin p<|bt _<|jg _ c
def Sk(E:F_ (model X.prog X.w) X.A X.env X.xe)(hc:X.calm=true)(hi:PI X tg iter wi)(hg:PG X tg g)(c:FC X body tb)
  (hs:∀ x,ki iter X.env x=pure x:=by intro z;rfl):PS X (.For tg iter body [] pos) (DG wi g tb):=by
 refine λAA s σ H D I h=>wpAny_For (AR (hi _ s σ H _ I h) λv s1 h1=>AR h1 λitv s2 h2=>?_) hs;revert h2;apply u5;intro it U tn J H2 [rfl,I2,T,st2,f2,W,[m0,w0],L]
 have j:∀ {y:Hp},(∀ b∈U,y b=none)->∀ b∈U,FpOk X _ y b:=λhn b c=>{hn b c,(f2 b c).2}
 refine As (λn s'=>∃ i l y,Inv X _ l y s'/\tn i s'.heap/\(∀ b∈U,y b=none)/\W i n l y) ?_ m0 (x3 0 σ H2 {I2,st2,λb c=>(f2 b c).1,w0});intro n s3 [i,σ3,Y,I3,M,O,w3];let[stop,qn]||[go,N,hN,step]:=L i n _ Y w3
 refine fm E<|AR (T.done X rfl rfl rfl hc i _ s3 _ Y _ I3 (j O) M stop) λr s4 p=>?_;let[rfl,I4]:=p;exact my<|x2 _ Y ⟨I4,qn⟩;refine fm E<|AR (T.item X rfl rfl rfl hc i _ s3 _ Y _ I3 (j O) M go) λr s4 p=>?_;let[u,rfl,h4]:=p;refine fm E<|AR h4 λz s5 p=>?_;let[x,H5,I5,r5,y5,B,fr5]:=p;refine fm E<|AR (hg _ s5 _ H5 x u _ (I5.pinned (j fr5) (T.obj _ _ B)) r5 (step x H5 y5)) λz s6 ⟨σ6,H6,I6,q6⟩=>(fm E<|AR (c _ s6 _ H6 _ I6 q6) λf s7 A=>?_)
 have again:∀ {a:St} {q:Hp},Inv X _ _ q s7->N _ q->∃ m,m<n/\∃ i l y,Inv X AA l y s7/\tn i _/\(∀ b∈U,y b=none)/\W i m l y:=λ{a q} w Q=>by
  let[m',hm,w7]:=hN _ q Q;refine{m',hm,x3 _ a q {w.unpinned,T.keep _ _ _ B λb c o e=>(w.pin _<|bt _<|bt _<|NG c e).1,λb c=>?_,w7}};let[o,e,d]:=T.obj _ _ B b c;exact(w.pin _<|bt _<|bt _<|NG c e).2.1
 cases f with
 |next=>revert A;apply u2;intro a q [w,Q];exact again w Q
 |cont=>revert A;apply u2;intro a q [w,Q];exact again w Q
 |brk=>revert A;apply u2;intro a q [w,A];exact x2 _ q ⟨w.unpinned,A⟩
 |ret v=>revert A;apply u3;intro x7 a q [w,r7,A];exact x3 x7 _ q ⟨w.unpinned,r7,A⟩
end
abbrev _root_.yA:=Nat->St->Hp->Prop
def Sl{K:PySem.W.Frag}{a:Addr}{xs:vE}{g:TG}{n:TS}{D:Ends}{b:St}{H:Hp}(Pv:yA)(h0:Pv 0 b H)(s:∀ i b H,i<=xs.length->Pv i b H->SqL K H a xs)
  (hs:∀ i x b H,xs[i]? =some x->Pv i b H->g x b H λc l=>n { D with nx:=Pv<|i+1,ct:=Pv<|i+1,bk:=D.nx } c l) (hd:∀ b H,Pv xs.length b H->D.nx b H) :
  ∃ W:Nat->Nat->St->Hp->Prop,(∃ m,W 0 m b H)/\∀ i m b H,W i m b H ->
   ((GH K a).stop i H/\D.nx b H)\/((GH K a).go i H/\∃ N:St->Hp->Prop,(∀ d j,N d j->∃ o,o<m/\W (i+1) o d j)/\∀ x j,(GH K a).yld i H x j->g x b j λc l=>n { D with nx:=N,ct:=N,bk:=D.nx } c l):=by
 refine{λi m b H=>m=xs.length-i/\i<=xs.length/\Pv i b H,{xs.length,rfl,bg _,h0},?_};intro i m b H [rfl,u,p]
 have q:=s i b H u p;by_cases r:i<xs.length;refine .inr {x2 xs (xs[i]) {q,by simp[r]},_,λd j v=>{_,cq ‹_›,rfl,r,v},λx j y=>?_};let[rfl,y]:=y;exact hs i x b _ (y xs q) p
 have e:i=xs.length:=by lia
 subst e;exact .inl {{xs,q,ο _},hd b H p}
def Sm{K:PySem.W.Frag}{a:Addr}{xs:vE}{g:TG}{n:TS}{D:Ends}{b:St}{H:Hp}(Pv:yA)(h0:Pv 0 b H)(s:∀ i b H,i<=xs.length->Pv i b H->SqT K H a xs)
  (hs:∀ i x b H,xs[i]? =some x->Pv i b H->g x b H λc l=>n { D with nx:=Pv<|i+1,ct:=Pv<|i+1,bk:=D.nx } c l) (hd:∀ b H,Pv xs.length b H->D.nx b H) :
  ∃ W:Nat->Nat->St->Hp->Prop,(∃ m,W 0 m b H)/\∀ i m b H,W i m b H ->
   ((IY K a).stop i H/\D.nx b H)\/((IY K a).go i H/\∃ N:St->Hp->Prop,(∀ d j,N d j->∃ o,o<m/\W (i+1) o d j)/\∀ x j,(IY K a).yld i H x j->g x b j λc l=>n { D with nx:=N,ct:=N,bk:=D.nx } c l):=by
 refine{λi m b H=>m=xs.length-i/\i<=xs.length/\Pv i b H,{xs.length,rfl,bg _,h0},?_};intro i m b H [rfl,u,p]
 have q:=s i b H u p;by_cases r:i<xs.length;refine .inr {x2 xs (xs[i]) {q,by simp[r]},_,λd j v=>{_,by omega,rfl,r,v},λx j y=>?_};let[rfl,y]:=y;exact hs i x b _ (y xs q) p
 have e:i=xs.length:=by lia
 subst e;exact .inl {{xs,q,ο _},hd b H p}
def Sq{lo:Int}{n:Nat}{g:TG}{o:TS}{D:Ends}{a:St}{H:Hp}(Pv:yA)(h0:Pv 0 a H)
  (hs:∀ i a H,i<n->Pv i a H->g (.int<|lo+i) a H λb j=>o { D with nx:=Pv<|i+1,ct:=Pv<|i+1,bk:=D.nx } b j) (hd:∀ a H,Pv n a H->D.nx a H) :
  ∃ W:Nat->Nat->St->Hp->Prop,(∃ m,W 0 m a H)/\∀ i m a H,W i m a H ->
   ((FN lo n).stop i H/\D.nx a H)\/((FN lo n).go i H/\∃ N:St->Hp->Prop,(∀ c d,N c d->∃ q,q<m/\W (i+1) q c d)/\∀ x d,(FN lo n).yld i H x d->g x a d λb j=>o { D with nx:=N,ct:=N,bk:=D.nx } b j):=by
 refine{λi m a H=>m=n-i/\i<=n/\Pv i a H,{n,rfl,bg _,h0},?_};intro i m a H [rfl,s,p];by_cases l:i<n;refine .inr {l,_,λc d r=>{_,cq ‹_›,rfl,l,r},λx d y=>?_};let[e,y]:=y;subst e y;exact hs i a _ l p
 have e:i=n:=by lia
 subst e;exact .inl {ο _,hd a H p}
abbrev R2:=V->V->Hp->VK->Prop
abbrev _root_.cA:=Value->Value->Sem Value
def CF(X:Cx)(f:cA)(r:R2):Prop :=
 ∀ (a:wA) (s:π) (b:St) (H:Hp) (x y:V) (v u:Value) (Q:VK),Inv X a b H s->RelV x v->RelV y u->r x y H Q ->
  wpAny (model X.prog X.w) X.A (f v u) (EP X a b Q) X.xe s
def SS(X:Cx)(f:Value->Sem Value)(r:V->Hp->VK->Prop):Prop :=
 ∀ (a:wA) (s:π) (b:St) (H:Hp) (x:V) (v:Value) (Q:VK),Inv X a b H s->RelV x v->r x H Q ->
  wpAny (model X.prog X.w) X.A (f v) (EP X a b Q) X.xe s
def EN(X:Cx)(f:Value)(r:vE->Hp->VK->Prop):Prop :=
 ∀ (a:wA) (s:π) (b:St) (H:Hp) (xs:vE) (us:vC) (Q:VK),Inv X a b H s->Vals xs us->r xs H Q ->
  wpAny (model X.prog X.w) X.A (call f us) (EP X a b Q) X.xe s
def Sv(X:Cx)(r:V->Hp->(Bool->Hp->Prop)->Prop):Prop :=
 ∀ (a:wA) (s:π) (b:St) (H:Hp) (x:V) (v:Value) (Q:xB),Inv X a b H s->RelV x v->r x H Q ->
  wpAny (model X.prog X.w) X.A (truthy v) (TP X a b Q) X.xe s
def AD(r:R2)(b c:TE):TE:=λa H Q=>b a H λx d=>c a d λy e=>r x y e Q
def NH(r:V->Hp->VK->Prop)(a:TE):TE:=λb H Q=>a b H λx c=>r x c Q
def rI(C:Int->Int->Prop)(g:Int->Int->V):R2:=λx y H Q=>∃ i j,x=.int i/\y=.int j/\C i j/\Q (g i j) H
def JZ(g:Int->Int->V):R2:=λx y H Q=>∃ i j,x=.int i/\y=.int j/\Q (g i j) H
def rU(g:Int->V):V->Hp->VK->Prop:=λx H Q=>∃ i,x=.int i/\Q (g i) H
section
variable{X:Cx}{a b c:Expr}{ta tb tc:TE}{pos:Pos}
def WQ(n:PE X a ta)(o:PE X b tb){R:V->V->Hp->Prop}(I:Inv X p e H s)
  (h:ta e H λx l=>tb e l λy d=>R x y d) {Q:wB} {f:cA}
  (hf:∀ v u j x y d,Inv X p e d j->RelV x v->RelV y u->R x y d->wpAny (model X.prog X.w) X.A (f v u) Q X.xe j) :
  wpAny (model X.prog X.w) X.A (eval a X.env) (λv g=>wpAny (model X.prog X.w) X.A (eval b X.env) (λu i=>wpAny (model X.prog X.w) X.A (f v u) Q X.xe i) X.xe g) X.xe s:=AR (n _ s e H _ I h) λv q ⟨x,l,r,w,q1⟩=>(AR (o _ q e l _ r q1) λu j ⟨y,d,z,A,q2⟩=>(hf v u j x y d z w A q2))
def O6{r:R2}(d:CF X (iz op) r)(e:PE X a ta)(g:PE X b tb):PE X (.BinOp a op b pos) (AD r ta tb):=λw s i H Q I h=>wpAny_BinOp<|WQ e g I h λv u j x y l n o p q=>d _ j i l x y v u Q n o p q
def Sw(e:SS X (unaryOp op) r)(g:PE X a ta):PE X (.UnaryOp op a pos) (NH r ta):=λo s d H Q I h=>UnaryOp_ (AR (g _ s d H _ I h) (by intro v i [x,j,l,n,q1];exact e _ i d j x v Q l n q1))
def WR{f:cA}{C:Int->Int->Prop}{g:Int->Int->Int}
  (rule:∀ (i j:Int) (t u:Tok) (s:π) (Q:wB) (E:wB),C i j->Q (.int (g i j) s.toks) { s with toks:=s.toks+1 }->wpAny (model X.prog X.w) X.A (f (.int i t) (.int j u)) Q E s) :
  CF X f (rI C λi j=>.int<|g i j):=by
 intro n s o H x y v u Q I d e h;revert h;apply u2;intro i j [rfl,rfl,l,q];let[t,rfl]:=d;let[t',rfl]:=e;exact rule i j t t' s _ _ l<|x2 (.int _) H {I.tok _,⟨_,rfl⟩,q}
def mQ{f:cA}{g:Int->Int->Int}
  (rule:∀ (i j:Int) (t u:Tok) (s:π) (Q:wB) (E:wB),Q (.int (g i j) s.toks) { s with toks:=s.toks+1 }->wpAny (model X.prog X.w) X.A (f (.int i t) (.int j u)) Q E s) :
  CF X f (JZ λi j=>.int<|g i j):=by
 intro l s n H x y v u Q I d e h;revert h;apply u2;intro i j [rfl,rfl,q];let[t,rfl]:=d;let[t',rfl]:=e;exact rule i j t t' s _ _<|x2 (.int _) H {I.tok _,⟨_,rfl⟩,q}
def WS{f:cA}{g:Int->wC}
  (rule:∀ (i j:Int) (t u:Tok) (s:π) (Q:wB) (E:wB),Q (.bool<|g i j) s->wpAny (model X.prog X.w) X.A (f (.int i t) (.int j u)) Q E s) :
  CF X f (JZ λi j=>.bl<|g i j):=by
 intro l s n H x y v u Q I d e h;revert h;apply u2;intro i j [rfl,rfl,q];let[t,rfl]:=d;let[t',rfl]:=e;exact rule i j t t' s _ _<|x2 (.bl _) H ⟨I,rfl,q⟩
def mR(i j:Int):Prop:=0<j/\j<1073741824
def Sx(i j:Int):Prop:=0<=j/\j<=1000000/\i.natAbs<2^64
def CMul(i j:Int):Prop:=(-(2^64)<i/\i<2^64)\/(-(2^64)<j/\j<2^64)
def CMul.ok(h:CMul i j):IntMulOk i j:=by
 let[h1,h2]||[h1,h2]:=h
 exact .of_left<|intBits_le_64 h1 h2;exact .of_right<|intBits_le_64 h1 h2
def Sy:CF X (iz .Add) (JZ λi j=>.int<|i+j):=mQ λz z z z z z z q=>add_int q
def Sz:CF X (iz .Sub) (JZ λi j=>.int<|i-j):=mQ λz z z z z z z q=>sub_int q
def Tb:CF X (iz .Mult) (rI CMul λi j=>.int<|i*j):=WR λz z z z z z z d q=>mul_int q d.ok
def Tc:CF X (iz .FloorDiv) (rI mR λi j=>.int<|i/j):=WR λi j z z z z z d q=>by
 have h1:=d.1
 have h2:=d.2;exact floordiv_int (by omega) (by rw[Int.fdiv_eq_ediv_of_nonneg i (Cu ‹_›)];exact q) (.inl (PyProof.noPylong_small (by omega)))
def Td:CF X (iz .Mod) (rI (λ_ j=>0<j) λi j=>.int<|i%j):=WR λi j z z z z z d q=>mod_int' (by lia) (by rw[Int.fmod_eq_emod_of_nonneg i (Cu ‹_›)];exact q)
def Tg{f:Value->Sem Value}{g:Int->Int}
  (rule:∀ (i:Int) (t:Tok) (s:π) (Q:wB) (E:wB),Q (.int (g i) s.toks) { s with toks:=s.toks+1 }->wpAny (model X.prog X.w) X.A (f<|.int i t) Q E s) :
  SS X f (rU λi=>.int<|g i):=by
 intro e s j H x v Q I d [i,rfl,q];let[t,rfl]:=d;exact rule i t s _ _<|x2 (.int _) H {I.tok _,⟨_,rfl⟩,q}
def Th:SS X (unaryOp .USub) (rU λi=>.int (-i)):=Tg λz z z z z q=>neg_int q
end
section
variable{X:Cx}{a b c:Expr}{ta tb tc:TE}{pos:Pos}
def GI(I:Inv X d g H s)(q:Q (.bl k) H)(e:k=i):EP X d g Q (.bool i) s:=by
 subst e;exact x2 (.bl k) H ⟨I,rfl,q⟩
def Tj:CF X (d_ .Lt) (JZ λi j=>.bl<|decide<|i<j):=WS λz z z z z z z q=>lt_int q
def Tk:CF X (d_ .LtE) (JZ λi j=>.bl<|decide<|i<=j):=WS λz z z z z z z q=>le_int q
def Tl:CF X (d_ .Gt) (JZ λi j=>.bl<|decide<|j<i):=WS λz z z z z z z q=>gt_int q
def Tm:CF X (d_ .Is) (λx y H Q=>y=.non/\Q (.bl<|decide<|x=.non) H):=by
 intro g s i H x y v u Q I d e [rfl,q];subst e;refine is_none_gen<|GI I q ?_;cases x<;>first
  |(rfl)
  |(let[t,rfl]:=d;rfl)
def Tp:CF X (d_ .IsNot) (λx y H Q=>y=.non/\Q (.bl<|!decide (x=.non)) H):=by
 intro g s i H x y v u Q I d e [rfl,q];subst e;refine isnot_none_gen<|GI I q ?_;cases x<;>first
  |(rfl)
  |(let[t,rfl]:=d;rfl)
def KZ(b:Expr)(h:op≠.In:=by decide)(h2:op≠.NotIn:=by decide):nq op b=false:=by
 have d:(op==CmpOp.In)=false:=by cases op<;>first|rfl|exact absurd rfl h
 have e:(op==Le)=false:=by cases op<;>first|rfl|exact absurd rfl h2
 cases b<;>simp[nq,d,e]
def mS{r:R2}(d:CF X (d_ op) r)(e:PE X a ta)(g:PE X b tb)(i:nq op b=false):PE X (.Compare a [op] [b] pos) (AD r ta tb):=λz s j H Q I h=>wpAny_Compare1 (WQ e g I h λv u l x y n o p w q=>d _ l j n x y v u Q o p w q) i
def MB(t:TE):TT:=λd H Q=>t d H λx e=>∃ k,x=.bl k/\Q k e
def K0(i:CF X (d_ op) r)(j:PE X a ta)(l:PE X b tb)(n:nq op b=false):PT X (.Compare a [op] [b] pos) (MB<|AD r ta tb):=by
 intro N s d H Q I h;refine zh (AR (j _ s d H _ I h) λv o ⟨x,p,q,w,q1⟩=>AR (l _ o d p _ q q1) λu A ⟨y,B,D,E,q2⟩ =>
  AR (i _ A d B x y v u _ D w E q2) λc O g=>?_) n
 let[z,J,L,M,k,e,q3]:=g;subst e;subst M;exact ig ⟨J,L,q3⟩
def MC(r g:R2)(ta tb tc:TE):TE:=λd H Q=>ta d H λx i=>tb d i λy j=>r x y j λz e=>∃ k,z=.bl k /\
 (if k=true then tc d e λl n=>g y l n Q else Q (.bl false) e)
def Tq(q:CF X (d_ op) r)(j:CF X (d_ g) w)(A:PE X a ta)(B:PE X b tb)(D:PE X c tc)
  (E:lastMarks [op,g] [b,c]=false:=by with_unfolding_all rfl):PE X (.Compare a [op,g] [b,c] pos) (MC r w ta tb tc):=by
 intro AA s i H Q I h;refine Compare_chain (AR (A _ s i H _ I h) λv J ⟨x,L,M,N,q1⟩=>chain_link (AR (B _ J i L _ M q1) λu O ⟨y,T,U,n,q2⟩ =>
  AR (q _ O i T x y v u _ U N n q2) λd Y l=>?_)) E
 let[z,o,p,r3,k,e,q3]:=l;subst e;subst r3;refine ig ?_;cases k with
 |false=>exact ite_ff<|x2 (.bl _) o ⟨p,rfl,q3⟩
 |true=>exact ite_tt (chain_last (AR (D _ Y i o _ p q3) (by intro w' s4 [z',H4,I4,r4,q4];exact j _ s4 i H4 y z' u w' Q I4 n r4 q4)))
def mT(q:CF X (d_ op) r)(l:CF X (d_ i) w)(A:PE X a ta)(B:PE X b tb)(D:PE X c tc)
  (E:lastMarks [op,i] [b,c]=false:=by with_unfolding_all rfl):PT X (.Compare a [op,i] [b,c] pos) (MB<|MC r w ta tb tc):=by
 intro AA s j H Q I h;refine isTrue_chain (AR (A _ s j H _ I h) λv J ⟨x,L,M,N,q1⟩=>test_link (AR (B _ J j L _ M q1) λu O ⟨y,T,U,n,q2⟩ =>
  AR (q _ O j T x y v u _ U N n q2) λd Y g=>?_)) E
 let[z,o,p,r3,k,e,q3]:=g;subst e;subst r3;refine ig ?_;cases k with
 |false =>
  let[k',e',q']:=q3;cases e';exact ite_ff ⟨o,p,q'⟩
 |true =>
  refine ite_tt<|test_last<|AR (D _ Y j o _ p q3) λw' s4 ⟨z',H4,I4,r4,q4⟩=>AR (l _ s4 j H4 y z' u w' _ I4 n r4 q4) λd' s5 g=>?_;let[z2,H5,I5,r5,k2,rfl,q5]:=g;subst r5;exact ig ⟨H5,I5,q5⟩
def K1(K:W.Frag)(x:V)(H:Hp)(k:Bool):Prop :=
 match x with
 |.non=>k=false
 |.bl b=>k=b
 |.int i=>k=(i != 0)
 |.str y=>y.length<=sizeLine/\k=((y.length:Int) != 0)
 |.byt y=>y.size<=sizeLine/\k=((y.size:Int) != 0)
 |.ref p=>(∃ xs,SqL K H p xs/\k= !xs.isEmpty)\/(∃ xs,SqT K H p xs/\k= !xs.isEmpty)\/∃ kvs,H p=some (.dK kvs)/\k= !kvs.isEmpty
 |_=>False
def Tv{d :Type}{kvs:List (d × V)}{vs:List (d × Value)}(r:KV kvs vs):(!vs.isEmpty)= !kvs.isEmpty:=by
 cases r<;>rfl
def mU{xs:vE}{d:vC}(r:Vals xs d):(!d.toArray.isEmpty)= !xs.isEmpty:=by
 cases r<;>simp
def O7:(sizeLine:Nat)<2^63:=by decide
def Tw:Sv X (λx H Q=>∃ k,K1 X.K x H k/\Q k H):=by
 have hs:=fi;intro z s A H x v Q I g [k,e,q];cases x with
 |non =>
  subst e;subst g;exact truthy_none ⟨H,I,q⟩
 |bl b =>
  subst g;subst e;exact ig ⟨H,I,q⟩
 |int i =>
  let[t,rfl]:=g;subst e;exact PySem.P.truthy_int ⟨H,I,q⟩
 |str y =>
  let[t,rfl]:=g;obtain⟨n,d⟩:y.length<=sizeLine/\k=((y.length:Int) != 0):=e;subst d;exact PySem.P.truthy_str (by omega) {H,I.tok _,q}
 |byt y =>
  let[t,rfl]:=g;obtain⟨n,d⟩:y.size<=sizeLine/\k=((y.size:Int) != 0):=e;subst d;exact W.truthy_bytes (oA n rfl) {H,I.tok _,q}
 |ref p =>
  cases g
  have d:(∃ xs,SqL X.K H p xs/\k= !xs.isEmpty)\/(∃ xs,SqT X.K H p xs/\k= !xs.isEmpty)\/∃ kvs,H p=some (.dK kvs)/\k= !kvs.isEmpty:=e;let[xs,j,d]||[xs,j,d]||[kvs,j,d]:=d
  ·subst d;let[u,r,l,hz]:=I.list j
   have o:=r.length;exact wpAny_truthy_list l.isList (by simp only[ax];omega) {H,I.tok _,by rw[mU r];exact q}
  ·subst d;let[u,r,l,hz]:=I.tuple j
   have o:=r.length;exact truthy_tuple l (by simp only[ax];omega) {H,I.tok _,by rw[mU r];exact q}
  ·subst d;obtain⟨hz,w,vs,r,m⟩:kvs.length<=sizeLine/\(p==gb)=false/\∃ vs,KV kvs vs/\s.heap.DictOf (EE X.prog X.w) p vs:=I.hok p _ j
   have o:kvs.length=vs.length:=Paired.length r;exact wpAny_truthy_dict w m (by omega) {H,I.tok _,by rw[Tv r];exact q}
 |_=>exact(show False from e).elim
def Tx(g:PE X a ta)(he:∀ whole,Ks a X.env whole=(do let v ← whole;ym a.pos;t_ [v] (truthy v))) :
  PT X a (λd H Q=>ta d H λx e=>∃ k,K1 X.K x e k/\Q k e):=λo s d H Q I h=>isTrue_plain (AR (g _ s d H _ I h) (by intro v i [x,j,l,n,q1];exact Tw _ i d j x v Q l n q1)) (he _)
def Ty:CF X (iz .Add) (λx y H Q=>∃ i j,x=.str i/\y=.str j/\i.length+j.length<=sizeLine/\Q (.str<|i++j) H):=by
 intro g s l H x y v u Q I d e h;revert h;apply u2;intro i j [rfl,rfl,hz,q];let[t,rfl]:=d;let[t',rfl]:=e;exact add_str (λt' tk=>x2 (.str _) H {I.tok _,⟨_,rfl⟩,q}) hz
def G0(r:Vals [x] us):∃ u,us=[u]/\RelV x u:=by
 cases r with
 |cons d e=>cases e;exact⟨_,rfl,d⟩
def Tz(r:Vals [x,y] us):∃ u d,us=[u,d]/\RelV x u/\RelV y d:=by
 cases r with
 |cons e g =>
  cases g with
  |cons i j=>cases j;exact y2 ⟨rfl,e,i⟩
def Ub:EN X (.builtin "ord") (λxs H Q=>∃ x,xs=[.str x]/\x.length=1/\Q (.int (x.cps.getD 0 0:Nat)) H):=by
 intro d s e H xs us Q I r [x,rfl,hz,q];let[u,rfl,t,rfl]:=G0 r;exact ord_of_one hz<|x2 (.int _) H {I.tok _,⟨_,rfl⟩,q}
def ST(K:W.Frag)(x:V)(H:Hp)(n:Nat):Prop :=
 match x with
 |.str y=>y.length<=sizeLine/\n=y.length
 |.byt y=>y.size<=sizeLine/\n=y.size
 |.ref p=>(∃ xs,SqL K H p xs/\n=xs.length)\/∃ xs,SqT K H p xs/\n=xs.length
 |_=>False
def Uc:EN X (.builtin "len") (λxs H Q=>∃ x n,xs=[x]/\ST X.K x H n/\Q (.int n) H):=by
 intro z s A H xs us Q I r h;revert h;apply u2;intro x n [rfl,e,q];let[u,rfl,g]:=G0 r
 have hs:=fi;cases x with
 |str y =>
  let[t,rfl]:=g;obtain⟨v,rfl⟩:y.length<=sizeLine/\n=y.length:=e;exact len_str (by omega) (x2 (.int _) H {I.tok _,⟨_,rfl⟩,q})
 |byt y =>
  let[t,rfl]:=g;obtain⟨v,rfl⟩:y.size<=sizeLine/\n=y.size:=e;exact W.len_bytes (oA v rfl) (x2 (.int _) H {I.tok _,⟨_,rfl⟩,q})
 |ref p =>
  subst g
  have d:=e;let[xs,i,d]||[xs,i,d]:=d
  subst d;let[w,j,l,hz]:=I.list i
  have o:=j.length;exact Calls.call_len_list l.isList (by simp only[ax];omega) (x2 (.int _) H {I.tok _,{_,by simp only[ax];rw[o]},q});subst d;let[w,j,l,hz]:=I.tuple i
  have o:=j.length;exact len_tuple l (by simp only[ax];omega) (x2 (.int _) H {I.tok _,{_,by simp only[ax];rw[o]},q})
 |_=>exact(e).elim
end
structure ObjM(h:Heap)(x dx C:Addr)(mA:xA):Prop where
 obj:h.get? x=some (W.instObj C dx)
 ns:h.Ns1 dx mA
 ne:dx≠x
set_option tactic.hygienic true in
def Ud{h:Heap}{c:xA}(n:h.Ns1 g c):∃ d,h.get? g=some d/\∀ name,W.lookIn name d=some (c name):=by
 revert n;apply u3;intro o i s [j,hd,l,_,p];refine{o,j,λname=>?_}
 have e:=p name;unfold nsFind findBy at e;rw[<-Array.find?_toList]at e;unfold W.lookIn;rw[hd];dsimp only;split
 ·rename_i y q;rw[q]at e;exact congrArg some e
 ·rename_i q;rw[q]at e
  have a:i.toList.any (·.refKey)=false:=by
   rw[xc];refine λy r=>u2 ?_<|l y<|zo.mp r;rintro z t b;simp[DictEntry.refKey,b]
  rw[if_neg (by rw[a];exact ay)];exact congrArg some e
def ObjM.look(I:ObjM h x b C c):∃ a,W.InstAt h x (W.instObj C b) C (some a)/\∀ name,W.lookIn name a=some (c name) :=
 let ⟨a,d,e⟩:=Ud I.ns
 {a,⟨I.obj,rfl,rfl,d⟩,e}
section
variable{prog:bv}{w:World}{A:df}{E:wB}{s:π}{K:W.Frag}{x dx C f:Addr}{mA:xA}{name:Str}{v:Value}
def Ug(X:K.In s.heap)(I:ObjM s.heap x dx C mA)(b:W.plainGet K C name=true)(c:W.hasDictIn K C=true)
  (d:W.findIn K (.ref C) name=some none) (e:mA name=some v) (a:W.handedIn v=true) (h:Q v { s with toks:=s.toks+1 }) :
  wpAny (model prog w) A (getAttr (.ref x) name expr) Q E s:=by
 let[i,J,g]:=I.look;exact W.get_value X J (W.plainGet_of b).1 (W.findObj_own c d rfl (by rw[g,e])) a h
def Uh(X:K.In s.heap)(I:ObjM s.heap x dx C mA)(a:W.plainGet K C name=true)
  (hf:W.findIn K (.ref C) name=some (some<|.ref f)) (b:W.isFn K (.ref f)=true) (c:mA name=none) (h:Q (.ref f,[.ref x]) s) :
  wpAny (model prog w) A (uo (.ref x) name g) Q E s:=by
 let[d,J,e]:=I.look;exact W.method_fn X J (W.plainGet_of a).1 (W.plainGet_of a).2 hf (beq_iff_eq.mp b) (by show(W.lookIn _ d).map _=some _;rw[e,c];rfl) h
def Uj(X:K.In s.heap)(I:ObjM s.heap x dx C mA)
  (hs:W.findIn K (.ref C) "__setattr__"=some (some<|.builtin "object.__setattr__")) (j:W.plainOver K C=true) (l:W.takerIn K C name=some none) (n:W.hasDictIn K C=true)
  (o:PySem.Within mA ns) (hsz:ns.length<=sizeLine)
  (h:∀ h',ObjM h' x dx C (λy=>if y=name then some v else mA y)->gj dx s.heap h'->Q () { s with heap:=h',toks:=s.toks+2 }) :
  wpAny (model prog w) A (setAttr (.ref x) name v) Q E s:=by
 let[u,J,z]:=I.look;let[B,p,d]:=W.any_some n;refine W.set_plain X J hs<|W.osa_open   X J j l λb=>(δ<|ν<|δ<|δ<|wpAny_loadPart I.obj<|δ<|W.Looks.here  (W.looks_clsIn X p) ?_);rw[d];refine ν  (δ<|ν<|δ<|wpAny_nsSet1  I.ns λh' a c=>(u3 ?_<|a.count<|PySem.Within.cons _ v o));intro oD q r [e,g,i];exact δ (wpAny_lookBehind e (by rw[g];exact pastItsLine_dict<|χ i<|xf hsz) (ν<|h _ {(c.2 _<|fk I.ne).trans I.obj,a,I.ne} c))
def Uk(X:K.In s.heap)(b:W.makesIn K C=true)
  (c:W.findIn K (.ref C) "__init__"=some (some<|.ref f)) (hf:W.typeIn K (.ref f)=some (.type "function"))
  (h:uy (model prog w) (A.under<|.builtin "type.__call__" {.ref C::vs,a}) (.call (.ref f) {.ref (s.heap.objs.size+1)::vs,a}) (W.InitBack (s.heap.objs.size+1) R)
   { s with heap:=(s.heap.push W.emptyDict).push (W.instObj C s.heap.objs.size) }) :
  uy (model prog w) A (.call (.ref C) ⟨vs,a⟩) R s:=W.make_core (W.makes_of X b) (W.looks_findIn X c) (λself=>W.bind_fn X _ hf) (.inl rfl) h
end
def BS(f:Str)(v:V):vB->vB
 | []=>[(f,v)]
 |(g,x)::r=>if g=f then(g,v)::r else(g,x)::BS f v r
theorem mV(f g:Str)(v:V):∀ fs:vB,(BS f v fs).lookup g=if g=f then some v else fs.lookup g
 | []=>by
  show gu g [(f,v)]=_;by_cases h:g=f;simp only[gu,(beq_iff_eq.mpr h),if_pos h];simp only[gu,(beq_eq_false_iff_ne.mpr h),if_neg h]
 |(k,x)::r=>by
  rw[show BS f v _=(if k=f then(k,v)::r else(k,x)::BS f v r)from rfl];by_cases a:k=f;rw[if_pos a];by_cases h:g=k;simp only[gu,(beq_iff_eq.mpr h),if_pos<|h.trans a];simp only[gu,(beq_eq_false_iff_ne.mpr h),if_neg (λe:g=f=>h<|e.trans a.symm)];rw[if_neg a];by_cases h:g=k;simp only[gu,(beq_iff_eq.mpr h),if_neg (λe:g=f=>a<|h.symm.trans e)];simp only[gu,(beq_eq_false_iff_ne.mpr h)];exact(mV f g v r)
theorem WT(f:Str)(v:V):∀ fs:vB,f∈(BS f v fs).map (·.1)/\∀ g,g∈fs.map (·.1)->g∈(BS f v fs).map (·.1)
 | []=>{by simp[BS],λg h=>by simp at h}
 |(k,x)::r=>by
  let[b,c]:=WT f v r;rw[show BS f v _=(if k=f then(k,v)::r else(k,x)::BS f v r)from rfl];by_cases a:k=f;subst a;exact{by simp,λg h=>by simpa using h};rw[if_neg a];refine{(ρ _ b),λg h=>?_};let e||e:=aj.mp h
  exact aj.mpr<|.inl e;exact ρ _<|c g e
theorem O8(f:Str)(v:V):∀ fs:vB,(BS f v fs).length<=fs.length+1
 | []=>by simp[BS]
 |(k,x)::r=>by
  rw[show BS f v _=(if k=f then(k,v)::r else(k,x)::BS f v r)from rfl];by_cases a:k=f;rw[if_pos a];exact jr _;rw[if_neg a];exact xf<|O8 f v r
def RelO.some_of(r:RelO (some v) o):∃ u,o=some u/\RelV v u:=by
 cases o with
 |none=>exact(r).elim
 |some u=>exact⟨u,rfl,r⟩
def RelO.none_of(r:RelO none o):o=none:=by
 cases o with
 |none=>rfl
 |some u=>exact(r).elim
def Ul(r:RelV v u):W.handedIn u=true:=by
 cases v with
 |non=>cases (r);rfl
 |bl b=>cases (r);rfl
 |int i=>let[t,rfl]:=(r);rfl
 |str x=>let[t,rfl]:=(r);rfl
 |byt b=>let[t,rfl]:=(r);rfl
 |flt b=>let[t,rfl]:=(r);rfl
 |ref a=>cases (r);rfl
 |ty n=>cases (r);rfl
section
variable{P:bv}{w:World}{H H':Hp}{h h':Heap}{a C dx:Addr}{fs fs':vB}
def WU(hok:HOk P w H h)(e:H a=some (.ins C dx fs)):∃ b,ObjM h a dx C b/\(∀ f,RelO (fs.lookup f) (b f))/\PySem.Within b (fs.map (·.1))/\fs.length<=1000/\H dx=some (.own a):=by
 let[d,z,ne,ob,b,n,r,q]:=(hok a _ e)
 exact{b,⟨ob,n,ne⟩,r,q,z,d}
end
structure Cls(K:W.Frag)(C:Addr):Prop where
 pg:W.plainGet K C uq=true
 hd:W.hasDictIn K C=true
 po:W.plainOver K C=true
 sa:W.findIn K (.ref C) "__setattr__"=some (some<|.builtin "object.__setattr__")
def Cls.get{K:W.Frag}{C:Addr}(c:Cls K C)(f:Str):W.plainGet K C f=true:=c.pg
def NoAttr(K:W.Frag)(C:Addr)(f:Str):Prop:=W.findIn K (.ref C) f=some none
def NoAttr.taker{K:W.Frag}{C:Addr}{f:Str}(n:NoAttr K C f):W.takerIn K C f=some none:=by
 unfold W.takerIn;rw[n]
 rfl
structure Con(K:W.Frag)(C:Addr)(f:Str)(v:V)(u:Value):Prop where
 at_:W.findIn K (.ref C) f=some (some u)
 rel:RelV v u
 get:W.specialIn K u "__get__"=some none
 cp:W.copiedNames.contains f=false
structure SU(K:W.Frag)(C:Addr)(m:Str)(f:Addr):Prop where
 at_:W.findIn K (.ref C) m=some (some<|.ref f)
 fn:W.isFn K (.ref f)=true
 kp:W.keepIn K (.ref f)=true
section
variable{X:Cx}{AA:wA}{σ:St}{H:Hp}{s:π}{a C dx:Addr}{fs:vB}{f:Str}{v:V}{A:df}{E:wB}
def mW(I:Inv X AA σ H s)(e:H a=some (.ins C dx fs))(c:Cls X.K C)(n:NoAttr X.K C f)(l:fs.lookup f=some v)
  (h:∀ u d,Inv X AA σ H d->RelV v u->Q u d):wpAny (model X.prog X.w) A (getAttr (.ref a) f b) Q E s:=by
 let[j,O,r,z,z,z]:=WU I.hok e;let[u,i,g]:=RelO.some_of   (by rw[<-l];exact r f);exact Ug I.kIn O (c.get f) c.hd n i (Ul g) (h u _ (I.tok _) g)
def mX(I:Inv X AA σ H s)(e:H a=some (.ins C dx fs))(c:Cls X.K C)(k:SU X.K C m g)(l:fs.lookup m=none)
  (h:Q (.ref g,[.ref a]) s):wpAny (model X.prog X.w) A (uo (.ref a) m b) Q E s:=by
 let[d,O,r,z,z,z]:=WU I.hok e;exact Uh I.kIn O (c.get m) k.at_ k.fn (RelO.none_of (by rw[<-l];exact r m)) h
def mY(I:Inv X AA σ H s)(e:H a=some (.ins C dx fs))(c:Cls X.K C)(n:NoAttr X.K C f)(i:fs.length<1000)(w:RelV y u)
  (h:∀ j,Inv X AA σ (upd H a<|.ins C dx<|BS f y fs) j->Q () j):wpAny (model X.prog X.w) A (setAttr (.ref a) f u) Q E s:=by
 let[B,O,r,l,x,p]:=WU I.hok e;refine Uj I.kIn O c.sa c.po n.taker c.hd l (by rw[ε];exact oB i rfl) λh' d sb=>h _ (I.write   (by rw[e];exact sx) (.inr p) (λb q D z=>(sb.2 b D).trans z) (let ⟨o,_,_,J,_⟩:=d.ns;⟨o,J⟩) {by rw[AI O.ne];exact p,?_,O.ne,d.obj,_,d.ns,λg=>?_,λg L=>?_});exact χ (O8 f y fs) i;rw[mV];by_cases q:g=f;rw[if_pos q,if_pos q];exact w;rw[if_neg q,if_neg q];exact r g;by_cases q:g=f;rw[q];exact(WT f y fs).1;refine(WT f y fs).2 g (l g λz=>L ?_)
 show(if g=f then some u else B g)=none;rw[if_neg q];exact z
def Inv.made(I:Inv X AA σ H s):Inv X AA σ (upd (upd H s.heap.objs.size<|.own<|s.heap.objs.size+1) (s.heap.objs.size+1) (.ins C s.heap.objs.size []))
  { s with heap:=(s.heap.push W.emptyDict).push (W.instObj C s.heap.objs.size) }:=by
 have c:(s.heap.push _).get? _=some W.emptyDict:=ai _ rfl
 have d:((s.heap.push W.emptyDict).push (W.instObj C s.heap.objs.size)).get? (s.heap.objs.size+1)=some (W.instObj C s.heap.objs.size):=by
  have:=ai (s.heap.push W.emptyDict) (o:=W.instObj C s.heap.objs.size) rfl
  rwa [zp]at this
 have ne:s.heap.objs.size≠s.heap.objs.size+1:=bh<|fu _;refine(I.laid  (o:=.own _)  (t':=s.toks) (λb u q=>ξ _ q) (ο _) ⟨_,c⟩).laid    (λb u q=>ξ _ q) (a_<|zp _ _) ({by rw[AI ne,AE],bg _,ne,d,λz=>none,(Heap.Ns1.of_empty (x3 _ _ _ {c,rfl,(λe he=>absurd he (by simp)),λz=>rfl})).at λo q=>ξ _ q,λz=>sx,λy g=>absurd rfl g})
def Um(c:uz e f env (eval e env)=eval e env)
  (h:wpAny (model prog w) A (eval e env) (λo b=>wpAny (model prog w) A (getAttr o f true) Q E b) E s):wpAny (model prog w) A (eval (.Attribute e f pos) env) Q E s :=
 Attribute_any_ h (by rw[arm_eval_Attribute,c])
end
def O9(K:W.Frag)(c:TE)(f:Str):TE:=λd H Q=>c d H λx b=>∃ a C e fs v,x=.ref a/\b a=some (.ins C e fs)/\Cls K C/\NoAttr K C f/\fs.lookup f=some v/\Q v b
def PD(K:W.Frag)(e g:TE)(f:Str):TS:=λD b H=>g b H λy i=>e b i λx c=>∃ a C d fs,x=.ref a/\c a=some (.ins C d fs)/\Cls K C/\NoAttr K C f/\fs.length<1000 /\
 D.nx b (upd c a<|.ins C d<|BS f y fs)
def WV(X:Cx)(op:Operator)(c:V->V->Hp->VK->Prop):Prop :=
 ∀ (a:wA) (s:π) (b:St) (H:Hp) (x y:V) (u v:Value) (Q:VK),Inv X a b H s->RelV x u->RelV y v->c x y H Q->wpAny (model X.prog X.w) X.A (inplaceOp op u v) (EP X a b Q) X.xe s
def SV(K:W.Frag)(i j:TE)(l:V->V->Hp->VK->Prop)(f:Str):TS:=λD d H=>i d H λx e=>∃ a C n fs v,x=.ref a/\e a=some (.ins C n fs)/\Cls K C/\NoAttr K C f/\fs.lookup f=some v /\
 j d e λy o=>l v y o λz g=>∃ c b,g a=some (.ins C c b)/\b.length<1000/\D.nx d (upd g a<|.ins C c<|BS f z b)
section
variable{X:Cx}{o e value:Expr}{f:Str}{pos pos' tpos:Pos}{ta tv:TE}
def Up(he:PE X e ta)(d:uz e f X.env (eval e X.env)=eval e X.env):PE X (.Attribute e f pos) (O9 X.K ta f):=by
 refine λz s g H Q I h=>Um d<|AR (he _ s g H _ I h) λu A b=>?_;let[x,i,j,p,a,C,B,fs,v,rfl,r,c,n,l,q]:=b;obtain rfl:u=ff a:=p;exact mW j r c n l λD E w y=>x2 v i ⟨w,y,q⟩
def Uq(g:PE X o ta)(i:PE X value tv)(hs:v_ value (some<|.Attribute o f pos') pos.line X.env=pure false):PS X (.Assign [.Attribute o f pos'] value pos) (PD X.K ta tv f):=by
 refine λJ s b H D I h=>plainObj_wpAny_Assign_Attribute (AR (i _ s b H _ I h) λu j ⟨y,p,r,v,q⟩=>AR (g _ j b p _ r q) λw L d=>?_) hs;let[x,M,z,A,a,C,N,fs,rfl,B,c,n,l,q2]:=d;obtain rfl:w=ff a:=A;exact mY z B c n l v λO E=>x2 b _ ⟨E,q2⟩
def Uv(j:PE X o ta)(p:PE X value tv)(d:WV X op r):PS X (.AugAssign (.Attribute o f tpos) op value pos) (SV X.K ta tv r f):=by
 refine λAA s b H D I h=>wpAny_AugAssign_AttributeAny<|AR (j _ s b H _ I h) λw s1 g=>?_;let[x,A,B,E,a,C,dx,fs,v,rfl,J,c,n,l,q]:=g;obtain rfl:w=ff a:=E;exact mW B J c n l λu L M N=>AR (p _ L b A _ M q) (by intro w3 O [y,Q,T,U,q3];exact AR (d _ O b Q v y u w3 _ T N U q3) (by intro w4 s4 [z,H3,Y,rz,dx',fs',i,l',q4];exact(mY Y i c n l' rz λs5 I5=>x2 b _ ⟨I5,q4⟩)))
def PJ:V->V->Hp->VK->Prop:=λx y H Q=>∃ i j,x=.int i/\y=.int j/\Q (.int<|i+j) H
def mZ:WV X .Add PJ:=by
 intro c s d H x y u v Q I a b [i,j,rfl,rfl,q];let[t,rfl]:=(a)
 let[t',rfl]:=(b)
 exact PyProof.Rows.iadd_int<|x2 (.int _) H {I.tok _,⟨_,rfl⟩,q}
end
section
variable{X:Cx}{AA:wA}{σ:St}{H:Hp}{s:π}{A:df}{E:wB}{Q:wB}{c:Value}{b:Bool}
inductive IB(K:W.Frag)(H:Hp):V->Value->Prop where
 |non:IB K H .non (.type "NoneType")
 |bl (x:Bool):IB K H (.bl x) (.type "bool")
 |int (i:Int):IB K H (.int i) (.type "int")
 |str (x:Str):IB K H (.str x) (.type "str")
 |flt (x:UInt64):IB K H (.flt x) (.type "float")
 |lst {a:Addr} {xs:vE} (e:H a=some (.lst xs)):IB K H (.ref a) (.type "list")
 |frz {a:Addr} {o:Obj} {xs:vE} (e:H a=some (.frz o<|.lst xs)):IB K H (.ref a) (.type "list")
 |tup {a:Addr} {xs:vE} (e:H a=some (.tup xs)):IB K H (.ref a) (.type "tuple")
 |dK {a:Addr} {kvs:yB} (e:H a=some (.dK kvs)):IB K H (.ref a) (.type "dict")
 |dT {a:Addr} {kvs:uA} (e:H a=some (.dT kvs)):IB K H (.ref a) (.type "dict")
 |ins {a C dx:Addr} {fs:vB} (e:H a=some (.ins C dx fs)) (cl:Cls K C) (ha:W.findIn K (.ref C) "__class__"=some (some<|.builtin "object.__class__"))
   (hn:W.specialIn K (.builtin "object.__class__") "__get__"=some (some<|.builtin "getset_descriptor.__get__")) (htk:W.takesIn K (.builtin "object.__class__")=some true)
   (hm:W.mroIn K C (.type "object")=some true):IB K H (.ref a) (.ref C)
end
structure Room(k:Nat)(A:df):Prop where
 hd:A.handled=none
 dp:A.depth+3*k+5<recursionLimit
 un:A.units+16*k+200<cLine
def Room.mono(r:Room k A)(h:j<=k):Room j A:={r.hd,by have:=r.dp;lia,by have:=r.un;lia}
def Room.deeper(r:Room (k+1) A)(env:Env):Room k (A.deeper env) :=
 {r.hd,by have:=r.dp;show A.depth+1+3*k+5<_;lia,by have:=r.un;show A.units+3+16*k+200<_;lia}
def Uw{A:df}:(A.under<|.builtin "type.__call__" {.ref C::us,a}).depth=A.depth+1:=by
 first|rfl|simp[guardIds]
def Ux{A:df}:(A.under<|.builtin "type.__call__" {.ref C::us,a}).units=A.units+1:=by
 first|rfl|simp[Code.isFrame]
abbrev _root_.vA:=List (Str × Value)
def Room.make(r:Room (k+1) A)(C:Addr)(us:vC)(a:vA):Room k (A.under<|.builtin "type.__call__" {.ref C::us,a}) :=
 {r.hd,by have:=r.dp;rw[Uw];lia,by have:=r.un;rw[Ux];lia}
def Room.depth(r:Room k A):A.depth<recursionLimit:=by have:=r.dp;lia
def Room.units(r:Room k A):A.units+64<cLine:=by have:=r.un;lia
def BQ:TA:=λ_ H Q=>Q [] H
def D4(b:TE)(c:TA):TA:=λa H Q=>b a H λx d=>c a d λxs e=>Q (x::xs) e
section
variable{X:Cx}{e:Expr}{es:yC}{te:TE}{t:TA}{pos:Pos}
def SW:PA X [] BQ:=λz z z z H Q I h=>xg<|x2 [] H {I,.nil,h}
def MD(b:PE X e te)(c:PA X es t)(hs:az (e::es) X.env=(false,eval e X.env)::az es X.env:=by rfl):PA X (e::es) (D4 te t):=by
 intro pos p s a H Q I h;rw[hs];exact sy (AR (b _ s a H _ I h) (by intro u d [x,g,i,j,q1];exact(AR (c _ _ d a g _ i q1) (by intro us q [xs,l,n,o,q2];exact x2 _ l {n,.cons j o,q2}))))
def C8(t:TA):TE:=λb H Q=>t b H λxs a=>xs.length<=sizeLine/\∀ p,a p=none->Q (.ref p) (upd a p<|.tup xs)
def CI(t:TA):TE:=λb H Q=>t b H λxs a=>xs.length<=sizeLine/\∀ p,a p=none->Q (.ref p) (upd a p<|.lst xs)
def Uy{c}(h:PA X es t):PE X (.Tuple es c pos) (C8 t):=λj s d H Q I g=>wpAny_Tuple_spliced (AR (h _ _ s d H _ I g) λus l ⟨xs,i,a,r,z,q⟩=>{by rw[<-r.length];exact z,(x2 (.ref _) (upd i _<|.tup xs) {a.laid  (λb u e=>ξ _ e) (ο _) ({z,us,r,{_,ai _ rfl,rfl,_,rfl}}),rfl,q _<|a.hok.fresh<|ο _})})
def Uz(h:PA X es t):PE X (.List es pos) (CI t):=λi s c H Q I d=>wpAny_List_spliced (AR (h _ _ s c H _ I d) λus j ⟨xs,g,a,r,z,q⟩=>{by rw[<-r.length];exact z,(x2 (.ref _) (upd g _<|.lst xs) {a.laid  (λb u e=>ξ _ e) (ο _) ({z,x2 us 0 {r,ai _ rfl}}),rfl,q _<|a.hok.fresh<|ο _})})
end
abbrev Sp:=vE->Hp->VK->XK->Prop
abbrev IC:=uD->Hp->π->XK->Value->π->Prop
structure Env0(P:bv)(w:World)(K:W.Frag)(mg:xA)(base:Heap)(A:df)(outer:uD)(s:π)(H:Hp):Prop where
 frames:A.frames=some outer
 mod:Mod K mg base
 bs:∀ b o,base.get? b=some o->s.heap.get? b=some o/\H b=none
 bsz:base.objs.size<=s.heap.objs.size
 funs:s.heap.FunFrames base outer
 frf:∀ b∈EF outer,H b=none
 hok:HOk P w H s.heap
 bare:t9 s.gens
def CE(outer:uD)(P:bv)(w:World)(H:Hp)(s:π)(Q:VK)(u:Value)(a:π):Prop :=
 ∃ v b,a.os=s.os/\t9 a.gens/\Un (EF outer) [] H b s.heap a.heap/\HOk P w b a.heap/\RelV v u/\Q v b
def CR(CX:IC)(outer:uD)(P:bv)(w:World)(H:Hp)(s:π)(Q:VK)(E:XK)(r:Result)(a:π):Prop :=
 match r with
 |.ok (.ret u)=>CE outer P w H s Q u a
 |.ok _=>False
 |.error e=>CX outer H s E e a
structure FnOk(P:bv)(w:World)(K:W.Frag)(mg:xA)(base:Heap)(CX:IC)(k:Nat)(f:Addr)(fd:gq)(ps:aD)(sp:Sp):Prop where
 len:∀ vs H Q E,sp vs H Q E->vs.length=ps.length
 run:∀ (A:df) (outer:uD) (s:π) (H:Hp) (args:Args) (us:vC) (vs:vE) (Q:VK) (E:XK),Room k A->Env0 P w K mg base A outer s H->xh s fd args (ps.zip us)->Vals vs us->sp vs H Q E ->
  uy (model P w) A (.call (.ref f) args) (CR CX outer P w H s Q E) s
def FnOk.imp{P:bv}{w:World}{K:W.Frag}{mg:xA}{base:Heap}{CX:IC}{k:Nat}{f:Addr}{fd:gq}{ps:aD}{sp a:Sp}(F:FnOk P w K mg base CX k f fd ps sp)
  (h:∀ vs H Q E,a vs H Q E->sp vs H Q E):FnOk P w K mg base CX k f fd ps a :=
 {λvs H Q E q=>F.len vs H Q E<|h _ _ _ _ q,λA outer s H args us vs Q E b he c d hs=>F.run A _ s H _ us vs Q E b he c d<|h _ _ _ _ hs}
def Env0.make{P:bv}{w:World}{K:W.Frag}{mg:xA}{base:Heap}{A:df}{outer:uD}{s:π}{H:Hp}(e:Env0 P w K mg base A outer s H)(C:Addr)(us:vC)(a:vA) :
  Env0 P w K mg base (A.under<|.builtin "type.__call__" {.ref C::us,a}) outer s H:={by first|exact e.frames|(exact e.frames),e.mod,e.bs,e.bsz,e.funs,e.frf,e.hok,e.bare}
section
variable{X:Cx}{AA:wA}{σ:St}{H:Hp}{s s':π}
def Inv.env0(I:Inv X AA σ H s):Env0 X.prog X.w X.K X.mg X.base X.A X.stack s H :=
 {I.ok.frames,I.ok.mod,I.bs,χ I.ok.bsz I.sz,I.stack,I.stkFree,I.hok,I.bare}
def Inv.after(I:Inv X AA σ H s)(h:CE X.stack X.prog X.w H s Q u s'):EP X AA σ Q u s':=by
 revert h;apply u2;intro v c [os,bare,un,hok,r,q];let[e,g,d,t,a]:=s';obtain rfl:a=s.os:=os;exact x2 v c {I.call      un hok bare (λb z=>absurd z (by simp)),r,q}
end
def ME(sp:Sp)(b:vE)(E:St->XK)(t:TA):TE:=λa H Q=>t a H λvs c=>sp (vs++b) c Q (E a)
def IZ(C:Addr)(m:Str)(sp:Sp)(d:vE)(E:St->XK)(e:TE)(t:TA):TE:=λb H Q=>e b H λx c=>∃ a g fs,x=.ref a/\c a=some (.ins C g fs)/\fs.lookup m=none /\
 t b c λvs i=>sp (x::(vs++d)) i Q (E b)
def NI(C:Addr)(sp:Sp)(d:vE)(E:St->XK)(t:TA):TE:=λc H Q=>t c H λvs b=>∀ x a,b x=none->b a=none->a≠x ->
 sp (.ref x::(vs++d)) (upd (upd b a<|.own x) x (.ins C a [])) (λv e=>v=.non/\Q (.ref x) e) (E c)
def Binds(K:W.Frag)(fd:gq)(ps:aD)(a:vC):Prop :=
 ∀ (s:π) (us:vC),K.In s.heap->(us++a).length=ps.length->xh s fd {us,[]} (ps.zip<|us++a)
def Binds.all{K:W.Frag}{fd:gq}{ps:aD}(h:∀ us:vC,us.length=ps.length->bindArgs fd {us,[]}=pure (ps.zip us)):Binds K fd ps []:=λs us z a=>by
 rw[iu]at a ⊢;exact .of_eq<|h us a
def HH(CX:IC)(X:Cx)(E:St->XK):Prop:=∀ (c:wA) (a:St) (H:Hp) (s:π) (e:Value) (b:π),Inv X c a H s->CX X.stack H s (E a) e b->X.xe e b
section
variable{X:Cx}{CX:IC}{k:Nat}{f C:Addr}{fd:gq}{ps:aD}{sp:Sp}{ET:vE}{ds:vC}{E:St->XK}{x m:Str}{p pos C7:Pos}{e o:Expr}{es:yC}{ta:TE}{t:TA}
def WW(F:FnOk X.prog X.w X.K X.mg X.base CX k f fd ps sp)(d:Room k X.A)(g:Binds X.K fd ps ds)(hd:Vals ET ds)(i:HH CX X E)
  (I:Inv X j b H s) (r:Vals vs us) (h:sp (vs++ET) H Q (E b)):wpAny (model X.prog X.w) X.A (call (.ref f) us) (EP X j b Q) X.xe s:=by
 have c:=r.append hd;refine Ix (mj (F.run _ _ s H _ _ _ Q _ d I.env0 (g s us I.kIn (by rw[<-c.length];exact F.len _ _ _ _ h)) c h) λr l a=>?_);cases r with
 |error e=>exact i _ b H s e l I a
 |ok n =>
  cases n with
  |ret u=>exact I.after a
  |next=>exact ju a
  |brk=>exact ju a
  |cont=>exact ju a
def Vb(F:FnOk X.prog X.w X.K X.mg X.base CX k f fd ps sp)(c:Room k X.A)(d:Gl X x)(g:X.mg x=some (.ref f))(i:W.keepIn X.K (.ref f)=true)(j:Binds X.K fd ps ds)(hd:Vals ET ds)(l:HH CX X E)
  (n:PA X (e::es) t) (a:(x ==("__debug__":Str))=false:=by decide) (he:az (e::es) X.env=(false,eval e X.env)::az es X.env:=by rfl) (u:(jh pos<|az es X.env).any (·.1)=false:=by rfl) :
  PE X (.Call (.Name x p) (e::es) [] pos) (ME sp ET E t):=λw s v H Q I h=>s_ (NE I d g (W.callWith_K  I.ok.mod.kin i (AR (n _ _ s v H _ I h) (by intro us y [vs,z,b,r,q];exact{b.kIn,(WW F c j hd l b r q)})) he u) a)
def Vc(he:PE X o ta)(c:Cls X.K C)(g:SU X.K C m f)(F:FnOk X.prog X.w X.K X.mg X.base CX k f fd ps sp)(w:Room k X.A)(y:Binds X.K fd ps ds)(hd:Vals ET ds)(z:HH CX X E)(A:PA X (e::es) t)
  (b:az (e::es) X.env=(false,eval e X.env)::az es X.env:=by rfl) (B:(jh pos<|az es X.env).any (·.1)=false:=by rfl)
  (D:eval (.Call (.Attribute o m C7) (e::es) [] pos) X.env=(do
   let i ← eval o X.env
   ym C7.atName
   let (f,first) ← t_ [i] (uo i m O)
   zq pos f first (jh pos<|az (e::es) X.env) (vc pos<|me [] X.env)):=by rfl) :
  PE X (.Call (.Attribute o m C7) (e::es) [] pos) (IZ C m sp ET E ta t):=by
 refine λT s j H Q I h=>W.methodCall_KW  (AR (he _ s j H _ I h) λu J d=>?_) D;let[x,L,n,M,a,U,fs,rfl,N,l,q]:=d;obtain rfl:u=ff a:=M;exact mX n N c g l (W.callWith_K   I.ok.mod.kin g.kp (AR (A _ _ J j L _ n q) (by intro us Y [vs,H2,v,r,q2];exact{v.kIn,(WW  (vs:=.ref a::vs) F w y hd z v (.cons rfl r) q2)})) b B)
def Vd(he:PE X o ta)(c:Cls X.K C)(g:SU X.K C m f)(F:FnOk X.prog X.w X.K X.mg X.base CX k f fd ps sp)(j:Room k X.A)(n:Binds X.K fd ps ds)(hd:Vals ET ds)(r:HH CX X E)
  (v:eval (.Call (.Attribute o m C7) [] [] pos) X.env=(do
   let i ← eval o X.env
   ym C7.atName
   let (f,first) ← t_ [i] (uo i m A)
   zq pos f first (jh pos<|az [] X.env) (vc pos<|me [] X.env)):=by rfl) :
  PE X (.Call (.Attribute o m C7) [] [] pos) (IZ C m sp ET E ta BQ):=by
 refine λB s w H Q I h=>W.methodCall_KW  (AR (he _ s w H _ I h) λu D b=>?_) v;let[x,J,d,y,a,L,fs,rfl,z,l,q]:=b;obtain rfl:u=ff a:=y;exact mX d z c g l<|W.callWith_K0  d.kIn g.kp (WW  (vs:=[.ref a]) F j n hd r d (.cons rfl .nil) q)
structure Mk(K:W.Frag)(C f:Addr):Prop where
 makes:W.makesIn K C=true
 init:W.findIn K (.ref C) "__init__"=some (some<|.ref f)
 fn:W.isFn K (.ref f)=true
 kp:W.keepIn K (.ref C)=true
def Vg(M:Mk X.K C f)(F:FnOk X.prog X.w X.K X.mg X.base CX k f fd ps sp)(j:Room (k+1) X.A)(l:Binds X.K fd ps ds)(hd:Vals ET ds)
  (n:HH CX X E) (I:Inv X q d H s) (r:Vals vs us)
  (h:∀ x b,H x=none->H b=none->b≠x->sp (.ref x::(vs++ET)) (upd (upd H b<|.own x) x (.ins C b [])) (λv w=>v=.non/\Q (.ref x) w) (E d)) :
  wpAny (model X.prog X.w) X.A (call (.ref C) us) (EP X q d Q) X.xe s:=by
 have g:=h _ _ (I.hok.fresh<|jr _) (I.hok.fresh<|ο _) (bh<|fu _)
 have c:=Inv.made (C:=C) I
 have i:Vals (V.ref (s.heap.objs.size+1)::(vs++ET)) _:=.cons rfl<|r.append hd
 have y:(ff (s.heap.objs.size+1)::us++ds).length=ps.length:=by
  have e:=i.length;rw[F.len _ _ _ _ g]at e;exact e.symm
 refine Ix (Uk  I.kIn M.makes M.init (beq_iff_eq.mp M.fn) (mj (F.run _ _ _ _ _ _ _ _ _ (j.make C us [])
  (c.env0.make C us []) (l _ _ c.kIn y) i g) λr z a=>?_))
 cases r with
 |error e=>exact n _ d _ _ e z c a
 |ok A =>
  cases A with
  |ret u =>
   refine u2 ?_<|c.after a;intro v B [D,J,rfl,q3];exact{J,x2 (V.ref _) B ⟨D,rfl,q3⟩}
  |next=>exact ju a
  |brk=>exact ju a
  |cont=>exact ju a
def Vh(M:Mk X.K C f)(F:FnOk X.prog X.w X.K X.mg X.base CX k f fd ps sp)(c:Room (k+1) X.A)(d:Gl X x)(g:X.mg x=some (.ref C))(i:Binds X.K fd ps ds)(hd:Vals ET ds)(j:HH CX X E)
  (l:PA X (e::es) t) (a:(x ==("__debug__":Str))=false:=by decide) (he:az (e::es) X.env=(false,eval e X.env)::az es X.env:=by rfl) (n:(jh pos<|az es X.env).any (·.1)=false:=by rfl) :
  PE X (.Call (.Name x p) (e::es) [] pos) (NI C sp ET E t):=λv s u H Q I h=>s_ (NE I d g (W.callWith_K  I.ok.mod.kin M.kp (AR (l _ _ s u H _ I h) (by intro us w [vs,y,b,r,q];exact{b.kIn,(Vg M F c i hd j b r q)})) he n) a)
end
section
variable{X:Cx}{CX:IC}{k:Nat}{f C:Addr}{fd:gq}{ps ks:aD}{sp:Sp}{E:St->XK}{x m:Str}{p pos C7 kpos:Pos}{e o:Expr}{es:yC}{kws:List An}{te ta:TE}{t tk:TA}{nm:Option Str}
structure z4u(K:W.Frag)(fd:gq)(ps ks:aD)(g:vC->vC->vC)(gV:vE->vE->vE):Prop where
 to:∀ (s:π) (us ws:vC),K.In s.heap->(g us ws).length=ps.length->xh s fd {us,ks.zip ws} (ps.zip<|g us ws)
 rel:∀ {vs:vE} {us:vC} {zs:vE} {ws:vC},Vals vs us->Vals zs ws->Vals (gV vs zs) (g us ws)
variable{g:vC->vC->vC}{gV:vE->vE->vE}
end
structure FnScope(N P:aD)(sc:Scope):Prop where
 kind:sc.kind=.function
 co:sc.isCoroutine=false
 gen:sc.isGenerator=false
 nd:N.Nodup
 pre:N.take P.length=P
 par:∀ x∈P,sc.names.lookup x=some .local\/sc.names.lookup x=some .cell
 nofree:∀ y∈sc.names,y.2≠.free
theorem m7{kindOf:Str->Option ye}:∀ {binds:vA} {m:xA},(∀ v,(x,v)∉binds)->bindL kindOf binds m x=m x
 | [],_,_=>rfl
 |(n,v)::r,m,h=>by
  unfold bindL;rw[m7 λw a=>h w<|ρ _ a];split
  have:x≠n:=by rintro rfl;exact h v υ
  simp[this]
  rfl
theorem m9{kindOf:Str->Option ye}:∀ {binds:vA} {m:xA},(∀ v,(x,v)∉binds)->bindC kindOf binds m x=m x
 | [],_,_=>rfl
 |(n,v)::r,m,h=>by
  unfold bindC;rw[m9 λw a=>h w<|ρ _ a];split
  rfl
  have:x≠n:=by rintro rfl;exact h v υ
  simp[this]
theorem nB{kindOf:Str->Option ye}:∀ {P:aD} {vs:vC} {i:Nat} {m:xA},P.Nodup->P[i]? =some x->vs[i]? =some v->kindOf x=some .local ->
  bindL kindOf (P.zip vs) m x=some v
 | [],_,_,_,_,h,_,_=>by simp at h
 |_::_,[],_,_,_,_,h,_=>by simp at h
 |p::P,w::vs,0,m,nd,h1,h2,a=>by
  simp at h1 h2;subst h1 h2
  show bindL _ ((p,w)::P.zip vs) m p=_;unfold bindL;rw[m7 λv b=>(gz.mp nd).1 (za b).1,if_pos a];simp
 |p::P,w::vs,i+1,m,nd,h1,h2,a=>by
  unfold bindL;exact nB  (gz.mp nd).2 (h1) (h2) a
theorem nD{kindOf:Str->Option ye}:∀ {P:aD} {vs:vC} {i:Nat} {m:xA},P.Nodup->P[i]? =some x->vs[i]? =some v->kindOf x≠some .local ->
  bindC kindOf (P.zip vs) m x=some v
 | [],_,_,_,_,h,_,_=>by simp at h
 |_::_,[],_,_,_,_,h,_=>by simp at h
 |p::P,w::vs,0,m,nd,h1,h2,a=>by
  simp at h1 h2;subst h1 h2
  show bindC _ ((p,w)::P.zip vs) m p=_;unfold bindC;rw[m9 λv b=>(gz.mp nd).1 (za b).1,if_neg a];simp
 |p::P,w::vs,i+1,m,nd,h1,h2,a=>by
  unfold bindC;exact nD  (gz.mp nd).2 (h1) (h2) a
def AX(N:aD)(vs:vE):St:=vs.map some++ba (N.length-vs.length) none
def JA(CX:IC)(P:bv)(w:World)(K:W.Frag)(mg:xA)(base:Heap)(N:aD)(a:Str)(scope:Scope)(f:Addr)(c:Value)(A:df)(outer:uD)(s:π)(H:Hp)(E:XK):Cx where
 prog:=P
 w:=w
 K:=K
 mg:=mg
 base:=base
 A:=A.deeper<|xu a scope s.heap.objs.size f c
 N:=N
 s₀:=s
 H₀:=H
 env:=xu a scope s.heap.objs.size f c
 outer:=outer
 stack:=xu a scope s.heap.objs.size f c::outer
 ex:=[]
 calm:=true
 fn:=λ_=>true
 pn:=[]
 xe:=λe d=>wpAny (model P w) (A.deeper<|xu a scope s.heap.objs.size f c) (leaving (xu a scope s.heap.objs.size f c) e) (λ_ b=>CX outer H s E e b) (λg b=>CX outer H s E g b) d
def nF{a:Scope}(h:a.names.lookup x=some .cell):∃ c,(Kf n a.names []).lookup x=some c:=dg.mp<|W.cellsFrom_some _ n [] (.inl h)
def Vj{CX:IC}{P:bv}{w:World}{K:W.Frag}{mg:xA}{base:Heap}{N ps:aD}{d:Str}{scope:Scope}{f:Addr}{D:Value}{A:df}{outer:uD}{s I:π}{H:Hp}{E:XK}{us:vC}{vs:vE}
  (S:FnScope N ps scope) (hd:A.handled=none) (g:Env0 P w K mg base A outer s H) (M:vs.length=ps.length) (r:Vals vs us)
  (x:InCallC s s.heap.objs.size (bindL (xu d scope s.heap.objs.size f D).kindOf (ps.zip us) λ_=>none) (Kf (s.heap.objs.size+1) scope.names []) (bindC (xu d scope s.heap.objs.size f D).kindOf (ps.zip us) λ_=>none) I) :
  Inv (JA CX P w K mg base N d scope f D A outer s H E) [] (AX N vs) H I:=by
 have T:ps.length<=N.length:=by have:=congrArg ji S.pre;rw[di]at this;lia
 refine u2 ?_ x.done;intro h1 tk [rfl,J]
 have j:∀ b:Addr,b∉(JA CX P w K mg base N d scope f D A outer s H E).ex:=λb z=>absurd (show b∈([])from z) (by simp);refine⟨{g.mod,S.kind,rfl,rfl,ο _,λy z c h1 h2=>(name_of_addr x.apart (PySem.mem_of_lookup h1) (PySem.mem_of_lookup h2)),λy l=>?_,λy c t h=>(kh<|x.above y c<|PySem.mem_of_lookup h),λt=>hd,Around.frames_deeper g.frames,.inr ⟨rfl,rfl⟩,λb z=>absurd z<|j b,g.bs,g.bsz,λb t t=>j b,λb z=>absurd z<|j b,g.funs,g.frf},
  rfl,g.bare,Un.kept J,{_,x.toInCall.ns,λi y v h1 h2 h3=>?_},λy c h=>{_,x.cell y c h},g.hok.fresh<|ο _,λy c h=>(g.hok.fresh<|kh<|x.above y c<|PySem.mem_of_lookup h),λp n=>absurd (show p∈([])from n) (by simp),g.hok.kept J,?_⟩
 let l||l:=l
 exact nF l;exact absurd rfl<|S.nofree _<|PySem.mem_of_lookup l
 have o:i<vs.length:=by
  unfold AX at h2;by_cases o:i<vs.length;exact o;rw[cf (by simpa using o),yf]at h2;split at h2<;>cases h2
 have O:vs[i]? =some v:=by
  unfold AX at h2;rw[bc (by simpa using o),ψ]at h2;cases e:vs[i]? with
  |none=>rw[e]at h2;cases h2
  |some a=>rw[e]at h2;cases h2;rfl
 have n:ps[i]? =some y:=by
  rw[<-S.pre,List.getElem?_take_of_lt<|M ▸ o];exact h1
 have B:ps.Nodup:=by rw[<-S.pre];exact S.nd.sublist<|C_ _ _
 let[u,L,Q]:=r.get O;refine{u,Q,?_};rcases S.par y (ι n)with k|k
 exact .inl {k,nB B n L k};let[c,e]:=nF  k;refine .inr {.inl k,c,e,?_}
 have q:=x.cell y c e;rw[nD B n L (by show scope.names.lookup y≠_;rw[k];decide)]at q;exact q;unfold AX
 show _=N.length;rw[ae,ε,uj]
 lia
def Vk{CX:IC}{P:bv}{w:World}{K:W.Frag}{mg:xA}{base:Heap}{k:Nat}{f:Addr}{name a:Str}{c:Arguments}{body:List Stmt}{scope:Scope}{O kV l pm j ct U:Value}{T Y:Option Addr}
  {D:Array (Option Value)} {N ps:aD} {sp:Sp} (lk:K.lookup f=some {U,Y,.func<|W.fnOf name a c body scope O kV l pm T j ct,D}) (GY:W.codeIn K j a=true) (S:FnScope N ps scope)
  (len:∀ vs H Q E,sp vs H Q E->vs.length=ps.length)
  (mB:∀ (A:df) (outer:uD) (s:π) (H:Hp) (vs:vE) (Q:VK) (E:XK),Room k (A.deeper<|xu a scope s.heap.objs.size f j)->sp vs H Q E ->
   ∃ t,FC (JA CX P w K mg base N a scope f j A outer s H E) body t/\t { nx:=λz g=>Q .non g,rt:=Q } (AX N vs) H) :
  FnOk P w K mg base CX (k+1) f (W.fnOf name a c body scope O kV l pm T j ct) ps sp:=by
 refine{len,λA outer s H args us vs Q E I p hb r B=>?_}
 have KX:=p.mod.kin.keeps λb o e=>(p.bs b o e).1
 have i:∀ y∈ps.zip us,scope.names.lookup y.1=some _\/(scope.names.lookup y.1=some _/\((Kf (s.heap.objs.size+1) _ []).lookup y.1).isSome=true):=λ⟨n,v⟩ hy=>by
  let q||q:=S.par n (za hy).1
  exact .inl q;exact .inr {q,W.cellsFrom_some _ _ _<|.inl q}
 refine codeAny_call_function I.depth (KX _ _ lk) rfl S.co S.gen rfl (W.codeRec_of KX GY) (hb _ _ _ _<|wpAny_newFunctionEnv_cells S.kind i λenv he s1 x=>?_);subst he;let[t,ht,hq]:=mB A _ s H vs Q E (I.deeper _) B;refine{(p.mod.nolimit.keeps λb o e=>(p.bs b o e).1).keeps x.toInCall.keep,codeAny_func<|oa (ht [] s1 _ H _ (Vj S I.hd p (len _ _ _ _ B) r x) hq) (λfl L hs=>?_) λe L hs=>hs}
 have fin:∀ {d:St} {g:Hp} {v:V} {u:Value},Inv (JA CX P w K mg base N a scope f j A _ s H E) [] d g L->RelV v u->Q v g->CE outer P w H s Q u L :=
  λ{d g v u} J M q=>x2 v g ⟨J.os,J.bare,J.base,J.hok,M,q⟩
 cases fl with
 |ret u =>
  revert hs;apply u3;intro v d g [J,M,q];exact fin J M q
 |next =>
  revert hs;apply u2;intro d g [J,q];exact fin (v:=V.non)  J rfl q
 |brk =>
  revert hs;apply u2;intro z z [z,q];exact ju q
 |cont =>
  revert hs;apply u2;intro z z [z,q];exact ju q
section
variable{X:Cx}{x:Str}{p pos:Pos}{e:Expr}{es:yC}{t:TA}{id T:String}{r:vE->Hp->VK->Prop}
def CJ(r:vE->Hp->VK->Prop)(t:TA):TE:=λa H Q=>t a H λvs b=>r vs b Q
def PK(c:EN X (.builtin id) r)(d:Gl X x)(g:X.mg x=none)(i:t5 x=some (.builtin id))(j:PA X (e::es) t)(l:x≠"__name__":=by decide)(a:(x ==("__debug__":Str))=false:=by decide)
  (he:az (e::es) X.env=(false,eval e X.env)::az es X.env:=by rfl) (n:(jh pos<|az es X.env).any (·.1)=false:=by rfl):PE X (.Call (.Name x p) (e::es) [] pos) (CJ r t):=λw s b H Q I h=>s_ (O2 I d g i (PyProof.Rows.callWith_builtin1 (AR (j _ _ s b H _ I h) (by intro us o [vs,q,u,v,q1];exact c _ o b q vs us Q u v q1)) he n) l a)
def NJ(c:EN X (.type T) r)(d:Gl X x)(g:X.mg x=none)(i:t5 x=some (.type T))(j:PA X (e::es) t)(l:x≠"__name__":=by decide)(a:(x ==("__debug__":Str))=false:=by decide)
  (he:az (e::es) X.env=(false,eval e X.env)::az es X.env:=by rfl) (n:(jh pos<|az es X.env).any (·.1)=false:=by rfl):PE X (.Call (.Name x p) (e::es) [] pos) (CJ r t):=λw s b H Q I h=>s_<|O2 I d g i (jp (AR (j _ _ s b H _ I h) λus o ⟨vs,q,u,v,q1⟩=>c _ o b q vs us Q u v q1) he n) l a
end
end L2
namespace HT
open PySem PyProof.Rows
section
open PySem.SeqAt
open PySem.AutoSeq1 (wpAny_loadPart')
open PySem.MeetsSeq PySem.MeetsSeq2 PySem.MeetsSeq3
end
section
variable{prog:bv}{w:World}{A:df}{E:wB}{s:π}
def cat_tup(q:IsTup s.heap t vs.toArray)(r:IsTup s.heap b ws.toArray)(j:vs≠[])
  (h1:ws=[]->Q (.ref t) s) (h2:ws≠[]->Q (.ref s.heap.objs.size) { s with heap:=s.heap.push { cls:=.type "tuple",data:=.seq (vs++ws).toArray } })
  (hsz:vs.length+ws.length<=sizeLine):wpAny (model prog w) A (iz .Add (.ref t) (.ref b)) Q E s:=by
 let[[cls,dd,data,l],c,u,n,hd]:=id q;let[[o,v,data2,x],a,g,p,i]:=id r;subst u hd g i
 have e:vs.toArray++ws.toArray=(vs++ws).toArray:=by simp
 by_cases d:ws=[];exact De ⟨_,c,rfl⟩ ⟨_,a,rfl⟩ yg Bf PySem.F.slot_tuple_add PySem.F.entry_tuple_add (PySem.F.args_tuple_add_2 _ _)
  (tuple_addW1 t b _ _ n p dd _ l _ (by simpa using j) (by simp[d])) {c,a,h1 d}
 refine De ⟨_,c,rfl⟩ ⟨_,a,rfl⟩ yg Bf PySem.F.slot_tuple_add PySem.F.entry_tuple_add (PySem.F.args_tuple_add_2 _ _)
  (tuple_addW2 t b _ _ n p dd _ l _ (by simpa using j) (by simpa using d) (by exact hsz)) {c,a,?_}
 rw[e];exact h2 d
def sIx(n d:Nat):Option Int->Nat
 |none=>d
 |some v=>if v<0 then(v+(n:Int)).toNat else min v.toNat n
def sIx_none(n d:Nat):sIx n d none=d:=rfl
def clip_eq(v:Int)(n d:Nat):(if v<0 then max (v+(n:Int)) 0 else min v (n:Int))=((sIx n d (some v):Nat):Int):=by
 show _=(((if v<0 then(v+n).toNat else min v.toNat n):Nat):Int);by_cases a:v<0;rw[if_pos a,if_pos a,Int.ofNat_toNat]
 have e:=fz<|wg.mp a;rw[if_neg a,if_neg a];let h||h:=Nat.le_total v.toNat n
 rw[mz h,e];exact Ie<|e ▸ kg.mpr h;rw[Ga h];exact Int.min_eq_right<|e ▸ kg.mpr h
def Vl(lo a:Option Int)(n:Nat):wv lo a 1 (n:Int)=(((sIx n 0 lo:Nat):Int),((sIx n n a:Nat):Int)):=by
 refine Prod.ext ?_ ?_;cases lo with
 |none=>rfl
 |some v=>exact clip_eq v n 0
 cases a with
 |none=>rfl
 |some v=>exact clip_eq v n n
def Vm(i j:Nat):wx (i:Int) (j:Int) 1=j-i:=by
 show(if(i:Int)<j then((j:Int)-i-1)/1+1 else 0).toNat=_;by_cases h:(i:Int)<j;rw[if_pos h,Int.ediv_one,Int.sub_add_cancel,Int.toNat_sub];rw[if_neg h];exact(zi<|kg.mp<|wg.mp h).symm
def nH(p:zr v o)(h:Q o s):wpAny (model prog w) A (Ig v) Q E s:=by
 cases p with
 |none=>exact slicePart_none h
 |int i t=>exact slicePart_int h
def Vp{d:Addr}{e g:Value}{lo c:Option Int}{n:Nat}{Q:Int × Int × Nat->π->Prop}(hs:s.heap.IsSliceOf d e g .none)(i:zr e lo)(j:zr g c)
  (h:Q (((sIx n 0 lo:Nat):Int),1,sIx n n c-sIx n 0 lo) s):wpAny (model prog w) A (Iy (.ref d) (pure (n:Int))) Q E s:=by
 let[os,a,l,b]:=id hs;refine δ<|δ<|jj a b  rfl (δ<|jj a b  rfl (δ<|jj a b  rfl (ν<|δ<|slicePart_none<|δ<|nH i<|δ<|nH j<|δ<|ν ?_)))
 show wpAny _ _ (match wv lo c 1 n with|(lo,c)=>pure (lo,(1:Int),wx lo c 1)) _ _ s;rw[Vl lo c n]
 show wpAny _ _ (pure _) _ _ s;rw[Vm];exact ν h
def Vq(xs:Array Value)(i k:Nat):((τ k).filterMap λ(m:Nat)=>xs[((i:Int)+(m:Int)*1).toNat]?).toArray=((xs.toList.drop i).take k).toArray:=by
 have e:(λ(m:Nat)=>xs[(i+(m:Int)*1).toNat]?)=λm=>xs[i+m]? :=by
  funext m
  have:(i+(m:Int)*1).toNat=i+m:=by lia
  rw[this]
 have:=pick_run xs i k;rw[e];rw[List.filterMap_map]at this
 have a:((λx=>xs[x]?) ∘ λx=>i+x)=λm=>xs[i+m]? :=rfl;rw[a]at this;rw[this]
def getItem_tuple_cut{t j:Addr}{a:Array Value}{l n:Value}{lo c:Option Int}{Q:wB}(d:IsTup s.heap t a)(hs:s.heap.IsSliceOf j l n .none)(o:zr l lo)(p:zr n c)
  (r:¬ (sIx a.size 0 lo=0/\sIx a.size a.size c=a.size))
  (h:Q (.ref s.heap.objs.size) { s with heap:=s.heap.push { cls:=.type "tuple",data:=.seq ((a.toList.drop<|sIx a.size 0 lo).take (sIx a.size a.size c-sIx a.size 0 lo)).toArray } })
  (hsz:a.size<=sizeLine):wpAny (model prog w) A (yn (.ref t) (.ref j)) Q E s:=by
 let[os,e,g,u]:=id hs
 have b:sizeOk (.seq ((a.toList.drop<|sIx a.size 0 lo).take (sIx a.size a.size c-sIx a.size 0 lo)).toArray):=by
  show((a.toList.drop _).take _).toArray.size<=sizeLine;rw[ax];exact χ (vd ..) (by rw[ic];exact χ (Nat.sub_le ..) hsz)
 unfold yn
 try with_reducible refine gx ?_
 refine δ (wpAny_sequenceKey d.typeIs (by decide) ?_);refine δ (cz  d.typeIs jn
  (dk jn d.typeIs entry_tuple_getitem ?_<|args_tuple_getitem _ _))
 show wpAny _ _ (Iz _>>=_) _ _ s;refine δ<|tupleItemsOf_ d<|δ<|yo ⟨os,e,g⟩ (δ<|Vp hs o p ?_)
 have i:¬ ((((sIx a.size 0 lo):Int)==0&&(1:Int)==1&&(sIx a.size a.size c-sIx a.size 0 lo)==a.size)=true):=by
  intro q;rw[bz,bz]at q
  have q1:=eq_of_beq q.1.1
  have q2:=eq_of_beq q.2;exact r {ce q1,by omega}
 show wpAny _ _ (if(((sIx _ 0 lo):Int)==0&&1==1&&(sIx _ _ c-sIx _ 0 lo)==a.size)=true then _ else _) _ _ s;rw[if_neg i,Vq]
 first
  |exact δ  _
  |exact δ  (dr (δ<|ν<|ν {_,rfl,ν h}) b)
  |exact δ _
  |exact δ _
end
end HT
namespace L2
abbrev TO:=St->Hp->(Option Int->Hp->Prop)->Prop
def PO(X:Cx)(e:Option Expr)(t:TO):Prop :=
 ∀ (b:wA) (s:π) (a:St) (H:Hp) (Q:Option Int->Hp->Prop),Inv X b a H s->t a H Q ->
  wpAny (model X.prog X.w) X.A (evalPart e X.env) (λu d=>∃ o c,Inv X b a c d/\zr u o/\Q o c) X.xe s
def K2:TO:=λ_ H Q=>Q none H
def PL(t:TE):TO:=λa H Q=>t a H λx b=>∃ i,x=.int i/\Q (some i) b
section
variable{X:Cx}{e:Expr}{te:TE}{lo hi:Option Expr}{tl th:TO}{pos p2:Pos}
def Vv:PO X none K2:=λa s b H Q I h=>ν<|x2 _ H {I,.none,h}
def Vx(h:PE X e te):PO X (some e) (PL te):=by
 refine λl s b H Q I c=>AR (h _ s b H _ I c) λu n a=>?_;let[x,d,g,j,[i,rfl,q]]:=a;let[t,rfl]:=j;exact x2 _ d {g,.int i t,q}
def SlR(X:Cx)(r:V->Option Int->Option Int->Hp->VK->Prop):Prop :=
 ∀ (a:wA) (s:π) (b:St) (H:Hp) (x:V) (v c d:Value) (lo hi:Option Int) (g:Addr) (Q:VK),Inv X a b H s->RelV x v->s.heap.IsSliceOf g c d .none->zr c lo->zr d hi->r x lo hi H Q ->
  ∃ T id,I_ (.type T) "__getitem__"=pure (some<|.builtin id)/\s.TypeIs v T/\wpAny (model X.prog X.w) X.A (yn v<|.ref g) (EP X a b Q) X.xe s
def SlR.or(h:SlR X r)(h':SlR X l):SlR X (λx lo hi H Q=>r x lo hi H Q\/l x lo hi H Q):=by
 intro n s a H x v b c lo hi d Q I g hs i j q;let q||q:=q
 exact h _ s a H x v b c lo hi d Q I g hs i j q;exact h' _ s a H x v b c lo hi d Q I g hs i j q
def K3(r:V->Option Int->Option Int->Hp->VK->Prop)(te:TE)(tl th:TO):TE:=λa H Q=>te a H λx b=>tl a b λl c=>th a c λu d=>r x l u d Q
def Vy(n:SlR X r)(he:PE X e te)(o:PO X lo tl)(p:PO X hi th):PE X (.Subscript e (.Slice lo hi none p2) pos) (K3 r te tl th):=by
 refine λAA s a H Q I h=>Ce<|AR (he _ s a H _ I h) λv w ⟨x,y,z,A,q1⟩=>(wpAny_Slice<|AR (o _ w a y _ z q1) λd B ⟨l,D,E,J,q2⟩=>AR (p _ B a D _ E q2) λg i c=>?_);let[u,j,L,M,q3]:=c
 have N:Inv X _ a j { i with heap:=i.heap.push { cls:=.type "slice",data:=.fields #[d,g,.none] } }:=L.kept  λb ob q=>ξ _ q;refine ν<|u2 ?_<|n _ _ a j x v d g l u _ Q N A (Ln ..) J M q3;intro T id [O,U,Y];exact tail_any  U O Y (by with_unfolding_all rfl)
def GJ(xs:vE)(lo hi:Option Int):vE:=(xs.drop<|HT.sIx xs.length 0 lo).take (HT.sIx xs.length xs.length hi-HT.sIx xs.length 0 lo)
def nJ(xs:vE)(lo hi:Option Int):(GJ xs lo hi).length<=xs.length:=χ (vd ..) (by rw[ic];exact Nat.sub_le ..)
def nK(K:W.Frag):V->Option Int->Option Int->Hp->VK->Prop:=λx lo hi H Q=>∃ a xs,x=.ref a/\SqT K H a xs /\
 ¬ (HT.sIx xs.length 0 lo=0/\HT.sIx xs.length xs.length hi=xs.length)/\∀ p,H p=none->Q (.ref p) (upd H p<|.tup<|GJ xs lo hi)
def Vz:SlR X (nK X.K):=by
 intro u s w H x v y z lo hi A Q I g hs i j h;revert h;apply u2;intro a xs [rfl,l,n,q];subst g;let[p,r,d,hz]:=I.tuple l
 have c:p.toArray.size=xs.length:=r.length.symm;refine x2 _ _ {jn.lookup,d.typeIs,(HT.getItem_tuple_cut d hs i j (by rw[c];exact n) ?_ (by rw[c];exact hz))};rw[c];exact x2 (.ref _) _ {I.laid  (o:=.tup _) (λb ob q=>ξ _ q) (ο _) {χ (nJ xs lo hi) hz,_,(r.drop _).take _,Ki _ _},rfl,q _<|I.hok.fresh<|ο _}
def WX(K:W.Frag):R2:=λx y H Q=>∃ a b xs ys,x=.ref a/\y=.ref b/\SqT K H a xs/\SqT K H b ys/\xs≠[]/\xs.length+ys.length<=sizeLine /\
 (ys=[]->Q (.ref a) H)/\(ys≠[]->∀ p,H p=none->Q (.ref p) (upd H p<|.tup<|xs++ys))
def Vals.nil_iff(r:Vals xs us):us=[]↔xs=[]:=by
 cases r with
 |nil=>simp
 |cons _ _=>simp
def Wb:CF X (iz .Add) (WX X.K):=by
 intro r s A H x y v u Q I g i h;revert h;apply u4;intro a b xs ys [rfl,rfl,j,l,n,hz,q1,q2];subst g;let[B,d,p,t]:=I.tuple j;subst i;let[D,c,p2,t]:=I.tuple l;exact HT.cat_tup p p2 (λz=>n<|d.nil_iff.mp z) (λz=>x2 (.ref a) H {I,rfl,q1<|c.nil_iff.mp z}) (λz=>(x2 (.ref _) _ {I.laid  (o:=.tup _) (λb ob q=>ξ _ q) (ο _) {by rw[ae];exact hz,_,d.append c,Ki _ _},rfl,q2 (λw=>z<|c.nil_iff.mpr w) _ (I.hok.fresh<|ο _)})) (by rw[<-d.length,<-c.length];exact hz)
end
def HI(n:Nat)(i:Int):Option Nat:=if 0<=i then(if i<n then some i.toNat else none)else if -(n:Int)<=i then some (i+n).toNat else none
def J0{α :Type}(xs:List α)(i:Int):Option α :=(HI xs.length i).bind λj=>xs[j]?
def nQ(h:HI n i=some j):seqIndex? i n=some j/\j<n/\ -(n:Int)<=i/\i<n:=by
 unfold HI at h;by_cases h0:0<=i;rw[if_pos h0]at h;by_cases h1:i<n;rw[if_pos h1]at h
 have e:=μ h;exact{by rw[Ht h0 h1,e],by omega,by omega,h1};rw[if_neg h1]at h;cases h;rw[if_neg h0]at h;by_cases h1: -n<=i;rw[if_pos h1]at h
 have e:=μ h;exact{by rw[Df (by omega) h1,e],by omega,h1,by omega};rw[if_neg h1]at h;cases h
def WY{α :Type}{xs:List α}{i:Int}{v: α}(h:J0 xs i=some v):∃ j,seqIndex? i xs.length=some j/\xs[j]? =some v/\j<xs.length/\ -(xs.length:Int)<=i/\i<xs.length:=by
 unfold J0 at h;cases e:HI _ i with
 |none=>rw[e]at h;cases h
 |some j =>
  rw[e]at h;let[h1,h2,h3,h4]:=nQ e;exact⟨j,h1,h,h2,h3,h4⟩
def SY{α :Type}{xs:List α}{j:Nat}{v: α}(h:xs[j]? =some v):J0 xs (j:Int)=some v:=by
 have e:HI xs.length j=some j:=by
  unfold HI;rw[if_pos (i0),if_pos<|c_.mpr<|(ζ.mp h).1];simp
 unfold J0;rw[e];exact h
def nR(b:Expr):Prop:=∀ o i,zt b false o i=operate [o,i] (yn o i)
def IxR(X:Cx)(r:R2):Prop :=
 ∀ (value slice:Expr) (a:wA) (s:π) (b:St) (H:Hp) (x y:V) (v u:Value) (Q:VK),Inv X a b H s->RelV x v->RelV y u->r x y H Q ->
  zt slice false v u=operate [v,u] (yn v u)->wpAny (model X.prog X.w) X.A (subscriptTail value slice v u) (EP X a b Q) X.xe s
def PN(X:Cx)(id:String)(r:V->vE->Hp->VK->Prop):Prop :=
 ∀ (a:wA) (s:π) (b:St) (H:Hp) (x:V) (xs:vE) (v:Value) (us:vC) (Q:VK),Inv X a b H s->RelV x v->Vals xs us->r x xs H Q ->
  wpAny (model X.prog X.w) X.A (call (.builtin id) (v::us)) (EP X a b Q) X.xe s
section
variable{X:Cx}{a b:Expr}{ta tb:TE}{pos:Pos}
def IxR.or(h:IxR X r)(h':IxR X g):IxR X (λx y H Q=>r x y H Q\/g x y H Q):=by
 intro value slice i s c H x y v u Q I d e q hs;let q||q:=q
 exact h _ _ _ s c H x y v u Q I d e q hs;exact h' _ _ _ s c H x y v u Q I d e q hs
def nS(c:IxR X r)(d:PE X a ta)(e:PE X b tb)(hs:nR b):PE X (.Subscript a b pos) (AD r ta tb):=λp s g H Q I h=>Ce<|WQ d e I h λv u i x y j l n o q=>c a b _ i g j x y v u Q l n o q<|hs _ _
def nT(K:W.Frag):R2:=λx y H Q=>∃ p xs i v,x=.ref p/\y=.int i/\SqL K H p xs/\J0 xs i=some v/\Q v H
def nU(K:W.Frag):R2:=λx y H Q=>∃ p xs i v,x=.ref p/\y=.int i/\SqT K H p xs/\J0 xs i=some v/\Q v H
def nX:R2:=λx y H Q=>∃ z i c,x=.str z/\y=.int i/\z.length<=sizeLine/\J0 z.cps.toList i=some c/\Q (.str {#[c]}) H
def Wc:IxR X (nT X.K):=by
 intro value slice E s n H x y v u Q I o A h hs;revert h;apply u4;intro p xs i z [rfl,rfl,B,he,q];subst o;let[D,r,c,hz]:=I.list B;let[j,h1,h2,h3,h4,h5]:=WY he;let[t,rfl]:=A;let[w,g,d]:=r.get h2
 have l:=r.length
 have J:=O7
 have fin:EP X _ n Q w s:=x2 z H ⟨I,d,q⟩;by_cases h0:0<=i
 have e:i.toNat=j:=by
  rw[Ht h0 h5]at h1;exact μ h1
 exact item_listR c.isList h0 (by lia) (by rw[e];simpa using g) fin hs
 have e:(i+D.toArray.size).toNat=j:=by
  rw[Df (by omega) h4]at h1;rw[ax,<-l];exact μ h1
 exact yp  c.isList.typeIs Di.lookup
  (wpAny_getItem_list_neg  c.isList (by omega) (by rw[ax]<;>exact l ▸ h4) (by lia) (by rw[e];simpa using g) ⟨rfl,fin⟩) hs
def Wd:IxR X (nU X.K):=by
 intro value slice o s A H x y v u Q I e g h hs;revert h;apply u4;intro p xs i z [rfl,rfl,l,he,q];subst e;let[B,r,d,hz]:=I.tuple l;let[j,h1,h2,h3,h4,h5]:=WY he;let[t,rfl]:=g;let[w,n,c]:=r.get h2
 have D:=O7;exact yp  d.typeIs jn.lookup
  (getItem_tuple   d (by lia) (by lia) (by rw[ax,<-r.length];exact h1) (by simpa using n) {rfl,(x2 z H ⟨I,c,q⟩)}) hs
def Wg:IxR X nX:=by
 intro value slice l s n H x y v u Q I d e h hs;revert h;apply u3;intro z i c [rfl,rfl,hz,he,q];let[t,rfl]:=d;let[t',rfl]:=e;let[j,h1,h2,h3,h4,h5]:=WY he
 have g:z.cps.toList.length=z.length:=by simp[yq]
 rw[g]at h1 h4 h5
 have o:=O7;exact tail_any (mn s z t) slot_str_getitem.lookup (getItem_str  (by
  rw[(decide_eq_false (by omega)),(decide_eq_false (by omega)),rg]) (by rw[h1];simpa using h2) (x2 (.str _) H {I.tok _,⟨_,rfl⟩,q})) hs
def nY(K:W.Frag):R2:=λx y H Q=>nT K x y H Q\/nU K x y H Q\/nX x y H Q
def Wh:IxR X (nY X.K):=Wc.or<|Wd.or Wg
def Wj(c:vC)(n j:Nat)(u:Value):mo (·.setIfInBounds j u) { cls:=.type "list",data:=.seq c.toArray n }={ cls:=.type "list",data:=.seq (c.set j u).toArray n }:=by
 simp[mo]
def Inv.lst{d:wA}{g:St}{H:Hp}{s:π}{p:Addr}{xs:vE}(I:Inv X d g H s)(h:H p=some (.lst xs)) :
  ∃ (c:vC) (n:Nat),Vals xs c/\s.heap.get? p=some { cls:=.type "list",data:=.seq c.toArray n }/\xs.length<=sizeLine:=by
 let[z,c,n,r,e]:=I.hok p _ h;exact x2 _ n ⟨r,e,z⟩
def Inv.lstUpd{s:π}{xs ys:vE}{d c:vC}{f:Obj->Obj}(I:Inv X i j H s)(h:H p=some (.lst xs))
  (l:s.heap.get? p=some { cls:=.type "list",data:=.seq d.toArray n }) (hf:f { cls:=.type "list",data:=.seq d.toArray n }={ cls:=.type "list",data:=.seq c.toArray g }) (r:Vals ys c) (hz:ys.length<=sizeLine) (t:Nat) :
  Inv X i j (upd H p<|.lst ys) { s with heap:=s.heap.update p f,toks:=t }:=by
 have e:(s.heap.update p f).get? p=some { cls:=.type "list",data:=.seq c.toArray g }:=by
  rw[du f l (by rw[hf]<;>rfl),hf]
 exact I.write   (by rw[h];trivial) (.inl rfl) (λb u o q=>(cy _ _<|fk o).trans q) ⟨_,e⟩ ({hz,x2 _ g ⟨r,e⟩})
def n0:V->V->V->Hp->(Hp->Prop)->Prop:=λo i v H Q=>∃ p xs k j,o=.ref p/\i=.int k/\H p=some (.lst xs)/\HI xs.length k=some j/\Q (upd H p<|.lst<|xs.set j v)
def Wk:WO X n0:=by
 intro D s w H o i v E iv u Q I x y z h;revert h;apply u4;intro p xs k j [rfl,rfl,g,A,q];subst x;let[t,rfl]:=y;refine u2 ?_<|I.lst g;intro B n [r,c,hz];let[h1,h2,h3,h4]:=nQ A
 have d:=r.length
 have J:=O7
 have l:Inv X _ w _ _ :=
  I.lstUpd g c (Wj _ n j u) (r.set z j) (by rw[ka];exact hz) s.toks
 by_cases h0:0<=k
 have e:k.toNat=j:=by
  rw[Ht h0 h4]at h1;exact μ h1
 exact W.ki_setAt c h0 (by lia) (by rw[ax,<-d];exact h4) (by rw[e];exact⟨_,l,q⟩)
 have e:(k+B.toArray.size).toNat=j:=by
  rw[Df (by omega) h3]at h1;rw[ax,<-d];exact μ h1
 exact W.ki_setBack c (by omega) (by rw[ax,<-d];exact h3) (by lia) (by rw[e];exact⟨_,l,q⟩)
def oE(i:Int)(n d:Nat):max 0 (min (if i<0 then i+n else i) n)=((HT.sIx n d (some i):Nat):Int):=by
 rw[<-HT.clip_eq i n d];by_cases h:i<0;rw[if_pos h,if_pos h,Ie (Int.add_le_of_le_sub_right (by rw[Int.sub_self];exact Cu h)),Int.max_comm];rw[if_neg h,if_neg h,Int.max_eq_right];exact Int.le_min.mpr {wg.mp h,jt _}
def Wl(lo c:Option Int)(n:Nat):(Hu lo c none n).1=((HT.sIx n 0 lo:Nat):Int)/\(Hu lo c none n).2.1=((HT.sIx n n c:Nat):Int)/\(Hu lo c none n).2.2=1:=by
 refine{?_,?_,rfl};cases lo with
 |none=>rfl
 |some i=>exact oE i n 0
 cases c with
 |none=>rfl
 |some i=>exact oE i n n
def Wm(c:vC)(lo d:Option Int):slicePick c.toArray lo d none=((c.drop<|HT.sIx c.length 0 lo).take (HT.sIx c.length c.length d-HT.sIx c.length 0 lo)).toArray:=by
 let[h1,h2,h3]:=Wl lo d _;unfold slicePick;rw[h1,h2,h3];simp only[sliceRange_one,pick_run]<;>rfl
def oF(K:W.Frag):V->Option Int->Option Int->Hp->VK->Prop:=λx lo c H Q=>∃ a xs,x=.ref a/\SqL K H a xs/\∀ p,H p=none->Q (.ref p) (upd H p<|.lst<|GJ xs lo c)
def Wp:SlR X (oF X.K):=by
 intro n s p H x v u w lo e y Q I g hs i j h;revert h;apply u2;intro a xs [rfl,l,q];subst g;let[z,r,c,hz]:=I.list l
 have d:=r.length;refine x2 _ _ {Di.lookup,c.isList.typeIs,(wpAny_getItem_list_slice c.isList hs i j .none (by simp) ?_ (by rw[ax]<;>exact d ▸ hz))};rw[Wm,<-d];exact x2 (.ref _) _ {I.laid  (o:=.lst _) (λb ob q=>ξ _ q) (ο _) ({χ (nJ xs lo e) hz,x2 _ 0 {(r.drop _).take _,ai _ rfl}}),rfl,q _<|I.hok.fresh<|ο _}
def JB:V->Bool
 |.non=>true
 |.bl _=>true
 |.int _=>true
 |.str _=>true
 |_=>false
def J1:V->V->Bool
 |.non,.non=>true
 |.bl a,.bl b=>a==b
 |.bl a,.int b=>(if a then 1 else 0)==b
 |.int a,.bl b=>a ==(if b then 1 else 0)
 |.int a,.int b=>a==b
 |.str a,.str b=>a==b
 |_,_=>false
def Wq(d:RelV y u)(c:RelV x v)(g:JB y=true)(e:JB x=true):Lo A s u v (J1 y x):=by
 cases y with
 |non =>
  cases d;cases x with
  |non=>subst c;exact SeqAt.EqAt.same _
  |bl b=>subst c;exact SeqAt.EqAt.none_bool b
  |int b=>let[t,rfl]:=c;exact SeqAt.EqAt.none_int b t
  |str b=>let[t,rfl]:=c;exact SeqAt.EqAt.none_str b t
  |_=>exact absurd (e) ay
 |bl a =>
  subst d;cases x with
  |non=>subst c;exact SeqAt.EqAt.bool_none a
  |bl b=>subst c;exact SeqAt.EqAt.bool_bool a b
  |int b=>let[t,rfl]:=c;exact SeqAt.EqAt.bool_int a b t
  |str b=>let[t,rfl]:=c;exact SeqAt.EqAt.bool_str a b t
  |_=>exact absurd (show false=true from e) ay
 |int a =>
  let[t',rfl]:=d;cases x with
  |non=>cases c;exact SeqAt.EqAt.int_none a t'
  |bl b=>cases c;exact SeqAt.EqAt.int_bool a t' b
  |int b=>let[t,rfl]:=c;exact SeqAt.EqAt.int_int a t' b t
  |str b=>let[t,rfl]:=c;exact Bt a t' b t
  |_=>exact absurd (show false=true from e) ay
 |str a =>
  let[t',rfl]:=d;cases x with
  |non=>cases c;exact SeqAt.EqAt.str_none a t'
  |bl b=>cases c;exact SeqAt.EqAt.str_bool a t' b
  |int b=>let[t,rfl]:=c;exact Bu a t' b t
  |str b=>let[t,rfl]:=c;exact SeqAt.EqAt.str_str a t' b t
  |_=>exact absurd (show false=true from e) ay
 |_=>exact absurd (show false=true from g) ay
def PQ(x:V)(u:Value):Bool:=match u with
 |.none=>J1 .non x
 |.bool b=>J1 (.bl b) x
 |.int i _=>J1 (.int i) x
 |.str z _=>J1 (.str z) x
 |_=>false
def oI(r:RelV y u)(f:JB y=true):PQ x u=J1 y x:=by
 cases y with
 |non=>subst r;rfl
 |bl b=>subst r;rfl
 |int i=>let[t,rfl]:=r;rfl
 |str z=>let[t,rfl]:=r;rfl
 |_=>exact absurd (f) ay
def oJ:∀ {xs:vE} {us:vC},Vals xs us->xs.all JB=true->us.any (PQ x)=xs.any λy=>J1 y x:=λh f=>by
 induction h with
 |nil=>rfl
 |cons r t c =>
  rw[u_,bz]at f;rw[rj,rj,oI r f.1,c f.2]
theorem WZ(d:RelV x v)(e:JB x=true):∀ {xs:vE} {us:vC},Vals xs us->xs.all JB=true->∀ u∈us,Lo A s u v (PQ x u)
 |_,_,.nil,_=>λu c=>by cases c
 |y::xs,u::us,.cons r t,f=>λg c=>by
  rw[u_,bz]at f;let rfl||c:=aj.mp c
  rw[oI r f.1];exact Wq r d f.1 e;exact WZ d e t f.2 g c
def NK(x:V)(xs:vE):Bool:=xs.any λy=>J1 y x
def oM(K:W.Frag)(neg:Bool):R2:=λx y H Q=>∃ p xs,y=.ref p/\(SqL K H p xs\/SqT K H p xs)/\JB x=true/\xs.all JB=true/\Q (.bl<|if neg then !NK x xs else NK x xs) H
def Wv:CF X (d_ .In) (oM X.K false):=by
 intro n s o H x y v u Q I i l h;revert h;apply u2;intro p xs [rfl,c,j,fs,q];subst l;let c||c:=c
 let[d,r,e,hz]:=I.list c;refine SeqAt.in_listAt _ e.isList (λw g=>WZ i j r fs w (by simpa using g)) (x2 (.bl _) H {I,rfl,?_});rw[show d.toArray.any _=d.any (PQ x) by simp,oJ r fs];exact q;let[d,r,e,hz]:=I.tuple c;refine Ge _ e (λw g=>WZ i j r fs w (by simpa using g)) (x2 (.bl _) H {I,rfl,?_});rw[show d.toArray.any _=d.any (PQ x) by simp,oJ r fs];exact q
def Ww:EN X (.type "list") (λxs H Q=>∃ p ys,xs=[.ref p]/\(SqL X.K H p ys\/SqT X.K H p ys)/\∀ l,H l=none->Q (.ref l) (upd H l<|.lst ys)):=by
 intro A s y H xs us Q I r h;revert h;apply u2;intro p ys [rfl,g,q]
 have fin:∀ (j:List _),Vals ys _->ys.length<=sizeLine->∀ (h':Heap) (d:Nat),(∀ b x,s.heap.get? b=some x->h'.get? b=some x) ->
   h'.get? _=some _->EP X _ y Q _ { s with heap:=h' }:=λj c hz h' d i e =>
  {.ref _,_,I.laid  i (ο _) (show ObjOk _ _ _ h' _ (.lst ys)from{hz,x2 j d ⟨c,e⟩}),rfl,q _<|I.hok.fresh<|ο _}
 let[u,rfl,rfl]:=G0 r;let g||g:=g
 let[j,c,z,hz]:=I.list g;let[o,v,w,n,hd]:=z.isList;exact call_list_seq p (.inl rfl) v w hd (λh' d i e=>fin _ c hz h' d i e) (by simp only[ax]<;>exact c.length ▸ hz);let[j,c,[o,v,w,n,hd],hz]:=I.tuple g;exact call_list_seq p (.inr rfl) v w hd (λh' d i e=>fin _ c hz h' d i e) (by simp only[ax]<;>exact c.length ▸ hz)
def Wx:EN X (.type "tuple") (λxs H Q=>∃ p ys,xs=[.ref p]/\((SqL X.K H p ys/\∀ l,H l=none->Q (.ref l) (upd H l<|.tup ys))\/(SqT X.K H p ys/\Q (.ref p) H))):=by
 intro x s i H xs us Q I r h;revert h;apply u2;intro p ys [rfl,h];let[u,rfl,rfl]:=G0 r;let[c,q]||[c,q]:=h
 let[n,d,g,hz]:=I.list c;refine call_tuple_list g.isList (λh' v=>?_) (by simp only[ax]<;>exact d.length ▸ hz)
 have j:Inv X _ i H { s with heap:=h' }:=I.kept  v
 have w:Inv X _ i (upd H _<|.tup ys) { s with heap:=h'.push _ } :=
  j.laid  (λb o e=>ξ _ e) (ο _) ({hz,_,d,Ki _ _})
 exact x2 (.ref _) _ {w,rfl,q _<|j.hok.fresh<|ο _};let[n,d,g,hz]:=I.tuple c;exact call_tuple_same g<|x2 (.ref p) H ⟨I,rfl,q⟩
def W1(K:W.Frag)(T:String)(x:V)(H:Hp):Prop:=match x with
 |.str _=>T="str"
 |.int _=>T="int"
 |.ref p=>(T="list"/\∃ xs,SqL K H p xs)\/(T="tuple"/\∃ o,K.lookup p=some o/\o.cls=.type "tuple"/\o.dict=none) ∨
   (T="dict"/\((∃ kvs,H p=some (.dK kvs))\/∃ kvs,H p=some (.dT kvs)))\/(T="set"/\∃ S n,H p=some (.set S n))
 |_=>False
def Wy(I:Inv X u w H s)(r:RelV x v)(ty:W1 X.K T x H) :
  s.TypeIs v T/\∀ a,v=.ref a->∃ ob,s.heap.get? a=some ob/\ob.dict=none:=by
 cases x with
 |str z =>
  let[t,rfl]:=r;cases (ty);exact{mn s z t,λ_ e=>nomatch e}
 |int i =>
  let[t,rfl]:=r;cases (ty);exact{yr s i t,λ_ e=>nomatch e}
 |ref p =>
  subst r;let[rfl,xs,l]||[rfl,o,d,q,hd]||[rfl,d]||[rfl,S,n,d]:=ty
  let[y,_,j,_]:=I.list l;refine{j.isList.typeIs,λa e=>?_};cases e;revert j;apply u2;intro o n [e,c,hd,_];exact⟨o,e,hd⟩;refine{{o,I.kIn p o d,q},λa e=>?_};cases e;exact{o,I.kIn _ o d,hd}
  have z:∃ o,s.heap.get? p=some o/\o.ExactDict:=by
   let[kvs,d]||[kvs,d]:=d
   let[_,_,_,_,o,_,_,e,ex,_]:=I.hok p _ d;exact⟨o,e,ex⟩;let[_,_,_,_,o,_,_,e,ex,_]:=I.hok p _ d;exact⟨o,e,ex⟩
  let[o,e,ex]:=z;refine{⟨o,e,ex.1⟩,λa g=>?_};cases g;exact⟨o,e,ex.2.1⟩;refine u4 ?_<|I.hok p _ d;intro o _ _ _ [e,ex,_];refine{⟨o,e,ex.1⟩,λa g=>?_};cases g;exact⟨o,e,ex.2.1⟩
 |_=>exact ju ty
def DQ(K:W.Frag)(T:String)(r:V->vE->Hp->VK->Prop)(to:TE)(t:TA):TE:=λc H Q=>to c H λx d=>W1 K T x d/\t c d λxs e=>r x xs e Q
variable{o e:Expr}{es:yC}{to:TE}{t:TA}{name:Str}{C7 DY:Pos}{T id:String}{r:V->vE->Hp->VK->Prop}
def MF(w:PlainAttrs T)(slot:Slot T name id)(j:typeOf (.builtin id)=pure (.type "method_descriptor"))(y:PN X id r)(z:PE X o to)(A:PA X (e::es) t)
  (d:uz o name X.env (eval o X.env)=eval o X.env:=by rfl)
  (i:((jh DY<|az (e::es) X.env).all (λx=> !x.1)&&(vc DY<|me [] X.env).all (λx=>x.1.isSome)
   && decide ((e::es).length+([]:List An).length+(if([]:List An).isEmpty then 0 else 1)<30))=true:=by rfl)
  (g:(C7.endLine==DY.line)=true:=by rfl) (hs:az (e::es) X.env=(false,eval e X.env)::az es X.env:=by rfl) (c:(jh DY<|az es X.env).any (·.1)=false:=by rfl) :
  PE X (.Call (.Attribute o name C7) (e::es) [] DY) (DQ X.K T r to t):=by
 refine λN s l H Q I h=>wpAny_Call_method_late d i g rfl<|AR (z _ s l H _ I h) λv B n=>?_;let[x,D,p,q,ty,q1]:=n;let[h1,h2]:=Wy p q ty
 have u:=A DY _ B l D _ p q1;refine x2 T id {w,slot,j,h1,h2,?_};rw[hs]at u ⊢;exact ua (by show(false||(jh _ _).any _)=false;rw[c]<;>rfl) (om (AR u (by intro us E [vs,J,L,M,q2];exact y _ E l J x vs v us Q L q M q2)))
end
def SZ(X:Cx)(id:String)(r:V->vE->Hp->VK->Prop):Prop :=
 ∀ (a:wA) (s:π) (b:St) (H:Hp) (x:V) (xs:vE) (v:Value) (us:vC) (Q:VK),Inv X a b H s->RelV x v->Vals xs us->r x xs H Q ->
  wpAny (model X.prog X.w) X.A (call (.builtin id) (v::us)) (EP X a b Q) X.xe s
def Vals.one:∀ {x:V} {us:vC},Vals [x] us->∃ u,us=[u]/\RelV x u:=λh=>by
 let[u,m,rfl,r,h]:=SJ h;rw[SK h];exact⟨_,rfl,r⟩
theorem Vals.eraseIdx:∀ {xs:vE} {us:vC} (i:Nat),Vals xs us->Vals (xs.eraseIdx i) (us.eraseIdx i)
 |_,_,_,.nil=>.nil
 |_,_,0,.cons _ t=>t
 |_,_,i+1,.cons r t=>.cons r<|Vals.eraseIdx i t
theorem Vals.rep(h:Vals xs us):∀ k:Nat,Vals (ba k xs).flatten (ba k us).flatten
 |0=>.nil
 |k+1=>Vals.append h<|Vals.rep h k
theorem S0(b:vC):∀ (k:Nat) (a:vC),
  yt (λc x2=>c++x2) a.toArray (ba k b.toArray)=(a++(ba k b).flatten).toArray
 |0,a=>by simp
 |k+1,a=>by
  have e:a.toArray++b.toArray=(a++b).toArray:=by simp
  have d:(a++b)++(ba k b).flatten=a++(ba (k+1) b).flatten:=by
   rw[lq,ii,dt]
  rw[<-d,<-S0 _ k _,<-e,lq,fq]
section
variable{X:Cx}{AA:wA}{σ:St}{H:Hp}{s:π}{l b:Addr}{xs ys zs:vE}
def Inv.lset{c a:vC}{n:Nat}{f:Array Value->Array Value}{t':Nat}(I:Inv X AA σ H s)(d:H l=some (.lst xs))
  (e:s.heap.get? l=some { cls:=.type "list",data:=.seq c.toArray n }) (hf:f c.toArray=a.toArray) (g:Vals ys a) (hz:ys.length<=sizeLine) :
  Inv X AA σ (upd H l<|.lst ys) { s with heap:=s.heap.update l<|mo f,toks:=t' }:=by
 have q:=PySem.IsL.update e f;rw[hf]at q;exact I.write   (by rw[d];exact trivial) (.inl rfl) (λo u i j=>(cy _ _<|fk i).trans j) ⟨_,q⟩ ({hz,x2 _ _ ⟨g,q⟩})
def Inv.lnew(I:Inv X AA σ H s)(a:Vals ys c)(hz:ys.length<=sizeLine) :
  Inv X AA σ (upd H s.heap.objs.size<|.lst ys) { s with heap:=s.heap.push { cls:=.type "list",data:=.seq c.toArray },toks:=t' } :=
 I.laid (λz z q=>ξ _ q) (ο _) {hz,x2 _ 0 {a,ai _ rfl}}
def Inv.fresh(I:Inv X AA σ H s):H s.heap.objs.size=none:=I.hok.fresh<|ο _
def Inv.lstM(I:Inv X AA σ H s)(c:H l=some (.lst xs)):xs.length<=sizeLine/\∃ (a:vC) (n:Nat),Vals xs a/\xs.length=a.length/\s.heap.get? l=some { cls:=.type "list",data:=.seq a.toArray n }:=by
 let[z,a,n,r,e]:=I.hok l _ c;exact{z,x2 _ n ⟨r,r.length,e⟩}
def oN{n:Nat}(h:n<=sizeLine):kz n=false:=decide_eq_false<|Iq.mpr h
end
section
variable{X:Cx}
def oO:V->vE->Hp->VK->Prop:=λx vs H Q=>∃ l xs y,x=.ref l/\vs=[y]/\H l=some (.lst xs)/\xs.length<sizeLine/\Q .non (upd H l<|.lst<|xs++[y])
def Wz:SZ X "list.append" oO:=by
 intro i s j H x vs v us Q I b c h;revert h;apply u3;intro l xs y [rfl,rfl,a,hz,q];subst b;let[u,rfl,d]:=c.one;let[z,o,n,r,g,e]:=I.lstM a;refine ik F.slot_list_append ⟨_,e,rfl⟩ F.entry_list_append (F.args_list_append_2 _ _) (PySem.list_append l _ n u<|oB (cj (a_ g.symm) hz) rfl) {e,(x2 (.non) _ {I.lset  a e (by simp) (r.append<|.cons d .nil) ?_,rfl,q})};rw[ae];exact hz
def W2:R2:=λx y H Q=>∃ l b xs a,x=.ref l/\y=.ref b/\H l=some (.lst xs)/\H b=some (.lst a)/\xs.length+a.length<=sizeLine/\∀ p,H p=none->Q (.ref p) (upd H p<|.lst<|xs++a)
def Xb:CF X (iz .Add) W2:=by
 intro D s E H x y v u Q I d g h;revert h;apply u4;intro l b xs J [rfl,rfl,i,j,hz,q];subst d;let[z,a,n,r,o,e]:=I.lstM i;subst g;let[L,c,M,p,w,A]:=I.lstM j
 have B:a.toArray++c.toArray=(a++c).toArray:=by simp
 refine PySem.P.add_list e A ?_ (by rw[ax,ax];exact o ▸ w ▸ hz);rw[B];exact x2 (.ref _) _ {I.lnew  (r.append p) (by rw[ae];exact hz),rfl,q _ I.fresh}
def W3:R2:=λx y H Q=>∃ l k xs,x=.ref l/\y=.int k/\H l=some (.lst xs)/\ -(2^63)<=k/\k<2^63/\xs.length*k.toNat<=sizeLine /\
 ∀ p,H p=none->Q (.ref p) (upd H p<|.lst (ba k.toNat xs).flatten)
def oP{α :Type}(xs:List α)(k:Nat):(ba k xs).flatten.length=k*xs.length:=by
 induction k with
 |zero=>simp
 |succ k a=>rw[lq,ii,ae,a,ub,uc]
def Xc:CF X (iz .Mult) W3:=by
 intro J s L H x y v u Q I j o h;revert h;apply u3;intro l k xs [rfl,rfl,p,h1,h2,hz,q];subst j;let[t,rfl]:=o;let[z,b,n,r,w,e]:=I.lstM p
 have A:b.toArray.size*k.toNat<=sizeLine:=by rw[ax,<-w];exact hz
 have d:¬ b.toArray.size*k.toNat >(2^63-1)/8:=by
  have:sizeLine<=(2^63-1)/8:=by decide
  lia
 have g:¬ (!Builtin.List.listFitsIndex k)=true:=by
  rw[fitsIndex_both h1 h2];exact ay
 have c:¬ kz (b.toArray.size*k.toNat)=true:=by
  rw[oN A];exact ay
 have i:yt (λB x2=>B++x2) #[] (ba (if b.toArray.isEmpty=true then 0 else k.toNat) b.toArray)=(ba k.toNat b).flatten.toArray:=by
  have D:=λm=>by
   have:=S0 b m [];rw[r_]at this;exact this
  rw[D];cases b with
  |nil=>simp
  |cons a M=>rw[if_neg (by simp)]
 refine wy   (by decide) ⟨_,e,rfl⟩ (λE=>yr E k t) noFill_list_mul F.fills_int_mul F.slot_int_rmul repeat_list F.slot_int_index.lookup
  (ik F.slot_int_rmul (yr s k t) F.entry_int_rmul (F.args_int_rmul_2 _ _) (int___rmul___int_list k t l _ n)
   {e,rfl,⟨_,e,rfl⟩,ik F.slot_list_mul ⟨_,e,rfl⟩ F.entry_list_mul (F.args_list_mul_2 _ _) (AutoListH.list___mul___list_int_3 l _ n k t g d c) {e,?_}})
 rw[i];exact x2 (.ref _) _ {I.lnew  (r.rep _) (by rw[oP,da];exact hz),rfl,q _ I.fresh}
end
section
variable{prog:bv}{w:World}{A:df}{E:wB}{s:π}
set_option maxRecDepth 100000 in
end
section
variable{X:Cx}
end
section
variable{κ :Type}[DecidableEq κ]
def BG(kvs:List (κ × V))(k: κ):Option V:=(kvs.find? λa=>decide<|a.1=k).map (·.2)
def CD(kvs:List (κ × V))(k: κ)(v:V):List (κ × V) :=
 if(kvs.any λa=>decide<|a.1=k)=true then kvs.map (λa=>if a.1=k then(a.1,v)else a)else kvs++[(k,v)]
def W8:BG ([]:List (κ × V)) k=none:=rfl
def ID{p: κ × V}{r:List (κ × V)}{k: κ}(e:p.1=k):BG (p::r) k=some p.2:=by simp[BG,e]
def IE{p: κ × V}{r:List (κ × V)}{k: κ}(e:¬ p.1=k):BG (p::r) k=BG r k:=by simp[BG,e]
theorem K4(k: κ):∀ kvs:List (κ × V),(kvs.any λa=>decide<|a.1=k)=(BG kvs k).isSome
 | []=>rfl
 |p::r=>by
  rw[rj];by_cases e:p.1=k;simp only[ID e,decide_eq_true e,ph,Option.isSome_some];rw[IE e,decide_eq_false e];exact K4 k r
theorem oQ(k j: κ)(y:V):∀ kvs:List (κ × V),BG (kvs.map λa=>if a.1=k then(a.1,y)else a) j=(BG kvs j).map λx=>if j=k then y else x
 | []=>rfl
 |p::r=>by
  have b:=oQ k j y r;rw[cg];by_cases h:p.1=k;rw[if_pos h];by_cases e:p.1=j;rw[ID (p:=(p.1,y)) e,ID e,si,if_pos<|e.symm.trans h];rw[IE (p:=(p.1,y)) e,IE e,b];rw[if_neg h];by_cases e:p.1=j;rw[ID  e,ID e,si,if_neg<|λz=>h<|e.trans z];rw[IE  e,IE e,b]
theorem oR(k j: κ)(y:V):∀ kvs:List (κ × V),BG kvs k=none->BG (kvs++[(k,y)]) j=if j=k then some y else BG kvs j
 | [],_=>by
  by_cases e:k=j;rw[if_pos e.symm];exact ID  e;rw[if_neg (λz=>e z.symm)];exact IE  e
 |p::r,a=>by
  have b:¬ p.1=k:=λz=>by rw[ID z]at a;cases a
  rw[pi];rw[IE b]at a;by_cases e:p.1=j;rw[ID e,ID e,if_neg<|λz=>b<|e.trans z];rw[IE e,IE e,(oR k j y r a)]
def G1(kvs:List (κ × V))(k j: κ)(y:V):BG (CD kvs k y) j=if j=k then some y else BG kvs j:=by
 unfold CD;by_cases a:(kvs.any λb=>decide<|b.1=k)=true;rw[if_pos a,oQ];rw[K4]at a;by_cases e:j=k;let[x,c]:=dg.mp a;rw[if_pos e,e,c,si,if_pos rfl];rw[if_neg e];cases BG _ j with
 |none=>rfl
 |some x=>rw[si,if_neg e]
 rw[if_neg a];refine oR k j y _ ?_;rw[K4]at a;cases q:BG _ k with
 |none=>rfl
 |some x=>rw[q]at a;exact(a rfl).elim
def HJ(kvs:List (κ × V))(k: κ)(v:V):(CD kvs k v).length<=kvs.length+1:=by
 unfold CD;split;rw[ε];exact jr _;rw[ae,bw];exact fu _
def oU{kvs:List (κ × V)}{k: κ}(v:V)(h:BG kvs k=none):CD kvs k v=kvs++[(k,v)]:=by
 unfold CD;rw[K4,h];exact if_neg (by decide)
def RelO.isSome_eq(r:RelO o u):o.isSome=u.isSome:=by
 cases o with
 |none=>cases u with
  |none=>rfl
  |some _=>exact(r).elim
 |some _=>cases u with
  |none=>exact(r).elim
  |some _=>rfl
theorem RelO.getD(r:RelO o u)(a:RelV d b):RelV (o.getD d) (u.getD b):=by
 cases o with
 |none=>cases u with
  |none=>exact a
  |some _=>exact(r).elim
 |some _=>cases u with
  |none=>exact(r).elim
  |some _=>exact r
def KV.val{kvs:List (κ × V)}{vs:List (κ × Value)}(r:KV kvs vs)(k: κ):RelO (BG kvs k) (Dn vs k):=by
 induction r with
 |nil=>exact sx
 |@cons p q ps a h t c =>
  let[h1,h2]:=h;by_cases e:p.1=k
  have b:Dn (q::a) k=some q.2:=by simp[Dn,(h1.symm.trans e)]
  rw[ID e,b];exact h2
  have d:¬ q.1=k:=λz=>e<|h1.trans z
  have b:Dn (q::a) k=Dn a k:=by simp[Dn,d]
  rw[IE e,b];exact c
theorem KV.any{kvs:List (κ × V)}{vs:List (κ × Value)}(r:KV kvs vs)(k: κ):(kvs.any λa=>decide<|a.1=k)=vs.any λa=>decide (a.1=k):=by
 induction r with
 |nil=>rfl
 |cons h t b=>rw[rj,rj,b,h.1]
def KV.repl(r:KV kvs vs)(k: κ)(b:RelV y u) :
  KV (kvs.map λa=>if a.1=k then(a.1,y)else a) (vs.map λa=>if a.1=k then(a.1,u)else a):=by
 induction r with
 |nil=>exact .nil
 |@cons p q ps d h t c =>
  rw[cg,cg];refine .cons ?_ c;let[h1,h2]:=h;by_cases e:p.1=k;rw[if_pos e,if_pos<|h1.symm.trans e];exact⟨h1,b⟩;rw[if_neg e,if_neg<|λz=>e<|h1.trans z];exact⟨h1,h2⟩
def KV.put(r:KV kvs vs)(k: κ)(a:RelV y u):KV (CD kvs k y) (stored vs k u):=by
 unfold CD stored;rw[r.any k];by_cases e:(vs.any λb=>decide<|b.1=k)=true;rw[if_pos e,if_pos e];exact r.repl k a;rw[if_neg e,if_neg e];exact Paired.snoc r ⟨rfl,a⟩
def KV.length{kvs:List (κ × V)}{vs:List (κ × Value)}(r:KV kvs vs):kvs.length=vs.length:=Paired.length r
end
def MG(r:RelV (kV k) u):(EE P w).is k u=true:=by
 cases k with
 |inl i=>let[t,rfl]:=(r);exact Pp P w i t
 |inr x=>let[t,rfl]:=(r);exact Pq P w x t
theorem oV:∀ {a:List AN} {us:vC},Vals (a.map kV) us->ItemsAre (EE P w) a us
 | [],_,r=>by cases r;exact .nil
 |k::a,_,r=>by
  cases r with
  |cons h t=>exact .cons (MG h) (oV t)
abbrev KT(H:Hp):uA->bA->Prop:=Paired λp q=>p.1=q.1/\H q.2.1=some (.tup<|p.1.map kV)/\RelV p.2 q.2.2
def KT.val{H:Hp}{kvs:uA}{xs:bA}(r:KT H kvs xs)(k:List AN):RelO (BG kvs k) ((atKey xs k).map (·.2)):=by
 induction r with
 |nil=>exact sx
 |@cons p q ps a h t c =>
  let[h1,y,h2]:=h;by_cases e:p.1=k
  have b:atKey (q::a) k=some q.2:=by simp[atKey,(h1.symm.trans e)]
  rw[ID e,b];exact h2
  have d:¬ q.1=k:=λz=>e<|h1.trans z
  have b:atKey (q::a) k=atKey a k:=by simp[atKey,d]
  rw[IE e,b];exact c
def KT.repl(r:KT H kvs xs)(k:List AN)(b:RelV y u) :
  KT H (kvs.map λa=>if a.1=k then(a.1,y)else a) (xs.map<|putAt k u):=by
 induction r with
 |nil=>exact .nil
 |@cons p q ps d h t c =>
  rw[cg];let[h1,h2,h3]:=h;refine .cons ?_ c;unfold putAt;by_cases e:p.1=k;rw[if_pos e,if_pos<|h1.symm.trans e];exact⟨h1,h2,b⟩;rw[if_neg e,if_neg<|λz=>e<|h1.trans z];exact⟨h1,h2,h3⟩
def KT.put(r:KT H kvs xs)(k:List AN)(c:H b=some (.tup<|k.map kV))(a:RelV y u) :
  KT H (CD kvs k y) (xi xs k b u):=by
 have e:(kvs.any λd=>decide<|d.1=k)=(atKey xs k).isSome:=by
  rw[K4,(r.val k).isSome_eq,ud]
 unfold CD xi;rw[e];by_cases q:(atKey xs k).isSome=true;rw[if_pos q,if_pos q];exact r.repl k a;rw[if_neg q,if_neg q];exact Paired.snoc r ⟨rfl,c,a⟩
def KT.keeps(r:KT H kvs xs)(a:∀ b ys,H b=some (.tup ys)->c b=some (.tup ys)):KT c kvs xs :=
 Paired.mapP r λy y z=>{z.1,a _ _ z.2.1,z.2.2}
section
variable{P:bv}{w:World}{H:Hp}{h:Heap}{a:Addr}
def oX(ok:HOk P w H h)(e:Rd H a u):ObjOk P w H h a u:=e.ok ok
def J3(ok:HOk P w H h)(e:Rd H a (.dK kvs)):kvs.length<=sizeLine/\(a==gb)=false/\∃ vs,KV kvs vs/\h.DictOf (EE P w) a vs :=
 oX ok e
def Xd(ok:HOk P w H h)(e:H a=some (.dK kvs)):kvs.length<=sizeLine/\(a==gb)=false/\∃ vs,KV kvs vs/\h.DictOf (EE P w) a vs:=J3 ok<|.inl e
def K5(ok:HOk P w H h)(e:H a=some (.tup<|b.map kV)):(pe<|EE P w).is h b a:=by
 let[z,c,r,o,h1,h2,n,h3]:=(ok a _ e)
 exact x3 o _ n {h1,h2,h3,oV r}
def K6(ok:HOk P w H h)(e:Rd H a (.dT kvs)):kvs.length<=sizeLine/\(a == gb)=false /\
  ∃ xs,KT H kvs xs/\h.DictOfH (pe<|EE P w) a xs:=by
 let[z,y,xs,r,o,d,g,h1,h2,h3,h4,h5]:=(oX ok e)
 refine{z,y,xs,r,x3 o d g {h1,h2,h3,h4,λx b=>?_,h5}}
 have all:∀ {l:List _} {m:List _},KT H l m->∀ x∈m,(pe<|EE P w).is h x.1 x.2.1:=by
  intro l m q
  induction q with
  |nil=>intro x b;exact nomatch b
  |@cons p q ps j c t i =>
   intro x b;let e||b:=aj.mp b
   subst e;exact K5 ok (by rw[<-c.1];exact c.2.1);exact i x b
 exact all r x b
def S5(ok:HOk P w H h)(e:H a=some (.dT kvs)):kvs.length<=sizeLine/\(a==gb)=false /\
  ∃ xs,KT H kvs xs/\h.DictOfH (pe<|EE P w) a xs:=K6 ok<|.inl e
end
def DGet(H:Hp)(a:Addr)(y:V)(r:Option V):Prop :=
 (∃ kvs k,Rd H a (.dK kvs)/\y=kV k/\r=BG kvs k)\/∃ kvs k b,Rd H a (.dT kvs)/\y=.ref b/\H b=some (.tup<|k.map kV)/\r=BG kvs k
def DPut(H:Hp)(a:Addr)(y v:V)(c:Hp):Prop :=
 (∃ kvs k,H a=some (.dK kvs)/\y=kV k/\kvs.length<sizeLine/\c=upd H a (.dK<|CD kvs k v)) ∨
 ∃ kvs k b,H a=some (.dT kvs)/\y=.ref b/\H b=some (.tup<|k.map kV)/\kvs.length<sizeLine/\c=upd H a (.dT<|CD kvs k v)
def DGet.k{H:Hp}{a:Addr}{kvs:yB}{k:AN}(e:H a=some (.dK kvs)):DGet H a (kV k) (BG kvs k):=.inl<|x2 _ k {.inl e,rfl,rfl}
def DGet.t{H:Hp}{a b:Addr}{kvs:uA}{k:List AN}(e:H a=some (.dT kvs))(c:H b=some (.tup<|k.map kV)):DGet H a (.ref b) (BG kvs k):=.inr<|x3 _ k b {.inl e,rfl,c,rfl}
def DPut.k{H:Hp}{a:Addr}{kvs:yB}{k:AN}{v:V}(e:H a=some (.dK kvs))(b:kvs.length<sizeLine):DPut H a (kV k) v (upd H a<|.dK<|CD kvs k v):=.inl<|x2 _ k ⟨e,rfl,b,rfl⟩
def DPut.t{H:Hp}{a b:Addr}{kvs:uA}{k:List AN}{v:V}(e:H a=some (.dT kvs))(c:H b=some (.tup<|k.map kV))(d:kvs.length<sizeLine) :
  DPut H a (.ref b) v (upd H a<|.dT<|CD kvs k v):=.inr<|x3 _ k b ⟨e,rfl,c,d,rfl⟩
section
variable{X:Cx}{AA:wA}{σ:St}{H:Hp}{s:π}{a:Addr}{y v:V}{u r:Value}{o:Option V}{A:df}{E:wB}
def Inv.big(I:Inv X AA σ H s):gb<s.heap.objs.size:=yu (by decide) ((I.mod.glob.keeps I.bk).lt)
def Xg(w:A.units+1<cLine)(I:Inv X AA σ H s)(g:DGet H a y (some v))(n:RelV y u)(h:∀ d q,Inv X AA σ H q->RelV v d->Q d q) :
  wpAny (model X.prog X.w) A (yn (.ref a) u) Q E s:=by
 let[kvs,k,e,i,l]||[kvs,k,b,e,i,x,l]:=g
 let[z,hd,vs,rel,dd]:=J3 I.hok e;let[d,j,c]:=RelO.some_of   (by rw[l];exact rel.val k);subst i;exact wpAny_getItem_of (MG n) dd.mapOf j (h d _ (I.tok _) c);subst i;let[z,hd,xs,rel,dd]:=K6 I.hok e;let[d,j,c]:=RelO.some_of   (by rw[l];exact rel.val k);cases (n);let[p,B,D]:=af.mp j;refine wpAny_getItem_heap (jd w) (K5 I.hok x) dd B ?_;rw[D];exact h d _ (I.tok _) c
def Xh(j:A.units+1<cLine)(I:Inv X AA σ H s)(g:DGet H a y o)(d:RelV y u)(h:∀ i,Inv X AA σ H i->Q (.bool o.isSome) i) :
  wpAny (model X.prog X.w) A (d_ .In u<|.ref a) Q E s:=by
 let[kvs,k,e,c,l]||[kvs,k,b,e,c,n,l]:=g
 subst c;let[z,hd,vs,rel,dd]:=J3 I.hok e;refine wpAny_in_of (MG d) hd dd.mapOf ?_;rw[<-(rel.val k).isSome_eq,<-l];exact h _<|I.tok _;subst c;let[z,hd,xs,rel,dd]:=K6 I.hok e;cases (d)
 have q:=(rel.val k).isSome_eq;refine wpAny_in_heap (jd j) (K5 I.hok n) hd dd ?_;rw[ud]at q;rw[<-q,<-l];exact h _<|I.tok _
def Xj(j:A.units+1<cLine)(I:Inv X AA σ H s)(g:DGet H a y o)(d:RelV y u)(h:∀ i,Inv X AA σ H i->Q (.bool<|!o.isSome) i) :
  wpAny (model X.prog X.w) A (d_ .NotIn u<|.ref a) Q E s:=by
 let[kvs,k,e,c,l]||[kvs,k,b,e,c,n,l]:=g
 subst c;let[z,hd,vs,rel,dd]:=J3 I.hok e;refine wpAny_notIn_of (MG d) hd dd.mapOf ?_;rw[<-(rel.val k).isSome_eq,<-l];exact h _<|I.tok _;subst c;let[z,hd,xs,rel,dd]:=K6 I.hok e;cases (d)
 have q:=(rel.val k).isSome_eq;refine wpAny_notIn_heap (jd j) (K5 I.hok n) hd dd ?_;rw[ud]at q;rw[<-q,<-l];exact h _<|I.tok _
def S6(I:Inv X AA σ H s)(c:O1 (H a))(hs:gj a s.heap h')(he:∃ q,h'.get? a=some q)(new:ObjOk X.prog X.w (upd H a ob) h' a ob) :
  Inv X AA σ (upd H a ob) { s with heap:=h',toks:=t' } :=
 I.write   c (.inl rfl) (λb q d z=>(hs.2 b d).trans z) he new
def oY(z:kvs.length<=sizeLine)(hd:(a==gb)=false)(rel:KV kvs vs)(dd:h'.DictOf (EE P w) a vs) :
  ObjOk P w b h' a (.dK kvs):=⟨z,hd,vs,rel,dd⟩
def Xk(J:A.units+1<cLine)(I:Inv X AA σ H s)(g:DPut H a y v L)(p:RelV y u)(w:RelV v r)(h:∀ x,Inv X AA σ L x->Q () x) :
  wpAny (model X.prog X.w) A (K_ (.ref a) u r) Q E s:=by
 let[kvs,k,e,j,l,n]||[kvs,k,b,e,j,B,l,n]:=g
 let[z,hd,vs,rel,dd]:=Xd I.hok e;subst j n;exact wpAny_setItem_pairs (hsz:=(by rw[<-rel.length];exact z)) (MG p) dd λh' d hs=>h _ (S6 I (by rw[e];exact sx) hs (let ⟨q,_,_,i,_⟩:=d;⟨q,i⟩) (oY (χ (HJ _ k v) l) hd (rel.put k w) d));subst j n;let[z,hd,xs,rel,dd]:=S5 I.hok e;cases (p);refine wpAny_setItem_heap (hsz:=(by rw[<-Paired.length rel];exact z)) (jd J) (K5 I.hok B) dd λh' d hs=>h _ ?_;revert d;apply u3;intro q M N [i,h2,h3,h4,_,h5];refine S6 I (by rw[e];exact sx) hs ⟨q,i⟩ {(χ (HJ _ k v) l),hd,_,(rel.put k B w).keeps λc ys D=>?_,x3 q M N ⟨i,h2,h3,h4,h5⟩};rw[AI (BJ D e (λz=>nomatch z))];exact D
end
section
variable{X:Cx}{AA:wA}{σ:St}{H:Hp}{s:π}{a:Addr}{kvs:yB}{k:AN}{u:Value}{A:df}{E:wB}
end
def oZ(i:Expr):Prop:=∀ a iv,zt i false a iv=operate [a,iv] (yn a iv)
def Xl{prog:bv}{w:World}{A:df}{E:wB}{s:π}{env:Env}{value slice:Expr}{pos:Pos}{T id:String}{Q:wB}
  (j:I_ (.type T) "__getitem__"=pure (some<|.builtin id)) (hs:oZ slice)
  (h:wpAny (model prog w) A (eval value env) (λo c=>wpAny (model prog w) A (eval slice env) (λi a=>a.TypeIs o T/\wpAny (model prog w) A (yn o i) Q E a) E c) E s) :
  wpAny (model prog w) A (eval (.Subscript value slice pos) env) Q E s:=by
 refine Ce<|oa h (λo c e=>oa e (λi a b=>?_) λz z x=>x) λz z x=>x;let[l,b]:=b
 have fin:wpAny (model prog w) A (zt slice false o i) (λr d=>wpAny (model prog w) A (letTemporaryGo value o r>>=λz=>pure r) Q E d) E a:=by
  rw[hs o i];exact wpAny_operating<|oa b (λr d g=>δ<|wpAny_letTemporaryGo<|ν g) λz z x=>x
 refine δ<|δ<|vj l j ?_
 first
  |exact ν<|δ fin
  |exact δ _
  |exact δ _
def Xm(I:Inv X c d H s)(g:DGet H a y o):s.TypeIs (.ref a) "dict":=by
 let[kvs,k,e,_,_]||[kvs,k,b,e,_,_,_]:=g
 let[z,z,vs,z,dd]:=J3 I.hok e;exact dd.typeIs;let[z,z,xs,z,dd]:=K6 I.hok e;exact dd.typeIs
def PR(d ty:TE):TE:=λb H Q=>d b H λx e=>ty b e λy c=>∃ a v,x=.ref a/\DGet c a y (some v)/\Q v c
def PU(ty d:TE):TE:=λb H Q=>ty b H λy e=>d b e λx c=>∃ a o,x=.ref a/\DGet c a y o/\Q (.bl o.isSome) c
def PY(ty d:TE):TE:=λb H Q=>ty b H λy e=>d b e λx c=>∃ a o,x=.ref a/\DGet c a y o/\Q (.bl<|!o.isSome) c
def PZ(d ty e:TE):TS:=λD b H=>e b H λv g=>d b g λx i=>ty b i λy j=>∃ a c,x=.ref a/\DPut j a y v c/\D.nx b c
section
variable{X:Cx}{o i e value:Expr}{pos pos' tpos:Pos}{td ty tv:TE}
def Xp(l:X.A.units+1<cLine)(n:PE X o td)(p:PE X i ty)(hs:oZ i):PE X (.Subscript o i pos) (PR td ty):=by
 refine λJ s d H Q I h=>Xl PySem.F.slot_dict_getitem.lookup hs<|AR (n _ s d H _ I h) λu q ⟨x,r,w,z,q1⟩=>AR (p _ q d r _ w q1) λiv L b=>?_;let[y,B,j,D,a,v,rfl,g,q2]:=b;obtain rfl:u=ff a:=z;exact{Xm j g,Xg l j g D λM N E c=>x2 v B ⟨E,c,q2⟩}
def Xq(d:X.A.units+1<cLine)(j:PE X i ty)(l:PE X o td):PC X .In i o (PU ty td):=by
 refine λD s c H Q I h=>AR (j _ s c H _ I h) λiv n ⟨y,p,q,r,q1⟩=>AR (l _ n c p _ q q1) λu E b=>?_;let[x,v,w,z,a,J,rfl,g,q2]:=b;obtain rfl:u=ff a:=z;exact Xh d w g r λL B=>x2 (.bl _) v ⟨B,rfl,q2⟩
def Xv(d:X.A.units+1<cLine)(j:PE X i ty)(l:PE X o td):PC X .NotIn i o (PY ty td):=by
 refine λD s c H Q I h=>AR (j _ s c H _ I h) λiv n ⟨y,p,q,r,q1⟩=>AR (l _ n c p _ q q1) λu E b=>?_;let[x,v,w,z,a,J,rfl,g,q2]:=b;obtain rfl:u=ff a:=z;exact Xj d w g r λL B=>x2 (.bl _) v ⟨B,rfl,q2⟩
def Xw(d:X.A.units+1<cLine)(j:PE X o td)(l:PE X i ty)(n:PE X value tv)(hs:v_ value (some<|.Subscript o i pos') pos.line X.env=pure false) :
  PS X (.Assign [.Subscript o i pos'] value pos) (PZ td ty tv):=by
 refine λT s b H D I h=>wpAny_Assign_Subscript (AR (n _ s b H _ I h) λr p ⟨v,q,w,z,q1⟩=>AR (j _ p b q _ w q1) λu B ⟨x,E,J,L,q2⟩=>AR (l _ B b E _ J q2) λiv U c=>?_) hs;let[y,Y,M,N,a,O,rfl,g,q3]:=c;obtain rfl:u=ff a:=L;exact Xk d M g N z λs4 Q=>x2 b O ⟨Q,q3⟩
end
def Xx(h:Heap)(a:gb<h.objs.size):ObjOk P w H (h.push { cls:=.type "dict",data:=.dict #[] }) h.objs.size (.dK []) :=
 {bg _,beq_eq_false_iff_ne.mpr<|fk<|bh a,[],.nil,Heap.DictOf.new h}
def o5(h:Heap)(a:gb<h.objs.size):ObjOk P w H (h.push { cls:=.type "dict",data:=.dict #[] }) h.objs.size (.dT []) :=
 {bg _,beq_eq_false_iff_ne.mpr<|fk<|bh a,[],.nil,_,_,0,ai _ rfl,⟨rfl,rfl,rfl⟩,rfl,rfl,jv}
def IF:TE:=λ_ H Q=>∀ p,H p=none->Q (.ref p) (upd H p<|.dK [])
def NL:TE:=λ_ H Q=>∀ p,H p=none->Q (.ref p) (upd H p<|.dT [])
section
variable{X:Cx}{pos:Pos}
def Xy:PE X (.Dict [] [] pos) IF:=λa s b H Q I h =>
 Gf (x2 (.ref _) _ {I.laid    (λz z q=>ξ _ q) (ο _) (Xx _ I.big),rfl,h _<|I.hok.fresh<|ο _})
def Xz:PE X (.Dict [] [] pos) NL:=λa s b H Q I h =>
 Gf (x2 (.ref _) _ {I.laid    (λz z q=>ξ _ q) (ο _) (o5 _ I.big),rfl,h _<|I.hok.fresh<|ο _})
end
def MH:List (TE × TE)->St->Hp->(List (V × V)->Hp->Prop)->Prop
 | [],_,H,Q=>Q [] H
 |(tk,b)::r,a,H,Q=>tk a H λx c=>b a c λy d=>MH r a d λps e=>Q ((x,y)::ps) e
abbrev VV:List (V × V)->List (Value × Value)->Prop:=Paired λp q=>RelV p.1 q.1/\RelV p.2 q.2
def S7(X:Cx)(pos:Pos)(keys:List (Option Expr))(values:yC)(a:List (TE × TE)):Prop :=
 ∀ (c:wA) (s:π) (b:St) (H:Hp) (Q:List (V × V)->Hp->Prop),Inv X c b H s->MH a b H Q ->
  wpAny (model X.prog X.w) X.A (evalPairs<|pairTrees keys values X.env pos) (λvs e=>∃ ps d,Inv X c b d e/\VV ps vs/\Q ps d) X.xe s
def Yb:S7 X pos [] [] []:=λa s b H Q I h=>pairTrees_nil_walk<|x2 [] H {I,.nil,h}
def Yc(c:PE X k tk)(d:PE X v e)(g:S7 X pos i vs a) :
  S7 X pos (some k::i) (v::vs) ((tk,e)::a):=λB s b H Q I h =>
 pairTrees_cons_walk (AR (c _ s b H _ I h) (by intro u j [x,l,n,o,q1];exact AR (d _ j b l _ n q1) (by intro w2 p [y,q,r,w,q2];exact AR (g _ p b q _ r q2) (by intro ws D [ps,z,A,rel,q3];exact x2 _ z {A,.cons ⟨o,w⟩ rel,q3}))))
structure M1(X:Cx)(o:Expr)(m:Str)(C7:Pos)(e:Expr)(DY:Pos):Prop where
 base:uz o m X.env (eval o X.env)=eval o X.env
 few:((jh DY<|az [e] X.env).all (λx=> !x.1)&&(vc DY<|me [] X.env).all (λx=>x.1.isSome)
  && decide (([e]:yC).length+([]:List An).length+(if([]:List An).isEmpty then 0 else 1)<30))=true
 line:(C7.endLine==DY.line)=true
 trees:jh DY (az [e] X.env)=[(false,eval e X.env)]
structure M2(X:Cx)(o:Expr)(m:Str)(C7:Pos)(e f:Expr)(DY:Pos):Prop where
 base:uz o m X.env (eval o X.env)=eval o X.env
 few:((jh DY<|az [e,f] X.env).all (λx=> !x.1)&&(vc DY<|me [] X.env).all (λx=>x.1.isSome)
  && decide (([e,f]:yC).length+([]:List An).length+(if([]:List An).isEmpty then 0 else 1)<30))=true
 line:(C7.endLine==DY.line)=true
 trees:jh DY (az [e,f] X.env)=[(false,eval e X.env),(false,eval f X.env)]
def NM(H:Hp)(a:Addr):Prop:=(∃ kvs,Rd H a<|.dK kvs)\/∃ kvs,Rd H a<|.dT kvs
def o6(I:Inv X c g H s)(d:NM H a) :
  s.TypeIs (.ref a) "dict"/\(∀ b,ff a=.ref b->∃ ob,s.heap.get? b=some ob/\ob.dict=none)/\(a==gb)=false:=by
 let[kvs,e]||[kvs,e]:=d
 let[z,hd,vs,z,dd]:=J3 I.hok e;refine{dd.typeIs,λb q=>?_,hd};cases q;revert dd;apply u3;intro ob z z [h1,h2,z];exact⟨ob,h1,h2.2.1⟩;let[z,hd,xs,z,dd]:=K6 I.hok e;refine{dd.typeIs,λb q=>?_,hd};cases q;revert dd;apply u3;intro ob z z [h1,h2,z];exact⟨ob,h1,h2.2.1⟩
section
variable{X:Cx}{AA:wA}{σ:St}{H:Hp}{s:π}{a:Addr}{y d:V}{u r:Value}{o:Option V}{A:df}{E:wB}
def Yd(p:A.units+1<cLine)(I:Inv X AA σ H s)(g:DGet H a y o)(i:RelV y u)(h:∀ j n,Inv X AA σ H n->RelV (o.getD .non) j->Q j n) :
  wpAny (model X.prog X.w) A (call (.builtin "dict.get") [.ref a,u]) Q E s:=by
 let[kvs,k,e,c,l]||[kvs,k,b,e,c,q,l]:=g
 subst c;let[z,hd,vs,rel,dd]:=J3 I.hok e;refine vq PySem.F.slot_dict_get dd.typeIs PySem.F.entry_dict_get (PySem.F.args_dict_get_2 _ _) (meets_dict_get _ a (MG i) hd) {_,dd.mapOf,h _ _ (I.tok _) ?_};rw[l];exact(rel.val k).getD rfl;subst c;let[z,hd,xs,rel,dd]:=K6 I.hok e;cases (i);refine vq PySem.F.slot_dict_get dd.typeIs PySem.F.entry_dict_get (PySem.F.args_dict_get_2 _ _) (meetsH_dict_get _ a b hd) {jd p,x2 k xs {K5 I.hok q,dd,h _ _ (I.tok _) ?_}};rw[l];exact(rel.val k).getD rfl
def Yg(q:A.units+1<cLine)(I:Inv X AA σ H s)(g:DGet H a y o)(i:RelV y u)(j:RelV d r)(h:∀ n p,Inv X AA σ H p->RelV (o.getD d) n->Q n p) :
  wpAny (model X.prog X.w) A (call (.builtin "dict.get") [.ref a,u,r]) Q E s:=by
 let[kvs,k,e,c,l]||[kvs,k,b,e,c,v,l]:=g
 subst c;let[z,hd,vs,rel,dd]:=J3 I.hok e;refine vq PySem.F.slot_dict_get dd.typeIs PySem.F.entry_dict_get (PySem.F.args_dict_get_3 _ _ _) (meets_dict_get_default _ a (MG i) hd r) {_,dd.mapOf,h _ _ (I.tok _) ?_};rw[l];exact(rel.val k).getD j;subst c;let[z,hd,xs,rel,dd]:=K6 I.hok e;cases (i);refine vq PySem.F.slot_dict_get dd.typeIs PySem.F.entry_dict_get (PySem.F.args_dict_get_3 _ _ _) (meetsH_dict_get_default _ a b hd r) {jd q,x2 k xs {K5 I.hok v,dd,h _ _ (I.tok _) ?_}};rw[l];exact(rel.val k).getD j
end
def S9(e ty:TE):TE:=λb H Q=>e b H λx c=>∃ a,x=.ref a/\NM c a/\ty b c λy d=>∃ o,DGet d a y o/\Q (o.getD .non) d
def W9(e ty tx:TE):TE:=λb H Q=>e b H λx c=>∃ a,x=.ref a/\NM c a/\ty b c λy g=>tx b g λz d=>∃ o,DGet d a y o/\Q (o.getD z) d
section
variable{X:Cx}{o e f:Expr}{C7 DY:Pos}{td ty tx:TE}
def Yh(l:X.A.units+1<cLine)(n:PE X o td)(he:PE X e ty)(m:M1 X o "get" C7 e DY):PE X (.Call (.Attribute o "get" C7) [e] [] DY) (S9 td ty):=by
 refine λL s i H Q I h=>Do m.base m.few m.line PySem.F.plainAttrs_dict PySem.F.slot_dict_get PySem.F.type_dict_get<|AR (n _ s i H _ I h) λu p b=>?_;let[x,q,j,r,a,rfl,d,q1]:=b;obtain rfl:u=ff a:=r;let[v,w,z]:=o6 j d;refine{v,w,?_};rw[m.trees];exact ua rfl (om (sy (AR (he _ p i q _ j q1) (by intro iv M [y,B,D,E,N,g,q2];exact xg<|Yd l D g E λO T J c=>x2 _ B ⟨J,c,q2⟩))))
def Yj(l:X.A.units+1<cLine)(n:PE X o td)(he:PE X e ty)(hf:PE X f tx)(m:M2 X o "get" C7 e f DY):PE X (.Call (.Attribute o "get" C7) [e,f] [] DY) (W9 td ty tx):=by
 refine λU s b H Q I h=>Do m.base m.few m.line PySem.F.plainAttrs_dict PySem.F.slot_dict_get PySem.F.type_dict_get<|AR (n _ s b H _ I h) λu p c=>?_;let[x,q,j,r,a,rfl,d,q1]:=c;obtain rfl:u=ff a:=r;let[w,B,v]:=o6 j d;refine{w,B,?_};rw[m.trees];exact ua rfl (om (sy (AR (he _ p b q _ j q1) (by intro iv D [y,E,J,L,q2];exact sy (AR (hf _ D b E _ J q2) (by intro Y s3 [z,M,N,O,ov,g,q3];exact xg<|Yg l N g L O λw' s4 T i=>x2 _ M ⟨T,i,q3⟩))))))
end
section
variable{X:Cx}{AA:wA}{σ:St}{H:Hp}{s:π}{a:Addr}{kvs:yB}{A:df}{E:wB}
def Yk(I:Inv X AA σ H s)(e:Rd H a (.dK kvs))(h:∀ p d,H p=none->Inv X AA σ (upd H p<|.dK kvs) d->Q (.ref p) d):wpAny (model X.prog X.w) A (call (.type "dict") [.ref a]) Q E s:=by
 let[z,hd,vs,rel,dd]:=J3 I.hok e;exact kt_call_dict hd dd (by rw[<-rel.length];exact z) λh' c hs=>(h _ _ (I.hok.fresh<|ο _) (I.laid    (λb q g=>((hs.2 b<|bh<|au g).trans (ξ _ g))) (ο _) (oY z (beq_eq_false_iff_ne.mpr<|fk<|bh I.big) rel c)))
end
section
variable{X:Cx}{AA:wA}{σ:St}{H:Hp}{s:π}{a:Addr}{y:V}{u:Value}{A:df}{E:wB}
end
end L2
namespace Att
open PySem PySem.W PySem.Calls PyProof.Rows
abbrev _root_.vD:=List Int
def Yl:∀ (ns:vD) (vs:vC),WellAll P h vs (ns.map WData.int)->sj vs ns:=by
 intro ns
 induction ns with
 |nil =>
  intro vs w;cases w;exact .nil
 |cons n ns c =>
  intro vs w;cases w with
  |cons a b =>
   cases a;exact .cons _ _<|c _ b
def Ym{l:OpenLaw}(i:l.most=some n){h:Heap}
  (b:l.row.toRowW.claim.pre args=true) (g:WellAll P h c args) :
  ∃ a vs ns,c=[ff a]/\args=[WData.list (ns.map WData.int)]/\h.get? a=some { cls:=.type "list",data:=.seq vs.toArray }/\sj vs ns/\ns.length<=n:=by
 have j:l.pre.holds [] _=true:=(pre_splitW b).2;let[d,r,rfl,h1,h2]:=hasAllW_cons<|(pre_splitW b).1;obtain rfl:=hasAllW_nil h2;let[xs,rfl,h3]:=hasW_list h1;let[ns,rfl]:=items_int h3
 have o:ns.length<=n:=by
  have h4:(WTm.not<|.lt (.lit<|.int n) (.len<|.arg 0)).holds [] { args:=[.list (ns.map .int)] }=true:=by
   have h4:=(holds_andW j).1;rw[i]at h4;exact h4
  have h5:=condW_of h4<|w_not<|w_lt w_lit<|w_len_list<|w_arg rfl
  first
   |(exact absurd h5 (by decide))
   |(simp at h5;omega)
 cases g with
 |cons p w2 =>
  cases w2;cases p with
  |list q e=>exact{_,_,ns,rfl,rfl,q,Yl ns _ e,o}
def Yp(l:OpenLaw)(args:List WData):l.row.toRowW.claim.post args (.bool true) args=true :=
 postW_of
  (show WShape.has [] _ _=true by first|rfl|decide|simp[WShape.armsAll])
  (w_eq_bool (w_res rfl) w_lit) rfl
def attach_call{l:OpenLaw}{z:(Str->Option Value)->Heap->Prop}{A:World->Heap->Prop}{d:DefRec}
  (H:l.most=some n) (u:d.params.defaults=[])
  (call:∀ (w:World) (s₀ b:π) (mg v:xA) (e:Addr) (o:Obj) (pm p g:Value) (a:Addr) (vs:vC) (ns:vD),
   Ground q loose [] z w s₀ mg v b.heap->A w b.heap ->
   b.heap.get? e=some o->o.data=.func (docDef d.name d.params d.body d.scope pm p g)->b.heap.CodeRec p d.name->mg d.name=some (.ref e) ->
   b.heap.get? a=some { cls:=.type "list",data:=.seq vs.toArray }->sj vs ns->ns.length<=n->b.gens= #[] →
   uy (model l.prog w) Io (.call (.ref e) {[.ref a],[]}) (λr s=>r=.ok (.ret<|.bool true)/\OldK b.heap s.heap/\s.os=b.os/\t9 s.gens) b) :
  WalkO q loose z A l.row.toRowW d [] (λf vs=>PySem.call f vs):=by
 intro w s₀ b mg v G Y e o pm p g I kV J hd L B x M args D as i E N y O;obtain rfl:I=.none:=Dflts.none B u;obtain rfl:kV=.none:=Dflts.noKw B;let[a,vs,ns,rfl,rfl,j,c,Q]:=Ym H i y;refine enter_call<|mj (call w _ _ mg v e o pm p _ a vs ns G Y J (fd_plain hd) L x j c Q M) λr s T=>?_;let[rfl,h2,h3,h4]:=T;exact{.inl {_,_,[],rfl,λ_=>rfl,.bool _,Yp l _,λ_=>{Dr,λ_ U=>(nomatch U)}},h2,h3,h4}
section
variable{prog:bv}{w:World}{A:df}{E:wB}{s:π}{K:Frag}
end
end Att
namespace L2
def o7:∀ {vs:vC} {ns:vD},sj vs ns->Vals (ns.map V.int) vs:=λh=>by
 induction h with
 |nil=>exact .nil
 |cons n t h a=>exact .cons ⟨t,rfl⟩ a
def XA(H:Hp):Prop:=∀ b,H b=none\/∃ o xs,H b=some (.frz o<|.lst xs)
def Yq{K:W.Frag}{mg L:xA}{sp:Sp}{c:π}{vs:vC}{ns:vD}
  (KX:K.In c.heap) (p:c.heap.Ns bq mg) (g:c.heap.Ns Iv L) (M:∀ x:Str,x≠"__name__"->L x=t5 x) (A:c.heap.NoLimit) (hg:c.gens= #[])
  (E:c.heap.get? a=some { cls:=.type "list",data:=.seq vs.toArray }) (Y:sj vs ns) (hl:ns.length<=sizeLine) (hr:Room k Io)
  (F:∀ base:Heap,K.In base->base.Ns bq mg->FnOk P w K mg base CX k fa fd [x] sp) (l:∀ (s:π) (u:Value),xh s fd {[u],[]} [(x,u)])
  (N:∀ H:Hp,XA H->SqL K H a (ns.map V.int)->sp [.ref a] H (λv y=>v=.bl true) λy y y=>False)
  (O:∀ H e i,CX [] H c (λy y y=>False) e i->False) :
  uy (model P w) Io (.call (.ref fa) {[.ref a],[]}) (λr i=>r=.ok (.ret<|.bool true)/\OldK c.heap i.heap/\i.os=c.os/\t9 i.gens) c:=by
 have core:∀ H:Hp,XA H->SqL K H a (ns.map V.int)->HOk P w H c.heap->(∀ b,H b≠none->b=a)->(H a≠none->K.lookup a=none) ->
   uy (model P w) Io (.call (.ref fa) {[.ref a],[]}) (λr i=>r=.ok (.ret<|.bool true)/\OldK c.heap i.heap/\i.os=c.os/\t9 i.gens) c:=by
  intro H hO hS hok hA hK
  have Q:∀ {b:Addr} {o:Obj} {I:Array _} {J:Nat},c.heap.get? b=some o->o.data=.dict I J->H b=none:=λ{b o I J} e d=>by
   cases q:H b with
   |none=>rfl
   |some u =>
    have T:=hA b (by rw[q];simp);subst T;rw[E]at e;obtain rfl:=μ e;cases d
  have base_of:∀ {b:Addr} {o:Obj},c.heap.get? b=some o->H b=none->(NC _ H).get? b=some o:=λe n=>Py e n
  have j:∀ {b:Addr} {m:Str->Option _},c.heap.Ns b m->(NC _ H).Ns b m:=λ{b m} ⟨o,I,J,e,d,r⟩=>x3 o I J {base_of e<|Q e d,d,r}
  have B:=λb o e=>base_of (KX b o e) (by
   cases q:H b with
   |none=>rfl
   |some u =>
    have T:=hA b (by rw[q];simp);subst T;rw[hK (by rw[q];simp)]at e;cases e)
  refine mj ((F _ B<|j p).run _ [] _ H _ [.ref a] [.ref a] _ _ hr ({rfl,({B,j p,{L,j g,M},let ⟨mc,h1,h2⟩:=A;{mc,j h1,h2}}),λb o e=>Pz e,a_<|Px _ _,trivial,λb g=>absurd (show b∈([])from g) (by simp),hok,.of_eq hg}) (l _ _) (.cons rfl .nil) (N H hO hS)) λr i h=>?_;cases r with
  |error e=>exact(O H e i h).elim
  | ok fl =>
   cases fl with
   |next=>exact ju h
   |brk=>exact ju h
   |cont=>exact ju h
   |ret u =>
    revert h;apply u2;intro v H' [os,bare,un,D,r',rfl];obtain rfl:u=Ir _:=r';refine{rfl,OldK.of_keep λb o e=>?_,os,bare};cases q:H b with
    |none=>exact un.keep b o e q (by intro z;exact absurd (show b∈([])from z) (by simp)) (by simp)
    |some u =>
     let z||[ob,xs,z]:=hO b
     rw[q]at z;cases z;let[e2,y]:=D b _<|un.frzs b ob _ z;let[e1,y]:=hok b _ z;rw[e]at e1;obtain rfl:=μ e1;exact e2
 have rv:=o7 Y;cases U:K.lookup a with
 |some o =>
  have e:=KX a o U;rw[E]at e;obtain rfl:=μ e;refine core (λy=>none) (λy=>.inl rfl) (.inr (x3 _ _ _ {U,rfl,rfl,rfl,by rw[ax,Y.length];exact hl,rv})) (λb u z=>by cases z) (λb z=>absurd rfl z) λz=>absurd rfl z
 |none =>
  refine core (λb=>if b=a then some _ else none) (λb=>?_) (.inl<|.inr {{ cls:=.type "list",data:=.seq vs.toArray },if_pos rfl}) (λb u z=>?_) (λb z=>?_) λy=>U;by_cases g:b=a;exact .inr<|x2 _ _<|if_pos g;exact .inl<|if_neg g;by_cases g:b=a
  have z':=(if_pos g).symm.trans z;cases z';subst g;exact{E,by rw[ε];exact hl,x2 vs _ ⟨rv,E⟩};cases ((if_neg g).symm.trans z);by_cases g:b=a;exact g;exact absurd (if_neg g) z
def walk_of{l:W.OpenLaw}{E:(Str->Option Value)->Heap->Prop}{A:World->Heap->Prop}{d:DefRec}{K:Params->W.Frag}{CX:World->IC}{sp:World->Sp}
  (I:l.most=some n) (i:n<=sizeLine) (j:d.params.defaults=[]) (J:Room k Io)
  (L:∀ (w:World) (h:Heap),A w h->(K w.params).In h)
  (F:∀ (w:World) (mg:xA) (g:Addr) (h:Heap),(K w.params).In h->h.Ns bq mg->mg d.name=some (.ref g) ->
   ∃ fd:gq,(∀ (s:π) (u:Value),xh s fd {[u],[]} [(x,u)]) /\
    ∀ base:Heap,(K w.params).In base->base.Ns bq mg->FnOk l.prog w (K w.params) mg base (CX w) k g fd [x] (sp w))
  (p:∀ (w:World) (H:Hp) (a:Addr) (ns:vD),ns.length<=n->XA H->SqL (K w.params) H a (ns.map V.int)->sp w [.ref a] H (λv _=>v=.bl true) λ_ _ _=>False)
  (r:∀ (w:World) (H:Hp) (s:π) (e:Value) (y:π),CX w [] H s (λ_ _ _=>False) e y->False) :
  W.WalkO q loose E A l.row.toRowW d [] (λf vs=>PySem.call f vs):=by
 refine Att.attach_call I j λw s₀ B mg mb g o pm cd M a vs ns G Y ho hd GY z c b D N=>?_
 have KX:=L w _ Y;let[fd,O,Q]:=F w mg g _ KX G.T.g z;exact Yq KX G.T.g G.T.b G.T.builtins G.T.nolimit N c b (χ D i) J Q O (λH U hS=>p w H a ns D U hS) λH e y=>r w H _ e y
def BR(s:Stmt)(j:Nat):Stmt:=match s with
 |.ClassDef _ _ _ body _ _ _ _ _ _ _=>body.getD j<|.Pass {0,0,0,0}
 |_=>.Pass {0,0,0,0}
def J9(s:Stmt):Arguments:=match s with
 |.FunctionDef _ a _ _ _ _ _ _ _ _=>a
 |_=>{ posonlyargs:=[],args:=[],vararg:=none,kwonlyargs:=[],kw_defaults:=[],kwarg:=none,defaults:=[] }
def HK(s:Stmt):List Stmt:=match s with
 |.FunctionDef _ _ b _ _ _ _ _ _ _=>b
 |_=>[]
def AU(s:Stmt):Scope:=match s with
 |.FunctionDef _ _ _ _ _ _ a _ _ _=>a
 |_=>{ kind:=.function,names:=[],isGenerator:=false,isCoroutine:=false }
abbrev E0:XK:=λ_ _ _=>False
structure Fun(K:W.Frag)(x qual:Str)(st:Stmt)(f:Addr)(fd:gq):Prop where
 ex:∃ (oc:Value) (od:Option Addr) (kV doc pm:Value) (an:Option Addr) (CO ct:Value) (osl:Array (Option Value)),
  fd=W.fnOf x qual (J9 st) (HK st) (AU st) .none kV doc pm an CO ct/\K.lookup f=some {oc,od,.func fd,osl}/\W.codeIn K CO qual=true
 kp:W.keepIn K (.ref f)=true
section
variable{P:bv}{w:World}{K:W.Frag}{mg:xA}{base:Heap}
def Fun.binds{x a:Str}{st:Stmt}{f:Addr}{fd:gq}{ps:aD}(F:Fun K x a st f fd)
  (h:∀ (kV b pm:Value) (c:Option Addr) (d ct:Value) (us:vC),us.length=ps.length->bindArgs (W.fnOf x a (J9 st) (HK st) (AU st) .none kV b pm c d ct) {us,[]}=pure (ps.zip us)):Binds K fd ps []:=by
 refine u9 ?_ F.ex;intro g i kV b pm c d ct e [rfl,j,l];exact .all<|h kV _ pm c _ ct
def o8{x a:Str}{st:Stmt}{f:Addr}{i:Value}{j d:Option Addr}{e:Array (Option Value)}{kV b pm g ct:Value}(l:K.lookup f=some {i,j,.func<|W.fnOf x a (J9 st) (HK st) (AU st) .none kV b pm d g ct,e})
  (c:W.codeIn K g a=true) (k:W.keepIn K (.ref f)=true):Fun K x a st f (W.fnOf x a (J9 st) (HK st) (AU st) .none kV b pm d g ct):={x9 i j kV _ pm d _ ct _ ⟨rfl,l,c⟩,k}
end
def K7(a:Room k A):A.units+1<cLine:=cj (At (by decide) _) a.units
section
variable{X:Cx}
def pv(i:Nat)(a:X.N[i]? =some x:=by rfl)(b:SL X.env.scope x:=by first|exact Gi rfl|exact zu (Gi rfl)|exact zu<|zu rfl)(hd:(x ==("__debug__":Str))=false:=by decide)
  (c:(x ==("__classdict__":Str))=false:=by decide):PE X (.Name x pos) (SN i):=mI a b hd c
end
def Same(H a:Hp):Prop:=∀ b o,H b=some o->a b=some o
def Same.refl(H:Hp):Same H H:=λz z h=>h
def Same.trans{H d e:Hp}(a:Same H d)(b:Same d e):Same H e:=λc o h=>b c o<|a c o h
def Same.free{H a:Hp}(e:Same H a){l:Addr}(h:a l=xj):H l=xj:=by
 cases q:H l with
 |none=>rfl
 |some o =>
  rw[e l o q]at h;cases h
def Same.seq{K:W.Frag}{H b:Hp}{a:Addr}{xs:vE}(e:Same H b)(h:SqL K H a xs):SqL K b a xs:=by
 rcases h with(h|⟨o,h⟩)|h
 exact .inl<|.inl<|e _ _ h;exact .inl<|.inr {o,e _ _ h};exact .inr h
section
variable{κ :Type}[DecidableEq κ]
def Yv{kvs:List (κ × V)}(h:BG kvs k=none):¬ k∈kvs.map (·.1):=by
 intro m;let[p,a,e]:=av.mp m
 have q:(kvs.any λb=>decide<|b.1=k)=true:=dn.mpr {p,a,decide_eq_true e};rw[K4,h]at q;exact absurd q (by simp)
theorem o9:∀ {l:List κ} {k: κ},l.Nodup->¬ k∈l->(l++[k]).Nodup
 | [],k,_,_=>by simp
 |a::r,k,h,b=>by
  let[h1,h2]:=gz.mp h;refine gz.mpr {λm=>?_,o9 h2 λm=>b<|aj.mpr<|zu m};let q||q:=bd.mp m
  exact h1 q;exact b<|aj.mpr<|Gi (aa.mp q).symm
def Yw{kvs:List (κ × V)}(v:V)(a:(kvs.map (·.1)).Nodup)(h:BG kvs k=none):((CD kvs k v).map (·.1)).Nodup:=by
 rw[oU v h,aw];exact o9 a<|Yv h
end
theorem XB:∀ (names:List (Str × ye)) (cs:List (Str × Addr)),
  (∀ x∈names,x.2=.free->∃ c,env.cells.lookup x.1=some c)->(∀ x c,cs.lookup x=some c->env.cells.lookup x=some c) ->
  ∃ i,(forIn names cs λx r=>(if(x.2==gg)=true then do let a ← cellOf env x.1;pure (jm ((x.1,a)::r))else pure (jm r):Sem (ForInStep<|List<|Str × Addr)))=pure i /\
   (∀ x c,i.lookup x=some c->env.cells.lookup x=some c)/\(∀ x,(cs.lookup x).isSome=true->(i.lookup x).isSome=true) /\
   ∀ x∈names,x.2=.free->(i.lookup x.1).isSome=true
 | [],cs,_,h=>{cs,rfl,h,λ_ z=>z,λ_ z=>nomatch z}
 |(n,k)::r,cs,hf,h=>by
  by_cases j:k=.free;subst j;let[c,l]:=hf _ υ rfl;let[i,e,h1,h2,h3]:=XB r ((n,c)::cs) (λx b=>hf x<|ρ _ b) (λx o b=>by
   by_cases d:x=n;subst d;simp only[ao,beq_self_eq_true]at b;obtain rfl:=μ b;exact l
   have  :=beq_eq_false_iff_ne.mpr d;simp only[ao,this]at b;exact h x o b)
  refine{i,?_,h1,λx b=>h2 x ?_,λx b g=>?_};rw[iw]
  show(((match env.cells.lookup n with|some a=>pure a|none=>_)>>=_)>>=_)=_;rw[l];exact e;by_cases d:x=n;subst d;simp
  have  :=beq_eq_false_iff_ne.mpr d;simp only[ao,this];exact b;let rfl||b:=aj.mp b
  exact h2 n (by simp);exact h3 x b g;let[i,e,h1,h2,h3]:=XB r cs (λx b=>hf x<|ρ _ b) h;refine{i,?_,h1,h2,λx b g=>?_};rw[iw,if_neg (by simp[(j)])];exact e;let rfl||b:=aj.mp b
  exact absurd g j;exact h3 x b g
def pA(hf:∀ x∈scope.names,x.2=.free->∃ c,env.cells.lookup x.1=some c) :
  ∃ b,closureFor scope env=pure b/\(∀ x c,b.lookup x=some c->env.cells.lookup x=some c)/\∀ x∈scope.names,x.2=.free->(b.lookup x.1).isSome=true:=by
 let[b,e,h1,z,h3]:=XB  _ [] hf (λx c h=>by simp at h);refine{b,?_,h1,h3}
 have:(forIn scope.names ([]) λx r=>(if(x.2==gg)=true then do let a ← cellOf env x.1;pure (jm ((x.1,a)::r))else pure (jm r))) >>=(λr=>(pure r))=(pure b:Sem _):=by rw[e];rfl
 exact this
theorem pB{env:Env}:∀ {names:List (Str × ye)} {x:Str},names.lookup x=some .free ->
  (names.map λ(n,k)=>if(k==gg&&env.scope.kind == .function&&env.kindOf n==some .cell)then(n,gi)else(n,k)).lookup x=some .cell ∨
  (names.map λ(n,k)=>if(k==gg&&env.scope.kind == .function&&env.kindOf n==some .cell)then(n,gi)else(n,k)).lookup x=some .free
 | [],_,h=>by simp at h
 |(n,k)::r,x,h=>by
  by_cases a:x=n;subst a;simp only[ao,beq_self_eq_true]at h;obtain rfl:=μ h
  show gu x ((if _ then(x,gi)else(x,gg))::_)=_\/gu x ((if _ then(x,gi)else(x,gg))::_)=_;split;exact .inl (by simp);exact .inr (by simp)
  have b:=beq_eq_false_iff_ne.mpr a;simp only[ao,b]at h
  show gu x ((if _ then(n,gi)else(n,k))::_)=_\/gu x ((if _ then(n,gi)else(n,k))::_)=_;split<;>(simp only[ao,b];exact(pB  h))
theorem pC{env:Env}:∀ {names:List (Str × ye)} {x:Str},
  ((names.map λ(n,k)=>if(k==gg&&env.scope.kind == .function&&env.kindOf n==some .cell)then(n,gi)else(n,k)).lookup x=some .cell ∨
  (names.map λ(n,k)=>if(k==gg&&env.scope.kind == .function&&env.kindOf n==some .cell)then(n,gi)else(n,k)).lookup x=some .free)->(x,gg)∈names\/(x,gi)∈names
 | [],_,h=>by simp at h
 |(n,k)::r,x,h=>by
  by_cases a:x=n;subst a
  have h:gu x ((if(k==gg&&env.scope.kind == .function&&env.kindOf x==some _)=true then(x,gi)else(x,k))::_)=some _\/gu x ((if(k==gg&&env.scope.kind == .function&&env.kindOf x==some _)=true then(x,gi)else(x,k))::_)=some _:=h;split at h;rename_i b;rw[bz,bz]at b
  have:k=.free:=by simpa using b.1.1
  subst this;exact .inl υ;simp only[ao,beq_self_eq_true]at h;let h||h:=h
  cases h;exact .inr υ;cases h;exact .inl υ
  have h:gu x ((if(k==gg&&env.scope.kind == .function&&env.kindOf n==some _)=true then(n,gi)else(n,k))::_)=some _\/gu x ((if(k==gg&&env.scope.kind == .function&&env.kindOf n==some _)=true then(n,gi)else(n,k))::_)=some _:=h
  have h':=h;split at h'
  all_goals
   simp only[ao,(beq_eq_false_iff_ne.mpr a)]at h';exact(pC h').imp (ρ _) (ρ _)
def FO{a b:Addr}{n:Nat}(h:a<n)(h2:n<=b):a≠b:=bh<|ω h h2
def Cx.block(X:Cx)(a:wA)(s:π)(H:Hp)(b:aD)(scope:Scope)(c:List (Str × Addr))(C:Addr)(d:xC):Cx where
 prog:=X.prog
 w:=X.w
 K:=X.K
 mg:=X.mg
 base:=X.base
 A:=X.A
 N:=b
 s₀:=s
 H₀:=H
 env:=compEnvC scope c C X.env
 outer:=X.stack
 stack:=X.stack
 ex:=d
 fn:=λ_=>false
 calm:=X.calm
 pn:=X.pn++a
 xe:=λ_ _=>False
abbrev _root_.wD:=List Nat
structure KA(X:Cx)(scope:Scope)(tn cn:aD)(BB:wD):Prop where
 kind:scope.kind=.function
 nocell:∀ y∈scope.names,y.2≠.cell
 names:∀ y∈scope.names,y.2=.local->scope.names.lookup y.1=some .local
 free:∀ y∈scope.names,y.2=.free->X.env.kindOf y.1=some .cell\/X.env.kindOf y.1=some .free
 drawn:∀ x∈cn,scope.names.lookup x=some .free
 caps:BB.map (λi=>X.N[i]?)=cn.map some
def K8(k:Nat)(a:wD)(b:St):St:=ba k none++a.map λi=>(b[i]?).join
def HOk.track(x:HOk P w H h)(d:H a=none)(new:ObjOk P w (upd H a o) h a o):HOk P w (upd H a o) h:=λb u e=>by
 by_cases g:b=a;subst g;rw[AE]at e;obtain rfl:=μ e;exact new;rw[AI g]at e;refine(x b u e).stay (λz z z q=>q) (λc q=>?_) λc xs q=>?_;rw[AI (BK q d)];exact q;rw[AI (BK q d)];exact q
section
variable{X:Cx}{AA:wA}{σ:St}{H:Hp}{s:π}
def Inv.pinlt(I:Inv X AA σ H s)(a:p∈X.pn++AA):p.1<s.heap.objs.size:=au (I.pin p a).1
def Inv.stkne(I:Inv X AA σ H s)(h1:b≠X.env.locals)(h2:b∉X.fs):b∉EF X.stack:=λz=>(aj.mp<|I.stkSub b z).elim h1 h2
def Inv.stklt(I:Inv X AA σ H s)(h:b∈EF X.stack):b<s.heap.objs.size:=by
 let[z,o,a,z]:=I.stack.mem h;exact au a
theorem Inv.block{scope:Scope}{a B:aD}{N:List (Str × Addr)}{D:π}(I:Inv X AA σ H s)(S:KA X scope a B BB)
  (E:∀ x c,N.lookup x=some c->X.env.cells.lookup x=some c) (HF:∀ x∈scope.names,x.2=.free->(N.lookup x.1).isSome=true)
  (hf:∀ b∈Q,FpOk X AA H b) (T:∀ b∈Q,b<s.heap.objs.size) (O:s.heap.objs.size<=C) (k:∀ b o,s.heap.get? b=some o->D.heap.get? b=some o)
  (U:D.os=s.os) (hg:D.gens=s.gens) (Y:∃ m,D.heap.Ns C m)
  (hp:∀ p∈g,D.heap.get? p.1=some p.2/\H p.1=none/\p.1≠C/\p.1∉EF X.stack/\∀ v,p.2.data≠.cell v) :
  Inv (X.block AA s H (a++B) scope N C Q) g (K8 a.length BB σ) H D:=by
 have ok:(X.block AA s H (a++B) scope N C Q).Ok:=by
  refine{I.ok.mod,S.kind,I.ok.glob,I.ok.blt,O,λx y c h1 h2=>I.ok.inj x y c (E x c h1) (E y c h2),λx hx=>?_,λx c z t=>(by cases z),I.ok.hd,I.ok.frames,.inl rfl,λb w=>{(bh<|ω (T b w) O),λx c e=>(hf b w).2.2.2.2.1 x c (E x c e)},I.bs,χ I.ok.bsz I.sz,λb o e w=>?_,λb w=>I.stkne (hf b w).2.1 (hf b w).2.2.1,I.stack,I.stkFree};let z||z:=pC  hx
  exact dg.mp<|HF _ z rfl;exact absurd rfl<|S.nocell _ z;let z||z:=(hf b w).2.2.2.1
  exact I.ok.noex b o e z;exact absurd (ω (au e) (χ I.ok.bsz z)) (jq _)
 refine{ok,U,by rw[hg];exact I.bare,Un.kept k,?_,λx c e=>?_,I.hok.fresh O,λx c e=>I.freeC x c<|E x c e,λp hp'=>?_,I.hok.kept k,?_};let[m,hm]:=Y;refine{m,hm,λi x v h1 h2 h3=>?_}
 have hi:a.length<=i:=by
  let z||z:=fe i _
  unfold K8 at h2;rw[bc (by simpa using z),yf]at h2;split at h2<;>cases h2;exact z
 unfold K8 at h2;rw[cf (by simpa using hi),uj,ψ]at h2
 have A:B[i-a.length]? =some x:=by
  have:(a++B)[i]? =some x:=h1
  rwa [cf hi]at this
 cases hq:BB[i-a.length]? with
 |none=>rw[hq]at h2;cases h2
 |some j =>
  rw[hq]at h2
  have hj:X.N[j]? =some x:=by
   have:=congrArg (λl=>l[i-a.length]?) S.caps;simp only[ψ,hq,A]at this;exact μ this
  have hv:σ[j]? =some (some v):=by
   cases hs:σ[j]? with
   |none=>simp[hs]at h2
   |some y=>simp only[si,hs]at h2;obtain rfl:=μ h2;rfl
  have L:=PySem.mem_of_lookup<|S.drawn x<|ι A;let[m0,t,hl0]:=I.loc
  have J:=S.free _ L rfl;let[u,r,q]:=hl0 j x v hj hv<|J.elim (λz=>.inr<|.inl z) λz=>.inr<|.inr z;refine{u,r,.inr {pB<|S.drawn x<|ι A,?_}};let[kl,_]||[_,c,hc,z]:=q
  let J||J:=J<;>(rw[kl]at J;cases J)
  let[c',M]:=dg.mp<|HF _ L rfl
  have:=E _ _ M;rw[hc]at this;obtain rfl:=μ this;exact{c,M,z.keeps k}
 let[v,z]:=I.cell x c<|E x c e;exact{v,z.keeps k};let z||z:=bd.mp hp'
 let[e,n,ne,nf,d]:=I.pin p z;exact{k _ _ e,n,bh<|ω (au e) O,I.stkne ne nf,d};exact hp p z;unfold K8
 have:=congrArg ji S.caps
 show _=(a++B).length;simp only[ε]at this;simp[this]
end
def CQ:TT:=λ_ H Q=>Q true H
def K9(X:Cx)(d:yC)(t:TT):Prop :=
 ∀ (b:wA) (s:π) (a:St) (H:Hp) (Q:xB),Inv X b a H s->t a H Q ->
  wpAny (model X.prog X.w) X.A (forIn d true λc r=>if r=true then do let ok ← Ks c X.env (eval c X.env);pure (jm ok)else pure (jm r)) (TP X b a Q) X.xe s
def Yx:K9 X [] CQ:=λa s b H Q I h=>wpAny_tests_nil ⟨H,I,h⟩
def Yy(h:PT X c t):K9 X [c] t:=λb s a H Q I q=>wpAny_tests_one<|h _ s a H Q I q
def Yz (o:Nat->π->Prop)
    (p:∀ n s,o n s->wpAny (model prog w) A (xt it) (λr a=>match r with
      |none=>R (.ok .next) a
      | some v=>wpAny (model prog w) A (y_ target it v) (λ_ d=>wpAny (model prog w) A (Ku target env v) (λ_ e =>
          wpAny (model prog w) A (forIn B true λc r=>if r=true then do let ok ← Ks c env (eval c env);pure (jm ok)else pure (jm r)) (λok b =>
            if ok=true then wpAny (model prog w) A (eval D env) (λx g =>
              wpAny (model prog w) A (call (.builtin "list.append") [E,x]) (λ_ i=>∃ m,m<n/\o m i) (λ_ _=>False) g) (λ_ _=>False) b
            else ∃ m,m<n/\o m b) (λ_ _=>False) e) (λ_ _=>False) d) (λ_ _=>False) a) (λ_ _=>False) s)
    (n:Nat) (h:o n s):uy (model prog w) A (.compLoop (.ListComp D [{target,iter,B,0}] scope pos) 0 it E env) R s:=by
  refine codeAny_loop rfl o (λH I J=>(wpAny_noted<|wpAny_noRaise<|δ<|Be<|δ<|AR (p H I J) λr a j=>?_)) n h;cases r with
  |none=>exact ν j
  |some v =>
    refine δ<|AR j λ_ d q=>(δ<|AR q λ_ e u=>δ<|AR u λok b l=>?_);cases ok with
    |false=>exact ν ⟨rfl,l⟩
    |true=>exact δ<|δ<|AR l λL g y=>δ<|AR y λ_ i z=>ν<|ν ⟨rfl,z⟩
def BZ(o:TI)(g:TG)(q:TT)(r:TE)(k:Nat)(s:wD):TE:=λe H Q=>o e H λJ u =>
 ∃ W:Nat->Nat->St->vE->Hp->Prop,(∃ m,W 0 m (K8 k s e) [] u)/\∀ i m c ys H,W i m c ys H ->
  (J.stop i H/\∀ p,H p=none->Q (.ref p) (upd H p<|.lst ys)) ∨
  (J.go i H/\ys.length<sizeLine/\∀ x j,J.yld i H x j->g x c j λa v=>q a v λb l =>
   if b=true then ∃ N:VK,(∀ y n,N y n->∃ d,d<m/\W (i+1) d a (ys++[y]) n)/\r a l N else ∃ d,d<m/\W (i+1) d a ys l)
structure CompDone(X:Cx)(fp:xC)(H:Hp)(s:π)(Q:VK)(BP:Value)(C:Addr)(r:Result)(s':π):Prop where
 ok:r=.ok .next
 ex:∃ (D:Addr) (ys:vE) (AK:vC) (n:Nat) (H':Hp),BP=.ref D/\Vals ys AK/\ys.length<=sizeLine/\s'.heap.get? D=some { cls:=.type "list",data:=.seq AK.toArray n }/\s.heap.objs.size<=D/\D≠C/\H' D=none/\H' C=none ∧
  (∃ m,s'.heap.Ns C m)/\Un (EF X.stack) fp H H' s.heap s'.heap/\HOk X.prog X.w H' s'.heap/\∀ p,H' p=none->Q (.ref p) (upd H' p<|.lst ys)
 ge:s.heap.objs.size<=C
 os:s'.os=s.os
 bare:t9 s'.gens
section
variable{X:Cx}{AA:wA}{σ:St}{H:Hp}{s:π}
def pD {scope:Scope} {tt:TT} {te:TE} {U cn:aD} {M:List (Str × Addr)} {tn':Nat->Heap->Prop} {J:It} {Q:VK} {E:wB}
    (I:Inv X AA σ H s) (S:KA X scope U cn BB) (hc:X.calm=true)
    (BN:∀ x c,M.lookup x=some c->X.env.cells.lookup x=some c) (HF:∀ x∈scope.names,x.2=.free->(M.lookup x.1).isSome=true)
    (T:JY X.prog X.w X.K tg J l it tn') (st:tn' 0 s.heap) (hf:∀ b∈l,FpOk X AA H b)
    (hg:∀ C,PG (X.block AA s H (U++cn) scope M C l) tg g) (ht:∀ C,K9 (X.block AA s H (U++cn) scope M C l) E5 tt) (he:∀ C,PE (X.block AA s H (U++cn) scope M C l) E4 te)
    (W:Nat->Nat->St->vE->Hp->Prop) (w0:W 0 m0 (K8 U.length BB σ) [] H)
    (step:∀ i m Y ys H,W i m Y ys H ->
      (J.stop i H/\∀ p,H p=none->Q (.ref p) (upd H p<|.lst ys)) ∨
      (J.go i H/\ys.length<sizeLine/\∀ x H',J.yld i H x H'->g x Y H' λσ2 H2=>tt σ2 H2 λb H3 =>
        if b=true then ∃ N:VK,(∀ y H4,N y H4->∃ m',m'<m/\W (i+1) m' σ2 (ys++[y]) H4)/\te σ2 H3 N else ∃ m',m'<m/\W (i+1) m' σ2 ys H3)) :
    wpAny (model X.prog X.w) X.A (newList []) (λBP A=>wpAny (model X.prog X.w) X.A (newFunctionEnv scope X.env.globals M [] X.env.qual none .none (some X.env)) (λcenv s₄ =>
      uy (model X.prog X.w) X.A (.compStart (.ListComp E4 [{tg,iter,E5,0}] scope pos) 0 (.ref it) BP { cenv with scope:=relabel scope X.env }) (CompDone X l H s Q BP cenv.locals) s₄) E A) E s:=by
  refine dr (wpAny_newFunctionEnv S.nocell (by intro y hy;simp at hy) (λB w a=>?_) S.kind);generalize hH2:s.heap.push _=H2 at w a ⊢;generalize hCe:H2.objs.size=C at w a ⊢
  have hC:=hCe.symm.trans (by rw[<-hH2,zp]);generalize hD:s.heap.objs.size=D at *
  have hDC:D≠C:=by rw[hC];exact bh<|fu _
  have old:∀ b o,s.heap.get? b=some o->B.get? b=some o:=λb o e=>by
    have j:b<D:=by rw[<-hD];exact au e
    exact a.extBut b o (FO j (by rw[hC];exact jr _)) (ξ _<|hH2 ▸ ξ _ e)
  have hDo:B.get? D=some { cls:=.type "list",data:=.seq ([]).toArray }:=by
    refine a.extBut _ _ hDC<|ξ _ ?_;rw[<-hH2,<-hD];exact ai _ rfl
  have hDs:=λz=>FO (I.stklt z) (a_ hD) rfl
  have hfl:∀ b∈l,b<s.heap.objs.size:=λb j=>by
    let[o,e,_]:=T.obj 0 _ st b j;exact au e
  have I0:Inv _ [(D,{ cls:=.type _,data:=.seq _ 0 })] _ H { s with heap:=B,toks:=s.toks+([]:vA).length } :=
    I.block S BN HF hf hfl (by lia) old rfl rfl ⟨_,w⟩ λp O=>by
      rw[aa]at O;subst O;exact{hDo,(by rw[<-hD];exact I.hok.fresh<|ο _),hDC,hDs,λv z=>nomatch z}
  have st1:=T.keep _ _ _ st λb _ o e=>old b o e
  have fpok:∀ {H':Hp} {o:Obj},(∀ b∈l,H' b=none)->∀ b∈l,FpOk (X.block AA s H (U++cn) scope M C l) [(D,o)] H' b:=λ{H' o} hn b j=>by
    let[_,f1,f2,f3,f4,f5]:=hf b j
    have hbl:=hfl b j;refine{hn b j,?_,I.stkne f1 f2,.inl j,λx c e=>f4 x c<|BN x c e,λp O=>?_}
    ·exact FO hbl (by rw[hD,hC];exact jr _)
    · let z||z:=bd.mp O
      ·exact f5 p z
      ·rw[aa]at z;subst z;exact fk<|FO hbl<|a_ hD
  have loop:∀ A:π,A={ s with heap:=B,toks:=s.toks+([]:vA).length } ->
      uy (model X.prog X.w) X.A (.compLoop (.ListComp E4 [{tg,iter,E5,0}] scope pos) 0 (.ref it) (.ref D) (compEnvC scope M C X.env)) (CompDone X l H s Q (.ref D) C) A:=by
    rintro A rfl;refine Yz (λn s'=>∃ i Y ys AK nn H',Inv (X.block AA s H (U++cn) scope M C l) [(D,{ cls:=.type "list",data:=.seq (AK:vC).toArray nn })] Y H' s'/\tn' i s'.heap/\(∀ b∈l,H' b=none)/\Vals ys AK/\ys.length<=sizeLine/\W i n Y ys H') ?_ m0
      {0,_,[],[],0,H,I0,st1,λb j=>(hf b j).1,.nil,bg _,w0}
    intro n s4 [i,σ4,ys,AK,nn,H4,I4,st4,fr4,r4,l4,w4];let[stop,qn]||[go,A0,next]:=step i n σ4 ys H4 w4
    · refine AR (T.done (X.block AA s H (U++cn) scope M C l) rfl rfl rfl hc i _ s4 σ4 H4 _ I4 (fpok fr4) st4 stop) λr s5 d=>?_
      let[hr,I5]:=d;subst hr
      have O:=I5.pin (D,_) (bt _ υ);let[m5,hm5,_]:=I5.loc;exact{rfl,x5 D ys AK nn H4 {rfl,r4,l4,O.1,a_ hD,hDC,O.2.1,I5.free,⟨m5,hm5⟩,I5.base,I5.hok,qn},by lia,I5.os,I5.bare}
    · refine AR (T.item (X.block AA s H (U++cn) scope M C l) rfl rfl rfl hc i _ s4 σ4 H4 _ I4 (fpok fr4) st4 go) λr s5 d=> ?_
      let[u,hr,h5]:=d;subst hr;refine AR h5 λ_ s6 d=>?_;let[x,H6,I6,r6,y6,st6,fr6]:=d
      have I6':=I6.pinned (fpok fr6) (T.obj _ _ st6);refine AR (hg C _ s6 σ4 H6 x u _ I6' r6<|next x H6 y6) λ_ s7 d=>?_;let[σ7,H7,I7,q7]:=d;refine AR (ht C _ s7 σ7 H7 _ I7 q7) λok s8 d=>?_;let[H8,I8,q8]:=d
      have L:∀ {σ9:St} {H9:Hp} {s9:π},Inv (X.block AA s H (U++cn) scope M C l) ([(D,{ cls:=.type "list",data:=.seq AK.toArray nn })]++O5 l s6.heap) σ9 H9 s9->(∀ b∈l,∀ o,s6.heap.get? b=some o->s9.heap.get? b=some o)/\∀ b∈l,H9 b=none:=λ{σ9 H9 s9} I9=>by
        refine{λb j o e=>(I9.pin (b,o) (bt _<|bt _<|NG j e)).1,λb j=>?_};let[o,e,_]:=T.obj _ _ st6 b j;exact(I9.pin (b,o) (bt _<|bt _<|NG j e)).2.1
      cases ok with
      |false =>
        let[m',hm',w']:=q8;let[k1,k2]:=L I8;exact{m',hm',x6 (i+1) σ7 ys AK nn H8 {I8.unpinned,T.keep _ _ _ st6 k1,k2,r4,l4,w'}}
      | true =>
        let[Nw,hN,q8]:=q8;refine AR (he C _ s8 σ7 H8 Nw I8 q8) λv s9 d=>?_;let[y,H9,I9,r9,n9]:=d;let[m',hm',w']:=hN y H9 n9;let[k1,k2]:=L I9
        have O:=I9.pin (D,_) (bt _<|jg _ υ)
        have e:=O.1
        have CN:=r4.length;refine ik F.slot_list_append ⟨_,e,rfl⟩ F.entry_list_append (F.args_list_append_2 _ _) (PySem.list_append D AK.toArray nn v (by rw[ax];exact oB (cj (a_ CN.symm) A0) rfl)) {e,?_}
        have q:=PySem.IsL.update e<|λxs=>xs.push v
        have Ia:Inv (X.block AA s H (U++cn) scope M C l) [] σ7 H9 s9:=I9.pins_of λp O=>nomatch O
        have Ib:=Ia.turned (h':=s9.heap.update D (mo (·.push v))) (t':=s9.toks) (it:=D) (λb o j eb=>(cy _ _<|fk j).trans eb) O.2.1 hDC (.inr (by show s.heap.objs.size<=D;exact a_ hD))
          (λx c ec z=>by
            let[vv,zc]:=I.cell x c<|BN x c ec;exact FO zc.lt (a_ hD) z)
          (λp hp'=>by
            rw[iu]at hp';exact FO (I.pinlt hp') (a_ hD))
        have q':(s9.heap.update D (mo (·.push v))).get? D=some { cls:=.type "list",data:=.seq (AK++[v]).toArray (nn+1) }:=by
          rw[if_neg (by simp)]at q;rw[<-List.push_toArray];exact q
        refine{m',hm',x6 (i+1) σ7 (ys++[y]) (AK++[v]) (nn+1) H9 {Ib.pins_of<|λp hp'=>?_,T.keep _ _ _ st6 λb j o eb=>?_,k2,r4.append<|.cons r9 .nil,?_,w'}}
        · rw[aa]at hp'
          subst hp';exact{q',O.2.1,hDC,hDs,λv' z=>nomatch z}
        · have hbl:=hfl b j
          exact(cy _ _<|fk<|FO hbl<|a_ hD).trans (k1 b j o eb)
        · rw[ae,i_]
          exact A0
  exact codeAny_compStart_list (loop _ rfl) (T.self _ 0 _ _ _ st1<|loop _ rfl)
def CompDone.inv{Q:VK}{i:π}(I:Inv X AA σ H s)(hf:∀ b∈v,FpOk X AA H b)(h:CompDone X v H s Q w C r i) :
  ∃ D d,w=.ref D/\Inv X AA σ d i/\Q (.ref D) d/\d C=none/\∃ m,i.heap.Ns C m:=by
 let[z,[D,ys,T,n,d,rfl,y,A,e,p,j,g,l,B,u,ok,q],U,os,bare]:=h
 have c:∀ b o,H b=some o->b≠D:=λb o a=>FO (I.hok.lt a) p;refine x2 D (upd d D<|.lst ys) {rfl,I.call'  os {u.keep,u.slot,λb o a E J=>?_,u.there,λb xs a=>?_,λb o x a=>?_,λb ps a=>?_} (ok.track g {A,x2 _ n ⟨y,e⟩}) bare (λb L=>?_),q D g,?_,B};rw[AI ((λb o a=>FO (au a) p) b o a)];exact u.free b o a E J;rw[AI (c b _ a)];exact u.tups b xs a;rw[AI (c b _ a)];exact u.frzs b o x a;rw[AI (c b _ a)];exact u.tbls b ps a;let[z,f1,f2,M,N,O]:=hf b L;exact⟨M,f1,N,O⟩;rw[AI (fk j)];exact l
def Inv.letgo{d:π}(I:Inv X AA σ H s)(a:s.heap.objs.size<=C)(j:Inv X AA g i d)(l:i C=none)(hs:gj C d.heap h'):Inv X AA g i { d with heap:=h' }:=by
 refine j.turned   (λb o n e=>(hs.2 b n).trans e) l (λz=>(FO I.lt a z.symm)) (.inr<|χ I.sz a) (λx c e z=>?_) λp q z=>(FO (I.pinlt q) a z)
 let[v,r]:=I.cell x c e;exact FO r.lt a z
variable{tg iter E4:Expr}{E5:yC}{scope:Scope}{pos:Pos}{wi:TI}{g:TG}{tt:TT}{te:TE}{tn cn:aD}{BB:wD}
def Zb(S:KA X scope tn cn BB)(p:X.calm=true)(q:PI X tg iter wi)
  (u:∀ AA s H a C b,PG (X.block AA s H (tn++cn) scope a C b) tg g) (w:∀ AA s H a C b,K9 (X.block AA s H (tn++cn) scope a C b) E5 tt) (he:∀ AA s H a C b,PE (X.block AA s H (tn++cn) scope a C b) E4 te)
  (hs:∀ x,ki iter X.env x=pure x:=by intro z;rfl):PE X (.ListComp E4 [{tg,iter,E5,0}] scope pos) (BZ wi g tt te tn.length BB):=by
 intro AA s σ H Q I h;let[a,d,y,A]:=pA   λx B e=>I.ok.has _<|S.free x B e;refine xv  rfl hs d S.kind S.names (AR (q _ s σ H _ I h) λv s1 h1=>AR h1 λE s2 h2=>?_);revert h2;apply u5;intro it b L J H2 [rfl,i,T,j,f2,W,[m0,M],c];refine AR (pD i S p y A T j f2 (λC=>u _ _ _ _ C _) (λC=>w _ _ _ _ C _) (λC=>he _ _ _ _ C _) W M c) λBP s3 h3=>AR h3 λo s4 h4=>mj h4 λr s5 h5=>?_
 have N:=h5.ok;subst N;refine u2 ?_<|h5.inv i f2;intro D O [rfl,U,Y,l,m,hm];exact{m,hm,λh' n=>x2 (.ref D) O {i.letgo h5.ge U l n,rfl,Y}}
def Zc{x:Str}{E b:Pos}(S:KA X scope tn cn BB)(M:X.calm=true)(O:X.N.Nodup)(n:X.N[i]? =some x)(l:X.env.scope.names.lookup x=some .local)(U:PI X tg iter wi)
  (Y:∀ AA s H c C d,PG (X.block AA s H (tn++cn) scope c C d) tg g) (ht:∀ AA s H c C d,K9 (X.block AA s H (tn++cn) scope c C d) E5 tt) (he:∀ AA s H c C d,PE (X.block AA s H (tn++cn) scope c C d) E4 te)
  (o:v_ (.ListComp E4 [{tg,iter,E5,0}] scope pos) (some<|.Name x E) b.line X.env=pure true:=by rfl)
  (hs:∀ x,ki iter X.env x=pure x:=by intro y;rfl):PS X (.Assign [.Name x E] (.ListComp E4 [{tg,iter,E5,0}] scope pos) b) (AT (BZ wi g tt te tn.length BB) (AG i)):=by
 intro AA s σ H D I h;let[c,p,BN,HF]:=pA   λx l q=>I.ok.has _<|S.free x l q;rw[exec_Assign_Name_used _ _ _ _ o];refine δ<|Be<|δ<|δ<|xv  rfl hs p S.kind S.names (AR (U _ s σ H _ I h) λv s1 h1=>AR h1 λitv s2 h2=>?_);revert h2;apply u5;intro it d tn' J H2 [rfl,e,T,u,f2,W,[m0,w0],j];refine AR (pD (Q:=λx' H1=>AG i x' σ H1 _) e S M BN HF T u f2 (λC=>Y _ _ _ _ C _) (λC=>ht _ _ _ _ C _) (λC=>he _ _ _ _ C _) W w0 j) λBP s3 h3=>AR h3 λL s4 h4=>mj h4 λr s5 h5=>?_
 have hr:=h5.ok;subst hr;refine u2 ?_<|h5.inv e f2;intro Da H' [rfl,I5,q5,w,m,hm];refine Ct<|mG I5 O n (.inl l) (show RelV (.ref Da) _ from rfl) (λs6 I6 ⟨a,A,ha⟩=>{m,hm.sameBut A ?_,λh' B=>(ν<|ν<|x2 _ H' {e.letgo h5.ge I6 w B,q5})}) (.inr l);let z||z:=ha
 exact fk<|z ▸ FO e.lt h5.ge;let[vv,zc]:=e.cell x a z;exact fk<|FO zc.lt h5.ge
end
def ObjOk.there(x:ObjOk P w H h a o):∃ ob,h.get? a=some ob:=by
 cases o with
 |lst xs=>let[z,z,z,z,e]:=x;exact⟨_,e⟩
 |tup xs=>let[z,z,z,ob,e,z]:=x;exact⟨_,e⟩
 |dK kvs=>let[z,z,z,z,ob,z,z,e,z]:=x;exact⟨_,e⟩
 |dT kvs=>let[z,z,z,z,ob,z,z,e,z]:=x;exact⟨_,e⟩
 |set S n=>revert x;apply u4;intro ob z z z [e,z];exact⟨_,e⟩
 |ins C b fs=>let[z,z,z,e,z]:=x;exact⟨_,e⟩
 |own y=>exact x
 |xd fs=>let[z,[ob,z,z,e,z],z]:=x;exact⟨_,e⟩
 |rng lo c=>revert x;apply u3;rintro z z z e;exact⟨_,e⟩
 |frz ob u=>let[e,z]:=x;exact⟨_,e⟩
 |tbl ps=>exact⟨_,x⟩
 |met f y=>exact⟨_,x⟩
 |ext d =>exact x.2.1
def HOk.nh(x:HOk P w H h)(e:h.get? a=none):H a=none:=by
 cases q:H a with
 |none=>rfl
 |some o =>
  let[ob,b]:=(x a o q).there;rw[e]at b;cases b
section
variable{X:Cx}{AA:wA}{σ:St}{H H':Hp}{s:π}{h':Heap}
def Inv.stepN{O:Array Cs}{t':Nat}{Y:Drawn}{ch:xC}(I:Inv X AA σ H s)
  (E:∀ b∈ch,(b∈X.ex\/X.s₀.heap.get? b=none)/\b≠X.env.locals/\(∀ x c,X.env.cells.lookup x=some c->c≠b)/\∀ p∈X.pn++AA,p.1≠b)
  (keep:∀ b o,b≠X.env.locals->b∉X.fs->b∉ch->s.heap.get? b=some o->H b=none->h'.get? b=some o)
  (slot:∀ b o,b≠X.env.locals->b∈X.fs->b∉ch->s.heap.get? b=some o->H b=none->∃ N,h'.get? b=some { o with slots:=N }) (free:∀ b o,b∉ch->s.heap.get? b=some o->H b=none->H' b=none)
  (there:∀ b o,b∉ch->s.heap.get? b=some o->∃ J,h'.get? b=some J)
  (tups:∀ b xs,H b=some (.tup xs)->H' b=some (.tup xs)) (frzs:∀ b o u,H b=some (.frz o u)->H' b=some (.frz o u)) (tbls:∀ b ps,H b=some (.tbl ps)->∃ more,H' b=some (.tbl<|ps++more))
  (ns:∀ m,s.heap.Ns X.env.locals m->h'.Ns X.env.locals m) (hok:HOk X.prog X.w H' h') (hg:t9 O) :
  Inv X AA σ H' { s with heap:=h',gens:=O,drawn:=Y,toks:=t' }:=by
 have L:∀ b o,X.s₀.heap.get? b=some o->b≠X.env.locals:=λb o e=>bh<|ω (au e) I.ok.above
 have w:∀ b o,X.s₀.heap.get? b=some o->b∉X.ex->b∉ch:=λb o e a B=>by
  let z||z:=(E b B).1
  exact a z;rw[e]at z;cases z
 have g:∀ x c,X.env.cells.lookup x=some c->∀ v,s.heap.IsCell c v->h'.IsCell c v:=λx c e v ⟨o,D,hd⟩=>by
  have j:=λz=>(E c z).2.2.1 x c e rfl;by_cases Q:c∈X.fs;let[N,q]:=slot c o (I.cne x c e) Q j D (I.freeC x c e);exact⟨_,q,hd⟩;exact{o,keep c o (I.cne x c e) Q j D (I.freeC x c e),hd}
 refine{I.ok,I.os,hg,{λb o e n B a=>(keep b o (L b o e) B (w b o e a) (I.base.keep b o e n B a) (I.base.free b o e n a)),λb o e n B a=>?_,λb o e n a=>?_,λb o e a=>?_,λb xs e=>tups b xs<|I.base.tups b xs e,λb o xs e=>frzs b o xs<|I.base.frzs b o xs e,λb ps e=>?_},?_,λx c e=>?_,?_,λx c e=>?_,λp T=>?_,hok,I.len};let[N,A]:=I.base.slot b o e n B a;let[sl',M]:=slot b _ (L b o e) B (w b o e a) A (I.base.free b o e n a);exact⟨_,M⟩;let[J,A]:=I.base.there b o e a;exact free b J (w b o e a) A (I.base.free b o e n a);let[J,A]:=I.base.there b o e a;exact there b J (w b o e a) A;let[m1,A]:=I.base.tbls b ps e;let[m2,M]:=tbls b _ A;exact{_,by rw[M,B_]};let[m,hn,hl]:=I.loc;refine{m,ns m hn,λi x v A M e3=>?_};let[u,r,l]:=hl i x v A M e3;refine{u,r,?_};let l||[k,c,e,z]:=l
 exact .inl l;exact .inr {k,c,e,g x c e _ z};let[v,z]:=I.cell x c e;exact{v,g x c e v z};let[m,[o,y,y,D,y],y]:=I.loc;exact free _ o (λz=>(E _ z).2.1 rfl) D I.free;let[v,o,D,hd]:=I.cell x c e;exact free c o (λz=>(E c z).2.2.1 x c e rfl) D (I.freeC x c e)
 have j:=λz=>(E _ z).2.2.2 p T rfl;let[e,n,ne,U,d]:=I.pin p T;exact{keep _ _ ne U j e n,free _ _ j e n,ne,U,d}
end
structure Fly(bad:Addr->Prop)(H:Hp)(h:Heap)(e:Addr)(cls:Value):Prop where
 nb:¬ bad e
 free:H e=none
 ex:∃ (oe:Obj) (vs:Array Value),h.get? e=some oe/\oe.cls=cls/\oe.dict=none/\oe.data=.fields vs/\(vs[1]? =some .none ∨
  ∃ (T:Addr) (oT:Obj) (ts:Array Value),vs[1]? =some (.ref T)/\¬ bad T/\H T=none/\T≠e/\h.get? T=some oT/\oT.data=.fields ts/\ts[3]? =some .none)
def Fly.mono(F:Fly bad H h e cls)(k:∀ a,d a->bad a):Fly d H h e cls:=by
 let[g,fr,i,vs,h1,h2,h3,h4,h5]:=F;refine{λz=>g<|k _ z,fr,x2 i vs {h1,h2,h3,h4,?_}};let z||[T,j,l,a,b,c]:=h5
 exact .inl z;exact .inr<|x3 T j l {a,λz=>b<|k _ z,c}
section
variable{M:Model}{A:df}{E:wB}{s:π}
def pE
  (D:A.frames=some (env::outer)) (r:s.heap.FunFrames base (env::outer)) (hf:env.frame=some L) (he:s.heap.get? e=some u) (d:u.data=.fields vs) (hsz:1<vs.size)
  (h:∀ h' T v w,(∀ b o,s.heap.get? b=some o->b≠e->b∉EF (env::outer)->h'.get? b=some o)->(∀ b o,s.heap.get? b=some o->b≠e->∃ n,h'.get? b=some { o with slots:=n }) ->
   h'.get? e=some (u.mapFields (·.setIfInBounds 1 (.ref T)))->s.heap.objs.size<=T->h'.get? T=some v->v.data=.fields w->w[3]? =some (k_ L)->Q () { s with heap:=h' }) :
  wpAny M A (do let a ← frameOf env;let l ← entryPlaceOf L nx;let b ← EntryCells.newEntry hd a .none (k_ L) .none l;setField (.ref e) 1 b) Q E s:=by
 have p:e∉(env::outer).filterMap _:=λz=>by
  let[y,o,x,H]:=r.mem z;rw[he]at x;obtain rfl:=μ x;exact H vs d
 refine δ<|wpAny_frameOf_fun D r hf λh1 c=>(δ<|wpAny_entryPlaceOf λl B=>(δ<|dr ?_<|B.sizeOk5 _ _ _ _ _))
 have g:=(c.2.1 e p).trans he
 have keep:∀ b o,b≠e->h1.get? b=some o->((h1.push { cls:=.type "traceback",dict:=none,data:=.fields ([hd,.ref L,.none,k_ L,.none]++(if l.isEmpty then ba 6 ky else l)).toArray }).update e (va (·.setIfInBounds 1 (ff h1.objs.size)))).get? b=some o:=λb o i j=>by
  rw[cy _ _ (fk i)];exact ξ _ j
 refine lw (ξ _ g) d hsz ?_;refine h _ _ _ _ (λb o j i q=>keep b o i<|(c.2.1 b q).trans j) (λb o j i=>?_) (du _ (ξ _ g) (nu<|h_ d _)) (by rw[c.1];exact ο _)
  ((cy _ _<|fk<|je<|au g).trans (ai _ rfl)) rfl ?_
 let[n,I]:=c.2.2 b o j;exact{n,keep b _ i I}
 first|(done)|(let rfl||[_,_,_,_,_,_,_,rfl]:=B<;>simp)
structure XC(fr:xC)(bad:Addr->Prop)(H:Hp)(e:Addr)(cls:Value)(h h':Heap):Prop where
 ch:∃ ch:xC,(∀ b∈ch,¬ bad b/\H b=none/\∃ o vs,h.get? b=some o/\o.data=.fields vs)/\(∀ b o,h.get? b=some o->b∉ch->b∉fr->h'.get? b=some o) /\
  (∀ b o,h.get? b=some o->b∉ch->∃ sl,h'.get? b=some { o with slots:=sl })
 fly:Fly bad H h' e cls
def pF
  (OX:A.frames=some (env::outer)) (hl:s.heap.FunFrames base (env::outer)) (hf:env.frame=some L) (F:Fly bad H s.heap e cls) (hb:∀ a,s.heap.objs.size<=a->¬ bad a) (hH:∀ a,s.heap.objs.size<=a->H a=none)
  (h:∀ h',XC (EF (env::outer)) bad H e cls s.heap h'->Q () { s with heap:=h' }) :
  wpAny M A (Kn (.ref e) env) (λy s2=>wpAny M A2 (Gn (.ref e) none) Q E2 s2) E s:=by
 let[nb,fr,oe,vs,he,WI,WH,hd,htb]:=F
 have rest:∀ (B:π) (ch:List _) (h':Heap) (T:Addr) (u:Obj) (v:Array _) (j:Obj),(∀ b o,s.heap.get? b=some o->B.heap.get? b=some o\/b∈ch)->B.heap.objs.size=s.heap.objs.size->e∈ch->(∀ b∈ch,¬ bad b/\H b=none/\∃ o vs,s.heap.get? b=some o/\o.data=.fields vs) ->
   j.cls=cls->j.dict=none->j.data=.fields vs->1<vs.size ->
   (∀ b o,B.heap.get? b=some o->b≠e->b∉EF (env::outer)->h'.get? b=some o)->(∀ b o,B.heap.get? b=some o->b≠e->∃ sl,h'.get? b=some { o with slots:=sl }) ->
   h'.get? e=some (j.mapFields (·.setIfInBounds 1 (.ref T)))->B.heap.objs.size<=T->h'.get? T=some u->u.data=.fields v->v[3]? =some (k_ L)->wpAny M A2 (Gn (.ref e) none) Q E2 { s with heap:=h' }:=by
  intro B ch h' T u v j J hsz q DO w n N r k1 k2 D O I g h3
  have p:=hsz ▸ O
  have U:=fk<|FO (au he) p
  have Y:=h_ N (·.setIfInBounds 1 (ff T))
  have hs3:=(il.mp h3).1;refine δ (jj D Y (x:=.ref T) (by simp[r]) (lw I g hs3<|h _ ?_))
  have i:∀ b,b≠T->(h'.update T (va (·.setIfInBounds 3 ((none:Option Addr).elim ky λf=>k_ f)))).get? b=h'.get? b:=λb c=>cy _ _<|fk c
  have ltT:∀ b o,s.heap.get? b=some o->b≠T:=λb o d=>FO (au d) p;refine{{ch,DO,λb o d l hbf=>?_,λb o d l=>?_},nb,fr,y2 {(i e<|fk U).trans D,(Ds _ _).trans w,?_,Y,.inr (x3 T _ _ {by simp[r],hb T p,hH T p,U,du _ I<|nu<|h_ g _,h_ g _,by simp[hs3]})}};rw[i b (ltT b o d)];let z||z:=J b o d
  exact k1 b o z (λz'=>l<|z' ▸ q) hbf;exact absurd z l;rw[i b (ltT b o d)];let z||z:=J b o d
  exact k2 b o z<|λz'=>l<|z' ▸ q;exact absurd z l;let[c1,c2,c3,c4]:=j;subst N;exact n
 unfold Kn;simp only[hf];let h1||[T0,oT0,ts0,h1,nbT,frT,neT,eT,dT,h3]:=htb
 have r:=(il.mp h1).1;refine δ<|jj he hd h1 ?_;exact pE OX hl hf he hd r λh' T u v k1 k2 D O I g h3=>(rest s [e] h' T u v oe (λb o d=>.inl d) rfl (by simp) (λb c=>by rw[aa]at c;subst c;exact{nb,fr,x2 oe vs ⟨he,hd⟩}) WI WH hd r k1 k2 D O I g h3)
 have r:=(il.mp h1).1;refine δ<|jj he hd h1 ?_;refine δ<|jj eT dT h3 ?_;refine δ<|lw eT dT (il.mp h3).1 ?_
 have i:∀ b,b≠T0->(s.heap.update T0 (va (·.setIfInBounds 3 ky))).get? b=s.heap.get? b:=λb c=>cy _ _<|fk c;refine pE OX (hl.of_keeps λb o d hn=>{o,(i b ((λb o d hn z=>by rw[z,eT]at d;obtain rfl:=μ d;exact hn _ dT) b o d hn)).trans d,rfl}) hf ((i e<|fk neT).trans he) hd r λh' T u v k1 k2 D O I g h3'=>?_;exact rest _ [e,T0] h' T u v oe
  (λb o d=>by
   by_cases z:b=T0;exact .inr (by simp[z]);exact .inl<|(i b z).trans d)
  (Heap.size_after_update ..) (by simp)
  (λb c=>by
   let z||z:=aj.mp c
   subst z;exact{nb,fr,x2 oe vs ⟨he,hd⟩}
   ·rw[aa]at z;subst z;exact{nbT,frT,x2 oT0 ts0 ⟨eT,dT⟩})
  WI WH hd r k1 k2 D O I g h3'
end
def Cx.bad(X:Cx)(b:wA):Addr->Prop:=λa=>X.s₀.heap.get? a≠none\/∃ p∈X.pn++b,p.1=a
structure XOk(X:Cx)(E:St->XK):Prop where
 po:F_ (model X.prog X.w) X.A X.env X.xe
 ex:X.ex=[]
 calm:X.calm=true
 go:∀ (AA:wA) (σ:St) (H:Hp) (s:π) (e:Addr) (cls:Value),Inv X AA σ H s->Fly (X.bad AA) H s.heap e cls->E σ cls none H->X.xe (.ref e) s
section
variable{X:Cx}{AA:wA}{σ:St}{H:Hp}{s:π}
def Inv.notbad(I:Inv X AA σ H s)(b:X.ex=[])(h:s.heap.get? a=none):¬ X.bad AA a:=λz=>by
 let z||[p,c,rfl]:=z
 cases q:X.s₀.heap.get? a with
 |none=>exact z q
 |some o =>
  let[d,e]:=I.base.there a o q (by rw[b];simp);rw[h]at e;cases e
 have:=(I.pin p c).1;rw[h]at this;cases this
def pG{h:Heap}(z:h.objs.size<=a):h.get? a=none:=by
 cases q:h.get? a with
 |none=>rfl
 |some o=>exact absurd (ω (au q) z) (jq _)
def Inv.noted{e:Addr}{cls:Value}{h':Heap}(I:Inv X AA σ H s)(N:XC (EF X.stack) (X.bad AA) H e cls s.heap h'):Inv X AA σ H { s with heap:=h' }:=by
 let[[ch,A,k1,k2],y]:=N;let[mL,[oL,M,O,j,Q,rL],y]:=id I.loc
 have i:∀ b∈ch,∀ o,s.heap.get? b=some o->∃ vs,o.data=.fields vs:=λb l o a=>by
  let[y,y,T,vs,J,d]:=A b l;rw[a]at J;obtain rfl:=μ J;exact⟨vs,d⟩
 have L:X.env.locals∉ch:=λz=>by
  let[vs,d]:=i _ z _ j;rw[Q]at d;cases d
 refine I.stepN     (λb l=>{.inr ?_,λz=>L<|z ▸ l,λx c U z=>?_,λp Y z=>(A b l).1 (.inr ⟨p,Y,z⟩)})
  (λb o B D g a y=>k1 b o a g λz=>(aj.mp<|I.stkSub b z).elim B D) (λb o y y g a y=>k2 b o a g) (λy y y y n=>n) (λb o g a=>?_) (λy y q=>q) (λy y y q=>q) (λb ps q=>{#[],by rw[q];simp}) (λm hm=>?_) (λb o a=>?_) I.bare
 cases q:X.s₀.heap.get? b with
 |none=>rfl
 |some o=>exact absurd (.inl (by rw[q];simp)) (A b l).1
 let[v,oc,E,hd]:=I.cell x c U;let[vs,d]:=i c (z ▸ l) oc E;rw[hd]at d;cases d;let[sl,q]:=k2 b o a g;exact⟨_,q⟩;revert hm;apply u3;intro T es' ep' [w,r'];rw[j]at w;obtain rfl:=μ w;let[sl,q]:=k2 _ _ j L;exact x3 _ _ _ ⟨q,r'⟩;refine(I.hok b o a).stay (λc u r q=>k1 c u q ?_ ?_) (λy q=>q) λy y q=>q;intro z
 have fr:=(A c z).2.1;let rfl||r:=r
 rw[a]at fr;cases fr;rw[r]at fr;cases fr;intro z
 have fr:=I.stkFree c z;let rfl||r:=r
 rw[a]at fr;cases fr;rw[r]at fr;cases fr
def EG(P:bv)(w:World):IC:=λouter H s E e b=>∃ (d:Addr) (cls:Value) (c:Hp),e=.ref d/\b.os=s.os/\t9 b.gens/\Un (EF outer) [] H c s.heap b.heap/\HOk P w c b.heap/\Fly (λa=>s.heap.get? a≠none) c b.heap d cls/\E cls none c
def pH(h:EG P w outer H s (λ_ _ _=>False) e a):False:=by
 revert h;apply u3;intro z z z [z,z,z,z,z,z,f];exact f
def XOk.passes(x:XOk X E):HH (EG X.prog X.w) X E:=λAA σ H s e d I h=>by
 revert h;apply u3;intro g cls i [rfl,os,bare,un,hok,F,q];refine x.go _ σ i d g _ (I.call'  os un hok bare λb z=>absurd z (by simp)) (F.mono λa z=>?_) q;let z||[p,j,rfl]:=z
 cases c:X.s₀.heap.get? a with
 |none=>exact absurd c z
 |some o =>
  let[l,e]:=I.base.there a o c (by rw[x.ex];simp);rw[e];simp
 rw[(I.pin p j).1];simp
def pJ:HH (EG P w) X (λ_=>E0):=λz z z z z z z h=>(pH h).elim
end
def Zd{P:bv}{w:World}{K:W.Frag}{mg:xA}{base:Heap}{N:aD}{b:Str}{scope:Scope}{f:Addr}{d:Value}{A:df}{outer:uD}{s:π}{H:Hp}{E:XK} :
  XOk (JA (EG P w) P w K mg base N b scope f d A outer s H E) (λ_=>E) where
 po:=PassesOwn.leaving
 ex:=rfl
 calm:=rfl
 go:=λi j g l e cls I F q=>by
  refine δ<|pF I.ok.frames I.stack rfl F (λa z=>I.notbad rfl<|pG z) (λa z=>I.hok.fresh z) λh' N=>?_
  have c:=I.noted N;exact x3 e _ g {rfl,c.os,c.bare,c.base,c.hok,N.fly.mono λa z=>.inl z,q}
structure Exc(K:W.Frag)(C:Addr):Prop where
 nm:∃ x,W.nsIn K bq x=some (some<|.ref C)
 ex:W.excIn K C [.type "ValueError",.type "Exception",.type "BaseException",.type "object"] "ValueError.__new__"=true
def Zg:Value->Str
 |.str n _=>n
 |_=>""
def Mod.top{K:W.Frag}{mg:xA}{h:Heap}(M:Mod K mg h)(p:bv):∃ l a,W.TopRead p l mg a h:=by
 let[a,i,he]:=M.blt;let[o,b,q,h1,h2,h3,h4]:=id M.glob;refine{b.toList.map λe=>Zg e.key,a,M.glob,i,M.nolimit,he,λx z j z z z=>?_};rw[<-h4];unfold nsFind findBy;cases e:b.find? λe=>e.key.isStr x with
 |none=>rfl
 |some d =>
  have hd:=Array.mem_of_find?_eq_some e
  have c:=Array.find?_some e;let[n,t,g]:=h3 d hd;rw[g]at c;exact(j (av.mpr {d,zo.mpr hd,by rw[g];exact Value.isStr_inj _ _ _ (show(Fs n t).isStr n=true by simp[Value.isStr]) c})).elim
def Exc.obj{K:W.Frag}{mg:xA}{h:Heap}(x:Exc K C)(M:Mod K mg h)(p:bv):type_of% (W.own_of_in (p:=p) M.kin (M.top p).choose_spec.choose_spec x.nm.choose_spec x.ex).obj:=(W.own_of_in (p:=p) M.kin (M.top p).choose_spec.choose_spec x.nm.choose_spec x.ex).obj
def FD(C:Addr)(E:St->XK)(t:TA):TS:=λ_ a H=>t a H λvs b=>vs.length<=sizeLine/\E a (.ref C) none b
section
variable{X:Cx}{E:St->XK}{C:Addr}{x:Str}{np DY pos:Pos}{e:Expr}{es:yC}{t:TA}
def LA(g:XOk X E)(c:Exc X.K C)(p:Gl X x)(u:X.mg x=some (.ref C))(v:PA X (e::es) t)(i:(x ==("__debug__":Str))=false:=by decide)
  (he:az (e::es) X.env=(false,eval e X.env)::az es X.env:=by rfl) (w:(jh DY<|az es X.env).any (·.1)=false:=by rfl) :
  PS X (.Raise (some<|.Call (.Name x np) (e::es) [] DY) none pos) (FD C E t):=by
 refine λM s j H D I h=>Pc ?_<|c.obj I.mod X.prog;intro O N nm q bs hdct sn sub ab col dd k0 k1 k2 [k3,k5,Q,y,A,l,T]
 have b:(jh DY<|az (e::es) X.env).any (·.1)=false:=by
  rw[he]
  show(false||(jh _ _).any _)=false;rw[w];rfl
 have n:=v DY _ s j H _ I h;refine wpAny_Raise_call_subT  (nm:=nm) (q:=q) (N:=N) (bs:=bs)  (hdct:=hdct) (sn:=sn) (sub:=sub) (ab:=ab) (col:=col) (dd:=dd) (k0:=k0) (k1:=k1) (k2:=k2) (k3:=k3) (k5:=k5)
  PySem.F.excBase_ValueError  (T.hasType PySem.F.excBase_ValueError.hasBase) (I.ok.hd g.calm) b l (NE I p u {rfl,?_} i)
 rw[he]at n ⊢;refine om<|AR n λus B ⟨vs,o,a,r,hz,q1⟩=>{rfl,?_,a.bk _ _ y,A.keeps a.bk,T.keeps a.bk,λh' J d=>?_};rw[<-r.length];exact hz
 have L:Inv X _ j o { B with heap:=h' }:=a.kept  d.keeps;let[U,h1,h2,h3]:=d.there;refine g.go _ j o _ J _ L {λz=>a.notbad g.ex d.new z,a.hok.nh d.new,y2 {h1,rfl,rfl,rfl,.inl rfl}} q1
end
section
variable(P:bv)(w:World)(K:W.Frag)(mg:xA)(base:Heap)
structure TC(k:Nat)(x:Str)(ps:aD)(sp:Sp):Prop where
 ex:∃ (f:Addr) (fd:gq),FnOk P w K mg base (EG P w) k f fd ps sp/\mg x=some (.ref f)/\W.keepIn K (.ref f)=true/\Binds K fd ps []
structure NN(C:Addr)(k:Nat)(m:Str)(ps:aD)(sp:Sp):Prop where
 ex:∃ (f:Addr) (fd:gq),FnOk P w K mg base (EG P w) k f fd ps sp/\SU K C m f/\Binds K fd ps []
structure XD(C:Addr)(k:Nat)(x:Str)(ps:aD)(sp:Sp):Prop where
 ex:∃ (f:Addr) (fd:gq),FnOk P w K mg base (EG P w) k f fd ps sp/\Mk K C f/\mg x=some (.ref C)/\Binds K fd ps []
end
section
variable{X:Cx}{E:St->XK}{k:Nat}{x m:Str}{ps:aD}{sp:Sp}{C:Addr}{p pos C7:Pos}{e o:Expr}{es:yC}{ta:TE}{t:TA}
def pK(c:TC X.prog X.w X.K X.mg X.base k x ps sp)(b:Room k X.A)(d:HH (EG X.prog X.w) X E)(g:Gl X x)(i:PA X (e::es) t)(a:(x ==("__debug__":Str))=false:=by decide)
  (he:az (e::es) X.env=(false,eval e X.env)::az es X.env:=by rfl) (j:(jh pos<|az es X.env).any (·.1)=false:=by rfl):PE X (.Call (.Name x p) (e::es) [] pos) (ME sp [] E t):=by
 refine u2 ?_ c.ex;intro f fd [F,l,n,q];exact Vb F b g l n q .nil d i a he j
def XF(he:PE X o ta)(d:Cls X.K C)(c:NN X.prog X.w X.K X.mg X.base C k m ps sp)(g:Room k X.A)(i:HH (EG X.prog X.w) X E)(j:PA X (e::es) t)
  (a:az (e::es) X.env=(false,eval e X.env)::az es X.env:=by rfl) (l:(jh pos<|az es X.env).any (·.1)=false:=by rfl)
  (n:eval (.Call (.Attribute o m C7) (e::es) [] pos) X.env=(do
   let b ← eval o X.env
   ym C7.atName
   let (f,first) ← t_ [b] (uo b m s)
   zq pos f first (jh pos<|az (e::es) X.env) (vc pos<|me [] X.env)):=by rfl):PE X (.Call (.Attribute o m C7) (e::es) [] pos) (IZ C m sp [] E ta t):=by
 refine u2 ?_ c.ex;intro f fd [F,q,r];exact Vc he d q F g r .nil i j a l n
def Zh(he:PE X o ta)(b:Cls X.K C)(c:NN X.prog X.w X.K X.mg X.base C k m ps sp)(d:Room k X.A)(g:HH (EG X.prog X.w) X E)
  (i:eval (.Call (.Attribute o m C7) [] [] pos) X.env=(do
   let a ← eval o X.env
   ym C7.atName
   let (f,first) ← t_ [a] (uo a m n)
   zq pos f first (jh pos<|az [] X.env) (vc pos<|me [] X.env)):=by rfl):PE X (.Call (.Attribute o m C7) [] [] pos) (IZ C m sp [] E ta BQ):=by
 refine u2 ?_ c.ex;intro f fd [F,j,l];exact Vd he b j F d l .nil g i
def Zj(c:XD X.prog X.w X.K X.mg X.base C k x ps sp)(b:Room (k+1) X.A)(d:HH (EG X.prog X.w) X E)(g:Gl X x)(i:PA X (e::es) t)(a:(x ==("__debug__":Str))=false:=by decide)
  (he:az (e::es) X.env=(false,eval e X.env)::az es X.env:=by rfl) (j:(jh pos<|az es X.env).any (·.1)=false:=by rfl):PE X (.Call (.Name x p) (e::es) [] pos) (NI C sp [] E t):=by
 refine u2 ?_ c.ex;intro f fd [F,M,l,n];exact Vh M F b g l n .nil d i a he j
end
def Fun.okE{P:bv}{w:World}{K:W.Frag}{mg:xA}{base:Heap}{x a:Str}{st:Stmt}{f:Addr}{fd:gq}{N ps:aD}{k:Nat}{sp:Sp}(F:Fun K x a st f fd)(S:FnScope N ps (AU st))(len:∀ vs H Q E,sp vs H Q E->vs.length=ps.length)
  (d:∀ (b:Value) (A:df) (outer:uD) (s:π) (H:Hp) (vs:vE) (Q:VK) (E:XK),Room k (A.deeper<|xu a (AU st) s.heap.objs.size f b)->sp vs H Q E ->
   ∃ t,FC (JA (EG P w) P w K mg base N a (AU st) f b A outer s H E) (HK st) t/\t { nx:=λz e=>Q .non e,rt:=Q } (AX N vs) H):FnOk P w K mg base (EG P w) (k+1) f fd ps sp:=by
 refine u9 ?_ F.ex;intro n o kV g pm p b ct i [rfl,l,c];exact Vk l c S len λA outer s H vs Q E j h=>d _ A _ s H vs Q E j h
def GV(mg:xA)(x:Str)(v:V):Prop:=∃ u,mg x=some u/\RelV v u
def LB(g:GV X.mg x v)(a:Gl X x)(hd:(x ==("__debug__":Str))=false:=by decide):PE X (.Name x pos) (tC v):=by
 let[u,b,r]:=g;exact Qj a b r hd
abbrev Cx.tri(X:Cx)(pn:wA)(xe:wB):Cx:={ X with pn:=pn,xe:=xe }
abbrev Cx.hand(X:Cx)(e:Addr):Cx:={ X with A:=X.A.mark<|some<|.ref e,calm:=false,xe:=λ_ _=>False }
section
variable{X:Cx}{AA:wA}{σ:St}{H:Hp}{s:π}
def Cx.Ok.tri{pn:wA}{xe:wB}(ok:X.Ok):(X.tri pn xe).Ok :=
 ⟨ok.mod,ok.kind,ok.glob,ok.blt,ok.above,ok.inj,ok.has,ok.cab,ok.hd,ok.frames,ok.stk,ok.exf,ok.bs,ok.bsz,ok.noex,ok.exfs,ok.funs,ok.frf⟩
def Inv.tri(I:Inv X AA σ H s):Inv (X.tri (X.pn++AA) xe) [] σ H s :=
 {I.ok.tri,I.os,I.bare,I.base,I.loc,I.cell,I.free,I.freeC,λp a=>I.pin p (by simpa using a),I.hok,I.len}
def Cx.Ok.untri{pn:wA}{xe:wB}(ok:(X.tri pn xe).Ok):X.Ok :=
 ⟨ok.mod,ok.kind,ok.glob,ok.blt,ok.above,ok.inj,ok.has,ok.cab,ok.hd,ok.frames,ok.stk,ok.exf,ok.bs,ok.bsz,ok.noex,ok.exfs,ok.funs,ok.frf⟩
def Inv.untri(I:Inv (X.tri (X.pn++AA) xe) b σ H s):Inv X AA σ H s :=
 {I.ok.untri,I.os,I.bare,I.base,I.loc,I.cell,I.free,I.freeC,λp a=>I.pin p<|jg _ a,I.hok,I.len}
def Cx.Ok.hand(ok:X.Ok):(X.hand e).Ok :=
 {ok.mod,ok.kind,ok.glob,ok.blt,ok.above,ok.inj,ok.has,ok.cab,(λz=>nomatch z),ok.frames,ok.stk,ok.exf,ok.bs,ok.bsz,ok.noex,ok.exfs,ok.funs,ok.frf}
def Inv.hand(I:Inv X AA σ H s):Inv (X.hand e) AA σ H s:=⟨I.ok.hand,I.os,I.bare,I.base,I.loc,I.cell,I.free,I.freeC,I.pin,I.hok,I.len⟩
def Inv.unhand(ok:X.Ok)(I:Inv (X.hand e) AA σ H s):Inv X AA σ H s:=⟨ok,I.os,I.bare,I.base,I.loc,I.cell,I.free,I.freeC,I.pin,I.hok,I.len⟩
end
abbrev TH:=Value->Ends->St->Hp->Prop
def pL:TH:=λ_ _ _ _=>False
def XG(p:Value->Option Bool)(b:TS)(rest:TH):TH:=λcls D a H=>(p cls=some true/\b D a H)\/(p cls=some false/\rest cls D a H)
def Ends.drop(D:Ends)(i:Nat):Ends:={ nx:=λa H=>D.nx (a.set i none) H,rt:=D.rt,bk:=λa H=>D.bk (a.set i none) H,ct:=λa H=>D.ct (a.set i none) H }
def PH(X:Cx)(hs:List xw)(c:TH):Prop :=
 ∀ (a:wA) (s:π) (b:St) (H:Hp) (D:Ends) (e:Addr) (cls:Value),X.ex=[]->Inv X a b H s->Fly (X.bad a) H s.heap e cls->c cls D b H ->
  wpAny (model X.prog X.w) X.A (handleBy (.ref e) X.env hs) (SP X a D) X.xe s
def PX(X:Cx)(t:Expr)(p:Value->Option Bool):Prop :=
 ∀ (a:wA) (s:π) (g:St) (H:Hp) (e:Addr) (cls:Value) (b:Bool) (Q:Bool->π->Prop) (E:wB),Inv X a g H s->Fly (X.bad a) H s.heap e cls->p cls=some b ->
  (∀ d,Inv X a g H d->Fly (X.bad a) H d.heap e cls->Q b d)->wpAny (model X.prog X.w) (X.A.mark<|some<|.ref e) (eval t X.env) (λc i=>wpAny (model X.prog X.w) (X.A.mark<|some<|.ref e) (excMatches (.ref e) c) Q E i) E s
def XH(b:(St->XK)->TS)(c:TH):TS:=λD d H=>b (λa cls _ e=>c cls D a e) D d H
section
variable{X:Cx}{hs:List xw}{h₀:xw}{th:TH}{body:List Stmt}{tb:(St->XK)->TS}{pos:Pos}
def Zk:PH X [] pL:=λz z z z z z z z z z h=>h.elim
def Zl(F:Fly bad H h e cls):W.Looks M h (typeOf<|.ref e) cls:=by
 let[z,z,a,vs,h1,rfl,z]:=F;exact(W.Looks.ld h1).andThen .now
def Zm(F:Fly bad H s.heap e cls)
  (h:∀ h',XC fr bad H e cls s.heap h'->Q () { s with heap:=h' }):wpAny M A (Gn (.ref e) none) Q E s:=by
 have r:=F;let[u,l,v,vs,he,w,x,hd,n]:=F;let h1||[T,y,B,h1,g,i,neT,p,dT,h3]:=n
 exact δ (jj he hd h1 (ν (h _ {{[],(λb a=>nomatch a),λb o c _ _=>c,λb o c _=>⟨_,c⟩},r})));refine δ<|jj he hd h1 ?_
 have j:=(il.mp h3).1
 have d:∀ b,b≠T->(s.heap.update T (va (·.setIfInBounds 3 (none.elim ky λf=>k_ f)))).get? b=s.heap.get? b:=λb q=>cy _ _<|fk q;refine lw p dT j (h _ ({{[T],λb a=>?_,λb o c a _=>(d b λz=>a (by simp[z])).trans c,λb o c a=>{_,(d b λz=>a (by simp[z])).trans c}},u,l,x2 v vs {(d e<|fk neT).trans he,w,x,hd,.inr (x3 T _ _ {h1,g,i,neT,du _ p<|nu<|h_ dT _,h_ dT _,by simp[j]})}}));rw[aa]at a;subst a;exact{g,i,x2 y B ⟨p,dT⟩}
theorem SP.unhand(ok:X.Ok)(h:SP (X.hand e) d D f s):SP X d D f s:=by
 cases f with
 |next=>revert h;apply u2;intro a b [c,q];exact x2 _ b {c.unhand ok,q}
 |brk=>revert h;apply u2;intro a b [c,q];exact x2 _ b {c.unhand ok,q}
 |cont=>revert h;apply u2;intro a b [c,q];exact x2 _ b {c.unhand ok,q}
 |ret u=>revert h;apply u3;intro v a b [c,r,q];exact x3 v _ b {c.unhand ok,r,q}
def Zp{t:Expr}{c:Stmt}{a:List Stmt}{r:Pos}{p:Value->Option Bool}{i:TS}{rest:List xw}{j:TH}(u:PX X t p)(l:∀ e,FC (X.hand e) (c::a) i)(v:PH X rest j) :
  PH X (.ExceptHandler (some t) none (c::a) r::rest) (XG p i j):=by
 intro E s g H D e cls w I F h
 have d:∃ b,p cls=some b/\(b=true->i D g H)/\(b=false->j cls D g H):=by
  let[h1,h2]||[h1,h2]:=h
  exact{_,h1,λ_=>h2,λz=>nomatch z};exact{_,h1,(λz=>nomatch z),λ_=>h2}
 let[b,n,x,y]:=d;refine wpAny_handleBy_cons (codeAny_handlers_test<|u _ s g H e _ b _ _ I F n λA o q=>?_) (by intro z;cases z);cases b with
 |false=>exact v _ A g H D e _ w o q<|y rfl
 |true =>
  refine codeAny_handlers_suite<|Zm (fr:=EF X.stack) q λh' N=>?_
  have B:Inv (X.hand e) _ g H _:=(o.noted N).hand;refine oa (l e _ _ g H D B<|x rfl) (λf J h2=>h2.unhand I.ok) λ_ _ z=>z.elim
def Zq(B:X.ex=[])(c:X.calm=true)(d:X.stack=X.env::X.outer)(O:X.env.frame=some X.env.locals)(Q:∀ (E:St->XK) (pn:wA) (xe:wB),XOk (X.tri pn xe) E->FC (X.tri pn xe) body (tb E))(T:PH X (h₀::hs) th) :
  PS X (.Try body (h₀::hs) [] [] pos) (XH tb th):=by
 refine λL s U H D I h=>wpAny_Try_except ?_
 let xe:Value->π->Prop:=λe l=>wpAny (model X.prog X.w) X.A (Kn e X.env) (λy n=>wpAny (model X.prog X.w) X.A (Gn e none) (λy o=>wpAny (model X.prog X.w) X.A (handleBy e X.env (h₀::hs)) (SP X L D) X.xe o) X.xe n) X.xe l
 have J:XOk (X.tri (X.pn++L) xe) (λw cls y x=>th cls D w x):=by
  refine{PassesOwn.looking,B,c,λY w x s' e cls A F' q=>?_}
  have M:=A.untri;refine pF (d ▸ M.ok.frames) (d ▸ M.stack) O F' (λa z=>A.notbad B<|pG z) (λa z=>A.hok.fresh z) λh' N=>?_;rw[<-d]at N
  have I2:Inv _ Y _ x _:=A.noted N;exact T _ _ _ x D e _ B I2.untri (N.fly.mono λa z=>by
   let z||[p,hp,z]:=z
   exact .inl z;exact .inr {p,jg _ hp,z}) q
 refine oa (Q _ _ xe J [] s U H D I.tri h) (λf s1 b=>?_) λy y z=>z;cases f with
 |next =>
  revert b;apply u2;intro g i [j,q];exact my<|x2 _ i ⟨j.untri,q⟩
 |brk=>revert b;apply u2;intro g i [j,q];exact x2 _ i ⟨j.untri,q⟩
 |cont=>revert b;apply u2;intro g i [j,q];exact x2 _ i ⟨j.untri,q⟩
 |ret u=>revert b;apply u3;intro v g i [j,r,q];exact x3 v _ i ⟨j.untri,r,q⟩
end
mutual
inductive Rep(K:W.Frag)(H:Hp):V->xx->Prop
 |non:Rep K H .non .none
 |bl (b:Bool):Rep K H (.bl b) (.bool b)
 |int (i:Int):Rep K H (.int i) (.int i)
 |str (x:Str):Rep K H (.str x) (.str x)
 |lst {a:Addr} {xs:vE} {ds:List xx}:SqL K H a xs->RepAll K H xs ds->Rep K H (.ref a) (.list ds)
 |tup {a:Addr} {xs:vE} {ds:List xx}:SqT K H a xs->RepAll K H xs ds->Rep K H (.ref a) (.tuple ds)
inductive RepAll(K:W.Frag)(H:Hp):vE->List xx->Prop
 |nil:RepAll K H [] []
 |cons {v:V} {d:xx} {vs:vE} {ds:List xx}:Rep K H v d->RepAll K H vs ds->RepAll K H (v::vs) (d::ds)
end
section
variable{X:Cx}{AA:wA}{σ:St}{H:Hp}{s:π}
def Rep.reads(I:Inv X AA σ H s):∀ {v:V} {d:xx} {u:Value},Rep X.K H v d->RelV v u->∃ as,Reads s.heap u d as:=λ{v d u} h=>by
 revert u;refine Rep.rec (motive_1:=λv d z=>∀ {u:Value},RelV v u->∃ as,Reads s.heap u d as) (motive_2:=λv d z=>∀ {u:vC},Vals v u->∃ as,ReadsAll s.heap u d as) ?_ ?_ ?_ ?_ ?_ ?_ ?_ ?_ h
 ·intro u r;cases (show _=ky from r);exact{_,.none}
 ·intro b u r;cases (show _=Ir b from r);exact{_,.bool b}
 ·intro i u r;let[t,e]:=(show ∃ t,_=um i t from r);cases e;exact{_,.int i t}
 ·intro x u r;let[t,e]:=(show ∃ t,_=Fs x t from r);cases e;exact{_,.str x t}
 ·intro a xs A h z c u r;cases (show _=ff a from r);let[B,g,p,z]:=I.list h;let[as,q]:=c g;let[o,j,l,n,y]:=p.isList;exact{_,.list j l y q}
 ·intro a xs A h z c u r;cases (show _=ff a from r);let[B,g,p,z]:=I.tuple h;let[as,q]:=c g;let[o,j,l,n,y]:=p;exact{_,.tuple j l y q}
 ·intro u r;rw[SK r];exact{_,.nil}
 ·intro v d vs A z z D E u r;let[w,m,rfl,r,t]:=SJ r;let[as,q]:=D r;let[bs,q2]:=E t;exact{_,.cons q q2}
end
abbrev shp(d:xx):Prop:=PySem.SeqAt.shaped d=true
def rD(K:W.Frag)(x y:V)(H:Hp)(R:xB):Prop:=∃ d e,Rep K H x d/\Rep K H y e/\shp d/\shp e/\R (f_ d e) H
def NO(K:W.Frag):R2:=λx y H Q=>rD K x y H λb=>Q<|.bl b
def KB(K:W.Frag):R2:=λx y H Q=>rD K x y H λb=>Q<|.bl<|!b
section
variable{X:Cx}
def Zv(a:X.A.units+64<cLine):CF X (d_ .Eq) (NO X.K):=by
 intro p s r H x y v u Q I b c;apply u2;intro d e [g,i,j,l,q];let[as,n]:=g.reads I b;let[bs,o]:=i.reads I c;exact eq_dataH n o j l a<|x2 (.bl _) H ⟨I,rfl,q⟩
def Zw(a:X.A.units+64<cLine):CF X (d_ .NotEq) (KB X.K):=by
 intro p s r H x y v u Q I b c;apply u2;intro d e [g,i,j,l,q];let[as,n]:=g.reads I b;let[bs,o]:=i.reads I c;exact ne_dataH n o j l a<|x2 (.bl _) H ⟨I,rfl,q⟩
def XI(K:W.Frag):R2:=λx y H Q=>∃ a b ys,x=.ref a/\y=.ref b/\SqT K H a []/\SqT K H b ys/\Q (.ref b) H
def Zx:CF X (iz .Add) (XI X.K):=by
 intro M s N H x y v u Q I d e h;revert h;apply u3;intro a b ys [rfl,rfl,g,i,q];subst d;let[O,j,[[l,n,c3,o],c,p,r,w],z]:=I.tuple g;subst e;obtain rfl:l=_:=p;obtain rfl:c3=_:=w;let[T,U,[[A,B,D,E],f1,f2,J,L],z]:=I.tuple i;obtain rfl:A=_:=f2;cases j;obtain rfl:D=_:=L;exact De ⟨_,c,rfl⟩ ⟨_,f1,rfl⟩ yg Bf PySem.F.slot_tuple_add PySem.F.entry_tuple_add (PySem.F.args_tuple_add_2 _ _) (tuple_addW0 a b _ _ r J n B o E rfl) {c,f1,x2 (.ref b) H ⟨I,rfl,q⟩}
def BE(K:W.Frag):R2:=λx y H Q=>match x,y with
 |.int i,.int j=>Q (.int<|i+j) H
 |.str i,.str j=>i.length+j.length<=sizeLine/\Q (.str<|i++j) H
 |.ref _,.ref _=>W2 x y H Q\/WX K x y H Q\/XI K x y H Q
 |_,_=>False
def Zy:CF X (iz .Add) (BE X.K):=by
 intro d s a H x y v u Q I b c h;cases x<;>cases y<;>simp only[BE]at h;exact Sy _ s a H _ _ v u Q I b c<|y2 ⟨rfl,rfl,h⟩;exact Ty _ s a H _ _ v u Q I b c<|y2 ⟨rfl,rfl,h⟩;let h||h:=h
 exact Xb _ s a H _ _ v u Q I b c h;let h||h:=h
 exact Wb _ s a H _ _ v u Q I b c h;exact Zx _ s a H _ _ v u Q I b c h
def GK:R2:=λx y H Q=>match x,y with
 |.int i,.int j=>Q (.bl<|decide<|i<j) H
 |.str i,.str j=>Q (.bl<|decide<|i.cps.toList<j.cps.toList) H
 |_,_=>False
def EB:R2:=λx y H Q=>match x,y with
 |.int i,.int j=>Q (.bl<|decide<|i<=j) H
 |.str i,.str j=>Q (.bl<|!decide (j.cps.toList<i.cps.toList)) H
 |_,_=>False
end
def Zz:fillsNumberSlot (.type "tuple") "mul"=pure false :=
 PySem.fillsNumberSlot_seq   F.slot_tuple_mul.lookup (by decide) F.slot_tuple_rmul.lookup (by decide)
def zaa:seqRepeat? (.type "tuple")=pure (some<|.builtin "tuple.__mul__"):=by
 unfold seqRepeat?;rw[PySem.seqSlot_of  (name:="__mul__")  F.slot_tuple_mul.lookup (by decide),PySem.seqSlot_of  (name:="__rmul__")  F.slot_tuple_rmul.lookup (by decide)]
 rfl
def zab(a:Int)(t:Tok)(l:Addr)(b:Array Value)(dd:Option Addr)(n:Nat)(c:Array (Option Value)) :
  Meets (vt.«int.__rmul__» {[.int a t,.ref l],[]}) (λ_ R s=>s.heap.get? l=some {.type "tuple",dd,.seq b n,c}/\R (.ok<|.ret Value.notImplemented) s) :=
 .of_wp λprog w A R s h=>by let[d,h]:=h;wp_walk;exact⟨_,rfl,h⟩
def zac(l:Addr)(a:Array Value)(dd:Option Addr)(n:Nat)(e:Array (Option Value))(x:Int)(u:Tok)(h1:1<x)(h2:x<2 ^ 63)(b:a.isEmpty=false)(hz:a.size * x.toNat<=sizeLine) :
  Meets (vt.«tuple.__mul__» {[.ref l,.int x u],[]}) (λ_ R s=>s.heap.get? l=some {.type "tuple",dd,.seq a n,e} ∧
   R (.ok<|.ret<|ff s.heap.objs.size) { s with heap:=s.heap.push { cls:=n_ "tuple",data:=Data.seq (yt (λd x2=>d++x2) #[] (ba x.toNat a)) } }) :=
 .of_wp λprog w A R s h=>by
  let[j,h]:=h
  have g:sizeLine<=(2^63-1)/8:=by decide
  have c:∃ N:Nat,a.size*x=N/\N<=sizeLine:={_,by rw[zb,fz (by lia)],hz}
  let[N,c,i]:=c
  have o:(yt (λd x2=>d++x2) #[] (ba x.toNat a)).size<=sizeLine:=by
   have:=S0 a.toList x.toNat [];simp only[r_,Array.toArray_toList]at this;rw[this];simp only[ax,List.length_flatten,List.map_replicate,List.sum_replicate_nat,cw];rw[da];exact hz
  refine sq (by simp;lia) ?_
  wp_walk
  refine sq (by simp only[b,xy];simp;lia) (sq (by simp only[b,rg];simp;omega) (sq (by rw[c];exact decide_eq_false (by omega)) (sq (by rw[c];unfold Ja;simp;exact i) ?_)))
  wp_walk
  exact⟨_,rfl,h⟩
def zad(l:Addr)(a:Array Value)(dd:Option Addr)(n:Nat)(b:Array (Option Value))(u:Tok) :
  Meets (vt.«tuple.__mul__» {[.ref l,.int 1 u],[]}) (λ_ R s=>s.heap.get? l=some {.type "tuple",dd,.seq a n,b}/\R (.ok<|.ret<|ff l) s) :=
 .of_wp λprog w A R s h=>by
  let[c,h]:=h
  wp_walk
  exact⟨_,rfl,h⟩
def XJ(K:W.Frag):R2:=λx y H Q=>∃ a k xs,x=.ref a/\y=.int k/\SqT K H a xs/\xs≠[]/\1<=k/\k<2^63/\xs.length*k.toNat<=sizeLine /\
 (k=1->Q (.ref a) H)/\(k≠1->∀ p,H p=none->Q (.ref p) (upd H p<|.tup (ba k.toNat xs).flatten))
section
variable{X:Cx}
def Inv.tnew(I:Inv X a b H s)(c:Vals ys d)(hz:ys.length<=sizeLine) :
  Inv X a b (upd H s.heap.objs.size<|.tup ys) { s with heap:=s.heap.push { cls:=.type "tuple",data:=.seq d.toArray } } :=
 I.laid  (λz z q=>ξ _ q) (ο _) {hz,_,c,_,ai _ rfl,rfl,0,rfl}
def zae:CF X (iz .Mult) (XJ X.K):=by
 intro E s J H x y v u Q I o p h;revert h;apply u3;intro a k xs [rfl,rfl,q,d,h1,h2,hz,q1,q2];subst o;let[i,r,[[w,e,c3,g],c,A,n,B],z]:=I.tuple q;obtain rfl:w=_:=A;obtain rfl:c3=_:=B;let[t,rfl]:=p
 have j:=r.length
 have he:i.toArray.isEmpty=false:=by
  cases i with
  |nil=>exact absurd (fg.mp j) d
  |cons b t=>rfl
 refine wy   (by decide) ⟨_,c,rfl⟩ (λD=>yr D k t) Zz F.fills_int_mul F.slot_int_rmul zaa F.slot_int_index.lookup
  (ik F.slot_int_rmul (yr s k t) F.entry_int_rmul (F.args_int_rmul_2 _ _) (zab k t a _ e n g) {c,rfl,⟨_,c,rfl⟩,?_})
 by_cases l:k=1;subst l;exact ik F.slot_tuple_mul ⟨_,c,rfl⟩ F.entry_tuple_mul (F.args_tuple_mul_2 _ _) (zad a _ e n g t) {c,x2 (.ref a) H {I,rfl,q1 rfl}};refine ik F.slot_tuple_mul ⟨_,c,rfl⟩ F.entry_tuple_mul (F.args_tuple_mul_2 _ _) (zac a _ e n g k t (by lia) h2 he (by rw[ax,<-j];exact hz)) {c,?_};rw[(S0 _ _ [])];exact x2 (.ref _) _ {I.tnew (r.rep _) (by rw[oP,da];exact hz),rfl,q2 l _ I.fresh}
abbrev zaf:mK:=Ry λi j=>i+j
def TF(z:Str)(k:Int):Str:=if k<1 then uq else if(k==1||z.length==0)=true then z else{(ba k.toNat z.cps).foldl (· ++·) #[]}
def zag(z:Str)(k:Nat):(Str.mk ((ba k z.cps).foldl (· ++·) #[])).length=k*z.length:=by
 have e:∀ (m:Nat) (a:Array _),((ba m z.cps).foldl (· ++·) a).size=a.size+m*z.cps.size:=λm=>by
  induction m with
  |zero=>simp
  |succ m b=>intro a;rw[lq,fq,b,Dt,ub];lia
 simpa [yq]using (e k #[])
def zah:R2:=λx y H Q=>∃ z k,x=.str z/\y=.int k/\0<=k/\k<=1000/\z.length<=1000/\Q (.str<|TF z k) H
def zai:CF X (iz .Mult) zah:=by
 intro g s i H x y v u Q I b e h;revert h;apply u2;intro z k [rfl,rfl,h1,h2,h3,q];let[t,rfl]:=b;let[t',rfl]:=e;refine PySem.P.mul_str (by simp;lia) (λa _=>?_) (λa _=>?_) ?_
 have:1000<=(2^63-1)/k:=(Int.le_ediv_iff_mul_le<|wg.mp ‹_›).mpr (by lia)
 lia
 have h4:z.length*k.toNat<=1000*1000:=io h3 (by omega)
 have h5:(1000*1000)<=sizeLine:=by decide
 exact decide_eq_false (by lia);unfold TF at q;split;rename_i c;rw[if_pos c]at q;exact{by decide,x2 (.str _) H {I.tok _,⟨_,rfl⟩,q}};rename_i c;rw[if_neg c]at q;split;rename_i d;rw[if_pos d]at q;exact x2 (.str _) H {I,⟨_,rfl⟩,q};rename_i d;rw[if_neg d]at q;exact⟨by rw[zag];have:=io (show k.toNat<=1000 by omega) h3;show _<=2^24;exact oA this rfl,x2 (.str _) H {I.tok _,⟨_,rfl⟩,q}⟩
def GL(K:W.Frag):R2:=λx y H Q=>match x,y with
 |.int i,.int j=>CMul i j/\Q (.int<|i*j) H
 |.str z,.int k=>0<=k/\k<=1000/\z.length<=1000/\Q (.str<|TF z k) H
 |.ref _,.int _=>W3 x y H Q\/XJ K x y H Q
 |_,_=>False
def zaj:CF X (iz .Mult) (GL X.K):=by
 intro d s a H x y v u Q I b c h;cases x<;>cases y<;>simp only[GL]at h;exact Tb _ s a H _ _ v u Q I b c<|y2 ⟨rfl,rfl,h⟩;exact zai _ s a H _ _ v u Q I b c<|y2 ⟨rfl,rfl,h⟩;let h||h:=h
 exact Xc _ s a H _ _ v u Q I b c h;exact zae _ s a H _ _ v u Q I b c h
def HL:R2:=λx y H Q=>match x,y with
 |.int i,.int j=>Q (.bl<|decide<|j<i) H
 |_,_=>False
def pM:CF X (d_ .Lt) GK:=by
 intro c s d H x y v u Q I a b h;cases x<;>cases y<;>simp only[GK]at h;exact Tj c s d H _ _ v u Q I a b<|y2 ⟨rfl,rfl,h⟩
 ·let[t,rfl]:=a;let[t',rfl]:=b;exact PySem.P.lt_str<|x2 (.bl _) H ⟨I,rfl,h⟩
def P0:CF X (d_ .LtE) EB:=by
 intro c s d H x y v u Q I a b h;cases x<;>cases y<;>simp only[EB]at h
 ·exact Tk c s d H _ _ v u Q I a b<|y2 ⟨rfl,rfl,h⟩
 ·let[t,rfl]:=a;let[t',rfl]:=b;exact PySem.P.le_str<|x2 (.bl _) H ⟨I,rfl,h⟩
def zak:CF X (d_ .Gt) HL:=by
 intro a s b H x y v u Q I c d h;cases x<;>cases y<;>simp only[HL]at h;exact Tl a s b H _ _ v u Q I c d<|y2 ⟨rfl,rfl,h⟩
abbrev pN:R2:=λx y H Q=>y=.non/\Q (.bl<|decide<|x=.non) H
abbrev pO:R2:=λx y H Q=>y=.non/\Q (.bl<|!decide (x=.non)) H
variable{a:Expr}{ta:TE}{tA:TT}{pos:Pos}
abbrev pP(K:W.Frag)(ta:TE):TT:=λc H Q=>ta c H λx b=>∃ k,K1 K x b k/\Q k b
def B8(K:W.Frag):R2:=nY K
def pQ:IxR X (B8 X.K):=Wh
def zal:V->Option Int->Option Int->Hp->VK->Prop:=λx lo b H Q=>∃ z,x=.str z/\z.length<=sizeLine/\Q (.str<|Txt.slice z lo b) H
def pR{v:Value}{lo:Option Int}(p:zr v lo):∃ l:Option (Int × Tok),v=partValue l/\l.map (·.1)=lo:=by
 cases p with
 |none=>exact⟨none,rfl,rfl⟩
 |int i t=>exact{some (i,t),rfl,rfl}
def zam:SlR X zal:=by
 intro e s g H x v i j lo n o Q I b hs c d h;let[z,rfl,hz,q]:=h;let[t,rfl]:=b;let[l,rfl,rfl]:=pR c;let[u,rfl,rfl]:=pR d;exact x2 "str" _ {PySem.F.slot_str_getitem.lookup,mn _ _ _,(wpAny_getItem_str_slice   (st:=none) hs rfl (post_val_or_str {χ (Txt.slice_le z _ _) hz,λt' k=>x2 (.str _) H {I.tok k,⟨t',rfl⟩,q}}))}
def LC(K:W.Frag):V->Option Int->Option Int->Hp->VK->Prop:=λx lo b H Q=>match x with
 |.str z=>z.length<=sizeLine/\Q (.str<|Txt.slice z lo b) H
 |_=>oF K x lo b H Q\/nK K x lo b H Q
def zan:SlR X (LC X.K):=by
 intro b s c H x v d e lo g i Q I j hs l n h;cases x<;>first
  |exact zam b s c H _ v d e lo g i Q I j hs l n ⟨_,rfl,h⟩
  |exact(SlR.or Wp Vz) b s c H _ v d e lo g i Q I j hs l n h
abbrev P7:V->V->V->Hp->(Hp->Prop)->Prop:=n0
def pT:WO X P7:=Wk
def P8(K:W.Frag)(c:TE):TI:=λd H R=>c d H λx b=>∃ a,x=.ref a/\(((∃ xs,SqL K b a xs)/\R (GH K a) b)\/((∃ xs,SqT K b a xs)/\R (IY K a) b))
def XL(K:W.Frag):vE->Hp->VK->Prop:=λxs H Q=>∃ x n,xs=[x]/\ST K x H n/\Q (.int n) H
def zao:EN X (.builtin "len") (XL X.K):=Uc
def pU(K:W.Frag):vE->Hp->VK->Prop:=λxs H Q=>∃ p ys,xs=[.ref p]/\(SqL K H p ys\/SqT K H p ys)/\∀ l,H l=none->Q (.ref l) (upd H l<|.lst ys)
def zap:EN X (.type "list") (pU X.K):=Ww
def pV(K:W.Frag):vE->Hp->VK->Prop:=λxs H Q=>∃ p ys,xs=[.ref p]/\((SqL K H p ys/\∀ l,H l=none->Q (.ref l) (upd H l<|.tup ys))\/(SqT K H p ys/\Q (.ref p) H))
def zaq:EN X (.type "tuple") (pV X.K):=Wx
end
section
variable{X:Cx}{tg a:Expr}{ta:TE}{pos:Pos}
def zar(r:PE X l u):PI X tg l (P8 X.K u):=by
 refine λD s w H R I h=>AR (r _ s w H _ I h) λv n g=>?_;let[x,i,c,y,[a,e,q1]]:=g;subst e
 have d:∀ b∈[n.heap.objs.size],FpOk X _ i b:=λb z=>by
  have e:b=n.heap.objs.size:=by simpa using z
  subst e;exact c.fpOk (ο _) (c.hok.fresh<|ο _)
 subst y;let[[xs,j],q]||[[xs,j],q]:=q1
 let[A,B,p,hz]:=c.list j;exact xk p.isList<|x5 _ _ _ _ i {rfl,c.kept  λb o e=>ξ _ e,Sb a _,{_,ai _ rfl,rfl,rfl},d,q};let[A,B,p,hz]:=c.tuple j;exact wpAny_pyIter_tuple (p) (x5 _ _ _ _ i {rfl,c.kept  λb o e=>ξ _ e,Sc a _,{_,ai _ rfl,rfl,rfl},d,q})
end
def TJ(scope outer:Scope)(N a:aD)(b:wD):Bool :=
 scope.kind == .function&&scope.names.all (λy=>y.2 != .cell)&&scope.names.all (λy=>y.2 != .local||scope.names.lookup y.1==some .local) &&
 scope.names.all (λy=>y.2 != .free||outer.names.lookup y.1==some .cell||outer.names.lookup y.1==some .free)&&a.all (λx=>scope.names.lookup x==some .free)&&(b.map (λi=>N[i]?)==a.map some)
def pW(h1:X.env.scope=outer)(h2:X.N=N)(h:TJ scope outer N b c=true):KA X scope e b c:=by
 unfold TJ at h;simp only[bz,fh,m_,bne_iff_ne,beq_iff_eq]at h;let[[[[[k1,k2],k3],k4],k5],k6]:=h;refine{k1,k2,λy a d=>(k3 y a).resolve_left λz=>z d,λy a hf=>?_,k5,by rw[h2];exact k6}
 have z:=k4 y a
 show X.env.scope.names.lookup _=_\/X.env.scope.names.lookup _=_;rw[h1];rcases z with(z|z)|z
 exact absurd hf z;exact .inl z;exact .inr z
structure z4v(K:W.Frag)(C:Addr):Prop where
 ga:W.findIn K (.ref C) "__getattribute__"=some (some<|.builtin "BaseException.__getattribute__")
 gt:W.findIn K (.ref C) "__getattr__"=some none
 be:W.mroIn K C (.type "BaseException")=some true
 cl:W.isClsIn K C=true
 ha:W.findIn K (.ref C) "__class__"=some (some<|.builtin "object.__class__")
 hn:W.specialIn K (.builtin "object.__class__") "__get__"=some (some<|.builtin "getset_descriptor.__get__")
 tk:W.takesIn K (.builtin "object.__class__")=some true
 mr:W.mroIn K C (.type "object")=some true
set_option tactic.hygienic true in
inductive pX:V->Value->Prop
 |own (C:Addr):pX (.ref C) (.ref C)
 |ty (n:String):pX (.ty n) (.type n)
section
variable{X:Cx}
end
def EH(J:It)(g:TG)(n:TT)(o:TE)(k:Nat)(q:wD)(r:St)(s:Hp)(Q:VK):Prop :=
 ∃ W:Nat->Nat->St->vE->Hp->Prop,(∃ m,W 0 m (K8 k q r) [] s)/\∀ i m c ys H,W i m c ys H ->
  (J.stop i H/\∀ p,H p=none->Q (.ref p) (upd H p<|.lst ys)) ∨
  (J.go i H/\ys.length<sizeLine/\∀ x e,J.yld i H x e->g x c e λa u=>n a u λb j =>
   if b=true then ∃ N:VK,(∀ y l,N y l->∃ d,d<m/\W (i+1) d a (ys++[y]) l)/\o a j N else ∃ d,d<m/\W (i+1) d a ys j)
def GO(J:It)(g:TG)(j:TS)(D:Ends)(a:St)(l:Hp):Prop :=
 ∃ W:Nat->Nat->St->Hp->Prop,(∃ m,W 0 m a l)/\∀ i m a H,W i m a H ->
  (J.stop i H/\D.nx a H)\/(J.go i H/\∃ N:St->Hp->Prop,(∀ b c,N b c->∃ e,e<m/\W (i+1) e b c)/\∀ x c,J.yld i H x c->g x a c λd n=>j { D with nx:=N,ct:=N,bk:=D.nx } d n)
section
variable{K:W.Frag}{ta tb tc to ti tv tl:TE}{tt tA tB' tu:TT}{s1 s2:TS}{r r':R2}{σ:St}{H:Hp}{Q:VK}{D:Ends}{QB:xB}{as:TA}{g:TG}{gs:HG}{te:TE}{k i:Nat}{BB:wD}{f m:Str}{C:Addr}{sp:Sp}{ET:vE}{E:St->XK}{v:V}{vs:vE}{QA:vE->Hp->Prop}{QG:St->Hp->Prop}{QO:Option Int->Hp->Prop}
def zas:AH s1 s2 D σ H=(s1 { D with nx:=s2 D } σ H):=rfl
def zat:BW D σ H=(D.nx σ H):=rfl
def zau:AT ta g D σ H=(ta σ H λx a=>g x σ a D.nx):=rfl
def zav:CP ta D σ H=(ta σ H λ_ a=>D.nx σ a):=rfl
def zaw:AV ta D σ H=(ta σ H D.rt):=rfl
def zax:BM tt s1 s2 D σ H=(tt σ H λb a=>if b=true then s1 D σ a else s2 D σ a):=rfl
def zay:tC v σ H Q=(Q v H):=rfl
def zaz:AD r ta tb σ H Q=(ta σ H λx a=>tb σ a λy b=>r x y b Q):=rfl
def za0:F8 tt σ H QB=(tt σ H λc a=>QB (!c) a):=rfl
def za1:IW tt tu σ H QB=(tt σ H λc a=>if c=true then tu σ a QB else QB false a):=rfl
def za2:MA tt tu σ H QB=(tt σ H λc a=>if c=true then QB true a else tu σ a QB):=rfl
def za3:SQ tt ta tb σ H Q=(tt σ H λc a=>if c=true then ta σ a Q else tb σ a Q):=rfl
def za4:BQ σ H QA=(QA [] H):=rfl
def za5:D4 ta as σ H QA=(ta σ H λx a=>as σ a λxs b=>QA (x::xs) b):=rfl
def za6:C8 as σ H Q=(as σ H λxs a=>xs.length<=sizeLine/\∀ p,a p=none->Q (.ref p) (upd a p<|.tup xs)):=rfl
def za7:CI as σ H Q=(as σ H λxs a=>xs.length<=sizeLine/\∀ p,a p=none->Q (.ref p) (upd a p<|.lst xs)):=rfl
def za8:NH a ta σ H Q=ta σ H λx b=>a x b Q:=rfl
def za9:CJ rc as σ H Q=as σ H λvs a=>rc vs a Q:=rfl
def zba:FD C E as D σ H=(as σ H λvs a=>vs.length<=sizeLine/\E σ (.ref C) none a):=rfl
def zbb:XH sb b D σ H=sb (λa cls _ c=>b cls D a c) D σ H:=rfl
def zbc:AG i v σ H QG=(QG (σ.set i<|some v) H):=rfl
def zbd:O4 to ti a v σ H QG=to σ H λo b=>ti σ b λi c=>a o i v c λd=>QG σ d:=rfl
def zbe:FM K k gs v σ H QG=(∃ a xs,v=.ref a/\SqT K H a xs/\xs.length=k/\gs xs σ H QG):=rfl
def zbf:FL vs σ H QG=((vs=[]/\QG σ H)):=rfl
def zbg:DP g gs vs σ H QG=(∃ v r,vs=v::r/\g v σ H λa b=>gs r a b QG):=rfl
def zbh:K3 a ta ol b σ H Q=ta σ H λx c=>ol σ c λl d=>b σ d λu e=>a x l u e Q:=rfl
def zbi:K2 σ H QO=(QO none H):=rfl
def zbj:DQ K T rm ta as σ H Q=ta σ H λx a=>W1 K T x a/\as σ a λxs b=>rm x xs b Q:=rfl
def zbk:CQ σ H QB=(QB true H):=rfl
def zbl:SV K ta tv j f D σ H=(ta σ H λx d=>∃ a C l fs v,x=.ref a/\d a=some (.ins C l fs)/\Cls K C/\NoAttr K C f/\fs.lookup f=some v/\tv σ d λy n=>j v y n λz e=>∃ c b,e a=some (.ins C c b)/\b.length<1000/\D.nx σ (upd e a<|.ins C c<|BS f z b)):=rfl
end
section
variable{K:W.Frag}{σ:St}{H:Hp}{Q:VK}{P:Bool->Prop}{PI':Int->Prop}{PV:V->Prop}{QB:xB}{v:V}{x:Option V}{i j:Int}{n:Nat}{b b':Bool}{s s':Str}{p q:Addr}{f:Int->Int->V}{C:Int->Int->Prop}
def EI(i:Nat):TE:=λσ H Q=>match σ[i]? with
 |some (some v)=>Q v H
 |_=>False
def zbm:EI 0 (some v::σ) H Q=Q v H:=rfl
def zbn:EI (n+1) (x::σ) H Q=EI n σ H Q:=rfl
def zbo(i:Nat):EI i=SN i:=by
 funext σ H Q;unfold EI SN;cases σ[i]? with
 |none=>simp
 |some o=>cases o<;>simp
def zbp:BE K (.int i) (.int j) H Q=Q (.int<|i+j) H:=rfl
def zbq:BE K (.str s) (.str s') H Q=(s.length+s'.length<=sizeLine/\Q (.str<|s++s') H):=rfl
def zbr:BE K (.ref p) (.ref q) H Q=(W2 (.ref p) (.ref q) H Q\/WX K (.ref p) (.ref q) H Q\/XI K (.ref p) (.ref q) H Q):=rfl
def zbs{x y:Str}:EB (.str x) (.str y) H Q=Q (.bl<|!decide (y.cps.toList<x.cps.toList)) H:=rfl
def zbt{x y:Str}:GK (.str x) (.str y) H Q=Q (.bl<|decide<|x.cps.toList<y.cps.toList) H:=rfl
def zbu{x:Str}{lo a:Option Int}:LC K (.str x) lo a H Q=(x.length<=sizeLine/\Q (.str<|Txt.slice x lo a) H):=rfl
def zbv:GL K (.int i) (.int j) H Q=(CMul i j/\Q (.int<|i*j) H):=rfl
def zbw:GL K (.str z) (.int j) H Q=(0<=j/\j<=1000/\z.length<=1000/\Q (.str<|TF z j) H):=rfl
def zbx:GL K (.ref p) (.int j) H Q=(W3 (.ref p) (.int j) H Q\/XJ K (.ref p) (.int j) H Q):=rfl
def zby:GK (.int i) (.int j) H Q=Q (.bl<|decide<|i<j) H:=rfl
def zbz:EB (.int i) (.int j) H Q=Q (.bl<|decide<|i<=j) H:=rfl
def zb0:HL (.int i) (.int j) H Q=Q (.bl<|decide<|j<i) H:=rfl
def zb1:PJ (.int i) (.int j) H Q=Q (.int<|i+j) H:=by simp[PJ]
end
def pvr(i:Nat)(a:X.N[i]? =some x:=by rfl)(b:SL X.env.scope x:=by first|exact Gi rfl|exact zu (Gi rfl)|exact zu<|zu rfl)(hd:(x ==("__debug__":Str))=false:=by decide)
  (c:(x ==("__classdict__":Str))=false:=by decide):PE X (.Name x pos) (EI i):=by
 rw[zbo];exact mI a b hd c
abbrev AW(Q:VK):Ends:={ nx:=λ_ a=>Q .non a,rt:=Q }
abbrev C1(a:wD)(b:St):St:=a.map λi=>(b[i]?).join
section
variable{K:W.Frag}{te:TE}{BB:wD}{σ:St}{H:Hp}{Q:VK}
def MI{lo:Int}{n:Nat}(j:n<=sizeLine)(Pv:Nat->vE->Hp->Prop)(h0:Pv 0 [] H)(hs:∀ i ys H,i<n->ys.length=i->Pv i ys H->te (some (.int<|lo+i)::C1 BB σ) H λy g=>Pv (i+1) (ys++[y]) g)
  (hd:∀ ys H,ys.length=n->Pv n ys H->∀ p,H p=none->Q (.ref p) (upd H p<|.lst ys)) :
  EH (FN lo n) (AG 0) CQ te 1 BB σ H Q:=by
 refine{λi m a ys H=>m=n-i/\i<=n/\ys.length=i/\(∃ d,a=d::C1 _ σ)/\Pv i ys H,{n,rfl,bg _,rfl,⟨_,rfl⟩,h0},?_};intro i m a ys H [rfl,l,b,[d,rfl],p];by_cases c:i<n;refine .inr {c,by lia,λx o y=>?_};let[e,y]:=y;subst e y;refine{_,λy r q=>{_,cq ‹_›,rfl,c,?_,⟨_,rfl⟩,q},hs i ys _ c b p};rw[ae,i_,b]
 have e:i=n:=by lia
 subst e;exact .inl {ο _,hd ys H b p}
def XM(o:xs.length<=sizeLine)(Pv:Nat->vE->Hp->Prop)(h0:Pv 0 [] H)(j:∀ i ys H,i<=xs.length->Pv i ys H->SqL K H b xs)
  (hs:∀ i x ys H,xs[i]? =some x->ys.length=i->Pv i ys H->te (some x::C1 BB σ) H λy l=>Pv (i+1) (ys++[y]) l)
  (hd:∀ ys H,ys.length=xs.length->Pv xs.length ys H->∀ p,H p=none->Q (.ref p) (upd H p<|.lst ys)) :
  EH (GH K b) (AG 0) CQ te 1 BB σ H Q:=by
 refine{λi m a ys H=>m=xs.length-i/\i<=xs.length/\ys.length=i/\(∃ d,a=d::C1 _ σ)/\Pv i ys H,{xs.length,rfl,bg _,rfl,⟨_,rfl⟩,h0},?_};intro i m a ys H [rfl,n,c,[d,rfl],p]
 have q:=j i ys H n p;by_cases g:i<xs.length;refine .inr {x2 xs (xs[i]) {q,by simp[g]},by lia,λx r y=>?_};let[rfl,y]:=y;refine{_,λy s q=>{_,cq ‹_›,rfl,g,?_,⟨_,rfl⟩,q},hs i x ys _ (y xs q) c p};rw[ae,i_,c]
 have e:i=xs.length:=by lia
 subst e;exact .inl {{xs,q,ο _},hd ys H c p}
def zb3{lo:Int}{n:Nat}(d:n<=sizeLine)(f:Nat->V)(hs:∀ i,i<n->∀ c:VK,c (f i) H->te (some (.int<|lo+i)::C1 BB σ) H c)
  (hd:∀ p,H p=none->Q (.ref p) (upd H p<|.lst<|(τ n).map f)) :
  EH (FN lo n) (AG 0) CQ te 1 BB σ H Q:=by
 refine MI d (λi ys b=>b=H/\ys=(τ i).map f) ⟨rfl,rfl⟩ (λi ys b e g a=>?_) (λys b g a=>?_);let[rfl,j]:=a;refine hs i e _ {rfl,?_};rw[j,ca,aw];rfl;let[rfl,rfl]:=a;exact hd
def G2(Pv:yA)(h0:Pv 0 σ H)(c:∀ i σ H,i<=xs.length->Pv i σ H->SqL K H b xs)
  (hs:∀ i x σ H,xs[i]? =some x->Pv i σ H->g x σ H λa d=>e { D with nx:=Pv<|i+1,ct:=Pv<|i+1,bk:=D.nx } a d) (hd:∀ σ H,Pv xs.length σ H->D.nx σ H):GO (GH K b) g e D σ H:=Sl Pv h0 c hs hd
def pY(Pv:yA)(h0:Pv 0 σ H)(c:∀ i σ H,i<=xs.length->Pv i σ H->SqT K H b xs)
  (hs:∀ i x σ H,xs[i]? =some x->Pv i σ H->g x σ H λa d=>e { D with nx:=Pv<|i+1,ct:=Pv<|i+1,bk:=D.nx } a d) (hd:∀ σ H,Pv xs.length σ H->D.nx σ H):GO (IY K b) g e D σ H:=Sm Pv h0 c hs hd
def P9{lo:Int}{n:Nat}{g:TG}{b:TS}{D:Ends}(Pv:yA)(h0:Pv 0 σ H)
  (hs:∀ i σ H,i<n->Pv i σ H->g (.int<|lo+i) σ H λa c=>b { D with nx:=Pv<|i+1,ct:=Pv<|i+1,bk:=D.nx } a c) (hd:∀ σ H,Pv n σ H->D.nx σ H):GO (FN lo n) g b D σ H:=Sq Pv h0 hs hd
end
def AL(h:H p=none):Same H (upd H p o):=λb u e=>by rw[AI (BK e h)];exact e
theorem JC{α a :Type}{F: α -> a ->Prop}:∀ {l:List α} {m:List a} {i:Nat} {y: a},Paired F l m->m[i]? =some y->∃ x,l[i]? =some x/\F x y
 |_,_,_,_,.nil,e=>by simp at e
 |_,_,0,_,.cons r _,e=>by simp at e;subst e;exact⟨_,rfl,r⟩
 |_,_,i+1,y,.cons _ t,e=>by
  let[u,h1,h2]:=JC   t (e);exact⟨u,h1,h2⟩
def zb4{α a :Type}{F: α -> a ->Prop}{x: α}{y: a}(r:F x y):∀ {l:List α} {m:List a} (i:Nat),Paired F l m->Paired F (l.set i x) (m.set i y):=λi h=>by
 induction h generalizing i with
 |nil=>exact .nil
 |cons q t b=>cases i with
  |zero=>exact .cons r t
  |succ i=>exact .cons q<|b i
def CH{K:W.Frag}{H:Hp}{p:Addr}{xs:vE}{i:Int}{n:Nat}{v:V}{Q:VK}(h:SqL K H p xs)(a:i=n)(b:xs[n]? =some v)(q:Q v H):B8 K (.ref p) (.int i) H Q :=
 .inl (x4 p xs i v {rfl,rfl,h,a ▸ SY b,q})
def BT(n:Nat)(h:n<=100000):n<=sizeLine:=χ h (by decide)
theorem pZ{α :Type}(x: α):∀ w:Nat,(ba w [x]).flatten=ba w x
 |0=>rfl
 |w+1=>by rw[lq,ii,pZ x w];rfl
def KC(h:fs.length+1<n):(BS f v fs).length<n:=cj (O8 f v fs) h
def zb5(h:shp d):f_ d d=true:=PySem.SeqAt.eqv_refl d<|PySem.SeqAt.canLay_of_shaped h
def ItK(k:Bool)(h:Heap)(j a:Addr)(i:Nat):Prop:=if k then h.IsListIter j a i else h.IsTupleIter j a i
def p0(k:Bool)(h:Heap)(a:Addr)(xs:Array Value):Prop:=if k then h.IsList a xs else h.IsTuple a xs
def ItK.up(x:ItK k h j a i)(q:∀ o,h.get? j=some o->h'.get? j=some o):ItK k h' j a i:=by
 cases k<;>exact(let ⟨o,e,r⟩:=x;{o,q o e,r})
def ItK.ob(x:ItK k h j a i):∃ o,h.get? j=some o/\o.data=.fields #[.ref a,.int i 0]:=by
 cases k<;>exact(let ⟨o,e,_,r⟩:=x;⟨o,e,r⟩)
section
variable{P:bv}{w:World}{A:df}{E:wB}{s:π}
def zb6(z:A.handled=none)(c:s.heap.IsTupleIter j t i)(d:s.heap.IsTuple t g)(e:g[i]? =none)
  (q:∀ h' x,mf j s.heap h'->(∃ o,h'.get? x=some o/\o.cls=.type "StopIteration")->E (.ref x) { s with heap:=h' }):wpAny (model P w) A (wz<|.ref j) Q E s:=by
 let[l,a,p,b]:=id c;let[r,f1,y,n,f2]:=d;refine δ<|cz  c.typeIs F.slot_tuple_iterator_next (dk F.slot_tuple_iterator_next c.typeIs F.entry_tuple_iterator_next ?_<|F.args_tuple_iterator_next_1 _)
 show wpAny _ _ (field _ 0>>=_) _ _ s;refine δ<|jj a b  rfl (δ<|jj a b  rfl (δ<|zv f1 f2 ?_));simp only[ci,e];refine δ (tf (δ (lw a b (by simp) (δ (δ (dr (δ  (zw  (by first|rfl|(rfl)) (dr (δ<|Bi ?_) (by size_fits)))) (by size_fits)))))));rw[z];exact δ<|ν<|HE<|q _ _ (((dw ..).extBut.push _).push _) {_,ai _ rfl,rfl}
def zb7(z:A.handled=none)(c:ItK k s.heap j t i)(d:p0 k s.heap t a)(e:a[i]? =none)
  (q:∀ h' x,mf j s.heap h'->(∃ o,h'.get? x=some o/\o.cls=.type "StopIteration")->E (.ref x) { s with heap:=h' }):wpAny (model P w) A (wz<|.ref j) Q E s:=by
 cases k;exact zb6 z c d e q;exact wpAny_nextOf_list_end z c d e q
end
section
variable{P:bv}{w:World}{A:df}{E:wB}{s:π}
end
def Inv.turnedS{X:Cx}{g:wA}{j:St}{H:Hp}{s:π}{h':Heap}{t':Nat}{i:xC}(I:Inv X g j H s)(k:∀ b o,b∉i->s.heap.get? b=some o->h'.get? b=some o)(hf:∀ b∈i,FpOk X g H b):Inv X g j H { s with heap:=h',toks:=t' }:=by
 have d:∀ b u,H b=some u->b∉i:=λb u e z=>by rw[(hf b z).1]at e;cases e
 refine I.step    (λb l=>?_) (λb o y y a e y=>k b o a e) (λb o y y a e y=>{_,k b o a e}) (λy y y y n=>n)
  (λb o a e=>{o,k b o a e}) (λy y e=>e) (λy y y e=>e) (λb ps e=>{#[],by rw[e];simp}) (λm p=>?_) (λb u e=>?_) I.bare
 let[y,f1,y,w,x,A]:=hf b l;exact⟨w,f1,x,A⟩;revert p;apply u3;intro o B D [E,r];exact x3 o B D {k _ o (λz=>(hf _ z).2.1 rfl) E,r};refine(I.hok b u e).stay (λc v a q=>k c v ?_ q) (λy q=>q) λy y q=>q;let z||z:=a
 rw[z];exact d b u e;exact d c _ z
def XN(K:W.Frag)(k:Bool)(H:Hp)(a:Addr)(xs:vE):Prop:=if k then SqL K H a xs else SqT K H a xs
def Inv.seqK(I:Inv X d e H s)(q:XN X.K k H a xs):∃ b,Vals xs b/\p0 k s.heap a b.toArray:=by
 cases k;let[b,c,p,z]:=I.tuple q;exact⟨_,c,p⟩;let[b,c,p,z]:=I.list q;exact⟨_,c,p.isList⟩
def Inv.seqK_inj(I:Inv X b c H s)(p:XN X.K k H a xs)(q:XN X.K k H a ys):xs=ys:=by
 cases k;exact I.tuple_inj p q;exact I.list_inj p q
structure z4w(z T U j j':Addr):Prop where
 a1:T≠z
 a2:U≠z
 a3:j≠z
 a4:j'≠z
 a5:T≠U
 a6:T≠j
 a7:T≠j'
 a8:U≠j
 a9:U≠j'
 a10:j≠j'
def FpOk.upd(f:FpOk X c H b)(n:b≠a):FpOk X c (upd H a o) b:={(AI n).trans f.1,f.2}
section
variable{X:Cx}{tg:Expr}
end
def QC(z:Str):It:={λi _=>i<z.cps.size,λi H x a=>a=H/\∃ c,z.cps[i]? =some c/\x=.str {#[c]},λi _=>z.cps.size<=i}
def p5{P:bv}{w:World}{K:PySem.W.Frag}{M:Expr}{it:Addr}{z:Str}{t:Tok}{nm:String}(N:["enumerate","zip","dict_itemiterator","dict_reverseitemiterator","odict_iterator","itertools.zip_longest","itertools.pairwise"].contains nm=false)
  (W:∀ A:df,A.handled=none->Walks P w A it [it] [it] z.cps.size (SignAt z) (λi h=>h.IsStrIter it nm z t i)) (sf:∀ (A:df) (i:Nat) (s:π) (Q:wB) (E:wB),s.heap.IsStrIter it nm z t i->Q (.ref it) s->wpAny (model P w) A (zn<|.ref it) Q E s) :
  JY P w K M (QC z) [it] it (λi h=>i<=z.cps.size/\h.IsStrIter it nm z t i) where
 mem:=by simp
 obj:=λi h ⟨_,o,e,c,d⟩ b a=>by
  have O:b=it:=by simpa using a
  subst O;exact{o,e,λv q=>by rw[d]at q;cases q}
 keep:=λi h h' ⟨l,o,e,r⟩ k=>{l,o,k it (by simp) o e,r}
 item:=by
  intro X T U Y n i AA s L H E I hf ⟨y,st⟩ j;let[p,f1,f2,x,B,D]:=hf it (by simp);refine(W _<|I.ok.hd n).item i s _ _ j st λv h' tk hv g J=>?_;revert hv;apply u2;have I1:Inv X _ L H { s with heap:=h',toks:=tk }:=I.turned (λb o a e=>J b o (by simpa using a) e) p f1 x B D;intro c u [hx,rfl];let[o,e,c1,d]:=id g;exact{_,rfl,NF  e c1 d N (x2 (.str _) H {I1,⟨u,rfl⟩,⟨rfl,c,hx,rfl⟩,⟨j,g⟩,λb a=>(hf b a).1})}
 done:=by
  intro X T U Y n i AA s L H E I hf ⟨l,st⟩ j;let[p,f1,f2,x,B,D]:=hf it (by simp)
  have e:=ke l j;subst e;exact(W _<|I.ok.hd n).done s _ _ st λh' tk J=>{rfl,I.turned (λb o a e=>J b o (by simpa using a) e) p f1 x B D}
 self:=λA i s Q E st h=>sf A i s Q E st.2 h
theorem p6:∀ bs:List Bool,(τ bs.length).all (λi=>bs.getD i false)=bs.all id
 | []=>rfl
 |b::t=>by
  rw[bw,yv,u_,Du,u_,<-(p6 t)]
  rfl
def NP(a:TE):TI:=λb H R=>a b H λx c=>∃ z,x=.str z/\R (QC z) c
section
variable{X:Cx}{tg:Expr}
def zb8{l:Expr}{n:TE}(u:PE X l n):PI X tg l (NP n):=by
 refine λD s w H R I h=>AR (u _ s w H _ I h) λv p d=>?_;let[x,g,c,y,[z,rfl,q]]:=d;let[t,rfl]:=y
 have a:∀ b∈[p.heap.objs.size],FpOk X _ g b:=λb B=>by
  have e:b=p.heap.objs.size:=by simpa using B
  subst e;exact c.fpOk (ο _) (c.hok.fresh<|ο _)
 cases r:z.cps.all _;refine wpAny_pyIter_wide r (x5 _ _ _ _ g {rfl,c.kept  λb o e=>ξ _ e,p5   (by decide) (λA j=>Walks.strWide j _ z t) (λA i s Q E st h=>wpAny_pyIter_striter_wide st h),{bg _,_,ai _ rfl,rfl,rfl},a,q});refine wpAny_pyIter_ascii r (x5 _ _ _ _ g {rfl,c.kept  λb o e=>ξ _ e,p5   (by decide) (λA j=>Walks.strAscii j _ z t) (λA i s Q E st h=>wpAny_pyIter_striter_ascii st h),{bg _,_,ai _ rfl,rfl,rfl},a,q})
def QD(K:W.Frag):vE->Hp->VK->Prop:=λxs H Q=>∃ x,xs=[.str x]/\x.length=1/\Q (.int (x.cps.getD 0 0:Nat)) H
def zb9:EN X (.builtin "ord") (QD X.K):=Ub
def MJ(K:W.Frag):vE->Hp->VK->Prop:=λxs H Q=>∃ (p:Addr) (bs:List Bool),xs=[.ref p]/\SqL K H p (bs.map V.bl)/\Q (.bl<|bs.all id) H
def zca(B:X.calm=true):EN X (.builtin "all") (MJ X.K):=by
 intro N s O H xs us Q I r h;revert h;apply u2;intro p bs [rfl,D,q];let[l,n,g,hz]:=I.list D;let[u,rfl,rfl]:=G0 r
 have a:=n.length
 have j:p≠s.heap.objs.size:=by
  let[o,e,z]:=g.isList;exact bh<|au e
 refine call_all_walk<|xk g.isList<|x7 _ _ _ _ _ _ (λi=>bs.getD i false) {rfl,Lr (show X.A.in1.handled=none from I.ok.hd B) _ p j _,{{_,ai _ rfl,rfl,rfl},g.isList.push _},?_,?_};intro i v E J T c d
 have c:l[i]? =some v:=by simpa using c
 rw[ε]at a;obtain⟨b,w⟩:∃ b,bs[i]? =some b:={_,θ<|a ▸ ((ζ.mp c).1)}
 let[u,x,L]:=n.get   (by rw[ψ,w];rfl);rw[c]at x;cases (L)
 have e:bs.getD i false=b:=by rw[wj,w];rfl
 cases x
 have d:J (bs.getD i _) E:=d;rw[e]at d;exact ν d;intro h' tk M
 have e:(τ l.toArray.size).all (λi=>bs.getD i false)=bs.all id:=by
  rw[ε]at a;rw[ax,<-a];exact p6 bs
 rw[e];exact x2 (.bl _) H {I.kept  λb o y=>M b o (by simpa using bh (au y)) (ξ _ y),rfl,q}
end
def zcb{K:W.Frag}{x:Str}{H:Hp}{Q:VK}:QD K [.str x] H Q=(x.length=1/\Q (.int (x.cps.getD 0 0:Nat)) H):=by simp[QD]
section
variable{P:bv}{w:World}{A:df}{E:wB}{s:π}
end
section
variable{X:Cx}
end
def zcc:BZ (NP b) g c d k e a H Q=(b a H λx i=>∃ z,x=.str z/\EH (QC z) g c d k e a i Q):=rfl
def zcd(s:z.cps.size<=sizeLine)(Pv:Nat->vE->Hp->Prop)(h0:Pv 0 [] H)(hs:∀ i c ys H,z.cps[i]? =some c->ys.length=i->Pv i ys H->l (some (.str {#[c]})::C1 n d) H λy o=>Pv (i+1) (ys++[y]) o)
  (hd:∀ ys H,ys.length=z.cps.size->Pv z.cps.size ys H->∀ p,H p=none->Q (.ref p) (upd H p<|.lst ys)):EH (QC z) (AG 0) CQ l 1 n d H Q:=by
 refine{λi m a ys H=>m=z.cps.size-i/\i<=z.cps.size/\ys.length=i/\(∃ g,a=g::C1 _ d)/\Pv i ys H,{z.cps.size,rfl,bg _,rfl,⟨_,rfl⟩,h0},?_};intro i m a ys H [rfl,u,b,[g,rfl],p];by_cases j:i<z.cps.size;refine .inr {j,by lia,λx v y=>?_};let[e,c,r,y]:=y;subst e y;refine{_,λy w q=>{_,cq ‹_›,rfl,j,?_,⟨_,rfl⟩,q},hs i c ys _ r b p};rw[ae,i_,b]
 have e:i=z.cps.size:=by lia
 subst e;exact .inl {ο _,hd ys H b p}
open PySem
abbrev JD(l:wD):Prop:=l.Pairwise (· <·)
def QE{l:wD}(R:JD l){i k a b:Nat}(h:i<k)(c:l[i]? =some a)(d:l[k]? =some b):a<b:=by
 let[h2,rfl]:=ζ.mp d;let[h1,rfl]:=ζ.mp c;exact pz.mp R i k h1 h2 h
structure Below(xs:Array Nat)(j r:Nat):Prop where
 le:r<=xs.size
 lo:∀ i v,i<r->xs.toList[i]? =some v->v<j
 hi:∀ i v,r<=i->xs.toList[i]? =some v->j<=v
theorem XO{xs:Array Nat}(R:JD xs.toList):∀ (d lo c:Nat),lo<=c->c<=xs.size->c-lo<=d->(∀ i v,i<lo->xs.toList[i]? =some v->v<j)->(∀ i v,c<=i->xs.toList[i]? =some v->j<=v) ->
  Below xs j (D_ xs j d lo c)
 |0,lo,c,h1,h2,h3,a,b=>by
  have e:lo=c:=by lia
  subst e;exact⟨h2,a,b⟩
 |d+1,lo,c,h1,h2,h3,a,b=>by
  unfold D_;by_cases p:lo<c;rw[if_pos p]
  have o:(lo+c)/2<xs.size:=by lia
  have r:xs.getD ((lo+c)/2) j=xs[(lo+c)/2]:=by simp[o]
  have l:xs.toList[(lo+c)/2]? =some (xs[(lo+c)/2]):=by simp[o]
  simp only[r];split;rename_i n;refine XO R _ _ _ (by omega) h2 (by omega) (λi v g e=>?_) b;by_cases q:i=(lo+c)/2;subst q;rw[l]at e;cases e;exact n;exact yu (QE R (show i<(lo+c)/2 by exact jw (dq g) q) e l) n;rename_i n;refine XO R _ _ _ (by omega) (kh o) (by omega) a λi v g e=>?_;by_cases q:i=(lo+c)/2;subst q;rw[l]at e;cases e;exact cm n
  have:=QE R (show(lo+c)/2<i by lia) l e
  lia
  rw[if_neg p]
  have e:lo=c:=by lia
  subst e;exact⟨h2,a,b⟩
def XQ(R:JD xs.toList):Below xs j (jx xs j) :=
 XO R _ _ _ (bg _) (ο _) (ο _) (λz z h=>absurd h<|ir _) λi v h e=>by
  rw[bu (h)]at e;cases e
def Below.uniq(a:Below xs j r)(b:Below xs j c):r=c:=by
 let h||h||h:=Ea r c
 have hs:=ω h b.le
 have e:xs.toList[r]? =some (xs[r]):=by simp[hs]
 have:=b.lo _ _ h e
 have:=a.hi _ _ (ο _) e;omega;exact h
 have hs:=ω h a.le
 have e:xs.toList[c]? =some (xs[c]):=by simp[hs]
 have:=a.lo _ _ h e
 have:=b.hi _ _ (ο _) e;omega
def NotIn(t:SetTable)(j:Nat):Prop:=t.place[jx t.place j]? ≠some j
def zce(h:t.slot j=.empty):NotIn t j:=λe=>by
 unfold J_ at h;simp only[e,beq_self_eq_true]at h;cases h
def zcf(h:t.slot j=.dummy):NotIn t j:=λe=>by
 unfold J_ at h;simp only[e,beq_self_eq_true]at h;cases h
def p7(t:SetTable)(p:Je):(t.advance p).dummy=p.dummy:=by
 unfold SetTable.advance;split<;>rfl
theorem XR:∀ (a:Nat) (p:Je) (j:Nat) (d:Option Nat),Ee t f h a p=some (.empty j d)->(∀ x,p.dummy=some x->NotIn t x)->NotIn t (d.getD j)
 |0,p,j,d,e,_=>by cases e
 |a+1,p,j,d,e,hd=>by
  unfold Ee at e;split at e;rename_i hs;cases e;cases q:p.dummy with
  |none=>exact zce hs
  |some x=>exact hd x q
  rename_i hs;refine XR _ _ j d e λx b=>?_;rw[p7]at b;obtain rfl:=μ b;exact zcf hs;split at e;cases e;exact XR _ _ j d e λx b=>by rw[p7]at b;exact hd x b
set_option tactic.hygienic true in
def zcg(e:t.freeSlot h=some (s,b)):NotIn t s:=by
 unfold SetTable.freeSlot at e;split at e
 ·rename_i j d a;cases e;refine XR _ _ _ _ a λx c=>?_;cases c
 ·cases e
def zch(n:Nat):JD (Array.range n).toList:=by
 rw[Array.toList_range];exact ip
def zci{t:SetTable}(R:JD t.place.toList)(h:NotIn t j):JD (t.put j).1.place.toList:=by
 have b:=XQ (j:=j) R
 show JD (SetTable.insertAt _ _ j).toList;rw[SetTable.toList_insertAt]
 have a:∀ v∈t.place.toList.take (jx t.place j),v<j:=λv l=>by
  let[i,d,e]:=jo l;refine b.lo i v (by rw[di]at d;lia) ?_;rw[<-e];simp only[Ef];exact θ _
 have c:∀ v∈t.place.toList.drop _,j<v:=λv l=>by
  let[i,d,e]:=jo l
  have g:t.place.toList[jx t.place j+i]? =some v:=by
   rw[<-Cf,θ d,e]
  by_cases q:j=v;subst q
  have z:i=0:=by
   by_cases z:i=0;exact z
   have r:jx t.place j<t.place.toList.length:=by
    rw[ic]at d;lia
   have o:=θ r
   have:=b.hi _ _ (ο _) o
   have:=QE R (show jx _ j<jx _ j+i by lia) o g
   lia
  subst z;rw[ja]at g;exact absurd g h;exact jw (b.hi _ _ (yh _ _) g) q
 refine zx.mpr {R.sublist<|C_ ..,mq.mpr {c,R.sublist<|List.drop_sublist ..},λx p y n=>?_};let rfl||n:=aj.mp n
 exact a x p;exact yu (a x p) (c y n)
structure Led(led:Bool)(t:SetTable):Prop where
 rise:JD t.place.toList
 led:t.led=led
def Led.standIn{led:Bool}{t:SetTable}(h:t.led=led)(n:Nat):Led led (t.standIn n):={zch n,h}
def Led.or{led:Bool}{t:SetTable}(h:Led led t)(n:Nat):Led led (t.orStandIn n):=by
 unfold SetTable.orStandIn;split;exact h;exact .standIn h.led n
set_option tactic.hygienic true in
def Led.layNew{led:Bool}{t:SetTable}(L:Led led t)(a:Array (Int × Value))(h:Int)(x:Value):Led led (layNew t a h x).2.1:=by
 unfold PySem.layNew;split
 ·rename_i slot b e;exact Led.or {zci L.rise<|zcg e,L.led} _
 ·exact .standIn L.led _
def zcj(owner:Array (Option Nat))(m:Nat):JD (((τ m).filterMap λj=>(owner.getD j none).map (j,·)).map (·.1)):=by
 rw[List.map_filterMap];refine(ip ).filterMap _ λa b c x d y e=>?_;simp only[zy,af]at d e;let[z,z,rfl]:=e;let[z,z,rfl]:=d;exact c
set_option tactic.hygienic true in
def Led.relayAll{led:Bool}{t:SetTable}(h:t.led=led)(L:Led led t)(b:Array (Int × Value))(a:Nat):Led led (Ei t b a).2.1:=by
 unfold PySem.relayAll;split
 ·rename_i t' order e;dsimp only;split
  ·unfold SetTable.relaid SetTable.laid at e;simp only[Option.bind_eq_bind,yi,Option.pure_def,xl,Ka]at e;let[owner,_,rfl,_]:=e;exact{by simpa using zcj owner _,h}
  ·exact .standIn h _
 ·exact .standIn h _
def Led.plainOff{led:Bool}{t:SetTable}(L:Led led t):Led led { t with plain:=false }:=⟨L.rise,L.led⟩
def Led.fresh(led:Bool):Led led (.fresh 0 0 led):=⟨Dr,rfl⟩
def QF(xs:Array Nat):Nat->Nat
 |0=>0
 |i+1=>xs.getD i 0+1
def zck{xs:Array Nat}(R:JD xs.toList):∀ {i:Nat},i<=xs.size->jx xs (QF xs i)=i
 |0,_=>(XQ R).uniq {bg _,λ_ _ h=>absurd h<|ir _,λ_ _ _ _=>bg _}
 |i+1,b=>(XQ R).uniq ⟨b,λk v c e=>by
   have a:i<xs.size:=b
   have g:xs.getD i 0=xs[i]:=by simp[a]
   have d:xs.toList[i]? =some xs[i]:=by simp[a]
   show v<xs.getD i 0+1;rw[g];by_cases q:k=i;subst q;rw[d]at e;obtain rfl:=μ e;exact fu _;exact ck (QE R (show k<i by exact jw (dq c) q) e d),λk v c e=>by
   have a:i<xs.size:=b;exact QE R (show i<k by exact c) (by simp[a]) e⟩
theorem p8{α :Type}(next:Nat->Nat):∀ (a k:Nat) (left:List α) (out:Array α),left.length=a->pq (En next a k left out).toList (out.toList++left)
 |0,k,left,out,h=>by
  rw[fg.mp h];unfold En;simp
 |a+1,k,left,out,h=>by
  have b:next k%left.length<left.length:=tj _ (by lia);unfold En;rw[θ b];refine(p8 _ _ _ _ _ (by rw[wk b];lia)).trans ?_;rw[Eo,dt];refine List.Perm.append_left _ ?_;rw[lj]
  show pq (left[next k%left.length]::(left.take _++left.drop _)) _;refine Go.symm.trans ?_;rw[<-ix b,j_]
def zcl{α :Type}(next:Nat->Nat)(xs:Array α):pq (Ko next xs).toList xs.toList:=(p8 _ _ 0 _ _<|rfl)
end L2
namespace L2
open PySem PyProof.Rows
def leads(w:World):Bool:= !w.params.followText "set-order"
def iv:Value->Int
 |.int n _=>n
 |_=>0
def IntSet(P:bv)(w:World)(h:Heap)(a:Addr)(c:vD):Prop :=
 ∃ (o:Obj) (b:Array (Int × Value)) (d:Nat) (t:SetTable),h.get? a=some o/\o.ExactSet/\o.data=.set b d t/\Ao (lm P w) b.toList /\
  pq (b.toList.map λe=>iv e.2) c/\b.size<wa/\t.fits b.size=true/\Led (leads w) t
section
variable{P:bv}{w:World}{A:df}{E:wB}{s:π}
def XS(h:Ao (lm P w) a)(he:e∈a):∃ t,e.2=.int (iv e.2) t:=by
 let[[k,b,y],y]:=h e he;let[t,z]:=tz b;exact{t,by rw[z];rfl}
def p9(h:Ao (lm P w) a)(he:e∈a):(lm P w).is k e.2=true↔iv e.2=k:=by
 let[t,z]:=XS h he;rw[z];refine{λq=>?_,λq=>?_}
 have b:Hr k (.int _ t)=true:=q;let[t',c]:=tz b;cases c;rfl;rw[<-q];exact Jf ..
def qB(h:Ao (lm P w) a)(p:pq (a.map λe=>iv e.2) b)(k:Int):k∈b↔∃ e∈a,(lm P w).is k e.2=true:=by
 rw[<-p.mem_iff,av];exact{λ⟨e,he,q⟩=>{e,he,(p9 h he).mpr q},(by intro[e,he,q];exact{e,he,(p9 h he).mp q})}
def qG{h:Heap}{o:Obj}{i b:Array (Int × Value)}{t t':SetTable}(j:h.get? a=some o)(hex:o.ExactSet)(hd:o.data=.set i l t)
  (c:Ao (lm P w) b.toList) (n:pq (b.toList.map λe=>iv e.2) p) (d:b.size<wa) (hf:t'.fits b.size=true) (L:Led (leads w) t') :
  (h.update a<|Ji b t').get? a=some { o with data:=.set b (l+1) t' }/\IntSet P w (h.update a<|Ji b t') a p:=by
 have g:=(SetOf_store   j hex hd c (λk=>by rw[dn]) d hf).1;exact{g,x4 _ _ _ t' ⟨g,hex,rfl,c,n,d,hf,L⟩}
def qH{g:Bool->Sem Unit}(x:∀ (b:Bool) (p:π) (R:Unit->π->Prop),R () p->wpAny (model P w) A (g b) R E p){o:Obj}{y c:Array (Int × Value)}{t d:SetTable}
  (q:s.heap.get? a=some o) (hex:o.ExactSet) (hd:o.data=.set y M t) (i:Ao (lm P w) c.toList) (u:pq (c.toList.map λe=>iv e.2) B) (n:c.size<wa) (hf:d.fits c.size=true) (L:Led (leads w) d)
  {R:Option Bool->π->Prop} (h:∀ h',gj a s.heap h'->IntSet P w h' a B->R (some true) { s with heap:=h' }) :
  wpAny (model P w) A (do
   storeSet a c d
   if(!N&&d.tooFull)=true then do
    g (Ei d c<|oq c.size).2.2
    storeSet a (Ei d c<|oq c.size).1 (Ei d c<|oq c.size).2.1
    pure (some true)
   else pure (some true)) R E s:=by
 refine δ<|Er q hd ?_<|xm n
 have j:=dw s.heap a<|Ji c d;let[g1,D]:=qG q hex hd i u n hf L;split
 have l:=relayAll_perm d c<|oq c.size
 have f2:=relayAll_fits d c<|oq c.size
 have L2:=Led.relayAll L.led L c<|oq c.size;revert l f2 L2;generalize Ei d c _=r;let[H,O,Q]:=r;intro l f2 L2
 have I:H.size=c.size:=by rw[<-cw,l.length_eq,cw]
 have v:=I ▸ n;refine δ<|x _ _ _<|δ<|Er g1 rfl ?_<|xm v;let[z,J]:=qG   g1 hex rfl (i.perm l) ((l.map _).trans u) v f2 L2;exact ν<|h _ (j.trans<|dw ..) J;exact ν<|h _ j D
def qI{a:vD}(h:k∈a):wm a k=a:=by
 unfold wm
 have e:(a.any λx=>x==k)=true:=dn.mpr {k,h,beq_self_eq_true k};rw[if_pos e]
def qJ{a:vD}{k:Int}(h:¬ k∈a):wm a k=a++[k]:=by
 unfold wm;rw[if_neg λz=>?_];let[x,b,q]:=dn.mp z;rw[beq_iff_eq]at q;exact h<|q ▸ b
def zcm{n:vD}{Q:Bool->π->Prop}(T:IntSet P w s.heap a n)(U:n.length+1<wa)
    (h:∀ (b:Bool) h',gj a s.heap h'->IntSet P w h' a (wm n k)->Q b { s with heap:=h' }):wpAny (model P w) A (setAddHashed a (.int k tk) ((lm P w).hash k)) Q E s:=by
  have H:(lm P w).is k (.int k tk)=true:=Jf ..
  have d:(um k tk).scannable=true:=rfl;generalize um k tk=x at H d;revert T;apply u4;intro o i Y t [u,hex,hd,c,v,J,hf,L]
  have CN:i.size=n.length:=by rw[<-v.length_eq,ε,cw]
  have y:iv x=k:=by let[_,z]:=tz H;rw[z];rfl
  refine gx<|δ<|kj u hd hf ?_;dsimp only;rw[byScan_of d J c];refine δ<|δ<|tf<|δ<|wpAny_setScan_of H u hd hf c ?_;cases M:i.toList.findIdx? (λe=>(lm P w).is k _)with
  |some j =>
    let[hj,pj,_]:=List.findIdx?_eq_some_iff_getElem.mp M;refine ν<|ν ?_;exact(h _ _ (xn a _) (x4 o i Y t {u,hex,hd,c,by rw[qI ((qB c v k).mpr {_,pr hj,pj})];exact v,J,hf,L}))
  | none =>
    have hm:¬ k∈n:=λz=>by
      let[e,he,q]:=(qB c v k).mp z
      have:=List.findIdx?_eq_none_iff.mp M e he;rw[q]at this;cases this
    have l:=layNew_perm t i ((lm P w).hash k) x
    have f1:=layNew_fits t i ((lm P w).hash k) x
    have p:=L.layNew i ((lm P w).hash k) x;revert l f1 p;generalize layNew t i _ x=r;let[N,t1,wd,gv]:=r;intro l f1 p;dsimp only at l f1 p ⊢;rw[Eo]at l
    have g:=(c.push H d).perm l
    have O:pq (N.toList.map λe=>iv e.2) (wm n k):=by
      rw[qJ hm];refine(l.map _).trans ?_;rw[aw,cg,yw,y];exact List.Perm.append_right _ v
    have B:N.size<wa:=by
      rw[<-cw,l.length_eq,ae,cw,CN];exact U
    have gw:∀ (b:Bool) (D:π) (R:Unit->π->Prop),R () D ->
        wpAny (model P w) A (match b with
          |true=>rule "set.scan.the-table-gave-way"
          |false=>pure ()) R E D:=λb D R q=>by
      cases b
      ·exact ν q
      ·exact tf q
    refine δ<|gw _ _ _ ?_;split;refine δ ?_;rw[hashByValue_scannable 8 d];refine ν<|qH ?_ u hex hd g O B ?_ ?_ λh' sb I=>?_;intro b D R q;cases b;exact ν q;exact tf q;split;exact f1;exact SetTable.fits_plain_off f1;split;exact p;exact p.plainOff;exact ν<|h _ h' sb I;refine qH ?_ u hex hd g O B f1 p λh' sb I=>?_;intro b D R q;cases b;exact ν q;exact tf q;exact ν<|h _ h' sb I
def IntSet.at(x:IntSet P w h a b)(k:∀ o,h.get? a=some o->h'.get? a=some o):IntSet P w h' a b:=by
 revert x;apply u4;intro o c d t [e,r];exact x4 o c d t {k _ e,r}
end
section
variable{P:bv}{w:World}{A:df}{R:Result->π->Prop}{I:Addr}{fp wr:xC}{G:Array Cs->Array Cs->Prop}{n:Nat}{T:Nat->Value->Prop}{St:Nat->π->Prop}
def zcn(W:WalksS P w A.in1 I fp wr G n T St)(a:Addr)(p:a∉fp)(val:Nat->Int)(x:∀ i v,T i v->∃ t,v=.int (val i) t)(g:n+1<wa):∀ (k i:Nat) (s:π),n-i=k->i<=n->St i s ->
  IntSet P w s.heap a (wo val i)->(∀ c,Moved (a::wr) G s c->IntSet P w c.heap a (wo val n)->R (.ok<|.ret .none) c) ->
  uy (model P w) A (.builtin "set.update.loop" {[.ref a,.ref I],[]}) R s:=by
 have up:∀ b∈wr,b∈a::wr:=λb q=>ρ _ q
 have d:=λz=>p<|W.sub _ z;intro k
 induction k with
 |zero =>
  intro i s y B st S q;obtain rfl:i=n:=by lia
  exact na rf<|δ<|W.done s _ _ st λc m=>(ν<|q c (m.mono up) (S.at λo e=>m.heap a o d e))
 |succ k D =>
  intro i s y B st S q
  have r:i<n:=by omega
  refine na rf ?_;refine δ<|W.item i s _ _ r st λv j E l m=>?_;let[t,rfl]:=x i v E
  show wpAny _ A.in1 (t_ [um (val i) t] (setAdd a<|.int (val i) t)>>=_) _ _ j;refine δ<|gx ?_;refine gx (δ ((lm P w).pyHash (k:=val i) (Jf ..) (zcm (s:={ j with toks:=j.toks+1 }) (S.at λo e=>m.heap a o d e) (by have:=wp val i;lia) λb h' sb u=>?_)));rw[<-firstMet_succ]at u;refine ν {xz Au _,D (i+1) _ (by omega) r (W.frame _ j _ _ l (jr _) λb g o e=>?_) u λH J L=>?_};rw[sb.2 b λz:b=a=>p<|z ▸ g];exact e
  ·refine q H (Moved.trans W.gtrans ((m.mono up).then_heap (jr _) λb o g e=>?_) J) L;rw[sb.2 b λz:b=a=>g<|z ▸ υ];exact e
end
section
variable{P:bv}{w:World}{A:df}{E:wB}{s:π}
def zco(h:Q (.ref s.heap.objs.size) { s with heap:=s.heap.push { cls:=.type "set",dict:=none,data:=.set #[] 0 (.fresh 0 0<|leads w) } }) :
  uy (model P w) A (.call (.builtin "set.__new__") {[.type "set",x],[]}) (wants Q E) s:=by
 refine codeAny_of_tree<|δ<|zw (PySem.F.newCall_set_1 x) (ν {xz PySem.F.plain_set_new _,na PySem.F.entry_set_new ?_})
 have e:=sub_set_self
 wp_walk
 refine lx<|ν ?_;exact δ<|wpAny_alloc<|ν<|ν h
end
end L2
namespace L2
open PySem PyProof.Rows
abbrev KD(f:Value)(i:Nat)(a:Addr)(n b:Nat):Obj:={ cls:=.type "set_iterator",dict:=none,data:=.fields #[f,k_ i,.ref a,k_ n,k_ b],slots:= #[] }
def IG:Slot "set_iterator" "__next__" "set_iterator.__next__" :=
 .of (owner:="set_iterator") (n:="__next__") (by kernel_rfl) (by decide) (by decide) (by decide)
  (by first|exact .inl (by decide)|exact .inr (by decide))
  (by kernel_rfl)
def TK:entryFor table "set_iterator.__next__"=some vt.«set_iterator.__next__» :=entryFor_of_fast (by kernel_rfl)
def TM(a:Value):argsOk "set_iterator.__next__" {[a],[]}:=by
 kernel_rfl
def qK:Slot "set_iterator" "__iter__" "set_iterator.__iter__" :=
 .of (owner:="set_iterator") (n:="__iter__") (by kernel_rfl) (by decide) (by decide) (by decide)
  (by first|exact .inl (by decide)|exact .inr (by decide))
  (by kernel_rfl)
section
variable{P:bv}{w:World}{A:df}{E:wB}{s:π}
def zcp{it a:Addr}{e i n b nx:Nat}{x:Value}{o:Obj}{c:Array (Int × Value)}{d:Nat}{t:SetTable}{Q:Option Value->π->Prop}(hit:s.heap.get? it=some (KD (k_ e) i a n b))
  (j:s.heap.get? a=some o) (hd:o.data=.set c d t) (hf:t.fits c.size=true) (l:c.size=n)
  (hs:∀ (p:df) (r:wB) (g:Option (Value × Nat)->π->Prop),g (some (x,nx)) s->wpAny (model P w) p (Es a e i b) g r s)
  (q:∀ h',h'.get? it=some (KD (k_ nx) (i+1) a n b)->gj it s.heap h'->Q (some x) { s with heap:=h' }):wpAny (model P w) A (xt<|.ref it) Q E s:=by
 have T:s.TypeIs (.ref it) _:=⟨_,hit,rfl⟩
 refine δ<|lb<|cz  T IG (dk IG T TK (δ<|ν<|δ<|o_ hit rfl<|δ<|lu j hd hf ?_) (TM _));rw[if_neg (by rw[l];simp)];exact δ (hs _ _ _ (δ (jy hit (by simp) λh1 g1 u=>(δ (jy g1 (by simp) λh2 g2 v=>(ν {_,rfl,ν<|q h2 g2<|u.trans v}))))))
def qM{Q:Except Value (Option Value)->π->Prop}(a:A.handled=none)(b:mf it s.heap h1)
  (q:∀ h' e,mf it s.heap h'->({ s with heap:=h' }:π).TypeIs e "StopIteration"->Q (.error e) { s with heap:=h' }) :
  wpAny (model P w) A (newExc (.type "StopIteration") []>>=raiseNew (α :=Fin)) (λz z=>False) (λe=>Q<|.error e) { s with heap:=h1 }:=by
 refine δ (δ (dr (δ  (zw  (by first|rfl|(rfl)) (dr (δ<|Bi ?_) (by size_fits)))) (by size_fits)));rw[a];refine δ<|ν<|HE ?_;exact q _ _ ((b.push _).push _) {_,ai _ rfl,rfl}
def zcq{it a:Addr}{g i n j:Nat}{o:Obj}{c:Array (Int × Value)}{d:Nat}{t:SetTable}{Q:Option Value->π->Prop}(u:A.handled=none)(hit:s.heap.get? it=some (KD (k_ g) i a n j))
  (v:s.heap.get? a=some o) (hd:o.data=.set c d t) (hf:t.fits c.size=true) (x:c.size=n)
  (hs:∀ (y:df) (B:wB) (l:Option (Value × Nat)->π->Prop),l none s->wpAny (model P w) y (Es a g i j) l B s)
  (q:∀ h',mf it s.heap h'->Q none { s with heap:=h' }):wpAny (model P w) A (xt<|.ref it) Q E s:=by
 have T:s.TypeIs (.ref it) _:=⟨_,hit,rfl⟩
 refine δ<|lb<|cz  T IG (dk IG T TK (δ<|ν<|δ<|o_ hit rfl<|δ<|lu v hd hf ?_) (TM _));rw[if_neg (by rw[x];simp)];refine δ (hs _ _ _ (δ (jy hit (by simp) λh1 g1 D=>?_)));exact oa (qM    (Q:=λr p=>match r with
  |.error e=>wpAny _ A (isInstance e _>>=λb=>if b=true then pure _ else throw e) Q E p
  |_=>False) (u) D.extBut λh' e H I=>(δ<|l8   I wq (ν<|q _ H))) (λ_ _ z=>z.elim) (λe p z=>z)
def zcr{it a c:Addr}{i n d g:Nat}{j:Obj}{ps:Array Value}{k:Nat}{x:Int × Value}{o:Obj}{b:Array (Int × Value)}{t:SetTable}{Q:Option Value->π->Prop}(hit:s.heap.get? it=some (KD (.ref c) i a n d))
  (l:s.heap.get? a=some o) (hd:o.data=.set b d t) (hf:t.fits b.size=true) (p:b.size=n) (r:s.heap.get? c=some j) (e:j.data=.seq ps k) (u:ps[i]? =some (k_ g)) (v:b[g]? =some x)
  (q:∀ h',h'.get? it=some (KD (.ref c) (i+1) a n d)->gj it s.heap h'->Q (some x.2) { s with heap:=h' }):wpAny (model P w) A (xt<|.ref it) Q E s:=by
 have T:s.TypeIs (.ref it) _:=⟨_,hit,rfl⟩
 refine δ<|lb<|cz  T IG (dk IG T TK (δ<|ν<|δ<|o_ hit rfl<|δ<|lu l hd hf ?_) (TM _));rw[if_neg (by rw[p];simp)];refine δ<|zv r e ?_;dsimp only;rw[ci,u]
 show wpAny _ _ (setNextDrawn a _ _>>=_) _ _ s;rw[ci];refine δ<|δ<|kj l hd hf ?_;dsimp only;rw[if_neg (by simp),v];exact ν (δ (jy hit (by simp) λh2 g2 y=>(ν {_,rfl,ν<|q h2 g2 y})))
def zcs{g:Obj}{o:Obj}{c:Array (Int × Value)}{t:SetTable}{Q:Option Value->π->Prop}(l:A.handled=none)(hit:s.heap.get? it=some (KD (.ref p) i a n u))
  (v:s.heap.get? a=some o) (hd:o.data=.set c u t) (hf:t.fits c.size=true) (x:c.size=n) (y:s.heap.get? p=some g) (d:g.data=.seq ps k) (B:ps[i]? =none)
  (q:∀ h',mf it s.heap h'->Q none { s with heap:=h' }):wpAny (model P w) A (xt<|.ref it) Q E s:=by
 have T:s.TypeIs (.ref it) _:=⟨_,hit,rfl⟩
 refine δ<|lb<|cz  T IG (dk IG T TK (δ<|ν<|δ<|o_ hit rfl<|δ<|lu v hd hf ?_) (TM _));rw[if_neg (by rw[x];simp)];refine δ<|zv y d ?_;dsimp only;rw[ci,B];refine δ (jy hit (by simp) λh1 g1 D=>(δ (jy g1 (by simp) λh2 g2 H=>?_)));exact oa (qM (s:=s)   (Q:=λr j=>match r with
  |.error e=>wpAny _ A (isInstance e _>>=λb=>if b=true then pure _ else throw e) Q E j
  |_=>False) (l) (D.trans H).extBut λh' e I J=>(δ<|l8   J wq (ν<|q _ I))) (λ_ _ z=>z.elim) (λe j z=>z)
def zct(b:w.params.followText "set-order"=true)(c:s.heap.get? a=some o)(hd:o.data=.set d g t)(hf:t.fits d.size=true)
  (q:Q (((Ko (w.params.setOrder a g) d)[i]?).map λe=>(e.2,0)) s):wpAny (model P w) A (Es a 0 i g) Q E s:=by
 refine δ<|kj c hd hf<|δ<|δ<|lx<|ν ?_
 show wpAny _ _ (if w.params.followText _=true then _ else _) _ _ s;rw[if_pos b,if_neg (by simp)];refine δ<|δ<|kj c hd hf<|δ<|δ<|lx<|ν ?_
 show wpAny _ _ (if w.params.followText _=true then _ else _) _ _ s;rw[if_pos b];exact δ<|lx<|ν<|ν q
def zcu(d:w.params.followText "set-order"=false)(g:s.heap.get? a=some o)(hd:o.data=.set b j t)(hf:t.fits b.size=true)
  (L:Led (leads w) t) (l:(!t.plain&&decide (b.size > 1))=false) (n:i<=b.size) (q:Q ((b[i]?).map λe=>(e.2,QF t.place<|i+1)) s):wpAny (model P w) A (Es a (QF t.place i) i j) Q E s:=by
 have hz:t.place.size=b.size:=by
  unfold SetTable.fits at hf;simp only[bz,beq_iff_eq]at hf;exact hf.1
 refine δ<|kj g hd hf<|δ<|δ<|lx<|ν ?_
 show wpAny _ _ (if w.params.followText _=true then _ else _) _ _ s
 have ld:t.led=true:=by rw[L.led];unfold leads;rw[d];rfl
 rw[if_neg (show ¬ w.params.followText _=true by rw[d];exact ay)]
 show wpAny _ _ (if(!t.plain&&decide _)=true then _ else _) _ _ s;rw[if_neg (by rw[l];exact ay)];refine δ (m:=if(!t.led && !b.isEmpty)=true then _ else _) ?_;rw[if_neg (by rw[ld];simp)];refine ν<|ν ?_;rw[zck L.rise (χ n<|a_ hz.symm)];by_cases c:i<b.size
 have h2:=hz ▸ c;rw[dz _,dz h2];rw[dz c]at q
 have:QF t.place (i+1)=t.place[i]+1:=by simp[QF,h2]
 rw[this]at q;exact q;rw[ue (cm c)];rw[ue (cm c)]at q;exact q
end
end L2
namespace L2
open PySem PyProof.Rows
def zcv:entryFor table "set.__iter__"=some vt.«frozenset.__iter__» :=entryFor_alias (id':="frozenset.__iter__") (by kernel_rfl) rfl (by decide +kernel) (by kernel_rfl)
def zcw:entryFor table "set_iterator.__iter__"=some vt.«dict_keyiterator.__iter__» :=entryFor_alias (id':="dict_keyiterator.__iter__") (by kernel_rfl) rfl (by decide +kernel) (by kernel_rfl)
def zcx(a:Value):argsOk "set_iterator.__iter__" {[a],[]}:=by
 kernel_rfl
structure XT(P:bv)(w:World)(A:df)(h h1:Heap)(a I:Addr)(ms:vD):Prop where
 ex:∃ (fp:xC) (ord:vC) (ks:vD) (St:Nat->Heap->Prop),(∀ b∈fp,b=a\/h.objs.size<=b)/\Walks P w A I fp [I] ord.length (λi v=>ord[i]? =some v) St/\St 0 h1/\sj ord ks/\ks.Perm ms
 new:h.objs.size<=I
section
variable{P:bv}{w:World}{A:df}{E:wB}{s:π}
theorem XU:∀ {a:List (Int × Value)},Ao (lm P w) a->sj (a.map (·.2)) (a.map λe=>iv e.2)
 | [],_=>.nil
 |e::r,h=>by
  let[t,z]:=XS h<|υ ..;rw[cg,z];exact .cons _ _<|XU h.tail
def qN(hit:s.heap.get? it=some (KD f i a n b))(q:Q (.ref it) s):wpAny (model P w) A (zn<|.ref it) Q E s:=by
 have T:s.TypeIs (.ref it) _:=⟨_,hit,rfl⟩
 exact xo T qK<|dk qK T zcw (ν {_,rfl,x2 _ _ ⟨T,IG.lookup,q⟩}) (zcx _)
def zcy{l:Array (Int × Value)}{t:SetTable}{o:Obj}{f:Nat->Nat}{ord:vC}(L:A.handled=none)(r:a≠I)(hd:o.data=.set l H t)(hf:t.fits l.size=true)(M:ord.length=l.size)
  (nx:∀ (s:π),s.heap.get? a=some o->∀ (i:Nat),i<=l.size->∀ (n:df) (p:wB) (d:Option (Value × Nat)->π->Prop),d ((ord[i]?).map λv=>(v,f<|i+1)) s->wpAny (model P w) n (Es a (f i) i H) d p s) :
  Walks P w A I [I,a] [I] ord.length (λi v=>ord[i]? =some v) (λi h=>h.get? I=some (KD (k_<|f i) i a l.size H)/\h.get? a=some o) where
 sub:=λb J=>by simp at J;simp[J]
 frame:=λj j j st k=>{k I (by simp) _ st.1,k a (by simp) _ st.2}
 item:=λi s Q E N st q=>by
  have e:=θ N;exact zcp st.1 st.2 hd hf rfl (λn p d B=>nx s st.2 i (by lia) n p d (by rw[e];exact B)) λh' g b=>(q _ h' _ e {g,b.extBut a _ r st.2} λc u D z=>b.extBut c u (λy=>D (by simp[y])) z)
 done:=λs Q E st q=>zcq L st.1 st.2 hd hf rfl (λn p d B=>nx s st.2 _ (a_ M) n p d (by rw[bu (ο _)];exact B)) λh' x=>(q h' _ λc u D z=>x c u (λy=>D (by simp[y])) z)
 self:=λj j j j st q=>qN st.1 q
def zcz{n:Array (Int × Value)}{t:SetTable}{o J:Obj}{r:wD}{ord:vC}(N:A.handled=none)(B:a≠I)(D:d≠I)(hd:o.data=.set n O t)(hf:t.fits n.size=true)
  (l:J.data=.seq (r.map λ(i:Nat)=>k_ i).toArray k) (L:ord.length=r.length) (T:∀ (i p:Nat),r[i]? =some p->∃ e:Int × Value,n[p]? =some e/\ord[i]? =some e.2) :
  Walks P w A I [I,a,d] [I] ord.length (λi v=>ord[i]? =some v) (λi h=>h.get? I=some (KD (.ref d) i a n.size O)/\h.get? a=some o/\h.get? d=some J) where
 sub:=λb M=>by simp at M;simp[M]
 frame:=λj j j st k=>{k I (by simp) _ st.1,k a (by simp) _ st.2.1,k d (by simp) _ st.2.2}
 item:=λi s Q E U st q=>by
  have e:=θ<|L ▸ U;let[x,Y,e2]:=T i _ e;exact zcr st.1 st.2.1 hd hf rfl st.2.2 l (by rw[zj,ψ,e];rfl) Y λh' g b=>(q _ h' _ e2 {g,b.extBut a _ B st.2.1,b.extBut d _ D st.2.2} λc u H z=>b.extBut c u (λy=>H (by simp[y])) z)
 done:=λs Q E st q=>zcs N st.1 st.2.1 hd hf rfl st.2.2 l (by rw[zj,ψ,bu<|a_ L.symm];rfl) λh' x=>(q h' _ λc u H z=>x c u (λy=>H (by simp[y])) z)
 self:=λj j j j st q=>qN st.1 q
def zc0(a:n≠0)(q:∀ i d,i<n->Q i { s with drawn:=d }):wpAny (model P w) A (choose .order n) Q E s:=fun Γ p hΓ =>{a,(q _ _<|tj _<|tm a)}
theorem qO{α :Type}:∀ (n:Nat) (xs:List α) (s:π) (Q:List α ->π->Prop),xs.length=n->(∀ ys d,pq ys xs->Q ys { s with drawn:=d })->wpAny (model P w) A (drawOrder n xs) Q E s
 |0,xs,s,Q,a,q=>by
  have  :=fg.mp a;subst this;exact ν<|q [] _ .nil
 |n+1,[],s,Q,a,q=>by cases a
 |n+1,x::r,s,Q,a,q=>by
  refine δ (zc0 (by simp) λi d b=>?_);rw[θ b];refine δ (qO n _ _ _ (by rw[wk b,a];rfl) λys c p=>(ν<|q _ c<|(List.Perm.cons _ p).trans ?_));rw[lj];refine Go.symm.trans ?_;rw[<-ix b,j_]
def zc1{Q:wB}(hh:A.handled=none)(S:IntSet P w s.heap a O)
    (q:∀ I h1 d1,(∀ b o,s.heap.get? b=some o->h1.get? b=some o)->XT P w A s.heap h1 a I O->Q (.ref I) { s with heap:=h1,drawn:=d1 }):wpAny (model P w) A (zn<|.ref a) Q E s:=by
  revert S;apply u4;intro o c ep t [g,hex,hd,n,hp,B,hf,L]
  have T:s.TypeIs (.ref a) _:=⟨o,g,hex.1⟩
  have A0:=au g;refine xo T PySem.F.slot_set_iter<|dk PySem.F.slot_set_iter T zcv (δ<|ν<|δ<|δ<|lu g hd hf<|ν<|δ<|δ<|kj g hd hf<|δ<|δ<|lx<|ν<|ν ?_) (PySem.F.args_set_iter_1 _)
  have plain:∀ (f:Nat->Nat) (ord:List _),f 0=0->ord.length=c.size->(∃ U,sj _ U/\U.Perm O) ->
      (∀ (s:π),s.heap.get? a=some o->∀ (i:Nat),i<=c.size->∀ (A':df) (E':wB) (Y:Option _->π->Prop),Y ((ord[i]?).map _) s->wpAny _ A' (Es a (f i) i ep) Y E' s) ->
      XT P w A _ _ a _ O:=λf ord f0 D ⟨U,H,pk⟩ nx =>
    ⟨⟨_,_,U,_,λb B=>by
        simp only[aj,bx,or_false]at B;let rfl||rfl:=B
        exact .inr<|ο _;exact .inl rfl,zcy hh (bh A0) hd hf D nx,{ai _ rfl,ξ _ g},H,pk⟩,ο _⟩
  have fin:∀ (W:XT P w A _ _ a _ O),
      wpAny (model P w) A.in1 (do
        let first ← (pure<|k_ 0)
        ret (← newFields _ [first,k_ 0,.ref a,k_ c.size,k_<|← setEpoch a])) (λfin s'=>∃ v,fin=.done (.ret v)/\∃ T' r,s'.TypeIs v T'/\I_ (.type T') _=pure (some r)/\Q v s') E s:=λW=>δ<|ν<|δ<|Et g hd hf<|δ<|dr<|ν {_,rfl,x2 _ _ {{_,ai _ rfl,rfl},IG.lookup,(q _ _ _ (λb u e=>ξ _ e) W)}}
  show wpAny _ _ (if(!w.params.followText _&&(!t.plain&&decide _))=true then _ else _) _ _ s;cases ft:w.params.followText _ with
  |true =>
    have pk:=zcl (w.params.setOrder a ep) c
    have D:(Ko (w.params.setOrder a ep) c).size=c.size:=by rw[<-cw,pk.length_eq,cw]
    refine fin (plain (λj=>0) _ rfl (by rw[ε,cw,D]) {_,XU<|n.perm pk,(pk.map _).trans hp} λs1 h1 i H A' E' Y J=>(zct ft h1 hd hf ?_));rw[ψ,ja,zy]at J;exact J
  | false =>
    cases pl:(!t.plain&&decide (c.size > 1))with
    |false =>
      refine fin (plain _ (c.toList.map (·.2)) rfl (by rw[ε,cw]) {_,XU n,hp} λs1 h1 i H A' E' Y J=>(zcu ft h1 hd hf L pl H ?_));rw[ψ,ja,zy]at J;exact J
    | true =>
      rw[if_pos (by simp)];refine δ<|qO c.size (τ c.size) s _ (cr) λys d p=>?_
      have hy:ys.length=c.size:=by rw[p.length_eq,cr]
      have M:∀ x∈ys,x<c.size:=λx hx=>ak.mp<|p.mem_iff.mp hx;refine δ (wpAny_newTuple ?_ (by rw[ε,hy];exact xm B));refine δ<|Et (o:=o) (ξ _ g) hd hf ?_;refine δ<|dr<|ν {_,rfl,x2 "set_iterator" _ {{_,ai _ rfl,rfl},IG.lookup,?_}};refine q _ _ d (λb u e=>ξ _<|ξ _ e) ⟨⟨_,ys.map λp=>(c[p]?.map (·.2)).getD .none,ys.map λp=>(c[p]?.map λe=>iv e.2).getD 0,_,λb B=>?_,
        zcz hh ?_ ?_ hd hf rfl (by rw[ε]) λi p e=>?_,{ai _ rfl,ξ _<|ξ _ g,ξ _<|ai _ rfl},?_,?_⟩,?_⟩
      · simp only[aj,bx,or_false]at B
        let rfl||rfl||rfl:=B
        ·right;rw[ut];exact jr _
        ·exact .inl rfl
        ·exact .inr<|ο _
      ·rw[ut];exact bh<|nv A0
      ·rw[ut];exact bh<|fu _
      · have N:p<c.size:=M p (ι e)
        exact{c[p],dz N,by rw[ψ,e];simp[N]}
      · have all:∀ (l:wD),(∀ x∈l,x<c.size)->sj (l.map λp=>(c[p]?.map (·.2)).getD .none) (l.map λp=>(c[p]?.map λe=>iv e.2).getD 0):=by
          intro l
          induction l with
          |nil=>exact λj=>.nil
          |cons x r ih =>
            intro D
            have hx:=D x<|υ ..;let[tk,z]:=XS n (e:=c[x]) (by simp)
            have e1:(c[x]?.map (·.2)).getD ky=um (iv c[x].2) tk:=by rw[dz hx];exact z
            have e2:(c[x]?.map λe=>iv e.2).getD 0=iv c[x].2:=by rw[dz hx];rfl
            rw[cg,cg,e1,e2];exact .cons _ _<|ih λy hy=>D y<|ρ _ hy
        exact all ys M
      · refine(p.map _).trans (List.Perm.trans (List.Perm.of_eq ?_) hp)
        refine List.ext_getElem (by simp) λi h1 h2=>?_
        have H:i<c.size:=by simpa using h1
        simp[H]
      ·rw[ut];exact jr _
def zc2(T:s.TypeIs (.ref a) "set")(q:Q false s):wpAny (model P w) A (Builtin.List.listLengthHint<|.ref a) Q E s:=by
 refine δ<|vj T PySem.F.slot_set_len.lookup ?_;generalize c:("set.__len__")=d;subst c;exact δ (l8  (b:=true) T (by rw[isSubtype_type];kernel_rfl) (wpAny_ite_split (λz=>absurd z (by decide)) (λy=>(wpAny_ite_split (λy=>(δ<|yo T<|ν q)) (λz=>absurd (by decide) z)))))
def zc3(hh:A.handled=none)(S:IntSet P w s.heap a L)(hn:L.length<=sizeLine)
  (q:∀ h' tk d vs B,(∀ b o,s.heap.get? b=some o->h'.get? b=some o)->s.heap.objs.size<=h'.objs.size->sj vs B->B.Perm L->R vs { s with heap:=h',toks:=tk,drawn:=d }):wpAny (model P w) A (collect<|.ref a) R E s:=by
 have M:=let ⟨_,_,_,_,O,_⟩:=S;au O
 refine δ<|wpAny_runValue<|na entry_proto_collect' ?_;refine δ<|dr<|ν {xz PySem.F.plain_list_iadd _,na entry_list_iadd' ?_}
 show wpAny _ A.in1 (Builtin.List.listExtendWith (.ref s.heap.objs.size) (.ref a) (.ref s.heap.objs.size)) _ _ _;generalize D:s.heap.objs.size=N at M ⊢
 have Q:(s.heap.push { cls:=.type "list",data:=.seq ([]:vC).toArray }).get? N=some { cls:=.type "list",data:=.seq #[] }:=D ▸ ai _ rfl
 have g:∀ b o,s.heap.get? b=some o->(s.heap.push { cls:=.type "list",data:=.seq ([]:vC).toArray }).get? b=some o:=λb o e=>ξ _ e
 have H:=S.at λo e=>g a o e
 have big:(s.heap.push { cls:=.type "list",data:=.seq ([]:vC).toArray }).objs.size=N+1:=by rw[ut,D]
 revert Q g H big;generalize s.heap.push { cls:=.type "list",data:=.seq ([]:vC).toArray }=h0;intro Q g H big
 have T1:∀ h':Heap,(∀ b o,h0.get? b=some o->h'.get? b=some o)->∀ tk d,({ s with heap:=h',toks:=tk,drawn:=d }:π).TypeIs (.ref a) "set":=λh' k tk d=>by
  revert H;apply u4;intro o x x x [O,hex,x];exact{o,k _ _ O,hex.1}
 have ne:x_ (.ref N) (.ref a)=false:=by
  simp only[x_,beq_eq_false_iff_ne];exact je M
 refine δ<|yo (T:="set") (T1 h0 (λx x e=>e) s.toks s.drawn) ?_
 have n1:(n_ "set" == n_ "list")=false:=by decide
 have n2:(n_ "set" == n_ "tuple")=false:=by decide
 simp only[ne,n1,n2,rg,mv,if_false];refine δ (zc1 (A:=A.in1) (s:={ s with heap:=h0 }) (by simpa using hh) H λI h1 U k1 W=>?_);let[[fp,ord,B,St,Y,W,st,hi,pk],hI]:=W
 have CN:ord.length=L.length:=by rw[zz hi,pk.length_eq]
 have hI:=big ▸ hI;refine δ<|gx<|zc2 (T1 h1 k1 s.toks U) ?_;refine δ<|tf<|δ ?_
 have g1:=k1 _ _ Q
 have g2:=du (mo (·.push ky)) g1 rfl;refine δ (zd (s:={ s with heap:=h1,drawn:=U }) g1 rfl (zd (hz:=by seq_fits) g2 rfl ?_))
 have p:∀ b o,b≠N->h1.get? b=some o->((h1.update N (mo (·.push ky))).update N (mo (·.pop))).get? b=some o:=λb o n e =>
  (cy _ _<|fk n).trans ((cy _ _<|fk n).trans e)
 have r:N∉fp:=λz=>by
  let y||y:=Y N z
  ·exact je M y
  ·have y':h0.objs.size<=N:=y;rw[big]at y';exact absurd y'<|Nat.not_succ_le_self _
 refine ν {xz PySem.F.plain_extend_loop _,(codeAny_extend_loopS W.toS (by rw[CN];exact hn) N r (.ref N) ord.length 0 _ #[] _ rfl (bg _) (W.frame 0 _ _ st λb n o e=>p b o (λz=>r<|z ▸ n) e) (du (mo (·.pop)) g2 rfl) (ItemsOf.nil _) λs' J c m g4 j=>?_)};refine δ<|wpAny_load g4 ?_;refine ν ?_
 have u:J.toList=ord:=by
  refine xp λi=>?_;by_cases l:i<ord.length
  ·have h3:i<J.size:=by rw[j.1];exact l
   have:=j.2 i J[i] (dz h3);rw[ja,dz h3,this]
  ·have e1:J.toList[i]? =none:=bu (by rw[cw,j.1];exact cm l)
   have e2:ord[i]? =none:=bu<|cm l;rw[e1,e2]
 rw[u];let[h3,gn3,v,tk3,os3]:=s'
 have a1:gn3=s.gens:=m.gens
 have a2:v=U:=m.drawn
 have a3:os3=s.os:=m.os;subst a1;subst a2;subst a3;refine q _ _ v ord B (λb o e=>?_) (by rw[D];exact kh<|au g4) hi pk
 have n:b<N:=D ▸ au e;refine m.heap b o (λz=>?_) (p b o (bh n) (k1 _ _<|g _ _ e));simp only[aj,bx,or_false]at z;let z||z:=z
 ·exact bh n z
 ·exact bh (ω (nv n) hI) z
def zc4(u:A.handled=none)(S:IntSet P w s.heap a j)(l:j.length<64)
  (q:∀ D h' tk d c out i,(∀ b o,s.heap.get? b=some o->h'.get? b=some o)->s.heap.objs.size<=D->h'.get? D=some (seqObj "list" out c)->sj out.toList i->i.Perm j->i.Pairwise (· <=·)->Q (.ref D) { s with heap:=h',toks:=tk,drawn:=d }) :
  wpAny (model P w) A (call (.builtin "sorted") [.ref a]) Q E s:=by
 refine Calls.call_function_entry kind_sorted plain_sorted entry_sorted (args_sorted1 _) (δ  (ν<|δ<|zc3  (u) S (oB l rfl) λh1 tk d vs i k1 size_le n pk=>?_))
 have p:vs.length<64:=by rw[zz n,pk.length_eq];exact l
 have g:(h1.push _).get? _=some (seqObj "list" vs.toArray 0):=ai _ rfl;refine δ<|wpAny_newList (δ<|gx<|dk slot_list_sort ⟨_,g,rfl⟩ entry_list_sort (list_sort_tree g n p λout v x y z=>{_,rfl,?_}) (args_list_sort _)) (oB p rfl);let[c,gc]:=sortedHeap_at   g;refine ν {_,rfl,q _ _ tk d c _ _ (λb o e=>?_) size_le gc x (y.trans pk) z}
 have r:=au<|k1 _ _ e;rw[sortedHeap_old (bh r) (by rw[ut];exact nv r)];exact ξ _<|k1 _ _ e
end
end L2
namespace L2
open PySem PyProof.Rows
section
variable{P:bv}{w:World}{A:df}{E:wB}{s:π}
def zc5(hh:A.handled=none)(hl:s.heap.IsList l g)(hi:sj g.toList ns)(n:g.size+1<wa)
  (q:∀ h' tk,IntSet P w h' s.heap.objs.size (wo (λi=>ns.getD i 0) g.size)->(∀ b o,s.heap.get? b=some o->h'.get? b=some o)->Q (.ref s.heap.objs.size) { s with heap:=h',toks:=tk }) :
  wpAny (model P w) A (call (.type "set") [.ref l]) Q E s:=by
 refine u2 ?_ PySem.F.called_set.mro;rintro c tl mro
 have made:=PySem.F.called_set.made
 have sub:=PySem.F.called_set.sub;refine Ix<|codeAny_of_tree ?_
 show wpAny _ _ (callAny (.type "set") _) _ _ _;refine ν {Code.quiet_builtin _ (by decide +kernel),na PySem.F.entry_type_call ?_};rw[Around.under_plain (weight_type_call_type "set" [.ref l] []) rfl]
 have n1:=PySem.F.called_set.notType
 have n2:=PySem.F.called_set.canCreate
 have n3:=PySem.F.typeCall_set_1<|.ref l
 repeat (any_goals (first|assumption|wp_step))
 generalize p:({ cls:=.type "set",dict:=none,data:=.set #[] 0 (.fresh 0 0<|leads w) }:Obj)=d;refine mj (zco (E:=E) (Q:=λx T=>x=.ref s.heap.objs.size/\T={ s with heap:=s.heap.push d }) {rfl,by rw[<-p]}) λr T z=>?_;cases r with
 |error e=>exact z
 | ok fl =>
  cases fl with
  | ret x =>
   let[rfl,rfl]:=z
   have u:(s.heap.push d).get? s.heap.objs.size=some d:=ai _ (by rw[<-p];rfl)
   have B:Shared.TypeIs { s with heap:=s.heap.push d } (.ref s.heap.objs.size) "set":={_,u,by rw[<-p]}
   have i1:=PySem.F.called_set.init.lookup
   have i2:=PySem.F.called_set.init.bind<|.ref s.heap.objs.size
   repeat (any_goals (first|assumption|wp_step))
   refine mj (codeAny_call_builtin (R:=wants (λr U=>r=.none/\∃ h' tk,U={ s with heap:=h',toks:=tk }/\IntSet P w h' s.heap.objs.size (wo (λi=>ns.getD i 0) g.size) /\
    (∀ b o,s.heap.get? b=some o->h'.get? b=some o)) E) PySem.F.called_set.init.plain PySem.F.entry_set_init (check_set_init_1 B ?_)) λr2 U D=>?_
   ·let[ol,Y,cl,nl,dl]:=hl;let[c1,d1,dt1,sl1]:=ol;simp only at cl dl;subst cl;subst dl
    have j:=ξ d Y
    have e1:=PySem.F.sub_list_set
    have e2:=PySem.F.sub_list_frozenset
    have e3:(n_ "list" == n_ "dict")=false:=by decide
    have y:(s.heap.push d).IsList l g:=⟨_,j,rfl,nl,rfl⟩
    have A0:l<s.heap.objs.size:=au Y
    have big:=ut s.heap d;revert j y u B big
    have a:∀ b o,s.heap.get? b=some o->(s.heap.push d).get? b=some o:=λb o e=>ξ _ e;revert a;generalize s.heap.push d=h0;intro a u B j y big;subst p;unfold vt.«set.__init__» noKeywords Ih;generalize H:zn=PI
    wp_walk
    subst H;refine xk y ?_;refine δ<|wpAny_runValue ?_
    have I:A.in1.in1.in1.handled=none:=by simp[hh]
    have J:l≠h0.objs.size:=bh (by rw[big];exact nv A0)
    have L:s.heap.objs.size∉[h0.objs.size,l]:=by
     simp only[aj,bx,or_false,not_or];exact{bh (by rw[big];exact fu _),je A0}
    refine zcn ((Lr I _ l J g).toS) s.heap.objs.size L (λi=>ns.getD i 0) (λi v e=>IntsAre.int_at hi i v (by rw[ja];exact e)) n (g.size-0) 0 _ (by omega) (bg _)
     {{_,ai _ rfl,rfl,rfl},y.push _} (x4 _ (#[]) 0 _ {ξ _ u,⟨rfl,rfl,rfl⟩,rfl,λe he=>by simp at he,by exact .nil,by decide,by rfl,Led.fresh _}) λs3 m S3=>?_
    let[h3,g3,d3,M,N]:=s3
    have a1:g3=s.gens:=m.gens
    have a2:d3=s.drawn:=m.drawn
    have a3:N=s.os:=m.os;subst a1;subst a2;subst a3
    show wpAny _ _ _ _ _ _;refine ν ?_
    show wpAny _ _ (ret ky) _ _ _;refine ν {rfl,x2 h3 M {rfl,S3,λb o e=>?_}}
    have n:=au e;refine m.heap b o ?_<|ξ _<|a _ _ e;simp only[aj,bx,or_false,not_or];exact{bh n,bh (by rw[big];exact nv n)}
   ·cases r2 with
    |error e=>exact D
    |ok O =>
     cases O with
     |ret r =>
      let[rfl,h',tk,rfl,S',k']:=D
      repeat (any_goals (first|assumption|wp_step))
      exact q _ _ S' k'
     |_=>exact D.elim
  |_=>exact z.elim
end
end L2
namespace L2
section
variable{X:Cx}
def Inv.drawn(I:Inv X a b H s)(d):Inv X a b H { s with drawn:=d } :=
 { ok:=I.ok,os:=I.os,bare:=I.bare,base:=I.base,loc:=I.loc,cell:=I.cell,free:=I.free,freeC:=I.freeC,pin:=I.pin,hok:=I.hok,len:=I.len }
def zc6:∀ {ns:vD} {us:vC},Vals (ns.map V.int) us->sj us ns:=by
 intro ys us h
 induction ys generalizing us with
 |nil=>rw[SK h];exact .nil
 |cons y r a =>
  let[u,m,rfl,[tk,rfl],t]:=SJ h;exact .cons _ _<|a t
abbrev qP(X:Cx)(a:Addr)(b:vD):HO:=.ext λh=>IntSet X.prog X.w h a b
def zc7(g:X.calm=true):EN X (.type "set") (λxs H Q=>∃ (p:Addr) (ns:vD),xs=[.ref p]/\SqL X.K H p (ns.map V.int)/\ns.length<=1000 ∧
  ∀ (a:Addr),H a=none->Q (.ref a) (upd H a<|qP X a<|wo (λi=>ns.getD i 0) ns.length)):=by
 intro w s x H xs us Q I r h;revert h;apply u2;intro p ns [rfl,j,l,q];let[u,rfl,rfl]:=G0 r;let[n,o,v,hz]:=I.list j
 have c:=zc6 o
 have d:=zz c
 have b:n.toArray.size=ns.length:=by rw[ax,d]
 refine zc5 (I.ok.hd g) v.isList c (by rw[ax,d];exact cj (yj l) (by decide)) λh' tk S k=>?_;rw[b]at S;refine x2 (.ref _) _ {I.laid k (ο _) ?_,rfl,q _<|I.hok.fresh<|ο _};exact{S,⟨_,S.choose_spec.choose_spec.choose_spec.choose_spec.1⟩,λh1 h2 z e=>z.at e}
def zc8(l:X.calm=true):EN X (.builtin "sorted") (λxs H Q=>∃ (a:Addr) (e:vD),xs=[.ref a]/\H a=some (qP X a e)/\e.length<64 ∧
  ∀ (D:Addr) (b:vD),H D=none->pq b e->b.Pairwise (· <=·)->Q (.ref D) (upd H D<|.lst<|b.map V.int)):=by
 intro v s w H xs us Q I r h;revert h;apply u2;intro a e [rfl,n,i,q];let[S,z,z]:=I.hok a _ n;let[u,rfl,rfl]:=G0 r;refine zc4 (I.ok.hd l) S i λD h' tk d c out b k j g o pk p=>(x2 (.ref D) _ {(I.laid  k j ?_).drawn d,rfl,q D b (I.hok.fresh j) pk p})
 exact{by rw[ε];exact oB (by rw[pk.length_eq];exact i) rfl,x2 _ c {o7 o,g}}
def zc9(val:Nat->Int)(n:Nat)(x:Int):x∈wo val n↔∃ i,i<n/\val i=x:=by
 have h:=firstMet_any val n x;rw[kf,dn,dn]at h;constructor;intro c;let[y,a,e]:=h.mp {x,c,beq_self_eq_true x};let[i,b,rfl]:=av.mp a;exact{i,ak.mp b,eq_of_beq e};intro[i,b,rfl];let[y,a,e]:=h.mpr {_,av.mpr {i,ak.mpr b,rfl},beq_self_eq_true _};exact eq_of_beq e ▸ a
theorem XV(val:Nat->Int):∀ n,(wo val n).Nodup
 |0=>jv
 |n+1=>by
  rw[firstMet_succ];by_cases h:val n∈wo val n;rw[qI h];exact XV _ n;rw[qJ h];exact nw.mpr {XV _ n,by simp,λa d b c e=>by rw[aa]at c;subst c e;exact h d}
theorem qQ:∀ {l:vD},l.Pairwise (· <=·)->l.Nodup->l.Pairwise (· <·)
 | [],_,_=>.nil
 |x::r,h,n=>by
  let[b,c]:=gz.mp n;let[h1,h2]:=mq.mp h;refine mq.mpr {λy a=>?_,qQ h2 c}
  have:=h1 y a
  have:x≠y:=λz=>b<|z ▸ a
  lia
def TN(K:W.Frag)(d:TE):TE:=λe H Q=>d e H λx b=>∃ (p:Addr) (ns:vD),x=.ref p/\SqL K b p (ns.map V.int)/\ns.length<64 /\
 ∀ (a:Addr) (o:HO) (D:Addr) (c:vD),b a=none->upd b a o D=none->c.Pairwise (· <·)->(∀ x,x∈c↔x∈ns)->c.length<=ns.length->Q (.ref D) (upd (upd b a o) D (.lst<|c.map V.int))
def clo(b:TE):TE:=λc H Q=>∃ C:VK,b c H C/\∀ x a,C x a->Q x a
def PE.clo(h:PE X e a):PE X e (clo a):=(by intro i s b H Q I [C,q,m];exact AR (h _ s b H C I q) (by intro v j [x,c,d,g,q1];exact x2 x c {d,g,m _ _ q1}))
def zda(d:X.calm=true)(g1:Gl X "sorted")(j:X.mg "sorted"=none)(g2:Gl X "set")(l:X.mg "set"=none)(h:PE X e n)
  (he:az [e] X.env=[(false,eval e X.env)]:=by rfl) :
  PE X (.Call (.Name "sorted" A) [.Call (.Name "set" B) [e] [] E] [] J) (TN X.K n):=λL s o H Q I q=>by
 refine(PK (zc8 d) g1 j (rfl) (MD (NJ (zc7 d) g2 l (rfl) (MD h.clo SW he) (he:=he)) SW)) _ s o H Q I ({_,q,λx M b=>?_});let[p,ns,rfl,r,g,q1]:=b;refine x2 p ns {rfl,r,oB g rfl,λa u=>x2 a _ {rfl,AE,(cj (wp ..) g),λD v w pk y=>?_}};refine q1 a _ D v u w (qQ y<|pk.nodup_iff.mpr<|XV (λi=>ns.getD i 0) _) (λx=>?_) (by rw[pk.length_eq];exact wp ..);rw[pk.mem_iff,zc9];refine{λb=>?_,λz=>?_};let[i,c,e]:=b;rw[<-e];simp[c];let[i,c,e]:=jo z;exact{i,c,by simp[c,e]}
end
def TQ(K:W.Frag)(a:Addr)(n:Nat):It :=
 {λi H=>i<n/\∃ xs,SqL K H a xs/\xs.length=n,λi H x b=>b=H/\∀ xs,SqL K H a xs->xs[n-1-i]? =some x,λi _=>n<=i}
def zdb{P:bv}{w:World}{K:W.Frag}{U:Expr}(a it:Addr)(n:Nat):JY P w K U (TQ K a n) [it] it (λi h=>i<=n/\h.IsRevIter it a ((n:Int)-1-(i:Int))) where
 mem:=by simp
 obj:=λi h ⟨_,st⟩ b g=>by
  have e:b=it:=by simpa using g
  subst e;let[o,e,c,d]:=st;exact{o,e,λv z=>by rw[d]at z;cases z}
 keep:=λi h h' ⟨l,st⟩ k=>{l,st.at λo e=>k it (by simp) o e}
 item:=by
  intro X D J L M i Y s N H E I hf [O,st] [hi,xs,Q,hn];subst D J L;let[AK,rv,p,hz]:=I.list Q
  have A0:n-1-i<xs.length:=by omega
  have T:=θ A0;let[q,f1,f2,r,x,A]:=hf it (by simp)
  have B:n-1-i=((n-1-i:Nat):Int):=by omega
  let[u,hu,ru]:=rv.get T;rw[B]at st
  have e2:((n-1-i:Nat))-1=n-1-((i+1):Int):=by omega
  refine wpAny_pyNext_rev_item st p.isList  (by simpa using hu) λh' j sb=>?_;rw[e2]at j
  have I1:Inv X _ N H { s with heap:=h' }:=I.turned  (λb o g e=>(sb.2 b g).trans e) q f1 r x A;let[o,e,c,d]:=id j;exact{u,rfl,NF  e c d (by decide) (x2 _ H {I1,ru,{rfl,λys hy=>by rw[I.list_inj hy Q];exact T},⟨hi,j⟩,λb g=>(hf b g).1})}
 done:=by
  intro X D J L M i Y s N H E I hf ⟨O,st⟩ hg;let[q,f1,f2,r,x,A]:=hf it (by simp)
  have e:=ke O hg;subst e
  have B:i-1-(i:Int)= -1:=by lia
  rw[B]at st;exact wpAny_pyNext_rev_end (I.ok.hd M) st λh' eb=>{rfl,I.turned  (λb o g e=>eb b o g e) q f1 r x A}
 self:=λy y y y y st h=>z_ st.2 h
def TR(K:W.Frag)(c:TA):TI:=λd H R=>c d H λvs b=>∃ a xs,vs=[.ref a]/\SqL K b a xs/\R (TQ K a xs.length) b
def zdc:t5 "reversed"=some (.type "reversed"):=rfl
section
variable{X:Cx}{tg:Expr}
def zdd{a:Expr}{i:TA}{p pos:Pos}(v:Gl X "reversed")(w:X.mg "reversed"=none)(x:PA X [a] i)(hs:az [a] X.env=[(false,eval a X.env)]:=by rfl):PI X tg (.Call (.Name "reversed" p) [a] [] pos) (TR X.K i):=by
 refine λJ s j H R I h=>Call_ (O2 I v w zdc (jp (AR (x _ _ s j H _ I h) λus c g=>?_) (by rw[hs];rfl) (rfl)));let[vs,n,d,y,q1]:=g;revert q1;apply u2;intro l xs [rfl,z,q];let[r,A,B,hz]:=d.list z;let[u,rfl,rfl]:=G0 y;refine call_reversed_list B.isList ?_
 have st:(c.heap.push<|revObj l _).IsRevIter _ l (xs.length-1-(0)):=⟨_,ai _ rfl,rfl,by
  show Data.fields #[.ref l,k_<|r.toArray.size-1]=_;rw[ax,<-A.length];simp⟩
 have D:Inv X _ j n { c with heap:=c.heap.push (revObj l<|r.toArray.size-1) }:=d.kept  λb o e=>ξ _ e;refine z_ st ?_;exact⟨_,_,_,_,n,rfl,D,zdb l _ _,{bg _,st},λb E=>by
  have e:b=c.heap.objs.size:=by simpa using E
  subst e;exact d.fpOk (ο _) (d.hok.fresh<|ο _),q⟩
def QH(K:W.Frag):vE->Hp->VK->Prop:=λxs H Q=>∃ (p:Addr) (kvs:yB),xs=[.ref p]/\H p=some (.dK kvs)/\∀ l,H l=none->Q (.ref l) (upd H l<|.dK kvs)
def zde:EN X (.type "dict") (QH X.K):=by
 intro d s e H xs us Q I r h;revert h;apply u2;intro p kvs [rfl,a,q];let[u,rfl,rfl]:=G0 r;exact Yk I (.inl a) λl g b c=>x2 (.ref l) _ {c,rfl,q l b}
def zdf{K:W.Frag}{p:Addr}{H:Hp}{Q:VK}:QH K [.ref p] H Q=∃ kvs,H p=some (.dK kvs)/\∀ l,H l=none->Q (.ref l) (upd H l<|.dK kvs):=by simp[QH]
end
def zdg{K:W.Frag}{as:TA}{g:TG}{c:TS}{D:Ends}{b:St}{H:Hp}:DG (TR K as) g c D b H=(as b H λvs d=>∃ a xs,vs=[.ref a]/\SqL K d a xs/\GO (TQ K a xs.length) g c D b d):=rfl
def zdh{K:W.Frag}{b:St}{H:Hp}{a:Addr}{xs:vE}{g:TG}{j:TS}{D:Ends}(Pv:yA)(h0:Pv 0 b H)(n:∀ i b H,i<=xs.length->Pv i b H->SqL K H a xs)
  (hs:∀ i x b H,i<xs.length->xs[xs.length-1-i]? =some x->Pv i b H->g x b H λd o=>j { D with nx:=Pv<|i+1,ct:=Pv<|i+1,bk:=D.nx } d o) (hd:∀ b H,Pv xs.length b H->D.nx b H):GO (TQ K a xs.length) g j D b H:=by
 refine{λi m b H=>i+m=xs.length/\Pv i b H,{xs.length,by lia,h0},λi m b H c=>?_};let[e,p]:=c
 have h1:=n i b H (by lia) p;by_cases l:i<xs.length;refine .inr {⟨l,xs,h1,rfl⟩,_,λr s q=>{m-1,by lia,by lia,q},λv s c=>?_};let[rfl,q1]:=c;exact hs i v b _ l (q1 _ h1) p
 have e:i=xs.length:=by lia
 subst e;exact .inl {ο _,hd _ _ p}
section
variable{K:W.Frag}{tt:TT}{BB:wD}{σ:St}{H:Hp}{Q:VK}
abbrev _root_.zC:=Nat->Bool
def zdi(p:zC)(o:n<=sizeLine)(r:∀ i,i<n->∀ c:Bool->Hp->Prop,c (p i) H->tt (some (.int (i:Int))::C1 BB σ) H c)
  (hd:∀ q,H q=none->Q (.ref q) (upd H q<|.lst<|((τ n).filter p).map λ(i:Nat)=>V.int i)):EH (FN 0 n) (AG 0) tt (EI 0) 1 BB σ H Q:=by
 refine{λi m a ys d=>m=n-i/\i<=n/\d=H/\(∃ g,a=g::C1 _ σ)/\ys=((τ i).filter p).map λ(i:Nat)=>V.int i,{n,rfl,bg _,rfl,⟨_,rfl⟩,rfl},?_};intro i m a ys d [rfl,z,rfl,[g,rfl],rfl];by_cases b:i<n;refine .inr {b,?_,λx s y=>?_};rw[ε]
 have:=cu p<|τ i;rw[cr]at this;exact cj this<|ω b o;let[e,y]:=y;subst e y;rw[uf];refine r i b _ ?_;cases j:p i with
 |true =>
  refine{λv l=>v=.int i/\l=s,λy l ⟨u,w⟩=>{_,by omega,rfl,b,w,⟨_,rfl⟩,?_},(by simp[EI])};rw[u,ca];simp[j]
 |false =>
  refine{_,by omega,rfl,b,rfl,⟨_,rfl⟩,?_};rw[ca];simp[j]
 have e:i=n:=by lia
 subst e;exact .inl {ο _,hd}
def XW(p:V->Bool)(D:xs.length<=sizeLine)(c:SqL K H b xs)(w:∀ x∈xs,∀ j:Bool->Hp->Prop,j (p x) H->tt (some x::C1 BB σ) H j)
  (hd:∀ q,H q=none->Q (.ref q) (upd H q<|.lst<|xs.filter p)):EH (GH K b) (AG 0) tt (EI 0) 1 BB σ H Q:=by
 refine{λi m a ys l=>m=xs.length-i/\i<=xs.length/\l=H/\(∃ n,a=n::C1 _ σ)/\ys=(xs.take i).filter p,{xs.length,rfl,bg _,rfl,⟨_,rfl⟩,rfl},?_};intro i m a ys l [rfl,E,rfl,[n,rfl],rfl];by_cases d:i<xs.length;refine .inr {x2 xs (xs[i]) {c,by simp[d]},?_,λx z y=>?_}
 have:=cu p<|xs.take i;rw[di]at this
 lia
 let[rfl,y]:=y
 have o:=y xs c
 have r:xs.take (i+1)=xs.take i++[x]:=by
  let[h1,h2]:=ζ.mp o;rw[<-h2,lg]
 refine w x (ι o) _ ?_;cases s:p x with
 |true =>
  refine{λv u=>v=x/\u=z,λy u ⟨A,B⟩=>{_,by omega,rfl,d,B,⟨_,rfl⟩,?_},(by simp[EI])};rw[r,A];simp[s]
 |false =>
  refine{_,by omega,rfl,d,rfl,⟨_,rfl⟩,?_};rw[r];simp[s]
 have e:i=xs.length:=by lia
 subst e;refine .inl {{xs,c,ο _},λq g=>?_};rw[b_];exact hd q g
end
section
variable{K:W.Frag}{td ty tv te:TE}{D:Ends}{σ:St}{H:Hp}{Q:VK}{QB:xB}
def zdj:IF σ H Q=(∀ p,H p=none->Q (.ref p) (upd H p<|.dK [])):=rfl
def zdk:NL σ H Q=(∀ p,H p=none->Q (.ref p) (upd H p<|.dT [])):=rfl
def zdl:TN K te σ H Q=(te σ H λx b=>∃ (p:Addr) (ns:vD),x=.ref p/\SqL K b p (ns.map V.int)/\ns.length<64 /\
 ∀ (a:Addr) (o:HO) (D:Addr) (c:vD),b a=none->upd b a o D=none->c.Pairwise (· <·)->(∀ x,x∈c↔x∈ns)->c.length<=ns.length->Q (.ref D) (upd (upd b a o) D (.lst<|c.map V.int))):=rfl
variable{a b:Addr}{i j:Int}{z:Str}{kvs:yB}{kvt:uA}{v:V}
def dI(e:H a=some (.dK kvs)):DGet H a (.int i) (BG kvs<|.inl i):=DGet.k (k:=.inl i) e
def dS(e:H a=some (.dK kvs)):DGet H a (.str z) (BG kvs<|.inr z):=DGet.k (k:=.inr z) e
def qS(e:H a=some (.dT kvt))(c:H b=some (.tup [.int i,.int j])):DGet H a (.ref b) (BG kvt [.inl i,.inl j]):=DGet.t  e c
def dS'(e:H a=some (.dK kvs))(h:BG kvs (.inr z)=some v):DGet H a (.str z) (some v):=h ▸ dS e
def zdn(e:H a=some (.dT kvt))(c:H b=some (.tup [.int i,.int j]))(h:BG kvt [.inl i,.inl j]=some v):DGet H a (.ref b) (some v):=h ▸ qS e c
def pI(e:H a=some (.dK kvs))(c:kvs.length<100000):DPut H a (.int i) v (upd H a<|.dK<|CD kvs (.inl i) v):=DPut.k (k:=.inl i) e (ω c (by decide))
def pS(e:H a=some (.dK kvs))(c:kvs.length<100000):DPut H a (.str z) v (upd H a<|.dK<|CD kvs (.inr z) v):=DPut.k (k:=.inr z) e (ω c (by decide))
def pT2(e:H a=some (.dT kvt))(eb:H b=some (.tup [.int i,.int j]))(hl:kvt.length<100000):DPut H a (.ref b) v (upd H a<|.dT<|CD kvt [.inl i,.inl j] v):=DPut.t  e eb (ω hl (by decide))
end
section
variable{X:Cx}
abbrev QI(K:W.Frag):R2:=oM K false
def qT(a:X.A.units+64<cLine):CF X (d_ .In) (QI X.K):=Wv
end
def SqT.same{K:W.Frag}{H b:Hp}{a:Addr}{xs:vE}(e:Same H b)(h:SqT K H a xs):SqT K b a xs:=by
 rcases h with(h|⟨o,h⟩)|h
 exact .inl<|.inl<|e _ _ h;exact .inl<|.inr {o,e _ _ h};exact .inr h
def Dat(K:W.Frag)(H:Hp)(n:Nat)(v:V)(d:xx):Prop:=Rep K H v d/\d.canLay0=true/\d.depth<=n
section
variable{K:W.Frag}{H:Hp}{n:Nat}{Q:VK}
def Dat.int(i:Int):Dat K H n (.int i) (.int i):={.int i,rfl,bg _}
def Dat.non:Dat K H n .non .none:={.non,rfl,bg _}
def qU:∀ {xs:vE} {a:List xx},Paired (Dat K H n) xs a->RepAll K H xs a/\Eu a=true/\PyData.depthAll a<=n:=λh=>by
 induction h with
 |nil=>exact{.nil,rfl,bg _}
 |cons h t b =>
  let[c,d,e]:=b;exact{.cons h.1 c,by simp[Eu,h.2.1,d],Nat.max_le.mpr ⟨h.2.2,e⟩}
def Dat.lst(h:SqL K H p xs)(hs:Paired (Dat K H n) xs a):Dat K H (n+1) (.ref p) (.list a):=by
 let[b,c,d]:=qU hs;exact{.lst h b,c,by simpa [vx]using d}
def Dat.tup(h:SqT K H p xs)(hs:Paired (Dat K H n) xs a):Dat K H (n+1) (.ref p) (.tuple a):=by
 let[b,c,d]:=qU hs;exact{.tup h b,c,by simpa [vx]using d}
def Dat.shp(h:Dat K H n v d)(a:n<=64):shp d:=by
 unfold L2.shp PySem.SeqAt.shaped;rw[h.2.1];simpa using χ h.2.2 a
def zdp(a:n<=64)(h1:Dat K H n (.ref p) d)(h2:Dat K H n (.ref q) d)(b:Q (.bl false) H):KB K (.ref p) (.ref q) H Q:=by
 refine y2 {h1.1,h2.1,h1.shp a,h1.shp a,?_};rw[zb5 (h1.shp a)];exact b
end
section
variable{prog:bv}{w:World}{A:df}{E:wB}{s:π}{d it:Addr}{od:Obj}{es:Array wb}{ep i:Nat}
def zdq(hd:(d==gb)=false)(b:s.heap.get? d=some od)(e:od.ExactDict)(a:od.data=.dict es ep)
  (g:Q (.ref s.heap.objs.size) { s with heap:=s.heap.push { cls:=.type "dict_keyiterator",data:=.fields #[.ref d,.int 0 0,.int es.size 0,.int ep 0] } }) :
  wpAny (model prog w) A (zn<|.ref d) Q E s:=by
 have c:s.TypeIs (.ref d) _:=⟨od,b,e.1⟩
 refine xo c F.slot_dict_iter<|dk F.slot_dict_iter c F.entry_dict_iter (δ<|δ<|zk c<|ν ?_) (F.args_dict_iter_1 _)
 show wpAny _ _ (uk d>>=_) _ _ s;unfold uk;rw[if_neg (by rw[hd];exact ay)];refine δ<|ν<|δ<|iq b a<|δ<|sr b a<|δ<|dr<|ν {_,rfl,_,_,{_,ai _ rfl,rfl},F.slot_dict_keyiterator_next.lookup,?_};exact g
def zdr(hit:s.heap.IsKeyIter it d i es.size ep)(b:s.heap.get? d=some od)(c:od.data=.dict es ep)(he:es[i]? =some e)
  (j:∀ h',h'.IsKeyIter it d (i+1) es.size ep->gj it s.heap h'->Q (some e.key) { s with heap:=h' }) :
  wpAny (model prog w) A (xt<|.ref it) Q E s:=by
 let[o,g,l,hd]:=id hit;refine δ (lb (cz  hit.typeIs F.slot_dict_keyiterator_next
  (dk F.slot_dict_keyiterator_next hit.typeIs F.entry_dict_keyiterator_next (δ<|ν<|δ<|δ ?_) (F.args_dict_keyiterator_next_1 _))))
 first|refine δ (jk hit.typeIs<|ν ?_)|refine δ<|lh _<|ν ?_
 refine δ<|o_ g hd ?_
 show wpAny _ _ _ _ _ s;refine δ<|ν<|δ<|iq b c ?_;rw[if_neg (by simp)];refine δ<|ν<|δ<|sr b c ?_;rw[if_neg (by simp)];refine ν ?_;simp only[ci,he];refine δ ?_
 first|refine δ (jk hit.typeIs<|ν ?_)|refine δ<|lh _<|ν ?_
 refine δ<|zl hit.typeIs ?_
 show wpAny _ _ (setField _ 1 _>>=_) _ _ s;refine δ (lw g hd (by simp) ?_)
 have a:(s.heap.update it (va (·.setIfInBounds 1 (k_<|i+1)))).IsKeyIter it d (i+1) es.size ep :=
  {_,du _ g<|nu<|h_ hd _,(Ds ..).trans l,by rw[h_ hd];simp[k_]}
 refine δ<|gx<|δ<|zl  a.typeIs ?_;exact ν<|ν {_,rfl,ν<|j _ a<|dw ..}
def zds(g:A.handled=none)(hit:s.heap.IsKeyIter it d i es.size ep)(a:s.heap.get? d=some od)(b:od.data=.dict es ep)(c:es.size<=i)
  (j:∀ h',mf it s.heap h'->Q none { s with heap:=h' }):wpAny (model prog w) A (xt<|.ref it) Q E s:=by
 let[o,e,l,hd]:=id hit;refine δ (lb (cz  hit.typeIs F.slot_dict_keyiterator_next
  (dk F.slot_dict_keyiterator_next hit.typeIs F.entry_dict_keyiterator_next (δ<|ν<|δ<|δ ?_) (F.args_dict_keyiterator_next_1 _))))
 first|refine δ (jk hit.typeIs<|ν ?_)|refine δ<|lh _<|ν ?_
 refine δ<|o_ e hd ?_
 show wpAny _ _ _ _ _ s;refine δ<|ν<|δ<|iq a b ?_;rw[if_neg (by simp)];refine δ<|ν<|δ<|sr a b ?_;rw[if_neg (by simp)];refine ν ?_;simp only[ci,ue c];refine δ ?_
 first|refine δ (jk hit.typeIs<|ν ?_)|refine δ<|lh _<|ν ?_
 show wpAny _ _ (setField _ 0 _>>=_) _ _ s;refine δ (lw e hd (by simp) ?_);refine δ ?_;refine δ (dr (δ  (zw  (by first|rfl|(rfl)) (dr ?_ (by size_fits)))) (by size_fits));refine δ<|Bi ?_;rw[g];refine δ<|ν<|HE ?_;exact δ<|l8   {_,ai _ rfl,rfl} wq (ν<|j _<|((dw ..).extBut.push _).push _)
end
def qV:∀ {ys:aD} {us:vC},Vals (ys.map V.str) us->StrsAre us ys:=by
 intro ys us h
 induction ys generalizing us with
 |nil=>rw[SK h];exact .nil
 |cons y r a =>
  let[u,m,rfl,[tk,rfl],t]:=SJ h;exact .cons _ _<|a t
section
variable{X:Cx}
def MK(K:W.Frag):V->vE->Hp->VK->Prop:=λx vs H Q=>∃ (z:Str) (p:Addr) (ys:aD),x=.str z/\vs=[.ref p]/\SqL K H p (ys.map V.str)/\z.length<=16/\(ys.map (·.length)).sum+ys.length<=1048576/\Q (.str<|Txt.join z ys) H
def zdt:PN X "str.join" (MK X.K):=by
 intro i s j H x vs v us Q I a b h;revert h;apply u3;intro z p ys [rfl,rfl,c,hz,d,q];let[u,rfl,rfl]:=b.one;let[t,rfl]:=a;let[l,r,e,g]:=I.list c;exact join_listW e.isList (qV r) hz d λt' k=>x2 (.str _) H {I.tok k,⟨t',rfl⟩,q}
end
section
variable{K:W.Frag}{tt:TT}{te:TE}{BB:wD}{σ:St}{H:Hp}{Q:VK}
end
section
variable{X:Cx}{tg:Expr}
end
section
variable{K:W.Frag}{tt:TT}{BB:wD}{σ:St}{H:Hp}{Q:VK}
end
def XX(n i:Nat)(P:Prop):Prop:=∃ a,a<n-i/\a=n-(i+1)/\i+1<=n/\P
def cnx(h:i<n)(p:P):XX n i P:={_,cq ‹_›,rfl,h,p}
def qW{K:W.Frag}{g:TG}{j:TT}{l:TE}{k:Nat}{n:wD}{o:St}{H:Hp}{Q:VK}{b:Addr}{xs:vE}(z:xs.length<=sizeLine)(Pv:Nat->St->vE->Hp->Prop)(h0:Pv 0 (K8 k n o) [] H)(v:∀ i a ys H,Pv i a ys H->SqL K H b xs/\ys.length<=i)
  (hs:∀ i x a ys H,i<xs.length->xs[i]? =some x->Pv i a ys H->g x a H λd w=>j d w λc r=>if c=true then ∃ N:VK,(∀ y s,N y s->XX xs.length i (Pv (i+1) d (ys++[y]) s))/\l d r N else XX xs.length i (Pv (i+1) d ys r))
  (hd:∀ a ys H,Pv xs.length a ys H->∀ p,H p=none->Q (.ref p) (upd H p<|.lst ys)):EH (GH K b) g j l k n o H Q:=by
 refine{λi m a ys H=>m=xs.length-i/\i<=xs.length/\Pv i a ys H,{xs.length,rfl,bg _,h0},?_};intro i m a ys H [rfl,A,p];let[q,B]:=v i _ ys H p;by_cases u:i<xs.length;refine .inr {{xs,xs[i],q,by simp[u]},by lia,λx D y=>?_};let[rfl,y]:=y;exact hs i x _ ys _ u (y xs q) p
 have e:i=xs.length:=by lia
 subst e;exact .inl {{xs,q,ο _},hd _ ys H p}
section
variable{P:bv}{w:World}{A:df}{E:wB}{s:π}
end
section
variable{X:Cx}
end
section
variable{P:bv}{w:World}{A:df}{E:wB}{s:π}
def zdv{e it l:Addr}{i:Nat}{a:Array Value}{x old:Value}{Q:Option Value->π->Prop}(he:IsEnum s.heap e it i old)(c:s.heap.IsListIter it l i)(d:s.heap.IsList l a)(ex:a[i]? =some x)(ne:e≠it)
  (q:∀ h',IsEnumOut h' e it (i+1) x s.heap.objs.size->h'.IsListIter it l (i+1)->h'.get? s.heap.objs.size=some { cls:=n_ "tuple",data:=Data.seq #[um i s.toks,x] }->(∀ b o,b≠e->b≠it->s.heap.get? b=some o->h'.get? b=some o) →
   Q (some<|.ref s.heap.objs.size) { s with heap:=h',toks:=s.toks+1 }):wpAny (model P w) A (xt<|.ref e) Q E s:=by
 have ty:s.TypeIs (.ref e) _:=⟨_,he,rfl⟩
 exact δ (lb (cz  ty F.slot_enumerate_next (dk F.slot_enumerate_next ty F.entry_enumerate_next
  (enumerate_next_item he c d ex ne λh' g j n z p=>ν<|q h' g j n p) (F.args_enumerate_next_1 _))))
def zdw{e it l:Addr}{i:Nat}{a:Array Value}{old:Value}{Q:Fin->π->Prop}(b:A.handled=none)(he:IsEnum s.heap e it i old)(c:s.heap.IsListIter it l i)(d:s.heap.IsList l a)(ex:a[i]? =none)
  (q:∀ h' x,mf it s.heap h'->(∃ o,h'.get? x=some o/\o.cls=.type "StopIteration")->E (.ref x) { s with heap:=h' }):wpAny (model P w) A (vt.«enumerate.__next__» {[.ref e],[]}) Q E s:=by
 show wpAny _ A (field _ 2>>=_) _ _ s;exact δ<|jj he rfl  rfl (δ<|zb7 (k:=true) b c d ex q)
def zdx{e it l:Addr}{i:Nat}{a:Array Value}{old:Value}{Q:Option Value->π->Prop}(b:A.handled=none)(he:IsEnum s.heap e it i old)(c:s.heap.IsListIter it l i)(d:s.heap.IsList l a)(ex:a[i]? =none)
  (q:∀ h',mf it s.heap h'->Q none { s with heap:=h' }):wpAny (model P w) A (xt<|.ref e) Q E s:=by
 have ty:s.TypeIs (.ref e) _:=⟨_,he,rfl⟩
 exact δ<|lb<|cz  ty F.slot_enumerate_next (dk F.slot_enumerate_next ty F.entry_enumerate_next (zdw b he c d ex λh' x g ⟨o,j,n⟩=>(δ<|l8   ⟨o,j,n⟩ wq (ν<|q _ g))) (F.args_enumerate_next_1 _))
end
def LD(K:W.Frag)(a:Addr):It :=
  ⟨λi H=>∃ xs x,SqL K H a xs/\xs[i]? =some x,
   λi H v b=>∃ t,H t=none/\v=.ref t/\∃ x,b=upd H t (.tup [.int (i:Int),x])/\∀ xs,SqL K H a xs->xs[i]? =some x,
   λi H=>∃ xs,SqL K H a xs/\xs.length<=i⟩
def EnSt(e it l:Addr)(i:Nat)(h:Heap):Prop:=(∃ old,IsEnum h e it i old)/\h.IsListIter it l i
def EnSt.lt(q:EnSt e it l i h):∀ b∈[e,it],b<h.objs.size:=by
 let[[old,h1],o,h2,z]:=q;intro b a;simp only[aj,bx,or_false]at a;let rfl||rfl:=a
 exact au h1;exact au h2
def zdy{P:bv}{w:World}{K:W.Frag}{c:yC}{O:Nat}{pos:Pos}{e it l:Addr}(ne:e≠it) :
  JY P w K (.Tuple c O pos) (LD K l) [e,it] e (λi h=>EnSt e it l i h) where
 mem:=by simp
 obj:=λi h st b a=>by
  let[[old,h1],h2]:=st;let[o4,Q,T]:=ItK.ob (k:=true) h2;simp only[aj,bx,or_false]at a;let rfl||rfl:=a
  exact{_,h1,λv q=>by cases q};exact{_,Q,λv q=>by rw[T]at q;cases q}
 keep:=λi h h' {⟨old,h1⟩,h2} q=>{{_,q e (by simp) _ h1},ItK.up (k:=true) h2 λo x=>q it (by simp) o x}
 item:=by
  intro X g j n L i M s N H E I hf st U;subst g j n;revert U;apply u2;intro xs x [d,ex];let[Y,p,r]:=I.seqK (k:=true) d
  have lt:=EnSt.lt st;let[[old,h1],h2]:=st;let[u,hu,ru]:=p.get ex
  have y:=λb a=>bh<|lt b a;refine zdv h1 h2 r  (by simpa using hu) ne λh' g1 g2 g3 A=>{_,rfl,(wpAny_letOwnedTupleGo_enum g1 λB z2 sb=>?_)}
  have I2:Inv X M N (upd H s.heap.objs.size<|.tup [.int i,x]) { s with heap:=B,toks:=s.toks+1 }:=by
   refine Inv.turnedS (s:={ s with heap:=s.heap.push _ })   (I.tnew   (.cons (⟨s.toks,rfl⟩) (.cons ru .nil)) (by show 2<=sizeLine;decide)) (λb o a D=>?_) λb a=>(hf b a).upd (y b a);simp only[aj,bx,or_false,not_or]at a;let[J,e2]||J:=Heap.get?_push_cases D
   subst J e2;exact sb.extBut _ _ ((y e (by simp)).symm) g3;exact sb.extBut _ _ a.1<|A _ _ a.1 a.2 J
  exact⟨.ref _,_,I2,rfl,{_,I.fresh,rfl,x,rfl,λys' q=>by rw[I.seqK_inj (k:=true) q d];exact ex},
   {⟨_,z2⟩,ItK.up (k:=true) g2 λo x=>sb.extBut _ _ ne.symm x},λb a=>((hf b a).upd (y b a)).1⟩
 done:=by
  intro X g j n L i M s N H E I hf [[old,h1],h2] [xs,d,en];subst g j n;let[Y,p,r]:=I.seqK (k:=true) d;refine zdx (I.ok.hd L) h1 h2 r (by simp;exact p.length ▸ en) λh' A=>{rfl,I.turnedS   (λb o a D=>?_) hf}
  simp only[aj,bx,or_false,not_or]at a;exact A _ _ a.2 D
 self:=λz z z z z st h=>by
  let[[old,h1],z]:=st;exact E_ h1 h
section
variable{X:Cx}
def TU(K:W.Frag)(c:TA):TI:=λd H R=>c d H λvs b=>∃ a:Addr,vs=[.ref a]/\(∃ xs,SqL K b a xs)/\R (LD K a) b
def zdz{a:Expr}{g:TA}{p pos r:Pos}{c:yC}{v:Nat}(w:Gl X "enumerate")(x:X.mg "enumerate"=none)(y:PA X [a] g)(hs:az [a] X.env=[(false,eval a X.env)]:=by rfl) :
  PI X (.Tuple c v r) (.Call (.Name "enumerate" p) [a] [] pos) (TU X.K g):=by
 refine λM s i H R I h=>Call_ (O2 I w x boot_enumerate (jp (AR (y _ _ s i H _ I h) λus z e=>?_) (by rw[hs];rfl) (rfl)));let[vs,j,d,A,[l,rfl,[xs,B],q]]:=e;let[N,O,D]:=d.seqK (k:=true) B;let[u,rfl,rfl]:=G0 A;refine call_enumerate_list D λh' n E sz J=>E_ n ?_
 have L:Inv X _ i j { z with heap:=h' }:=d.kept  J;refine x5 _ _ _ _ j {rfl,L,zdy<|je<|fu _,{⟨_,n⟩,E},λb o=>d.fpOk ?_<|d.hok.fresh ?_,q}
 all_goals
  simp only[aj,bx,or_false]at o;let rfl||rfl:=o<;>omega
end
def XY{K:W.Frag}{b:St}{H:Hp}{a:Addr}{xs:vE}{g:TG}{j:TS}{D:Ends}(Pv:yA)(h0:Pv 0 b H)(l:∀ i b H,i<=xs.length->Pv i b H->SqL K H a xs)
  (hs:∀ i x b H t,xs[i]? =some x->Pv i b H->H t=none->g (.ref t) b (upd H t<|.tup [.int (i:Int),x]) λc n=>j { D with nx:=Pv<|i+1,ct:=Pv<|i+1,bk:=D.nx } c n) (hd:∀ b H,Pv xs.length b H->D.nx b H):GO (LD K a) g j D b H:=by
 refine{λi m b H=>i+m=xs.length/\Pv i b H,{xs.length,by lia,h0},λi m b H d=>?_};let[e,p]:=d
 have h1:=l i b H (by lia) p;by_cases o:i<xs.length;refine .inr {x2 xs _ {h1,θ o},_,λr s q=>{m-1,by lia,by lia,q},λv s ⟨t,u,e,x,w,q1⟩=>?_};subst e w;exact hs i x b H t (q1 _ h1) p u
 have e:i=xs.length:=by lia
 subst e;exact .inl {{xs,h1,ο _},hd _ _ p}
def QJ(K:W.Frag):R2:=λx y H Q=>QI K x y H Q\/∃ t a p xs,x=.ref t/\SqT K H t a/\y=.ref p/\SqT K H p xs/\(∀ z∈xs,z=.non\/∃ i,z=.int i)/\Q (.bl false) H
def zd0:∀ {xs:vE} {us:vC} {u:Value},Vals xs us->u∈us->∃ x∈xs,RelV x u:=λh m=>by
 induction h with
 |nil=>cases m
 |cons r t a =>
  let rfl||m:=aj.mp m
  exact{_,υ ..,r};let[x,b,e]:=a m;exact{x,ρ _ b,e}
def zd1(l:X.A.units+64<cLine):CF X (d_ .In) (QJ X.K):=by
 intro M s n H x y v u Q I c d h;let h||[t,N,p,xs,rfl,o,rfl,w,B,q]:=h
 exact qT l _ s n H x y v u Q I c d h;subst c;let[D,r,E,hz]:=I.tuple w;subst d;let[J,O,e,j]:=I.tuple o
 have a:X.A.in1.units<cLine:=by
  have:X.A.in1.units=X.A.units+1:=rfl
  lia
 refine Ge (λj=>false) E (λz b=>?_) (x2 (.bl _) H {I,rfl,?_});let[L,h0,g]:=zd0 r (by simpa using b);let rfl||[i,rfl]:=B L h0
 subst g;exact SeqAt.EqAt.none_tuple e a;let[tk,rfl]:=g;exact SeqAt.EqAt.int_tuple _ _ e a
 have:D.toArray.any (λj=>false)=false:=by
  simp
 rw[this];exact q
section
variable{X:Cx}
def qX:∀ {us:vC} {ys:aD},StrsAre us ys->Vals (ys.map V.str) us:=λh=>by
 induction h with
 |nil=>exact .nil
 |cons z t h a=>exact .cons ⟨_,rfl⟩ a
def XZ(K:W.Frag):vE->Hp->VK->Prop:=λxs H Q=>∃ (p:Addr) (ys:aD),xs=[.ref p]/\SqL K H p (ys.map V.str)/\ys.length<64 /\
  ∀ (D:Addr) (a:aD),H D=none->a.Perm ys->sortedS a=true->Q (.ref D) (upd H D<|.lst<|a.map V.str)
def zd2(y:X.calm=true):EN X (.builtin "sorted") (XZ X.K):=by
 intro z s A H xs us Q I r h;revert h;apply u2;intro p ys [rfl,l,n,q];let[a,d,v,hz]:=I.list l;let[u,rfl,rfl]:=G0 r
 have B:a.length=ys.length:=by simpa using d.length.symm
 refine sorted_strs v.isList (qV d) (by omega) λout i w pk x=>?_;let[c,g]:=sortedAll_at s.heap a out
 have j:s.heap.objs.size<=s.heap.objs.size+1:=jr _;refine x2 (.ref _) _ {I.laid  (λb o e=>sortedAll_old e) j ?_,rfl,q _ i (I.hok.fresh j) pk x}
 have D:i.length<64:=by rw[pk.length_eq];exact n
 exact{by rw[ε,fi];omega,x2 out.toList c {qX w,g}}
def qY:V->vE->Hp->VK->Prop:=λx vs H Q=>∃ z y:Str,x=.str z/\vs=[.str y]/\Q (.int<|Txt.find z y) H
def zd3:PN X "str.find" qY:=by
 intro d s e H x vs v us Q I a b h;revert h;apply u2;intro z y [rfl,rfl,q];let[t,rfl]:=a;let[u,rfl,c]:=b.one;let[g,rfl]:=c;exact PySem.SC.find<|x2 (.int _) H {I.tok _,⟨_,rfl⟩,q}
end
section
variable{P:bv}{w:World}{A:df}{E:wB}{s:π}
end
section
variable{X:Cx}
end
section
variable{X:Cx}{AA:wA}{σ:St}{H:Hp}{s:π}
def Inv.thaw(I:Inv X AA σ H s)(e:H d=some (.frz o<|.dK kvs))(l:∀ o u,X.H₀ d≠some (.frz o u)):Inv X AA σ (upd H d<|.dK kvs) s:=by
 have up:∀ {b:Addr},H b=none->upd H d (.dK kvs) b=none:=λg=>by rw[AI ((λg z=>by rw[z,e]at g;cases g) g)];exact g
 refine{I.ok,I.os,I.bare,{I.base.keep,I.base.slot,λb j n q r=>up<|I.base.free b j n q r,I.base.there,λb xs a=>?_,λb j u a=>?_,λb ps a=>?_},I.loc,I.cell,up I.free,λx c v=>up<|I.freeC x c v,λp w=>?_,λb u a=>?_,I.len}
 have:=I.base.tups b xs a;rw[AI λz=>by rw[z,e]at this;cases this];exact this;rw[AI (λz=>l j u (by rw[<-z];exact a))];exact(I.base.frzs b j u a);let[more,this]:=I.base.tbls b ps a;exact{_,by rw[AI λz=>by rw[z,e]at this;cases this];exact this};let[h1,h2,h3]:=I.pin p w;exact{h1,up h2,h3}
 have st:∀ {b:Addr} {u:HO},ObjOk _ _ H _ b u->ObjOk X.prog X.w (upd H d<|.dK kvs) s.heap b u:=λh=>h.stay (λy y y e=>e) (λA i=>by rw[AI (BJ i e (by intro z;cases z))];exact i) λA xs i=>by rw[AI (BJ i e (by intro z;cases z))];exact i
 by_cases g:b=d;subst g;rw[AE]at a;obtain rfl:=μ a;exact st (I.hok b _ e).2;rw[AI g]at a;exact st<|I.hok b u a
def TX(d:Addr)(o:Obj)(kvs:yB):It :=
 {λi H=>H d=some (.frz o<|.dK kvs)/\i<kvs.length,λi H x a=>a=H/\∃ k v,x=kV k/\kvs[i]? =some (k,v),λi H=>H d=some (.frz o<|.dK kvs)/\kvs.length<=i}
theorem qZ:∀ {a:List wb} {vs:List (AN × Value)} {i:Nat} {x:AN × Value},Pairs (EE P w) a vs->vs[i]? =some x->∃ e,a[i]? =some e/\L9 x.1 e.key=true
 |_,_,0,_,.cons h _ _,e=>by obtain rfl:=μ e;exact⟨_,rfl,h⟩
 |_,_,i+1,_,.cons _ _ t,e=>qZ (i:=i) t e
theorem rA:∀ {a:List wb} {vs:List (AN × Value)},Pairs (EE P w) a vs->a.length=vs.length
 |_,_,.nil=>rfl
 |_,_,.cons _ _ t=>by rw[bw,bw,rA t]
def zd4{P:bv}{w:World}{K:W.Frag}{tg:Expr}(d it:Addr){o:Obj}{kvs:yB}{n:Array wb}{U:Nat}(a:o.data=.dict n U):JY P w K tg (TX d o kvs) [it] it (λi h=>h.IsKeyIter it d i n.size U) where
 mem:=by simp
 obj:=λi h st b g=>by
  have e:b=it:=by simpa using g
  subst e;let[o,e,c,d]:=st;exact{o,e,λv z=>by rw[d]at z;cases z}
 keep:=λi h h' st k=>st.at λo e=>k it (by simp) o e
 item:=by
  intro X hP hw hK Y i AA s σ H E I hf st [p,hi];let[h1,z,y,vs,r,o',q,A,g1,g2,g3,g4,B,g6]:=(I.hok d _ p)
  rw[h1]at g1;cases g1;rw[a]at g3;cases g3;let[D,f1,f2,J,L,M]:=hf it (by simp)
  have hl:=r.length.symm
  have N:i<vs.length:=by lia
  let[x,ex,O,hx2]:=JC r<|θ _;let[en,ee,hk]:=qZ B<|θ N;refine zdr st h1 a (by rw[<-ja];exact ee) λh' l sb=>?_;let[o2,e2,c2,d2]:=id l
  have I1:Inv X _ σ H { s with heap:=h' }:=I.turned  (λb o g e=>(sb.2 b g).trans e) D f1 J L M
  have rk:RelV (kV x.1) en.key:=by
   rw[O];let[j,t,Q,T]||[j,t,Q,T]:=IV hk
   rw[Q,T];exact⟨t,rfl⟩;rw[Q,T];exact⟨t,rfl⟩
  exact{_,rfl,NF  e2 c2 d2 (by decide) (x2 _ H {I1,rk,{rfl,x2 _ _ ⟨rfl,ex⟩},l,λb g=>(hf b g).1})}
 done:=by
  intro X hP hw hK Y i AA s σ H E I hf st [p,hi];let[h1,z,y,vs,r,o',q,A,g1,g2,g3,g4,B,g6]:=(I.hok d _ p)
  rw[h1]at g1;cases g1;rw[a]at g3;cases g3;let[D,f1,f2,J,L,M]:=hf it (by simp)
  have hes:n.size=kvs.length:=by rw[<-cw,rA B];exact r.length.symm
  exact zds (I.ok.hd Y) st h1 a (by lia) λh' eb=>{rfl,I.turned  (λb o g e=>eb b o g e) D f1 J L M}
 self:=λu u u u u st h=>wpAny_pyIter_keyiter st h
variable{tg iter E4:Expr}{E5:yC}{scope:Scope}{pos:Pos}{td:TE}{g:TG}{tt:TT}{te:TE}{tn cn:aD}{BB:wD}
end
def FnScope.go(h1:a.kind=.function:=by exact rfl)(h2:a.isCoroutine=false:=by exact rfl)(h3:a.isGenerator=false:=by exact rfl)(h4:N.Nodup:=by decide +kernel)(h5:N.take P.length=P:=by exact rfl)(h6:∀ x∈P,a.names.lookup x=some .local\/a.names.lookup x=some .cell:=by decide +kernel)(h7:∀ y∈a.names,y.2≠.free:=by decide +kernel):FnScope N P a:=⟨h1,h2,h3,h4,h5,h6,h7⟩
def Room.m(r:Room k A)(h:j<=k:=by decide):Room j A:=r.mono h
abbrev FP(P:bv)(w:World)(K:W.Frag)(mg:xA)(base:Heap)(k:Nat)(f:Addr)(fd:gq)(ps:aD)(sp:Sp):Prop:=FnOk P w K mg base (EG P w) k f fd ps sp
def Fun.okF{P:bv}{w:World}{K:W.Frag}{mg:xA}{base:Heap}{x a:Str}{st:Stmt}{f:Addr}{fd:gq}{N ps:aD}{k:Nat}{sp:Sp}(F:Fun K x a st f fd)(c:(St->XK)->TS)(S:FnScope N ps (AU st))(len:∀ {vs H Q E},sp vs H Q E->vs.length=ps.length)
  (ok:∀ {vs H Q E},sp vs H Q E->c (λ_=>E) { nx:=λz d=>Q .non d,rt:=Q } (AX N vs) H)
  (e:∀ (b:Value) (A:df) (outer:uD) (s:π) (H:Hp) (E:XK),Room k (A.deeper<|xu a (AU st) s.heap.objs.size f b)->XOk (JA (EG P w) P w K mg base N a (AU st) f b A outer s H E) (λz=>E) ->
   FC (JA (EG P w) P w K mg base N a (AU st) f b A outer s H E) (HK st) (c λz=>E)):FP P w K mg base (k+1) f fd ps sp :=
 F.okE S (λz z z z=>len) λb A outer s H z z E g h=>{_,e _ A _ s H E g Zd,ok h}
section
variable{X:Cx}{pos:Pos}
def psl(i:Nat)(b:X.N.Nodup)(he:PE X e c)(d:X.N[i]? =some x:=by exact rfl)(g:ND X.env.scope x:=by exact Gi rfl)(hs:v_ e (some<|.Name x a) pos.line X.env=pure false:=by rfl)(hf:X.fn x=true\/X.env.scope.names.lookup x=some .local:=by first|exact .inl rfl|exact .inr rfl|assumption) :
  PS X (.Assign [.Name x a] e pos) (AT c<|AG i):=mO b d g he hs hf
def rC(i:Nat)(a:X.N.Nodup)(b:X.N[i]? =some x:=by exact rfl)(c:ND X.env.scope x:=by exact Gi rfl)(hf:X.fn x=true\/X.env.scope.names.lookup x=some .local:=by first|exact .inl rfl|exact .inr rfl|assumption):PG X (.Name x pos) (AG i):=mM a b c hf
end
section
variable{X:Cx}{pos:Pos}
def pei{j b}(c:PE X a d):PE X (.Subscript a (.Constant (.int i) j b) pos) (AD (B8 X.K) d (tC<|.int i)):=nS pQ c mJ<|λz z=>rfl
def FnScope.cp(_:FnScope N P outer)(h:TJ scope outer N a b=true:=by decide +kernel)(h1:X.env.scope=outer:=by exact rfl)(h2:X.N=N:=by exact rfl):KA X scope c a b:=pW h1 h2 h
end
section
variable{X:Cx}{E:St->XK}{k j:Nat}{x m:Str}{ps:aD}{sp:Sp}{C:Addr}{p pos C7:Pos}{e o e1 e2 e3:Expr}{es:yC}{ta tb tc td:TE}{t:TA}
def rE(h:PE X e ta)(s:az [e] X.env=(false,eval e X.env)::az [] X.env:=by rfl):PA X [e] (D4 ta BQ):=MD h SW s
def rF(h:PE X e ta)(h1:PE X e1 tb)(s:az [e,e1] X.env=(false,eval e X.env)::az [e1] X.env:=by rfl)(a:az [e1] X.env=(false,eval e1 X.env)::az [] X.env:=by rfl):PA X [e,e1] (D4 ta<|D4 tb BQ):=MD h (rE h1 a) s
def rG(h:PE X e ta)(h1:PE X e1 tb)(h2:PE X e2 tc)(s:az [e,e1,e2] X.env=(false,eval e X.env)::az [e1,e2] X.env:=by rfl)(a:az [e1,e2] X.env=(false,eval e1 X.env)::az [e2] X.env:=by rfl)(b:az [e2] X.env=(false,eval e2 X.env)::az [] X.env:=by rfl):PA X [e,e1,e2] (D4 ta<|D4 tb<|D4 tc BQ):=MD h (rF h1 h2 a b) s
def zd7(h:PE X e ta)(h1:PE X e1 tb)(h2:PE X e2 tc)(h3:PE X e3 td)(s:az [e,e1,e2,e3] X.env=(false,eval e X.env)::az [e1,e2,e3] X.env:=by rfl)(a:az [e1,e2,e3] X.env=(false,eval e1 X.env)::az [e2,e3] X.env:=by rfl)(b:az [e2,e3] X.env=(false,eval e2 X.env)::az [e3] X.env:=by rfl)(c:az [e3] X.env=(false,eval e3 X.env)::az [] X.env:=by rfl):PA X [e,e1,e2,e3] (D4 ta<|D4 tb<|D4 tc<|D4 td BQ):=MD h (rG h1 h2 h3 a b c) s
def pcx(c:TC X.prog X.w X.K X.mg X.base k x ps sp)(b:Room j X.A)(d:XOk X E)(g:PA X (e::es) t)(i:k<=j:=by decide)(l:Gl X x:=by exact rfl)(a:(x ==("__debug__":Str))=false:=by decide)
  (he:az (e::es) X.env=(false,eval e X.env)::az es X.env:=by rfl) (n:(jh pos<|az es X.env).any (·.1)=false:=by rfl):PE X (.Call (.Name x p) (e::es) [] pos) (ME sp [] E t):=pK c (b.mono i) d.passes l g a he n
def pmx(he:PE X o ta)(d:Cls X.K C)(c:NN X.prog X.w X.K X.mg X.base C k m ps sp)(g:Room j X.A)(i:XOk X E)(l:PA X (e::es) t)(n:k<=j:=by decide)
  (a:az (e::es) X.env=(false,eval e X.env)::az es X.env:=by rfl) (q:(jh pos<|az es X.env).any (·.1)=false:=by rfl)
  (r:eval (.Call (.Attribute o m C7) (e::es) [] pos) X.env=(do
   let b ← eval o X.env
   ym C7.atName
   let (f,first) ← t_ [b] (uo b m s)
   zq pos f first (jh pos<|az (e::es) X.env) (vc pos<|me [] X.env)):=by rfl):PE X (.Call (.Attribute o m C7) (e::es) [] pos) (IZ C m sp [] E ta t):=XF he d c (g.mono n) i.passes l a q r
def pmz(he:PE X o ta)(b:Cls X.K C)(c:NN X.prog X.w X.K X.mg X.base C k m ps sp)(d:Room j X.A)(g:XOk X E)(i:k<=j:=by decide)
  (l:eval (.Call (.Attribute o m C7) [] [] pos) X.env=(do
   let a ← eval o X.env
   ym C7.atName
   let (f,first) ← t_ [a] (uo a m n)
   zq pos f first (jh pos<|az [] X.env) (vc pos<|me [] X.env)):=by rfl):PE X (.Call (.Attribute o m C7) [] [] pos) (IZ C m sp [] E ta BQ):=Zh he b c (d.mono i) g.passes l
end
def Fun.oK(P:bv)(w:World){K:W.Frag}(mg:xA)(base:Heap){x a:Str}{st:Stmt}{f:Addr}{fd:gq}{N ps:aD}(k:Nat){sp:Sp}(F:Fun K x a st f fd)(b:(St->XK)->TS)(S:FnScope N ps (AU st))
  (ok:∀ {vs H Q E},sp vs H Q E->b (λ_=>E) { nx:=λz d=>Q .non d,rt:=Q } (AX N vs) H)
  (e:∀ (c:Value) (A:df) (outer:uD) (s:π) (H:Hp) (E:XK),Room k (A.deeper<|xu a (AU st) s.heap.objs.size f c)->XOk (JA (EG P w) P w K mg base N a (AU st) f c A outer s H E) (λz=>E) ->
   FC (JA (EG P w) P w K mg base N a (AU st) f c A outer s H E) (HK st) (b λz=>E))
  (len:∀ {vs H Q E},sp vs H Q E->vs.length=ps.length:=by
   intro z z z z h
   repeat (first|(let[rfl,z]:=h;rfl)|(refine Or.elim h ?_ ?_<;>(clear h;intro h))|let[z,h]:=h)):FP P w K mg base (k+1) f fd ps sp:=F.okF b S len ok e
abbrev AZ(N:aD)(k:Nat)(a:Scope):Prop:=FnScope N (N.take k) a
abbrev CL(P:bv)(w:World)(K:W.Frag)(mg:xA)(base:Heap)(k:Nat)(x:Str)(_:FnScope N ps a)(sp:Sp):Prop:=TC P w K mg base k x ps sp
abbrev BX(P:bv)(w:World)(K:W.Frag)(mg:xA)(base:Heap)(C:Addr)(k:Nat)(x:Str)(_:FnScope N ps a)(sp:Sp):Prop:=NN P w K mg base C k x ps sp
abbrev ML(P:bv)(w:World)(K:W.Frag)(mg:xA)(base:Heap)(C:Addr)(k:Nat)(x:Str)(_:FnScope N ps a)(sp:Sp):Prop:=XD P w K mg base C k x ps sp
def rH{α :Type}:Nat->(List α ->Prop)->Prop
 |0,P=>P []
 |n+1,P=>∀ a,rH n λl=>P (a::l)
theorem un{α :Type}:∀ {n:Nat} {P:List α ->Prop},rH n P->∀ us:List α,us.length=n->P us
 |0,_,h,[],_=>h
 |_+1,_,h,a::us,e=>un (h a) us (Fa e)
def X0(x a:Str)(st:Stmt)(ps:aD):Prop:=∀ (kV b pm:Value) (c:Option Addr) (d ct:Value) (us:vC),us.length=ps.length->bindArgs (W.fnOf x a (J9 st) (HK st) (AU st) .none kV b pm c d ct) {us,[]}=pure (ps.zip us)
structure GF(K:W.Frag)(x:Str)(st:Stmt):Prop where
 ex:∃ (f:Addr) (fd:gq),W.nsIn K bq x=some (some<|.ref f)/\Fun K x x st f fd
structure GM(K:W.Frag)(C:Addr)(m q:Str)(st:Stmt):Prop where
 ex:∃ (f:Addr) (fd:gq),W.findIn K (.ref C) m=some (some<|.ref f)/\W.isFn K (.ref f)=true/\Fun K m q st f fd
structure GC(K:W.Frag)(C:Addr)(x:Str):Prop where
 ac:W.nsIn K bq x=some (some<|.ref C)
 c:Cls K C
structure GN(K:W.Frag)(C:Addr)(x q:Str)(st:Stmt):Prop where
 m:GM K C "__init__" q st
 mks:W.makesIn K C=true
 kc:W.keepIn K (.ref C)=true
 ac:W.nsIn K bq x=some (some<|.ref C)
structure GX(K:W.Frag)(C:Addr)(x:Str):Prop where
 ac:W.nsIn K bq x=some (some<|.ref C)
 ex:W.excIn K C [.type "ValueError",.type "Exception",.type "BaseException",.type "object"] "ValueError.__new__"=true
section
variable{K:W.Frag}{x q:Str}{st:Stmt}{C f:Addr}{oc:Value}{od an:Option Addr}{osl:Array (Option Value)}{kV doc pm CO ct:Value}
def gf(a:W.nsIn K bq x=some (some<|.ref f))(l:K.lookup f=some {oc,od,.func<|W.fnOf x x (J9 st) (HK st) (AU st) .none kV doc pm an CO ct,osl})
  (c:W.codeIn K CO x=true) (k:W.keepIn K (.ref f)=true):GF K x st:={_,_,a,o8 l c k}
def gm(a:W.findIn K (.ref C) x=some (some<|.ref f))(l:K.lookup f=some {oc,od,.func<|W.fnOf x q (J9 st) (HK st) (AU st) .none kV doc pm an CO ct,osl})
  (c:W.codeIn K CO q=true) (k:W.keepIn K (.ref f)=true) (i:W.isFn K (.ref f)=true):GM K C x q st:={_,_,a,i,o8 l c k}
def gn(a:W.findIn K (.ref C) "__init__"=some (some<|.ref f))(l:K.lookup f=some {oc,od,.func<|W.fnOf "__init__" q (J9 st) (HK st) (AU st) .none kV doc pm an CO ct,osl})
  (c:W.codeIn K CO q=true) (k:W.keepIn K (.ref f)=true) (i:W.isFn K (.ref f)=true) (m:W.makesIn K C=true) (n:W.keepIn K (.ref C)=true) (s:W.nsIn K bq y=some (some<|.ref C)):GN K C y q st:={gm a l c k i,m,n,s}
def gc(a:W.nsIn K bq x=some (some<|.ref C))(l:W.plainGet K C uq=true)(c:W.hasDictIn K C=true)(k:W.plainOver K C=true)(i:W.findIn K (.ref C) "__setattr__"=some (some<|.builtin "object.__setattr__")):GC K C x:=⟨a,l,c,k,i⟩
end
section
variable{P:bv}{w:World}{K:W.Frag}{h:Heap}{mg:xA}{base:Heap}{x q:Str}{st:Stmt}{C:Addr}{k:Nat}{ps:aD}{sp:Sp}
def gfc(P:bv:=by assumption)(w:World:=by assumption)(base:Heap:=by assumption)(ok:∀ {f fd},Fun K x x st f fd->FP P w K mg base k f fd ps sp)(g:GF K x st:=by assumption)(X:K.In h:=by assumption)(G:h.Ns bq mg:=by assumption)
  (b:X0 x x st ps:=by intro z z z z z z;apply un;(repeat intro z);rfl):TC P w K mg base k x ps sp:=by
 refine u2 ?_ g.ex;intro f fd [a,F];exact{f,fd,ok F,W.mg_of X G a,F.kp,F.binds b}
def gmc(P:bv:=by assumption)(w:World:=by assumption)(base:Heap:=by assumption)(ok:∀ {f fd},Fun K x q st f fd->FP P w K mg base k f fd ps sp)(g:GM K C x q st:=by assumption)
  (b:X0 x q st ps:=by intro z z z z z z;apply un;(repeat intro z);rfl):NN P w K mg base C k x ps sp:=by
 refine u2 ?_ g.ex;intro f fd [a,i,F];exact{f,fd,ok F,⟨a,i,F.kp⟩,F.binds b}
def gnc(P:bv:=by assumption)(w:World:=by assumption)(base:Heap:=by assumption)(ok:∀ {f fd},Fun K "__init__" q st f fd->FP P w K mg base k f fd ps sp)(g:GN K C x q st:=by assumption)(X:K.In h:=by assumption)(G:h.Ns bq mg:=by assumption)
  (b:X0 "__init__" q st ps:=by intro z z z z z z;apply un;(repeat intro z);rfl):XD P w K mg base C k x ps sp:=by
 refine u2 ?_ g.m.ex;intro f fd [a,i,F];exact{f,fd,ok F,⟨g.mks,a,i,g.kc⟩,W.mg_of X G g.ac,F.binds b}
def GF.law(g:GF K x st)(X:K.In h)(G:h.Ns bq mg)(d:mg x=some (.ref j))
  (b:∀ (kV c pm:Value) (e:Option Addr) (i ct:Value) (s:π) (v:Value),xh s (W.fnOf x x (J9 st) (HK st) (AU st) .none kV c pm e i ct) {[v],[]} [("script",v)]) :
  ∃ fd:gq,(∀ (s:π) (v:Value),xh s fd {[v],[]} [("script",v)])/\Fun K x x st j fd:=by
 refine u2 ?_ g.ex;intro f fd [a,F];cases (d.symm.trans<|W.mg_of X G a);refine u9 ?_ F.ex;intro n o kV c pm e i ct l [rfl,p,r];exact{_,b kV _ pm e _ ct,F}
end
def TY(K:W.Frag)(to c d:TE)(e:V->V->Hp->VK->Prop):TS:=λD a H=>to a H λx g=>c a g λy b=>∃ p xs,∃ n:Nat,∃ v,x=.ref p/\y=.int n/\SqL K b p xs/\xs[n]? =some v/\d a b λz i=>e v z i λu j=>P7 (.ref p) (.int n) u j λl=>D.nx a l
def zee{K:W.Frag}{to b c:TE}{d:V->V->Hp->VK->Prop}{D:Ends}{a:St}{H:Hp}:TY K to b c d D a H=(to a H λx g=>b a g λy e=>∃ p xs,∃ n:Nat,∃ v,x=.ref p/\y=.int n/\SqL K e p xs/\xs[n]? =some v/\c a e λz i=>d v z i λu j=>P7 (.ref p) (.int n) u j λl=>D.nx a l):=rfl
section
variable{X:Cx}{o i value:Expr}{td ty tv:TE}{tpos pos:Pos}
def zef(E:PE X o td)(J:PE X i ty)(L:PE X value tv)(c:WV X op M)
  (N:∀ b iv new,augStore i b iv new=(do t_ [new,b,iv] (K_ b iv new);release [new,b,iv] [];pure .next):=by intros;rfl):PS X (.AugAssign (.Subscript o i tpos) op value pos) (TY X.K td ty tv M):=by
 refine λAA s a H D I h=>wpAny_AugAssign_SubscriptAny (AR (E _ s a H _ I h) λu O ⟨x,Q,T,U,q1⟩=>AR (J _ O a Q _ T q1) λiv Y d=>?_) N;let[y,H2,l,A,p,xs,n,v,ex,ey,hq,B,q2]:=d;subst ex ey
 have e:=A;obtain rfl:u=ff p:=U;let[t,rfl]:=A;let[AK,r,pl,hz]:=l.list hq
 have hn:=O7;let[w,ew,g]:=r.get B
 have A0:=(ζ.mp B).1;exact wpAny_getItem_list pl.isList (by lia) (by lia)  (by simpa using ew) (AR (L _ Y a H2 _ l q2) (by intro w2 s4 [y2,H3,I4,j,q3];exact AR (c _ s4 a H3 v y2 w w2 _ I4 g j q3) (by intro w3 s5 [z,H4,I5,rz,q4];exact(AR (pT _ s5 a H4 (.ref p) _ z _ _ _ _ I5 rfl e rz q4) (by intro q s6 [H5,I6,q5];exact⟨a,H5,I6,q5⟩)))))
end
def zeg(l:Addr)(c:Array Value)(n:Nat)(b:Addr)(a:Array Value)(j:Nat)(d:Option Addr)(o:Array (Option Value))(p:¬(!c.isEmpty&&kz (c.size+a.size))=true)(e:c.size<=sizeLine)(g:c.size+a.size<=sizeLine+1) :
  Meets (vt.«list.extend» {[.ref l,.ref b],[]}) (λ_ R s=>s.heap.get? l=some { cls:=.type "list",dict:=none,data:=.seq c n,slots:= #[] }/\s.heap.get? b=some { cls:=.type "tuple",dict:=d,data:=.seq a j,slots:=o }/\R (.ok<|.ret ky) { s with heap:=s.heap.update l<|mo λx=>x++a,toks:=s.toks }) :=
 .of_wp λprog w A R s h=>by
  let[i,q,h]:=h;have r:(c++a).size<=sizeLine+1:=by rw[Dt];exact g
  wp_walk using (zd i rfl (hz:=e) ),ya i,ya q;exact⟨_,rfl,h⟩
def X1(K:W.Frag):V->vE->Hp->VK->Prop:=λx vs H Q=>∃ l b xs a,x=.ref l/\vs=[.ref b]/\H l=some (.lst xs)/\SqT K H b a/\xs.length+a.length<=sizeLine/\Q .non (upd H l<|.lst<|xs++a)
def zeh:SZ X "list.extend" (X1 X.K):=by
 intro L s M H x vs v us Q I p w [l,b,xs,N,rfl,rfl,g,y,hz,q];subst p;let[z,c,n,r,O,e]:=I.lstM g;let[u,rfl,rfl]:=w.one;let[d,i,[o,A,B,D,hd],E]:=I.tuple y
 have T:=i.length;let[U,Y,j,J]:=o;subst B hd
 have hsz:c.toArray.size+d.toArray.size<=sizeLine:=by rw[ax,ax];lia
 have a:¬ (!c.toArray.isEmpty&&kz (c.toArray.size+d.toArray.size))=true:=by
  rw[oN hsz,Jo];exact ay
 refine ik F.slot_list_extend ⟨_,e,rfl⟩ F.entry_list_extend (F.args_list_extend_2 _ _)
  (zeg l c.toArray n b d.toArray D _ _ a (by lia) (by lia)) {e,A,{.non,_,I.lset  g e (by simp) (r.append i) ?_,rfl,q}}
 rw[ae];omega
section
variable{X:Cx}{tg:Expr}
end
section
variable{K:W.Frag}{g:TG}{tt:TT}{te:TE}{k:Nat}{BB:wD}{σ:St}{H:Hp}{Q:VK}
def rJ(p:zC)(u:xs.length<=sizeLine)(Pv:Nat->vE->Hp->Prop)(h0:Pv 0 [] H)(n:∀ i ys H,i<=xs.length->Pv i ys H->SqL K H b xs/\ys.length<=i)
  (o:∀ i x ys H,xs[i]? =some x->Pv i ys H->∀ d:Bool->Hp->Prop,d (p i) H->tt (some x::C1 BB σ) H d)
  (hs:∀ i x ys H,xs[i]? =some x->p i=true->Pv i ys H->te (some x::C1 BB σ) H λy r=>Pv (i+1) (ys++[y]) r)
  (hf:∀ i x ys H,xs[i]? =some x->p i=false->Pv i ys H->Pv (i+1) ys H)
  (hd:∀ ys H,Pv xs.length ys H->∀ q,H q=none->Q (.ref q) (upd H q<|.lst ys)):EH (GH K b) (AG 0) tt te 1 BB σ H Q:=by
 refine{λi m a ys H=>m=xs.length-i/\i<=xs.length/\(∃ j,a=j::C1 _ σ)/\Pv i ys H,{xs.length,rfl,bg _,⟨_,rfl⟩,h0},?_};intro i m a ys H [rfl,s,[j,rfl],P];let[q,v]:=n i ys H s P;by_cases c:i<xs.length;refine .inr {{xs,xs[i],q,by simp[c]},by lia,λx w y=>?_};let[rfl,y]:=y
 have ex:=y xs q;refine o i x ys _ ex P _ ?_;cases l:p i with
 |true =>
  exact{_,λy z q=>{_,by omega,rfl,c,⟨_,rfl⟩,q},hs i x ys _ ex l P}
 |false =>
  exact{_,by omega,rfl,c,⟨_,rfl⟩,hf i x ys _ ex l P}
 have e:i=xs.length:=by lia
 subst e;exact .inl {{xs,q,ο _},hd ys H P}
def X3(p:zC)(I:xs.length<=sizeLine)(Pv:Nat->vE->Hp->Prop)(h0:Pv 0 [] H)(w:∀ i ys H,i<=xs.length->Pv i ys H->SqL K H b xs/\ys.length<=i)
  (z:∀ i ys H t o,Pv i ys H->H t=none->Pv i ys (upd H t o))
  (A:∀ i x ys H,xs[i]? =some x->Pv i ys H->∀ n:Bool->Hp->Prop,n (p i) H->tt (some (.int (i:Int))::some x::C1 BB σ) H n)
  (hs:∀ i x ys H,xs[i]? =some x->p i=true->Pv i ys H->te (some (.int (i:Int))::some x::C1 BB σ) H λy B=>Pv (i+1) (ys++[y]) B)
  (hf:∀ i x ys H,xs[i]? =some x->p i=false->Pv i ys H->Pv (i+1) ys H)
  (hd:∀ ys H,Pv xs.length ys H->∀ q,H q=none->Q (.ref q) (upd H q<|.lst ys)):EH (LD K b) (FM K 2<|DP (AG 0) (DP (AG 1) FL)) tt te 2 BB σ H Q:=by
 refine{λi m a ys H=>m=xs.length-i/\i<=xs.length/\(∃ r s,a=r::s::C1 _ σ)/\Pv i ys H,{xs.length,rfl,bg _,⟨_,_,rfl⟩,h0},?_};intro i m a ys H [rfl,D,[r,s,rfl],P];let[q,J]:=w i ys H D P;by_cases c:i<xs.length;refine .inr {{xs,xs[i],q,by simp[c]},by lia,λv L d=>?_};let[t,j,e,x,E,q1]:=d
 have ex:=q1 xs q;subst e E
 have l:=z i ys H t (.tup [.int i,x]) P j;refine{t,_,rfl,SqT.of AE,rfl,({_,_,rfl,{_,_,rfl,{rfl,(A i x ys _ ex l _ ?_)}}})};cases u:p i with
 |true =>
  exact{_,λy M q=>{_,by omega,rfl,c,⟨_,_,rfl⟩,q},hs i x ys _ ex u l}
 |false =>
  exact{_,by omega,rfl,c,⟨_,_,rfl⟩,hf i x ys _ ex u l}
 have e:i=xs.length:=by lia
 subst e;exact .inl {{xs,q,ο _},hd ys H P}
end
section
variable{prog:bv}{w:World}{K:Type}[DecidableEq K]{C0:HeapKind prog w K}{A:df}{E:wB}{s:π}
def zei(H:C0.room A)(c:C0.is s.heap k a)(I:s.heap.DictOfH C0 d xs)
  (r:∀ h',h'.DictOfH C0 d (xi xs k a v)->gj d s.heap h'->Q () { s with heap:=h' }) (hsz:xs.length<=sizeLine) :
  wpAny (model prog w) A (dictSetHashed d (.ref a) (C0.hash k) v) Q E s:=by
 revert I;apply u3;intro o L J [g,u,hd,he,i,l]
 have keep:∀ {f:Obj->Obj} {x:K × Addr × Value},x∈xs->C0.is (s.heap.update d f) _ _:=λb=>C0.keeps (i _ b) g hd (dw ..);unfold dictSetHashed
 try with_reducible refine gx ?_
 refine δ<|wpAny_dictFind_heap H c g hd he i l (λn=>?_) λj p B=>?_;refine δ (tf (wpAny_updateDictKeys (hz:=by have e:=size_of_entries he;lia) g hd (r _ ?_<|dw ..)));rw[(storedH_new (atKey_none_of_get n) a v)];refine x3 _ _ _ {du _ g<|vm<|pd hd _,u.mapDictKeys _,pd hd _,by simp[he,wc],λx b=>?_,?_};let b||b:=bd.mp b
 exact keep b;cases aa.mp b;exact C0.keeps c g hd<|dw ..;rw[aw,nw];refine{l,by simp,λx b y q e=>not_mem_keys_of_get n ?_};rw[show k=y from(aa.mp q).symm,<-e];exact b;refine δ<|tf<|δ<|wpAny_updateDict g hd<|wpAny_point<|r _ ?_<|dw ..;rw[(storedH_old (atKey_of_get l B) a v)];refine x3 _ _ J {du _ g<|vm<|Gr hd _,u.mapDict _,Gr hd _,?_,λx b=>?_,by rw[keys_map_putAt];exact l}
 have:=modify_map_putAt (wc C0) (λe:wb=>{ e with val:=v }) k v (λz z=>rfl) l B;rw[<-he]at this;simpa using this;let[y,q,rfl]:=av.mp b
 have D:=λf=>keep (f:=f) q;unfold putAt;split;exact D _;exact D _
def JE(xs ys:List (K × Addr × Value)):List (K × Addr × Value):=ys.foldl (λa y=>xi a y.1 y.2.1 y.2.2) xs
def zej(xs:List (K × Addr × Value))(k:K)(a:Addr)(v:Value):(xi xs k a v).length<=xs.length+1:=by
 unfold xi;split;rw[ε];lia;rw[ae];exact ο _
theorem rK:∀ (ys xs:List (K × Addr × Value)),(JE xs ys).length<=xs.length+ys.length
 | [],xs=>ο _
 |y::ys,xs=>by
  have h1:=rK ys<|xi xs y.1 y.2.1 y.2.2
  have h2:=zej xs y.1 y.2.1 y.2.2
  show(JE _ ys).length<=_;rw[bw];lia
def zek{xs ys:List (K × Addr × Value)}{y:K × Addr × Value}(h:ys[i]? =some y):JE xs (ys.take<|i+1)=xi (JE xs<|ys.take i) y.1 y.2.1 y.2.2:=by
 have:ys.take (i+1)=ys.take i++[y]:=by rw[cv,h];rfl
 unfold JE;rw[this,ko]
 rfl
def zel(b:s.heap.get? a=some o)(c:o.cls=.type "tuple")(h:Q false s):wpAny (model prog w) A (Builtin.Dict.quietEq<|.ref a) Q E s:=δ<|vj ⟨o,b,c⟩ F.slot_tuple_eq.lookup (ν h)
def X4(C0:HeapKind prog w K)(ys:List (K × Addr × Value)):Prop:=(ys.map λy=>C0.hash y.1).Nodup
def zem{id:String}{d:Addr}{o:Obj}{c n}{ys:List (K × Addr × Value)}{Q:Array wb->π->Prop}(p:s.heap.get? d=some o)(hd:o.data=.dict c n)(he:c.toList=ys.map (wc C0))(q:∀ y∈ys,∃ ob,s.heap.get? y.2.1=some ob/\ob.cls=.type "tuple")(ap:X4 C0 ys)(h:Q c s) :
  wpAny (model prog w) A (Builtin.Dict.entriesForEmpty id d) Q E s:=by
 refine δ<|iq p hd ?_
 have one:∀ e∈c.toList,(c.filter (·.hash==e.hash)).size<=1:=λe g=>by
  rw[<-cw,Array.toList_filter,he,ze,ε];rw[he]at g;let[y,l,rfl]:=av.mp g
  have:(ys.filter<|(λx:wb=>x.hash ==(wc C0 y).hash) ∘ wc C0).length=(ys.map λy=>C0.hash y.1).count (C0.hash y.1):=by
   rw[List.count_eq_countP,List.countP_map,List.countP_eq_length_filter]
   rfl
  rw[this];exact Aa.mp ap _
 refine δ ?_;rw[<-Array.forIn_toList];refine Gs _ (λrest z j=>j=s/\∀ e∈rest,e∈c.toList) _ ?_ ?_ _ _ {rfl,λe h=>h};intro e rest b j [rfl,a]
 have g:=a e υ
 have i:=g;rw[he]at i;let[y,l,r]:=av.mp i
 have u:e.key=.ref y.2.1:=by rw[<-r];rfl
 let[ob,h1,h2]:=q y l;rw[u];refine δ<|zel h1 h2 ?_;simp only[Bool.not_false,if_true];rw[if_neg (by have:=one e g;omega)];exact ν {rfl,λv h'=>a v<|ρ _ h'};intro b j [rfl,z];exact ν h
def zen{xs ys:List (K × Addr × Value)}{Q:Unit->π->Prop}(hu:C0.room A)(u:d≠o)(M:(o == gb)=false)
  (hd:s.heap.DictOfH C0 d xs) (ho:s.heap.DictOfH C0 o ys) (ht:∀ y∈ys,∃ ob,s.heap.get? y.2.1=some ob/\ob.cls=.type "tuple") (ap:xs=[]->X4 C0 ys)
  (N:∀ h',(h'.DictOfH C0 d (JE xs ys)\/(xs=[]/\h'.DictOfH C0 d ys))->gj d s.heap h'->Q () { s with heap:=h' })
  (hsz:xs.length+ys.length<=sizeLine) :
  wpAny (model prog w) A (yx nm d o) Q E s:=by
 refine u3 ?_<|id hd;intro od esd epd [e,GY,c,B,hisd,hnd];refine u3 ?_<|id ho;intro oo g epo [j,hco,a,n,q,O]
 have D:=size_of_entries n;unfold yx;rw[if_neg (by simpa using u)];unfold uk;rw[if_neg (by rw[M];exact ay)];refine δ<|ν<|δ<|iq j a ?_;dsimp only;split
 any_goals (refine δ<|iq e c ?_;split)
 rename_i H
 have I:xs=[]:=by
  rw[(Fe.mp H)]at B;exact A_.mp B.symm
 refine δ<|zem  j a n ht (ap I) ?_;split;refine δ (wpAny_updateDictKeysTo e c (ν (N _ (.inr ⟨I,_,_,_,du _ e<|vm<|pd c _,GY.mapDictKeys _,
  pd c _,n,λx hx=>C0.keeps (q x hx) e c (dw ..),O⟩) (dw ..))) (by lia))
 rename_i T
 have h0:=Fe.mp (by simpa using T)
 have U:=fg.mp (by rw[<-D,h0];rfl);subst U;exact ν<|N _ (.inl hd) (xn _ _)
 all_goals
  refine δ<|sr j a<|δ<|iq j a<|δ ?_;rw[Std.Legacy.Range.forIn_eq_forIn_range'];refine Gs _
   (λrest _ Y=>∃ h' i,Y={ s with heap:=h' }/\rest=H_ i (g.size-i)/\i<=g.size/\h'.DictOfH C0 d (JE xs<|ys.take i)/\gj d s.heap h')
   _ ?_ ?_ _ _ (x2 s.heap 0 {rfl,by simp,bg _,hd,xn _ _})
  intro x rest b Y [h',i,rfl,v,hi,p,l]
  have A0:i<g.size:=by
   let h||h:=fe i g.size
   ·exact h
   ·rw[zi h]at v;simp at v
  obtain⟨rfl,z⟩:x=i/\rest=H_ (i+1) (g.size-(i+1)):=by
   rw[show g.size-i=(g.size-(i+1))+1 by omega,Gu]at v;injection v with h1 h2
   exact⟨h1,h2⟩
  have r:h'.get? o=some oo:=(l.2 o<|fk u).trans j;obtain⟨y,hy⟩:∃ y,ys[x]? =some y:={ys[x]'(by lia),θ _}
  have hk:C0.is h' y.1 y.2.1:=C0.keeps (q y<|ι hy) e c l;refine δ<|iq r a ?_;rw[entry_at n x,hy]
  have hmx:(JE xs<|ys.take x).length<=sizeLine:=by
   have e1:=rK (ys.take x) xs
   have e2:(ys.take x).length<=ys.length:=by rw[di];lia
   lia
  refine δ<|gx<|zei (s:={ s with heap:=h' }) hu hk p (λh2 hd2 J=>?_) hmx
  have L:h2.get? o=some oo:=(J.2 o<|fk u).trans r;refine δ<|sr L a ?_;rw[if_neg (by simp)];exact ν (x2 h2 (x+1) {rfl,z,A0,by rw[zek hy];exact hd2,l.trans J})
  ·intro b Y [h',i,rfl,v,hi,p,l]
   have hin:i=g.size:=by
    let h||h:=fe i g.size
    ·rw[show g.size-i=(g.size-(i+1))+1 by omega,Gu]at v;exact nomatch v
    ·exact ke hi h
   refine ν<|N h' (.inl ?_) l;rw[hin,D,b_]at p;exact p
def zeo(C0:HeapKind prog w K)(d o:Addr)(b:d≠o)(c:(o == gb)=false) :
  MeetsIn prog w (vt.«dict.update» {[.ref d,.ref o],[]}) (λA R s=>C0.room A.in1/\∃ xs ys,s.heap.DictOfH C0 d xs/\s.heap.DictOfH C0 o ys/\(∀ y∈ys,∃ ob,s.heap.get? y.2.1=some ob/\ob.cls=.type "tuple")/\(xs=[]->X4 C0 ys)/\xs.length+ys.length<=sizeLine ∧
   ∀ h',(h'.DictOfH C0 d (JE xs ys)\/(xs=[]/\h'.DictOfH C0 d ys))->gj d s.heap h'->R (.ok<|.ret .none) { s with heap:=h' }) :=
 .of_wp (by
  intro A R s [i,xs,ys,hd,a,j,ap,hsz,h];refine δ<|δ<|zk hd.typeIs<|ν ?_;exact δ<|yo a.typeIs<|δ<|δ<|δ<|l8 a.typeIs isSubtype_dict_dict<|δ<|vj a.typeIs F.slot_dict_iter.lookup<|ν<|δ<|ν<|zen i b c hd a j ap (λh' e g=>(δ<|ν<|ν {_,rfl,h h' e g})) hsz)
end
def EU(kvs more:uA):uA:=more.foldl (λb a=>CD b a.1 a.2) kvs
def KT.merge:∀ {more:uA} {ys:bA} {kvs:uA} {xs:bA},KT H more ys->KT H kvs xs->KT H (EU kvs more) (JE xs ys):=by
 intro more ys kvs xs r
 induction r generalizing kvs xs with
 |nil=>intro q;exact q
 |@cons p q ps c h t a =>
  intro b
  have e:KT H (CD kvs p.1 p.2) (xi xs q.1 q.2.1 q.2.2):=by
   rw[<-h.1];exact(b.put _ h.2.1 h.2.2)
  exact a e
theorem X5:∀ (more kvs:uA),(EU kvs more).length<=kvs.length+more.length
 | [],kvs=>ο _
 |p::r,kvs=>by
  have h2:=HJ kvs p.1 p.2
  have h1:=X5 r<|CD kvs p.1 p.2
  show(EU _ r).length<=_;rw[bw];lia
theorem X6:∀ (more a:uA),((a++more).map (·.1)).Nodup->EU a more=a++more
 | [],a,_=>by simp[EU]
 |p::r,a,h=>by
  have e:CD a p.1 p.2=a++[p]:=by
   unfold CD;rw[if_neg];rw[dn];intro[x,b,he];rw[aw,nw]at h;exact h.2.2 _ (av.mpr ⟨x,b,rfl⟩) _ (by simp) (of_decide_eq_true he)
  show EU (CD _ _ _) r=_;rw[e,X6 r _ (by rw[dt];exact h),dt]
  rfl
def KT.keys(r:KT H kvs xs):kvs.map (·.1)=xs.map (·.1):=by
 induction r with
 |nil=>rfl
 |cons h t a=>rw[cg,cg,a,h.1]
def TZ(more:uA):Prop:=∀ (P:bv) (w:World),((more.map (·.1)).map (pe<|EE P w).hash).Nodup
def X8:V->vE->Hp->VK->Prop:=λx vs H Q=>∃ d o kvs more,x=.ref d/\vs=[.ref o]/\d≠o/\H d=some (.dT kvs)/\H o=some (.dT more)/\(kvs=[]->TZ more)/\kvs.length+more.length<=sizeLine/\Q .non (upd H d<|.dT<|EU kvs more)
def zep(N:X.A.units+1<cLine):SZ X "dict.update" X8:=by
 intro O s T H x vs v us Q I U Y h;revert h;apply u4;intro d o kvs more [rfl,rfl,n,p,hO,ap,hz,q];subst U;let[z1,w,xs,g,l]:=S5 I.hok p;let[u,rfl,rfl]:=Y.one;let[z2,B,ys,a,j]:=S5 I.hok hO
 have J:=Paired.length g
 have l2:=Paired.length a
 have nd:(more.map (·.1)).Nodup:=by
  revert j;apply u3;intro _ _ _ [_,_,_,_,_,hn];rw[a.keys];exact hn
 refine vq PySem.F.slot_dict_update l.typeIs PySem.F.entry_dict_update (PySem.F.args_dict_update_2 _ _) (zeo (pe<|EE X.prog X.w) d o n B) {jd N,x2 xs ys {l,j,λy hy=>?_,λe=>?_,by lia,λh' dd hs=>?_}}
 ·revert j;apply u3;intro _ _ _ [_,_,_,_,D,_];refine u3 ?_<|D y hy;intro ob _ _ [h1,h2,_];exact⟨ob,h1,h2⟩
 ·have:=ap (fg.mp (by rw[J,e];rfl)) X.prog X.w;rw[a.keys,jf]at this;exact this
 ·have tk:∀ {i:uA} {b:bA},KT H i b->KT (upd H d<|.dT<|EU kvs more) i b:=λr=>r.keeps λc ys L=>by
   rw[AI (BJ L p (λz=>nomatch z))];exact L
  have fin:∀ {b},KT H (EU kvs more) b->h'.DictOfH (pe<|EE X.prog X.w) d b->EP X O T Q .none { s with heap:=h' }:=λ{b} r E=>by
   revert E;apply u3;intro ob es ep [M,h2,h3,h4,_,h5];exact x2 (.non) _ {S6 (ob:=.dT<|EU kvs more) I (by rw[p];exact sx) hs ⟨ob,M⟩ {(by have:=X5 more kvs;lia),w,_,tk r,x3 ob es ep ⟨M,h2,h3,h4,h5⟩},rfl,q}
  let dd||[e,dd]:=dd
  ·exact fin (a.merge g) dd
  ·have e0:kvs=[]:=fg.mp (by rw[J,e];rfl);refine fin ?_ dd;rw[e0,X6 more [] nd];exact a
def T2(H:Hp)(ps:List (V × V))(kvs:uA):Prop:=Paired (λ(q:V × V) (a:List AN × V)=>(∃ b,q.1=.ref b/\H b=some (.tup<|a.1.map kV))/\q.2=a.2) ps kvs
def zeq:upd (upd H p o) p a=upd H p a:=by
 funext x;by_cases e:x=p;rw[e,AE,AE];rw[AI e,AI e,AI e]
def zer(h:H p=some o):upd H p o=H:=by
 funext x;by_cases e:x=p;rw[e,AE,h];rw[AI e]
def zes(hu:X.A.units+1<cLine):∀ (ws:List (Value × Value)) (ps:List (V × V)) (kvs a:uA) (s:π) (H:Hp) (Q:PUnit->π->Prop),Inv X L n H s->H d=some (.dT a)->VV ps ws->T2 H ps kvs->a.length+kvs.length<=sizeLine ->
  (∀ j,Inv X L n (upd H d<|.dT<|EU a kvs) j->Q PUnit.unit j)->wpAny (model X.prog X.w) X.A (storeAll d ws) Q E s:=by
 intro ws
 induction ws with
 |nil =>
  intro ps kvs a s H Q I e rel g hz h;cases rel;cases g;refine ν<|h s ?_
  show Inv X _ n (upd H d<|.dT a) s;rw[zer e];exact I
 | cons x ws M =>
  intro ps kvs a s H Q I e rel g hz h;cases rel with
  | @cons p _ ps _ w rel =>
   cases g with
   |@cons _ o _ kvs N g =>
    let[[b,O,y],T]:=N;let[u,v]:=x
    have B:=w.2
    have D:=w.1;rw[O]at D;rw[T]at B;cases (D);rw[bw]at hz;let[z,hd,xs,rl,dd]:=S5 I.hok e
    have hl:=HJ a o.1 o.2;unfold storeAll;rw[iw];refine δ (δ (wpAny_dictSet_heap (hsz:=(by rw[<-Paired.length rl];exact z))  (show X.A.units<cLine by lia) (K5 I.hok y) dd λh' r hs=>ν ?_))
    have tk:∀ {U:HO} {c:Addr} {ys:vE},H c=some (.tup ys)->upd H d U c=some _:=λl=>by
     rw[AI (BJ l e (λz=>nomatch z))];exact l
    revert r;apply u3;intro q Y ep [J,h2,h3,h4,_,h5]
    have I':Inv X _ n _ { s with heap:=h',toks:=s.toks+(pe<|EE X.prog X.w).draws o.1 } :=
     S6 (ob:=.dT _) I (by rw[e];exact sx) hs ⟨q,J⟩ {by omega,hd,_,(rl.put _ y B).keeps λc ys l=>tk l,x3 q Y ep ⟨J,h2,h3,h4,h5⟩}
    refine M ps _ _ _ _ Q I' AE rel (Paired.mapP g (by intro q kv' [[b',e1,e2],e3];exact{{b',e1,tk e2},e3})) (by omega) λj i=>h j ?_;rw[zeq]at i;exact i
def MM(a:List (TE × TE)):TE:=λc H Q=>∀ p,H p=none->MH a c (upd H p<|.dT []) λps b=>b p=some (.dT [])/\∃ kvs:uA,T2 b ps kvs/\kvs.length<=15/\Q (.ref p) (upd b p<|.dT<|EU [] kvs)
def zet(c:X.A.units+1<cLine)(h:S7 X pos keys values b)(a:keys.all (·.isSome)=true)(d:keys.length=values.length)(h0:keys≠[])
  (h15:keys.length<=15):PE X (.Dict keys values pos) (MM b):=by
 refine λp s g H Q I q=>wpAny_Dict_any a d h0 h15<|AR (h _ _ g _ _ (I.laid     (λz z q=>ξ _ q) (ο _) (o5 _ I.big)) (q _<|I.hok.fresh<|ο _)) λws j ⟨ps,l,n,rel,e,kvs,o,r,q2⟩=>(zes c ws ps _ [] j l _ n e rel o ?_ λu i=>x2 (.ref _) _ ⟨i,rfl,q2⟩);rw[fi,nc];lia
def zeu:MM a c H Q=∀ p,H p=none->MH a c (upd H p<|.dT []) λps b=>b p=some (.dT [])/\∃ kvs:uA,T2 b ps kvs/\kvs.length<=15/\Q (.ref p) (upd b p<|.dT<|EU [] kvs):=rfl
def zev:W9 e ty tx b H Q=(e b H λx c=>∃ a,x=.ref a/\NM c a/\ty b c λy g=>tx b g λz d=>∃ o,DGet d a y o/\Q (o.getD z) d):=rfl
def zew:MH [] b H a=a [] H:=rfl
def zex:MH ((tk,b)::r) a H c=(tk a H λx d=>b a d λy e=>MH r a e λps g=>c ((x,y)::ps) g):=rfl
def zey(Pv:yA)(h0:Pv 0 a H)(j:∀ i a H,i<=kvs.length->Pv i a H->H d=some (.frz ob<|.dK kvs))
  (hs:∀ i k v a H,kvs[i]? =some (k,v)->Pv i a H->g (kV k) a H λb n=>o { D with nx:=Pv<|i+1,ct:=Pv<|i+1,bk:=D.nx } b n) (hd:∀ a H,Pv kvs.length a H->D.nx a H):GO (TX d ob kvs) g o D a H:=by
 refine{λi m a H=>m=kvs.length-i/\i<=kvs.length/\Pv i a H,{_,rfl,bg _,h0},?_};intro i m a H [rfl,c,p];by_cases q:i<kvs.length;refine .inr {{j i a H c p,q},_,λr l s=>{_,by omega,rfl,by omega,s},?_};intro x l [rfl,k,v,rfl,u];exact hs i k v a l u p
 have e:i=kvs.length:=by lia
 subst e;exact .inl {{j _ a H c p,c},hd a H p}
def Ends.thaw(D:Ends)(d:Addr)(o:Obj)(kvs:yB):Ends:={ D with nx:=λa H=>H d=some (.frz o<|.dK kvs)/\D.nx a (upd H d<|.dK kvs),rt:=λv H=>H d=some (.frz o<|.dK kvs)/\D.rt v (upd H d<|.dK kvs) }
def X9(c:TE)(g:TG)(e:TS):TS:=λD a H=>c a H λx b=>∃ d kvs,x=.ref d/\b d=some (.dK kvs)/\∀ o,GO (TX d o kvs) g e (D.thaw d o kvs) a (upd b d<|.frz o<|.dK kvs)
def zez:X9 c g e D a H=(c a H λx b=>∃ d kvs,x=.ref d/\b d=some (.dK kvs)/\∀ o,GO (TX d o kvs) g e (D.thaw d o kvs) a (upd b d<|.frz o<|.dK kvs)):=rfl
section
variable{X:Cx}{tg:Expr}
def ze0(U:F_ (model X.prog X.w) X.A X.env X.xe)(hc:X.calm=true)(hi:PE X iter te)(hg:PG X tg g)(j:FC X body tb)
  (hs:∀ x,ki iter X.env x=pure x:=by intro t;rfl):PS X (.For tg iter body [] pos) (X9 te g tb):=by
 intro Y s Q H D I h
 have key:wpAny (model X.prog X.w) X.A (eval iter X.env) (λv E=>wpAny (model X.prog X.w) X.A (zn v) (WP X Y Q tg λJ H2=>∃ d o kvs,(∀ o u,X.H₀ d≠some (.frz o u))/\GO J g tb (D.thaw d o kvs) Q H2) X.xe E) X.xe s:=by
  refine AR (hi _ s Q H _ I h) λv E c=>?_;let[x,H1,I1,r1,d,kvs,rfl,hd,q]:=c
  have nb:∀ o u,X.H₀ d≠some _:=λo u e=>by
   have:=I1.base.frzs d o u e;rw[hd]at this;cases this
  subst r1;let[z,y,vs,r,o,es,ep,g1,g2,g3,g4,g5,g6]:=(I1.hok d _ hd)
  refine zdq y g1 g2 g3 ?_
  have I2:Inv X _ Q (upd H1 d<|.frz o _) { E with heap:=E.heap,toks:=E.toks }:=I1.write (by rw[hd];trivial) (.inl rfl) (λt t t e=>e) ⟨o,g1⟩ {g1,(I1.hok d _ hd).stay (λt t t e=>e) (λb e=>by rw[AI (BJ e hd (by intro z;cases z))];exact e) λb xs e=>by rw[AI (BJ e hd (by intro z;cases z))];exact e}
  have I3:Inv X _ Q _ { E with heap:=E.heap.push { cls:=.type "dict_keyiterator",data:=.fields #[.ref d,.int 0 0,.int es.size 0,.int ep 0] } }:=I2.kept  λb o e=>ξ _ e;exact⟨_,_,_,_,_,rfl,I3,zd4 d _ g3,{_,ai _ rfl,rfl,rfl},λb j=>by
   have e:b=E.heap.objs.size:=by simpa using j
   subst e;exact I2.fpOk (ο _) (I2.hok.fresh<|ο _),d,o,_,nb,q o⟩
 refine wpAny_For (AR key λv E h1=>AR h1 λitv s2 h2=>?_) hs;let[it,fp,tn,J,H2,rfl,I2,T,st2,f2,d,o,kvs,nb,W,[m0,w0],turn]:=h2
 have l:∀ {B:Hp},(∀ b∈fp,B b=none)->∀ b∈fp,FpOk X _ B b:=λhn b j=>{hn b j,(f2 b j).2}
 refine As (λn s'=>∃ i p B,Inv X _ p B s'/\tn i s'.heap/\(∀ b∈fp,B b=none)/\W i n p B) ?_ m0 {0,Q,H2,I2,st2,λb j=>(f2 b j).1,w0};intro n s3 [i,w,H3,I3,st3,fr3,w3];let[stop,qe,qn]||[go,N,hN,step]:=turn i n w H3 w3
 refine fm U<|AR (T.done X rfl rfl rfl hc i Y s3 w H3 X.xe I3 (l fr3) st3 stop) λr s4 c=>?_;let[rfl,I4]:=c;exact my {w,_,I4.thaw qe nb,qn};refine fm U<|AR (T.item X rfl rfl rfl hc i Y s3 w H3 X.xe I3 (l fr3) st3 go) λr s4 c=>?_;let[u,rfl,h4]:=c;refine fm U<|AR h4 λt s5 c=>?_;let[x,H5,I5,r5,y5,O,fr5]:=c;refine fm U<|AR (hg _ s5 w H5 x u _ (I5.pinned (l fr5) (T.obj _ _ O)) r5 (step x H5 y5)) λt s6 c=>?_;let[σ6,H6,I6,q6]:=c;refine fm U<|AR (j _ s6 σ6 H6 _ I6 q6) λf s7 M=>?_
 have again:∀ {a:St} {L:Hp},Inv X (Y++O5 fp s5.heap) a L s7->N a L->∃ m,m<n/\∃ i p B,Inv X Y p B s7/\tn i s7.heap/\(∀ b∈fp,B b=none)/\W i m p B:=λ{a L} A n7=>by
  let[m',hm,w7]:=hN a L n7;refine{m',hm,i+1,a,L,A.unpinned,T.keep _ _ _ O λb j o e=>(A.pin (b,o) (bt _<|bt _<|NG j e)).1,λb j=>?_,w7};let[o,e,d]:=T.obj _ _ O b j;exact(A.pin (b,o) (bt _<|bt _<|NG j e)).2.1
 cases f with
 |next=>let[a,L,A,n7]:=M;exact again A n7
 |cont=>let[a,L,A,n7]:=M;exact again A n7
 |brk=>let[a,L,A,M,q8]:=M;exact{a,_,A.unpinned.thaw M nb,q8}
 |ret v=>let[x7,a,L,A,r7,M,q8]:=M;exact{x7,a,_,A.unpinned.thaw M nb,r7,q8}
end
section
variable{X:Cx}
end
def Fly.kept{bad:Addr->Prop}{H:Hp}{h h':Heap}{e:Addr}{cls:Value}(F:Fly bad H h e cls)(k:∀ b o,h.get? b=some o->h'.get? b=some o):Fly bad H h' e cls:=by
 let[i,fr,j,vs,h1,h2,h3,h4,h5]:=F;refine{i,fr,x2 j vs {k _ _ h1,h2,h3,h4,?_}};let z||[T,l,n,a,b,c,d,f,g]:=h5
 ·exact .inl z
 ·exact .inr<|x3 T l n {a,b,c,d,k _ _ f,g}
def rM{X:Cx}{x y:Str}{j l pos:Pos}{n:Nat}{C D:Value}(p:Gl X x)(r:X.mg x=some C)(c:Gl X y)(d:X.mg y=some D)(hd:(x ==("__debug__":Str))=false:=by decide)(g:(y ==("__debug__":Str))=false:=by decide):PX X (.Tuple [.Name x j,.Name y l] n pos) (λcls=>W.exmAny X.K cls [C,D]):=by
 intro u s w H e cls b Q E I F A h
 have i:Inv (X.hand e) u w H s:=I.hand;refine wpAny_Tuple (G_ (NE  i p r (G_ (NE  i c d (wpAny_items_nil {by rw[fi];show 2<=_;omega,?_}) g)) hd))
 have a:∀ q o,s.heap.get? q=some o->(s.heap.push { cls:=.type "tuple",data:=.seq [C,D].toArray }).get? q=some o:=λv v z=>ξ _ z;exact(W.exm_tup2 (I.kIn.keeps a) (Zl<|F.kept a) (ai s.heap rfl) A).here (h _ (I.kept  a) (F.kept a))
def CU(x:V)(P:Addr->Prop):Prop:=match x with
 |.ref a=>P a
 |_=>False
def G3(x:V)(P:Int->Prop):Prop:=match x with
 |.int a=>P a
 |_=>False
def IH(x:V)(P:Bool->Prop):Prop:=match x with
 |.bl a=>P a
 |_=>False
def FQ(xs:vE)(P:V->Prop):Prop:=match xs with
 | [x]=>P x
 |_=>False
def QK(xs:vE)(P:V->vE->Prop):Prop:=match xs with
 |x::r=>P x r
 |_=>False
def QL(xs:vE)(P:Prop):Prop:=match xs with
 | []=>P
 |_=>False
def GP:CU x P=∃ a,x=.ref a/\P a:=by cases x<;>simp[CU]
def QM:G3 x P=∃ a,x=.int a/\P a:=by cases x<;>simp[G3]
def T5:IH x P=∃ a,x=.bl a/\P a:=by cases x<;>simp[IH]
def NQ:FQ xs P=∃ x,xs=[x]/\P x:=by rcases xs with _|⟨x,_|⟨y,r⟩⟩<;>simp[FQ]
def ze1:QK xs P=∃ x r,xs=x::r/\P x r:=by
 let _||[x,r]:=xs<;>simp[QK]
 exact{λh=>{x,r,⟨rfl,rfl⟩,h},(by intro[z,z,[e,a],h];exact e ▸ a ▸ h)}
def ze2:QL xs P=(xs=[]/\P):=by let _||[x,r]:=xs<;>simp[QL]
section
variable{P:Addr->Prop}{PI':Int->Prop}{PB:Bool->Prop}{P1:V->Prop}{P2:V->V->Prop}{PC':V->vE->Prop}{Z:Prop}{p:Addr}{i:Int}{b:Bool}{x y:V}{r:vE}
def ze3:CU (.ref p) P=P p:=rfl
def ze4:G3 (.int i) PI'=PI' i:=rfl
def ze5:IH (.bl b) PB=PB b:=rfl
def ze6:FQ [x] P1=P1 x:=rfl
def ze7:QK (x::r) PC'=PC' x r:=rfl
def ze8:QL [] Z=Z:=rfl
def ze9:@ite Prop (true=true) (instDecidableEqBool true true) A B=A:=rfl
def zfa:@ite Prop (false=true) (instDecidableEqBool false true) A B=B:=rfl
def zfb:(!true)=false:=rfl
def zfc:(!false)=true:=rfl
def zfd{α c :Type}:Lf f (a::l)=f a::Lf f l:=rfl
def zfe{α a :Type}:Lf f []=[]:=rfl
end
section
variable{K:W.Frag}{ta tb tc to ti tv tl td ty tx:TE}{s1:TS}{r r':R2}{σ:St}{H:Hp}{Q:VK}{D:Ends}{QB:xB}{as:TA}{g:TG}{gs:HG}{tt:TT}{te:TE}{k i:Nat}{BB:wD}{f m:Str}{C:Addr}{sp:Sp}{E:St->XK}{v:V}{vs:vE}{QG:St->Hp->Prop}{X:Cx}{e:Expr}{es:yC}{st:Stmt}{tg it:Expr}{QO:Option Int->Hp->Prop}{p q:Addr}{x y:Int}{b b':Bool}{s s':Str}
def AS(K:W.Frag)(ta:TE)(f:Str):TE:=λσ H Q=>ta σ H λx c=>CU x λa=>∃ C d fs,c a=some (.ins C d fs)/\Cls K C/\NoAttr K C f/\∃ v,fs.lookup f=some v/\Q v c
def zff:AS K ta f=O9 K ta f:=by funext σ H Q;simp only[AS,O9,GP];simp
def zfg:AS K ta f σ H Q=ta σ H λx c=>CU x λa=>∃ C d fs,c a=some (.ins C d fs)/\Cls K C/\NoAttr K C f/\∃ v,fs.lookup f=some v/\Q v c:=rfl
def pFl(h:PE X e (O9 K ta f)):PE X e (AS K ta f):=zff ▸ h
def AM(C:Addr)(m:Str)(sp:Sp)(E:St->XK)(ta:TE)(t:TA):TE:=λσ H Q=>ta σ H λx c=>CU x λa=>∃ d fs,c a=some (.ins C d fs)/\fs.lookup m=none/\t σ c λvs j=>sp (x::vs) j Q (E σ)
def zfi:AM C m sp E ta as=IZ C m sp [] E ta as:=by funext σ H Q;simp only[AM,IZ,GP];simp
def zfj:AM C m sp E ta as σ H Q=ta σ H λx c=>CU x λa=>∃ d fs,c a=some (.ins C d fs)/\fs.lookup m=none/\as σ c λvs j=>sp (x::vs) j Q (E σ):=rfl
def T6(h:PE X e (IZ C m sp [] E ta as)):PE X e (AM C m sp E ta as):=zfi ▸ h
def BU(sp:Sp)(E:St->XK)(t:TA):TE:=λσ H Q=>t σ H λvs a=>sp vs a Q<|E σ
def zfk:BU sp E as=ME sp [] E as:=by funext σ H Q;simp only[BU,ME,iu]
def zfl:BU sp E as σ H Q=as σ H λvs a=>sp vs a Q (E σ):=rfl
def rN(h:PE X e (ME sp [] E as)):PE X e (BU sp E as):=zfk ▸ h
def GQ(C:Addr)(sp:Sp)(E:St->XK)(t:TA):TE:=λσ H Q=>t σ H λvs c=>∀ x a,c x=none->c a=none->a≠x->sp (.ref x::vs) (upd (upd c a<|.own x) x (.ins C a [])) (λv d=>v=.non/\Q (.ref x) d) (E σ)
def zfm:GQ C sp E as=NI C sp [] E as:=by funext σ H Q;simp only[GQ,NI,iu]
def zfn:GQ C sp E as σ H Q=as σ H λvs c=>∀ x a,c x=none->c a=none->a≠x->sp (.ref x::vs) (upd (upd c a<|.own x) x (.ins C a [])) (λv d=>v=.non/\Q (.ref x) d) (E σ):=rfl
def pMk(h:PE X e (NI C sp [] E as)):PE X e (GQ C sp E as):=zfm ▸ h
def CS(K:W.Frag)(ta tv:TE)(f:Str):TS:=λD σ H=>tv σ H λy j=>ta σ j λx c=>CU x λa=>∃ C d fs,c a=some (.ins C d fs)/\Cls K C/\NoAttr K C f/\fs.length<1000/\D.nx σ (upd c a<|.ins C d<|BS f y fs)
def zfp:CS K ta tv f=PD K ta tv f:=by funext D σ H;simp only[CS,PD,GP];simp
def zfq:CS K ta tv f D σ H=tv σ H λy j=>ta σ j λx c=>CU x λa=>∃ C d fs,c a=some (.ins C d fs)/\Cls K C/\NoAttr K C f/\fs.length<1000/\D.nx σ (upd c a<|.ins C d<|BS f y fs):=rfl
def pSf(h:PS X st (PD K ta tv f)):PS X st (CS K ta tv f):=zfp ▸ h
def A9(t:TE):TT:=λσ H Q=>t σ H λx a=>IH x λk=>Q k a
def YA:A9 ta=MB ta:=by funext σ H Q;simp only[A9,MB,T5]
def zfs:A9 ta σ H QB=ta σ H λx a=>IH x λk=>QB k a:=rfl
def LE(h:PT X e (MB ta)):PT X e (A9 ta):=YA ▸ h
def pTb(h:PT X e (tB ta)):PT X e (A9 ta):=by rw[YA];exact h
def FE(r r':R2)(ta tb tc:TE):TE:=λσ H Q=>ta σ H λx c=>tb σ c λy d=>r x y d λz a=>IH z λk=>if k=true then tc σ a λj l=>r' y j l Q else Q (.bl false) a
def rO:FE r r' ta tb tc=MC r r' ta tb tc:=by funext σ H Q;simp only[FE,MC,T5]
def zfu:FE r r' ta tb tc σ H Q=ta σ H λx c=>tb σ c λy d=>r x y d λz a=>IH z λk=>if k=true then tc σ a λj l=>r' y j l Q else Q (.bl false) a:=rfl
def pCh(h:PE X e (MC r r' ta tb tc)):PE X e (FE r r' ta tb tc):=rO ▸ h
def rP(h:PT X e (MB<|MC r r' ta tb tc)):PT X e (A9<|FE r r' ta tb tc):=by rw[YA,rO];exact h
def LF(ta tb:TE):TE:=λσ H Q=>ta σ H λx a=>IH x λc=>if c=true then tb σ a Q else Q (.bl false) a
def zfw:LF ta tb=O3 ta tb:=by funext σ H Q;simp only[LF,O3,T5]
def zfx:LF ta tb σ H Q=ta σ H λx a=>IH x λc=>if c=true then tb σ a Q else Q (.bl false) a:=rfl
def pAv(h:PE X e (O3 ta tb)):PE X e (LF ta tb):=zfw ▸ h
def QN(ta tb:TE):TE:=λσ H Q=>ta σ H λx a=>IH x λc=>if c=true then Q (.bl true) a else tb σ a Q
def zfz:QN ta tb=SO ta tb:=by funext σ H Q;simp only[QN,SO,T5]
def zf0:QN ta tb σ H Q=ta σ H λx a=>IH x λc=>if c=true then Q (.bl true) a else tb σ a Q:=rfl
def pOv(h:PE X e (SO ta tb)):PE X e (QN ta tb):=zfz ▸ h
def KF(K:W.Frag)(x:V)(H:Hp)(Q:Bool->Prop):Prop:=match x with
 |.bl b=>Q b
 |.int i=>Q<|i != 0
 |.non=>Q false
 |x=>∃ k,K1 K x H k/\Q k
def zf2{x:V}{Q:Bool->Prop}:KF K x H Q=∃ k,K1 K x H k/\Q k:=by cases x<;>simp[KF,K1]
def zf3{Q:Bool->Prop}:KF K (.bl b) H Q=Q b:=rfl
def zf4{Q:Bool->Prop}:KF K (.int x) H Q=Q (x != 0):=rfl
def zf5{Q:Bool->Prop}:KF K .non H Q=Q false:=rfl
def zf6{Q:Bool->Prop}:KF K (.ref p) H Q=∃ k,K1 K (.ref p) H k/\Q k:=rfl
def zf7{Q:Bool->Prop}:KF K (.str s) H Q=∃ k,K1 K (.str s) H k/\Q k:=rfl
def G4(K:W.Frag)(ta:TE):TT:=λσ H Q=>ta σ H λx a=>KF K x a λk=>Q k a
def zf8:G4 K ta=pP K ta:=by funext σ H Q;simp only[G4,zf2]
def zf9:G4 K ta σ H QB=ta σ H λx a=>KF K x a λk=>QB k a:=rfl
def pTr(h:PT X e (pP K ta)):PT X e (G4 K ta):=zf8 ▸ h
def NR(C:Int->Int->Prop)(g:Int->Int->V):R2:=λx y H Q=>G3 x λi=>G3 y λj=>C i j/\Q (g i j) H
def rQ{C:Int->Int->Prop}{g:Int->Int->V}:NR C g=rI C g:=by funext x y H Q;simp only[NR,rI,QM];simp
def T7(g:Int->Int->V):R2:=λx y H Q=>G3 x λi=>G3 y λj=>Q (g i j) H
def zgb{g:Int->Int->V}:T7 g=JZ g:=by funext x y H Q;simp only[T7,JZ,QM];simp
def T8(g:Int->V):V->Hp->VK->Prop:=λx H Q=>G3 x λi=>Q (g i) H
def zgc{g:Int->V}:T8 g=rU g:=by funext x H Q;simp only[T8,rU,QM]
abbrev T9:R2:=T7 λi j=>.int<|i-j
abbrev C3:R2:=NR (λ_ j=>0<j) λi j=>.int<|i%j
abbrev C9:R2:=NR mR λi j=>.int<|i/j
abbrev rPw:R2:=NR Sx λi j=>.int<|i^j.toNat
abbrev NS:V->Hp->VK->Prop:=T8 λi=>.int (-i)
def zge{C:Int->Int->Prop}{g:Int->Int->V}:NR C g (.int x) (.int y) H Q=(C x y/\Q (g x y) H):=rfl
def zgf{g:Int->Int->V}:T7 g (.int x) (.int y) H Q=Q (g x y) H:=rfl
def zgg{g:Int->V}:T8 g (.int x) H Q=Q (g x) H:=rfl
def zgh:CF X (iz .Sub) T9:=by rw[T9,zgb];exact Sz
def zgi:CF X (iz .Mod) C3:=by rw[C3,rQ];exact Td
def zgj:CF X (iz .FloorDiv) C9:=by rw[C9,rQ];exact Tc
def zgk:SS X (unaryOp .USub) NS:=by rw[NS,zgc];exact Th
def rB(K:W.Frag)(x y:V)(H:Hp)(R:xB):Prop:=match x,y with
 |.int i,.int j=>R (decide<|i=j) H
 |.str i,.str j=>R (decide<|i=j) H
 |.bl i,.bl j=>R (decide<|i=j) H
 |.non,.int _=>R false H
 |.int _,.non=>R false H
 |.non,.non=>R true H
 |x,y=>rD K x y H R
def CG(K:W.Frag):R2:=λx y H Q=>rB K x y H λb=>Q<|.bl b
def DL(K:W.Frag):R2:=λx y H Q=>rB K x y H λb=>Q<|.bl<|!b
def zgl:CG K (.int x) (.int y) H Q=Q (.bl<|decide<|x=y) H:=rfl
def zgm:CG K (.str s) (.str s') H Q=Q (.bl<|decide<|s=s') H:=rfl
def zgn:CG K (.bl b) (.bl b') H Q=Q (.bl<|decide<|b=b') H:=rfl
def zgo:CG K .non (.int x) H Q=Q (.bl false) H:=rfl
def zgp:CG K (.int x) .non H Q=Q (.bl false) H:=rfl
def zgq:CG K .non .non H Q=Q (.bl true) H:=rfl
def zgr:CG K (.ref p) (.ref q) H Q=NO K (.ref p) (.ref q) H Q:=rfl
def zgs:CG K (.ref p) .non H Q=NO K (.ref p) .non H Q:=rfl
def zgt:CG K .non (.ref p) H Q=NO K .non (.ref p) H Q:=rfl
def zgu:CG K (.str s) .non H Q=NO K (.str s) .non H Q:=rfl
def zgv:CG K .non (.str s) H Q=NO K .non (.str s) H Q:=rfl
def zgw:DL K (.int x) (.int y) H Q=Q (.bl<|!decide (x=y)) H:=rfl
def zgx:DL K (.str s) (.str s') H Q=Q (.bl<|!decide (s=s')) H:=rfl
def zgy:DL K (.bl b) (.bl b') H Q=Q (.bl<|!decide (b=b')) H:=rfl
def zgz:DL K .non (.int x) H Q=Q (.bl true) H:=rfl
def zg0:DL K (.int x) .non H Q=Q (.bl true) H:=rfl
def zg1:DL K .non .non H Q=Q (.bl false) H:=rfl
def zg2:DL K (.ref p) (.ref q) H Q=KB K (.ref p) (.ref q) H Q:=rfl
def zg3:DL K (.ref p) .non H Q=KB K (.ref p) .non H Q:=rfl
def zg4:DL K .non (.ref p) H Q=KB K .non (.ref p) H Q:=rfl
def nC{p q:Addr}(h:KB K (.ref p) (.ref q) H Q):DL K (.ref p) (.ref q) H Q:=h
def rR(d:X.A.units+64<cLine):CF X (d_ .Eq) (CG X.K):=by
 intro j s σ H x y v u Q I a c h;unfold CG rB at h;split at h;let[t,rfl]:=a;let[w,rfl]:=c;exact eq_int<|GI I h rfl;let[t,rfl]:=a;let[w,rfl]:=c;exact eq_str<|GI I h rfl;cases a;cases c;exact eq_bool<|GI I h rfl;cases a;let[t,rfl]:=c;exact PySem.EqNone.eq_none_int<|GI I h rfl;cases c;let[t,rfl]:=a;exact PySem.EqNone.eq_int_none<|GI I h rfl;cases a;cases c;exact PySem.EqNone.eq_none_none<|GI I h rfl;exact Zv d j s σ H _ _ v u Q I a c h
def rS(d:X.A.units+64<cLine):CF X (d_ .NotEq) (DL X.K):=by
 intro j s σ H x y v u Q I a c h;unfold DL rB at h;split at h;let[t,rfl]:=a;let[w,rfl]:=c;exact ne_int<|GI I h rfl;let[t,rfl]:=a;let[w,rfl]:=c;exact ne_str<|GI I h rfl;cases a;cases c;exact ne_bool<|GI I h rfl;cases a;let[t,rfl]:=c;exact PySem.EqNone.ne_none_int<|GI I h rfl;cases c;let[t,rfl]:=a;exact PySem.EqNone.ne_int_none<|GI I h rfl;cases a;cases c;exact PySem.EqNone.ne_none_none<|GI I h rfl;exact Zw d j s σ H _ _ v u Q I a c h
def HM:R2:=λx y H Q=>match y with
 |.non=>Q (.bl<|decide<|x=.non) H
 |_=>False
def GR:R2:=λx y H Q=>match y with
 |.non=>Q (.bl<|!decide (x=.non)) H
 |_=>False
def zg5:HM v .non H Q=Q (.bl<|decide<|v=.non) H:=rfl
def zg6:GR v .non H Q=Q (.bl<|!decide (v=.non)) H:=rfl
def zg7:HM=pN:=by funext x y H Q;cases y<;>simp[HM,pN]
def zg8:GR=pO:=by funext x y H Q;cases y<;>simp[GR,pO]
def zg9:CF X (d_ .Is) HM:=zg7 ▸ Tm
def zha:CF X (d_ .IsNot) GR:=zg8 ▸ Tp
def D0(K:W.Frag):vE->Hp->VK->Prop:=λxs H Q=>FQ xs λx=>∃ n,ST K x H n/\Q (.int n) H
def zhb:D0 K=XL K:=by funext xs H Q;simp only[D0,XL,NQ];simp
def zhc:D0 K vs H Q=FQ vs λx=>∃ n:Nat,ST K x H n/\Q (.int n) H:=rfl
def zhd:EN X (.builtin "len") (D0 X.K):=zhb ▸ zao
def LG(K:W.Frag):vE->Hp->VK->Prop:=λxs H Q=>FQ xs λx=>CU x λp=>∃ ys,(SqL K H p ys\/SqT K H p ys)/\∀ l,H l=none->Q (.ref l) (upd H l<|.lst ys)
def zhe:LG K=pU K:=by
 funext xs H Q;simp only[LG,NQ,GP];exact propext {(by intro[z,e,p,a,ys,h];exact{p,ys,a ▸ e,h}),(by intro[p,ys,e,h];exact⟨_,e,p,rfl,ys,h⟩)}
def zhf:LG K vs H Q=FQ vs λx=>CU x λp=>∃ ys,(SqL K H p ys\/SqT K H p ys)/\∀ l,H l=none->Q (.ref l) (upd H l<|.lst ys):=rfl
def zhg:EN X (.type "list") (LG X.K):=zhe ▸ zap
def LH(K:W.Frag):vE->Hp->VK->Prop:=λxs H Q=>FQ xs λx=>CU x λp=>∃ ys,((SqL K H p ys/\∀ l,H l=none->Q (.ref l) (upd H l<|.tup ys))\/(SqT K H p ys/\Q (.ref p) H))
def zhh:LH K=pV K:=by
 funext xs H Q;simp only[LH,NQ,GP];exact propext {(by intro[z,e,p,a,ys,h];exact{p,ys,a ▸ e,h}),(by intro[p,ys,e,h];exact⟨_,e,p,rfl,ys,h⟩)}
def zhi:LH K vs H Q=FQ vs λx=>CU x λp=>∃ ys,((SqL K H p ys/\∀ l,H l=none->Q (.ref l) (upd H l<|.tup ys))\/(SqT K H p ys/\Q (.ref p) H)):=rfl
def zhj:EN X (.type "tuple") (LH X.K):=zhh ▸ zaq
def JF(td ty:TE):TE:=λσ H Q=>td σ H λx d=>ty σ d λy c=>CU x λa=>∃ v,DGet c a y (some v)/\Q v c
def zhk:JF td ty=PR td ty:=by funext σ H Q;simp only[JF,PR,GP];simp
def zhl:JF td ty σ H Q=td σ H λx d=>ty σ d λy c=>CU x λa=>∃ v,DGet c a y (some v)/\Q v c:=rfl
def pDg(h:PE X e (PR td ty)):PE X e (JF td ty):=zhk ▸ h
def JG(ty td:TE):TE:=λσ H Q=>ty σ H λy d=>td σ d λx c=>CU x λa=>∃ o,DGet c a y o/\Q (.bl o.isSome) c
def zhn:JG ty td=PU ty td:=by funext σ H Q;simp only[JG,PU,GP];simp
def zho:JG ty td σ H Q=ty σ H λy d=>td σ d λx c=>CU x λa=>∃ o,DGet c a y o/\Q (.bl o.isSome) c:=rfl
def pDi{op:CmpOp}{a b:Expr}(h:PC X op a b (PU ty td)):PC X op a b (JG ty td):=zhn ▸ h
def II(ty td:TE):TE:=λσ H Q=>ty σ H λy d=>td σ d λx c=>CU x λa=>∃ o,DGet c a y o/\Q (.bl<|!o.isSome) c
def zhq:II ty td=PY ty td:=by funext σ H Q;simp only[II,PY,GP];simp
def zhr:II ty td σ H Q=ty σ H λy d=>td σ d λx c=>CU x λa=>∃ o,DGet c a y o/\Q (.bl<|!o.isSome) c:=rfl
def pDn{op:CmpOp}{a b:Expr}(h:PC X op a b (PY ty td)):PC X op a b (II ty td):=zhq ▸ h
def F9(td ty tv:TE):TS:=λD σ H=>tv σ H λv d=>td σ d λx j=>ty σ j λy l=>CU x λa=>∃ c,DPut l a y v c/\D.nx σ c
def zht:F9 td ty tv=PZ td ty tv:=by funext D σ H;simp only[F9,PZ,GP];simp
def zhu:F9 td ty tv D σ H=tv σ H λv d=>td σ d λx j=>ty σ j λy l=>CU x λa=>∃ c,DPut l a y v c/\D.nx σ c:=rfl
def pDp(h:PS X st (PZ td ty tv)):PS X st (F9 td ty tv):=zht ▸ h
def NT(td ty:TE):TE:=λσ H Q=>td σ H λx c=>CU x λa=>NM c a/\ty σ c λy d=>∃ o,DGet d a y o/\Q (o.getD .non) d
def zhw:NT td ty=S9 td ty:=by funext σ H Q;simp only[NT,S9,GP]
def zhx:NT td ty σ H Q=td σ H λx c=>CU x λa=>NM c a/\ty σ c λy d=>∃ o,DGet d a y o/\Q (o.getD .non) d:=rfl
def pD1(h:PE X e (S9 td ty)):PE X e (NT td ty):=zhw ▸ h
def D1(ta:TA):TI:=λσ H R=>ta σ H λvs a=>FQ vs λx=>G3 x λj=> -(2^62)<=j/\j<2^62/\R (FN 0 j.toNat) a
def zhz:D1 as=SR as:=by
 funext σ H R;simp only[D1,NQ,QM];congr 1;funext vs c;exact propext {(by intro[z,e,j,a,h];exact{j,a ▸ e,h}),(by intro[j,e,h];exact⟨_,e,j,rfl,h⟩)}
def pR1(h:PI X tg it (SR as)):PI X tg it (D1 as):=zhz ▸ h
def zh1:BZ (D1 as) g tt te k BB σ H Q=as σ H λvs a=>FQ vs λx=>G3 x λj=> -(2^62)<=j/\j<2^62/\EH (FN 0 j.toNat) g tt te k BB σ a Q:=rfl
def zh2:DG (D1 as) g s1 D σ H=as σ H λvs a=>FQ vs λx=>G3 x λj=> -(2^62)<=j/\j<2^62/\GO (FN 0 j.toNat) g s1 D σ a:=rfl
def CM(K:W.Frag)(tl:TE):TI:=λσ H R=>tl σ H λx c=>CU x λa=>(((∃ xs,SqL K c a xs)/\R (GH K a) c)\/((∃ xs,SqT K c a xs)/\R (IY K a) c))
def zh3:CM K tl=P8 K tl:=by funext σ H R;simp only[CM,P8,GP]
def pSq(h:PI X tg it (P8 K tl)):PI X tg it (CM K tl):=zh3 ▸ h
def zh5:BZ (CM K tl) g tt te k BB σ H Q=tl σ H λx c=>CU x λa=>(((∃ xs,SqL K c a xs)/\EH (GH K a) g tt te k BB σ c Q)\/((∃ xs,SqT K c a xs)/\EH (IY K a) g tt te k BB σ c Q)):=rfl
def zh6:DG (CM K tl) g s1 D σ H=tl σ H λx c=>CU x λa=>(((∃ xs,SqL K c a xs)/\GO (GH K a) g s1 D σ c)\/((∃ xs,SqT K c a xs)/\GO (IY K a) g s1 D σ c)):=rfl
def FR(K:W.Frag)(ta:TA):TI:=λσ H R=>ta σ H λvs c=>FQ vs λx=>CU x λa=>(∃ xs,SqL K c a xs)/\R (LD K a) c
def zh7:FR K as=TU K as:=by
 funext σ H R;simp only[FR,NQ,GP];congr 1;funext vs c;exact propext {(by intro[z,e,j,a,h];exact{j,a ▸ e,h}),(by intro[j,e,h];exact⟨_,e,j,rfl,h⟩)}
def pEn(h:PI X tg it (TU K as)):PI X tg it (FR K as):=zh7 ▸ h
def zh9:BZ (FR K as) g tt te k BB σ H Q=as σ H λvs c=>FQ vs λx=>CU x λa=>(∃ xs,SqL K c a xs)/\EH (LD K a) g tt te k BB σ c Q:=rfl
def zia:DG (FR K as) g s1 D σ H=as σ H λvs c=>FQ vs λx=>CU x λa=>(∃ xs,SqL K c a xs)/\GO (LD K a) g s1 D σ c:=rfl
def JH(ta:TE):TO:=λσ H Q=>ta σ H λx a=>G3 x λi=>Q (some i) a
def zib:JH ta=PL ta:=by funext σ H Q;simp only[JH,PL,QM]
def zic:JH ta σ H QO=ta σ H λx a=>G3 x λi=>QO (some i) a:=rfl
def pPt(h:PO X o (PL ta)):PO X o (JH ta):=zib ▸ h
def LJ(K:W.Frag)(n:Nat)(t:HG):TG:=λv σ H Q=>CU v λa=>∃ xs,SqT K H a xs/\xs.length=n/\t xs σ H Q
def zie:LJ K k gs=FM K k gs:=by funext v σ H Q;simp only[LJ,FM,GP];simp
def zif:LJ K k gs v σ H QG=CU v λa=>∃ xs,SqT K H a xs/\xs.length=k/\gs xs σ H QG:=rfl
def pTp(h:PG X e (FM K k gs)):PG X e (LJ K k gs):=zie ▸ h
def LK:HG:=λvs σ H Q=>QL vs<|Q σ H
def zih:LK=FL:=by funext vs σ H Q;simp only[LK,FL,ze2]
def zii:LK vs σ H QG=QL vs (QG σ H):=rfl
def pGn(h:IX X es FL):IX X es LK:=zih ▸ h
def IJ(g:TG)(gs:HG):HG:=λvs σ H Q=>QK vs λv r=>g v σ H λa c=>gs r a c Q
def zik:IJ g gs=DP g gs:=by funext vs σ H Q;simp only[IJ,DP,ze1]
def zil:IJ g gs vs σ H QG=QK vs λv r=>g v σ H λa c=>gs r a c QG:=rfl
def pGc(h:IX X es (DP g gs)):IX X es (IJ g gs):=zik ▸ h
def FS:V->vE->Hp->VK->Prop:=λx vs H Q=>CU x λl=>FQ vs λy=>∃ xs,H l=some (.lst xs)/\xs.length<sizeLine/\Q .non (upd H l<|.lst<|xs++[y])
def zin:FS=oO:=by
 funext x vs H Q;simp only[FS,NQ,GP];exact propext {(by intro[l,e,y,a,xs,h];exact⟨l,xs,y,e,a,h⟩),(by intro[l,xs,y,e,a,h];exact⟨l,e,y,a,xs,h⟩)}
def zio:SZ X "list.append" FS:=zin ▸ Wz
end
section
variable{α :Sort _}{p: α ->Prop}{x: α}{b c d:Prop}
def qF:(∃ _: α,False)=False:=eq_false exists_false
def qD[Decidable b]:(decide b=false)=¬ b:=propext decide_eq_false_iff_not
def qR:(∃ x,p x/\b)=((∃ x,p x)/\b):=propext exists_and_right
def qL:(∃ x,b/\p x)=(b/\∃ x,p x):=propext exists_and_left
def q1:(∃ y,x=y/\p y)=p x:=propext exists_eq_left'
def q2:(∃ y,y=x/\p y)=p x:=propext exists_eq_left
def q3:(∃ y,x=y)=True:=eq_true exists_eq'
def q4:(∃ y,y=x)=True:=eq_true exists_eq
def qA:((b/\c)/\d)=(b/\c/\d):=propext and_assoc
def qC[Nonempty α]:(α ->b)=b:=propext<|forall_const α
end
open PySem PySem.Spec PyProof.Rows PySem.Builtin PySem.Builtin.Str
section
variable{X:Cx}
theorem rT:∀ (l:List (Str × Tok)),Vals ((l.map (·.1)).map V.str) (strValues l)
 | []=>.nil
 |(x,t)::r=>.cons ⟨t,rfl⟩ (rT r)
def Inv.pushL{a:wA}{c:St}{H:Hp}{s:π}{Q:VK}(I:Inv X a c H s){xs:vE}{us:vC}{t':Nat}(r:Vals xs us)(hz:xs.length<=sizeLine)(q:∀ l,H l=none->Q (.ref l) (upd H l<|.lst xs)):EP X a c Q (.ref s.heap.objs.size) { s with heap:=s.heap.push { cls:=.type "list",data:=.seq us.toArray },toks:=t' }:=by
 refine{.ref s.heap.objs.size,_,I.laid (t':=t') (λb u e=>ξ _ e) (ο _) (show ObjOk X.prog X.w _ _ _ (.lst xs)from{hz,us,0,r,ai _ rfl}),rfl,q _<|I.hok.fresh<|ο _}
def Inv.pushT{a:wA}{c:St}{H:Hp}{s:π}{Q:VK}(I:Inv X a c H s){xs:vE}{us:vC}{t':Nat}(r:Vals xs us)(hz:xs.length<=sizeLine)(q:∀ l,H l=none->Q (.ref l) (upd H l<|.tup xs)):EP X a c Q (.ref s.heap.objs.size) { s with heap:=s.heap.push { cls:=.type "tuple",data:=.seq us.toArray },toks:=t' }:=by
 refine{.ref s.heap.objs.size,_,I.laid (t':=t') (λb u e=>ξ _ e) (ο _) (show ObjOk X.prog X.w _ _ _ (.tup xs)from{hz,us,r,{_,ai _ rfl,rfl,0,rfl}}),rfl,q _<|I.hok.fresh<|ο _}
def rV:V->vE->Hp->VK->Prop:=λx vs H Q=>∃ z y:Str,x=.str z/\vs=[.str y]/\(y.length==0)=false/\z.length<=1000/\∀ t,H t=none->Q (.ref t) (upd H t<|.tup [.str (Txt.partition z y).1,.str (Txt.partition z y).2.1,.str (Txt.partition z y).2.2])
def ziq:PN X "str.partition" rV:=by
 intro g s j H x vs v us Q I a b h;let[z,y,rfl,rfl,c,hz,q]:=h;let[t,rfl]:=a;let[u,rfl,d]:=b.one;let[e,rfl]:=d;refine ik PySem.F.slot_str_partition (mn _ _ _) PySem.F.entry_str_partition (PySem.F.args_str_partition_2 _ _) (meets_str_partition z y t e c (by rw[fi];omega)) ?_;revert q;unfold Txt.partition;cases occurrences z y 0 z.length 1 with
 |nil=>intro q;exact I.pushT (xs:=[.str _,.str _,.str _]) (.cons ⟨_,rfl⟩ (.cons ⟨_,rfl⟩ (.cons ⟨_,rfl⟩ .nil))) (show 3<=sizeLine by rw[fi];omega) q
 |cons i r=>intro q;exact I.pushT (xs:=[.str _,.str _,.str _]) (.cons ⟨_,rfl⟩ (.cons ⟨_,rfl⟩ (.cons ⟨_,rfl⟩ .nil))) (show 3<=sizeLine by rw[fi];omega) q
def QQ:V->vE->Hp->VK->Prop:=λx vs H Q=>∃ z y:Str,x=.str z/\(y.length==0)=false/\z.length<=1000/\((vs=[.str y]/\∀ l,H l=none->Q (.ref l) (upd H l<|.lst<|(Txt.split z y).map V.str))\/∃ k:Nat,k<=100/\vs=[.str y,.int k]/\∀ l,H l=none->Q (.ref l) (upd H l<|.lst<|(Txt.splitMax z y k).map V.str))
def zir:PN X "str.split" QQ:=by
 intro n s o H x vs v us Q I p j h;let[z,y,rfl,c,hz,h]:=h;let[t,rfl]:=p
 have r:z.length+2<=sizeLine:=by rw[fi];omega
 have fin:∀ (l:List (Str × Tok)) (d:aD) (t':Nat),l.map (·.1)=d->d.length<=sizeLine->(∀ l,H l=none->Q (.ref l) (upd H l<|.lst<|d.map V.str))->EP X n o Q (.ref s.heap.objs.size) { s with heap:=s.heap.push { cls:=.type "list",data:=.seq (strValues l).toArray },toks:=t' }:=λl d t' e A q=>by
  subst e;exact I.pushL (rT l) (by rw[ε];exact A) q
 let[rfl,q]||[k,D,rfl,q]:=h
 ·let[u,rfl,g]:=j.one;let[u,rfl]:=g
  have b:(partsBetween z (occurrences z y 0 z.length<|z.length+1) y.length).length<=sizeLine:=by
   have B:=StrLaws.occ_length_le z y 0 z.length<|z.length+1;rw[Ba];omega
  revert q;unfold Txt.split;cases h1:(decide (z.length<y.length)||decide (strKind z<strKind y))
  ·cases hf:(occurrences z y 0 z.length<|z.length+1).isEmpty
   ·intro q;refine ik PySem.F.slot_str_split (mn _ _ _) PySem.F.entry_str_split (PySem.F.args_str_split_2 _ _) (meets_str_split_sep z y t u h1 c hf (by omega) b) ?_
    show wants _ _ _ { s with toks:=_,heap:=s.heap.push { cls:=.type "list",data:=.seq (strsFrom s.toks<|partsBetween z (occurrences z y 0 z.length<|z.length+1) y.length).toArray } };rw[strsFrom_eq];exact fin (numbered s.toks _) _ _ (numbered_texts _ _) b q
   ·intro q;exact ik PySem.F.slot_str_split (mn _ _ _) PySem.F.entry_str_split (PySem.F.args_str_split_2 _ _) (meets_str_split_not_found z y t u h1 c hf) (fin [(z,t)] _ s.toks rfl (show 1<=sizeLine by rw[fi];omega) q)
  ·intro q;exact ik PySem.F.slot_str_split (mn _ _ _) PySem.F.entry_str_split (PySem.F.args_str_split_2 _ _) (meets_str_split_cannot_occur z y t u h1) (fin [(z,t)] _ s.toks rfl (show 1<=sizeLine by rw[fi];omega) q)
 ·let[u,u2,rfl,g,i]:=Tz j;let[u,rfl]:=g;let[w,rfl]:=i
  have a:(decide ((k:Int)< -(2^63:Int))||decide ((k:Int) ≥ 2^63))=false:=by
   simp only[fj,decide_eq_false_iff_not];omega
  have b:(partsBetween z (occurrences z y 0 z.length<|Ip z k) y.length).length<=sizeLine:=by
   have B:=StrLaws.occ_length_le_len z y 0 z.length<|Ip z k;rw[Ba];omega
  revert q;unfold Txt.splitMax;cases h1:(decide (z.length<y.length)||decide (strKind z<strKind y))
  ·cases hf:(occurrences z y 0 z.length<|Ip z k).isEmpty
   ·intro q;refine ik PySem.F.slot_str_split (mn _ _ _) PySem.F.entry_str_split (PySem.F.args_str_split_3 _ _ _) (meets_str_split_sep_max z y k t u w a h1 c hf (by omega) b) ?_
    show wants _ _ _ { s with toks:=_,heap:=s.heap.push { cls:=.type "list",data:=.seq (strsFrom s.toks<|partsBetween z (occurrences z y 0 z.length<|Ip z k) y.length).toArray } };rw[strsFrom_eq];exact fin (numbered s.toks _) _ _ (numbered_texts _ _) b q
   ·intro q;exact ik PySem.F.slot_str_split (mn _ _ _) PySem.F.entry_str_split (PySem.F.args_str_split_3 _ _ _) (meets_str_split_max_not_found z y k t u w a h1 c hf) (fin [(z,t)] _ s.toks rfl (show 1<=sizeLine by rw[fi];omega) q)
  ·intro q;exact ik PySem.F.slot_str_split (mn _ _ _) PySem.F.entry_str_split (PySem.F.args_str_split_3 _ _ _) (meets_str_split_max_cannot_occur z y k t u w a h1) (fin [(z,t)] _ s.toks rfl (show 1<=sizeLine by rw[fi];omega) q)
def B0(i:Int):Str:=η<|toString i
def QR(K:W.Frag):vE->Hp->VK->Prop:=λxs H Q=>∃ i:Int,xs=[.int i]/\0<=i/\i<1000000/\Q (.str<|B0 i) H
def YB{i:Int}(h0:0<=i)(h1:i<1000000):i.natAbs.log2<1920:=by
 have h:i.natAbs<2^20:=by
  have:(2:Nat)^20=1048576:=by decide
  omega
 by_cases h2:i.natAbs=0
 ·rw[h2];decide
 ·have:=(Nat.log2_lt h2).mpr h;omega
def zis:EN X (.type "str") (QR X.K):=by
 intro b s c H xs us Q I r h;let[i,rfl,h0,h1,q]:=h;let[u,rfl,a]:=G0 r;let[t,rfl]:=a;exact PySem.P.str_of_int (YB h0 h1) {.str _,H,I.tok _,⟨_,rfl⟩,q}
def YC(K:W.Frag):vE->Hp->VK->Prop:=λxs H Q=>∃ (z:Str) (i:Int),xs=[.str z]/\z.length<=640/\intText? z=some i/\Q (.int i) H
def zit:EN X (.type "int") (YC X.K):=by
 intro b s c H xs us Q I r h;let[z,i,rfl,h0,h1,q]:=h;let[u,rfl,a]:=G0 r;let[t,rfl]:=a;exact W.KIN.call_text h1 h0 {.int _,H,I.tok _,⟨_,rfl⟩,q}
def YD(z:Str)(b c:TE):TE:=λa H Q=>b a H λx d=>∃ i:Int,x=.int i/\0<=i/\i<1000000/\c a d λy e=>∃ j:Int,y=.int j/\0<=j/\j<1000000/\Q (.str<|B0 i++z++B0 j) e
def MN{i:Int}(h0:0<=i)(h1:i<1000000):(B0 i).length<=10:=W.KT.len_num h0 (by omega)
def ziu{z:Str}{b c:TE}{a:St}{H:Hp}{Q:VK}:YD z b c a H Q=(b a H λx d=>∃ i:Int,x=.int i/\0<=i/\i<1000000/\c a d λy e=>∃ j:Int,y=.int j/\0<=j/\j<1000000/\Q (.str<|B0 i++z++B0 j) e):=rfl
def ziv{a b:Expr}{z:Str}{d g:TE}{l r v pos:Pos}{j:Nat}(w:PE X a d)(A:PE X b g)(hz:z.length<=100:=by decide +kernel):PE X (.JoinedStr [.FormattedValue a (-1) none l,.Constant (.str z) j r,.FormattedValue b (-1) none v] pos) (YD z d g):=by
 intro n s o H Q I h;refine wpAny_JoinedStr ?_
 show wpAny _ _ (eval (.FormattedValue a (-1) none l) X.env) _ _ s;refine wt<|AR (w n s o H _ I h) λu T c=>?_;let[x,B,D,E,i,ex,h0,h1,q]:=c;subst ex;let[t,rfl]:=E;refine zm (YB h0 h1) {_,_,rfl,?_,?_}
 ·have:=MN h0 h1
  show(uq++B0 i).length<=_;rw[rn,fi]
  show 0+_<=_;omega
 refine Ca {_,_,rfl,?_,?_}
 ·have:=MN h0 h1
  show(uq++B0 i++z).length<=_;rw[rn,rn,fi]
  show 0+_+_<=_;omega
 refine wt<|AR (A n _ o B _ (D.tok _) q) λu U c=>?_;let[y,J,L,M,k,N,k0,k1,q2]:=c;subst N;let[Y,rfl]:=M
 have p:(uq++B0 i++z++B0 k).length<=sizeLine:=by
  have:=MN h0 h1
  have:=MN k0 k1;rw[rn,rn,rn,fi]
  show 0+_+_+_<=_;omega
 have e:uq++B0 i++z++B0 k=B0 i++z++B0 k:=by
  have O:uq++B0 i=B0 i:=by
   show Str.mk (#[]++(B0 i).cps)=_;rw[Array.empty_append]
  rw[O]
 refine zm (YB k0 k1) {_,_,rfl,p,?_};refine{p,.str _,J,L.tok _,⟨_,rfl⟩,?_};rw[<-e]at q2;exact q2
abbrev _root_.bB:=List (Str × Int)
def NU(D:bB):List (Str × KTD.Dat):=D.map λp=>(p.1,.flat<|.int p.2)
def UA(o:Obj)(D:bB):Bool:=o.cls == .type "dict" && o.dict.isNone&&o.slots.isEmpty&&(match o.data with|.dict a _=>KTD.rowsLook (KTD.datLooks λ_=>none) a.toList (NU D)|_=>false)
def TabK(K:W.Frag)(p:Addr)(D:bB):Prop:=(p==gb)=false/\∃ o,K.lookup p=some o/\UA o D=true
set_option tactic.hygienic true in
def TabK.text{K:W.Frag}{p:Addr}{D:bB}{h:Heap}(T:TabK K p D)(X:K.In h):KTD.Here h h p (NU D):=by
 let[h0,o,c,b]:=T;refine{?_,λ_ _ e=>e};simp only[UA,bz]at b;let[[[d,g],i],a]:=b;split at a
 ·rename_i j l hd;exact{h0,o,j,l,X _ _ c,{beq_iff_eq.mp d,by simpa using g,by simpa using i},hd,KTD.rows_of_look (KTD.dat_of_looks (h:=h) (get:=λ_=>none) λ_ _ e=>by cases e) a}
 ·cases a
def UB(o:Obj)(a:aD):Bool:=o.cls == .type "tuple" && (match o.data with|.seq vs _=>KTD.strsLook vs.toList a&&decide (vs.size<=1000)|_=>false)
set_option tactic.hygienic true in
def rW{K:W.Frag}{p:Addr}{o:Obj}{b:aD}(e:K.lookup p=some o)(c:UB o b=true)(H:Hp):SqT K H p (b.map V.str):=by
 simp only[UB,bz]at c;let[d,a]:=c;split at a
 ·rename_i vs n hd;simp only[bz,decide_eq_true_eq]at a;exact .inr {o,vs,n,e,beq_iff_eq.mp d,hd,by rw[fi];omega,qX<|KTD.strs_of_look a.1}
 ·cases a
def ziw{K:W.Frag}{p:Addr}{o:Obj}{D:bB}(e:K.lookup p=some o)(a:UA o D=true)(h0:(p==gb)=false):TabK K p D:=⟨h0,o,e,a⟩
def HN(D:bB)(k:Str):Option Int:=(D.find? λp=>decide<|p.1=k).map (·.2)
theorem rX{k:Str}:∀ {D:bB},KTD.datumAt k (NU D)=(HN D k).map λi=>KTD.Dat.flat (.int i)
 | []=>rfl
 |(x,i)::D=>by
  show(if decide (k=x)=true then _ else KTD.datumAt k (NU D))=_;unfold HN;rw[vk];by_cases h:k=x
  ·subst h;simp
  ·rw[if_neg (by simpa using h),show decide ((x,i).1=k)=false from decide_eq_false λe=>h e.symm];exact rX
def rY{k:Str}{D:bB}:KTD.inKeys k (NU D)=(HN D k).isSome:=by
 rw[<-KTD.isSome_datumAt,rX,ud]
theorem rZ{a:Heap}{k:Str}{P:Value->Prop}{i:Int}(q:∀ t,P<|.int i t):∀ {D:bB},HN D k=some i->KTD.EachL a k P (NU D)
 | [],e=>by cases e
 |(x,j)::D,e=>by
  unfold HN at e;rw[vk]at e;by_cases h:k=x
  ·subst h;rw[show decide ((k,j).1=k)=true from decide_eq_true rfl]at e;cases e;exact KTD.eachL_hit rfl q
  ·rw[show decide ((x,j).1=k)=false from decide_eq_false λz=>h z.symm]at e;exact KTD.eachL_miss h<|rZ q e
section
variable{x:Str}{p:Addr}{D:bB}{i:Expr}{ty:TE}{pos pos':Pos}
def YE(D:bB)(ty:TE):TE:=λa H Q=>ty a H λy b=>∃ k,y=.str k/\Q (.bl<|!(HN D k).isSome) b
def YF(D:bB)(ty:TE):TE:=λa H Q=>ty a H λy b=>∃ k n,y=.str k/\HN D k=some n/\Q (.int n) b
def zix{a:St}{H:Hp}{Q:VK}:YE D ty a H Q=(ty a H λy b=>∃ k,y=.str k/\Q (.bl<|!(HN D k).isSome) b):=rfl
def ziy{a:St}{H:Hp}{Q:VK}:YF D ty a H Q=(ty a H λy b=>∃ k n,y=.str k/\HN D k=some n/\Q (.int n) b):=rfl
def ziz(g:GV X.mg x (.ref p))(j:Gl X x)(T:TabK X.K p D)(l:PE X i ty)(hd:(x ==("__debug__":Str))=false:=by decide):PC X .NotIn i (.Name x pos) (YE D ty):=by
 intro b s c H Q I h;refine AR (l b s c H _ I h) λiv n ⟨y,d,o,r,k,w,q⟩=>AR ((LB g j hd:PE X (.Name x pos) _) b n c d (λv A=>v=.ref p/\A=d) o ⟨rfl,rfl⟩) λu L a=>?_;let[z,z,e,B,E,J]:=a;subst E J w;obtain rfl:u=ff p:=B;let[t,rfl]:=r;refine KTD.notin_text (T.text e.kIn) {.bl _,_,e.tok _,rfl,?_};rw[rY];exact q
def zi0(g:GV X.mg x (.ref p))(l:Gl X x)(T:TabK X.K p D)(o:PE X i ty)(hs:nR i)(hd:(x ==("__debug__":Str))=false:=by decide):PE X (.Subscript (.Name x pos) i pos') (YF D ty):=by
 intro c s d H Q I h;refine Ce<|AR ((LB g l hd:PE X (.Name x pos) _) c s d H (λv b=>v=.ref p/\b=H) I ⟨rfl,rfl⟩) λu r a=>?_;let[z,z,w,A,B,E]:=a;subst B E;obtain rfl:u=ff p:=A;refine AR (o c r d _ _ w h) λiv M a=>?_;let[y,b,e,J,k,n,L,j,q]:=a;subst L;let[t,rfl]:=J;exact KTD.item_text (T.text e.kIn) (by rw[rY,j];rfl) (rZ (λt'=>{.int _,b,e.tok _,⟨_,rfl⟩,q}) j) (hs _ _)
end
end
end L2
namespace L2
open PySem PySem.Spec PyProof.Rows PySem.Builtin PySem.Builtin.Str
abbrev _root_.uB:=List (List Nat)
def CW:wD->uB
 | []=>[[]]
 |c::r=>if c=32 then []::CW r else match CW r with
  |w::ws=>(c::w)::ws
  | []=>[[c]]
def FT:uB->wD
 | []=>[]
 | [p]=>p
 |p::q::r=>p++32::FT (q::r)
theorem QS{r:wD}:∀ {p:wD},32∉p->CW (p++32::r)=p::CW r
 | [],_=>rfl
 |c::p,h=>by
  have a:c≠32:=λe=>h<|e ▸ υ;rw[pi,CW,if_neg a,QS λz=>h<|ρ _ z]
theorem NV:∀ {p:wD},32∉p->CW p=[p]
 | [],_=>rfl
 |c::p,h=>by
  have a:c≠32:=λe=>h<|e ▸ υ;unfold CW;rw[if_neg a,NV λz=>h<|ρ _ z]
theorem YG:∀ {ps:uB},ps≠[]->(∀ p∈ps,32∉p)->CW (FT ps)=ps
 | [],h,_=>(h rfl).elim
 | [p],_,h=>NV<|h p υ
 |p::q::r,_,h=>by
  show CW (p++32::FT (q::r))=_;rw[QS (h p υ),YG (by simp) λx a=>h x<|ρ _ a]
abbrev C4(l:wD):Str:=⟨l.toArray⟩
theorem YH:∀ (ps:aD),(Ff {#[32]} ps).cps.toList=FT (ps.map (·.cps.toList))
 | []=>rfl
 | [p]=>rfl
 |p::q::r=>by
  show((p++({#[32]}:Str)++Ff {#[32]} (q::r)).cps).toList=p.cps.toList++32::FT ((q::r).map (·.cps.toList));rw[<-YH (q::r)]
  show((p.cps++ #[32])++(Ff {#[32]} (q::r)).cps).toList=_;simp
def YI(x:Str):C4 x.cps.toList=x:=by cases x;rfl
def YJ:(" ":Str)={#[32]}:=by decide +kernel
def sA(x:Str):Txt.split x {#[32]}≠[]:=λe=>by have:=split_pos x {#[32]};rw[e]at this;simp at this
def UC(x:Str):Txt.split x " "=(CW x.cps.toList).map C4:=by
 rw[YJ]
 have h1:=StrLaws.join_split x {#[32]}
 have h2:=StrLaws.split_free x 32
 have h3:=sA x;revert h1 h2 h3;generalize Txt.split x {#[32]}=ps;intro h1 h2 h3
 have e:x.cps.toList=FT (ps.map (·.cps.toList)):=by rw[<-YH,h1]
 rw[e,YG (by simpa using h3) λp a=>?_,jf]
 ·refine(Li _).symm.trans (vn λp z=>(YI p).symm)
 ·let[q,b,rfl]:=av.mp a;exact h2 q b
def UD:uB->uB
 |a::b::c::r=>[a,b,FT (c::r)]
 |ws=>ws
theorem sB(x y:Str)(n b:Nat)(A:Array Nat):∀ (l:wD) (f:Nat),b<=A.size->(forIn l (A,f) (g_ x y n b)).run.fst=A
 | [],_,_=>rfl
 |a::l,f,h=>by
  rw[iw];unfold g_;rw[if_neg λz=>by have:=z.1.1.1;simp only at this;omega];exact sB x y n b A l f h
theorem YK(x y:Str)(n b:Nat):∀ (l:wD) (A:Array Nat) (f:Nat),∃ r:wD,(forIn l (A,f) (g_ x y n b)).run.fst.toList=A.toList++r
 | [],A,_=>{[],(iu _).symm}
 |a::l,A,f=>by
  rw[iw];unfold g_;split
  ·let[r,e]:=YK x y n b l (A.push a) (a+y.length);exact{a::r,e.trans (by simp)}
  ·exact YK x y n b l A f
theorem YL(x y:Str)(n big b:Nat)(g:b<=big):∀ (l:wD) (A:Array Nat) (f:Nat),A.size+l.length<=big->A.size<=b ->
  ∃ r:wD,(forIn l (A,f) (g_ x y n big)).run.fst.toList=A.toList++r/\(forIn l (A,f) (g_ x y n b)).run.fst.toList=A.toList++r.take (b-A.size)
 | [],A,_,_,_=>{[],by simp}
 | a::l,A,f,h1,h2=>by
  rw[bw]at h1;by_cases c:(f<=a/\a+y.length<=n)/\subAt x y a=true
  ·have i:(((A,f).fst.size<big/\(A,f).snd<=a)/\a+y.length<=n)/\subAt x y a=true:={{{by show A.size<big;omega,c.1.1},c.1.2},c.2}
   by_cases j:A.size<b
   ·have o:(((A,f).fst.size<b/\(A,f).snd<=a)/\a+y.length<=n)/\subAt x y a=true:={{⟨j,c.1.1⟩,c.1.2},c.2}
    let[r,d,e]:=YL x y n big b g l (A.push a) (a+y.length) (by rw[zf];omega) (by rw[zf];omega);refine{a::r,?_,?_}
    ·rw[iw]
     conv=>lhs;unfold g_
     rw[if_pos i];exact d.trans (by simp)
    ·rw[iw]
     conv=>lhs;unfold g_
     rw[if_pos o];refine e.trans ?_;rw[zf,show b-A.size=(b-(A.size+1))+1 by omega,List.take_succ_cons];simp
   ·let[r,d]:=YK x y n big (a::l) A f;refine{r,d,?_};rw[sB x y n b A (a::l) f (by omega),show b-A.size=0 by omega];simp
  ·let[r,d,e]:=YL x y n big b g l A f (by omega) h2;refine{r,?_,?_}
   ·rw[iw]
    conv=>lhs;unfold g_
    rw[if_neg λz=>c {⟨z.1.1.2,z.1.2⟩,z.2}];exact d
   ·rw[iw]
    conv=>lhs;unfold g_
    rw[if_neg λz=>c {⟨z.1.1.2,z.1.2⟩,z.2}];exact e
def zi1(x y:Str)(a:Nat)(h:a<=x.length+1):occurrences x y 0 x.length a=(occurrences x y 0 x.length<|x.length+1).take a:=by
 rw[Jr,Jr];let[r,b,c]:=YL x y x.length (x.length+1) a h (H_ 0<|x.length+1-0) #[] 0 (by simp) (bg _);rw[b,c];simp
def zi2(x:Str):Txt.splitMax x " " 2=(UD<|CW x.cps.toList).map C4:=by
 have hs:=UC x;rw[YJ]at hs ⊢;unfold Txt.split at hs;unfold Txt.splitMax;by_cases h1:(decide (x.length<({#[32]}:Str).length)||decide (strKind x<strKind ⟨#[32]⟩))=true
 ·rw[if_pos h1]at hs ⊢;cases d:CW x.cps.toList with
  |nil=>rw[d]at hs;cases hs
  |cons a r =>
   cases r with
   |nil=>rw[d]at hs;exact hs
   |cons b r=>rw[d]at hs;cases hs
 ·rw[if_neg h1]at hs ⊢
  have L:1<=x.length:=by
   rw[yk,fj,decide_eq_false_iff_not]at h1
   have:=h1.1
   have e:({#[32]}:Str).length=1:=rfl;omega
  have v:Ip x 2=2:=rfl;rw[v,zi1 x _ 2 (by omega)];let[f,g]:=StrLaws.occ_chain x {#[32]} (x.length+1);revert hs g;generalize occurrences x {#[32]} 0 x.length (x.length+1)=l;intro hs g
  match l,hs,g with
  | [],hs,_ =>
   rw[if_pos (by rfl)]at hs;rw[List.take_nil,if_pos (by rfl)];cases d:CW x.cps.toList with
   |nil=>rw[d]at hs;cases hs
   |cons a r =>
    cases r with
    |nil=>rw[d]at hs;exact hs
    |cons b r=>rw[d]at hs;cases hs
  | [i],hs,_ =>
   rw[if_neg (by simp),l_]at hs;rw[show [i].take 2=[i]from rfl,if_neg (by simp),l_,hs]
   have o:=congrArg ji hs;rw[ε]at o;cases d:CW x.cps.toList with
   |nil=>rfl
   |cons a r =>
    cases r with
    |nil=>rfl
    |cons b r =>
     cases r with
     |nil=>rfl
     |cons c r=>rw[d]at o;simp[xq]at o
  | i::j::r,hs,g =>
   rw[if_neg (by simp),l_]at hs;rw[show(i::j::r).take 2=[i,j]from rfl,if_neg (by simp),l_]
   have n:=StrLaws.join_partsFrom x {#[32]} r (j+1) f g.2.2.2.2;let[p,q,s]:=StrLaws.partsFrom_ne x 1 (j+1) r
   have hs:strSub x 0 i::strSub x (i+1) j::xq x 1 (j+1) r=(CW x.cps.toList).map C4:=hs
   have n:Ff {#[32]} (xq x 1 (j+1) r)=strSub x (j+1) x.length:=n
   show [strSub x 0 i,strSub x (i+1) j,strSub x (j+1) x.length]=_;rw[s]at hs n;cases d:CW x.cps.toList with
   |nil=>rw[d]at hs;cases hs
   | cons w y =>
    cases y with
    |nil=>rw[d]at hs;exact absurd (congrArg ji hs) (by simp)
    |cons z A =>
     cases A with
     |nil=>rw[d]at hs;exact absurd (congrArg ji hs) (by simp)
     |cons B u =>
      rw[d]at hs;simp only[cg,zg]at hs;let[D,E,H,I]:=hs
      show _=[C4 w,C4 z,C4<|FT (B::u)];rw[D,E,<-n,<-YI (Ff {#[32]} (p::q)),YH,H,I]
      have J:u.map ((λx:Str=>x.cps.toList) ∘ C4)=u:=(vn λx _=>rfl).trans (Li _);rw[cg,jf,J]
def zi3(x:Str)(n:x.length<=1000):(Txt.partition x " ").1=C4 ((CW x.cps.toList).headD []):=by
 have hs:=UC x;rw[YJ]at hs ⊢
 have hz:(Txt.split x {#[32]})[0]? =some (C4<|(CW x.cps.toList).headD []):=by
  rw[hs];cases l:CW x.cps.toList with
  |nil=>rw[l]at hs;exact absurd hs<|sA x
  |cons a r=>rfl
 unfold Txt.partition;rcases StrLaws.occ_head x {#[32]} 1 (ο _)with⟨e,b⟩|⟨i,r,e,j,b⟩
 ·rw[e];let[h,_]||[k,h,c,_]:=split_head x {#[32]} (by decide +kernel) _ hz
  ·exact h.symm
  ·exact absurd c<|b k
 ·rw[e];rcases split_head x {#[32]} (by decide +kernel) _ hz with⟨h,d⟩ | ⟨k,h,c,g⟩
  ·exact absurd j<|d i
  ·have:k=i:=by
    let z||z||z:=Ea k i
    ·exact absurd c<|b k z
    ·exact z
    ·exact absurd j<|g i z
   subst this;exact h.symm
theorem UE:∀ {l w:wD},w∈CW l->w.length<=l.length
 | [],w,h=>by rw[aa.mp h];exact ο _
 | c::r,w,h=>by
  unfold CW at h;split at h
  ·let h||h:=aj.mp h
   ·rw[h];exact bg _
   ·exact ck<|UE h
  ·cases a:CW r with
   |nil=>rw[a]at h;rw[aa.mp h];simp
   |cons v vs =>
    rw[a]at h;let h||h:=aj.mp h
    ·rw[h];exact yj<|UE<|a ▸ υ
    ·exact ck<|UE<|a ▸ ρ _ h
def zi4{α :Type}{us:List α}{u: α}:J0 (us++[u]) (-1)=some u:=by
 unfold J0 HI;rw[if_neg (by omega),if_pos (by rw[ae];simp;omega)]
 have e:((-1:Int)+((us++[u]).length:Nat)).toNat=us.length:=by rw[ae];simp;omega
 show(us++[u])[((-1:Int)+((us++[u]).length:Nat)).toNat]? =_;rw[e,cf<|ο _,vy]
 rfl
end L2
namespace L2
abbrev Ad:=String->Addr
def SameBut(F:Addr->Prop)(H a:Hp):Prop:=∀ b o,H b=some o->¬ F b->a b=some o
structure DR(K:W.Frag)(a:Ad):Prop where
 cl:Cls K (a "Plank")
 nC:NoAttr K (a "Plank") "contents"
 nW:NoAttr K (a "Plank") "width"
 nN:NoAttr K (a "Plank") "written"
def pf(a:Addr)(w n:Int):vB:=[("contents",.ref a),("width",.int w),("written",.int n)]
def zi5:¬ ("contents":Str)="width":=by decide
def zi6:¬ ("contents":Str)="written":=by decide
def zi7:¬ ("width":Str)="written":=by decide
def UF(a:Addr)(w n:Int):(pf a w n).lookup ("contents":Str)=some (V.ref a):=by simp[pf]
def sC(a:Addr)(w n:Int):(pf a w n).lookup ("width":Str)=some (V.int w):=by
 simp[pf,ao,(beq_eq_false_iff_ne.mpr<|fk zi5)]
def zi8(a:Addr)(w n:Int):(pf a w n).lookup ("written":Str)=some (V.int n):=by
 simp[pf,ao,(beq_eq_false_iff_ne.mpr<|fk zi6),(beq_eq_false_iff_ne.mpr<|fk zi7)]
def KG(a:Addr)(w n:Int){m:Str}(h1:¬ m="contents")(h2:¬ m="width")(h3:¬ m="written"):(pf a w n).lookup m=none:=by
 simp[pf,ao,(beq_eq_false_iff_ne.mpr h1),(beq_eq_false_iff_ne.mpr h2),(beq_eq_false_iff_ne.mpr h3)]
abbrev _root_.aC:=List (List V)
structure PlankAt(a:Ad)(H:Hp)(p cl:Addr)(w:Nat)(rows:aC)(n:Nat):Prop where
 ob:∃ dx,H p=some (.ins (a "Plank") dx (pf cl w n))
 ls:∃ ts:xC,H cl=some (.lst<|ts.map V.ref)/\Paired (λt r=>H t=some (.tup r)) ts rows
 wd:∀ r∈rows,r.length=w
 sz:rows.length<=1000
 sw:w<=1000
def PlankAt.ne(P:PlankAt a H p b w rows n):p≠b:=by
 let[[c,h1],[d,h2,y],y]:=P;exact BJ h1 h2 (by intro z;cases z)
def PlankAt.same(P:PlankAt a H p b w rows n)(s:Same H c):PlankAt a c p b w rows n:=by
 let[[d,e],[g,i,j],l,o,u]:=P;exact{{d,s _ _ e},{g,s _ _ i,Paired.mapP j λt r q=>s _ _ q},l,o,u}
local macro_rules
 |`(command|example : ($x:ident) := $t:term)=>do
  let i:=Lean.mkIdent
  `(command|def $x:ident ($(i `K):ident : W.Frag) ($(i `a):ident : Ad) : Sp := fun $(i `vs):ident $(i `H):ident $(i `Q):ident $(i `E):ident => $t)
example:(YM):=∃ (p d:Addr) (m w:Nat),vs=[.ref p,.int m,.int w]/\DR K a/\H p=some (.ins (a "Plank") d [])/\m<=1000/\1<=w/\w<=1000 ∧
 ∀ c b,H c=none->PlankAt a b p c w (ba m<|ba w .non) 0->SameBut (· =p) H b->Q .non b
example:(QT):=∃ p b w rows n,vs=[.ref p]/\DR K a/\PlankAt a H p b w rows n/\Q (.int rows.length) H
example:(YN):=∃ (p b:Addr) (w:Nat) (rows:aC) (n:Nat),vs=[.ref p]/\DR K a/\PlankAt a H p b w rows n/\Q (.int w) H
example:(NW):=∃ (p c:Addr) (w:Nat) (rows:aC) (n:Nat) (b:Int),vs=[.ref p,.int b]/\DR K a/\PlankAt a H p c w rows n /\
 (0<=b->b<rows.length->Q .non H)/\(b<0\/rows.length<=b->E (.ref<|a "NoBlock") none H)
example:(LM):=∃ (p c:Addr) (w:Nat) (rows:aC) (n:Nat) (b:Int),vs=[.ref p,.int b]/\DR K a/\PlankAt a H p c w rows n /\
 (∀ (i:Nat) row,b=i->rows[i]? =some row->∀ l,H l=none->Q (.ref l) (upd H l<|.lst row))/\(b<0\/rows.length<=b->E (.ref<|a "NoBlock") none H)
example:(UG):=∃ (p c:Addr) (w:Nat) (rows:aC) (n:Nat) (b:Int) (v:Addr) (xs:vE),vs=[.ref p,.int b,.ref v]/\DR K a/\PlankAt a H p c w rows n/\SqL K H v xs/\xs.length<=2000 /\
 (∀ (i:Nat),b=i->i<rows.length->xs.length=w->∀ d,PlankAt a d p c w (rows.set i xs) (n+1)->SameBut (λx=>x=p\/x=c) H d->Q .non d) /\
 (b<0\/rows.length<=b\/xs.length≠w->E (.ref<|a "NoBlock") none H)
def BV{K:W.Frag}{H:Hp}{p:Addr}{xs:vE}{i:Int}{n:Nat}{v:V}{Q:VK}(h:H p=some (.tup xs))(a:i=n)(b:xs[n]? =some v)(q:Q v H):B8 K (.ref p) (.int i) H Q :=
 .inr (.inl (x4 p xs i v {rfl,rfl,SqT.of h,by rw[a];exact SY b,q}))
def NX(h:fs≠a):HO.ins C c fs≠HO.ins d b a:=by
 intro z;injection z with _ _ z
 exact h z
def zi9(xs:vE)(h:0<=k):GJ xs none (some k)=xs.take k.toNat:=by
 unfold GJ
 have e:HT.sIx xs.length xs.length (some k)=min k.toNat xs.length:=by
  show(if k<0 then(k+xs.length).toNat else min _ _)=_;rw[if_neg (by lia)]
 rw[HT.sIx_none,Js,List.take_eq_take_iff]
 lia
def zja(xs:vE)(h:0<=k):GJ xs (some k) none=xs.drop k.toNat:=by
 unfold GJ
 have e:HT.sIx xs.length 0 (some k)=min k.toNat xs.length:=by
  show(if k<0 then(k+xs.length).toNat else min _ _)=_;rw[if_neg (by lia)]
 rw[e];let z||z:=fe _ _
 rw[mz (kh z),eq (by rw[ic];exact ο _)];rw[Ga z,List.drop_of_length_le z];simp
def zjb{K:W.Frag}{H:Hp}{p:Addr}{xs:vE}{lo a:Option Int}{Q:VK}(h:SqL K H p xs)(q:∀ r,H r=none->Q (.ref r) (upd H r<|.lst<|GJ xs lo a)):LC K (.ref p) lo a H Q:=.inl<|x2 p xs ⟨rfl,h,q⟩
def SameBut.refl(H:Hp):SameBut F H H:=λz z e z=>e
def SameBut.trans(s:SameBut F H a)(t:SameBut F a c):SameBut F H c:=λb o e n=>t _ _ (s _ _ e n) n
def SameBut.wide(s:SameBut F H a)(i:∀ x,F x->G x):SameBut G H a:=λb o e n=>s _ _ e λz=>n<|i _ z
def Same.sb(s:Same H a):SameBut F H a:=λb o e z=>s b o e
def SameBut.upd(s:SameBut F H a)(h:F p\/H p=none):SameBut F H (upd a p o):=λb u e n=>by
 have:b≠p:=by
  let h||h:=h
  exact λz=>n<|z ▸ h;exact BK e h
 rw[AI this];exact s _ _ e n
structure Ch where
 blk:Nat
 cell:Nat
 val:V
 nd:vD
abbrev _root_.yD:=List Ch
def MO:yD->Int->Int->Option Nat
 | [],_,_=>none
 |c::r,i,j=>if(c.blk:Int)=i/\(c.cell:Int)=j then some r.length else MO r i j
def D5(cs:yD)(i j:Int):Option Nat:=MO cs.reverse i j
def G5:yD->Nat->wD
 | [],_=>[]
 |c::r,b=>if c.blk=b then G5 r b++[r.length]else G5 r b
def DH(cs:yD)(b:Nat):wD:=G5 cs.reverse b
def YO(cs:yD)(c:Ch)(i j:Int):D5 (cs++[c]) i j=if(c.blk:Int)=i/\(c.cell:Int)=j then some cs.length else D5 cs i j:=by
 simp[D5,MO]
def zjc(cs:yD)(c:Ch)(b:Nat):DH (cs++[c]) b=if c.blk=b then DH cs b++[cs.length]else DH cs b:=by
 simp[DH,G5]
theorem YQ:∀ {l:yD} {i j:Int} {k:Nat},MO l i j=some k->k<l.length
 | [],_,_,_,h=>by cases h
 |c::r,i,j,k,h=>by
  unfold MO at h;split at h;obtain rfl:=μ h;simp;exact ck<|YQ h
def NY(h:D5 cs i j=some k):k<cs.length:=by
 have:=YQ h
 rwa [gr]at this
theorem YR:∀ {l:yD} {b k:Nat},k∈G5 l b->k<l.length
 | [],_,_,h=>by cases h
 |c::r,b,k,h=>by
  unfold G5 at h;split at h;let h||h:=bd.mp h
  exact ck<|YR h;rw[aa.mp h];simp;exact ck<|YR h
def UH(h:k∈DH cs b):k<cs.length:=by
 have:=YR h
 rwa [gr]at this
theorem sD:∀ (l:yD) (b:Nat),(G5 l b).length<=l.length
 | [],_=>ο _
 |c::r,b=>by
  have:=sD r b;unfold G5;split<;>simp<;>omega
def YS(cs:yD)(b:Nat):(DH cs b).length<=cs.length:=by
 have:=sD cs.reverse b
 rwa [gr]at this
def GA(a:Addr)(v:V)(b:Addr):vB:=[("place",.ref a),("value",v),("needs",.ref b)]
def bf(a m b lt c:Addr):vB:=[("ground",.ref a),("made",.ref m),("made_in",.ref b),("latest",.ref lt),("outs",.ref c)]
def D2(a b:Str):Bool:=a==b
section
variable{pl nt gp m mi lt ou:Addr}{v:V}
def BD(h:D2 a b=false):(a==b)=false:=h
def sE:(GA pl v nt).lookup ("place":Str)=some (V.ref pl):=by simp[GA]
def sF:(GA pl v nt).lookup ("value":Str)=some v:=by
 simp[GA,ao,BD (a:="value") (b:="place") (by decide)]
def sG:(GA pl v nt).lookup ("needs":Str)=some (V.ref nt):=by
 simp[GA,ao,BD (a:="needs") (b:="place") (by decide),BD (a:="needs") (b:="value") (by decide)]
def YT(h:D2 g f=false):BS f y ((g,x)::r)=(g,x)::BS f y r:=by
 have:¬ g=f:=λe=>by rw[e]at h;simp[D2]at h
 simp[BS,this]
def zjd:BS f y []=[(f,y)]:=rfl
def QU:(bf gp m mi lt ou).lookup ("ground":Str)=some (V.ref gp):=by simp[bf]
def JI:(bf gp m mi lt ou).lookup ("made":Str)=some (V.ref m):=by
 simp[bf,ao,BD (a:="made") (b:="ground") (by decide)]
def YU:(bf gp m mi lt ou).lookup ("made_in":Str)=some (V.ref mi):=by
 simp[bf,ao,BD (a:="made_in") (b:="ground") (by decide),BD (a:="made_in") (b:="made") (by decide)]
def sI:(bf gp m mi lt ou).lookup ("latest":Str)=some (V.ref lt):=by
 simp[bf,ao,BD (a:="latest") (b:="ground") (by decide),BD (a:="latest") (b:="made") (by decide),BD (a:="latest") (b:="made_in") (by decide)]
def QW:(bf gp m mi lt ou).lookup ("outs":Str)=some (V.ref ou):=by
 simp[bf,ao,BD (a:="outs") (b:="ground") (by decide),BD (a:="outs") (b:="made") (by decide),BD (a:="outs") (b:="made_in") (by decide),BD (a:="outs") (b:="latest") (by decide)]
def DA(h:(D2 x "ground" || D2 x "made" || D2 x "made_in" || D2 x "latest" || D2 x "outs")=false:=by decide +kernel):(bf gp m mi lt ou).lookup x=none:=by
 simp only[fj]at h;let[[[[h1,h2],h3],h4],h5]:=h;simp[bf,ao,BD h1,BD h2,BD h3,BD h4,BD h5]
def zje:BS "outs" (.ref ou) (BS "latest" (.ref lt) (BS "made_in" (.ref mi) (BS "made" (.ref m) (BS "ground" (.ref gp) []))))=bf gp m mi lt ou:=by
 rfl
end
structure sJ(K:W.Frag)(C D:Addr):Prop where
 cl:Cls K C
 nG:NoAttr K C "ground"
 nM:NoAttr K C "made"
 nI:NoAttr K C "made_in"
 nL:NoAttr K C "latest"
 nO:NoAttr K C "outs"
 cc:Cls K D
 nP:NoAttr K D "place"
 nV:NoAttr K D "value"
 nN:NoAttr K D "needs"
def ChAt(D:Addr)(H:Hp)(x:Addr)(c:Ch):Prop:=∃ d a b,H x=some (.ins D d<|GA a c.val b)/\H a=some (.tup [.int c.blk,.int c.cell])/\H b=some (.tup<|c.nd.map V.int)
structure BA where
 b:Addr
 gp:Addr
 m:Addr
 mi:Addr
 lt:Addr
 ou:Addr
 ls:xC
 cl:Addr
def BA.F(A:BA)(x:Addr):Prop:=x=A.m\/x=A.mi\/x∈A.ls\/x=A.lt\/x=A.ou\/x=A.cl
def KeysOk(a:yB)(n:Nat):Prop:=(a.map (·.1)).Nodup/\∀ p∈a,∃ x:Nat,p.1=ux (x:Int)/\x<n
def KeysOk.mono(h:KeysOk a n)(b:n<=m):KeysOk a m:={h.1,λp c=>by let[x,e,d]:=h.2 p c;exact{x,e,χ d b}}
def KeysOk.len(h:KeysOk a n):a.length<=n:=by
 have:=uu  h.1 λk b=>by
  let[p,c,rfl]:=av.mp b;let[x,e,d]:=h.2 p c;rw[e];exact av.mpr {x,ak.mpr d,rfl}
 simpa using this
def KeysOk.put(h:KeysOk b n)(d:k<n)(c:BG b (.inl (k:Int))=none)(v:V):KeysOk (CD b (.inl (k:Int)) v) n:=by
 refine{Yw v h.1 c,λp a=>?_};rw[oU v c]at a;let a||a:=bd.mp a
 exact h.2 p a;rw[aa.mp a];exact⟨k,rfl,d⟩
structure BookIn(C D:Addr)(H:Hp)(A:BA)(w:Nat)(cs:yD)(outs:wC):Prop where
 ob:∃ dx,H A.b=some (.ins C dx<|bf A.gp A.m A.mi A.lt A.ou)
 made:∃ chs:xC,H A.m=some (.lst<|chs.map V.ref)/\Paired (ChAt D H) chs cs
 mil:H A.mi=some (.lst<|A.ls.map V.ref)
 mic:∀ (i:Nat) l,A.ls[i]? =some l->H l=some (.lst<|(DH cs i).map λ(k:Nat)=>V.int k)
 nd:A.ls.Nodup
 lat:∃ kvs,H A.lt=some (.dT kvs)/\(∀ i j:Int,BG kvs [.inl i,.inl j]=(D5 cs i j).map λ(k:Nat)=>V.int k)/\kvs.length<=cs.length
 out:∃ DZ,H A.ou=some (.dK DZ)/\(∀ k:Int,(BG DZ<|.inl k).isSome=outs k)/\KeysOk DZ cs.length
 sz:cs.length<=990
 inn:∀ c∈cs,c.blk<A.ls.length/\c.cell<w
 need:∀ (k:Nat) c,cs[k]? =some c->(∀ x∈c.nd,0<=x/\x<k)/\c.nd.Pairwise (· <·)/\c.nd.length<=100
 ap:A.m≠A.mi/\A.m∉A.ls/\A.mi∉A.ls/\A.cl≠A.m/\A.cl≠A.mi/\A.cl∉A.ls
 chn:∀ (k:Nat) c,cs[k]? =some c->∀ j,D5 (cs.take k) c.blk c.cell=some j->(j:Int)∈c.nd
structure BookAt(a:Ad)(C:Addr)(H:Hp)(A:BA)(w:Nat)(rows:aC)(n:Nat)(cs:yD)(outs:wC):Prop where
 bk:BookIn C (a "Change") H A w cs outs
 pk:PlankAt a H A.gp A.cl w rows n
 nb:A.ls.length=rows.length
def EV(o:Option HO):Prop:=(∀ xs,o≠some (.tup xs))/\∀ C a fs,o≠some (.ins C a fs)
def ChAt.sb(s:SameBut G H e)(g:∀ x,G x->EV (H x))(h:ChAt D H x c):ChAt D e x c:=by
 revert h;apply u3;intro i j l [a,b,d];exact x3 i j l {s _ _ a λz=>(g _ z).2 _ _ _ a,s _ _ b λz=>(g _ z).1 _ b,s _ _ d λz=>(g _ z).1 _ d}
def BookIn.sb(B:BookIn C D H A w cs outs)(s:SameBut G H d)(g:∀ x,G x->EV (H x))(f:∀ x,G x->¬ A.F x):BookIn C D d A w cs outs:=by
 let[[e,b],[j,n,o],p,q,r,[kvs,u,v],[N,y,a],E,I,J,L,M]:=B;refine⟨{e,s _ _ b λz=>(g _ z).2 _ _ _ b},{_,s _ _ n λz=>f _ z<|.inl rfl,Paired.mapP o λx c h=>h.sb s g},s _ _ p λz=>f _ z<|.inr<|.inl rfl,λi l h=>s _ _ (q i l h) λz=>f _ z<|.inr<|.inr<|.inl<|ι h,r,
  {_,s _ _ u λz=>f _ z<|.inr<|.inr<|.inr<|.inl rfl,v},{_,s _ _ y λz=>f _ z<|.inr<|.inr<|.inr<|.inr<|.inl rfl,a},E,I,J,L,M⟩
def PlankAt.sbL(P:PlankAt a H p b w rows n)(s:SameBut G H d)(g:∀ x,G x->EV (H x))(h:¬ G b):PlankAt a d p b w rows n:=by
 let[[e,c],[i,j,l],o,u,v]:=P;exact{{e,s _ _ c λz=>(g _ z).2 _ _ _ c},{i,s _ _ j h,Paired.mapP l λt r q=>s _ _ q λz=>(g _ z).1 _ q},o,u,v}
def BookAt.sb(B:BookAt a C H A w rows n cs outs)(s:SameBut G H b)(g:∀ x,G x->EV (H x))(f:∀ x,G x->¬ A.F x):BookAt a C b A w rows n cs outs :=
 {B.bk.sb s g f,B.pk.sbL s g λz=>f _ z<|.inr<|.inr<|.inr<|.inr<|.inr rfl,B.nb}
def BookAt.same(B:BookAt a C H A w rows n cs outs)(s:Same H b):BookAt a C b A w rows n cs outs :=
 B.sb (G:=λy=>False) (Same.sb s) (λy z=>z.elim) λy z=>z.elim
def BookAt.off(B:BookAt a C H A w rows n cs outs)(h:H x=none):¬ A.F x:=by
 let[[y,[c,d,y],g,j,y,[kvs,l,y],[q,o,y],y],[y,[r,b,y],y],y]:=B;rintro (z|z|z|z|z|z);rw[z,d]at h;cases h;rw[z,g]at h;cases h;let[i,p,e]:=jo z;rw[(j i x (by rw[<-e];exact θ p))]at h;cases h;rw[z,l]at h;cases h;rw[z,o]at h;cases h;rw[z,b]at h;cases h
def QX{α :Type}{l:List α}{x: α}(h:x∈l):∃ i:Nat,l[i]? =some x:=by
 let[i,a,e]:=jo h;exact{i,by rw[<-e];exact θ a}
def QY{H:Hp}{x:Addr}{xs:vE}(h:H x=some (.lst xs)):EV (H x):=by
 rw[h];exact{λy z=>(by cases z),λy y y z=>(by cases z)}
def NZ{H:Hp}{x:Addr}{xs:yB}(h:H x=some (.dK xs)):EV (H x):=by
 rw[h];exact{λy z=>(by cases z),λy y y z=>(by cases z)}
def zjf{H:Hp}{x:Addr}{xs:uA}(h:H x=some (.dT xs)):EV (H x):=by
 rw[h];exact{λy z=>(by cases z),λy y y z=>(by cases z)}
def BookAt.loose{A:BA}{outs:wC}(B:BookAt a C H A w rows n cs outs)(h:A.F x):EV (H x):=by
 let[[y,[c,d,y],g,j,y,[kvs,l,y],[p,o,y],y],[y,[q,b,y],y],y]:=B;let z||z||z||z||z||z:=h
 exact QY<|z ▸ d;exact QY<|z ▸ g;let[i,e]:=QX z;exact QY<|j i x e;exact zjf<|z ▸ l;exact NZ<|z ▸ o;exact QY<|z ▸ b
structure MP(cs:yD)(outs:wC)(ns:vD)(R:wC):Prop where
 all:∀ x∈ns,R x=true
 up:∀ (k:Nat) (c:Ch),cs[k]? =some c->outs k=false->R k=true->∀ y∈c.nd,R y=true
 only:∀ x,R x=true->x∈ns\/∃ (k:Nat) (c:Ch),cs[k]? =some c/\outs k=false/\R k=true/\x∈c.nd
def MQ(nd:vD)(there:wC):Option Int:=nd.find? λx=> !there x
def zjg(h:∀ x∈nd,there x=true):MQ nd there=none:=jz.mpr λx a=>by rw[h x a];exact ay
structure Pass where
 out:wD
 held:List (Nat × Int)
 gone:Int->Bool
def DI(cs:yD)(outs:wC)(s:Pass)(k:Nat):Pass :=
 if outs k||s.gone k then s else
  match (cs[k]?).bind λc=>MQ c.nd λx=>outs x||s.gone x with
  |none=>{s.out++[k],s.held,λx=>s.gone x||x ==(k:Int)}
  |some l=>{s.out,s.held++[(k,l)],s.gone}
def outcome(cs:yD)(outs taken:wC)(b:Nat):Pass:=(DH cs b).foldl (DI cs outs) {[],[],taken}
def HP(cs:yD)(outs:wC)(r:vE)(k:Nat):vE :=
 if outs k then match cs[k]? with
  |some c=>r.set c.cell c.val
  |none=>r
 else r
def E7(cs:yD)(outs:wC)(b:Nat)(row:vE):vE:=(DH cs b).foldl (HP cs outs) row
def DJ(cs:yD)(outs:wC)(b:Nat):Int->Bool:=λx=>outs x||(outcome cs outs (λ_=>false) b).out.any λ(k:Nat)=>x ==(k:Int)
def zjh(r:vE)(k:Nat):(HP cs outs r k).length=r.length:=by
 unfold HP;split;split;rw[ka]
 rfl
 rfl
theorem YV:∀ (l:wD) (r:vE),(l.foldl (HP cs outs) r).length=r.length
 | [],r=>rfl
 |k::l,r=>by rw[fq,YV l,zjh]
def sK:(E7 cs outs b row).length=row.length:=YV _ _
theorem YW:∀ (l:wD) (s:Pass),(l.foldl (DI cs outs) s).out.length+(l.foldl (DI cs outs) s).held.length<=s.out.length+s.held.length+l.length
 | [],s=>by simp
 |k::l,s=>by
  rw[fq]
  have h2:(DI cs outs s k).out.length+(DI cs outs s k).held.length<=s.out.length+s.held.length+1:=by
   unfold DI;split;exact jr _;split<;>simp<;>omega
  have h:=YW (cs:=cs) (outs:=outs) l (DI cs outs s k);simp only[bw]
  lia
def sL{α a :Type}(f: a -> α -> a)(b: a){l:List α}{i:Nat}{x: α}(h:l[i]? =some x):(l.take<|i+1).foldl f b=f ((l.take i).foldl f b) x:=by
 let[c,e]:=ζ.mp h;rw[<-e,<-lg c,ko]
 rfl
theorem sM(b:Nat):∀ l:yD,G5 l b=(τ l.length).filter λ(k:Nat)=>(l.reverse[k]?).any λc=>c.blk == b
 | []=>rfl
 |c::r=>by
  have e:(τ r.length).filter (λk=>((c::r).reverse[k]?).any λc=>c.blk==b)=G5 r b:=by
   rw[(sM b r)];refine ug λk a=>?_;rw[nz,bc (by rw[gr];exact ak.mp a)]
  have d:(c::r).reverse[r.length]? =some c:=by
   simp
  rw[bw,ca,mw,e]
  show(if c.blk=b then G5 r b++[r.length]else G5 r b)=_;by_cases h:c.blk=b;simp[h];simp[h]
def sN(cs:yD)(b:Nat):DH cs b=(τ cs.length).filter λ(k:Nat)=>(cs[k]?).any λc=>c.blk==b:=by
 have:=sM b cs.reverse;rw[ve,gr]at this;exact this
def zji(cs:yD)(b:Nat):(DH cs b).Pairwise (· <·):=by
 rw[sN];exact ip.filter _
def UI:k∈DH cs b↔∃ c,cs[k]? =some c/\c.blk=b:=by
 rw[sN,de,ak];constructor;intro[h,h2];rw[θ h]at h2 ⊢;exact{_,rfl,by simpa using h2};intro[c,e,rfl];exact{(ζ.mp e).1,by rw[e];simp}
def sO(s:Pass)(k:Nat):DI cs outs s k=s\/(outs k=false/\DI cs outs s k={s.out++[k],s.held,λx=>s.gone x||x ==(k:Int)})\/∃ l,DI cs outs s k={s.out,s.held++[(k,l)],s.gone}:=by
 unfold DI;split;exact .inl rfl;rename_i a;simp only[m_,not_or,yk]at a;split;exact .inr<|.inl ⟨a.1,rfl⟩;exact .inr<|.inr ⟨_,rfl⟩
theorem UJ:∀ (l:wD) (s:Pass),∃ a,(l.foldl (DI cs outs) s).out=s.out++a/\a.Sublist l/\(∀ k∈a,outs k=false)/\∀ x,(l.foldl (DI cs outs) s).gone x=(s.gone x||a.any λ(k:Nat)=>x ==(k:Int))
 | [],s=>{[],by simp,.slnil,by simp,by simp}
 |k::l,s=>by
  rw[fq];let[a,h1,h2,h3,h4]:=UJ   l (DI cs _ s k);let e||[c,e]||[d,e]:=sO   s k
  rw[e]at h1 h4 ⊢;exact{a,h1,h2.cons _,h3,h4};rw[e]at h1 h4 ⊢;refine{_,by rw[h1];simp,h2.cons_cons _,λx b=>?_,λx=>(by rw[h4,rj,li])};let rfl||b:=aj.mp b
  exact c;exact h3 x b;rw[e]at h1 h4 ⊢;exact{a,h1,h2.cons _,h3,h4}
def UK:(outcome cs outs (λ_=>false) b).out.Pairwise (· <·)/\(∀ k∈(outcome cs outs (λ_=>false) b).out,outs k=false/\k∈DH cs b)/\∀ x,(outcome cs outs (λ_=>false) b).gone x=(outcome cs outs (λ_=>false) b).out.any λ(k:Nat)=>x ==(k:Int):=by
 let[c,h1,h2,h3,h4]:=UJ   _ _
 have e:(outcome cs outs (λz=>false) b).out=c:=by unfold outcome;rw[h1];rfl
 rw[e];exact{(zji cs b).sublist h2,λk a=>{h3 k a,h2.subset a},λx=>by unfold outcome;rw[h4];simp}
def UL(H:Hp)(t ol a:Addr)(out:wD)(held:List (Nat × Int)):Prop:=H t=some (.tup [.ref ol,.ref a])/\H ol=some (.lst<|out.map λ(k:Nat)=>V.int k)/\∃ hs:xC,H a=some (.lst<|hs.map V.ref)/\Paired (λx (p:Nat × Int)=>H x=some (.tup [.int p.1,.int p.2])) hs held
def YX(cs:yD)(r:vE)(k:Nat):vE:=match cs[k]? with
 |some c=>r.set c.cell c.val
 |none=>r
def UM(cs:yD)(a:wD)(row:vE):vE:=a.foldl (YX cs) row
def zjj(cs:yD)(O:wC)(b:Nat)(row:vE):E7 cs O b row=UM cs ((DH cs b).filter λ(k:Nat)=>O k) row:=by
 unfold E7 UM;rw[List.foldl_filter]
 rfl
def JJ(cs:yD):wD->Nat->Option Ch
 | [],_=>none
 |k::r,j=>match JJ cs r j with
  |some c=>some c
  |none=>(cs[k]?).filter λc=>c.cell==j
def YY(cs:yD)(k:Nat)(r:wD)(j:Nat):JJ cs (k::r) j=match JJ cs r j with
  |some c=>some c
  |none=>(cs[k]?).filter λc=>c.cell==j:=rfl
theorem sP(cs:yD)(j:Nat):∀ (g:wD) (row:vE),(UM cs g row)[j]? =(row[j]?).map λv=>((JJ cs g j).map (·.val)).getD v
 | [],row=>by
  show row[j]? =_;cases row[j]? <;>rfl
 | k::r,row=>by
  show(UM cs r _)[j]? =_;rw[sP cs j r,YY];cases h:JJ cs r j with
  |some c =>
   unfold YX;cases e:cs[k]? with
   |none=>rfl
   |some b =>
    rw[Fi];by_cases d:b.cell=j;subst d;rw[if_pos rfl];by_cases a:b.cell<row.length;rw[if_pos a,θ a];rfl;rw[if_neg a,bu<|cm a];rw[if_neg d]
  |none =>
   unfold YX;cases e:cs[k]? with
   |none=>rfl
   |some b =>
    rw[Fi];by_cases d:b.cell=j;subst d;rw[if_pos rfl];by_cases a:b.cell<row.length;rw[if_pos a,θ a];simp[Bn];rw[if_neg a,bu<|cm a];rfl;rw[if_neg d]
    have:(Bn (λc=>c.cell==j) (some b))=none:=by simp[d]
    rw[this]
theorem sQ:∀ {d:wD},JJ cs d j=some c->∃ k∈d,cs[k]? =some c/\c.cell=j/\(d.Pairwise (· <·)->∀ g∈d,k<g->∀ i,cs[g]? =some i->i.cell≠j)
 | [],h=>by cases h
 | k::r,h=>by
  rw[YY]at h;cases e:JJ cs r j with
  |some v =>
   rw[e]at h;cases h;let[k1,h1,h2,h3,h4]:=sQ e;refine{k1,ρ _ h1,h2,h3,λp g a q i b=>?_};let[w,x]:=mq.mp p;let rfl||a:=aj.mp a
   have:=w k1 h1;lia;exact h4 x g a q i b
  | none =>
   rw[e]at h;cases b:cs[k]? with
   |none=>rw[b]at h;cases h
   |some s =>
    rw[b]at h
    have n:s.cell=j/\s=c:=by
     simp only[Bn]at h;split at h;rename_i y;obtain rfl:=μ h;exact{by simpa using y,rfl};cases h
    let[n,rfl]:=n;refine{k,υ ..,b,n,λp g a q i o=>?_};let rfl||a:=aj.mp a
    lia
    exact lastAt_no e g a i o
where
 lastAt_no {cs:yD} {j:Nat}:∀ {d:List _},JJ cs d j=none->∀ k∈d,∀ c,cs[k]? =some c->c.cell≠j
  | [],_,k,l=>by cases l
  |k0::r,h,k,l=>λc b u=>by
   rw[YY]at h;cases e:JJ cs r j with
   |some v=>rw[e]at h;cases h
   |none =>
    rw[e]at h;let rfl||l:=aj.mp l
    rw[b]at h;simp[u]at h;exact lastAt_no e k l c b u
theorem sR:∀ {l:yD} {k:Nat} {c:Ch},l.reverse[k]? =some c->(c.blk:Int)=i->(c.cell:Int)=j->∃ a b,MO l i j=some a/\k<=a/\l.reverse[a]? =some b/\(b.blk:Int)=i/\(b.cell:Int)=j
 | [],k,c,h,_,_=>by simp at h
 |e::r,k,c,h,h1,h2=>by
  have g:=(ζ.mp h).1;rw[gr]at g;unfold MO;by_cases d:e.blk=i/\e.cell=j;rw[if_pos d];refine x2 _ e {rfl,dq g,?_,d};simp;rw[if_neg d]
  have o:k<r.length:=by
   let z||z:=fe k _
   exact z;exfalso
   have  :=ke (dq g) z;subst this;simp at h;subst h;exact d ⟨h1,h2⟩
  rw[nz,bc (by rw[gr];exact o)]at h;refine u2 ?_<|sR h h1 h2;intro a b [n,p,q,s];refine x2 a b {n,p,?_,s};rw[nz,bc (by rw[gr];exact(YQ n))];exact q
def zjk(h:cs[k]? =some c):∃ a b,D5 cs c.blk c.cell=some a/\k<=a/\cs[a]? =some b/\b.blk=c.blk/\b.cell=c.cell:=by
 refine u2 ?_ (sR    (by rw[ve];exact h) rfl rfl);intro a b [e,g,d,i,j];rw[ve]at d;exact x2 a b {e,g,d,ce i,ce j}
def UN(cs:yD)(outs:wC):Prop:=∀ (k:Nat) (c:Ch),cs[k]? =some c->outs k=true->∀ y∈c.nd,outs y=true
def zjl(s:Pass)(k:Nat)(h:(DI cs outs s k).out=s.out++[k]):∀ c,cs[k]? =some c->∀ y∈c.nd,(outs y||s.gone y)=true:=λc a y b=>by
 unfold DI at h;split at h;exact absurd h (by intro z;have:=congrArg ji z;simp at this);rw[a]at h;split at h;rename_i d
 have:=jz.mp d y b;cases e:(outs y||s.gone y)with
 |true=>rfl
 |false =>
  have this:¬ (!(outs y||s.gone y))=true:=this;rw[e]at this;exact absurd rfl this
 exact absurd h (by intro z;have:=congrArg ji z;simp at this)
theorem sT:∀ (l:wD) (s:Pass),(∀ k∈s.out,∀ c,cs[k]? =some c->∀ y∈c.nd,(outs y||s.gone y)=true)->∀ k∈(l.foldl (DI cs outs) s).out,∀ c,cs[k]? =some c->∀ y∈c.nd,(outs y||(l.foldl (DI cs outs) s).gone y)=true
 | [],s,h=>h
 |k::l,s,h=>by
  refine sT l _ ?_;let e||[i,e]||[j,e]:=sO   s k
  rw[e];exact h;rw[e];intro g a c b y d;let a||a:=bd.mp a
  rw[<-li,(h g a c b y d),ph];rw[aa.mp a]at b;rw[<-li,((zjl   s k (by rw[e])) c b y d),ph];rw[e];exact h
def zjm(cut:UN cs outs)(b:Nat):UN cs (DJ cs outs b):=λk c g a y i=>by
 let[z,z,j]:=UK;unfold DJ at a ⊢;rw[m_]at a;let a||a:=a
 rw[cut k c g a y i,ph];let[l,d,e]:=dn.mp a
 have e:(k:Int)=l:=by simpa using e
 have e:=ce e;subst e;rw[<-j y];exact(sT   _ _ (by simp) k d c g y i)
def zjn{cs:yD}{outs:wC}{b k:Nat}:DJ cs outs b k=true↔outs k=true\/k∈(outcome cs outs (λ_=>false) b).out:=by
 unfold DJ;rw[m_,dn];constructor;rintro (h|⟨c,a,e⟩);exact .inl h;exact .inr ((ce (by simpa using e)) ▸ a);rintro (h|h);exact .inl h;exact .inr {k,h,by simp}
theorem UO{outs tk:wC}:∀ (l:wD) (s a:Pass),s.out=a.out->s.held=a.held->(∀ x,s.gone x=(tk x||a.gone x))->(l.foldl (DI cs outs) s).out=(l.foldl (DI cs λx=>outs x||tk x) a).out
 | [],s,a,h,_,_=>h
 |k::l,s,a,h1,h2,h3=>by
  rw[fq,fq]
  have b:(λx=>outs x||s.gone x)=λx=>(outs x||tk x)||a.gone x:=by funext x;rw[h3,li]
  have c:=congrFun b k;let[d,h',e]:=a;simp only at h1 h2 h3 b c;subst h1 h2;unfold DI;simp only[c,b];split;exact UO l _ _ rfl rfl h3;split;exact UO l _ _ rfl rfl λx=>by simp only[h3,li]
  exact UO l _ _ rfl rfl h3
def zjo{outs tk:wC}:(outcome cs outs tk b).out=(outcome cs (λx=>outs x||tk x) (λ_=>false) b).out:=UO _ _ _ rfl rfl λx=>by simp
def zjp{cs:yD}{outs:wC}{k:Nat}{c:Ch}(a:cs[k]? =some c)(d:outs k=false)(g:∀ x∈c.nd,outs x=true):DJ cs outs c.blk k=true:=by
 let[b,l2,e]:=List.append_of_mem<|UI.mpr ⟨c,a,rfl⟩;rw[zjn];refine .inr ?_;unfold outcome;let[i,h1,_,_,h4]:=UJ   b _;rw[e,ko,fq];generalize yt (DI cs _) _ b=s at h1 h4
 have st:k∈(DI cs outs s k).out:=by
  unfold DI;split;rename_i h;rw[d,h4]at h;obtain⟨y,j,e⟩:∃ y,y∈i/\k=(y:Int):=by simpa using h
  rw[h1]
  have:y=k:=by lia
  exact bt _<|this ▸ j;rw[a,Ha,zjg λx l=>by rw[g x l,ph]];simp
 let[n,h5,_]:=UJ   l2 _;rw[h5];exact jg _ st
inductive GB(cs:yD):(Int->Bool)->wD->wD->Prop
 |nil {outs:wC}:GB cs outs [] []
 |cons {outs:wC} {k:Nat} {r row:wD} {c:Ch} (e:cs[k]? =some c) (h:GB cs (DJ cs outs c.blk) ((k::r).filter λ(x:Nat)=> !DJ cs outs c.blk x) row):GB cs outs (k::r) (c.blk::row)
abbrev EO(n:Nat)(outs R:wC):wD:=((τ n).filter λ(k:Nat)=> !outs k).filter λ(k:Nat)=>R k
def UP(h:outs x=true):DJ cs outs b x=true:=by unfold DJ;rw[h,ph]
def zjq(cs:yD)(n:Nat)(outs R:wC)(b:Nat):(EO n outs R).filter (λ(x:Nat)=> !DJ cs outs b x)=EO n (DJ cs outs b) R:=by
 simp only[Ci];refine ug λx z=>?_;cases h:outs x with
 |true=>rw[UP h];simp
 |false=>cases R x<;>simp
def zjr(n:Nat)(outs R:wC):(EO n outs R).Pairwise (· <·):=(ip.filter _).filter _
def N0:k∈EO n outs R↔k<n/\outs k=false/\R k=true:=by
 simp only[de,ak];constructor;intro[[h1,h2],h3];exact{h1,by simpa using h2,h3};intro[h1,h2,h3];exact{{h1,by rw[h2];rfl},h3}
def zjs{cs:yD}{outs R:wC}{k:Nat}{r:wD}{c:Ch}(j:∀ (k:Nat) (c:Ch),cs[k]? =some c->∀ x∈c.nd,0<=x/\x<k)(up:∀ (k:Nat) (c:Ch),cs[k]? =some c->outs k=false->R k=true->∀ y∈c.nd,R y=true)(e:EO cs.length outs R=k::r)(b:cs[k]? =some c):DJ cs outs c.blk k=true:=by
 have d:=N0.mp (show k∈EO _ _ R by rw[e];exact υ ..);refine zjp b d.2.1 λx g=>?_;let[h1,h2]:=j k c b x g;cases l:outs x with
 |true=>rfl
 |false =>
  obtain⟨y,rfl⟩:∃ y:Nat,x=y:={x.toNat,by lia}
  have a:=zjr cs.length outs R
  have i:y∈EO cs.length _ R:=N0.mpr {by omega,l,up k c b d.2.1 d.2.2 y g};rw[e]at i a;let h||h:=aj.mp i
  omega
  have:=(mq.mp a).1 y h;omega
def zjt{l:wD}{p:zC}(h:k∈l)(a:p k=false):(l.filter p).length<l.length:=(List.length_filter_lt_length_iff_exists  ).mpr {k,h,by rw[a];exact ay}
structure D9(K:W.Frag)(a:Ad):Prop where
 cl:Cls K (a "Layout")
 n1:NoAttr K (a "Layout") "name_blocks"
 n2:NoAttr K (a "Layout") "record_blocks"
 n3:NoAttr K (a "Layout") "piece_blocks"
 n4:NoAttr K (a "Layout") "width"
section
variable{n r c w:Int}
def lf(n r c w:Int):vB:=[("name_blocks",.int n),("record_blocks",.int r),("piece_blocks",.int c),("width",.int w)]
def UQ:(lf n r c w).lookup ("name_blocks":Str)=some (V.int n):=by simp[lf]
def QZ:(lf n r c w).lookup ("record_blocks":Str)=some (V.int r):=by
 simp[lf,ao,BD (a:="record_blocks") (b:="name_blocks") (by decide)]
def YZ:(lf n r c w).lookup ("piece_blocks":Str)=some (V.int c):=by
 simp[lf,ao,BD (a:="piece_blocks") (b:="name_blocks") (by decide),BD (a:="piece_blocks") (b:="record_blocks") (by decide)]
def N1:(lf n r c w).lookup ("width":Str)=some (V.int w):=by
 simp[lf,ao,BD (a:="width") (b:="name_blocks") (by decide),BD (a:="width") (b:="record_blocks") (by decide),BD (a:="width") (b:="piece_blocks") (by decide)]
def BY(h:(D2 x "name_blocks" || D2 x "record_blocks" || D2 x "piece_blocks" || D2 x "width")=false:=by decide +kernel):(lf n r c w).lookup x=none:=by
 simp only[fj]at h;let[[[h1,h2],h3],h4]:=h;simp[lf,ao,BD h1,BD h2,BD h3,BD h4]
end
structure LayAt(a:Ad)(H:Hp)(p:Addr)(n r c w:Nat):Prop where
 ob:∃ dx,H p=some (.ins (a "Layout") dx (lf n r c w))
 hn:n<=100
 hr:r<=100
 hc:c<=100
 h1:1<=w
 hw:w<=100
def LayAt.same(L:LayAt a H p n r c w)(s:Same H b):LayAt a b p n r c w:=by
 let[[d,e],g,i,j,l,o]:=L;exact{{d,s _ _ e},g,i,j,l,o}
def LayAt.sb(L:LayAt a H p n r c w)(s:SameBut F H b)(f:¬ F p):LayAt a b p n r c w:=by
 let[[d,e],g,i,j,l,o]:=L;exact{{d,s _ _ e f},g,i,j,l,o}
example:(Y0):=∃ (p d:Addr) (n r c w:Nat),vs=[.ref p,.int n,.int r,.int c,.int w]/\D9 K a/\H p=some (.ins (a "Layout") d [])/\n<=100/\r<=100/\c<=100/\1<=w/\w<=100 ∧
 ∀ b,LayAt a b p n r c w->SameBut (· =p) H b->Q .non b
def G6(x y:Int)(Q:VK)(H:Hp):Prop:=∀ t,H t=none->Q (.ref t) (upd H t<|.tup [.int x,.int y])
example:(MR):=∃ (p:Addr) (n r c w k:Nat) (b:Int),vs=[.ref p,.int b,.int k]/\D9 K a/\LayAt a H p n r c w/\G6 (b+k/w) (k%w) Q H
example:(JK):=∃ (p:Addr) (n r c w k:Nat),vs=[.ref p,.int k]/\D9 K a/\LayAt a H p n r c w/\G6 (0+k/w) (k%w) Q H
example:(G7):=∃ (p:Addr) (n r c w k:Nat),vs=[.ref p,.int k]/\D9 K a/\LayAt a H p n r c w/\G6 (n+k/w) (k%w) Q H
example:(LN):=∃ (p:Addr) (n r c w k:Nat),vs=[.ref p,.int k]/\D9 K a/\LayAt a H p n r c w/\G6 (n+r+k/w) (k%w) Q H
example:(KH):=∃ (p:Addr) (n r c w k:Nat),vs=[.ref p,.int k]/\D9 K a/\LayAt a H p n r c w/\G6 (n+r+c+k/w) (k%w) Q H
example:(KJ):=∃ (p:Addr) (n r c w k:Nat),vs=[.ref p,.int k]/\D9 K a/\LayAt a H p n r c w/\G6 (n+r+c+r+k/w) (k%w) Q H
example:(Q0):=∃ (p:Addr) (n r c w:Nat),vs=[.ref p]/\D9 K a/\LayAt a H p n r c w/\Q (.int<|n+r+c) H
example:(Q1):=∃ (p:Addr) (n r c w:Nat),vs=[.ref p]/\D9 K a/\LayAt a H p n r c w/\Q (.int<|n+r+c+r+c) H
example:(LP):=∃ (p:Addr) (n r c w:Nat),vs=[.ref p]/\D9 K a/\LayAt a H p n r c w/\∀ t,H t=none->Q (.ref t) (upd H t<|.tup [.int (n*w),.int<|r*w,.int<|c*w])
example:(Y1):=∃ (p:Addr) (n r c w:Nat),vs=[.ref p]/\D9 K a/\DR K a/\LayAt a H p n r c w /\
 ∀ x d b,H x=none->H d=none->PlankAt a b x d w (ba (n+r+c+r+c) (ba w .non)) 0->Same H b->Q (.ref x) b
inductive CV where
 |no
 |nm (z:Str) (k:Nat)
 |mk (i:Nat)
 |rc (m:Nat) (ps:wD)
 |tx (z:Str)
abbrev Md:=Nat->Nat->CV
def Md.put(M:Md)(kind k:Nat)(x:CV):Md:=λi j=>if i=kind/\j=k then x else M i j
structure AC where
 kind:Nat
 k:Nat
 x:CV
 nd:wD
abbrev _root_.uE:=List AC
def sh(M0:Md)(C:zC):uE->Md
 | []=>M0
 |a::r=>if C r.length then(sh M0 C r).put a.kind a.k a.x else sh M0 C r
abbrev hnd(M0:Md)(as:uE):Md:=sh M0 (λ_=>true) as
def G8(kind k:Nat):uE->Option Nat
 | []=>none
 |a::r=>if a.kind=kind/\a.k=k then some r.length else G8 kind k r
def FF(C:zC):uE->Prop
 | []=>True
 |a::r=>FF C r/\(C r.length=true->(∀ y∈a.nd,C y=true)/\∀ j,G8 a.kind a.k r=some j->C j=true)
section
variable{M0 S:Md}{C:zC}{as:uE}{kind k m0:Nat}{x:CV}
def CT:S.put kind k x kind k=x:=if_pos ⟨rfl,rfl⟩
def MS(h:i≠kind):S.put kind k x i j=S i j:=if_neg λz=>h z.1
def DS(h:j≠k):S.put kind k x i j=S i j:=if_neg λz=>h z.2
def Q2(h:∀ j,G8 kind k as=some j->C j=true):sh M0 C as kind k=hnd M0 as kind k:=by
 induction as with
 |nil=>rfl
 |cons a r d =>
  unfold G8 at h;simp only[sh,if_true];by_cases e:a.kind=kind/\a.k=k;rw[if_pos e]at h;let[rfl,rfl]:=e;rw[h _ rfl];simp only[if_true];rw[CT,CT];rw[if_neg e]at h
  have:=d h
  have b:¬ (kind=a.kind/\k=a.k):=λz=>e ⟨z.1.symm,z.2.symm⟩;unfold Md.put;rw[if_neg b];by_cases c:C r.length=true;rw[if_pos c,if_neg b];exact this;rw[if_neg c];exact this
def zju(h:FF C (a::as)):FF C as:=h.1
def KK(h:FF C (a::as))(c:C as.length=true):sh M0 C as a.kind a.k=hnd M0 as a.kind a.k:=Q2 (h.2 c).2
def IK:hnd M0 (a::as)=(hnd M0 as).put a.kind a.k a.x:=rfl
def CY(c:C as.length=true):sh M0 C (a::as)=(sh M0 C as).put a.kind a.k a.x:=if_pos c
def EJ(c:¬ C as.length=true):sh M0 C (a::as)=sh M0 C as:=if_neg c
def GS:CV->Nat->Bool
 |.nm _ a,r=>a==r
 |_,_=>false
def ld(m0:Nat)(S:Md)(r:Nat):Nat:=(τ m0).countP λk=>GS (S 0 k) r
def zjv(h:kind≠0):ld m0 (S.put kind k x) r=ld m0 S r:=by
 unfold ld
 congr 1
 funext j;rw[MS h.symm]
def Y2:∀ {m0:Nat},k<m0->ld m0 (S.put 0 k x) r+(if GS (S 0 k) r then 1 else 0)=ld m0 S r+(if GS x r then 1 else 0):=by
 intro m0;unfold ld
 induction m0 with
 |zero=>intro h;exact nZ h
 |succ n b =>
  rw[ca,tq,tq];simp only[yl,Ii];by_cases e:k=n;subst e
  have:(τ k).countP (λj=>GS ((S.put 0 k x) 0 j) r)=(τ k).countP (λj=>GS _ r):=Fn λj a=>by
   rw[DS (bh<|ak.mp a)]
  rw[CT]
  lia
  rw[DS (λz=>e z.symm)]
  lia
structure Snd(m0:Nat)(S:Md):Prop where
 nl:∀ k z r,k<m0->S 0 k=.nm z r->∃ m ps,S 3 r=.rc m ps
 ct:∀ r m ps,S 3 r=.rc m ps->ld m0 S r<=m
 mr:∀ r m ps,S 3 r=.rc m ps->S 1 r=.mk 1
 nd:∀ r m ps,S 3 r=.rc m ps->ps.Nodup
 pm:∀ r m ps,S 3 r=.rc m ps->∀ p∈ps,S 2 p=.mk 1/\∃ t,S 4 p=.tx t
 dj:∀ r r' m m' ps ps',r≠r'->S 3 r=.rc m ps->S 3 r'=.rc m' ps'->∀ p∈ps,p∉ps'
 un:∀ k k' z r r',k<m0->k'<m0->S 0 k=.nm z r->S 0 k'=.nm z r'->k=k'
def Snd.rmark(I:Snd m0 S)(h:i=1\/∀ m ps,S 3 r≠.rc m ps):Snd m0 (S.put 1 r<|.mk i):=by
 refine{I.nl,λa m ps e=>I.ct a m ps e,λa m ps e=>?_,I.nd,I.pm,I.dj,I.un};by_cases z:a=r;subst z;rw[CT];let h||h:=h
 rw[h];exact absurd e<|h m ps;rw[DS z];exact I.mr a m ps e
def Snd.pmark(I:Snd m0 S)(h:i=1\/∀ r m ps,S 3 r=.rc m ps->p∉ps):Snd m0 (S.put 2 p<|.mk i):=by
 refine{I.nl,λa m ps e=>I.ct a m ps e,I.mr,I.nd,λa m ps e q b=>{?_,(I.pm a m ps e q b).2},I.dj,I.un};by_cases z:q=p;subst z;rw[CT];let h||h:=h
 rw[h];exact absurd b<|h a m ps e;rw[DS z];exact(I.pm a m ps e q b).1
def Snd.text(I:Snd m0 S):Snd m0 (S.put 4 p<|.tx t):=by
 refine{I.nl,λa m ps e=>I.ct a m ps e,I.mr,I.nd,λa m ps e q b=>{(I.pm a m ps e q b).1,?_},I.dj,I.un};by_cases z:q=p;subst z;exact⟨t,CT⟩;rw[DS z];exact(I.pm a m ps e q b).2
def Snd.gone(I:Snd m0 S)(b:k<m0):Snd m0 (S.put 0 k .no):=by
 have a:∀ {j z r},(S.put 0 k .no) 0 j=.nm z r->S 0 j=.nm z r:=λ{j z r} e=>by
  by_cases h:j=k;subst h;rw[CT]at e;cases e;rw[DS h]at e;exact e
 refine{λj z r d e=>I.nl j z r d<|a e,λr m ps e=>?_,I.mr,I.nd,I.pm,I.dj,λj g z r i h h' e n=>I.un j g z r i h h' (a e) (a n)}
 have l:=Y2 (S:=S) (x:=.no) (r:=r) b
 have c:=I.ct r m ps e;rw[show GS .no r=false from rfl]at l;simp only[mv]at l
 lia
def Snd.fill(I:Snd m0 S)(g:k<m0)(h3:S 3 r=.rc m ps)(i:ld m0 S r+1<=m)(hz:∀ j n,j<m0->S 0 j≠.nm z n)(h0:∀ z r,S 0 k≠.nm z r):Snd m0 (S.put 0 k<|.nm z r):=by
 have a:∀ {j y q},(S.put 0 k<|.nm z r) 0 j=.nm y q->(j=k/\y=z/\q=r)\/(j≠k/\S 0 j=.nm y q):=λ{j y q} e=>by
  by_cases h:j=k;subst h;rw[CT]at e;cases e;exact .inl ⟨rfl,rfl,rfl⟩;rw[DS h]at e;exact .inr ⟨h,e⟩
 refine{λj y q o e=>?_,λq c p e=>?_,I.mr,I.nd,I.pm,I.dj,λj s y q u h h' e v=>?_};let[_,_,rfl]||[_,e]:=a e
 exact x2 m ps h3;exact I.nl j y q o e
 have l:=Y2 (S:=S) (x:=.nm z r) (r:=q) g
 have e:S 3 q=.rc c _:=e;simp only[GS]at l;by_cases z:r=q;subst z;rw[e]at h3;cases h3;simp at l;exact l ▸ i;simp[z]at l;exact l ▸ (I.ct q c _ e);let[d,b,_]||[d,b]:=a e<;>let[f1,f2,_]||[f1,f2]:=a v
 rw[d,f1];subst b;exact absurd f2<|hz _ _ h';subst f2;exact absurd b<|hz _ _ h;exact I.un j s y q u h h' b f2
def Snd.recd(I:Snd m0 S)(o:ld m0 S r<=c)(s:S 1 r=.mk 1)(u:b.Nodup)(d:∀ p∈b,(S 2 p=.mk 1/\∃ t,S 4 p=.tx t)/\∀ q m ps,q≠r->S 3 q=.rc m ps->p∉ps):Snd m0 (S.put 3 r<|.rc c b):=by
 have a:∀ {q m ps},(S.put 3 r<|.rc c b) 3 q=.rc m ps->(q=r/\m=c/\ps=b)\/(q≠r/\S 3 q=.rc m ps):=λ{q m ps} e=>by
  by_cases h:q=r;subst h;rw[CT]at e;cases e;exact .inl ⟨rfl,rfl,rfl⟩;rw[DS h]at e;exact .inr ⟨h,e⟩
 refine{λj z q v e=>?_,λq m ps e=>?_,λq m ps e=>?_,λq m ps e=>?_,λq m ps e p h=>?_,λq i m l ps w ne e A p h=>?_,I.un};by_cases h:q=r;subst h;exact x2 c _ CT;rw[DS h];exact I.nl j z q v e;let[rfl,rfl,_]||[_,e]:=a e
 exact o;exact I.ct q m ps e;let[rfl,_,_]||[_,e]:=a e
 exact s;exact I.mr q m ps e;let[_,_,rfl]||[_,e]:=a e
 exact u;exact I.nd q m ps e;let[_,_,rfl]||[_,e]:=a e
 exact(d p h).1;exact I.pm q m ps e p h;let[g,_,rfl]||[g,n]:=a e<;>let[f1,_,rfl]||[f1,f2]:=a A
 exact absurd (g.trans f1.symm) ne;exact(d p h).2 i l _ (λz=>ne<|g.trans z.symm) f2;exact λz=>(d p z).2 q m ps (λy=>ne<|y.trans f1.symm) n h;exact I.dj q i m l ps _ ne n f2 p h
def Snd.count(I:Snd m0 S)(h3:S 3 r=.rc m ps)(b:ld m0 S r<=c):Snd m0 (S.put 3 r<|.rc c ps) :=
 I.recd b (I.mr r m ps h3) (I.nd r m ps h3) λp a=>{I.pm r m ps h3 p a,λq d g ne e=>I.dj r q m d ps _ ne.symm h3 e p a}
def Snd.less(I:Snd m0 S)(h3:S 3 r=.rc m ps)(hs:a.Sublist ps):Snd m0 (S.put 3 r<|.rc m a) :=
 I.recd (I.ct r m ps h3) (I.mr r m ps h3) ((I.nd r m ps h3).sublist hs) λp b=>{I.pm r m ps h3 p<|hs.subset b,λq c d ne e=>I.dj r q m c ps _ ne.symm h3 e p<|hs.subset b}
def Snd.more(I:Snd m0 S)(h3:S 3 r=.rc m ps)(h2:S 2 p=.mk 1)(h4:S 4 p=.tx t)(d:∀ q m ps,S 3 q=.rc m ps->p∉ps):Snd m0 (S.put 3 r<|.rc m<|ps++[p]):=by
 refine I.recd (I.ct r m ps h3) (I.mr r m ps h3) (nw.mpr {I.nd r m ps h3,by simp,λx g y a e=>?_}) λy a=>?_;rw[aa]at a;subst a e;exact d r m ps h3 g;let a||a:=bd.mp a
 exact{I.pm r m ps h3 y a,λq b c ne e=>I.dj r q m b ps _ ne.symm h3 e y a};rw[aa.mp a];exact{⟨h2,t,h4⟩,λq b c z e=>d q b _ e}
def Snd.drop(I:Snd m0 S)(c:ld m0 S r=0):Snd m0 (S.put 3 r .no):=by
 have a:∀ {q m ps},(S.put 3 r .no) 3 q=.rc m ps->S 3 q=.rc m ps:=λ{q m ps} e=>by
  by_cases h:q=r;subst h;rw[CT]at e;cases e;rw[DS h]at e;exact e
 refine{λj z q b e=>?_,λq m ps e=>(I.ct q m ps<|a e),λq m ps e=>I.mr q m ps<|a e,λq m ps e=>I.nd q m ps<|a e,λq m ps e=>I.pm q m ps<|a e,λq d m g ps i ne e l=>I.dj q d m g ps _ ne (a e) (a l),I.un};by_cases h:q=r;subst h
 have:0<ld m0 S q:=vo.mpr {j,ak.mpr b,by have e:S 0 j=.nm z q:=e;simp[e,GS]};exact absurd (c ▸ this) (by decide);rw[DS h];exact I.nl j z q b e
structure Hist(m0:Nat)(M0:Md)(as:uE)(t o:Str->Option Nat):Prop where
 sd:∀ C,FF C as->Snd m0 (sh M0 C as)
 k1:∀ z k r,k<m0->hnd M0 as 0 k=.nm z r->G8 0 k as=o z
 k2:∀ z,(∀ k r,k<m0->hnd M0 as 0 k≠.nm z r)->t z=o z
 k3:∀ C z,FF C as->(∀ j,o z=some j->C j=true)->∀ k r,k<m0->(sh M0 C as 0 k=.nm z r↔hnd M0 as 0 k=.nm z r)
theorem UR:∀ as:uE,FF (λ_=>true) as
 | []=>trivial
 |_::r=>{UR r,λ_=>{λ_ _=>rfl,λ_ _=>rfl}}
variable{t o:Str->Option Nat}
def Hist.now(I:Hist m0 M0 as t o):Snd m0 (hnd M0 as):=I.sd _<|UR as
def Hist.step(I:Hist m0 M0 as t o)(i:a.kind≠0)(h:∀ C,FF C (a::as)->C as.length=true->Snd m0 ((sh M0 C as).put a.kind a.k a.x)):Hist m0 M0 (a::as) t o:=by
 have j:∀ (C:zC) (k:Nat),sh M0 C _ 0 k=sh M0 C as 0 k:=λC k=>by
  by_cases c:C as.length=true;rw[CY c,MS i.symm];rw[EJ c]
 have g:∀ k:Nat,hnd M0 _ 0 k=hnd M0 as 0 k:=j _;refine{λC d=>?_,λz k r b e=>?_,λz e=>I.k2 z λk r b=>by rw[<-g];exact e k r b,λC z d l k r b=>?_};by_cases c:C as.length=true;rw[CY c];exact h C d c;rw[EJ c];exact I.sd C d.1;rw[g]at e;unfold G8;rw[if_neg λz=>i z.1];exact I.k1 z k r b e;rw[j,g];exact I.k3 C z d.1 l k r b
def EW(f:Str->Option Nat)(z:Str)(j:Nat):Str->Option Nat:=λy=>if y=z then some j else f y
def Hist.fill(I:Hist m0 M0 as t o)(p:k<m0)(h0:hnd M0 as 0 k=.no)(hz:∀ j r,j<m0->hnd M0 as 0 j≠.nm z r)(s:∀ j,t z=some j->j∈nd)
  (h:∀ C,FF C ({0,k,.nm z r,nd}::as)->C as.length=true->∃ m ps,sh M0 C as 3 r=.rc m ps/\ld m0 (sh M0 C as) r+1<=m):Hist m0 M0 ({0,k,.nm z r,nd}::as) t (EW o z as.length):=by
 have n:∀ {j y q},j<m0->hnd M0 as 0 j=.nm y q->j≠k/\y≠z:=λ{j y q} a e=>{λl=>(by rw[l,h0]at e;cases e),λl=>hz j q a<|l ▸ e}
 have free:∀ C,FF C ({0,k,.nm z r,nd}::as)->C _=true->sh M0 C as 0 k=.no/\∀ j q,j<m0->sh M0 C as 0 j≠.nm z q:=λC b c=>{by rw[KK  b c];exact h0,λj q a e=>(hz j q a ((I.k3 C z b.1 (λi u=>(b.2 c).1 i (s i (by rw[(I.k2 z hz),u]))) j q a).mp e))}
 refine{λC b=>?_,λy j q a e=>?_,λy e=>?_,λC y b g j q a=>?_};by_cases c:C as.length=true;refine u2 ?_<|h C b c;intro m ps [h3,v];let[f1,f2]:=free C b c;rw[CY c];exact(I.sd C b.1).fill p h3 v f2 λz r e=>by rw[f1]at e;cases e
 rw[EJ c];exact I.sd C b.1;rw[IK]at e;unfold G8;by_cases d:j=k;subst d;rw[CT]at e;cases e;rw[if_pos ⟨rfl,rfl⟩];exact(if_pos rfl).symm;rw[DS d]at e;rw[if_neg λw=>d w.2.symm];unfold EW;rw[if_neg (n a e).2];exact I.k1 y j q a e
 have A:y≠z:=λw=>by
  subst w;exact e k r p (by rw[IK,CT])
 unfold EW;rw[if_neg A];refine I.k2 y λj q a l=>e j q a ?_;rw[IK,DS (n a l).1];exact l;rw[IK];by_cases c:C as.length=true;let[f1,f2]:=free C b c;rw[CY c];by_cases d:j=k;subst d;rw[CT,CT];rw[DS d,DS d];by_cases w:y=z;subst w;exact{λe=>absurd e<|f2 j q a,λe=>absurd e<|hz j q a};unfold EW at g;rw[if_neg w]at g;exact I.k3 C y b.1 g j q a;rw[EJ c];unfold EW at g;by_cases w:y=z;subst w;rw[if_pos rfl]at g;exact absurd (g _ rfl) c;rw[if_neg w]at g
 have k3:=I.k3 C y b.1 g j q a;by_cases d:j=k;subst d;rw[CT];refine{λe=>?_,λe=>absurd (by cases e;rfl) w}
 have:=k3.mp e;rw[h0]at this;cases this;rw[DS d];exact k3
def Hist.gone(I:Hist m0 M0 as t o)(i:k<m0)(h0:hnd M0 as 0 k=.nm z r):Hist m0 M0 ({0,k,.no,nd}::as) (EW t z as.length) (EW o z as.length):=by
 have un:=I.now.un
 have only:=λ{j q} b e=>un j k z q r b i e h0;refine{λC d=>?_,λy j q b e=>?_,λy e=>?_,λC y d g j q b=>?_};by_cases c:C as.length=true;rw[CY c];exact(I.sd C d.1).gone i;rw[EJ c];exact I.sd C d.1;rw[IK]at e;by_cases a:j=k;subst a;rw[CT]at e;cases e;rw[DS a]at e;unfold G8 EW;rw[if_neg λw=>a w.2.symm,if_neg λw=>a<|only b (w ▸ e)];exact I.k1 y j q b e;unfold EW;by_cases w:y=z;rw[if_pos w,if_pos w];rw[if_neg w,if_neg w];refine I.k2 y λj q b l=>e j q b ?_
 have:j≠k:=λa=>by rw[a,h0]at l;cases l;exact w rfl
 rw[IK,DS this];exact l;rw[IK];unfold EW at g;by_cases c:C as.length=true;rw[CY c];by_cases a:j=k;subst a;rw[CT,CT];rw[DS a,DS a];by_cases w:y=z;subst w;exact{λe=>absurd ((I.sd C d.1).un j k y q r b i e (by rw[KK  d c];exact h0)) a,λe=>absurd (only b e) a};rw[if_neg w]at g;exact I.k3 C y d.1 g j q b;rw[EJ c];by_cases w:y=z;subst w;rw[if_pos rfl]at g;exact absurd (g _ rfl) c;rw[if_neg w]at g
 have k3:=I.k3 C y d.1 g j q b;by_cases a:j=k;subst a;rw[CT];refine{λe=>?_,λe=>by cases e}
 have:=k3.mp e;rw[h0]at this;cases this;exact absurd rfl w;rw[DS a];exact k3
def Snd.ld0(I:Snd m0 S)(h:∀ m ps,S 3 r≠.rc m ps):ld m0 S r=0:=by
 refine List.countP_eq_zero.mpr λk b e=>?_;cases a:S 0 k with
 |nm z q =>
  simp only[a,GS,beq_iff_eq]at e;subst e;refine u2 ?_<|I.nl k z q (ak.mp b) a;rintro m ps e;exact h m ps e
 |_=>simp[a,GS]at e
def Hist.make(I:Hist m0 M0 as t o)(i:k<m0)(h0:hnd M0 as 0 k=.no)(hz:∀ j r,j<m0->hnd M0 as 0 j≠.nm z r)(h1:hnd M0 as 1 r≠.mk 1)(l:as.length+1∈nd)(n:∀ j,t z=some j->j∈nd) :
  Hist m0 M0 ({0,k,.nm z r,nd}::{3,r,.rc 1 [],[as.length]}::{1,r,.mk 1,[]}::as) t (EW o z<|as.length+2):=by
 have d:=I.step (a:={1,r,_,[]}) (by simp) λC b y=>(I.sd C b.1).rmark (.inl rfl)
 have no:∀ C,FF C ({3,r,.rc 1 [],[as.length]}::{1,r,_,[]}::as)->C _=true->ld m0 _ r=0:=λC b c=>by
  refine(d.sd C b.1).ld0 λm ps e=>?_;rw[KK  b c]at e;exact h1<|I.now.mr r m ps e
 have p:=d.step (a:={3,r,_,_}) (by simp) λC b c=>by
  refine(d.sd C b.1).recd (by rw[no C b c];decide) ?_ jv (by simp);rw[CY ((b.2 c).1 _ (by simp)),CT]
 refine p.fill i (h0) (λj q s=>hz j q s) n λC b c=>?_
 have g:=(b.2 c).1 _ l;refine x2 1 [] {by rw[CY g,CT],?_};rw[CY g,zjv (by simp),no C b.1 g];exact ο 1
def Hist.link(I:Hist m0 M0 as t o)(e:k<m0)(h0:hnd M0 as 0 k=.no)(hz:∀ j r,j<m0->hnd M0 as 0 j≠.nm z r)(h3:hnd M0 as 3 r=.rc m ps)(g:as.length∈nd)(i:∀ j,t z=some j->j∈nd) :
  Hist m0 M0 ({0,k,.nm z r,nd}::{3,r,.rc (m+1) ps,[]}::as) t (EW o z<|as.length+1):=by
 have b:∀ C,FF C ({3,r,.rc (m+1) ps,[]}::as)->C _=true->sh M0 C as 3 r=.rc m ps:=λC a c=>by
  rw[KK  a c];exact h3
 refine(I.step  (by simp) λC a c=>(I.sd C a.1).count (b C a c) (ck<|(I.sd C a.1).ct r m ps (b C a c))).fill e (h0) (λj q l=>hz j q l) i λC a c=>?_
 have d:=(a.2 c).1 _ g;refine x2 _ ps {by rw[CY d,CT],?_};rw[CY d];exact yj<|(I.sd C a.1.1).ct r m ps (b C a.1 d)
def Hist.fewer(I:Hist m0 M0 as t o)(j:k<m0)(h0:hnd M0 as 0 k=.nm z r)(h3:hnd M0 as 3 r=.rc m ps)(n:b.kind=3/\b.k=r/\as.length∈b.nd)(a:FF C (b::{0,k,.no,nd}::as))(c:C (as.length+1)=true) :
  sh M0 C ({0,k,.no,nd}::as) 3 r=.rc m ps/\ld m0 (sh M0 C ({0,k,.no,nd}::as)) r+1<=m/\sh M0 C as 3 r=.rc m ps:=by
 let[p,q,s]:=n
 have d:=(a.2 c).1 _ s
 have g:sh M0 C ({0,k,.no,nd}::as) 3 r=.rc m ps:=by
  have:=KK (M0:=M0) a c;rw[p,q]at this;rw[this];exact h3
 have i:sh M0 C as 3 r=.rc m ps:=by
  rw[CY d]at g;exact g
 have u:sh M0 C as 0 k=.nm z r:=by rw[KK  a.1 d];exact h0
 have l:=Y2 (S:=sh M0 C as) (x:=.no) (r:=r) j;refine{g,?_,i};rw[u,show GS _ r=true from by simp[GS]]at l
 have e:ld m0 (sh M0 C ({0,k,.no,nd}::as)) r=ld m0 ((sh M0 C as).put 0 k .no) r:=by rw[CY d]
 exact e ▸ l ▸ ((I.sd C a.1.1).ct r m ps i)
def Hist.unlead(I:Hist m0 M0 as t o)(a:k<m0)(h0:hnd M0 as 0 k=.nm z r)(h3:hnd M0 as 3 r=.rc (m+1) ps) :
  Hist m0 M0 ({3,r,.rc m ps,[as.length]}::{0,k,.no,nd}::as) (EW t z as.length) (EW o z as.length):=by
 have b:=I.gone (nd:=nd) a h0;exact b.step  (by simp) λC d c=>by
  let[e,g,y]:=I.fewer a h0 h3 {rfl,rfl,by simp} d c;exact(b.sd C d.1).count e (yy g)
theorem Hist.unmark:∀ {ps:wD} {bs:uE},Hist m0 M0 bs t o->(∀ C,FF C bs->C d=true->∀ q m b,sh M0 C bs 3 q=.rc m b->∀ p∈ps,p∉b)->Hist m0 M0 ((ps.map λp=>({2,p,.mk 0,[d]}:AC)).reverse++bs) t o
 | [],bs,I,_=>I
 | p::ps,bs,I,h=>by
  have:=Hist.unmark  (I.step (a:={2,p,.mk 0,[d]}) (by simp) λC g c=>(I.sd C g.1).pmark (.inr λr m b e=>h C g.1 ((g.2 c).1 d (by simp)) r m _ e p υ)) λC g j q m b e l i=>by
   have n:sh M0 C bs 3 q=.rc m b:=by
    by_cases c:C bs.length=true;rw[CY c]at e;exact e;rw[EJ c]at e;exact e
   exact h C g.1 j q m _ n l<|ρ _ i
  rw[cg,nz,dt];exact this
def zjw(h:∀ a∈cs,a.kind≠i):sh M0 C (cs++as) i j=sh M0 C as i j:=by
 induction cs with
 |nil=>rfl
 |cons a r d =>
  have d:=d λb e=>h b<|ρ _ e;rw[pi];by_cases c:C (r++as).length=true;rw[CY c,MS (h a υ).symm];exact d;rw[EJ c];exact d
def Hist.dropped(I:Hist m0 M0 as t o)(d:k<m0)(h0:hnd M0 as 0 k=.nm z r)(h3:hnd M0 as 3 r=.rc m ps)(s:m<=1) :
  Hist m0 M0 ({1,r,.mk 0,[as.length+1]}::((ps.map λp=>({2,p,.mk 0,[as.length+1]}:AC)).reverse++{3,r,.no,[as.length]}::{0,k,.no,nd}::as)) (EW t z as.length) (EW o z as.length):=by
 have j:=I.gone (nd:=nd) d h0
 have u:=j.step (a:={3,r,_,[as.length]}) (by simp) λC b c=>by
  let[D,v,x]:=I.fewer d h0 h3 {rfl,rfl,by simp} b c;exact(j.sd C b.1).drop (Nat.le_zero.mp<|yy<|χ v s)
 have l:=Hist.unmark   u λC b g q n i e p w=>by
  let[x,x,A]:=I.fewer d h0 h3 {rfl,rfl,by simp} b g;rw[CY g]at e;by_cases z:q=r;subst z;rw[CT]at e;cases e;rw[DS z,CY ((b.2 g).1 _ (by simp))]at e;exact(I.sd C b.1.1).dj r q m n ps _ (λy=>z y.symm) A e p w
 refine l.step  (by simp) λC b c=>(l.sd C b.1).rmark (.inr λn i e=>?_);rw[zjw (λa B=>by
  let[p,x,rfl]:=av.mp<|He.mp B;simp),CY ((b.2 c).1 _ (by simp)),CT]at e
 cases e
def Hist.put(I:Hist m0 M0 as t o){r m p:Nat}{ps:wD}{x:Str}(h2:hnd M0 as 2 p≠.mk 1)(h3:hnd M0 as 3 r=.rc m ps) :
  Hist m0 M0 ({3,r,.rc m<|ps++[p],[as.length+1]}::{4,p,.tx x,[as.length]}::{2,p,.mk 1,[]}::as) t o:=by
 have i:=I.step (a:={2,p,_,[]}) (by simp) λC b z=>(I.sd C b.1).pmark (.inl rfl)
 have j:=i.step (a:={4,p,.tx x,[as.length]}) (by simp) λC b z=>(i.sd C b.1).text;refine j.step  (by simp) λC b c=>?_
 have d:C (as.length+1)=true:=(b.2 c).1 _ (by simp)
 have g:C as.length=true:=(b.1.2 d).1 _ (by simp);refine(j.sd C b.1).more  ?_ ?_ (by rw[CY d,CT]) λq l n e s=>?_;rw[KK  b c];exact h3;rw[CY d,MS (by simp),CY g,CT];rw[CY d,CY g]at e
 have:=((I.sd C b.1.1.1).pm q l _ e p s).1;rw[KK  b.1.1 g]at this;exact h2 this
def Hist.take(I:Hist m0 M0 as t o)(h3:hnd M0 as 3 r=.rc m ps)(b:ps[i]? =some p) :
  Hist m0 M0 ({2,p,.mk 0,[as.length]}::{3,r,.rc m<|ps.eraseIdx i,[]}::as) t o:=by
 have d:∀ C,FF C ({3,r,.rc m<|ps.eraseIdx i,[]}::as)->C _=true->sh M0 C as 3 r=.rc m ps:=λC a c=>by
  rw[KK  a c];exact h3
 have g:=I.step  (by simp) λC a c=>(I.sd C a.1).less (d C a c) (List.eraseIdx_sublist ..);refine g.step  (by simp) λC a c=>(g.sd C a.1).pmark (.inr λq s u e=>?_)
 have l:C as.length=true:=(a.2 c).1 _ (by simp)
 have n:=d C a.1 l;rw[CY l]at e;by_cases z:q=r;subst z;rw[CT]at e;cases e;exact λh=>by
  let[j,v,w]:=List.mem_eraseIdx_iff_getElem?.mp h;exact v ((List.getElem?_inj ((ζ.mp b).1) ((I.sd C a.1.1).nd q m ps n)).mp (b.trans w.symm)).symm
 rw[DS z]at e;exact(I.sd C a.1.1).dj r q m s ps _ (λy=>z y.symm) n e p (ι b)
end
abbrev HQ(a:Ad):Addr:=a "Hold"
def Q3(ns:vD)(k:Nat):Int:=ns.getD k 0
example:(Y3):=∃ (s:Addr) (ns:vD) (k:Nat),vs=[.ref s,.int k]/\SqL K H s (ns.map V.int)/\ns.length<=1000/\Q (.int<|Q3 ns k) H
abbrev TB(K:W.Frag)(a:Ad):Prop:=sJ K (HQ a) (a "Change")
abbrev D6(a:Ad)(H:Hp)(A:BA)(w:Nat)(rows:aC)(n:Nat)(cs:yD)(outs:wC):Prop:=BookAt a (HQ a) H A w rows n cs outs
def US:Option Nat->V
 |none=>.non
 |some k=>.int k
def FU(n:Nat)(outs:wC):wD:=(τ n).filter λ(k:Nat)=> !outs k
def AO(l:wD):vE:=l.map λ(k:Nat)=>V.int k
abbrev onPl(rows:aC)(w:Nat)(i j:Int):Prop:=0<=i/\i<rows.length/\0<=j/\j<w
example:(Y4):=∃ x b c v d,vs=[.ref x,.ref c,v,.ref d]/\TB K a/\H x=some (.ins (a "Change") b [])/\Q .non (upd H x<|.ins (a "Change") b (GA c v d))
example:(UT):=∃ (b c e o:Addr) (w:Nat) (rows:aC) (n:Nat),vs=[.ref b,.ref c]/\TB K a/\DR K a/\PlankAt a H c e w rows n/\H b=some (.ins (HQ a) o []) /\
 ∀ (m g lt i:Addr) (j:xC) (d:Hp),H m=none->H g=none->H lt=none->H i=none->(∀ l∈j,H l=none)->D6 a d ⟨b,c,m,g,lt,i,j,e⟩ w rows n [] (λ_=>false)->SameBut (· =b) H d->Q .non d
example:(Y5):=∃ (nl:Addr) (ns:vD) (o:Option Nat),vs=[.ref nl,US o]/\SqL K H nl (ns.map V.int)/\ns.length<=60 /\
 ∀ (t:Addr) (a:vD) (b:Hp),Same H b->b t=some (.tup<|a.map V.int)->a.Pairwise (· <·)->(∀ x,x∈a↔x∈ns\/∃ k:Nat,o=some k/\x=k)->a.length<=ns.length+1->Q (.ref t) b
example:(Y6):=∃ (A:BA) (w:Nat) (rows:aC) (n:Nat) (cs:yD) (outs:wC) (b:Addr) (i j:Int),vs=[.ref A.b,.ref b]/\TB K a/\DR K a/\D6 a H A w rows n cs outs/\H b=some (.tup [.int i,.int j]) /\
 (onPl rows w i j->Q .non H)/\(¬ onPl rows w i j->E (.ref<|a "NoBlock") none H)
example:(Q4):=∃ (A:BA) (w:Nat) (rows:aC) (n:Nat) (cs:yD) (outs:wC) (b:Addr) (i j:Int),vs=[.ref A.b,.ref b]/\TB K a/\DR K a/\D6 a H A w rows n cs outs/\H b=some (.tup [.int i,.int j]) /\
 (onPl rows w i j->Q (US<|D5 cs i j) H)/\(¬ onPl rows w i j->E (.ref<|a "NoBlock") none H)
abbrev known(cs:yD)(x:Int):Prop:=0<=x/\x<cs.length
example:(UU):=∃ (A:BA) (w:Nat) (rows:aC) (n:Nat) (cs:yD) (outs:wC) (nl:Addr) (ns:vD),vs=[.ref A.b,.ref nl]/\TB K a/\D6 a H A w rows n cs outs/\SqL K H nl (ns.map V.int) /\
 ((∀ x∈ns,known cs x)->Q .non H)/\((∃ x∈ns,¬ known cs x)->E (.ref<|a "NoChange") none H)
example:(GT):=∃ (A:BA) (w:Nat) (rows:aC) (n:Nat) (cs:yD) (outs:wC) (c nl:Addr) (v:V) (ns:vD) (i j:Int),vs=[.ref A.b,.ref c,v,.ref nl]/\TB K a/\DR K a/\D6 a H A w rows n cs outs/\H c=some (.tup [.int i,.int j])/\SqL K H nl (ns.map V.int)/\ns.length<=60/\cs.length<990 /\
 (onPl rows w i j->(∀ x∈ns,known cs x)->∀ (nd:vD) (b:Hp),nd.Pairwise (· <·)->(∀ x,x∈nd↔x∈ns\/∃ k:Nat,D5 cs i j=some k/\x=k)->D6 a b A w rows n (cs++[⟨i.toNat,j.toNat,v,nd⟩]) outs->SameBut A.F H b->Q (.int cs.length) b) /\
 (¬ onPl rows w i j->E (.ref<|a "NoBlock") none H)/\(onPl rows w i j->(∃ x∈ns,¬ known cs x)->E (.ref<|a "NoChange") none H)
example:(UV):=∃ (A:BA) (w:Nat) (rows:aC) (n:Nat) (cs:yD) (outs:wC),vs=[.ref A.b]/\TB K a/\D6 a H A w rows n cs outs /\
 ∀ (l:Addr) (b:Hp),H l=none->Same H b->b l=some (.lst<|AO<|FU cs.length outs)->Q (.ref l) b
example:(Y7):=∃ (A:BA) (w:Nat) (rows:aC) (n:Nat) (cs:yD) (outs:wC) (nl:Addr) (ns:vD),vs=[.ref A.b,.ref nl]/\TB K a/\D6 a H A w rows n cs outs/\SqL K H nl (ns.map V.int)/\ns.length<=1000 /\
  ((∀ x∈ns,known cs x)->∀ (l:Addr) (b:Hp) (R:wC),(∀ x∈ns,R x=true)->(∀ (k:Nat) (c:Ch),cs[k]? =some c->outs k=false->R k=true->∀ y∈c.nd,R y=true)->(∀ x,R x=true->x∈ns\/∃ (k:Nat) (c:Ch),cs[k]? =some c/\outs k=false/\R k=true/\x∈c.nd) ->
    H l=none->Same H b->b l=some (.lst<|AO<|(FU cs.length outs).filter λ(k:Nat)=>R k)->Q (.ref l) b) /\
  ((∃ x∈ns,¬ known cs x)->E (.ref<|a "NoChange") none H)
def EX(cs:yD)(rows:aC)(i j:Int):Option V:=match D5 cs i j with
 |some k=>(cs[k]?).map (·.val)
 |none=>(rows[i.toNat]?).bind λr=>r[j.toNat]?
example:(N2):=∃ (A:BA) (w:Nat) (rows:aC) (n:Nat) (cs:yD) (outs:wC) (b:Addr) (i j:Int),vs=[.ref A.b,.ref b]/\TB K a/\DR K a/\D6 a H A w rows n cs outs/\H b=some (.tup [.int i,.int j]) /\
 (onPl rows w i j->∀ (v:V) (c:Hp),EX cs rows i j=some v->Same H c->Q v c)/\(¬ onPl rows w i j->E (.ref<|a "NoBlock") none H)
def Y8:Option Int->V
 |none=>.non
 |some k=>.int k
abbrev CA(kvs:yB)(x:Int):Bool:=(BG kvs<|.inl x).isSome
example:(Y9):=∃ (A:BA) (w:Nat) (rows:aC) (n:Nat) (cs:yD) (outs:wC) (k:Nat) (c:Ch) (g:Addr) (b:yB),vs=[.ref A.b,.int k,.ref g]/\TB K a/\D6 a H A w rows n cs outs/\cs[k]? =some c/\H g=some (.dK b) /\
 Q (Y8 (MQ c.nd λx=>outs x||CA b x)) H
example:(UW):=∃ (A:BA) (w:Nat) (rows:aC) (n:Nat) (cs:yD) (outs:wC) (b:Nat) (tk:Addr) (c:yB),vs=[.ref A.b,.int b,.ref tk]/\TB K a/\D6 a H A w rows n cs outs/\b<rows.length/\H tk=some (.dK c)/\c.length<=1000 /\
 ∀ (t ol d:Addr) (e:Hp),H ol=none->H d=none->ol≠d->Same H e->UL e t ol d (outcome cs outs (CA c) b).out (outcome cs outs (CA c) b).held->Q (.ref t) e
example:(ZA):=∃ (A:BA) (w:Nat) (rows:aC) (n:Nat) (cs:yD) (outs:wC) (b:Nat) (d:Addr) (row:vE),vs=[.ref A.b,.ref d,.int b]/\TB K a/\D6 a H A w rows n cs outs/\b<rows.length/\H d=some (.lst row)/\row.length=w /\
 ∀ (l:Addr) (c:Hp),H l=none->Same H c->c l=some (.lst<|E7 cs outs b row)->Q (.ref l) c
example:(ZB):=∃ (A:BA) (w:Nat) (rows:aC) (n:Nat) (cs:yD) (outs:wC) (b:Int),vs=[.ref A.b,.int b]/\TB K a/\DR K a/\D6 a H A w rows n cs outs /\
 (∀ (c:Nat) (row:vE) (t ol e:Addr) (d:Hp),b=c->rows[c]? =some row->H ol=none->H e=none->ol≠e->UL d t ol e (outcome cs outs (λ_=>false) c).out (outcome cs outs (λ_=>false) c).held ->
  D6 a d A w (rows.set c<|E7 cs (DJ cs outs c) c row) (n+1) cs (DJ cs outs c)->SameBut (λx=>A.F x\/x=A.gp) H d->Q (.ref t) d) /\
 (b<0\/rows.length<=b->E (.ref<|a "NoBlock") none H)
example:(ZC):=∃ (A:BA) (w:Nat) (rows:aC) (n:Nat) (cs:yD) (outs:wC) (k:Nat) (c:Ch),vs=[.ref A.b,.int k]/\TB K a/\D6 a H A w rows n cs outs/\cs[k]? =some c/\Q (.int c.blk) H
example:(ZD):=∃ (A:BA) (w:Nat) (rows:aC) (n:Nat) (cs:yD) (outs:wC) (nl:Addr) (ns:vD),vs=[.ref A.b,.ref nl]/\TB K a/\D6 a H A w rows n cs outs/\SqL K H nl (ns.map V.int)/\ns.length<=1000 /\
 ((∀ x∈ns,known cs x)->∀ (l:Addr) (row:wD) (R:wC) (b:Hp),MP cs outs ns R->GB cs outs (EO cs.length outs R) row->row.length<=cs.length->H l=none->Same H b->b l=some (.lst<|AO row)->Q (.ref l) b) /\
 ((∃ x∈ns,¬ known cs x)->∀ b,Same H b->E (.ref<|a "NoChange") none b)
def GoodV:Nat->Hp->V->Prop
 |0,_,_=>False
 |_+1,_,.int _=>True
 |_+1,_,.non=>True
 |_+1,_,.str z=>e_ z=true
 |n+1,H,.ref p=>∃ xs,H p=some (.tup xs)/\xs.length<=100/\∀ v∈xs,GoodV n H v
 |_,_,_=>False
def UX(v:V):Prop:=v=.non\/∃ i,v=.int i
def BI(n r c w kind k:Nat):Nat:=(if kind=0 then 0 else if kind=1 then n+r+c else if kind=2 then n+r+c+r else if kind=3 then n else n+r)+k/w
def BO(n r c w kind:Nat):Nat:=(if kind=0 then n else if kind=1 then r else if kind=2 then c else if kind=3 then r else c)*w
def LQ(kind:Nat)(v:V):Bool:=decide (v=.non)||(decide (0<kind)&&decide (v=.int 0))
def EY(f:zC)(m:Nat):Int:=match (τ m).find? f with
 |some k=>k
 |none=> -1
def Q5(H:Hp)(rows:aC):Prop:=∀ r∈rows,∀ v∈r,GoodV 4 H v
def goodH(H:Hp)(cs:yD)(rows:aC):Prop:=Q5 H rows/\∀ c∈cs,GoodV 4 H c.val
def MT(cs:yD)(rows:aC)(n r c w kind:Nat)(k:Nat):Bool:=match EX cs rows (BI n r c w kind k:Nat) (k%w:Nat)with
 |some v=>LQ kind v
 |none=>false
example:(N3):=∃ (A:BA) (w:Nat) (rows:aC) (n:Nat) (cs:yD) (outs:wC) (d e:Addr) (c:xC) (xs:vE) (f:zC) (m:Nat),vs=[.ref A.b,.ref d,.ref e]/\TB K a/\DR K a/\D6 a H A w rows n cs outs/\H d=some (.lst<|c.map V.ref)/\c.length=m/\m<=1000/\H e=some (.tup xs)/\(∀ z∈xs,UX z) /\
 (∀ k t,c[k]? =some t->∃ i j v,H t=some (.tup [.int i,.int j])/\onPl rows w i j/\EX cs rows i j=some v/\GoodV 4 H v/\f k=decide (v∈xs)) /\
 (∀ k:Nat,EY f m=k->∀ b,Same H b->Q (.int k) b)/\(EY f m= -1->∀ b,Same H b->E (.ref<|a "NoRoom") none b)
def UY(kind:Nat)(K:W.Frag)(a:Ad)(p b:Addr)(H:Hp)(Q:VK)(E:XK):Prop:=∃ (A:BA) (n r c w:Nat) (rows:aC) (nn:Nat) (cs:yD) (outs:wC),b=A.b/\TB K a/\DR K a/\D9 K a/\LayAt a H p n r c w/\n<=6/\r<=6/\c<=6/\w<=6/\D6 a H A w rows nn cs outs/\rows.length=n+r+c+r+c/\(∀ i j v,EX cs rows i j=some v->GoodV 4 H v) /\
 (∀ k:Nat,EY (MT cs rows n r c w kind) (BO n r c w kind)=k->∀ d,Same H d->Q (.int k) d)/\(EY (MT cs rows n r c w kind) (BO n r c w kind)= -1->∀ d,Same H d->E (.ref<|a "NoRoom") none d)
example:(UZ):=∃ p b,vs=[.ref p,.ref b]/\UY 0 K a p b H Q E
example:(ZE):=∃ p b,vs=[.ref p,.ref b]/\UY 1 K a p b H Q E
example:(ZF):=∃ p b,vs=[.ref p,.ref b]/\UY 2 K a p b H Q E
def LR(c:Nat):Bool:=decide (32<=c)&&decide (c<=126)&&decide (c≠37)
def N4(c:Nat):Bool:=decide (97<=c)&&decide (c<=122)
def BL(z:Str):Bool:=decide (1<=z.length)&&decide (z.length<=8)&&z.cps.toList.all N4
def G9(z:Str):Bool:=decide (1<=z.length)&&decide (z.length<=40)&&z.cps.toList.all LR
example:(ZG):=∃ c:Nat,vs=[.str {#[c]}]/\Q (.bl<|LR c) H
example:(ZH):=∃ z:Str,vs=[.str z]/\z.length<=1000/\∀ a,Same H a->Q (.bl<|BL z) a
example:(ZI):=∃ z:Str,vs=[.str z]/\z.length<=1000/\∀ a,Same H a->Q (.bl<|G9 z) a
structure Q6(K:W.Frag)(a:Ad):Prop where
 cl:Cls K (a "Store")
 n1:NoAttr K (a "Store") "plan"
 n2:NoAttr K (a "Store") "book"
 n3:NoAttr K (a "Store") "taken_out"
def sf(a b tk:Addr):vB:=[("plan",.ref a),("book",.ref b),("taken_out",.ref tk)]
structure SA where
 A:BA
 st:Addr
 lp:Addr
 tk:Addr
structure Hs where
 b:Md
 as:uE
abbrev Hs.f(M:Hs):Md:=hnd M.b M.as
instance:CoeFun Hs λ_=>Nat->Nat->CV:=⟨Hs.f⟩
def Hs.put(M:Hs)(kind k:Nat)(x:CV)(nd:wD):Hs:={M.b,⟨kind,k,x,nd⟩::M.as}
def Hs.put_at{M:Hs}:(M.put kind k x nd) i j=if i=kind/\j=k then x else M i j:=rfl
def RepC(H:Hp):CV->V->Prop
 |.no,v=>v=.non
 |.nm z k,v=>∃ t,v=.ref t/\H t=some (.tup [.str z,.int k])
 |.mk i,v=>v=.int i
 |.rc m ps,v=>∃ t u,v=.ref t/\H t=some (.tup [.int m,.ref u])/\H u=some (.tup<|AO ps)
 |.tx z,v=>v=.str z
def FG:Nat->CV->Prop
 |_,.no=>True
 |0,.nm _ _=>True
 |1,.mk i=>i<=1
 |2,.mk i=>i<=1
 |3,.rc _ _=>True
 |4,.tx _=>True
 |_,_=>False
inductive LaidA(n r c w:Nat)(H:Hp):yD->uE->Prop
 |nil:LaidA n r c w H [] []
 |snoc {cs:yD} {as:uE} {ch:Ch} {x:AC}:LaidA n r c w H cs as->ch.blk=BI n r c w x.kind x.k->ch.cell=x.k%w->RepC H x.x ch.val->(∀ y:Int,y∈ch.nd↔(∃ j∈x.nd,y=(j:Nat))\/∃ j:Nat,G8 x.kind x.k as=some j/\y=j)->x.kind<5->x.k<BO n r c w x.kind->LaidA n r c w H (cs++[ch]) (x::as)
structure SM(a:Ad)(H:Hp)(S:SA)(n r c w:Nat)(rows:aC)(nn:Nat)(cs:yD)(outs:wC)(tks:yB)(M:Hs):Prop where
 ob:∃ dx,H S.st=some (.ins (a "Store") dx (sf S.lp S.A.b S.tk))
 ly:LayAt a H S.lp n r c w
 bk:D6 a H S.A w rows nn cs outs
 tk:H S.tk=some (.dK tks)
 tl:tks.length<=cs.length
 tv:∀ z v,BG tks (.inr z)=some v->∃ k:Nat,v=.int k/\k<cs.length
 ap:¬ S.A.F S.tk
 sz:n<=6/\r<=6/\c<=6/\w<=6/\rows.length=n+r+c+r+c
 gd:goodH H cs rows
 rp:∀ kind k v,kind<5->k<BO n r c w kind->EX cs rows (BI n r c w kind k:Nat) (k%w:Nat)=some v->RepC H (M kind k) v
 ok:∀ kind k,kind<5->k<BO n r c w kind->FG kind (M kind k)
 la:LaidA n r c w H cs M.as
def EZ(M:Hs)(k:Nat):Option (Str × Nat):=match M 0 k with
 |.nm z r=>some (z,r)
 |_=>none
def KL(M:Hs)(m:Nat):aD:=(τ m).filterMap λk=>(EZ M k).map (·.1)
def cellOf(M:Hs)(m:Nat)(z:Str):Option Nat:=(τ m).find? λk=>(EZ M k).any λp=>decide<|p.1=z
def HA(kind:Nat):CV->Bool
 |.no=>true
 |.mk i=>decide (0<kind)&&decide (i=0)
 |_=>false
def HB(M:Hs)(kind m:Nat):Int:=EY (λk=>HA kind<|M kind k) m
abbrev CZ(K:W.Frag)(a:Ad):Prop:=TB K a/\DR K a/\D9 K a/\Q6 K a
abbrev sU(cs:yD)(i j:Int)(x:Int):Prop:=∃ k:Nat,D5 cs i j=some k/\x=k
structure SX where
 S:SA
 n:Nat
 r:Nat
 c:Nat
 w:Nat
 rows:aC
 nn:Nat
 outs:Int->Bool
abbrev SX.at(X:SX)(a:Ad)(H:Hp)(cs:yD)(b:yB)(M:Hs):Prop:=SM a H X.S X.n X.r X.c X.w X.rows X.nn cs X.outs b M
abbrev SX.m0(X:SX):Nat:=X.n*X.w
example:(Q7):=∃ (x i b d e:Addr) (n r c w:Nat) (rows:aC) (nn:Nat) (M:Md),vs=[.ref x,.ref b,.ref d]/\CZ K a/\H x=some (.ins (a "Store") i [])/\LayAt a H b n r c w/\PlankAt a H d e w rows nn/\(n<=6/\r<=6/\c<=6/\w<=6/\rows.length=n+r+c+r+c)/\Q5 H rows/\(∀ kind k v,kind<5->k<BO n r c w kind->EX [] rows (BI n r c w kind k:Nat) (k%w:Nat)=some v->RepC H (M kind k) v)/\(∀ kind k,kind<5->k<BO n r c w kind->FG kind (M kind k)) ∧
 ∀ (S:SA) (g:Hp),S.st=x->S.lp=b->S.A.gp=d->S.A.cl=e->(∀ y o,H y=some o->y=e\/¬ S.A.F y)->H S.tk=none->SM a g S n r c w rows nn [] (λ_=>false) [] {M,[]}->SameBut (· =x) H g->Q .non g
example:(ZJ):=∃ (x c d b tk:Addr),vs=[.ref x]/\Q6 K a/\H x=some (.ins (a "Store") c (sf d b tk))/\Q (.ref b) H
example:(Q8):=∃ (X:SX) (cs:yD) (c:yB) (M:Hs),vs=[.ref X.S.st]/\CZ K a/\X.at a H cs c M /\
 ∀ (l:Addr) (xs:vE) (b:Hp),Same H b->b l=some (.lst xs)->xs.length=X.m0->(∀ k v,xs[k]? =some v->RepC b (M 0 k) v)->Q (.ref l) b
example:(U0):=∃ (X:SX) (cs:yD) (b:yB) (M:Hs),vs=[.ref X.S.st]/\CZ K a/\X.at a H cs b M /\
 ∀ (l:Addr) (c:aD) (d:Hp),H l=none->Same H d->d l=some (.lst<|c.map V.str)->c.Perm (KL M X.m0)->sortedS c=true->Q (.ref l) d
example:(N5):=∃ (X:SX) (cs:yD) (b:yB) (M:Hs) (z:Str),vs=[.ref X.S.st,.str z]/\CZ K a/\X.at a H cs b M/\∀ (c:Hp),Same H c->Q (US<|cellOf M X.m0 z) c
example:(KM):=∃ (X:SX) (cs:yD) (c:yB) (M:Hs) (z:Str),vs=[.ref X.S.st,.str z]/\CZ K a/\X.at a H cs c M /\
 (∀ cell k,cellOf M X.m0 z=some cell->cell<X.m0->M 0 cell=.nm z k->∀ b,Same H b->Q (.int k) b)/\(cellOf M X.m0 z=none->∀ b,Same H b->E (.ref<|a "NoName") none b)
example:(JL):=∃ (X:SX) (cs:yD) (c:yB) (M:Hs) (b:Nat),vs=[.ref X.S.st,.int b]/\CZ K a/\X.at a H cs c M/\b<X.r*X.w/\∀ v d,RepC d (M 3 b) v->Same H d->Q v d
example:(U1):=∃ (X:SX) (cs:yD) (d:yB) (M:Hs) (z:Str) (e:Addr) (c:aD),vs=[.ref X.S.st,.str z,.ref e]/\CZ K a/\X.at a H cs d M/\H e=some (.lst<|c.map V.str)/\c.length<=60/\(∀ y∈c,y.length<=1000) /\
 (c.all BL=true->cellOf M X.m0 z=none->∀ b,Same H b->Q .non b)/\(c.all BL=false->∀ b,Same H b->E (.ref<|a "NoName") none b)/\(c.all BL=true->(∃ k,cellOf M X.m0 z=some k)->∀ b,Same H b->E (.ref<|a "Twice") none b)
def U2(X:SX)(a:Ad)(H:Hp)(cs:yD)(b:yB)(d:Hs)(Q:VK):Prop:=∀ (ch:Ch) (c:Hp),X.at a c (cs++[ch]) b d->SameBut X.S.A.F H c->Q (.int cs.length) c
def FV(a:yB)(z:Str):wD:=match BG a (.inr z)with
 |some (.int k)=>[k.toNat]
 |_=>[]
abbrev LS(ns:vD):wD:=ns.map Int.toNat
example:(U3):=∃ (X:SX) (cs:yD) (b:yB) (M:Hs) (cell c need:Nat) (z:Str),vs=[.ref X.S.st,.int cell,.str z,.int c,.int need]/\CZ K a/\X.at a H cs b M/\cell<X.m0/\need<cs.length/\cs.length<980/\e_ z=true/\U2 X a H cs b (M.put 0 cell (.nm z c) (need::FV b z)) Q
example:(Q9):=∃ (X:SX) (cs:yD) (c:yB) (M:Hs) (b m d:Nat) (more:Int) (ps:wD) (nl:Addr) (ns:vD),vs=[.ref X.S.st,.int b,.int more,.ref nl]/\CZ K a/\X.at a H cs c M/\b<X.r*X.w/\M 3 b=.rc m ps/\(m:Int)+more=d/\ps.length<=100/\H nl=some (.lst<|ns.map V.int)/\ns.length<=60/\(∀ x∈ns,known cs x)/\cs.length<980/\U2 X a H cs c (M.put 3 b (.rc d ps) (LS ns)) Q
example:(U4):=∃ (X:SX) (cs:yD) (d:yB) (M:Hs) (b m:Nat) (ps c:wD) (e nl:Addr) (ns:vD),vs=[.ref X.S.st,.int b,.ref e,.ref nl]/\CZ K a/\X.at a H cs d M/\b<X.r*X.w/\M 3 b=.rc m ps/\H e=some (.tup<|AO c)/\c.length<=100/\H nl=some (.lst<|ns.map V.int)/\ns.length<=60/\(∀ x∈ns,known cs x)/\cs.length<980/\U2 X a H cs d (M.put 3 b (.rc m c) (LS ns)) Q
example:(U5):=∃ (X:SX) (cs:yD) (b:yB) (M:Hs) (cell:Nat) (z:Str) (nl:Addr) (ns:vD),vs=[.ref X.S.st,.str z,.ref nl]/\CZ K a/\X.at a H cs b M/\cellOf M X.m0 z=some cell/\cell<X.m0/\H nl=some (.lst<|ns.map V.int)/\ns.length<=60/\(∀ x∈ns,known cs x)/\cs.length<980 /\
 ∀ (ch:Ch) (c:Hp),X.at a c (cs++[ch]) (CD b (.inr z) (.int cs.length)) (M.put 0 cell .no<|LS ns)->SameBut (λx=>X.S.A.F x\/x=X.S.tk) H c->Q (.int cs.length) c
def Hs.unmark(M:Hs)(d:Nat)(ps:wD):Hs:=ps.foldl (λM p=>M.put 2 p (.mk 0) [d]) M
example:(ZK):=∃ (X:SX) (cs:yD) (c:yB) (M:Hs) (b m gone:Nat) (ps:wD),vs=[.ref X.S.st,.int b,.int gone]/\CZ K a/\X.at a H cs c M/\b<X.r*X.w/\M 3 b=.rc m ps/\gone<cs.length/\(∀ p∈ps,p<X.c*X.w)/\ps.length<=36/\cs.length<940 /\
 ∀ (ex:yD) (l:Addr) (d:Hp),H l=none->d l=some (.lst (AO ((τ<|ps.length+2).map (cs.length+·))))->ex.length=ps.length+2->X.at a d (cs++ex) c (((M.put 3 b .no [gone]).unmark cs.length ps).put 1 b (.mk 0) [cs.length])->SameBut X.S.A.F H d->Q (.ref l) d
def MU(X:SX)(a:Ad)(H:Hp)(cs:yD)(d:Nat)(b:yB)(e:Hs)(Q:VK):Prop:=∀ (ex:yD) (l:Addr) (c:Hp),ex.length=d->H l=none->c l=some (.lst (AO ((τ d).map (cs.length+·))))->X.at a c (cs++ex) b e->SameBut (λx=>X.S.A.F x\/x=X.S.tk) H c->Q (.ref l) c
def EC(a:Ad)(H:Hp)(c:String)(E:XK):Prop:=∀ b,Same H b->E (.ref<|a c) none b
example:(RA):=∃ (X:SX) (cs:yD) (c:yB) (M:Hs) (z:Str),vs=[.ref X.S.st,.str z]/\CZ K a/\X.at a H cs c M/\z.length<=1000/\cs.length<930 /\
 (BL z=true->cellOf M X.m0 z=none->∀ b cell:Nat,HB M 1 (X.r*X.w)=b->HB M 0 X.m0=cell->b<X.r*X.w->cell<X.m0->MU X a H cs 3 c (((M.put 1 b (.mk 1) []).put 3 b (.rc 1 []) [cs.length]).put 0 cell (.nm z b) ((cs.length+1)::FV c z)) Q) /\
 (BL z=false->EC a H "NoName" E)/\(BL z=true->(∃ k,cellOf M X.m0 z=some k)->EC a H "Twice" E) ∧
 (BL z=true->cellOf M X.m0 z=none->(HB M 1 (X.r*X.w)= -1\/HB M 0 X.m0= -1)->EC a H "NoRoom" E)
example:(N6):=∃ (X:SX) (cs:yD) (c:yB) (M:Hs) (y z:Str),vs=[.ref X.S.st,.str y,.str z]/\CZ K a/\X.at a H cs c M/\y.length<=1000/\z.length<=1000/\cs.length<930 /\
 (BL y=true->BL z=true->cellOf M X.m0 z=none->∀ old b cell:Nat,cellOf M X.m0 y=some old->old<X.m0->M 0 old=.nm y b->b<X.r*X.w/\∃ m ps,M 3 b=.rc m ps/\ps.length<=100/\(HB M 0 X.m0=cell->cell<X.m0->MU X a H cs 2 c ((M.put 3 b (.rc (m+1) ps) []).put 0 cell (.nm z b) (cs.length::FV c z)) Q)) /\
 ((BL y&&BL z)=false->EC a H "NoName" E)/\(BL y=true->BL z=true->(∃ k,cellOf M X.m0 z=some k)->EC a H "Twice" E)/\(BL y=true->BL z=true->cellOf M X.m0 z=none->cellOf M X.m0 y=none->EC a H "NoName" E) ∧
 (BL y=true->BL z=true->cellOf M X.m0 z=none->(∃ k,cellOf M X.m0 y=some k)->HB M 0 X.m0= -1->EC a H "NoRoom" E)
example:(RB):=∃ (X:SX) (cs:yD) (c:yB) (M:Hs) (z:Str),vs=[.ref X.S.st,.str z]/\CZ K a/\X.at a H cs c M/\cs.length<930 /\
 (∀ cell b:Nat,cellOf M X.m0 z=some cell->cell<X.m0->M 0 cell=.nm z b->b<X.r*X.w/\∃ m ps,M 3 b=.rc m ps/\(∀ p∈ps,p<X.c*X.w)/\ps.length<=36 /\
  (1<m->MU X a H cs 2 (CD c (.inr z) (.int cs.length)) ((M.put 0 cell .no []).put 3 b (.rc (m-1) ps) [cs.length]) Q)/\(m<=1->MU X a H cs (ps.length+3) (CD c (.inr z) (.int cs.length)) ((((M.put 0 cell .no []).put 3 b .no [cs.length]).unmark (cs.length+1) ps).put 1 b (.mk 0) [cs.length+1]) Q)) /\
 (cellOf M X.m0 z=none->EC a H "NoName" E)
example:(RC):=∃ (X:SX) (cs:yD) (c:yB) (M:Hs) (z t:Str),vs=[.ref X.S.st,.str z,.str t]/\CZ K a/\X.at a H cs c M/\t.length<=1000/\e_ t=true/\cs.length<930 /\
 (∀ cell b:Nat,cellOf M X.m0 z=some cell->cell<X.m0->M 0 cell=.nm z b->G9 t=true->∀ p:Nat,HB M 2 (X.c*X.w)=p->p<X.c*X.w->b<X.r*X.w/\∃ m ps,M 3 b=.rc m ps/\ps.length<=90/\MU X a H cs 3 c (((M.put 2 p (.mk 1) []).put 4 p (.tx t) [cs.length]).put 3 b (.rc m<|ps++[p]) [cs.length+1]) Q) /\
 (cellOf M X.m0 z=none->EC a H "NoName" E)/\((∃ k,cellOf M X.m0 z=some k)->G9 t=false->EC a H "NoPiece" E)/\((∃ k,cellOf M X.m0 z=some k)->G9 t=true->HB M 2 (X.c*X.w)= -1->EC a H "NoRoom" E)
example:(U6):=∃ (X:SX) (cs:yD) (c:yB) (M:Hs) (z:Str),vs=[.ref X.S.st,.str z]/\CZ K a/\X.at a H cs c M /\
 (∀ cell b:Nat,cellOf M X.m0 z=some cell->cell<X.m0->M 0 cell=.nm z b->b<X.r*X.w/\∃ m ps,M 3 b=.rc m ps/\ps.length<=100/\∃ e:aD,Paired (λp t=>p<X.c*X.w/\M 4 p=.tx t) ps e/\∀ l d,H l=none->Same H d->d l=some (.lst<|e.map V.str)->Q (.ref l) d) /\
 (cellOf M X.m0 z=none->EC a H "NoName" E)
example:(RD):=∃ (X:SX) (cs:yD) (c:yB) (M:Hs) (z:Str) (x:Int),vs=[.ref X.S.st,.str z,.int x]/\CZ K a/\X.at a H cs c M/\cs.length<930 /\
 (∀ cell b:Nat,cellOf M X.m0 z=some cell->cell<X.m0->M 0 cell=.nm z b->b<X.r*X.w/\∃ m ps,M 3 b=.rc m ps/\ps.length<=100/\((x<0\/ps.length<=x)->EC a H "NoPiece" E)/\(∀ (k p:Nat),x=k->ps[k]? =some p->p<X.c*X.w/\MU X a H cs 2 c ((M.put 3 b (.rc m<|ps.eraseIdx k) []).put 2 p (.mk 0) [cs.length]) Q)) ∧
 (cellOf M X.m0 z=none->EC a H "NoName" E)
example:(RE):=∃ (X:SX) (cs:yD) (c:yB) (M:Hs) (y z:Str),vs=[.ref X.S.st,.str y,.str z]/\CZ K a/\X.at a H cs c M/\y.length<=1000/\z.length<=1000/\cs.length<920 /\
 (BL y=true->BL z=true->cellOf M X.m0 z=none->∀ old b cell:Nat,cellOf M X.m0 y=some old->old<X.m0->M 0 old=.nm y b->b<X.r*X.w/\∃ m ps,M 3 b=.rc m ps/\ps.length<=100/\(HB M 0 X.m0=cell->cell<X.m0->MU X a H cs 4 (CD c (.inr y) (.int (cs.length+2:Nat))) ((((M.put 3 b (.rc (m+1) ps) []).put 0 cell (.nm z b) (cs.length::FV c z)).put 0 old .no [cs.length+1]).put 3 b (.rc m ps) [cs.length+2]) Q)) /\
 ((BL y&&BL z)=false->EC a H "NoName" E)/\(BL y=true->BL z=true->(∃ k,cellOf M X.m0 z=some k)->EC a H "Twice" E)/\(BL y=true->BL z=true->cellOf M X.m0 z=none->cellOf M X.m0 y=none->EC a H "NoName" E) ∧
 (BL y=true->BL z=true->cellOf M X.m0 z=none->(∃ k,cellOf M X.m0 y=some k)->HB M 0 X.m0= -1->EC a H "NoRoom" E)
abbrev U7(X:SX)(p:Nat × Nat):vE:=[.int (BI X.n X.r X.c X.w p.1 p.2:Nat),.int (p.2%X.w:Nat)]
def FW(cell a:Nat)(ps:wD):List (Nat × Nat):=(0,cell)::(3,a)::ps.map λp=>(4,p)
example:(ZL):=∃ (X:SX) (cs:yD) (d:yB) (M:Hs) (z:Str),vs=[.ref X.S.st,.str z]/\CZ K a/\X.at a H cs d M /\
 (∀ cell b,cellOf M X.m0 z=some cell->cell<X.m0->M 0 cell=.nm z b->b<X.r*X.w/\∃ m ps,M 3 b=.rc m ps/\ps.length<=100/\(∀ p∈ps,p<X.c*X.w)/\∀ l e c,Same H c->c l=some (.lst<|e.map V.ref)->Paired (λt p=>c t=some (.tup<|U7 X p)) e (FW cell b ps)->Q (.ref l) c) /\
 (cellOf M X.m0 z=none->EC a H "NoName" E)
def LT(X:SX)(cs:yD)(a:List (Nat × Nat)):vD:=a.filterMap λp=>(D5 cs (BI X.n X.r X.c X.w p.1 p.2:Nat) (p.2%X.w:Nat)).map λ(k:Nat)=>(k:Int)
example:(N7):=∃ (X:SX) (cs:yD) (c:yB) (M:Hs) (z:Str),vs=[.ref X.S.st,.str z]/\CZ K a/\X.at a H cs c M /\
 (∀ cell b,cellOf M X.m0 z=some cell->cell<X.m0->M 0 cell=.nm z b->b<X.r*X.w/\∃ m ps,M 3 b=.rc m ps/\ps.length<=100/\(∀ p∈ps,p<X.c*X.w)/\∀ l row R d,MP cs X.outs (LT X cs<|FW cell b ps) R->GB cs X.outs (EO cs.length X.outs R) row->row.length<=cs.length->H l=none->Same H d->d l=some (.lst<|AO row)->Q (.ref l) d) /\
 (cellOf M X.m0 z=none->EC a H "NoName" E)
abbrev N8:=Option<|Str × Nat
abbrev JM:=Option<|Int × wD
structure Vw where
 nm:List N8
 rc:List JM
 pc:List (Option Str)
 rm:List (Option Int)
 pm:List (Option Int)
def AY{α :Type}(l:List (Option α))(k:Nat):Option α :=(l[k]?).join
def LU:JM->wD
 |none=>[]
 |some (_,ps)=>ps
def MV(nm:List N8):wD:=nm.filterMap λc=>c.map (·.2)
def E8(rc:List JM):wD:=rc.flatMap LU
def led(a:Vw)(r:Nat):Nat:=(MV a.nm).count r
def E9(a:Vw)(p:Nat):Nat:=(E8 a.rc).count p
def LV(a:Vw):List JM:=((τ a.rc.length).filter λr=>decide<|0<led a r).map (AY a.rc)
def HR(a:Vw)(p:Nat):Nat:=(E8<|LV a).count p
abbrev _root_.cC:=Nat->List V
def DM(n:Nat)(p:zC)(f:cC):aC:=((τ n).filter p).map f
def HS(a:Vw)(k:Nat):Bool:=match AY a.nm k with
 |none=>false
 |some c=>(AY a.rc c.2).isNone
def IL(a:Vw)(k:Nat):Bool:=match AY a.nm k with
 |none=>false
 |some c=>(τ k).any λj=>match AY a.nm j with
  |none=>false
  |some d=>decide<|d.1=c.1
def JN(a:Vw)(r:Nat):Bool:=match AY a.rc r with
 |none=>false
 |some c=>decide<|c.1<(led a r:Int)
def GU(a:Vw)(r:Nat):Bool:=match AY a.rc r with
 |none=>false
 |some c=>decide (0<led a r)&&decide ((led a r:Int)<c.1)
def RF(a:Vw):aC:=DM a.nm.length (HS a) (λk=>[.str "lost",.int k])++DM a.nm.length (IL a) (λk=>[.str "twice",.int k])
def RG(a:Vw):aC:=DM a.pc.length (λp=>decide<|1<E9 a p) (λp=>[.str "shared",.int p])++DM a.pc.length (λp=>decide (0<E9 a p)&&(AY a.pc p).isNone) (λp=>[.str "empty",.int p])++DM a.rc.length (JN a) (λr=>[.str "few",.int r])
def RH(a:Vw):aC:=DM a.rc.length (λr=>decide (0<led a r) && !decide (AY a.rm r=some 1)) (λr=>[.str "free",.str "record",.int r])++DM a.pc.length (λp=>decide (0<E9 a p) && !decide (AY a.pm p=some 1)) (λp=>[.str "free",.str "piece",.int p])
def faults(a:Vw):aC:=RF a++RG a++RH a
def N9(a:Vw):aC:=DM a.rc.length (GU a) (λr=>[.str "many",.int r,.int<|led a r])++DM a.rc.length (λr=>(AY a.rc r).isSome&&decide (led a r=0)) (λr=>[.str "left",.str "record",.int r])
def OA(a:Vw):aC:=DM a.pc.length (λp=>decide (AY a.pm p=some 1)&&decide (HR a p=0)) (λp=>[.str "left",.str "piece",.int p])
def OB(a:Vw):aC:=DM a.rc.length (λr=>decide (AY a.rm r=some 1)&&(AY a.rc r).isNone) (λr=>[.str "marked",.int r])
def IM(a:Vw):aC:=N9 a++OA a++OB a
structure EK(vw:Vw):Prop where
 n1:∀ c,some c∈vw.nm->c.2<vw.rc.length/\e_ c.1=true
 n2:∀ c,some c∈vw.rc->(∀ p∈c.2,p<vw.pc.length)/\c.2.length<=20
 n3:∀ s,some s∈vw.pc->e_ s=true
 l1:vw.rm.length=vw.rc.length
 l2:vw.pm.length=vw.pc.length
 bn:vw.nm.length<=100
 br:vw.rc.length<=100
 bp:vw.pc.length<=100
def NmV(H:Hp)(v:V):N8->Prop
 |none=>v=.non
 |some c=>∃ p,v=.ref p/\H p=some (.tup [.str c.1,.int c.2])
def RcV(H:Hp)(v:V):JM->Prop
 |none=>v=.non
 |some c=>∃ p q,v=.ref p/\H p=some (.tup [.int c.1,.ref q])/\H q=some (.tup<|AO c.2)
def PcV(_:Hp)(v:V):Option Str->Prop
 |none=>v=.non
 |some s=>v=.str s
def MkV(_:Hp)(v:V):Option Int->Prop
 |none=>v=.non
 |some i=>v=.int i
def LstAt{α :Type}(R:Hp->V-> α ->Prop)(H:Hp)(p:Addr)(cs:List α):Prop:=∃ vs,H p=some (.lst vs)/\Paired (R H) vs cs
def FindsL(H:Hp)(l:Addr)(fs:aC):Prop:=∃ ps:xC,H l=some (.lst<|ps.map V.ref)/\Paired (λp f=>H p=some (.tup f)) ps fs
structure TV(K:W.Frag)(a:Ad):Prop where
 cl:Cls K (a "View")
 n1:NoAttr K (a "View") "name_values"
 n2:NoAttr K (a "View") "record_values"
 n3:NoAttr K (a "View") "piece_values"
 n4:NoAttr K (a "View") "record_marks"
 n5:NoAttr K (a "View") "piece_marks"
 n6:NoAttr K (a "View") "leads"
 n7:NoAttr K (a "View") "namings"
 n8:NoAttr K (a "View") "reached"
def sV(a:Ad)(H:Hp)(x:Addr)(f:Str)(v:V):Prop:=∃ b fs,H x=some (.ins (a "View") b fs)/\fs.lookup f=some v
structure VA where
 n:Addr
 r:Addr
 p:Addr
 rm:Addr
 pm:Addr
 ld:Addr
 ng:Addr
 rh:Addr
def vf(A:VA):vB:=[("name_values",.ref A.n),("record_values",.ref A.r),("piece_values",.ref A.p),("record_marks",.ref A.rm),("piece_marks",.ref A.pm),("leads",.ref A.ld),("namings",.ref A.ng),("reached",.ref A.rh)]
structure ViewAt(a:Ad)(H:Hp)(x:Addr)(A:VA)(vw:Vw):Prop where
 ob:∃ dx,H x=some (.ins (a "View") dx (vf A))
 n:LstAt NmV H A.n vw.nm
 r:LstAt RcV H A.r vw.rc
 p:LstAt PcV H A.p vw.pc
 rm:LstAt MkV H A.rm vw.rm
 pm:LstAt MkV H A.pm vw.pm
 ld:H A.ld=some (.lst<|AO<|(τ vw.rc.length).map (led vw))
 ng:H A.ng=some (.lst<|AO<|(τ vw.pc.length).map (E9 vw))
 rh:H A.rh=some (.lst<|AO<|(τ vw.pc.length).map (HR vw))
 ok:EK vw
structure PlV(H:Hp)(rows:aC)(n r c w:Nat)(vw:Vw):Prop where
 vs:∃ v1 v2 v3 v4 v5:vE,rows.flatten=v1++v2++v3++v4++v5/\Paired (NmV H) v1 vw.nm/\Paired (RcV H) v2 vw.rc/\Paired (PcV H) v3 vw.pc/\Paired (MkV H) v4 vw.rm/\Paired (MkV H) v5 vw.pm
 ln:vw.nm.length=n*w
 lr:vw.rc.length=r*w
 lp:vw.pc.length=c*w
 ok:EK vw
def newL(vs:vE)(H:Hp)(Q:VK):Prop:=∀ l a,H l=none->Same H a->a l=some (.lst vs)->Q (.ref l) a
def newF(fs:aC)(H:Hp)(Q:VK):Prop:=∀ l a,H l=none->Same H a->FindsL a l fs->Q (.ref l) a
def LW(rows:aC)(b j:Nat):V:=(((rows[b]?).bind (·[j]?)).getD .non)
example:(LX):=∃ (c g d:Addr) (w:Nat) (rows:aC) (m:Nat) (e:xC) (ps:List (Nat × Nat)),vs=[.ref c,.ref d]/\DR K a/\PlankAt a H c g w rows m/\H d=some (.lst<|e.map V.ref)/\Paired (λt (b:Nat × Nat)=>H t=some (.tup [.int b.1,.int b.2])) e ps/\(∀ b∈ps,b.1<rows.length/\b.2<w)/\ps.length<=1000 /\
 newL (ps.map λb=>LW rows b.1 b.2) H Q
example:(RI):=∃ (many:Nat) (nl:Addr) (a:wD),vs=[.int many,.ref nl]/\H nl=some (.lst<|AO a)/\(∀ k∈a,k<many)/\many<=1000/\a.length<=10000/\newL (AO<|(τ many).map λk=>a.count k) H Q
example:(U8):=∃ (rl:Addr) (cs:List JM),vs=[.ref rl]/\LstAt RcV H rl cs/\cs.length<=100/\(∀ c,some c∈cs->c.2.length<=20)/\newL (AO<|E8 cs) H Q
example:(ZM):=∃ (x d e:Addr) (b:Vw),vs=[.ref x]/\TV K a/\sV a H x "record_values" (.ref d)/\sV a H x "leads" (.ref e)/\LstAt RcV H d b.rc/\H e=some (.lst<|AO<|(τ b.rc.length).map (led b))/\b.rc.length<=100/\∀ l c,H l=none->Same H c->LstAt RcV c l (LV b)->Q (.ref l) c
example:(U9):=∃ (x:Addr) (A:VA) (b:Vw),vs=[.ref x]/\TV K a/\ViewAt a H x A b/\newL (AO<|(τ b.rc.length).filter λr=>(AY b.rc r).isSome) H Q
example:(RJ):=∃ (x:Addr) (A:VA) (b:Vw),vs=[.ref x]/\TV K a/\ViewAt a H x A b/\newL (AO<|(τ b.pc.length).filter λp=>decide<|0<E9 b p) H Q
example:(VB):=∃ (x:Addr) (A:VA) (b:Vw) (r:Nat) (c:Int × wD),vs=[.ref x,.int r]/\TV K a/\ViewAt a H x A b/\AY b.rc r=some c/\Q (.int c.1) H
def LY(f:Vw->aC)(K:W.Frag)(a:Ad):Sp:=λvs H Q _=>∃ (x:Addr) (A:VA) (b:Vw),vs=[.ref x]/\TV K a/\ViewAt a H x A b/\newF (f b) H Q
def ZN(K:W.Frag)(a:Ad):Sp:=LY RF K a
def ZO(K:W.Frag)(a:Ad):Sp:=LY RG K a
def ZP(K:W.Frag)(a:Ad):Sp:=LY RH K a
def VC(K:W.Frag)(a:Ad):Sp:=LY faults K a
def ZQ(K:W.Frag)(a:Ad):Sp:=LY N9 K a
def ZR(K:W.Frag)(a:Ad):Sp:=LY OA K a
def ZS(K:W.Frag)(a:Ad):Sp:=LY OB K a
def ZT(K:W.Frag)(a:Ad):Sp:=LY IM K a
example:(RK):=∃ (x i d e j:Addr) (n r c w:Nat) (rows:aC) (m:Nat) (g:Vw),vs=[.ref x,.ref d,.ref e]/\TV K a/\D9 K a/\DR K a/\H x=some (.ins (a "View") i [])/\LayAt a H d n r c w/\PlankAt a H e j w rows m/\rows.length=n+r+c+r+c/\PlV H rows n r c w g ∧
 ∀ (A:VA) (b:Hp),ViewAt a b x A g->SameBut (· =x) H b->Q .non b
def Ground(K:W.Frag)(a:Ad)(H:Hp)(b d:Addr)(e:Vw):Prop:=∃ (g:Addr) (n r c w:Nat) (rows:aC) (m:Nat),TV K a/\D9 K a/\DR K a/\LayAt a H b n r c w/\PlankAt a H d g w rows m/\rows.length=n+r+c+r+c/\PlV H rows n r c w e
example:(VD):=∃ (c d:Addr) (b:Vw),vs=[.ref c,.ref d]/\Ground K a H c d b/\newF (faults b++IM b) H Q
example:(ZU):=∃ (b c:Addr) (d:Vw),vs=[.ref b,.ref c]/\Ground K a H b c d/\∀ e,Same H e->Q (.bl<|decide<|faults d=[]) e
def FX(a:Vw)(r:Nat):JM:=match AY a.rc r with
 |none=>none
 |some c=>if led a r=0 then none else some ((led a r:Int),c.2)
def KN(a:Vw)(r:Nat):Option Int:=match AY a.rc r with
 |none=>if AY a.rm r=some 1 then some 0 else AY a.rm r
 |some _=>if led a r=0 then some 0 else AY a.rm r
def MW(a:Vw)(p:Nat):Option Int:=if AY a.pm p=some 1/\HR a p=0 then some 0 else AY a.pm p
def mended(a:Vw):Vw:={a.nm,(τ a.rc.length).map (FX a),a.pc,(τ a.rc.length).map (KN a),(τ a.pc.length).map (MW a)}
inductive Cel where
 |nm (c:N8)
 |rc (c:JM)
 |pc (c:Option Str)
 |mk (c:Option Int)
deriving DecidableEq
def CelV(H:Hp)(v:V):Cel->Prop
 |.nm c=>NmV H v c
 |.rc c=>RcV H v c
 |.pc c=>PcV H v c
 |.mk c=>MkV H v c
def Cel.kind:Cel->Nat
 |.nm _=>0
 |.rc _=>1
 |.pc _=>2
 |.mk _=>3
def Cel.ok:Cel->Prop
 |.nm (some c)=>e_ c.1=true
 |.pc (some s)=>e_ s=true
 |_=>True
abbrev _root_.xD:=List Cel
def D3(a:Vw):xD:=a.nm.map .nm++a.rc.map .rc++a.pc.map .pc++a.rm.map .mk++a.pm.map .mk
def DT(w:Nat)(cs:xD)(b:Nat):xD:=(cs.drop<|b*w).take w
def OC(w n:Nat)(cs a:xD):Nat:=((τ n).filter λb=> !decide (DT w cs b=DT w a b)).length
inductive Lv where
 |many (r:Nat)
 |leftR (r:Nat)
 |leftP (p:Nat)
 |marked (r:Nat)
def FH(a:Vw):List Lv:=((τ a.rc.length).filter (GU a)).map .many++((τ a.rc.length).filter λr=>(AY a.rc r).isSome&&decide (led a r=0)).map .leftR++((τ a.pc.length).filter λp=>decide (AY a.pm p=some 1)&&decide (HR a p=0)).map .leftP++((τ a.rc.length).filter λr=>decide (AY a.rm r=some 1)&&(AY a.rc r).isNone).map .marked
def sW(a:Vw):Lv->vE
 |.many r=>[.str "many",.int r,.int<|led a r]
 |.leftR r=>[.str "left",.str "record",.int r]
 |.leftP p=>[.str "left",.str "piece",.int p]
 |.marked r=>[.str "marked",.int r]
def FA(a:Vw)(n r c w:Nat):Lv->List (Nat × Cel)
 |.many k=>[(n*w+k,.rc<|FX a k)]
 |.leftR k=>[(n*w+k,.rc none),((n+r+c)*w+k,.mk<|some 0)]
 |.leftP k=>[((n+r+c+r)*w+k,.mk<|some 0)]
 |.marked k=>[((n+r+c)*w+k,.mk<|some 0)]
def pk(w f:Nat):List AN:=[.inl ((f/w:Nat):Int),.inl ((f%w:Nat):Int)]
structure Site(K:W.Frag)(a:Ad)(H:Hp)(ly gp cl:Addr)(n r c w:Nat)(rows:aC)(m:Nat)(vw:Vw):Prop where
 tv:TV K a
 tl:D9 K a
 tp:DR K a
 la:LayAt a H ly n r c w
 pl:PlankAt a H gp cl w rows m
 rl:rows.length=n+r+c+r+c
 pv:PlV H rows n r c w vw
 w1:1<=w
 w6:w<=6
 n6:n<=6
 r6:r<=6
 c6:c<=6
example:(ZV):=∃ (g i o fd:Addr) (n r c w:Nat) (rows:aC) (m:Nat) (b:Vw) (e:Lv),vs=[.ref g,.ref i,.ref fd]/\Site K a H g i o n r c w rows m b/\e∈FH b/\H fd=some (.tup<|sW b e) /\
 ∀ (dl:Addr) (more:uA) (d:Hp),H dl=none->Same H d->d dl=some (.dT more)->Paired (λ(j:List AN × V) (l:Nat × Cel)=>j.1=pk w l.1/\CelV d j.2 l.2) more (FA b n r c w e)->TZ more->Q (.ref dl) d
example:(ZW):=∃ (e i dl:Addr) (w:Nat) (rows:aC) (m:Nat) (kvs:uA) (cs d:xD),vs=[.ref e,.ref dl]/\DR K a/\PlankAt a H e i w rows m/\rows.length<=30/\1<=w/\w<=6/\H dl=some (.dT kvs)/\Paired (CelV H) rows.flatten cs/\d.map Cel.kind=cs.map Cel.kind/\(∀ c∈cs,c.ok)/\(∀ c∈d,c.ok) /\
 (∀ (f:Nat) (c j:Cel),cs[f]? =some c->d[f]? =some j->(BG kvs (pk w f)=none/\j=c)\/∃ v,BG kvs (pk w f)=some v/\CelV H v j) /\
 ∀ (b:aC) (g:Hp),PlankAt a g e i w b (m+OC w rows.length cs d)->b.length=rows.length->Paired (CelV g) b.flatten d->SameBut (λx=>x=e\/x=i) H g->Q .non g
example:(sX):=∃ (l g i:Addr) (n r c w:Nat) (rows:aC) (m:Nat) (d:Vw),vs=[.ref l,.ref g]/\Site K a H l g i n r c w rows m d/\faults d=[] /\
 ∀ (j:Addr) (b:aC) (e:Hp),H j=none->FindsL e j (IM d)->PlankAt a e g i w b (m+OC w rows.length (D3 d) (D3<|mended d))->b.length=n+r+c+r+c->PlV e b n r c w (mended d)->SameBut (λx=>x=g\/x=i) H e->Q (.ref j) e
def SX.wr(X:SX)(cs:yD)(b:Nat)(row:vE):SX:={ X with rows:=X.rows.set b<|E7 cs (DJ cs X.outs b) b row,nn:=X.nn+1,outs:=DJ cs X.outs b }
example:(VE):=∃ (X:SX) (cs:yD) (c:yB) (M:Hs) (b:Nat) (row:vE),vs=[.ref X.S.st,.int b]/\CZ K a/\X.at a H cs c M/\X.rows[b]? =some row/\∀ t ol e d,H ol=none->H e=none->UL d t ol e (outcome cs X.outs (λ_=>false) b).out (outcome cs X.outs (λ_=>false) b).held->(X.wr cs b row).at a d cs c M->SameBut (λx=>X.S.A.F x\/x=X.S.A.gp) H d->Q (.ref t) d
def LZ(a:yB):Str->Option Nat:=λz=>(FV a z).head?
def RowsAre(H:Hp)(n r c w:Nat)(rows:aC)(S:Md):Prop:=∀ kind k v,kind<5->k<BO n r c w kind->(rows[BI n r c w kind k]?).bind (λq=>q[k%w]?)=some v->RepC H (S kind k) v
structure InL(n r c w:Nat)(S:Md):Prop where
 no:∀ kind k,¬ k<BO n r c w kind->S kind k=.no
 ok:∀ kind k,FG kind<|S kind k
abbrev SX.C(X:SX):Nat->Bool:=λj=>X.outs (j:Nat)
structure C6(a:Ad)(H:Hp)(X:SX)(cs:yD)(tks:yB)(M:Hs):Prop where
 st:X.at a H cs tks M
 hi:∃ o,Hist X.m0 M.b M.as (LZ tks) o
 bo:InL X.n X.r X.c X.w M.b
 cut:UN cs X.outs
 rows:RowsAre H X.n X.r X.c X.w X.rows (sh M.b X.C M.as)
 few:X.c*X.w<=18
 ok:∀ x∈M.as,FG x.kind x.x
 w1:1<=X.w
def OD:CV->N8
 |.nm z r=>some (z,r)
 |_=>none
def MX:CV->JM
 |.rc m ps=>some ((m:Int),ps)
 |_=>none
def RL:CV->Option Str
 |.tx z=>some z
 |_=>none
def GW:CV->Option Int
 |.mk i=>some (i:Int)
 |_=>none
def B9(n r c w:Nat)(S:Md):Vw:={(τ<|n*w).map λk=>OD<|S 0 k,(τ<|r*w).map λk=>MX<|S 3 k,(τ<|c*w).map λk=>RL<|S 4 k,(τ<|r*w).map λk=>GW<|S 1 k,(τ<|c*w).map λk=>GW<|S 2 k}
def D7(n r c w:Nat)(S:Md):Md:=λkind k =>
 if kind=1 then(match S 3 k with
  |.rc _ _=>if ld (n*w) S k=0 then .mk 0 else S 1 k
  |_=>match S 1 k with
   |.mk i=>if i=1 then .mk 0 else .mk i
   |x=>x)
 else if kind=2 then(match S 2 k with
  |.mk i=>if i=1/\HR (B9 n r c w S) k=0 then .mk 0 else .mk i
  |x=>x)
 else if kind=3 then(match S 3 k with
  |.rc _ ps=>if ld (n*w) S k=0 then .no else .rc (ld (n*w) S k) ps
  |x=>x)
 else S kind k
structure Gnd(K:W.Frag)(a:Ad)(H:Hp)(ly gp cl:Addr)(n r c w:Nat)(rows:aC)(nn:Nat)(S:Md):Prop where
 tv:TV K a
 t4:CZ K a
 la:LayAt a H ly n r c w
 pl:PlankAt a H gp cl w rows nn
 sz:n<=6/\r<=6/\c<=6/\w<=6/\rows.length=n+r+c+r+c
 few:c*w<=18
 w1:1<=w
 gd:Q5 H rows
 rw:RowsAre H n r c w rows S
 bo:InL n r c w S
 sd:Snd (n*w) S
def ZX(K:W.Frag)(a:Ad):Sp:=sX K a
example:(ZY):=∃ (e b d:Addr) (n r c w:Nat) (rows:aC) (nn:Nat) (S:Md),vs=[.ref e,.ref b]/\Gnd K a H e b d n r c w rows nn S /\
 ∀ (X:SX) (g:Hp),X.S.lp=e->X.S.A.gp=b->X.S.A.cl=d->X.n=n->X.r=r->X.c=c->X.w=w->(∀ y o,H y=some o->y=d\/¬ X.S.A.F y)->H X.S.tk=none->C6 a g X [] [] {D7 n r c w S,[]}->SameBut (λx=>x=b\/x=d) H g->Q (.ref X.S.st) g
structure ZZ(K:W.Frag)(a:Ad):Prop where
 cl:Cls K (a "House")
 n1:NoAttr K (a "House") "plan"
 n2:NoAttr K (a "House") "ground"
 n3:NoAttr K (a "House") "store"
def OE:bB:=[("make",2),("link",3),("cut",2),("put",3),("take",3),("move",3),("write",2),("keep",2),("show",2),("names",1),("stop",1)]
def KO:aD:=["make","link","cut","put","take","move"]
def MY:aD:=["take","write"]
structure EQ(K:W.Frag)(a:Ad):Prop where
 s4:CZ K a
 ho:ZZ K a
 dd:∀ H,SqT K H (a "DEEDS") (KO.map V.str)
 wn:∀ H,SqT K H (a "WITH_A_NUMBER_LAST") (MY.map V.str)
def hf(a b st:Addr):vB:=[("plan",.ref a),("ground",.ref b),("store",.ref st)]
def L0(w:wD):Bool:=decide (1<=w.length)&&decide (w.length<=3)&&w.all (λc=>decide (48<=c)&&decide (c<=57))&&(decide (w=[48])||decide (w.head? ≠some 48))
def L3(ws:uB):Option (aD):=match HN OE (C4<|ws.headD [])with
 |none=>none
 |some n =>
  let vs:=if C4 (ws.headD [])=("put":Str)then UD ws else ws
  if(vs.length:Int)≠n then none else
  if C4 (ws.headD [])∈MY/\L0 (vs.getLastD [])=false then none else some (vs.map C4)
def D8(z:Str):Option (aD):=L3<|CW z.cps.toList
example:(Z0):=∃ z:Str,vs=[.str z]/\z.length<=1000/\∀ a,Same H a->Q (.bl<|L0 z.cps.toList) a
example:(Z1):=∃ z:Str,vs=[.str z]/\EQ K a/\z.length<=900 /\
 (∀ ws,D8 z=some ws->∀ l b,H l=none->Same H b->b l=some (.lst<|ws.map V.str)->Q (.ref l) b)/\(D8 z=none->EC a H "NoRow" E)
example:(VF):=∃ (t ol a:Addr) (out:wD) (held:List (Nat × Int)),vs=[.ref t]/\UL H t ol a out held/\out.length<=1000/\held.length<=1000/\Q (.str<|B0 out.length++(" ":Str)++B0 held.length) H
def FY(a:aD):Str:=if a=[]then "-" else Txt.join " " a
example:(RM):=∃ (l:Addr) (a:aD),vs=[.ref l]/\H l=some (.lst<|a.map V.str)/\(a.map (·.length)).sum+a.length<=1000/\Q (.str<|FY a) H
def VG(a:Ad)(H:Hp)(st:Addr):Prop:=∃ c d b tk,H st=some (.ins (a "Store") c (sf d b tk))
example:(Z2):=∃ (h c d b st:Addr),vs=[.ref h]/\ZZ K a/\H h=some (.ins (a "House") c (hf d b st))/\Q (.ref b) H
def HsC(a:Ad)(H:Hp)(h:Addr)(X:SX)(cs:yD)(b:yB)(M:Hs):Prop:=(∃ c,H h=some (.ins (a "House") c (hf X.S.lp X.S.A.gp X.S.st)))/\C6 a H X cs b M
abbrev SX.G(X:SX):Addr->Prop:=λx=>X.S.A.F x\/x=X.S.tk
structure Nx(H:Hp)(X:SX)(H':Hp)(X':SX):Prop where
 lp:X'.S.lp=X.S.lp
 sz:X'.n=X.n/\X'.r=X.r/\X'.c=X.c/\X'.w=X.w
 o:∀ l o,H l=some o->(∀ C d f,o≠.ins C d f)->¬ X.G l->H' l=some o/\¬ X'.G l
example:(RN):=∃ (st l:Addr) (ws:aD),vs=[.ref st,.ref l]/\VG a H st/\H l=some (.lst<|ws.map V.str) /\
  ((∃ y,ws=[("make":Str),y]/\RA K a [.ref st,.str y] H (λ_ b=>Q .non b) E)\/(∃ y t,ws=[("put":Str),y,t]/\RC K a [.ref st,.str y,.str t] H (λ_ b=>Q .non b) E) ∨
   (∃ y z,ws=[("link":Str),y,z]/\N6 K a [.ref st,.str y,.str z] H (λ_ b=>Q .non b) E)\/(∃ y z,ws=[("move":Str),y,z]/\RE K a [.ref st,.str y,.str z] H (λ_ b=>Q .non b) E) ∨
   (∃ y,ws=[("cut":Str),y]/\RB K a [.ref st,.str y] H (λ_ b=>Q .non b) E)\/∃ y w x,ws=[("take":Str),y,w]/\w.length<=640/\intText? w=some x/\RD K a [.ref st,.str y,.int x] H (λ_ b=>Q .non b) E)
example:(RO):=∃ (st l:Addr) (ws:aD),vs=[.ref st,.ref l]/\VG a H st/\H l=some (.lst<|ws.map V.str) /\
  ((∃ b:Nat,ws=[("write":Str),B0 b]/\b<1000/\VE K a [.ref st,.int b] H (λv c=>VF K a [v] c Q E) E) ∨
   (∃ y,ws=[("keep":Str),y]/\N7 K a [.ref st,.str y] H (λv c=>∃ p row,v=.ref p/\c p=some (.lst<|AO row)/\row.length<=300/\(∀ b∈row,b<100)/\∀ d,Same c d->Q (.str<|FY<|row.map λ(b:Nat)=>B0 b) d) E) ∨
   (ws=[("names":Str)]/\U0 K a [.ref st] H (λv c=>RM K a [v] c Q E) E) ∨
   ∃ y,ws=[("show":Str),y]/\U6 K a [.ref st,.str y] H (λv c=>MK K (.str "") [v] c Q) E)
example:(RP):=∃ (h:Addr) (X:SX) (cs:yD) (b:yB) (M:Hs),vs=[.ref h]/\EQ K a/\TV K a/\HsC a H h X cs b M /\
 ∀ (X':SX) (c:Hp),HsC a c h X' [] [] {D7 X.n X.r X.c X.w<|sh M.b X.C M.as,[]}->Nx H X c X'->X'.S.A.gp=X.S.A.gp->Q (.str<|B0 (IM<|B9 X.n X.r X.c X.w<|sh M.b X.C M.as).length) c
example:(ER):=∃ (h c d e st:Addr) (z:Str),vs=[.ref h,.str z]/\EQ K a/\H h=some (.ins (a "House") c (hf d e st))/\VG a H st/\z.length<=900 ∧
 ∃ w ws,D8 z=some (w::ws)/\∀ l b,Same H b->b l=some (.lst<|(w::ws).map V.str) ->
  (w∈KO/\RN K a [.ref st,.ref l] b (λ_ g=>Q (.str "ok") g) E)\/(w="stop"/\RP K a [.ref h] b Q E)\/(w∉KO/\w≠"stop"/\RO K a [.ref st,.ref l] b Q E)
example:(Z3):=∃ (h e b:Addr) (n r c w:Nat),vs=[.ref h,.ref b]/\EQ K a/\TV K a/\H h=some (.ins (a "House") e [])/\LayAt a H b n r c w/\(n<=6/\r<=6/\c<=6/\1<=w/\w<=6/\c*w<=18) ∧
 ∀ (X:SX) (d:Hp),X.S.lp=b->X.n=n->X.r=r->X.c=c->X.w=w->(∀ y,X.G y->H y=none)->HsC a d h X [] [] {λ_ _=>.no,[]}->SameBut (· =h) H d->Q .non d
example:(Z4):=∃ x:Int,vs=[.int x]/\∀ (l:Addr) (a:aD) (b:Hp),H l=none->Same H b->b l=some (.lst<|a.map V.str)->a.length=5->(∀ z∈a,BL z=true)->Q (.ref l) b
example:(Z5):=∃ x:Int,vs=[.int x]/\∀ (t:Str) (a:Hp),G9 t=true->Same H a->Q (.str t) a
structure TD(K:W.Frag)(a:Ad):Prop where
 n1:W.exmAny K (.ref<|a "NoName") [.ref (a "NoName"),.ref<|a "Twice"]=some true
 t1:W.exmAny K (.ref<|a "Twice") [.ref (a "NoName"),.ref<|a "Twice"]=some true
 p1:W.exmAny K (.ref<|a "NoPiece") [.ref (a "NoName"),.ref<|a "Twice"]=some false
 p2:W.exmAny K (.ref<|a "NoPiece") [.ref (a "NoPiece"),.ref<|a "NoRoom"]=some true
 r1:W.exmAny K (.ref<|a "NoRoom") [.ref (a "NoName"),.ref<|a "Twice"]=some false
 r2:W.exmAny K (.ref<|a "NoRoom") [.ref (a "NoPiece"),.ref<|a "NoRoom"]=some true
def OutAt(X:SX)(M:Hs)(kind k:Nat):Prop:=∀ j,G8 kind k M.as=some j->X.C j=true
def KX(X:SX)(M:Hs)(z:Str)(a:aD):Prop:=∃ k r ps,k<X.m0/\M 0 k=.nm z r/\OutAt X M 0 k/\∀ C,FF C M.as->(∀ j,X.C j=true->C j=true)->(∃ m,sh M.b C M.as 3 r=.rc m ps)/\Paired (λp t=>sh M.b C M.as 4 p=.tx t) ps a
def RQ:CV->Bool
 |.mk i=>i==1
 |_=>false
def DU(c:Nat)(S:Md):Nat:=(τ c).countP λp=>RQ<|S 2 p
def OF(a:aD):CV->Prop
 |.nm z _=>z∈a
 |.tx t=>t.length<=40
 |_=>True
structure ES(M:Hs)(zs:aD):Prop where
 b:∀ kind k,OF zs<|M.b kind k
 s:∀ x∈M.as,OF zs x.x
def Z6(H:Hp)(nl:Addr)(a:aD):Prop:=H nl=some (.lst<|a.map V.str)/\a.length=5/\∀ z∈a,BL z=true
example:(Z7):=∃ (g i j:Addr) (n r c w:Nat) (rows:aC) (m:Nat),vs=[.ref g,.ref i]/\D9 K a/\DR K a/\LayAt a H g n r c w/\PlankAt a H i j w rows m/\rows.length=n+r+c+r+c/\rows.length<=30/\w<=6 /\
 ∀ (d:Addr) (kvs:uA) (e:Hp),Same H e->e d=some (.dT kvs)->(∀ b k:Nat,b<rows.length->k<w->BG kvs [.inl (b:Int),.inl (k:Int)]=(rows[b]?).bind λq=>q[k]?)->Q (.ref d) e
def Z8(a:aD)(k:Int)(z:Str):Prop:=z.length<=900/\∃ y∈a,∃ v∈a,(k<2/\D8 z=some [("make":Str),y])\/(k=2/\D8 z=some [("link":Str),y,v])\/(2<k/\(D8 z=some [("cut":Str),y]\/(∃ t,G9 t=true/\D8 z=some [("put":Str),y,t])\/(∃ b:Nat,b<6/\D8 z=some [("take":Str),y,B0 b])\/D8 z=some [("move":Str),y,v]))
example:(Z9):=∃ (x:Int) (nl:Addr) (a:aD),vs=[.int x,.ref nl]/\Z6 H nl a/\∀ z b,Same H b->Z8 a (x%8) z->Q (.str z) b
example:(aA):=∃ (h:Addr) (X:SX) (cs:yD) (i:yB) (M:Hs) (k:Int) (z:Str) (e:aD),vs=[.ref h,.str z]/\EQ K a/\TD K a/\HsC a H h X cs i M/\cs.length<900/\(∀ z∈e,BL z=true)/\ES M e/\Z8 e k z/\(∀ b,Same H b->Q .non b) /\
 ∀ (c:yD) (d:yB) (g:Hs) (b:Hp),HsC a b h X c d g->c.length+DU (X.c*X.w) g<=cs.length+DU (X.c*X.w) M+4->ES g e->(k<=2->∀ y j,KX X M y j->KX X g y j)->Nx H X b X->Q (.str "ok") b
example:(VH):=∃ (h:Addr) (X:SX) (cs:yD) (b:yB) (M:Hs) (z:Str) (e c:aD),vs=[.ref X.S.lp,.ref h,.str z]/\EQ K a/\HsC a H h X cs b M/\ES M e/\KX X M z c/\∀ d,Same H d->Q (.str<|Txt.join "" c) d
example:(aB):=∃ (h:Addr) (X:SX) (cs:yD) (i:yB) (M:Hs) (z:Str) (j:aD) (b:Bool) (B:Nat),vs=[.ref X.S.lp,.ref h,.str z,.bl b]/\EQ K a/\TV K a/\HsC a H h X cs i M/\cs.length+DU (X.c*X.w) M<=B/\X.c*X.w<=B/\B<=300/\(∀ z∈j,BL z=true)/\ES M j/\(∃ k l,k<X.m0/\M 0 k=.nm z l) /\
 ∀ (X':SX) (c:yD) (d:yB) (e:Hs) (g:aD) (n:Hp),HsC a n h X' c d e->c.length+DU (X'.c*X'.w) e<=B->ES e j->KX X' e z g->(∀ y g,KX X M y g->KX X' e y g)->Nx H X n X'->Q (.bl true) n
structure zjx(H:Hp)(X:SX)(M:Hs)(kt:Addr)(kvs:yB):Prop where
 e:H kt=some (.dK kvs)
 v:∀ k v,BG kvs k=some v->∃ z ts,k=.inr z/\v=.str (Txt.join "" ts)/\KX X M z ts
example:(sY):=∃ (s:Addr) (ns:vD),vs=[.ref s]/\TV K a/\EQ K a/\TD K a/\SqL K H s (ns.map V.int)/\ns.length<=63/\∀ b,Q (.bl true) b
abbrev FK:=W.Frag
abbrev XE:=St->XK
abbrev RT:=FK->Ad->XE->XE->TS
def A3{f g:RT}(h:∀ K a E b,f K a E b=g K a E b){K a E b D c H}:f K a E b D c H=g K a E b D c H:=by rw[h]
abbrev DV:TE:=tC<|.int 0
abbrev DB:TE:=tC<|.int 1
abbrev OG:TE:=tC<|.int 2
abbrev HU:TE:=tC<|.int 3
abbrev zjy:TE:=tC<|.int 4
abbrev RR:TE:=tC<|.int 5
abbrev RS:TE:=tC<|.int 6
abbrev VJ:TE:=tC<|.int 7
abbrev RU:TE:=tC<|.int 8
abbrev zjz:TE:=tC<|.int 9
abbrev DK(n:Int):TE:=tC<|.int n
abbrev AF(a:TE):TA:=D4 a BQ
abbrev BF(a b:TE):TA:=D4 a<|D4 b BQ
abbrev DC(a b x2:TE):TA:=D4 a<|D4 b<|D4 x2 BQ
abbrev RV(a b x2 x3:TE):TA:=D4 a<|D4 b<|D4 x2<|D4 x3 BQ
abbrev BH(K:W.Frag)(x:TE)(n:Int):TE:=AD (B8 K) x (tC<|.int n)
abbrev AB:TE:=EI 0
abbrev AJ:TE:=EI 1
abbrev AQ:TE:=EI 2
abbrev BC:TE:=EI 3
abbrev B2:TE:=EI 4
abbrev CK:TE:=EI 5
abbrev FI:TE:=EI 6
abbrev KP:TE:=EI 7
abbrev zj0:TE:=EI 8
section
variable{K:FK}{a:Ad}{n:Nat}{E E1:XE}{D:Ends}{σ:St}{H:Hp}
local macro_rules
 |`(command|example : $x:term := ([$q,*],[$p,*]))=>do
  let i:=Lean.mkIdent
  let m (k:Nat):=Lean.Name.mkSimple s!"{x.raw.getId}{k}"
  let mut r:=#[]
  for k in [:p.getElems.size] do
   r:=(r.push<|<-`(command|def $(i<|m k):ident:RT:=fun $(i `K):ident $(i `a):ident $(i `E):ident $(i `E1):ident=>$(p.getElems[k]!))).push (<-`(command|theorem $(i<|(m k).appendAfter "_"):ident:type_of%(@A3 _ _ $(i<|m k++`eq_1)):=rfl))
  let f:=fun (y:Lean.Term)=>`($(i<|m y.raw.isNatLit?.get!) $(i `K) $(i `a) $(i `E) $(i `E))
  let q:=q.getElems
  let t<-q.pop.foldrM (fun y z=>do `(AH $(<-f y) $z)) (<-f q.back!)
  return Lean.mkNullNode (r.push<|<-`(command|def $(i x.raw.getId):ident ($(i `K):ident:FK) ($(i `a):ident:Ad) ($(i `E):ident:XE):TS:=$t))
example:sZ:=([0],[AV (BZ (FR K<|AF<|AS K AB "record_values") (FM K 2<|DP (AG 0) (DP (AG 1) FL)) (A9<|AD HL (AD (B8 K) (AS K AQ "leads") AB) DV) AJ 2 [0])])
example:tD:=([0],[AV (BZ (FR K<|AF<|AS K AB "record_values") (FM K 2<|DP (AG 0) (DP (AG 1) FL)) (A9<|AD GR AJ<|tC .non) AB 2 [])])
example:tE:=([0],[AV (BZ (FR K<|AF<|AS K AB "namings") (FM K 2<|DP (AG 0) (DP (AG 1) FL)) (A9<|AD HL AJ DV) AB 2 [])])
example:tF:=([0],[AV (BH K (AD (B8 K) (AS K AB "record_values") AJ) 0)])
example:tK:=([0,1,2,9,10],[AT (CI BQ) (AG 1),AT (CI BQ) (AG 2),AT IF<|AG 3,CP<|DQ K "list" FS AJ<|AF<|C8<|BF (tC<|.str "lost") B2,BM (A9<|AD HM (AD (B8 K) (AS K AB "record_values") (BH K CK 1)) (tC .non)) (tK3 K a E E) BW,CP<|DQ K "list" FS AQ<|AF<|C8<|BF (tC<|.str "twice") B2,BM (A9<|JG (BH K CK 0) BC) (tK5 K a E E) BW,F9 BC (BH K CK 0) (tC<|.bl true),BM (A9<|AD GR CK<|tC .non) (AH (tK4 K a E E) (AH (tK6 K a E E) (tK7 K a E E))) BW,DG (FR K<|AF<|AS K AB "name_values") (LJ K 2<|IJ (AG 4) (IJ (AG 5) LK)) (tK8 K a E E),AV<|AD (BE K) AJ AQ])
example:aE:=([0,1],[AT (BZ (FR K<|AF<|AS K AB "piece_marks") (FM K 2<|DP (AG 0) (DP (AG 1) FL)) (A9<|AD (CG K) AJ DB) AB 2 []) (AG 1),AV<|BZ (CM K AJ) (AG 0) (A9<|AD (CG K) (AD (B8 K) (AS K AJ "reached") AB) DV) (C8<|DC (tC<|.str "left") (tC<|.str "piece") AB) 1 [0]])
example:aF:=([0,1],[AT (BZ (FR K<|AF<|AS K AB "record_marks") (FM K 2<|DP (AG 0) (DP (AG 1) FL)) (A9<|AD (CG K) AJ DB) AB 2 []) (AG 1),AV<|BZ (CM K AJ) (AG 0) (A9<|AD HM (AD (B8 K) (AS K AJ "record_values") AB) (tC .non)) (C8<|BF (tC<|.str "marked") AB) 1 [0]])
example:aG:=([0,2,3],[AT (BZ (D1<|AF AB) (AG 0) CQ DV 1 []) (AG 2),TY K AQ BC DB PJ,DG (CM K AJ) (AG 3) (aG1 K a E E),AV AQ])
example:tR:=([0,3,4],[AT (CI BQ) (AG 1),CP<|DQ K "list" (X1 K) AJ (AF<|BH K AQ 1),BM (A9<|AD GR AQ<|tC .non) (tR1 K a E E) BW,DG (CM K AB) (AG 2) (tR2 K a E E),AV AJ])
example:tS:=([0,1,2],[CS K AB AJ "place",CS K AB AQ "value",CS K AB BC "needs"])
example:tT:=([0],[AV (BZ (D1<|AF<|CJ (D0 K) (AF<|AS K AB "made")) (AG 0) (A9<|II AB<|AS K AJ "outs") AB 1 [0])])
example:tU:=([0],[AV (BH K (AS K (AD (B8 K) (AS K AB "made") AJ) "place") 0)])
example:tX:=([2],[FD (a "NoChange") E (AF<|tC<|.str "there is no change of such a number"),BM (F8<|A9<|FE EB GK DV AQ<|CJ (D0 K) (AF<|AS K AB "made")) (tX0 K a E E) BW,DG (CM K AJ) (AG 2) (tX1 K a E E)])
example:VM:=([1,2],[AV (CJ (LH K) (AF<|TN K AB)),BM (A9<|AD HM AJ<|tC .non) (VM0 K a E E) BW,AV<|CJ (LH K) (AF<|TN K<|AD (BE K) (CJ (LG K) (AF AB)) (CI<|AF AJ))])
example:t8:=([2,3],[AV BC,BM (IW (A9<|II BC<|AS K AB "outs") (A9<|II BC AQ)) (t80 K a E E) BW,DG (CM K<|AS K (AD (B8 K) (AS K AB "made") AJ) "needs") (AG 3) (t81 K a E E),AV<|tC .non])
example:uC:=([0,3,4],[AT (CJ (LG K) (AF AJ)) (AG 3),AT (AS K (AD (B8 K) (AS K AB "made") B2) "value") (O4 BC (BH K (AS K (AD (B8 K) (AS K AB "made") B2) "place") 1) P7),BM (A9<|JG B2<|AS K AB "outs") (uC1 K a E E) BW,DG (CM K<|AD (B8 K) (AS K AB "made_in") AQ) (AG 4) (uC2 K a E E),AV BC])
example:aH:=([0],[AV (LF (FE EB EB (tC<|.str " ") AB (tC<|.str "~")) (AD (DL K) (CJ (QD K) (AF AB)) (DK 37)))])
example:aI:=([0],[AV (LF (FE EB EB DB (CJ (D0 K) (AF AB)) RU) (CJ (MJ K) (AF<|BZ (NP AB) (AG 0) CQ (FE EB EB (tC<|.str "a") AB (tC<|.str "z")) 1 [])))])
example:uF:=([0],[AV (AS K AB "book")])
example:uG:=([0],[AV (AS K AB "ground")])
example:aJ:=([1,2],[AV (tC<|.bl false),BM (MA (F8<|A9<|FE EB EB DB (CJ (D0 K) (AF AB)) HU) (F8<|G4 K<|CJ (MJ K) (AF<|BZ (NP AB) (AG 0) CQ (FE EB EB (tC<|.str "0") AB (tC<|.str "9")) 1 []))) (aJ0 K a E E) BW,AV<|QN (AD (CG K) AB (tC<|.str "0")) (AD (DL K) (BH K AB 0) (tC<|.str "0"))])
example:aK:=([0,1,2],[AT (CJ (D0 K) (AF<|BH K AB 0)) (AG 1),AT (CJ (D0 K) (AF<|BH K AB 1)) (AG 2),AV<|YD " " AJ AQ])
example:aL:=([0],[AV (SQ (A9<|AD HL (CJ (D0 K) (AF AB)) DV) (DQ K "str" (MK K) (tC<|.str " ") (AF AB)) (tC<|.str "-"))])
example:aM:=([0,1,2],[CS K AB (BZ (D1<|AF AJ) (AG 0) CQ (AD (GL K) (C8<|AF<|tC .non) AJ) 1 [2]) "contents",CS K AB AQ "width",CS K AB DV "written"])
example:uO:=([0],[AV (CJ (D0 K) (AF<|AS K AB "contents"))])
example:uP:=([0],[AV (AS K AB "width")])
example:aN:=([1],[FD (a "NoBlock") E (AF<|tC<|.str "there is no such block"),BM (F8<|A9<|FE EB GK DV AJ<|CJ (D0 K) (AF<|AS K AB "contents")) (aN0 K a E E) BW])
example:uR:=([0,1,2,3],[CS K AB AJ "name_blocks",CS K AB AQ "record_blocks",CS K AB BC "piece_blocks",CS K AB B2 "width"])
example:uS:=([0],[AV (C8<|DC (AD (GL K) (AS K AB "name_blocks") (AS K AB "width")) (AD (GL K) (AS K AB "record_blocks") (AS K AB "width")) (AD (GL K) (AS K AB "piece_blocks") (AS K AB "width")))])
example:uT:=([0],[AV (AD (BE K) (AD (BE K) (AS K AB "name_blocks") (AS K AB "record_blocks")) (AS K AB "piece_blocks"))])
example:uU:=([0],[AV (C8<|BF (AD (BE K) AJ (AD C9 AQ<|AS K AB "width")) (AD C3 AQ<|AS K AB "width"))])
example:aO:=([1,2],[AV (AD (B8 K) AB AJ),BM (A9<|AD GK AJ<|CJ (D0 K) (AF AB)) (aO0 K a E E) BW,AV DV])
example:aP:=([0,1,2,5,6,7,8,9,10],[AT (tC<|.str "abcdefghijklmnopqrstuvwxyz") (AG 1),AT (tC<|.str "") (AG 2),AT (AD C9 AB RS) (AG 3),AT (AD (BE K) AQ (AD (B8 K) AJ (AD C3 (AD (BE K) BC (AD (GL K) (AD (GL K) VJ B2) (AD C3 (AD C9 BC<|DK 26) RR))) (DK 26)))) (AG 2),AT (AD (BE K) (AD C9 BC<|DK 29) (AD (GL K) HU B2)) (AG 3),DG (D1<|AF<|AD (BE K) DB (AD C3 AB RS)) (AG 4) (AH (aP3 K a E E) (aP4 K a E E)),AT (AD C3 (AD C9 AB VJ) (CJ (D0 K) (AF AQ))) (AG 5),AT (AD (B8 K) AJ (AD C3 (AD C9 AB<|DK 11) (DK 26))) (AG 6),AT (AD (B8 K) AJ (AD C3 (AD (BE K) (AD (BE K) (AD C9 AB<|DK 11) DB) (AD C3 (AD C9 AB<|DK 13) (DK 25))) (DK 26))) (AG 7),AT (AD (B8 K) AJ (AD C3 (AD (BE K) (AD (BE K) (DQ K "str" qY AJ<|AF<|AD (B8 K) AQ CK) DB) (AD C3 (AD C9 AB<|DK 17) (DK 25))) (DK 26))) (AG 8),AV<|CI<|D4 AQ<|RV (AD (BE K) AQ KP) (AD (BE K) FI AQ) (AD (BE K) (AD (BE K) (K3 (LC K) AQ K2 (JH CK)) zj0) (K3 (LC K) AQ (JH<|AD (BE K) CK DB) K2)) (AD (BE K) (AD (BE K) AQ KP) FI)])
example:aT:=([0,1,2,4,5,6,7],[AT (tC<|.str " !\"#$&'()*+,-./0123456789:;<=>?@ABCDEFGHIJKLMNOPQRSTUVWXYZ[\\]^_`") (AG 1),AT (AD (BE K) AJ (tC<|.str "abcdefghijklmnopqrstuvwxyz{|}~")) (AG 1),AT (AD (BE K) DB (AD C3 AB RR)) (AG 2),AT (AD T9 (DK 40) (AD C3 (AD C9 AB<|DK 40) OG)) (AG 2),BM (A9<|AD (CG K) (AD C3 (AD C9 AB RR) RU) HU) (aT3 K a E E) BW,AT (AD (BE K) DB (AD C3 (AD C9 AB<|DK 19) (DK 93))) (AG 3),AT (AD (BE K) DB (AD C3 (AD C9 AB VJ) HU)) (AG 4),AV<|DQ K "str" (MK K) (tC<|.str "") (AF<|BZ (D1<|AF AQ) (AG 0) CQ (AD (B8 K) AJ (AD C3 (AD (BE K) (AD C9 AQ HU) (AD (GL K) BC (AD C9 AB B2))) (DK 94))) 1 [1,0,3,4])])
example:aU:=([0,1,2,3],[AT (BZ (CM K<|AM (a "View") "pieces_named" (RJ K a) E AB BQ) (AG 0) (A9<|AD HL (AD (B8 K) (AS K AJ "namings") AB) DB) (C8<|BF (tC<|.str "shared") AB) 1 [0]) (AG 1),AT (BZ (CM K<|AM (a "View") "pieces_named" (RJ K a) E AB BQ) (AG 0) (A9<|AD HM (AD (B8 K) (AS K AJ "piece_values") AB) (tC .non)) (C8<|BF (tC<|.str "empty") AB) 1 [0]) (AG 2),AT (BZ (CM K<|AM (a "View") "records_standing" (U9 K a) E AB BQ) (AG 0) (A9<|AD GK (AM (a "View") "count_of" (VB K a) (λ_=>E0) AJ (AF AB)) (AD (B8 K) (AS K AJ "leads") AB)) (C8<|BF (tC<|.str "few") AB) 1 [0]) (AG 3),AV<|AD (BE K) (AD (BE K) AJ AQ) BC])
example:aV:=([0,1,2,3],[AT (BZ (FR K<|AF<|AS K AB "leads") (FM K 2<|DP (AG 0) (DP (AG 1) FL)) (A9<|AD HL AJ DV) AB 2 []) (AG 1),AT (BZ (CM K AJ) (AG 0) (A9<|AD (DL K) (AD (B8 K) (AS K AJ "record_marks") AB) DB) (C8<|DC (tC<|.str "free") (tC<|.str "record") AB) 1 [0]) (AG 2),AT (BZ (CM K<|AM (a "View") "pieces_named" (RJ K a) E AB BQ) (AG 0) (A9<|AD (DL K) (AD (B8 K) (AS K AJ "piece_marks") AB) DB) (C8<|DC (tC<|.str "free") (tC<|.str "piece") AB) 1 [0]) (AG 3),AV<|AD (BE K) AQ BC])
example:vV:=([0,1,7,8],[AT (CI BQ) (AG 1),AT (CI BQ) (AG 2),AT (AD (B8 K) (AS K AB "leads") BC) (AG 4),CP<|DQ K "list" FS AQ<|AF<|C8<|DC (tC<|.str "left") (tC<|.str "record") BC,CP<|DQ K "list" FS AJ<|AF<|C8<|DC (tC<|.str "many") BC B2,BM (A9<|AD HL (AM (a "View") "count_of" (VB K a) E AB (AF BC)) B2) (vV4 K a E E) BW,BM (A9<|AD (CG K) B2 DV) (vV3 K a E E) (vV5 K a E E),DG (CM K<|AM (a "View") "records_standing" (U9 K a) E AB BQ) (AG 3) (AH (vV2 K a E E) (vV6 K a E E)),AV<|AD (BE K) AJ AQ])
example:aW:=([0,1,2,3,4],[CS K AB AJ "ground",CS K AB (CI BQ) "made",CS K AB (BZ (D1<|AF<|AM (a "Plank") "blocks" (QT K a) E AJ BQ) (AG 0) CQ (CI BQ) 1 []) "made_in",CS K AB NL "latest",CS K AB IF "outs"])
example:wM:=([0,1,3,7,8],[CP (AM (a "Hold") "ask_for_changes" (UU K a) E AB (AF AJ)),AT IF<|AG 2,F9 AQ BC<|tC<|.bl true,DG (CM K AJ) (AG 3) (wM2 K a E E),F9 AQ B2<|tC<|.bl true,DG (CM K<|AS K (AD (B8 K) (AS K AB "made") BC) "needs") (AG 4) (wM4 K a E E),BM (A9<|JG BC AQ) (wM5 K a E E) BW,DG (TR K<|AF<|AM (a "Hold") "waiting" (UV K a) E AB BQ) (AG 3) (wM6 K a E E),AV<|BZ (CM K<|AM (a "Hold") "waiting" (UV K a) E AB BQ) (AG 0) (A9<|JG AB AJ) AB 1 [2]])
example:wN:=([1],[FD (a "NoBlock") E (AF<|tC<|.str "there is no such place on the plank"),BM (MA (F8<|A9<|FE EB GK DV (BH K AJ 0) (AM (a "Plank") "blocks" (QT K a) E (AS K AB "ground") BQ)) (F8<|A9<|FE EB GK DV (BH K AJ 1) (AM (a "Plank") "cells" (YN K a) E (AS K AB "ground") BQ))) (wN0 K a E E) BW])
example:aZ:=([0,1,2,9,10],[AT (CJ (QH K) (AF AQ)) (AG 3),AT (CI BQ) (AG 4),AT (CI BQ) (AG 5),AT (AM (a "Hold") "lack_of" (Y9 K a) E AB (BF FI BC)) (AG 7),F9 BC FI<|tC<|.bl true,CP<|DQ K "list" FS B2<|AF FI,CP<|DQ K "list" FS CK<|AF<|C8<|BF FI KP,BM (A9<|AD HM KP<|tC .non) (AH (aZ4 K a E E) (aZ5 K a E E)) (aZ6 K a E E),BM (IW (A9<|II FI<|AS K AB "outs") (A9<|II FI BC)) (AH (aZ3 K a E E) (aZ7 K a E E)) BW,DG (CM K<|AD (B8 K) (AS K AB "made_in") AJ) (AG 6) (aZ8 K a E E),AV<|C8<|BF B2 CK])
example:a0:=([0],[AV (LF (FE EB EB DB (CJ (D0 K) (AF AB)) (DK 40)) (CJ (MJ K) (AF<|BZ (NP AB) (AG 0) CQ (BU (ZG K a) (λ_=>E0) (AF AB)) 1 [])))])
example:xM:=([0,2,3,5,7,8],[AT (BH K (DQ K "str" rV AB<|AF<|tC<|.str " ") 0) (AG 1),FD (a "NoRow") E (AF<|tC<|.str "the row begins with no word that is known"),BM (A9<|YE OE AJ) (xM1 K a E E) BW,AT (SQ (A9<|AD (CG K) AJ (tC<|.str "put")) (DQ K "str" QQ AB<|BF (tC<|.str " ") OG) (DQ K "str" QQ AB<|AF<|tC<|.str " ")) (AG 2),FD (a "NoRow") E (AF<|tC<|.str "the row has too few words or too many"),BM (A9<|AD (DL K) (CJ (D0 K) (AF AQ)) (YF OE AJ)) (xM4 K a E E) BW,FD (a "NoRow") E (AF<|tC<|.str "the last word is no number of one to three figures"),BM (IW (A9<|AD (QI K) AJ (tC<|.ref<|a "WITH_A_NUMBER_LAST")) (F8<|G4 K<|BU (Z0 K a) E (AF<|AD (B8 K) AQ (NH NS DB)))) (xM6 K a E E) BW,AV AQ])
example:bC:=([0,1],[CP (AM (a "Plank") "ask_for_block" (NW K a) E AB (AF AJ)),AV<|CJ (LG K) (AF<|AD (B8 K) (AS K AB "contents") AJ)])
example:bD:=([0,2,3,4],[CP (AM (a "Plank") "ask_for_block" (NW K a) E AB (AF AJ)),FD (a "NoBlock") E (AF<|tC<|.str "the list is not as long as a block"),BM (A9<|AD (DL K) (CJ (D0 K) (AF AQ)) (AS K AB "width")) (bD1 K a E E) BW,AT (CJ (LH K) (AF AQ)) (O4 (AS K AB "contents") AJ P7),SV K AB DB PJ "written"])
example:xS:=([0],[AV (AM (a "Layout") "place_from" (MR K a) E AB (BF DV AJ))])
example:xT:=([0],[AV (AM (a "Layout") "place_from" (MR K a) E AB (BF (AS K AB "name_blocks") AJ))])
example:xU:=([0],[AV (AM (a "Layout") "place_from" (MR K a) E AB (BF (AD (BE K) (AS K AB "name_blocks") (AS K AB "record_blocks")) AJ))])
example:xV:=([0],[AV (AM (a "Layout") "place_from" (MR K a) E AB (BF (AM (a "Layout") "blocks_ahead_of_marks" (Q0 K a) E AB BQ) AJ))])
example:xW:=([0],[AV (AM (a "Layout") "place_from" (MR K a) E AB (BF (AD (BE K) (AM (a "Layout") "blocks_ahead_of_marks" (Q0 K a) E AB BQ) (AS K AB "record_blocks")) AJ))])
example:xX:=([0],[AV (AD (BE K) (AD (BE K) (AM (a "Layout") "blocks_ahead_of_marks" (Q0 K a) E AB BQ) (AS K AB "record_blocks")) (AS K AB "piece_blocks"))])
example:bE:=([0,1,2,4,6,8,10,12,13],[AT (AD C3 AB RU) (AG 2),AT (AD (B8 K) AJ (AD C3 (AD C9 AB RU) RR)) (AG 3),AT (AD (B8 K) AJ (AD C3 (AD C9 AB<|DK 40) RR)) (AG 4),AV<|AD (BE K) (tC<|.str "make ") BC,BM (A9<|AD GK AQ OG) (bE3 K a E E) BW,AV<|AD (BE K) (AD (BE K) (AD (BE K) (tC<|.str "link ") BC) (tC<|.str " ")) B2,BM (A9<|AD (CG K) AQ OG) (bE5 K a E E) BW,AV<|AD (BE K) (tC<|.str "cut ") BC,BM (A9<|AD (CG K) AQ HU) (bE7 K a E E) BW,AV<|AD (BE K) (AD (BE K) (AD (BE K) (tC<|.str "put ") BC) (tC<|.str " ")) (BU (Z5 K a) E (AF<|AD C9 AB<|DK 200)),BM (A9<|AD GK AQ RS) (bE9 K a E E) BW,AV<|AD (BE K) (AD (BE K) (AD (BE K) (tC<|.str "take ") BC) (tC<|.str " ")) (CJ (QR K) (AF<|AD C3 (AD C9 AB<|DK 200) RS)),BM (A9<|AD (CG K) AQ RS) (bE11 K a E E) BW,AV<|AD (BE K) (AD (BE K) (AD (BE K) (tC<|.str "move ") BC) (tC<|.str " ")) B2])
example:yM:=([0],[AV (AD (BE K) (AD (BE K) (BU (ZN K a) E (AF AB)) (BU (ZO K a) E (AF AB))) (BU (ZP K a) E (AF AB)))])
example:yN:=([0],[AV (AD (BE K) (AD (BE K) (BU (ZQ K a) E (AF AB)) (BU (ZR K a) E (AF AB))) (BU (ZS K a) E (AF AB)))])
example:yO:=([0],[AV (BZ (CM K AJ) (FM K 2<|DP (AG 0) (DP (AG 1) FL)) CQ (AD (B8 K) (AM (a "Plank") "read" (LM K a) (λ_=>E0) AQ (AF AB)) AJ) 2 [0])])
example:bF:=([2,4,6,7],[AT (AM (a "Layout") "record_at" (G7 K a) E AB (AF<|BH K AQ 1)) (AG 3),AV<|MM [ (BC ,(C8<|BF (BH K AQ 2) (BH K (AD (B8 K) (AM (a "Plank") "read" (LM K a) E AJ (AF<|BH K BC 0)) (BH K BC 1)) 1))) ],BM (A9<|AD (CG K) (BH K AQ 0) (tC<|.str "many")) (AH (bF0 K a E E) (bF1 K a E E)) BW,AV<|MM [ ((AM (a "Layout") "record_mark" (KH K a) E AB (AF<|BH K AQ 1)) ,DV) ],BM (A9<|AD (CG K) (BH K AQ 0) (tC<|.str "marked")) (bF3 K a E E) BW,AV<|MM [ ((AM (a "Layout") "record_at" (G7 K a) E AB (AF<|BH K AQ 2)) ,(tC .non)) ,((AM (a "Layout") "record_mark" (KH K a) E AB (AF<|BH K AQ 2)) ,DV) ],BM (A9<|AD (CG K) (BH K AQ 1) (tC<|.str "record")) (bF5 K a E E) BW,AV<|MM [ ((AM (a "Layout") "piece_mark" (KJ K a) E AB (AF<|BH K AQ 2)) ,DV) ]])
example:bG:=([4],[AT (AM (a "Plank") "read" (LM K a) E AB (AF AQ)) (AG 3),AT (BZ (FR K<|AF BC) (FM K 2<|DP (AG 0) (DP (AG 1) FL)) CQ (W9 AQ (C8<|BF BC AB) AJ) 2 [1,2]) (AG 4),CP<|AM (a "Plank") "write" (UG K a) E AB (BF AQ B2),BM (A9<|AD (DL K) B2 BC) (bG2 K a E E) BW,DG (D1<|AF<|AM (a "Plank") "blocks" (QT K a) E AB BQ) (AG 2) (AH (bG0 K a E E) (AH (bG1 K a E E) (bG3 K a E E)))])
example:zA:=([0,1,2,8,9],[AT (CI BQ) (AG 2),AT IF<|AG 3,AT (AM (a "Hold") "closure" (Y7 K a) E AB (AF AJ)) (AG 4),AT (AM (a "Hold") "block_of" (ZC K a) E AB (AF<|BH K B2 0)) (AG 5),CP<|DQ K "list" FS AQ<|AF CK,F9 BC FI<|tC<|.bl true,DG (CM K<|BH K (AM (a "Hold") "outcome" (UW K a) E AB (BF CK BC)) 0) (AG 6) (zA5 K a E E),AT (BZ (CM K B2) (AG 0) (A9<|II AB AJ) AB 1 [3]) (AG 4),mP (G4 K B2) (AH (zA3 K a E E) (AH (zA4 K a E E) (AH (zA6 K a E E) (zA7 K a E E)))),AV AQ])
example:zB:=([0,1],[CP (AM (a "Hold") "ask_for_place" (Y6 K a) E AB (AF AJ)),AV<|NT (AS K AB "latest") AJ])
example:zD:=([0,1,3,4,5],[AT (AM (a "Plank") "read" (LM K a) E (AS K AB "ground") (AF AJ)) (AG 2),AT (AM (a "Hold") "outcome" (UW K a) E AB (BF AJ IF)) (AG 3),F9 (AS K AB "outs") B2 (tC<|.bl true),DG (CM K<|BH K BC 0) (AG 4) (zD2 K a E E),CP<|AM (a "Plank") "write" (UG K a) E (AS K AB "ground") (BF AJ<|AM (a "Hold") "laid_over" (ZA K a) E AB (BF AQ AJ)),AV BC])
example:zE:=([0],[AV (GQ (a "Plank") (YM K a) E (BF (AM (a "Layout") "blocks" (Q1 K a) E AB BQ) (AS K AB "width")))])
example:zK:=([0,4,5],[AT NL (AG 2),AT (AM (a "Plank") "read" (LM K a) E AJ (AF BC)) (AG 4),F9 AQ (C8<|BF BC CK) (AD (B8 K) B2 CK),DG (D1<|AF<|CJ (D0 K) (AF B2)) (AG 5) (zK2 K a E E),DG (D1<|AF<|AM (a "Layout") "blocks" (Q1 K a) E AB BQ) (AG 3) (AH (zK1 K a E E) (zK3 K a E E)),AV AQ])
example:zT:=([0,1,2,3,4,5,6,7,8,9,10],[AT (AM (a "Layout") "counts" (LP K a) E AJ BQ) (AG 3),AT (BH K BC 1) (AG 4),AT (BH K BC 2) (AG 5),CS K AB (BU (LX K a) E (BF AQ<|BZ (D1<|AF<|BH K BC 0) (AG 0) CQ (AM (a "Layout") "name_at" (JK K a) (λ_=>E0) AJ (AF AB)) 1 [1])) "name_values",CS K AB (BU (LX K a) E (BF AQ<|BZ (D1<|AF B2) (AG 0) CQ (AM (a "Layout") "record_at" (G7 K a) (λ_=>E0) AJ (AF AB)) 1 [1])) "record_values",CS K AB (BU (LX K a) E (BF AQ<|BZ (D1<|AF CK) (AG 0) CQ (AM (a "Layout") "piece_at" (LN K a) (λ_=>E0) AJ (AF AB)) 1 [1])) "piece_values",CS K AB (BU (LX K a) E (BF AQ<|BZ (D1<|AF B2) (AG 0) CQ (AM (a "Layout") "record_mark" (KH K a) (λ_=>E0) AJ (AF AB)) 1 [1])) "record_marks",CS K AB (BU (LX K a) E (BF AQ<|BZ (D1<|AF CK) (AG 0) CQ (AM (a "Layout") "piece_mark" (KJ K a) (λ_=>E0) AJ (AF AB)) 1 [1])) "piece_marks",CS K AB (BU (RI K a) E (BF B2<|BZ (CM K<|AS K AB "name_values") (AG 0) (A9<|AD GR AB<|tC .non) (BH K AB 1) 1 [])) "leads",CS K AB (BU (RI K a) E (BF CK<|BU (U8 K a) E (AF<|AS K AB "record_values"))) "namings",CS K AB (BU (RI K a) E (BF CK<|BU (U8 K a) E (AF<|AM (a "View") "records_led_to" (ZM K a) E AB BQ))) "reached"])
example:zU:=([0,1,2,3,4,5,6],[AT (AM (a "Hold") "newest" (Q4 K a) E AB (AF AJ)) (AG 4),CP<|AM (a "Hold") "ask_for_changes" (UU K a) E AB (AF BC),AT (CJ (D0 K) (AF<|AS K AB "made")) (AG 5),CP<|DQ K "list" FS (AS K AB "made") (AF<|GQ (a "Change") (Y4 K a) E (DC AJ AQ<|BU (Y5 K a) E (BF BC B2))),CP<|DQ K "list" FS (AD (B8 K) (AS K AB "made_in") (BH K AJ 0)) (AF CK),F9 (AS K AB "latest") AJ CK,AV CK])
example:zV:=([0,2,3],[AT (AM (a "Hold") "newest" (Q4 K a) E AB (AF AJ)) (AG 2),AV<|AD (B8 K) (AM (a "Plank") "read" (LM K a) E (AS K AB "ground") (AF<|BH K AJ 0)) (BH K AJ 1),BM (A9<|AD HM AQ<|tC .non) (zV1 K a E E) BW,AV<|AS K (AD (B8 K) (AS K AB "made") AQ) "value"])
example:zW:=([0,1,2],[CS K AB AJ "plan",CS K AB (GQ (a "Hold") (UT K a) E (AF AQ)) "book",CS K AB IF "taken_out"])
example:zX:=([0],[AV (AM (a "Hold") "write" (ZB K a) E (AS K AB "book") (AF AJ))])
example:Ac:=([0,5,6],[AT (BU (Z7 K a) E (BF AB<|AM (a "House") "plank" (Z2 K a) E AJ BQ)) (AG 3),AT (JF BC<|AM (a "Layout") "name_at" (JK K a) E AB (AF B2)) (AG 5),AT (BH K (JF BC<|AM (a "Layout") "record_at" (G7 K a) E AB (AF<|BH K CK 1)) 1) (AG 6),AV<|DQ K "str" (MK K) (tC<|.str "") (AF<|BZ (CM K FI) (AG 0) CQ (JF AJ<|AM (a "Layout") "piece_at" (LN K a) (λ_=>E0) AQ (AF AB)) 1 [3,0]),BM (IW (A9<|AD GR CK<|tC .non) (A9<|AD (CG K) (BH K CK 0) AQ)) (AH (Ac2 K a E E) (Ac3 K a E E)) BW,DG (D1<|AF<|BH K (AM (a "Layout") "counts" (LP K a) E AB BQ) 0) (AG 4) (AH (Ac1 K a E E) (Ac4 K a E E)),AV<|tC .non])
example:Ag:=([2,3],[AV BC,BM (A9<|AD (QJ K) (AM (a "Hold") "in_hand" (N2 K a) E AB (AF B2)) AQ) (Ag0 K a E E) BW,DG (FR K<|AF AJ) (LJ K 2<|IJ (AG 3) (IJ (AG 4) LK)) (Ag1 K a E E),FD (a "NoRoom") E (AF<|tC<|.str "nothing of what is to be taken is free")])
example:bH:=([0],[AV (BZ (D1<|AF<|BH K (AM (a "Layout") "counts" (LP K a) E (AS K AB "plan") BQ) 0) (AG 0) CQ (AM (a "Hold") "in_hand" (N2 K a) (λ_=>E0) (AS K AJ "book") (AF<|AM (a "Layout") "name_at" (JK K a) (λ_=>E0) (AS K AJ "plan") (AF AB))) 1 [0])])
example:bI:=([0],[AV (AM (a "Hold") "in_hand" (N2 K a) E (AS K AB "book") (AF<|AM (a "Layout") "record_at" (G7 K a) E (AS K AB "plan") (AF AJ)))])
example:bK:=([0,2,3],[AT (CI<|AF B2) (AG 5),CP<|DQ K "list" FS CK<|AF<|JF (AS K AB "taken_out") AQ,BM (A9<|JG AQ<|AS K AB "taken_out") (bK1 K a E E) BW,AV<|AM (a "Hold") "change" (GT K a) E (AS K AB "book") (DC (AM (a "Layout") "name_at" (JK K a) E (AS K AB "plan") (AF AJ)) (C8<|BF AQ BC) CK)])
example:Al:=([0,1],[AT (GQ (a "View") (RK K a) E (BF AB AJ)) (AG 2),AV<|AD (BE K) (BU (VC K a) E (AF AQ)) (BU (ZT K a) E (AF AQ))])
example:bL:=([0],[AV (AD (CG K) (CJ (D0 K) (AF<|BU (VC K a) E (AF<|GQ (a "View") (RK K a) E (BF AB AJ)))) DV)])
example:bM:=([0,1],[AT (BZ (D1<|AF<|BH K (AM (a "Layout") "counts" (LP K a) E AB BQ) 0) (AG 0) CQ (AM (a "Layout") "name_at" (JK K a) (λ_=>E0) AJ (AF AB)) 1 [0]) (AG 2),AV<|BU (N3 K a) E (DC AJ AQ<|C8<|AF<|tC .non)])
example:bN:=([0,1],[AT (BZ (D1<|AF<|BH K (AM (a "Layout") "counts" (LP K a) E AB BQ) 1) (AG 0) CQ (AM (a "Layout") "record_mark" (KH K a) (λ_=>E0) AJ (AF AB)) 1 [0]) (AG 2),AV<|BU (N3 K a) E (DC AJ AQ<|C8<|BF (tC .non) DV)])
example:bO:=([0,1],[AT (BZ (D1<|AF<|BH K (AM (a "Layout") "counts" (LP K a) E AB BQ) 2) (AG 0) CQ (AM (a "Layout") "piece_mark" (KJ K a) (λ_=>E0) AJ (AF AB)) 1 [0]) (AG 2),AV<|BU (N3 K a) E (DC AJ AQ<|C8<|BF (tC .non) DV)])
example:bP:=([0],[AV (CJ (XZ K) (AF<|BZ (CM K<|AM (a "Store") "name_cells" (Q8 K a) E AB BQ) (AG 0) (A9<|AD GR AB<|tC .non) (BH K AB 0) 1 []))])
example:Az:=([2,3],[AV AQ,BM (IW (A9<|AD GR BC<|tC .non) (A9<|AD (CG K) (BH K BC 0) AJ)) (Az0 K a E E) BW,DG (FR K<|AF<|AM (a "Store") "name_cells" (Q8 K a) E AB BQ) (LJ K 2<|IJ (AG 2) (IJ (AG 3) LK)) (Az1 K a E E),AV<|tC .non])
example:Bc:=([0,1],[AT (AM (a "Store") "standing" (JL K a) E AB (AF AJ)) (AG 4),AV<|AM (a "Hold") "change" (GT K a) E (AS K AB "book") (DC (AM (a "Layout") "record_at" (G7 K a) E (AS K AB "plan") (AF AJ)) (C8<|BF (AD (BE K) (BH K B2 0) AQ) (BH K B2 1)) BC)])
example:bQ:=([0],[AV (AM (a "Hold") "change" (GT K a) E (AS K AB "book") (DC (AM (a "Layout") "record_at" (G7 K a) E (AS K AB "plan") (AF AJ)) (C8<|BF (BH K (AM (a "Store") "standing" (JL K a) E AB (AF AJ)) 0) AQ) BC))])
example:Bm:=([0,1,2,4,5],[AT (BH K (AM (a "Store") "standing" (JL K a) E AB (AF AJ)) 1) (AG 3),AT (AM (a "Hold") "change" (GT K a) E (AS K AB "book") (DC (AM (a "Layout") "record_at" (G7 K a) E (AS K AB "plan") (AF AJ)) (tC .non) (CI<|AF AQ))) (AG 4),AT (CI<|AF B2) (AG 5),CP<|DQ K "list" FS CK<|AF<|AM (a "Hold") "change" (GT K a) E (AS K AB "book") (DC FI DV<|CI<|AF B2),DG (CM K<|AD (BE K) (BZ (CM K BC) (AG 0) CQ (AM (a "Layout") "piece_mark" (KJ K a) (λ_=>E0) (AS K AJ "plan") (AF AB)) 1 [0]) (CI<|AF<|AM (a "Layout") "record_mark" (KH K a) E (AS K AB "plan") (AF AJ))) (AG 6) (Bm3 K a E E),AV CK])
example:Bp:=([0,1,2],[CS K AB AJ "plan",CS K AB (AM (a "Layout") "plank" (Y1 K a) E AJ BQ) "ground",CS K AB (GQ (a "Store") (Q7 K a) E (BF AJ<|AS K AB "ground")) "store"])
example:bR:=([1,2,3,5,6,7],[FD (a "NotSound") E (AF<|tC<|.str "the plank has faults"),BM (F8<|G4 K<|BU (ZU K a) E (BF AB AJ)) (bR0 K a E E) BW,AT (BU (VD K a) E (BF AB AJ)) (AG 2),AT NL<|AG 3,CP<|DQ K "dict" X8 BC<|AF<|BU (ZV K a) E (DC AB AJ B2),DG (CM K AQ) (AG 4) (bR4 K a E E),CP<|BU (ZW K a) E (BF AJ BC),AV AQ])
example:bS:=([1,3],[FD (a "NoName") E (AF<|tC<|.str "the text is no name"),BM (F8<|G4 K<|CJ (MJ K) (AF<|BZ (CM K AQ) (AG 0) CQ (BU (ZH K a) (λ_=>E0) (AF AB)) 1 [])) (bS0 K a E E) BW,FD (a "Twice") E (AF<|tC<|.str "the new name stands already"),BM (A9<|AD GR (AM (a "Store") "cell_of" (N5 K a) E AB (AF AJ)) (tC .non)) (bS2 K a E E) BW])
example:Bx:=([0,2,3],[AT (AM (a "Store") "cell_of" (N5 K a) E AB (AF AJ)) (AG 2),FD (a "NoName") E (AF<|tC<|.str "no such name stands"),BM (A9<|AD HM AQ<|tC .non) (Bx1 K a E E) BW,AV<|BH K (AD (B8 K) (AM (a "Store") "name_cells" (Q8 K a) E AB BQ) AQ) 1])
example:bT:=([0,1,2],[AT (AM (a "Hold") "change" (GT K a) E (AS K AB "book") (DC (AM (a "Layout") "name_at" (JK K a) E (AS K AB "plan") (AF<|AM (a "Store") "cell_of" (N5 K a) E AB (AF AJ))) (tC .non) AQ)) (AG 3),F9 (AS K AB "taken_out") AJ BC,AV BC])
example:bU:=([0,1,2,3,4,5],[CP (AM (a "Store") "ask_for_new_name" (U1 K a) E AB (BF AJ<|CI<|AF AJ)),AT (BU (ZE K a) E (BF (AS K AB "plan") (AS K AB "book"))) (AG 2),AT (BU (UZ K a) E (BF (AS K AB "plan") (AS K AB "book"))) (AG 3),AT (AM (a "Hold") "change" (GT K a) E (AS K AB "book") (DC (AM (a "Layout") "record_mark" (KH K a) E (AS K AB "plan") (AF AQ)) DB (CI BQ))) (AG 4),AT (AM (a "Hold") "change" (GT K a) E (AS K AB "book") (DC (AM (a "Layout") "record_at" (G7 K a) E (AS K AB "plan") (AF AQ)) (C8<|BF DB<|C8 BQ) (CI<|AF B2))) (AG 5),AV<|CI<|DC B2 CK<|AM (a "Store") "fill_cell" (U3 K a) E AB (RV BC AJ AQ CK)])
example:bV:=([0,1,2,3,4],[CP (AM (a "Store") "ask_for_new_name" (U1 K a) E AB (BF AQ<|CI<|BF AJ AQ)),AT (AM (a "Store") "record_of" (KM K a) E AB (AF AJ)) (AG 3),AT (BU (UZ K a) E (BF (AS K AB "plan") (AS K AB "book"))) (AG 4),AT (AM (a "Store") "recount" (Q9 K a) E AB (DC BC DB<|CI BQ)) (AG 5),AV<|CI<|BF CK<|AM (a "Store") "fill_cell" (U3 K a) E AB (RV B2 AQ BC CK)])
example:Cm:=([0,1,3,4],[AT (AM (a "Store") "record_of" (KM K a) E AB (AF AJ)) (AG 2),AT (AM (a "Store") "empty_cell" (U5 K a) E AB (BF AJ<|CI BQ)) (AG 3),AV<|CI<|BF BC<|AM (a "Store") "recount" (Q9 K a) E AB (DC AQ (NH NS DB) (CI<|AF BC)),BM (A9<|AD HL (BH K (AM (a "Store") "standing" (JL K a) E AB (AF AQ)) 0) DB) (Cm2 K a E E) BW,AV<|AD (BE K) (CI<|AF BC) (AM (a "Store") "drop_record" (ZK K a) E AB (BF AQ BC))])
example:Cw:=([0,2,3,4,5,6],[AT (AM (a "Store") "record_of" (KM K a) E AB (AF AJ)) (AG 3),FD (a "NoPiece") E (AF<|tC<|.str "the text is none of a piece"),BM (F8<|G4 K<|BU (ZI K a) E (AF AQ)) (Cw1 K a E E) BW,AT (BU (ZF K a) E (BF (AS K AB "plan") (AS K AB "book"))) (AG 4),AT (AM (a "Hold") "change" (GT K a) E (AS K AB "book") (DC (AM (a "Layout") "piece_mark" (KJ K a) E (AS K AB "plan") (AF B2)) DB (CI BQ))) (AG 5),AT (AM (a "Hold") "change" (GT K a) E (AS K AB "book") (DC (AM (a "Layout") "piece_at" (LN K a) E (AS K AB "plan") (AF B2)) AQ (CI<|AF CK))) (AG 6),AV<|CI<|DC CK FI<|AM (a "Store") "regroup" (U4 K a) E AB (DC BC (AD (BE K) (BH K (AM (a "Store") "standing" (JL K a) E AB (AF BC)) 1) (C8<|AF B2)) (CI<|AF FI))])
example:Db:=([0,1,3,4,5],[AT (AM (a "Store") "record_of" (KM K a) E AB (AF AJ)) (AG 3),AT (BH K (AM (a "Store") "standing" (JL K a) E AB (AF BC)) 1) (AG 4),FD (a "NoPiece") E (AF<|tC<|.str "the record has no piece at that place"),BM (F8<|A9<|FE EB GK DV AQ<|CJ (D0 K) (AF B2)) (Db2 K a E E) BW,AT (AM (a "Store") "regroup" (U4 K a) E AB (DC BC (AD (BE K) (K3 (LC K) B2 K2 (JH AQ)) (K3 (LC K) B2 (JH<|AD (BE K) AQ DB) K2)) (CI BQ))) (AG 5),AV<|CI<|BF CK<|AM (a "Hold") "change" (GT K a) E (AS K AB "book") (DC (AM (a "Layout") "piece_mark" (KJ K a) E (AS K AB "plan") (AF<|AD (B8 K) B2 AQ)) DV (CI<|AF CK))])
example:Dc:=([0,1],[AT (BH K (AM (a "Store") "standing" (JL K a) E AB (AF<|AM (a "Store") "record_of" (KM K a) E AB (AF AJ))) 1) (AG 2),AV<|BZ (CM K AQ) (AG 0) CQ (AM (a "Hold") "in_hand" (N2 K a) (λ_=>E0) (AS K AJ "book") (AF<|AM (a "Layout") "piece_at" (LN K a) (λ_=>E0) (AS K AJ "plan") (AF AB))) 1 [0]])
example:Dh:=([0,1,2],[AT (AM (a "Store") "record_of" (KM K a) E AB (AF AJ)) (AG 2),AT (CI<|BF (AM (a "Layout") "name_at" (JK K a) E (AS K AB "plan") (AF<|AM (a "Store") "cell_of" (N5 K a) E AB (AF AJ))) (AM (a "Layout") "record_at" (G7 K a) E (AS K AB "plan") (AF AQ))) (AG 3),AV<|AD (BE K) BC (BZ (CM K<|BH K (AM (a "Store") "standing" (JL K a) E AB (AF AQ)) 1) (AG 0) CQ (AM (a "Layout") "piece_at" (LN K a) (λ_=>E0) (AS K AJ "plan") (AF AB)) 1 [0])])
example:Dj:=([0,1],[CP (BU (ZX K a) E (BF AB AJ)),AV<|GQ (a "Store") (Q7 K a) E (BF AB AJ)])
example:Dm:=([0,1,2,3],[AT (AM (a "Store") "link" (N6 K a) E AB (BF AJ AQ)) (AG 3),AT (AM (a "Store") "record_of" (KM K a) E AB (AF AJ)) (AG 4),AT (AM (a "Store") "empty_cell" (U5 K a) E AB (BF AJ<|CI<|AF<|BH K BC 1)) (AG 5),AV<|AD (BE K) BC (CI<|BF CK<|AM (a "Store") "recount" (Q9 K a) E AB (DC B2 (NH NS DB) (CI<|AF CK)))])
example:Dv:=([0,1,2],[AT (AM (a "Store") "hold" (ZJ K a) E AB BQ) (AG 2),AT (BZ (CM K<|AM (a "Store") "places_of" (ZL K a) E AB (AF AJ)) (AG 0) CQ (AM (a "Hold") "newest" (Q4 K a) (λ_=>E0) AJ (AF AB)) 1 [2]) (AG 3),AV<|BU (ZD K a) E (BF AQ<|BZ (CM K BC) (AG 0) (A9<|AD GR AB<|tC .non) AB 1 [])])
example:Dx:=([0,1,2],[AT (BU (VD K a) E (BF (AS K AB "plan") (AS K AB "ground"))) (AG 1),CS K AB (BU (ZY K a) E (BF (AS K AB "plan") (AS K AB "ground"))) "store",AV<|CJ (QR K) (AF<|CJ (D0 K) (AF AJ))])
example:Em:=([0,11],[AT (BH K AJ 0) (AG 2),CP<|AM (a "Store") "make" (RA K a) E AB (AF<|BH K AJ 1),CP<|AM (a "Store") "link" (N6 K a) E AB (BF (BH K AJ 1) (BH K AJ 2)),CP<|AM (a "Store") "cut" (RB K a) E AB (AF<|BH K AJ 1),CP<|AM (a "Store") "put" (RC K a) E AB (BF (BH K AJ 1) (BH K AJ 2)),CP<|AM (a "Store") "take" (RD K a) E AB (BF (BH K AJ 1) (CJ (YC K) (AF<|BH K AJ 2))),CP<|AM (a "Store") "move" (RE K a) E AB (BF (BH K AJ 1) (BH K AJ 2)),BM (A9<|AD (CG K) AQ (tC<|.str "take")) (Em5 K a E E) (Em6 K a E E),BM (A9<|AD (CG K) AQ (tC<|.str "put")) (Em4 K a E E) (Em7 K a E E),BM (A9<|AD (CG K) AQ (tC<|.str "cut")) (Em3 K a E E) (Em8 K a E E),BM (A9<|AD (CG K) AQ (tC<|.str "link")) (Em2 K a E E) (Em9 K a E E),BM (A9<|AD (CG K) AQ (tC<|.str "make")) (Em1 K a E E) (Em10 K a E E)])
example:bY:=([0,2,4,6,7],[AT (BH K AJ 0) (AG 2),AV<|BU (VF K a) E (AF<|AM (a "Store") "write" (VE K a) E AB (AF<|CJ (YC K) (AF<|BH K AJ 1))),BM (A9<|AD (CG K) AQ (tC<|.str "write")) (bY1 K a E E) BW,AV<|BU (RM K a) E (AF<|BZ (CM K<|BU (N7 K a) E (BF AB<|BH K AJ 1)) (AG 0) CQ (CJ (QR K) (AF AB)) 1 []),BM (A9<|AD (CG K) AQ (tC<|.str "keep")) (bY3 K a E E) BW,AV<|DQ K "str" (MK K) (tC<|.str "") (AF<|AM (a "Store") "texts" (U6 K a) E AB (AF<|BH K AJ 1)),BM (A9<|AD (CG K) AQ (tC<|.str "show")) (bY5 K a E E) BW,AV<|BU (RM K a) E (AF<|AM (a "Store") "names" (U0 K a) E AB BQ)])
example:Fd:=([0,3,5,6],[AT (BU (Z1 K a) E (AF AJ)) (AG 2),CP<|BU (RN K a) E (BF (AS K AB "store") AQ),AV<|tC<|.str "ok",BM (A9<|AD (QI K) (BH K AQ 0) (tC<|.ref<|a "DEEDS")) (AH (Fd1 K a E E) (Fd2 K a E E)) BW,AV<|AM (a "House") "come_up_again" (RP K a) E AB BQ,BM (A9<|AD (CG K) (BH K AQ 0) (tC<|.str "stop")) (Fd4 K a E E) BW,AV<|BU (RO K a) E (BF (AS K AB "store") AQ)])
example:Fg:=([0,4,5],[AT (tC .non) (AG 2),AT (AM (a "House") "say" (ER K a) E1 AB (AF AJ)) (AG 2),AT (tC .non) (AG 2),AT (tC .non) (AG 2),XH (λE1=>(Fg1 K a E E1)) (XG (λcls=>W.exmAny K cls [.ref (a "NoName") ,.ref (a "Twice") ]) (Fg3 K a E E) (XG (λcls=>W.exmAny K cls [.ref (a "NoPiece") ,.ref (a "NoRoom") ]) (Fg2 K a E E) pL)),AV AQ])
example:cB:=([0,1,4,6,10,11],[AT (AM (a "House") "say" (ER K a) E AJ (AF<|AD (BE K) (tC<|.str "show ") AQ)) (AG 4),AT (AM (a "House") "say" (ER K a) E AJ (AF<|AD (BE K) (tC<|.str "keep ") AQ)) (AG 5),CP<|AM (a "House") "say" (ER K a) E AJ (AF<|AD (BE K) (tC<|.str "write ") FI),DG (CM K<|DQ K "str" QQ CK<|AF<|tC<|.str " ") (AG 6) (cB2 K a E E),BM (A9<|AD (DL K) CK (tC<|.str "-")) (cB3 K a E E) BW,AV<|tC<|.bl false,BM (MA (A9<|AD (DL K) (BU (VH K a) E (DC AB AJ AQ)) B2) (A9<|AD (DL K) (AM (a "House") "say" (ER K a) E AJ (AF<|AD (BE K) (tC<|.str "keep ") AQ)) (tC<|.str "-"))) (cB5 K a E E) BW,CP<|AM (a "House") "say" (ER K a) E AJ (AF<|tC<|.str "stop"),AV<|tC<|.bl false,BM (MA (A9<|AD (DL K) (AM (a "House") "say" (ER K a) E AJ (AF<|AD (BE K) (tC<|.str "show ") AQ)) B2) (A9<|AD (DL K) (AM (a "House") "say" (ER K a) E AJ (AF<|AD (BE K) (tC<|.str "keep ") AQ)) (tC<|.str "-"))) (cB8 K a E E) BW,BM (G4 K BC) (AH (cB7 K a E E) (cB9 K a E E)) BW,AV<|tC<|.bl true])
example:cD:=([0,1,2,3,4,18,19],[AT (BU (Y3 K a) E (BF AB DV)) (AG 1),AT (GQ (a "Layout") (Y0 K a) E (RV (AD (BE K) DB (AD C3 AJ HU)) (AD (BE K) DB (AD C3 (AD C9 AJ HU) HU)) (AD (BE K) DB (AD C3 (AD C9 AJ zjz) HU)) (AD (BE K) DB (AD C3 (AD C9 AJ<|DK 27) zjy)))) (AG 2),AT (GQ (a "House") (Z3 K a) E (AF AQ)) (AG 3),AT (BU (Z4 K a) E (AF<|AD C9 AJ<|DK 108)) (AG 4),AT IF<|AG 5,AT (DQ K "str" QQ (AM (a "House") "say" (ER K a) E BC (AF<|tC<|.str "names")) (AF<|tC<|.str " ")) (AG 6),AT (AD (B8 K) FI (AD C3 (AD C9 AJ<|DK 24) (CJ (D0 K) (AF FI)))) (AG 7),AV<|tC<|.bl false,BM (F8<|G4 K<|BU (aB K a) E (RV AQ BC KP<|AD (CG K) (AD C3 (AD C9 AJ<|DK 12) OG) DV)) (cD7 K a E E) BW,F9 CK KP<|AM (a "House") "say" (ER K a) E BC (AF<|AD (BE K) (tC<|.str "show ") KP),CP<|AM (a "House") "say" (ER K a) E BC (AF<|AD (BE K) (tC<|.str "write ") (CJ (QR K) (AF<|AD C3 (AD C9 AJ HU) (AM (a "Layout") "blocks" (Q1 K a) E AQ BQ)))),AT IF<|AG 5,BM (IW (A9<|AD (CG K) (BU (aA K a) E (BF BC<|BU (Z9 K a) E (BF (AD C9 AJ<|DK 12) B2))) (tC<|.str "ok")) (A9<|AD HL (AD C3 (AD C9 AJ<|DK 12) RU) OG)) (cD11 K a E E) BW,BM (A9<|AD (CG K) (AD C3 AJ HU) DV) (cD10 K a E E) (cD12 K a E E),BM (IW (A9<|AD (CG K) (AD C3 AJ<|DK 12) VJ) (A9<|AD (DL K) FI (CI<|AF<|tC<|.str "-"))) (AH (cD6 K a E E) (AH (cD8 K a E E) (cD9 K a E E))) (cD13 K a E E),AV<|tC<|.bl false,BM (A9<|AD (DL K) (BU (VH K a) E (DC AQ BC KP)) (JF CK KP)) (cD15 K a E E) BW,X9 CK (AG 7) (cD16 K a E E),DG (CM K<|K3 (LC K) AB (JH DB) K2) (AG 1) (AH (cD5 K a E E) (AH (cD14 K a E E) (cD17 K a E E))),AV<|tC<|.bl true])
end
local macro_rules
 |`(tactic|erw [$l,*])=>do
  let g:=fun (s:String)=>((s.splitOn " ").map fun n=>Lean.mkIdent n.toName).toArray
  let a←(g "zas zat zau zav zaw zax zay zaz zfs zfu za0 za1 za2 zfx zf0 zf9 za3 za4 za5 za6 za7 zfl zfj zfn zfg zfq za8 za9 zba zbb zbc zbd zif zii zil zbe zbf zbg zbh zbi zic zbj zbk zh1 zh5 zh2 zh6 zbl ze3 ze4 ze5 ze6 ze7 ze8 ze9 zfa zfb zfc zf3 zf4 zf5 zf6 zf7 zbm zbn zbp zbq zbr zbv zbx zbw zgf zge zgg zby zbz zbt zbs zbu zb0 zgl zgm zgn zgo zgp zgq zgr zgs zgt zgu zgv zgw zgx zgy zgz zg0 zg1 zg2 zg3 zg4 zg5 zg6 zb1 zhc zhf zhi zhl zho zhr zhu zhx zdj zdk zdl zdg zdf zia zh9 zee zeu zev zew zex zcc zcb zez zix ziy ziu").mapM fun n=>`(Lean.Parser.Tactic.simpLemma|↓$n:term)
  let b←(g "T9 C3 C9 rPw NS zaf Ends.drop AX zfd zfe bw nc List.reduceReplicate yb Nat.reduceSub pi r_ List.getElem?_cons_zero List.getElem?_cons_succ xl Option.join_some List.set_cons_zero List.set_cons_succ V.int.injEq V.ref.injEq V.bl.injEq V.str.injEq zg and_true true_and q1 q2 q3 q4 qL qR reduceCtorEq false_and and_false or_false false_or qF decide_eq_true_eq Fo yk qD eq_self if_true mv if_false ite_true Bool.true_eq_false qC qA Int.reduceToNat Int.reduceLT Int.reduceLE Int.reduceEq Nat.reduceLeDiff ci not_true_eq_false not_false_eq_true").mapM fun n=>`(Lean.Parser.Tactic.simpLemma|$n:term)
  let c<-l.getElems.mapM fun r=>let n:Lean.Term:=⟨r.raw[1]⟩;if s!"{n.raw.getId}".endsWith "_" then `(Lean.Parser.Tactic.simpLemma|↓$n:term) else `(Lean.Parser.Tactic.simpLemma|$n:term)
  `(tactic|simp only [$a,*,$b,*,$c,*])
def nO{H:Hp}{t:Addr}{o:HO}{P:Hp->Prop}(h:H t=none)(k:∀ a,Same H a->a t=some o->P a):P (upd H t o):=k _ (AL h) AE
def EL{H:Hp}{t:Addr}{o:HO}(h:H t=none):∃ a,upd H t o=a/\Same H a/\a t=some o:={_,rfl,AL h,AE}
section
variable{K:W.Frag}{a:Ad}{vs:vE}{H:Hp}{Q:VK}{E:XK}
local macro_rules
 |`(command|example:($n:ident,$x,*):=$t:term)=>do
  let q:=x.getElems
  let i:=Lean.mkIdent
  let l:Array Lean.Term:=(List.replicate (q[2]!.raw.isNatLit?.getD 0) (Lean.Syntax.mkStrLit "")).toArray
  let a<-`($(q[0]!) $(i `K) $(i `a) $(i `vs) $(i `H) $(i `Q) $(i `E))
  let b<-`($(q[1]!) $(i `K) $(i `a) (fun _=>$(i `E)) (AW $(i `Q)) (AX [$l,*] $(i `vs)) $(i `H))
  if q.size=4 then `(command|def $n:ident ($(i `h):ident : $a) : $b := $t) else `(command|def $n:ident : $a → $b := $t)
example:(zup,Y3,aO,2):=by
 apply u3;intro s ns k [rfl,hs,c,q];erw[aO,aO1_];refine{_,(.inl {_,hs,(ε _).symm}),?_};split;rename_i b;refine CH hs rfl  ?_ q;unfold Q3;simp[(c_.mp b)]
 have:Q3 ns k=0:=by
  unfold Q3;rw[wj,bu (by lia)];rfl
 rw[this]at q;exact q
example:(zuq,YM,aM,3):=by
 apply u4;intro p J m w [rfl,T,x,y,h1,h2,q];erw[aM,aM0_];refine{i0,by lia,(MI (BT m<|oA y rfl) (λi ys c=>Same H c/\∃ g:List _,ys=g.map V.ref/\Paired (λt r=>c t=some (.tup r)) g (ba i<|ba w .non)) {Same.refl _,[],rfl,.nil} (λi ys c hi L d=>?_) (λys c L d M v=>?_))};let[s,g,e,P]:=d
 have fin:∀ (t':Addr) (j:Hp),Same c j->j t'=some _->Same H j/\∃ l:List _,ys++[V.ref t']=l.map _/\Paired (λt r=>j t=some (.tup r)) l (ba _ _):=λt' j A N=>by
  refine{s.trans A,g++[t'],by rw[e,aw];rfl,?_};rw[List.replicate_succ'];exact Paired.snoc (Paired.mapP P λt r z=>A _ _ z) N
 refine{by decide,λt O=>.inr ?_}
 have B:Same c (upd c t<|.tup [V.non]):=λb o z=>by rw[AI (BK z O)];exact z
 refine x3 t w _ {rfl,rfl,SqT.of AE,by simp,by lia,by lia,BT _ (by simp;exact oA h2 rfl),λD=>?_,λD u U=>?_};refine fin t _ B ?_;rw[AE,(ce D)];rfl;rw[pZ];exact fin u _ (B.trans λb o z=>by rw[AI (BK z U)];exact z) AE;let[s,g,e,P]:=d
 have n:=BK (s _ _ x) v;refine y3 {(by rw[AI n];exact s _ _ x),T.cl,T.nC,by decide,y3 {AE,T.cl,T.nW,KC (by decide),y3 {AE,T.cl,T.nN,KC  (py (KC  (by decide))),?_}}};rw[GG,GG];refine q M _ (s.free v) {⟨J,AE⟩,{g,by rw[AI n.symm,AE,e],?_},λr Y=>?_,by simpa using y,h2} λb o I hb=>?_;refine Paired.mapP P λt r z=>?_;rw[AI (BJ z (s _ _ x) (by intro z';cases z')),AI<|BK z v];exact z;rw[rq Y,uj];rw[AI hb,AI<|BK (s _ _ I) v];exact s _ _ I
example:(zur,QT,uO,1):=by
 apply u5;intro p b w rows n [rfl,T,P,q];let[c,h2,h3]:=P.ls;let[d,h1]:=P.ob;refine y3 {h1,T.cl,T.nC,_,UF _ _ _,_,.inl {_,SqL.of h2,?_},q};rw[ε,h3.length]
example:(zus,YN,uP,1):=by
 apply u5;intro p b w rows n [rfl,T,P,q];let[c,h1]:=P.ob;exact y3 {h1,T.cl,T.nW,_,sC _ _ _,q}
example:(zut,NW,aN,2):=by
 apply u6;intro p d w rows n b [rfl,T,P,q,c];let[e,h2,h3]:=P.ls;let[g,h1]:=P.ob;erw[aN,aN1_];split;rename_i h0;refine y3 {h1,T.cl,T.nC,_,UF _ _ _,_,.inl {_,SqL.of h2,(by rw[ε,h3.length])},?_};split;exact{by decide,c (by lia)};exact q h0 (by lia);exact{by decide,c (by lia)}
def Gv(b:Addr)(w n:Int):(pf b w n).lookup ("ask_for_block":Str)=none:=KG _ _ _ (by decide) (by decide) (by decide)
example:(zuu,LM,bC,2):=by
 apply u6;intro p d w rows n b [rfl,T,P,q,e];let[o,h1]:=P.ob;let[r,h2,h3]:=P.ls;erw[bC,bC0_,NW];refine y2 {h1,Gv _ _ _,T,x3 d w _ {⟨n,P⟩,λh0 g=>y3 {h1,T.cl,T.nC,_,UF _ _ _,?_},e}};obtain⟨i,rfl⟩:∃ i:Nat,b=i:={_,(fz h0).symm}
 have c:=c_.mp g;let[t,j,l]:=JC h3<|θ c;exact CH (SqL.of h2) rfl (v:=.ref t) (by rw[ψ,j];rfl) {_,.inr<|SqT.of l,q i _ rfl<|θ c}
example:(zuv,UG,bD,3):=by
 apply u8;intro p g w rows n b v xs [rfl,T,P,y,M,q,A];let[B,h2,h3]:=P.ls;let[D,h1]:=P.ob
 have e:=P.ne;erw[bD,bD0_,bD2_,bD3_,bD4_,NW];refine y2 {h1,Gv _ _ _,T,x3 g w _ {⟨n,P⟩,λh0 I=>{_,.inl ⟨_,y,rfl⟩,y3 {h1,T.cl,T.nW,_,sC _ _ _,?_}},λz=>A<|z.imp id .inl}};obtain⟨i,rfl⟩:∃ i:Nat,b=i:={_,(fz h0).symm}
 erw[];split;exact{by decide,A (.inr (.inr (by lia)))}
 have J:xs.length=w:=by lia
 refine{xs,.inl {y,λt l=>?_}}
 have d:=BK h1 l
 have j:=BK h2 l;refine y3 {by rw[AI d];exact h1,T.cl,T.nC,_,UF _ _ _,(x4 g _ i i {rfl,rfl,by rw[AI j];exact h2,?_,?_})};unfold HI;rw[if_pos (i0),if_pos (by rw[ε,h3.length];exact I),ci];refine y3 {by rw[AI e,AI d];exact h1,T.cl,T.nN,_,zi8 _ _ _,?_};erw[];refine y2 {by rw[AI e,AI d];exact h1,by show 3<1000;decide,(q i rfl (c_.mp I) J _ {⟨D,AE⟩,{B.set i t,?_,?_},λr L=>?_,by rw[ka];exact P.sz,P.sw} λx o ex c=>?_)};rw[AI e.symm,AE,List.map_set]
 have keep:∀ u r,H u=some (.tup r)->upd (upd (upd H t<|.tup xs) g (.lst<|(B.map V.ref).set i (.ref t))) p (.ins (a "Plank") D (pf g w<|n+1)) u=some _:=λu r s=>by
  rw[AI (BJ s h1 (by intro z;cases z)),AI (BJ s h2 (by intro z;cases z)),AI<|BK s l];exact s
 refine zb4 ?_ i<|Paired.mapP h3 keep;rw[AI d.symm,AI j.symm,AE];let z||z:=p_ L
 exact P.wd r z;rw[z];exact J
 have c:x≠p/\x≠g:={λz=>c<|.inl z,λz=>c<|.inr z}
 rw[AI c.1,AI c.2,AI<|BK ex l];exact ex
def OH(b:Addr)(w n:Int):(pf b w n).lookup ("read":Str)=none:=KG _ _ _ (by decide) (by decide) (by decide)
def Gw(b:Addr)(w n:Int):(pf b w n).lookup ("write":Str)=none:=KG _ _ _ (by decide) (by decide) (by decide)
def FZ(h:fs.length<n):(BS f v fs).length<n+1:=cj (O8 f v fs) (py h)
def SameBut.none{b:Addr}{H c:Hp}{x:Addr}(s:SameBut (· =b) H c)(d:c b≠xj)(h:c x=xj):H x=xj:=by
 cases e:H x with
 |none=>rfl
 |some o =>
  have:x≠b:=λz=>d<|z ▸ h;rw[s _ _ e this]at h;cases h
example:(zuw,Y4,tS,4):=by
 apply u5;intro x c d v e [rfl,T,b,q];refine y3 {b,T.cc,T.nP,by decide,y3 {AE,T.cc,T.nV,FZ  (by decide),y3 {AE,T.cc,T.nN,FZ  (FZ  (by decide)),?_}}};rw[GG,GG];exact q
example:(zux,UT,aW,2):=by
 apply u7;intro b D cl M w rows n [rfl,T,TP,P,N,q];erw[aW,aW0_,aW1_,aW2_]
 have e1:upd H b _ b=some (.ins (HQ a) M (BS "ground" (.ref D) [])):=AE;refine y3 {N,T.cl,T.nG,by decide,by decide,?_}
 have s1:SameBut _ H (upd H b<|.ins (HQ a) M (BS "ground" (.ref D) [])):=λx o e n=>by rw[AI n];exact e
 revert e1 s1;generalize upd H b _=H1;intro e1 s1 m hm
 have O:=s1.none (by rw[e1];intro z;cases z) hm
 have nbm:=BK e1 hm;refine y3 {by rw[AI nbm];exact e1,T.cl,T.nM,FZ  (by decide),?_}
 have I:SameBut _ H (upd (upd H1 m<|.lst []) b (.ins (HQ a) M (BS "made" (.ref m) (BS "ground" (.ref D) [])))):=(s1.upd<|.inr O).upd (.inl rfl)
 have e2:upd (upd H1 m<|.lst []) b _ b=some (.ins (HQ a) M (BS "made" (.ref m) (BS "ground" (.ref D) []))):=AE
 have m2:upd (upd H1 m<|.lst []) b (.ins (HQ a) M (BS "made" (.ref m) (BS "ground" (.ref D) []))) m=some (.lst []):=by rw[AI nbm.symm,AE]
 revert I e2 m2;generalize upd _ b _=H2;intro I e2 m2
 have P2:PlankAt a H2 D cl w rows n:=by
  let[[dx',f1],[ts,f2,f3],r1,r2,r3]:=P;exact{{_,I _ _ f1 (BJ f1 N (NX (by simp[pf])))},{ts,I _ _ f2 (BJ f2 N (by intro z;cases z)),Paired.mapP f3 λt r z=>I _ _ z (BJ z N (by intro z;cases z))},r1,r2,r3}
 let[dp,hp]:=P2.ob;refine y2 {hp,KG _ _ _ (by decide) (by decide) (by decide),x5 D cl w _ n {rfl,TP,P2,i0,by have:=P.sz;lia,?_}};rw[ci];refine MI (BT _<|oA P.sz rfl) (λi ys g=>Same H2 g/\∃ p:List _,ys=p.map V.ref/\p.Nodup/\∀ l∈p,g l=some (.lst [])/\H2 l=none) {Same.refl _,[],rfl,jv,by simp} (λi ys g hi hl U=>?_) (λys g hl U u IA=>?_);let[s,p,ey,nd,al]:=U;refine{by decide,λl c=>{s.trans<|AL c,p++[l],by rw[ey,aw];rfl,(nw.mpr {nd,by simp,λx J y hy e=>by rw[aa]at hy;subst hy e;rw[(al _ J).1]at c;cases c}),λx J=>?_}};let J||J:=bd.mp J
 exact{AL c _ _ (al x J).1,(al x J).2};rw[aa.mp J];exact{AE,s.free c};let[s,p,ey,nd,al]:=U
 have s3:SameBut (· =b) H (upd g u<|.lst ys):=by
  intro x o e nx
  have e':=s _ _<|I _ _ e nx;rw[AI (BK e' IA)];exact e'
 have e3:upd g u (.lst ys) b=some (.ins (HQ a) M (BS "made" (.ref m) (BS "ground" (.ref D) []))):=by rw[AI (BK (s _ _ e2) IA)];exact s _ _ e2
 have m3:upd g u (.lst ys) m=some (.lst []):=by rw[AI (BK (s _ _ m2) IA)];exact s _ _ m2
 have i3:upd g u (.lst ys) u=some (.lst<|p.map V.ref):=by rw[AE,ey]
 have Y:∀ l∈p,upd g u (.lst ys) l=some _/\H l=none/\l≠u/\l≠m:=λl c=>by
  have z:=al l c
  have d:=BK z.1 IA;exact{by rw[AI d];exact z.1,I.none (by rw[e2];intro z;cases z) z.2,d,λy=>by rw[y,m2]at z;cases z.2}
 have L:=I.none (by rw[e2];intro z;cases z) (s.free IA);revert s3 e3 m3 i3 Y;generalize upd g u _=H3;refine λs3 e3 m3 i3 Y=>y3 {e3,T.cl,T.nI,FZ  (FZ  (by decide)),λlt A0=>?_}
 have A:=BK AE A0;rw[AI A.symm]at A0;refine y3 {by rw[AI A,AE],T.cl,T.nL,FZ  (FZ  (FZ  (by decide))),λou ED=>?_}
 have B:=BK AE ED;rw[AI B.symm]at ED
 have nl5:=BK AE ED;rw[AI nl5.symm,AI B.symm]at ED;refine y3 {by rw[AI B,AE],T.cl,T.nO,FZ  (FZ  (FZ  (FZ  (by decide)))),?_};rw[zje];generalize eH:upd _ b _=H5
 have kp:∀ x,x≠b->x≠lt->x≠ou->H5 x=H3 x:=λx d n2 n3=>by rw[<-eH,AI d,AI n3,AI d,AI n2,AI d]
 have kk:∀ x o,H3 x=some o->x≠b->H5 x=some o:=λx o e d=>by rw[kp x d (BK e A0) (BK e ED)];exact e
 have s5:=λx o e d=>kk x o (s3 _ _ e d) d
 have nbx:∀ x xs,H3 x=some (.lst xs)->x≠b:=λx xs e=>BJ e e3 (by intro z;cases z);refine q m u lt ou p H5 O L (s3.none (by rw[e3];intro z;cases z) A0) (s3.none (by rw[e3];intro z;cases z) ED) (λl c=>(Y l c).2.1) {{{M,by rw[<-eH,AE]},{[],kk _ _ m3<|nbx _ _ m3,.nil},kk _ _ i3<|nbx _ _ i3,λi l e=>?_,nd,{[],?_,λi j=>rfl,ο _},{[],(by rw[<-eH,AI B.symm,AE]),λk=>rfl,jv,by simp},by simp,by simp,by simp,{(BK (s _ _ m2) IA),(λz=>(Y _ z).2.2.2 rfl),(λz=>(Y _ z).2.2.1 rfl),?_,?_,?_},by simp},?_,(by rw[<-hl,ey,ε])} s5
 have z:=Y l<|ι e;exact kk _ _ z.1<|nbx _ _ z.1;rw[<-eH,AI A.symm,AI nl5,AI A.symm,AE];let[ts,z,v]:=P.ls;exact BK z O;let[ts,z,v]:=P.ls;exact BK z L;let[ts,z,v]:=P.ls;exact λy=>by rw[(Y _ y).2.1]at z;cases z
 let[[dx',f1],[ts,f2,f3],r1,r2,r3]:=P;exact{{_,s5 _ _ f1 (BJ f1 N (NX (by simp[pf])))},{ts,s5 _ _ f2 (BJ f2 N (by intro z;cases z)),Paired.mapP f3 λt r z=>s5 _ _ z (BJ z N (by intro z;cases z))},r1,r2,r3}
example:(zuy,Y5,VM,2):=by
 apply u3;intro nl ns o [rfl,hs,b,q];cases o with
 |none =>
  erw[VM,VM0_,VM1_];refine{ns,hs,oC b rfl,λx o D c d e r m l=>{_,.inl {SqL.of AE,λt g=>q t c _ (((AL d).trans (AL e)).trans (AL g)) AE r (λy=>?_) (ck l)}}};rw[m y];simp
 |some k =>
  erw[VM,VM1_,VM2_];refine{_,.inl hs,λl i=>{by decide,λp u=>.inl ?_}}
  have j:Same H (upd _ p<|.lst [.int k]):=(AL i).trans (AL u)
  have n:upd (upd H l<|.lst<|ns.map V.int) p (.lst [.int k]) l=some (.lst<|ns.map V.int):=by rw[AI (BK AE u),AE]
  have s:upd (upd H l<|.lst<|ns.map V.int) p _ p=some (.lst [.int k]):=AE;revert j n s;refine λj n s=>x4 l p _ _ {rfl,rfl,n,s,BT _ (by simp;exact oA b rfl),λr v=>{r,rfl,ns++[(k:Int)],?_,by simp;exact oG b rfl,λx o D c d e w m z=>{_,.inl {SqL.of AE,λt g=>q t c _ ((((j.trans<|AL v).trans (AL d)).trans (AL e)).trans (AL g)) AE w (λy=>?_) (by simpa using z)}}}};rw[aw];exact SqL.of AE;rw[m y];simp
example:(zuz,Y6,wN,2):=by
 apply u9;intro A w rows n cs outs l i j [rfl,T,TP,B,c,q,b];let[o,d]:=B.bk.ob;let[p,e]:=B.pk.ob
 have g:∀ {m:Str},¬ m="contents"->¬ m="width"->¬ m="written"->(pf A.cl w n).lookup m=none:=λh1 h2 h3=>KG _ _ _ h1 h2 h3;refine BV c  rfl rfl ?_;erw[];split;rename_i h0;refine y3 {d,T.cl,T.nG,_,QU,y2 {e,g (by decide) (by decide) (by decide),x5 _ _ w _ n {rfl,TP,B.pk,?_}}};erw[];split;exact{by decide,b λz=>by lia};refine BV c  rfl rfl ?_;erw[];split;rename_i h2;refine y3 {d,T.cl,T.nG,_,QU,y2 {e,g (by decide) (by decide) (by decide),x5 _ _ w _ n {rfl,TP,B.pk,?_}}};erw[];split;exact{by decide,b λz=>by lia};exact q {h0,by lia,h2,by lia};exact{by decide,b λz=>by lia};exact{by decide,b λz=>by lia}
example:(zu0,Q4,zB,2):=by
 apply u9;intro A w rows n cs outs g i j [rfl,T,TP,B,b,q,l];let[p,c]:=B.bk.ob;let[kvs,d,o,z]:=B.bk.lat;refine y2 {c,DA,x9 A w _ n cs _ g i j {rfl,T,TP,B,b,λh=>(y3 {c,T.cl,T.nL,_,sI,.inr {_,.inl d},_,qS d b,?_}),l}};rw[o]
 have:=q h;cases e:D5 cs i j with
 |none=>rw[e]at this;exact this
 |some k=>rw[e]at this;exact this
def BookIn.len(B:BookIn C D H A w cs outs):∃ xs,H A.m=some (.lst xs)/\xs.length=cs.length:=by
 let[b,e,p]:=B.made;exact{_,e,by rw[ε,p.length]}
example:(zu1,UU,tX,3):=by
 apply u8;intro A w rows n cs outs nl ns [rfl,T,B,hs,q,s];let[D,u]:=B.bk.ob;let[xs,v,o]:=B.bk.len;refine .inl {⟨_,hs⟩,(G2  (λi j d=>d=H/\(∃ z,j=[some _,some _,z])/\∀ x∈ns.take i,known cs x) {rfl,⟨_,rfl⟩,by simp} (by intro i j d _ [e,_];exact e ▸ hs) (λi x j d l b=>?_) (λj d b=>?_))};let[rfl,[z,rfl],p]:=b;rw[ψ,af]at l;let[r,g,rfl]:=l
 have bad:¬ known cs r->1<=sizeLine/\E _ _ d:=λh=>{by decide,s {r,ι g,h}}
 erw[tX0_,tX1_];split;rename_i h0;refine y3 {u,T.cl,T.nM,_,JI,_,.inl {_,SqL.of v,o.symm},?_};split;exact bad λz=>by lia
 intro y c;rw[cv,g]at c;let c||c:=bd.mp c
 exact p y c;simp only[Option.toList_some,aa]at c;subst c;exact{h0,by lia};exact bad λz=>by lia
 let[e,[z,I],p]:=b;subst e;refine q λx l=>p x ?_;rw[ε,b_];exact l
example:(zu2,UV,tT,1):=by
 apply u6;intro A w rows n cs outs [rfl,T,B,q];let[xs,e,b]:=B.bk.len;let[o,c]:=B.bk.ob;let[r,g,j,z]:=B.bk.out
 have sz:=B.bk.sz;refine y3 {c,T.cl,T.nM,_,JI,_,.inl {_,SqL.of e,b.symm},i0,by lia,(zdi (λk=> !outs k) (BT _<|oA sz rfl) (λi s u l=>(y3 {c,T.cl,T.nO,_,QW,_,dI g,?_})) λp d=>(q p _ d (AL d) (by rw[AE];rfl)))};rw[j];exact l
example:(zu3,GT,zU,6):=by
 apply O0;intro A w rows n cs outs M nl v ns i j [rfl,T,TP,B,hp,hs,hl,hc,q,q1,q2];let[xs,hm,hml]:=B.bk.len;let[dx,hb]:=B.bk.ob;refine y2 {hb,DA,x9 A w _ n cs outs M i j {rfl,T,TP,B,hp,λhon=>(y2 {hb,DA,x8 A w rows n cs outs nl ns {rfl,T,B,hs,λhkn=>(y3 {hb,T.cl,T.nM,_,JI,cs.length,.inl {_,SqL.of hm,hml.symm},(y3 {hb,T.cl,T.nM,_,JI,.inl {rfl,_,SqL.of hm},x3 nl ns (D5 cs i j) {rfl,hs,hl,λt ks H1 s1 et kr km kl=>(λx L hx hdy ndy=>x5 x L M v t {rfl,T,AE,rfl,?_})}})}),q2 hon}}),q1}};rw[GG]
 have s2:Same H1 (upd (upd H1 L<|.own x) x (.ins (a "Change") L (GA M v t))):=(AL hdy).trans (AL (by rw[AI ndy.symm];exact hx))
 have ex:upd (upd H1 L<|.own x) x (.ins (a "Change") L (GA M v t)) x=some (.ins (a "Change") L (GA M v t)):=AE;revert s2 ex;generalize upd (upd H1 L<|.own x) x (.ins (a "Change") L (GA M v t))=H2;intro s2 ex
 have s:=s1.trans s2;replace et:=s2 _ _ et;let[chs,O,pch]:=B.bk.made
 have IA:=B.bk.mil;let[kvs,A0,hv,IS]:=B.bk.lat;let[i0,i1,j0,j1]:=hon;let[DZ,ED,hvo,hko]:=B.bk.out;obtain⟨U,rfl⟩:∃ U:Nat,j=U:={j.toNat,(fz j0).symm}
 obtain⟨g,rfl⟩:∃ g:Nat,i=g:={i.toNat,(fz i0).symm}
 have Y:g<A.ls.length:=by rw[B.nb];exact c_.mp i1
 have el:=θ Y
 have r:=B.bk.mic g _ el
 have b:=pr Y;revert el r b;generalize A.ls[g]=l;intro el r b
 have ap:=B.bk.ap
 have nml:A.m≠l:=λz=>ap.2.1<|z ▸ b
 have ncl:A.cl≠l:=λz=>ap.2.2.2.2.2<|z ▸ b
 have d:∀ {y:Addr} {o:HO},H2 y=some o->(∀ k,o≠.dT k)->y≠A.lt:=λe h=>BJ e (s _ _ A0) (h _)
 have I:∀ {y:Addr} {o:HO},H2 y=some o->(∀ k,o≠.lst k)->y≠A.m:=λe h=>BJ e (s _ _ O) (h _)
 have J:∀ {y:Addr} {o:HO},H2 y=some o->(∀ k,o≠.lst k)->y≠l:=λe h=>BJ e (s _ _ r) (h _)
 have D:=s _ _ hb
 have JV:=s _ _ hp;refine{_,s _ _ O,ω (show(chs.map V.ref).length<1000 by rw[ε];exact oD (cj (a_ pch.length) hc) rfl) (by decide),?_}
 have bb:=I D (by intro k z;cases z)
 have bl:=J D (by intro k z;cases z)
 have pm:=I JV (by intro k z;cases z)
 have pl':=J JV (by intro k z;cases z)
 have mt:=d (s _ _ O) (by intro k z;cases z)
 have lt':=d (s _ _ r) (by intro k z;cases z)
 have bln:=YS cs g;refine y3 {by rw[AI bb];exact D,T.cl,T.nI,_,YU,BV (by rw[AI pm];exact JV) (n:=0) rfl rfl (CH (SqL.of (by rw[AI ap.1.symm];exact s _ _ IA)) (n:=g) (v:=.ref l) rfl (by rw[ψ,el];rfl) {.inl {rfl,_,SqL.of (by rw[AI nml.symm];exact s _ _ r)},{_,by rw[AI nml.symm];exact s _ _ r,ω (show((DH cs g).map λ(k:Nat)=>V.int k).length<1000 by rw[ε];lia) (by decide),(y3 {by rw[AI bl,AI bb];exact D,T.cl,T.nL,_,sI,_,pT2 (by rw[AI lt'.symm,AI mt.symm];exact s _ _ A0) (by rw[AI pl',AI pm];exact JV) (oD (cj IS hc) rfl),?_})}})};generalize eH:upd (upd (upd H2 A.m _) l _) A.lt (.dT<|CD kvs [.inl ↑g,.inl ↑U] (.int ↑cs.length))=H5
 have N:∀ y,y≠A.m->y≠l->y≠A.lt->H5 y=H2 y:=λy n1 n2 n3=>by rw[<-eH,AI n3,AI n2,AI n1]
 have s5:SameBut (λy=>y=A.m\/y=l\/y=A.lt) H H5:=λy o e ny=>by
  rw[N y (λz=>ny<|.inl z) (λz=>ny<|.inr<|.inl z) (λz=>ny<|.inr<|.inr z)];exact s _ _ e
 have lo:∀ y,(y=A.m\/y=l\/y=A.lt)->EV (H y):=by
  rintro y (z|z|z)
  ·exact B.loose<|.inl z
  ·exact B.loose<|.inr<|.inr<|.inl<|z ▸ b
  ·exact B.loose<|.inr<|.inr<|.inr<|.inl z
 have hnd:∀ y∈ks,0<=y/\y<cs.length:=λy hy=>by
  let h||[k,e,rfl]:=(km y).mp hy
  ·exact hkn y h
  ·exact{iM rfl,by have:=NY e;exact c_.mpr this}
 refine q ⟨i0,i1,j0,j1⟩ hkn ks H5 kr km {{{dx,by rw[N _ bb bl (d D (by intro k z;cases z))];exact D},{chs++[x],?_,Paired.snoc (Paired.mapP pch λy c h=>h.sb s5 lo) (x3 L M t {?_,?_,?_})},?_,λk l' e=>?_,B.bk.nd,{CD kvs [.inl ↑g,.inl ↑U] (.int ↑cs.length),(by rw[<-eH,AE]),λp q=>?_,?_},{DZ,?_,hvo,(hko.mono (by simp))},?_,λc hc'=>?_,λk c e=>?_,ap,λk c e j ej=>?_},B.pk.sbL s5 lo ?_,B.nb} (s5.wide λy z=>?_);rw[<-eH,AI mt,AI nml,AE,aw];rfl;rw[N x (I ex (by intro k z;cases z)) (J ex (by intro k z;cases z)) (d ex (by intro k z;cases z))];exact ex
 ·rw[N M pm pl' (d JV (by intro k z;cases z))];exact JV
 rw[N t (I et (by intro k z;cases z)) (J et (by intro k z;cases z)) (d et (by intro k z;cases z))];exact et;rw[N _ ap.1.symm (λz=>ap.2.2.1<|z ▸ b) (d (s _ _ IA) (by intro k z;cases z))];exact s _ _ IA;rw[zjc];by_cases z:l'=l;subst z
 have ek:k=g:=by
  let[h1,h2]:=ζ.mp e;let[h3,h4]:=ζ.mp el;exact(Ft B.bk.nd).mp (h2.trans h4.symm)
 subst ek;rw[<-eH,AI lt',AE];simp
 have nk:¬ g=k:=λy=>by subst y;rw[el]at e;cases e;exact z rfl
 have hl':=B.bk.mic k l' e;rw[N l' (λy=>ap.2.1<|y ▸ ι e) z (d (s _ _ hl') (by intro k z;cases z))];simp only[ci,if_neg nk];exact s _ _ hl';rw[G1,YO];by_cases z:p=g/\q=U;let[rfl,rfl]:=z;simp;rw[if_neg (λy=>z (by simpa using y)),if_neg<|λy=>z ⟨y.1.symm,y.2.symm⟩];exact hv p q
 have:=HJ kvs [.inl ↑g,.inl ↑U] (.int ↑cs.length);simp;lia;rw[N _ (I (s _ _ ED) (by intro k z;cases z)) (J (s _ _ ED) (by intro k z;cases z)) (d (s _ _ ED) (by intro k z;cases z))];exact s _ _ ED;simp;exact dq hc;let h||h:=bd.mp hc'
 exact B.bk.inn c h;rw[aa.mp h];exact{by rw[ci];exact Y,(show(U:Int).toNat<w by exact c_.mp j1)};let h||h:=fe k cs.length
 rw[bc h]at e;exact B.bk.need k c e;rw[cf h]at e
 have:k-cs.length=0:=by
  rcases mx (k-cs.length)with z|z
  ·exact z
  ·rw[bu (by simp;exact z)]at e;cases e
 rw[this]at e;cases e;exact{λy hy=>{(hnd y hy).1,by have:=(hnd y hy).2;lia},kr,(show ks.length<=100 by lia)};let h||h:=fe k cs.length
 rw[bc h]at e;rw[List.take_append_of_le_length (by exact kh h)]at ej;exact B.bk.chn k c e j ej;rw[cf h]at e
 have:k-cs.length=0:=by
  rcases mx (k-cs.length)with z|z
  ·exact z
  ·rw[bu (by simp;exact z)]at e;cases e
 have hk:k=cs.length:=by lia
 subst hk;rw[this]at e;cases e;exact(km _).mpr (.inr {j,by simpa using ej,rfl});rintro (z|z|z);exact ap.2.2.2.1 z;exact ncl z;let[ts,e,u]:=B.pk.ls;exact d (s _ _ e) (by intro k z;cases z) z;let z||z||z:=z
 exact .inl z;exact .inr<|.inr<|.inl<|z ▸ b;exact .inr<|.inr<|.inr<|.inl z
def BookIn.at{C D:Addr}{A:BA}{w:Nat}{cs:yD}{outs:wC}{H:Hp}(B:BookIn C D H A w cs outs){k:Nat}{c:Ch}(e:cs[k]? =some c):∃ xs x,H A.m=some (.lst xs)/\xs[k]? =some (.ref x)/\ChAt D H x c:=by
 let[b,h,p]:=B.made;let[x,ex,d]:=JC p e;exact x2 _ x {h,by rw[ψ,ex];rfl,d}
def zu4{n:Nat}{outs:wC}{k:Nat}(h:k∈FU n outs):k<n/\outs k=false:=by
 have:=de.mp h;exact{ak.mp this.1,by simpa using this.2}
def zu5(n:Nat)(outs:wC):(FU n outs).Pairwise (· <·):=ip.filter _
def zu6(n:Nat)(outs:wC):(FU n outs).length<=n:=by
 have:=cu (λ(k:Nat)=> !outs k) (τ n)
 rwa [cr]at this
example:(zu7,Y7,wM,5):=by
  apply u8;intro A w rows n cs outs nl ns [rfl,T,B,hs,hl,q,qe];let[dx,hb]:=B.bk.ob;refine y2 {hb,DA (by decide),x8 A w _ n cs _ nl ns {rfl,T,B,hs,λhkn f hf=>(.inl {{_,(AL hf).seq hs},(G2  (λi u D=>∃ kvs,D=upd H f (.dK kvs)/\(∀ x:Int,(BG kvs<|.inl x).isSome=true↔x∈ns.take i)/\kvs.length<=i/\∃ z,u=[some (.ref _),some _,some _,z,none]) {[],rfl,by simp[W8],ο _,_,rfl} (by intro i u D _ [kvs,e,_];rw[e];exact(AL hf).seq hs) (λi x u D p g=>?_) (λu D g=>?_))}),qe}};let[kvs,rfl,hv,IS,z,rfl]:=g
  have hi:=(ζ.mp p).1;rw[ε]at hi;rw[ψ,af]at p;let[x',J,rfl]:=p;erw[wM8_];refine{_,pI AE (by lia),_,GG,λy=>?_,?_};rw[G1,cv,J,bd,<-hv y];by_cases e:y=x';subst e;simp
  have:¬ (ux y:AN)=ux x':=λz=>e (by simpa using z);simp[e]
  have:=HJ kvs (.inl x') (.bl true)
  lia
  let[kvs,rfl,hv,IS,z,rfl]:=g;rw[ε,b_]at hv;rw[ε]at IS
  have s1:=AL (o:=.dK kvs) hf;erw[wM7_]
  have B1:=B.same s1
  have f1:upd H f (.dK _) f=some (.dK kvs):=AE;refine y2 {s1 _ _ hb,DA (by decide +kernel),x6 A w rows n cs outs {rfl,T,B1,λl H2 DF s2 el=>?_}};erw[]
  have KW:=s1.trans s2;refine{_,SqL.of el,?_}
  have sz:=B.bk.sz
  have wl:=zu6 cs.length outs
  have hW:(AO<|FU cs.length outs).length=(FU cs.length outs).length:=ε _
  have keep:∀ d,Same H (upd H2 f<|.dK d):=λd b o e=>by
    rw[AI (BK e hf)];exact KW _ _ e
  have Bk:=λd=>B.same<|keep d;refine zdh (λi u D=>∃ d,D=upd H2 f (.dK d)/\(∀ x∈ns,(BG d<|.inl x).isSome=true)/\(∀ x:Int,(BG d<|.inl x).isSome=true->x∈ns\/∃ (k:Nat) (c:Ch),cs[k]? =some c/\outs k=false/\(BG d<|.inl (k:Int)).isSome=true/\x∈c.nd) /\
    (∀ (t:Nat) (k:Nat) (c:Ch),(FU cs.length outs)[t]? =some k->(FU cs.length outs).length-i<=t->cs[k]? =some c->(BG d<|.inl (k:Int)).isSome=true->∀ y∈c.nd,(BG d<|.inl y).isSome=true)/\d.length<=1000+100*i/\∃ z z',u=[some (.ref A.b),some<|.ref nl,some<|.ref f,z,z'])
    {kvs,?_,λx p=>(hv x).mpr p,λx p=>.inl<|(hv x).mp p,λt k c s L=>?_,χ IS hl,_,_,rfl} (λi u D _ ⟨d,e,_⟩=>by rw[e];exact SqL.of (by rw[AI (BK f1 DF).symm];exact el)) (λi x u D hi p g=>?_) (λu D g=>?_)
  funext b;by_cases e:b=f;subst e;rw[AE];exact(s2 _ _ f1);rw[AI e]
  have:=(ζ.mp s).1;exact nL this L;let[d,rfl,h1,h3,h2,hkl',z,z',rfl]:=g;rw[hW]at hi p;unfold AO at p;rw[ψ,af]at p;let[k,J,rfl]:=p;let[hk,ho]:=zu4<|ι J
  have ec:=θ hk;revert ec;generalize cs[k]=c;intro ec
  have later:∀ (t I:Nat),(FU cs.length outs)[t]? =some I->(FU cs.length outs).length - (i+1)<=t->I=k\/(k<I/\(FU cs.length outs).length - i<=t):=λt I s L=>by
    by_cases z:t=(FU cs.length outs).length-1-i
    ·subst z;rw[J]at s;cases s;exact .inl rfl
    · let[h5,rfl]:=ζ.mp s
      let[h6,rfl]:=ζ.mp J;exact .inr {pz.mp (zu5 cs.length outs) _ _ h6 h5 (by lia),by lia}
  refine{_,dI AE,?_};cases hin:(BG d<|.inl (k:Int)).isSome with
  |false =>
    erw[];refine{_,rfl,h1,h3,λt I c' s L M Y=>?_,by lia};let rfl||[_,z]:=later t I s L
    ·rw[hin]at Y;cases Y
    ·exact h2 t I c' s z M Y
  | true =>
    erw[];refine u2 ?_<|(Bk d).bk.at ec;intro xs cx [hm,ex,DO];revert DO;apply u3;intro dc pl nt [hc1,hc2,N]
    have hb2:=(keep d) _ _ hb;refine y3 {hb2,T.cl,T.nM,_,JI,CH (SqL.of hm) rfl ex (y3 {hc1,T.cc,T.nN,_,sG,.inr {{_,SqT.of N},?_}})};let[nd1,nd2,nd3]:=B.bk.need k c ec;refine pY (xs:=c.nd.map V.int) (λt u D=>∃ j,D=upd H2 f (.dK j)/\(∀ x:Int,(BG j<|.inl x).isSome=true↔(BG d<|.inl x).isSome=true\/x∈c.nd.take t)/\j.length<=d.length+t/\∃ z',u=[some (.ref A.b),some<|.ref nl,some<|.ref f,some<|.int k,z'])
      {d,rfl,by simp,ο _,_,rfl} (λt u D _ g=>?_) (λt y u D O g=>?_) (λu D g=>?_)
    · let[j,e,_]:=g
      rw[e]
      have nf:nt≠f:=BJ N AE (by intro z;cases z);rw[AI nf]at N;exact SqT.of (by rw[AI nf];exact N)
    · let[j,e,JX,U,z2,ez]:=g
      subst e;subst ez
      have hty:=(ζ.mp O).1;rw[ε]at hty;rw[ψ,af]at O;let[y',hy',rfl]:=O;erw[wM0_,wM1_,wM2_,wM3_,wM4_,wM5_,wM6_,wM7_,wM8_];refine{_,pI AE (by lia),_,GG,λx=>?_,?_}
      · rw[G1,cv,hy',bd]
        by_cases e:x=y'
        ·subst e;simp
        · have:¬ (ux x:AN)=ux y':=λz=>e (by simpa using z)
          rw[if_neg this,JX x];simp[e]
      · have:=HJ j (.inl y') (.bl true)
        lia
    · let[j,e,JX,U,z2,ez]:=g
      subst e;subst ez;rw[ε,b_]at JX;rw[ε]at U
      have up:∀ {x:Int},(BG d<|.inl x).isSome=true->(BG j<|.inl x).isSome=true:=λh=>(JX _).mpr (.inl h);refine{j,rfl,λx p=>up<|h1 x p,λx p=>?_,λt I c' s L M Y y O=>?_,by lia,x2 _ _ rfl}
      · rcases(JX x).mp p with h | h
        · let h||[I,c',s,L,M,Y]:=h3 x h
          ·exact .inl h
          ·exact .inr<|x2 I c' {s,L,up M,Y}
        ·exact .inr<|x2 k c {ec,ho,up hin,h}
      · rcases later t I s L with rfl | ⟨A0,z⟩
        · rw[ec]at M;cases M
          exact(JX y).mpr (.inr O)
        · rcases(JX _).mp Y with h | h
          ·exact up<|h2 t I c' s z M h y O
          · have:=(nd1 _ h).2
            lia
  let[d,rfl,h1,h3,h2,hkl',z,z',rfl]:=g;rw[hW]at h2
  have s3:=keep d;erw[wM0_,wM1_,wM2_,wM3_,wM4_,wM5_,wM6_,wM7_,wM8_];refine y2 {s3 _ _ hb,DA (by decide +kernel),x6 A w rows n cs outs {rfl,T,Bk d,λl2 H4 hl4 s4 el4=>?_}};refine .inl {{_,SqL.of el4},?_};refine XW (λv=>match v with
    |.int x=>(BG d<|.inl x).isSome
    |_=>false) (BT _ (by lia)) (SqL.of el4) (λx p QB qb=>?_) λr hr=>?_
  let[k,hk,rfl]:=av.mp p;exact{_,dI<|s4 _ _ AE,qb};refine q hkn r _ (λx=>(BG d<|.inl x).isSome) h1 (λk c s L M y O=>?_) h3 ((s3.trans s4).free hr) ((s3.trans s4).trans (AL hr)) ?_
  have hkm:k∈FU cs.length outs:=de.mpr {ak.mpr (ζ.mp s).1,by rw[L];rfl};let[t,et]:=QX hkm;exact h2 t k c et (by lia) s M y O;rw[AE];unfold AO;rw[ze]
  rfl
def zu8{Q:Addr->Hp->Prop}{E:XK}(T:TB K a)(TP:DR K a)(P:PlankAt a d l i w rows n)
  (q:∀ (A:BA) (g:Hp),A.gp=l->A.cl=i->(∀ x o,d x=some o->x=i\/¬ A.F x)->D6 a g A w rows n [] (λ_=>false)->Same d g->Q A.b g) :
  ∀ x j,d x=none->d j=none->j≠x->UT K a [.ref x,.ref l] (upd (upd d j<|.own x) x (.ins (HQ a) j [])) (λv g=>v=.non/\Q x g) E:=λb p I r s=>by
 have u:Same d (upd (upd d p<|.own b) b (.ins (HQ a) p [])):=(AL r).trans (AL (by rw[AI s.symm];exact I));refine x7 b l i p w _ n {rfl,T,TP,P.same u,AE,λm Y lt ou ls J L M N O B U D=>{rfl,(q _ J rfl rfl (λx o e=>?_) U λy o e=>D _ _ (u _ _ e) (BK e I))}};by_cases z:x=i;exact .inl z;refine .inr ?_
 have c:=u _ _ e;rintro (y|y|y|y|y|y);rw[y,L]at c;cases c;rw[y,M]at c;cases c;rw[B x y]at c;cases c;rw[y,N]at c;cases c;rw[y,O]at c;cases c;exact z y
example:(zu9,N2,zV,3):=by
 apply u9;intro A w rows n cs outs u i j [rfl,T,TP,B,b,q,D];let[U,c]:=B.bk.ob;let[Y,I]:=B.pk.ob;refine y2 {c,DA,x9 A w _ n cs _ u i j {rfl,T,TP,B,b,λh=>?_,D}}
 have q:=q h;unfold EX at q;cases e:D5 cs i j with
 |none =>
  rw[e]at q;refine y3 {c,T.cl,T.nG,_,QU,y2 {I,OH _ _ _,BV b  rfl rfl (x6 _ _ w _ n i {rfl,TP,B.pk,λg row J l vl d=>?_,λz=>absurd h λy=>by lia})}};subst J
  have p:=AL (o:=.lst row) d;refine BV (p _ _ b)  rfl rfl ?_
  have rl:=B.pk.wd _<|ι l
  have L:j.toNat<row.length:=by omega
  have r:=θ L;refine CH (SqL.of AE)   (by omega) r (q _ _ ?_ p);rw[show((g:Int)).toNat=g from rfl,l];exact r
 |some k =>
  rw[e]at q;let[M,N,pc]:=B.bk.made
  have s:=θ<|NY e;let[x,ex,O,p1,n1,h1,h2,h3]:=JC pc s;refine y3 {c,T.cl,T.nM,_,JI,CH (SqL.of N)  (v:=.ref x) rfl (by rw[ψ,ex];rfl) (y3 {h1,T.cc,T.nV,_,sF,q _ _ ?_<|Same.refl _})}
  show(cs[k]?).map _=_;rw[s]
  rfl
example:(zva,Y9,t8,4):=by
 apply WL;intro A w rows n cs outs k c g d [rfl,T,B,I,J,q];let[dx,u]:=B.bk.ob;refine u2 ?_<|B.bk.at I;intro xs cx [L,ex,M];revert M;apply u3;intro dc pl nt [s,N,l];let[DZ,O,U,v]:=B.bk.out;refine y3 {u,T.cl,T.nM,_,JI,CH (SqL.of L) rfl ex (y3 {s,T.cc,T.nN,_,sG,.inr {{_,SqT.of l},(pY  (λi p r=>r=H/\(∀ x∈c.nd.take i,(outs x||CA d x)=true)/\∃ z,p=[some _,some _,some _,z]) {rfl,by simp,_,rfl} (by intro i p r v [e,v];exact e ▸ SqT.of l) (λi x p r b j=>?_) (λp r j=>?_))}})};let[rfl,o,z,rfl]:=j;rw[ψ,af]at b;let[y,D,rfl]:=b
 have step:(outs y||CA _ y)=true->∀ x∈c.nd.take _,(outs x||CA _ x)=true:=λh x b=>by
  rw[cv,D]at b;let b||b:=bd.mp b
  exact o x b
  have:x=y:=by simpa using b
  exact this ▸ h
 refine y3 {u,T.cl,T.nO,_,QW,_,dI O,?_};rw[U];cases h1:outs y with
 |true =>
  erw[];exact step (by rw[h1];rfl)
 | false =>
  refine{_,dI J,?_};cases h2:(BG d _).isSome with
  |true =>
   erw[];exact step (by show(outs y||(BG d _).isSome)=true;rw[h2];simp)
  |false =>
   have e:MQ c.nd (λx=>outs x||CA d x)=some y:=by
    let[Y,e]:=ζ.mp D;unfold MQ;rw[mh];refine{by show(!(outs y||(BG d _).isSome))=true;rw[h1,h2];rfl,x2 _ (c.nd.drop<|i+1) {?_,λx b=>by show(!!(outs x||CA _ x))=true;rw[o x b];rfl}};rw[<-e,<-ix Y,j_]
   rw[e]at q;exact q
 let[e,o,z,ez]:=j;subst e;rw[ε,b_]at o
 have e:MQ _ (λx=>outs x||CA _ x)=none:=jz.mpr λx b=>by show ¬ (!(outs x||CA _ x))=true;rw[o x b];exact ay
 rw[e]at q;exact q
def zvb(s:Pass)(m:Nat)(e c:Hp)(g ol d:Addr):Prop:=∃ (b:yB) (hs:xC),SameBut (λy=>y=g\/y=ol\/y=d) e c/\c g=some (.dK b)/\(∀ x:Int,CA b x=s.gone x)/\b.length<=m/\c ol=some (.lst<|s.out.map λ(k:Nat)=>V.int k) /\
 c d=some (.lst<|hs.map V.ref)/\Paired (λx (p:Nat × Int)=>c x=some (.tup [.int p.1,.int p.2])) hs s.held
def Gx(kvs:yB)(k x:Int)(v:V):CA (CD kvs (.inl k) v) x=(CA kvs x||x==k):=by
 unfold CA;rw[G1];by_cases e:x=k;subst e;simp;simp[e]
example:(zvc,UW,aZ,8):=by
 apply u9;intro A w rows n cs outs b tk r [rfl,T,B,hbl,htk,hkt,q];let[dx,hb]:=B.bk.ob;erw[aZ,aZ0_,aZ1_,aZ2_];refine{_,htk,λg hg=>{by decide,λol M=>{by decide,λD N=>?_}}}
 have J:=BK AE M
 have s1:Same H (upd _ D<|.lst []):=((AL hg).trans (AL M)).trans (AL N)
 have O:=BK AE N
 have ngl:=BK (by rw[AI J];exact AE) N
 have eg:upd (upd (upd H g<|.dK r) ol (.lst [])) D (.lst []) g=some (.dK r):=by rw[AI ngl,AI J,AE]
 have eo:upd (upd (upd H g<|.dK r) ol (.lst [])) D (.lst []) ol=some (.lst []):=by rw[AI O,AE]
 have el:upd (upd (upd H g<|.dK r) ol (.lst [])) D _ D=some (.lst []):=AE
 have holH:=(AL hg).free M
 have hhlH:=((AL hg).trans (AL M)).free N;revert s1 eg eo el;generalize upd _ D _=H1;intro s1 eg eo el
 have hil:b<A.ls.length:=by rw[B.nb];exact hbl
 have U:=θ hil
 have Y:=B.bk.mic b _ U;revert U Y;generalize A.ls[b]=l
 have bln:=YS cs b;refine λU Y=>y3 {s1 _ _ hb,T.cl,T.nI,_,YU,CH (SqL.of<|s1 _ _ B.bk.mil)  (v:=.ref l) rfl (by rw[ψ,U];rfl) (.inl {{_,SqL.of<|s1 _ _ Y},?_})}
 have sz:=B.bk.sz
 have G:∀ {H':Hp},SameBut (λy=>y=g\/y=ol\/y=D) H1 H'->Same H H':=λsb y o e=>sb _ _ (s1 _ _ e) (by
  rintro (z|z|z);rw[z,hg]at e;cases e;rw[z,holH]at e;cases e;rw[z,hhlH]at e;cases e)
 refine G2  (λi σ H'=>zvb (((DH cs b).take i).foldl (DI cs outs) {[],[],CA _}) (1000+i) H1 H' g ol D/\∃ z1 z2,σ=[some _,some _,some _,some _,some _,some _,z1,z2])
  {x2 _ [] {SameBut.refl _,eg,λu=>rfl,hkt,eo,el,.nil},_,_,rfl} (by intro i σ H' u [[d,hs,sb,u],u];exact SqL.of<|G sb _ _ Y) (λi x σ H' hx hzz=>?_) (λσ H' hzz=>?_)
 have hi:=(ζ.mp hx).1;let[iv,z1,z2,rfl]:=hzz;rw[ε]at hi;rw[ψ,af]at hx;let[k,hk,rfl]:=hx
 have hkc:=UH<|ι hk
 have ec:=θ hkc;revert ec;generalize cs[k]=c
 have L:=YW (cs:=cs) (outs:=outs) ((DH cs b).take i) {[],[],CA r}
 have j:=sL (DI cs outs) {[],[],CA r} hk;intro ec;revert iv L j;generalize ((DH cs b).take i).foldl (DI cs _) _=s;generalize ((DH cs b).take _).foldl (DI cs _) _=s';intro iv L j;revert iv;apply u2;intro d hs [sb,e1,e2,e3,e4,e5,e6];simp only[nc,di]at L
 have sH:=G sb;let[DZ,ho,hv,u]:=B.bk.out;erw[aZ3_,aZ4_,aZ5_,aZ6_,aZ7_,aZ8_];refine y3 {sH _ _ hb,T.cl,T.nO,_,QW,_,dI<|sH _ _ ho,?_};rw[hv];unfold DI at j;cases h1:outs k with
 |true =>
  rw[h1,ph,if_pos rfl]at j;rw[j];exact x2 _ hs {sb,e1,e2,ck e3,e4,e5,e6}
 | false =>
  rw[h1,xy]at j
  have e2k:(BG d _).isSome=s.gone k:=e2 k;refine{_,dI e1,?_};rw[e2k];cases h2:s.gone k with
  |true =>
   rw[h2]at j;rw[j];exact x2 d hs {sb,e1,e2,ck e3,e4,e5,e6}
  | false =>
   rw[h2,if_neg ay,ec]at j;refine y2 {sH _ _ hb,DA,WK A w _ n cs _ k c g _ {rfl,T,(B.same sH),ec,e1,?_}}
   have efn:(λx=>outs x||CA d x)=λx=>outs x||s.gone x:=by funext x;rw[e2]
   rw[efn];simp only[Ha]at j;cases h3:MQ _ (λx=>outs x||s.gone x)with
   |none =>
    rw[h3]at j;dsimp only [Y8];refine{_,pI e1 (by lia),.inl {rfl,_,SqL.of (by rw[AI J.symm];exact e4)},{_,by rw[AI J.symm];exact e4,ω (show(s.out.map λ(k:Nat)=>V.int k).length<1000 by rw[ε];lia) (by decide),?_}};rw[j];refine x2 _ hs {?_,by rw[AI J,AE],λx=>by rw[Gx,e2],?_,by rw[AE,aw];rfl,by rw[AI O.symm,AI ngl.symm];exact e5,Paired.mapP e6 λx p e=>?_};intro y o e ny;rw[AI λz=>ny<|.inr<|.inl z,AI λz=>ny<|.inl z];exact sb _ _ e ny
    have:=HJ d (.inl (k:Int)) (.bl true)
    lia
    rw[AI (BJ e e4 (by intro z;cases z)),AI (BJ e e1 (by intro z;cases z))];exact e
   |some l' =>
    rw[h3]at j;dsimp only at j;dsimp only [Y8];rw[if_neg (by intro z;cases z)];refine{.inl {rfl,_,SqL.of e5},by decide,λtp I=>?_}
    have ntl:D≠tp:=BK e5 I;refine{_,by rw[AI ntl];exact e5,ω (show(hs.map V.ref).length<1000 by rw[ε,e6.length];lia) (by decide),?_};rw[j]
    have s2:=AL (o:=.tup [.int (k:Int),.int l']) I
    have kp:∀ y,y≠D->y≠tp->upd (upd H' tp<|.tup [.int (k:Int),.int l']) D (.lst<|hs.map V.ref++[.ref tp]) y=H' y:=λy n1 n2=>by rw[AI n1,AI n2]
    refine x2 d (hs++[tp]) {?_,by rw[kp g ngl (BK e1 I)];exact e1,e2,ck e3,by rw[kp ol O (BK e4 I)];exact e4,by rw[AE,aw];rfl,Paired.snoc (Paired.mapP e6 λx p e=>?_) ?_}
    ·intro y o e ny
     have e':=sb _ _ e ny;rw[kp y (λz=>ny<|.inr<|.inr z) (BK e' I)];exact e'
    ·rw[kp x (BJ e e5 (by intro z;cases z)) (BK e I)];exact e
    ·rw[AI ntl.symm,AE]
 let[iv,z1,z2,rfl]:=hzz;rw[ε,b_]at iv;erw[aZ0_,aZ1_,aZ2_,aZ3_,aZ4_,aZ5_,aZ6_,aZ7_,aZ8_,aZ9_,aZ10_];revert iv;apply u2;intro d hs [sb,e1,e2,e3,e4,e5,e6];refine{by decide,λt ht=>?_}
 have s2:=AL (o:=.tup [.ref ol,.ref D]) ht;exact q t ol D _ holH hhlH O ((G sb).trans s2) {AE,s2 _ _ e4,hs,s2 _ _ e5,Paired.mapP e6 λx p e=>s2 _ _ e}
example:(zvd,ZA,uC,5):=by
 apply u9;intro A w rows n cs outs b vl row [rfl,T,B,N,O,KY,q];let[dx,I]:=B.bk.ob;let[DZ,ho,hv,z]:=B.bk.out;refine{_,.inl<|SqL.of O,λJ j=>?_}
 have U:=AL (o:=.lst row) j
 have Y:b<A.ls.length:=by rw[B.nb];exact N
 have d:=θ Y
 have g:=B.bk.mic b _ d;revert d g;generalize A.ls[b]=l
 have sk:∀ o,Same H (upd H J o):=λo=>AL j;refine λd g=>y3 {U _ _ I,T.cl,T.nI,_,YU,CH (SqL.of<|U _ _ B.bk.mil)  (v:=.ref l) rfl (by rw[ψ,d];rfl) (.inl {{_,SqL.of<|U _ _ g},?_})};refine G2  (λi L M=>M=upd H J (.lst<|((DH cs b).take i).foldl (HP cs outs) row)/\∃ z1,L=[some _,some _,some _,some _,z1])
  ⟨rfl,_,rfl⟩ (by intro i L M z [e,z];rw[e];exact SqL.of<|sk _ _ _ g) (λi x L M hx p=>?_) (λL M p=>?_)
 let[rfl,z1,rfl]:=p;rw[ψ,af]at hx;let[k,hk,rfl]:=hx
 have hkc:=UH<|ι hk
 have u:=θ hkc;revert u;generalize cs[k]=c
 have s:=sL (HP cs outs) row hk
 have CN:=YV (cs:=cs) (outs:=outs) ((DH cs b).take i) row;intro u;revert s CN;generalize ((DH cs b).take i).foldl _ row=r;generalize ((DH cs b).take _).foldl _ _=r'
 have y:=sk<|.lst r;intro s CN;erw[uC1_,uC2_];refine y3 {y _ _ I,T.cl,T.nO,_,QW,_,dI<|y _ _ ho,?_};rw[hv];unfold HP at s;cases h1:outs k with
 |false =>
  rw[h1,if_neg ay]at s;erw[];rw[s]
 |true =>
  rw[h1,if_pos rfl,u]at s;refine u2 ?_<|(B.same y).bk.at u;intro xs cx [hm,ex,dc,pl,nt,D,hc2,hc3]
  have hcell:=(B.bk.inn c<|ι u).2;refine y3 {y _ _ I,T.cl,T.nM,_,JI,CH (SqL.of hm) rfl ex (y3 {D,T.cc,T.nV,_,sF,(y3 {y _ _ I,T.cl,T.nM,_,JI,CH (SqL.of hm) rfl ex (y3 {D,T.cc,T.nP,_,sE,BV hc2  rfl rfl (x4 J r _ _ {rfl,rfl,AE,?_,(by rw[GG,s])})})})})};unfold HI;rw[if_pos (i0),if_pos (by lia),ci]
 let[rfl,z1,rfl]:=p;rw[ε,b_];exact q J _ j (sk _) AE
example:(zve,ZB,zD,5):=by
 apply u7;intro A w rows n cs outs b [rfl,T,TP,B,q,qe];let[dp,hg]:=B.pk.ob;let[dx,hb]:=B.bk.ob;refine y3 {hb,T.cl,T.nG,_,QU,y2 {hg,OH _ _ _,x6 _ _ w _ n b {rfl,TP,B.pk,λI row eb er vl hvl=>?_,qe}}};subst eb;let[H1,zz0,s1,ev]:=EL  hvl
 have hbl:=(ζ.mp er).1;rw[zz0];refine y2 {s1 _ _ hb,DA,λe0 he0=>?_}
 have s2:=s1.trans<|AL (o:=.dK []) he0;refine x9 A w _ n cs _ I e0 [] {rfl,T,B.same s2,hbl,AE,by simp,λt ol hl N hol hhl nol s3 told=>?_}
 have GD:=s2.trans s3
 have ev3:=s3 _ _<|AL he0 _ _ ev
 have U:=s2.free hol
 have O:(CA<|[])=λv=>false:=rfl
 have Y:=s2.free hhl;rw[O]at told;let[ht,J,hs,hh3,hpr]:=told;let[L,fresh,v]:=UK (cs:=cs) (outs:=outs) (b:=I)
 have eW:DJ cs _ I=λx=>outs x||(outcome cs _ (λv=>false) I).out.any _:=rfl
 replace q:=λH' a1 a2 a3=>q I _ t ol hl H' rfl er U Y nol a1 a2 a3;revert J hpr L fresh eW q;generalize outcome cs _ (λv=>false) I=oc;generalize DJ cs _ I=ow;refine λJ hpr L fresh eW q=>BV ht  rfl rfl (.inl {{_,SqL.of J},?_});let[DZ,ED,hvo,hko]:=B.bk.out
 have s:=GD _ _ ED
 have fO:=B.off U
 have nou:=λz=>fO<|.inr<|.inr<|.inr<|.inr<|.inl z;refine G2  (λi σ H'=>(∃ u,H'=upd N A.ou (.dK u)/\(∀ x:Int,(BG u<|.inl x).isSome=(outs x||(oc.out.take i).any λk=>x==k))/\KeysOk u _)/\∃ z1,σ=[some _,some _,some _,some _,z1])
  {{_,?_,λx=>by rw[hvo];simp,hko},_,rfl} (by intro i σ H' v [[u,e,v],v];rw[e];exact SqL.of (by rw[AI nou];exact J)) (λi x σ H' hx hzz=>?_) (λσ H' hzz=>?_)
 funext y;by_cases e:y=A.ou;subst e;rw[AE];exact s;rw[AI e];let[[u,rfl,hv,hk],z1,rfl]:=hzz;rw[ψ,af]at hx;let[k,ek,rfl]:=hx
 have hkm:=ι ek
 have hnone:BG u (.inl k)=none:=by
  have:=hv k;rw[(fresh k hkm).1]at this
  have z:(oc.out.take i).any (λj=>k ==(j:Int))=false:=by
   rw[xc];intro j hj;let[m,hm,e]:=jo hj;rw[di]at hm;rw[Ef]at e;let[hi,e2]:=ζ.mp ek
   have:=pz.mp L m i (by lia) hi (by lia);rw[e,e2]at this;simp;exact λz=>je this<|ce z
  rw[z]at this;exact Option.isSome_eq_false_iff.mp this |> w_.mp
 have hb3:upd N A.ou (.dK u) A.b=some (.ins (HQ a) dx (bf A.gp A.m A.mi A.lt A.ou)):=by
  rw[AI (BJ (GD _ _ hb) s (by intro z;cases z))];exact GD _ _ hb
 erw[zD2_];refine y3 {hb3,T.cl,T.nO,_,QW,_,pI AE (by have:=B.bk.sz;have:=hk.len;lia),_,GG,λx=>?_,hk.put (UH (fresh k hkm).2) hnone _}
 have:=Gx u k x<|.bl true;unfold CA at this;rw[this,hv,cv,ek,li];simp;let[[u,rfl,hv,hk],z1,rfl]:=hzz;rw[ε,b_]at hv;replace hv:∀ x:Int,(BG u _).isSome=ow x:=λx=>by rw[hv,eW]
 have kb:∀ {y:Addr} {o:HO},H y=some o->y≠A.ou->upd N _ (.dK u) y=some o:=λe n=>by rw[AI n];exact GD _ _ e
 have M:SameBut _ H _:=λy o e n=>kb e n
 have B4:D6 a (upd N A.ou<|.dK u) A w rows n cs ow:=by
  have g:∀ x,x=A.ou->EV (H x):=λx e=>e ▸ (NZ ED);let[[[dx',b1],[chs,b2,b2'],b3,b4,b5,[kvs,b6,b6'],v,b8,b9,b10,b11,b12],pk,nb]:=B;let[ts,pl1,pl2]:=pk.ls;refine{{{dx',kb b1 (BJ b1 ED (by intro z;cases z))},{chs,kb b2 (BJ b2 ED (by intro z;cases z)),Paired.mapP b2' λx c h=>h.sb M g},kb b3 (BJ b3 ED (by intro z;cases z)),λi l e=>kb (b4 i l e) (BJ (b4 i l e) ED (by intro z;cases z)),b5,{kvs,kb b6 (BJ b6 ED (by intro z;cases z)),b6'},⟨u,AE,hv,hk⟩,b8,b9,b10,b11,b12},pk.sbL M g (BJ pl1 ED (by intro z;cases z)),nb}
 have ev4:upd N A.ou (.dK u) vl=some (.lst row):=by rw[AI (BJ ev3 s (by intro z;cases z))];exact ev3
 have ht4:upd N A.ou (.dK u) t=some (.tup [.ref ol,.ref hl]):=by rw[AI (BJ ht s (by intro z;cases z))];exact ht
 have ho4:upd N A.ou (.dK u) ol=some (.lst<|oc.out.map λ(k:Nat)=>V.int k):=by rw[AI nou];exact J
 have hh4:upd N A.ou (.dK u) hl=some (.lst<|hs.map V.ref):=by rw[AI (BJ hh3 s (by intro z;cases z))];exact hh3
 have hp4:Paired (λx (p:Nat × Int)=>upd N A.ou (.dK u) x=some (.tup [.int p.1,.int p.2])) hs oc.held:=Paired.mapP hpr λx p e=>by rw[AI (BJ e s (by intro z;cases z))];exact e
 revert M B4 ev4 ht4 ho4 hh4 hp4;intro M B4 ev4 ht4 ho4 hh4 hp4;let[dx4,hb4]:=B4.bk.ob;let[dp4,hg4]:=B4.pk.ob;refine y3 {hb4,T.cl,T.nG,_,QU,y2 {hg4,Gw _ _ _,y2 {hb4,DA,x9 A w rows n cs ow I vl row {rfl,T,B4,hbl,ev4,B.pk.wd row<|ι er,λll H5 hll5 s5 ell5=>?_}}}}
 have B5:=B4.same s5;refine x8 A.gp A.cl w rows n I ll (E7 cs ow I row) {rfl,TP,B5.pk,SqL.of ell5,by rw[sK,B.pk.wd row<|ι er];have:=B.pk.sw;exact oA this rfl,λi ei hi hxw H6 P6 sb6=>?_,λz=>?_}
 have ei:=ce ei;subst ei;let[ts5,D,pt5]:=B5.pk.ls;let[dp5,hg5]:=B5.pk.ob
 have ap:=B5.bk.ap
 have gp_b:A.b≠A.gp:=by
  let[d5,hb5]:=B5.bk.ob;exact BJ hb5 hg5 (NX (by simp[bf,pf]))
 have k6:∀ {y:Addr} {o:HO},H5 y=some o->y≠A.gp->y≠A.cl->H6 y=some o:=λe n1 n2=>sb6 _ _ e (by rintro (z|z);exact n1 z;exact n2 z)
 have r:∀ {y:Addr} {o:HO},H5 y=some o->(∀ C d f,o≠.ins C d f)->y≠A.gp:=λe n=>BJ e hg5<|n _ _ _
 have B6:D6 a H6 A w (rows.set I<|E7 cs ow I row) (n+1) cs ow:=by
  let[[b1,b2,b3,b4,b5,b6,b7,b8,b9,b10,b11,b12],pk,nb]:=B5;let[dx',b1]:=b1;let[chs,b2,b2']:=b2;let[kvs,b6,b6']:=b6;let[kvo',b7,b7']:=b7;refine{{{dx',k6 b1 gp_b (BJ b1 D (by intro z;cases z))},{chs,k6 b2 (r b2 (by intro v v v z;cases z)) ap.2.2.2.1.symm,Paired.mapP b2' λx c h=>?_},k6 b3 (r b3 (by intro v v v z;cases z)) ap.2.2.2.2.1.symm,λi l e=>k6 (b4 i l e) (r (b4 i l e) (by intro v v v z;cases z)) (λz=>ap.2.2.2.2.2<|z ▸ ι e),b5,{kvs,k6 b6 (r b6 (by intro v v v z;cases z)) (BJ b6 D (by intro z;cases z)),b6'},{kvo',k6 b7 (r b7 (by intro v v v z;cases z)) (BJ b7 D (by intro z;cases z)),b7'},b8,b9,b10,b11,b12},P6,by rw[nb,ka]};revert h;apply u3;intro dc p1 n1 [h1,h2,h3];exact x3 dc p1 n1 {k6 h1 (BJ h1 hg5 (NX (by simp[GA,pf]))) (BJ h1 D (by intro z;cases z)),k6 h2 (r h2 (by intro v v v z;cases z)) (BJ h2 D (by intro z;cases z)),k6 h3 (r h3 (by intro v v v z;cases z)) (BJ h3 D (by intro z;cases z))}
 have ht5:=s5 _ _ ht4
 have ho5:=s5 _ _ ho4
 have hh5:=s5 _ _ hh4;refine q H6 {k6 ht5 (r ht5 (by intro v v v z;cases z)) (BJ ht5 D (by intro z;cases z)),k6 ho5 (r ho5 (by intro v v v z;cases z)) (λz=>fO<|.inr<|.inr<|.inr<|.inr<|.inr z),hs,k6 hh5 (r hh5 (by intro v v v z;cases z)) (λz=>(B.off Y) (.inr<|.inr<|.inr<|.inr<|.inr z)),Paired.mapP hp4 λx p e=>?_} B6 λy o e ny=>(k6 (s5 _ _<|M _ _ e λz=>ny<|.inl<|.inr<|.inr<|.inr<|.inr<|.inl z) (λz=>ny<|.inr z) (λz=>ny<|.inl<|.inr<|.inr<|.inr<|.inr<|.inr z))
 have e5:=s5 _ _ e;exact k6 e5 (r e5 (by intro v v v z;cases z)) (BJ e5 D (by intro z;cases z));let z||z||z:=z
 lia
 exact absurd (c_.mpr hbl) (wg.mpr z);exact absurd (by rw[sK,B.pk.wd row<|ι er]) z
example:(zvf,ZC,tU,2):=by
 apply u8;intro A w rows n cs outs k c [rfl,T,B,b,q];let[o,d]:=B.bk.ob;refine u2 ?_<|B.bk.at b;intro xs p [e,g,i,r,s,j,l,c3];exact y3 {d,T.cl,T.nM,_,JI,CH (SqL.of e) rfl g (y3 {j,T.cc,T.nP,_,sE,BV l  rfl rfl q})}
structure Gy(cs:yD)(outs R:wC)(H0:Hp)(rw tk lf:Addr)(sofar lefts:wD)(kvt:yB)(H:Hp):Prop where
 sb:Same H0 H
 er:H rw=some (.lst<|AO sofar)
 et:H tk=some (.dK kvt)
 el:H lf=some (.lst<|AO lefts)
 nrt:H0 rw=none/\H0 tk=none/\rw≠lf
 lft:lefts=EO cs.length (λx=>outs x||CA kvt x) R
 row:∀ rest,GB cs (λx=>outs x||CA kvt x) lefts rest->GB cs outs (EO cs.length outs R) (sofar++rest)
 ks:KeysOk kvt cs.length
 sl:sofar.length+lefts.length<=cs.length
def zvg(kvs:yB)(k x:Int)(v:V):CA (CD kvs (.inl k) v) x=(CA kvs x||x==k):=by
 unfold CA;rw[G1];by_cases e:(ux x:AN)=.inl k
 ·cases e;simp
 have:¬ x=k:=λy=>e (by rw[y]);simp[this]
example:(zvh,ZD,zA,7):=by
 apply u8;intro A w rows n cs outs nl ns [rfl,T,B,hs,hl,q,qe];refine{by decide,λrw J tk L=>?_}
 have M:=BK AE L
 have htkH:H tk=none:=by rw[AI M.symm]at L;exact L
 have s1:=(AL  J).trans (AL (o:=.dK []) L)
 have N:upd (upd H rw (.lst [])) tk (.dK []) rw=some (.lst []):=by rw[AI M,AE]
 have et1:upd (upd H rw (.lst [])) tk _ tk=some (.dK []):=AE;revert s1 N et1;intro s1 N et1
 have B1:=B.same s1;let[dx1,hb1]:=B1.bk.ob;refine y2 {hb1,DA (by decide),x8 A w _ n cs _ nl ns {rfl,T,B1,s1.seq hs,hl,λkn lf H2 R r1 r2 r3 hlf s2 elf=>?_,λbad=>qe bad _ s1}}
 have cR:MP cs _ ns R:=⟨r1,r2,r3⟩
 have csz:=B.bk.sz
 have llen:(EO cs.length outs R).length<=cs.length:=by
  have h2:=cu (λ(k:Nat)=> !outs k) (τ cs.length);rw[cr]at h2;exact χ (cu (λ(k:Nat)=>R k) _) h2
 refine{λm σ O=>∃ (lf:Addr) (d l:List _) (g:List _),Gy cs outs R H rw tk lf d l g O/\l.length=m/\∃ y5 D,σ=[some _,some _,some _,some _,some<|.ref lf,y5,D],x5 _ lf [] _ [] {{(s1.trans s2),s2 _ _ N,s2 _ _ et1,elf,{J,htkH,(λe=>by rw[<-e,N]at hlf;cases hlf)},(by simp[W8,FU]),λrest h=>?_,{jv,by simp},by show 0+_<=_;rw[kq];exact llen},rfl,x2 _ _ rfl},?_};simpa [CA,W8,FU]using h;intro m σ H3 [lf,d,l,g,I,hm,y5,D,rfl];erw[];refine{_,.inl {_,SqL.of I.el,rfl},?_};cases l with
 |nil =>
  have:=I.row [] .nil;rw[iu]at this;exact q kn rw _ R H3 cR this (I.sl) J I.sb I.er
 | cons k r =>
  have hk:=N0.mp (show k∈EO cs.length (λx=>outs x||CA g x) R by rw[<-I.lft];exact υ ..)
  have ec:=θ hk.1;revert ec;generalize cs[k]=c;intro ec
  have B3:=B.same I.sb;let[dx3,hb3]:=B3.bk.ob;refine{λσ' O=>∃ (U:Addr) (j:wD) (p:yB),Gy cs outs R H rw tk U (d++[c.blk]) j p O/\j.length<m/\∃ y5 D,σ'=[some (.ref A.b),some<|.ref nl,some<|.ref rw,some<|.ref tk,some<|.ref U,y5,D],λσ' O ⟨U,j,p,I',A0,y5,D,e⟩=>{_,A0,x3 U _ j {⟨p,I'⟩,rfl,x2 y5 D e}},?_};let[g1,g2,g3]:=I.nrt;refine y2 {hb3,DA (by decide +kernel),CH (SqL.of I.el) (n:=0) (v:=.int k) rfl rfl (x8 A w rows n cs outs k c {rfl,T,B3,ec,?_})};erw[zA4_]
  have sl:=I.sl;rw[bw]at sl;refine{.inl {rfl,_,SqL.of I.er},_,I.er,ω (show(AO d).length<1000 by unfold AO;rw[ε];lia) (by decide),?_}
  have s4:Same H (upd H3 rw (.lst<|AO d++[.int c.blk])):=λy o e=>by rw[AI (BK e J)];exact I.sb _ _ e
  have l9:upd H3 rw (.lst<|AO d++[.int c.blk]) rw=some (.lst<|AO<|d++[c.blk]):=by rw[AE];simp[AO]
  have s:upd H3 rw (.lst<|AO d++[.int c.blk]) tk=some (.dK g):=by rw[AI M.symm];exact I.et
  have el4:upd H3 rw (.lst<|AO d++[.int c.blk]) lf=some (.lst<|AO (k::r)):=by rw[AI g3.symm];exact I.el
  revert s4 l9 s el4;intro s4 l9 s el4
  have B4:=B.same s4;let[dx4,hb4]:=B4.bk.ob;refine y2 {hb4,DA (by decide +kernel),x9 A w rows n cs outs c.blk tk g {rfl,T,B4,(by rw[<-B.nb];exact(B.bk.inn c<|ι ec).1),s,oA (χ I.ks.len csz) rfl,λt ol hl5 H5 hol hhl nol s5 told=>BV told.1 (n:=0) rfl rfl (.inl {{_,SqL.of told.2.1},?_})}}
  have eo:=told.2.1;rw[zjo]at eo
  have oW:∀ x:Int,DJ cs (λx=>outs x||CA g x) c.blk x=((outs x||CA g x)||(outcome cs (λx=>outs x||CA g x) (λ_=>false) c.blk).out.any λ(k:Nat)=>x ==(k:Int)):=λx=>rfl;let[o1,o2,_]:=UK (cs:=cs) (outs:=λx=>outs x||CA g x) (b:=c.blk);generalize (outcome cs (λx=>outs x||CA g x) (λ_=>false) c.blk).out=out at eo o1 o2 oW
  have et5:=s5 _ _ s
  have er5:=s5 _ _ l9
  have el5:=s5 _ _ el4
  have s45:=s4.trans s5
  have ntk:ol≠tk:=λe=>by rw[e,s]at hol;cases hol
  refine G2 (xs:=out.map λ(k:Nat)=>V.int k) (λq σ O=>(∃ i:yB,O=upd H5 tk (.dK i)/\(∀ x,CA i x=(CA g x||(out.take q).any λ(k:Nat)=>x ==(k:Int)))/\KeysOk i cs.length)/\∃ D,σ=[some (.ref A.b),some<|.ref nl,some<|.ref rw,some<|.ref tk,some<|.ref lf,some<|.int c.blk,D]) {{g,?_,by simp,I.ks},_,rfl} (λq σ O _ {⟨i,e,_⟩,_}=>by rw[e];exact SqL.of (by rw[AI ntk];exact eo)) (λq x σ O hx hzz=>?_) (λσ O hzz=>?_)
  ·funext y;by_cases e:y=tk
   ·subst e;rw[AE];exact et5
   ·rw[AI e]
  ·let[[i,e,u,Y],D,ez]:=hzz;subst e;subst ez;rw[ψ,af]at hx;let[x',hx',rfl]:=hx
   have IS:=Y.len
   have et:out.take (q+1)=out.take q++[x']:=by
    let[h1,h2]:=ζ.mp hx';rw[<-h2,lg]
   let[q1,q2]:=o2 x'<|ι hx'
   have hxn:x'<cs.length:=UH q2
   have hno:CA i x'=false:=by
    rw[u,(fj.mp q1).2,xy];cases h:(out.take q).any λ(k:Nat)=>(x':Int) ==(k:Int)with
    |false=>rfl
    |true =>
     exfalso;let[y,hy,e]:=dn.mp h
     have e:x'=y:=by have:=eq_of_beq e;exact ce this
     let[h1,h2]:=ζ.mp hx'
     have rise:=o1;rw[<-j_ q out,ix h1,h2]at rise
     have:=(zx.mp rise).2.2 y hy x' (υ ..)
     lia
   erw[zA5_];refine{_,pI AE<|oC (χ IS csz) rfl,CD i (.inl x') (.bl true),GG,λx=>?_,Y.put hxn (by simpa [CA]using hno) _};rw[zvg,u,et,Ij];simp[li]
  ·let[[i,e,u,Y],D,ez]:=hzz;subst e;subst ez;rw[ε,b_]at u
   have s6:Same H (upd H5 tk<|.dK i):=λy o e=>by rw[AI (BK e htkH)];exact s45 _ _ e
   have er6:upd H5 tk (.dK i) rw=some (.lst<|AO<|d++[c.blk]):=by rw[AI M];exact er5
   have et6:upd H5 tk (.dK i) tk=some (.dK i):=AE
   have el6:upd H5 tk (.dK i) lf=some (.lst<|AO (k::r)):=by rw[AI (BJ el5 et5 (by intro z;cases z))];exact el5
   revert s6 er6 et6 el6;generalize upd H5 tk (.dK i)=H6;intro s6 er6 et6 el6
   have eJ:(λx=>outs x||CA i x)=DJ cs (λx=>outs x||CA g x) c.blk:=by funext x;rw[oW,u,li]
   have hll:(AO (k::r)).length<=1000:=by unfold AO;rw[ε,bw];lia
   erw[zA7_];refine .inl {{_,SqL.of el6},XW (λv=>match v with|.int x=> !CA i x|_=>false) (BT _<|oA hll rfl) (SqL.of el6) (λv hv QB qb=>?_) λl2 DF=>?_}
   ·let[x,_,rfl]:=av.mp hv;erw[C1];exact{_,dI et6,qb}
   ·have ef:(AO (k::r)).filter (λv=>match v with|.int x=> !CA i x|_=>false)=AO ((k::r).filter λ(x:Nat)=> !CA i x):=by
     unfold AO;rw[ze]
     rfl
    rw[ef]
    have e2:(k::r).filter (λ(x:Nat)=> !CA i x)=(k::r).filter λ(x:Nat)=> !DJ cs (λx=>outs x||CA g x) c.blk x:=ug λx hx=>by
     rw[I.lft]at hx
     have:=(fj.mp (N0.mp hx).2.1).1;rw[<-eJ]
     show(!CA i x)= !(outs x||CA i x);rw[this,xy]
    have e3:(k::r).filter (λ(x:Nat)=> !CA i x)=EO cs.length (λx=>outs x||CA i x) R:=by rw[e2,I.lft,zjq,eJ]
    have k1:DJ cs (λx=>outs x||CA g x) c.blk k=true:=zjs (λk c e=>(B.bk.need k c e).1) (λk c e ho=>cR.up k c e (fj.mp ho).1) I.lft.symm ec
    have short:((k::r).filter λ(x:Nat)=> !CA i x).length<(k::r).length:=by
     rw[e2];exact zjt (υ ..) (by rw[k1];rfl)
    have nl2:rw≠l2:=BK er6 DF;refine x2 l2 _ {{i,{s6.trans<|AL DF,AL DF _ _ er6,AL DF _ _ et6,AE,⟨g1,g2,nl2⟩,e3,λrest hr=>?_,Y,?_}},by lia,rfl}
    ·rw[dt];refine I.row _<|.cons ec ?_;rw[<-e2,<-eJ];exact hr
    ·rw[ae,i_];rw[bw]at short
     lia
example:(zvi,Y0,uR,5):=by
 apply u6;intro p d n r c w [rfl,T,g,i,j,l,s,u,q];refine y3 {g,T.cl,T.n1,by decide,y3 {AE,T.cl,T.n2,KC (by decide),y3 {AE,T.cl,T.n3,KC  (py (KC  (by decide))),y3 {AE,T.cl,T.n4,(KC  (py (KC  (py (KC  (by decide)))))),?_}}}};rw[GG,GG,GG];exact q _ {⟨d,AE⟩,i,j,l,s,u} λb o e v=>by rw[AI v];exact e
example:(zvj,MR,uU,3):=by
 apply u7;intro p n r c w k b [rfl,T,L,q];let[d,e]:=L.ob
 have:=L.h1
 have:=L.hw;refine y3 {e,T.cl,T.n4,_,N1,({{by lia,by lia},y3 {e,T.cl,T.n4,_,N1,?_}})};erw[];exact{by lia,by decide,q}
example:(zvk,JK,xS,2):=by
 apply u6;intro p n r c w k [rfl,T,L,q];let[b,e]:=L.ob;exact y2 {e,BY,x7 p n r c w k 0 ⟨rfl,T,L,q⟩}
example:(zvl,G7,xT,2):=by
 apply u6;intro p n r c w k [rfl,T,L,q];let[b,e]:=L.ob;exact y2 {e,BY,y3 {e,T.cl,T.n1,_,UQ,x7 p n r c w k _ ⟨rfl,T,L,q⟩}}
example:(zvm,LN,xU,2):=by
 apply u6;intro p n r c w k [rfl,T,L,q];let[b,e]:=L.ob;exact y2 {e,BY,y3 {e,T.cl,T.n1,_,UQ,y3 {e,T.cl,T.n2,_,QZ,(x7 p n r c w k _ ⟨rfl,T,L,q⟩)}}}
example:(zvn,KH,xV,2):=by
 apply u6;intro p n r c w k [rfl,T,L,q];let[b,e]:=L.ob;exact y2 {e,BY,y2 {e,BY,x5 p n r c w {rfl,T,L,x7 p n r c w k _ ⟨rfl,T,L,q⟩}}}
example:(zvo,KJ,xW,2):=by
 apply u6;intro p n r c w k [rfl,T,L,q];let[b,e]:=L.ob;exact y2 {e,BY,y2 {e,BY,x5 p n r c w {rfl,T,L,y3 {e,T.cl,T.n2,_,QZ,(x7 p n r c w k _ ⟨rfl,T,L,q⟩)}}}}
example:(zvp,Q0,uT,1):=by
 apply u5;intro p n r c w [rfl,T,L,q];let[b,e]:=L.ob;exact y3 {e,T.cl,T.n1,_,UQ,y3 {e,T.cl,T.n2,_,QZ,(y3 ⟨e,T.cl,T.n3,_,YZ,q⟩)}}
example:(zvq,Q1,xX,1):=by
 apply u5;intro p n r c w [rfl,T,L,q];let[b,e]:=L.ob;exact y2 {e,BY,x5 p n r c w {rfl,T,L,y3 {e,T.cl,T.n2,_,QZ,(y3 ⟨e,T.cl,T.n3,_,YZ,q⟩)}}}
example:(zvr,LP,uS,1):=by
 apply u5;intro p n r c w [rfl,T,L,q];let[b,e]:=L.ob;let[z,d,g,i,j,l]:=L;refine y3 {e,T.cl,T.n1,_,UQ,y3 {e,T.cl,T.n4,_,N1,({.inl {i0,by lia},y3 {e,T.cl,T.n2,_,QZ,y3 {e,T.cl,T.n4,_,N1,({.inl {i0,by lia},y3 {e,T.cl,T.n3,_,YZ,y3 {e,T.cl,T.n4,_,N1,?_}}})}}})}};erw[];exact{.inl {i0,by lia},by decide,q}
example:(zvs,Y1,zE,1):=by
 apply u5;intro p n r c w [rfl,T,TP,L,q];let[M,e]:=L.ob
 have s:=L;let[z,N,O,U,u,v]:=L;refine y2 {e,BY,x5 p n r c w {rfl,T,s,y3 {e,T.cl,T.n4,_,N1,λx d g y i=>?_}}}
 have j:Same H (upd (upd H _<|.own x) x (.ins (a "Plank") d [])):=(AL y).trans (AL (by rw[AI i.symm];exact g));refine x4 x _ _ w {rfl,TP,AE,by lia,u,oA v rfl,λA B D I J=>{rfl,q x A B g (j.free D) I λb o l=>J _ _ (j _ _ l) (BK l g)}}
def zvt(b:i<m)(h:f i=true)(c:∀ j<i,f j=false):EY f m=i:=by
 unfold EY
 have:(τ m).find? f=some i:=by
  let[d,rfl]:=ie<|show i+1<=m from b;rw[mh];refine{h,x2 (τ i) ((τ d).map (i+1+·)) {?_,λj e=>by rw[c j (ak.mp e)];rfl}};rw[fb,wu,wu];simp[fb,xr]
 rw[this]
def zvu(b:∀ j<m,f j=false):EY f m= -1:=by
 unfold EY
 have:(τ m).find? f=none:=jz.mpr λj c=>by rw[b j (ak.mp c)];exact ay
 rw[this]
def zvv(b:∀ z∈xs,UX z)(c:GoodV n H v)(hf:JB v=true):NK v xs=decide (v∈xs):=by
 rw[kf,decide_eq_true_iff];unfold NK
 have key:∀ z,UX z->(J1 z v=true↔z=v):=λz hz=>by
  let rfl||[i,rfl]:=hz<;>(cases v<;>first|exact{λy=>rfl,λy=>rfl}|(constructor<;>intro e<;>cases e<;>done)|exact{λe=>congrArg V.int<|eq_of_beq e,λe=>by cases e;exact beq_self_eq_true _}|(cases n<;>exact c.elim)|cases hf)
 rw[dn];constructor;intro[z,hz,e];rw[<-(key z<|b z hz).mp e];exact hz;exact λh=>{v,h,(key v<|b v h).mpr rfl}
def EA(H c:Hp):Prop:=∀ b xs,H b=some (.tup xs)->c b=some (.tup xs)
def GoodV.keep(k:EA H b):∀ {n:Nat} {v:V},GoodV n H v->GoodV n b v:=by
 intro n
 induction n with
 |zero=>exact id
 |succ n c =>
  intro v;cases v with
  |ref p=>intro[xs,h1,h2,h3];exact{xs,k _ _ h1,h2,λv d=>c<|h3 v d}
  |_=>exact id
def Same.tk{H c:Hp}(s:Same H c):EA H c:=λb xs e=>s _ _ e
def zvw(c:GoodV 4 H v)(g:H d=some (.tup xs))(b:∀ z∈xs,UX z)(q:Q (.bl<|decide<|v∈xs) H):QJ K v (.ref d) H Q:=by
 have flat:JB v=true->QJ K v _ H Q:=λhf=>.inl ⟨d,xs,rfl,.inr<|SqT.of g,hf,(fh.mpr λz hz=>by let rfl||[i,rfl]:=b z hz<;>rfl),by
  rw[zvv b c hf];exact q⟩
 cases v with
 |ref t =>
  have:decide ((V.ref t)∈xs)=false:=decide_eq_false λj=>by let z||[i,z]:=b _ j<;>cases z
  let[ys,e,y]:=c;rw[this]at q;exact .inr<|x4 t ys d xs {rfl,SqT.of e,rfl,SqT.of g,b,q}
 |int i=>exact flat rfl
 |non=>exact flat rfl
 |str z=>exact flat rfl
 |_=>exact c.elim
example:(zvx,N3,Ag,5):=by
 apply O0;intro A w rows n cs outs pl vl N xs f m [rfl,T,TP,B,L,M,O,U,Y,hf,q,qe];let[dx,ho]:=B.bk.ob;refine{{_,SqL.of L},XY  (λi l p=>(Same H p/\∀ j<i,f j=false)/\∃ x y,l=[some _,some _,some _,x,y]) {{Same.refl _,λj I=>absurd I<|ir _},x2 _ _ rfl} (by intro i l p u [[s,u],u];exact SqL.of<|s _ _ L) (λi x l p t b c ht=>?_) (λl p c=>?_)};let[[s,lo],x0,y0,rfl]:=c;rw[ψ]at b;cases r:N[i]? with
 |none=>rw[r]at b;cases b
 | some J =>
  rw[r]at b;obtain rfl:=μ b;refine u3 ?_<|hf i J r;intro bi bj v [e1,on,ev,gv,ef]
  have d:=s.trans<|AL (o:=.tup [.int i,.ref J]) ht;refine{_,SqT.of AE,rfl,?_};revert d;refine λd=>y2 {d _ _ ho,DA,x9 A w _ n cs _ J bi bj {rfl,T,TP,B.same d,d _ _ e1,λu v' H3 e s3=>?_,λz=>absurd on z}};rw[ev]at e;obtain rfl:=μ e
  have D:=d.trans s3;refine zvw (gv.keep D.tk) (D _ _ U) Y ?_;rw[<-ef];erw[];cases g:f i with
  |true=>exact q i (zvt (M ▸ ((ζ.mp r).1)) g lo) _ D
  |false=>exact⟨D,λj I=>by
    let z||z:=fe j i
    exact lo j z;rw[show j=i by exact ke (dq I) z];exact g⟩
 let[[s,lo],x0,y0,ez]:=c;rw[ε,M]at lo;exact{by decide,qe (zvu lo) _ s}
def cE{m w:Nat}{B:Nat->Int}{r:TE}{u:wD}{v:St}{H:Hp}{Q:VK}(D:m<=1000)(I:∀ i b x,i<m->Same H b->G6 (B i) (i%w:Nat) x b->r (some (.int<|0+(i:Int))::C1 u v) b x)
  (q:∀ (c:xC) (b:Hp) (l:Addr),c.length=m->Same H b->(∀ k t,c[k]? =some t->b t=some (.tup [.int (B k),.int (k%w:Nat)]))->b l=some (.lst<|c.map V.ref)->Q (.ref l) b):EH (FN 0 m) (AG 0) CQ r 1 u v H Q:=by
 refine MI (BT m<|oA D rfl) (λi ys b=>Same H b/\∃ c:List _,ys=c.map V.ref/\c.length=i/\∀ k t,c[k]? =some t->b t=some (.tup [.int (B k),.int<|k%w])) {Same.refl _,[],rfl,rfl,λk t h=>by simp at h} (λi ys b J y g=>?_) λys b y g l j=>?_;let[s,c,e,A,h]:=g;refine I i b _ J s λt n=>?_
 have st:=AL (o:=.tup [.int (B i),.int<|i%w]) n;refine{s.trans st,c++[t],by rw[e,aw];rfl,by simp[A],λk t' d=>?_};let z||z:=fe k _
 rw[bc z]at d;exact st _ _<|h k t' d;rw[cf z]at d
 have p:k-c.length=0:=by
  let z||z:=mx _
  exact z;rw[bu (z)]at d;cases d
 rw[p]at d;obtain rfl:=μ d
 have:k=i:=by lia
 subst this;exact AE;let[s,c,rfl,A,h]:=g
 have st:=AL (o:=.lst<|c.map V.ref) j;exact q c _ l (by simpa using y) (s.trans st) (λk t d=>st _ _<|h k t d) AE
def Gz{rows:aC}{w i j:Nat}(c:∀ r∈rows,r.length=w)(d:i<rows.length)(g:j<w)(cs:yD):∃ v,EX cs rows i j=some v:=by
 unfold EX;cases e:D5 cs i j with
 |some k =>
  exact{_,by show(cs[k]?).map _=_;rw[θ (NY e)];rfl}
 |none =>
  have b:=θ d;exact{_,by rw[ci,b];exact θ<|Nat.lt_of_lt_of_eq g (c _<|ι b).symm}
def zvy{n r c w kind k:Nat}(b:kind<3)(h:k<BO n r c w kind):BI n r c w kind k<n+r+c+r+c:=by
 unfold BI
 have hd:=ku (by rw[da];exact h);rcases(c3 b)with z|z|z<;>subst z<;>simp at hd ⊢ <;>lia
def Hb{n r c w kind k:Nat}(h:k<BO n r c w kind):1<=w:=by
 let z||z:=mx w
 rw[z]at h;exact nZ h;exact z
def VP{n r c w kind:Nat}(h1:n<=6)(h2:r<=6)(h3:c<=6)(h4:w<=6):BO n r c w kind<=36:=by
 have h:(if kind=0 then n else if kind=1 then r else if kind=2 then c else if kind=3 then r else c)<=6:=by
  split<;>(try split)<;>(try split)<;>(try split)<;>lia
 exact io h h4
def RW(kind:Nat):vE:=if kind=0 then [.non]else [.non,.int 0]
def zvz(kind:Nat)(v:V):decide (v∈RW kind)=LQ kind v:=by
 unfold RW LQ;by_cases h:kind=0;subst h;simp;rw[if_neg h];simp[tm h]
def cF{kind:Nat}{A:BA}{n r c w:Nat}{rows:aC}{nn:Nat}{cs:yD}{outs:wC}{p:xC}{l:Addr}{b:Hp}(O:kind<3)(T:TB K a)(TP:DR K a)(s:Same H b)(B:D6 a H A w rows nn cs outs)(U:rows.length=n+r+c+r+c)(h1:n<=6)(h2:r<=6)(h3:c<=6)(h4:w<=6)
  (Y:∀ i j v,EX cs rows i j=some v->GoodV 4 H v) (e:p.length=BO n r c w kind) (ht:∀ k t,p[k]? =some t->b t=some (.tup [.int (BI n r c w kind k:Nat),.int (k%w:Nat)])) (el:b l=some (.lst<|p.map V.ref))
  (q:∀ k:Nat,EY (MT cs rows n r c w kind) (BO n r c w kind)=k->∀ b,Same H b->Q (.int k) b) (qe:EY (MT cs rows n r c w kind) (BO n r c w kind)= -1->∀ b,Same H b->E (.ref<|a "NoRoom") none b) :
  ∀ u,b u=none->N3 K a [.ref A.b,.ref l,.ref u] (upd b u<|.tup<|RW kind) Q E:=λu hu=>by
 have y:=AL (o:=.tup<|RW kind) hu
 have x:=s.trans y;refine OZ A w _ nn cs _ l u p _ _ _ {rfl,T,TP,B.same x,y _ _ el,e,oA (VP  h1 h2 h3 h4) rfl,AE,λz hz=>?_,λk t g=>?_,λk d D I=>q k d D<|x.trans I,λd D I=>qe d D<|x.trans I};unfold RW at hz;split at hz<;>simp at hz;exact .inl hz;let z||z:=hz
 exact .inl z;exact .inr {0,z}
 have M:=e ▸ ((ζ.mp g).1)
 have hb:=zvy O M
 have N:k%w<w:=tj _<|(Hb M);let[v,J]:=Gz (λr' L=>B.pk.wd r' L) (show BI n r c w kind k<rows.length by lia) N cs;refine x3 _ _ v {y _ _<|ht k t g,{i0,c_.mpr<|U ▸ hb,i0,c_.mpr N},J,(Y _ _ _ J).keep x.tk,?_};unfold MT;rw[J,zvz]
example:(zv0,UZ,bM,3):=by
 apply u2;intro p b [rfl,A,n,r,c,w,rows,nn,cs,outs,rfl,T,TP,u,L,h1,h2,h3,h4,B,v,x,q,y];let[N,e]:=L.ob;erw[bM,bM0_];refine y2 {e,BY,x5 p n r c w {rfl,u,L,λt z=>?_}}
 have d:=AL (o:=.tup [V.int (n*w),V.int<|r*w,V.int<|c*w]) z;refine BV AE  rfl rfl ?_;revert d
 have D:=VP (kind:=0) h1 h2 h3 h4
 have O:n*w=(BO n r c w 0):=by unfold BO;simp
 refine λd=>{i0,by lia,cE   (oA D rfl) (λi I U Y g J=>(y2 {g _ _<|d _ _ e,BY,x6 p n r c w i {(by simp),u,(L.same d).same g,?_}})) λts I l j g s M=>{by decide,cF  (by decide) T TP (d.trans g) B v h1 h2 h3 h4 x j s M q y}}
 exact J
example:(zv1,ZE,bN,3):=by
 apply u2;intro p b [rfl,A,n,r,c,w,rows,nn,cs,outs,rfl,T,TP,u,L,h1,h2,h3,h4,B,v,x,q,y];let[N,e]:=L.ob;erw[bN,bN0_];refine y2 {e,BY,x5 p n r c w {rfl,u,L,λt z=>?_}}
 have d:=AL (o:=.tup [V.int (n*w),V.int<|r*w,V.int<|c*w]) z;refine BV AE  rfl rfl ?_;revert d
 have D:=VP (kind:=1) h1 h2 h3 h4
 have O:r*w=(BO n r c w 1):=by unfold BO;simp
 refine λd=>{i0,by lia,cE   (oA D rfl) (λi I U Y g J=>(y2 {g _ _<|d _ _ e,BY,x6 p n r c w i {(by simp),u,(L.same d).same g,?_}})) λts I l j g s M=>{by decide,cF  (by decide) T TP (d.trans g) B v h1 h2 h3 h4 x j s M q y}}
 exact J
example:(zv2,ZF,bO,3):=by
 apply u2;intro p b [rfl,A,n,r,c,w,rows,nn,cs,outs,rfl,T,TP,u,L,h1,h2,h3,h4,B,v,x,q,y];let[N,e]:=L.ob;erw[bO,bO0_];refine y2 {e,BY,x5 p n r c w {rfl,u,L,λt z=>?_}}
 have d:=AL (o:=.tup [V.int (n*w),V.int<|r*w,V.int<|c*w]) z;refine BV AE  rfl rfl ?_;revert d
 have D:=VP (kind:=2) h1 h2 h3 h4
 have O:c*w=(BO n r c w 2):=by unfold BO;simp
 refine λd=>{i0,by lia,cE   (oA D rfl) (λi I U Y g J=>(y2 {g _ _<|d _ _ e,BY,x6 p n r c w i {(by simp),u,(L.same d).same g,?_}})) λts I l j g s M=>{by decide,cF  (by decide) T TP (d.trans g) B v h1 h2 h3 h4 x j s M q y}}
 exact J
theorem Hc:∀ {n:Nat} {v:V},GoodV n H v->∃ d,Dat K H n v d
 |_+1,.int i,_=>{_,Dat.int i}
 |_+1,.non,_=>⟨_,Dat.non⟩
 |_+1,.str z,h=>{_,.str z,h,bg _}
 | n+1,.ref p,⟨xs,h1,h2,h3⟩=>by
  have:∀ (l:vE),(∀ v∈l,GoodV n H v)->∃ c,Paired _ l c:=λl=>by
   induction l with
   |nil=>exact λy=>{[],.nil}
   |cons x r e =>
    intro h;let[d,hd]:=Hc<|h x<|υ ..;let[c,b]:=e λv g=>h v<|ρ _ g;exact{_,.cons hd b}
  let[c,b]:=this xs h3;exact{_,Dat.tup (SqT.of h1) b}
def zv3(h:∀ v∈l,GoodV n H v):∃ c,Paired (Dat K H n) l c:=by
 induction l with
 |nil=>exact{[],.nil}
 |cons x r e =>
  let[d,hd]:=Hc  (h x<|υ ..);let[c,b]:=e λv g=>h v<|ρ _ g;exact{_,.cons hd b}
def zv4{cs:yD}{rows:aC}(g:goodH H cs rows){i j:Int}{v:V}(h:EX cs rows i j=some v):GoodV 4 H v:=by
 unfold EX at h;cases e:D5 cs i j with
 |some k =>
  rw[e]at h
  have h:(cs[k]?).map _=some v:=h;cases b:cs[k]? with
  |none=>rw[b]at h;cases h
  |some c =>
   rw[b]at h;obtain rfl:=μ h;exact g.2 c<|ι b
 |none =>
  rw[e]at h;cases d:rows[i.toNat]? with
  |none=>rw[d]at h;cases h
  |some r =>
   rw[d]at h;exact g.1 r (ι d) v (ι h)
def goodH.keep(g:goodH H cs rows)(k:EA H b):goodH b cs rows:={λr d v e=>(g.1 r d v e).keep k,λc i=>(g.2 c i).keep k}
def zv5{cs:yD}{rows:aC}{i j:Int}{b c:Nat}{v:V}{nd:vD}:EX (cs++[⟨b,c,v,nd⟩]) rows i j=if(b:Int)=i/\(c:Int)=j then some v else EX cs rows i j:=by
 unfold EX;rw[YO];by_cases h:b=i/\c=j;rw[if_pos h,if_pos h];simp;rw[if_neg h,if_neg h];cases e:D5 cs i j with
 |none=>rfl
 |some k =>
  show((cs++[_])[k]?).map _=(cs[k]?).map _;rw[bc (NY e)]
def KQ{G:Addr->Prop}{H c:Hp}(s:SameBut G H c)(g:∀ x,G x->EV (H x)):EA H c:=λb xs e=>s _ _ e λz=>(g _ z).1 _ e
def zv6{p b:Addr}{xs:vE}(h1:SqL K H p xs)(h2:SqL K H b xs)(c:∀ v∈xs,GoodV 4 H v)(q:Q (.bl false) H):KB K (.ref p) (.ref b) H Q:=by
 let[d,D]:=zv3  c;exact zdp  (by decide) (Dat.lst h1 D) (Dat.lst h2 D) q
def cG{z:Str}{i:Int}{n:Nat}{c:Nat}{Q:VK}(b:i=n)(d:z.cps.toList.length<=1000)(e:z.cps.toList[n]? =some c)(q:Q (.str {#[c]}) H):B8 K (.str z) (.int i) H Q:=by
 subst b;exact .inr (.inr (x3 z n c {rfl,rfl,χ (d) (BT _ (by decide)),SY e,q}))
def zv7:[c]<(η " ").cps.toList↔c<32:=by
 rw[show(η _).cps.toList=[32] by decide +kernel,jb];simp
def zv8:(η "~").cps.toList<[c]↔126<c:=by
 rw[show(η _).cps.toList=[126] by decide +kernel,jb];simp
def zv9:[c]<(η "a").cps.toList↔c<97:=by
 rw[show(η _).cps.toList=[97] by decide +kernel,jb];simp
def zwa:(η "z").cps.toList<[c]↔122<c:=by
 rw[show(η _).cps.toList=[122] by decide +kernel,jb];simp
example:(zwb,ZG,aH,1,h):=by
 let[c,rfl,q]:=h;erw[aH,aH0_,zv7,zv8];unfold LR at q;split;rename_i h1;split;rename_i h2;rw[decide_eq_true (cm h1),decide_eq_true<|cm h2]at q
 have e:(!decide (((#[c].getD 0 0):Int)=37))=decide (c≠37):=by
  rw[show(#[c]).getD 0 0=c from rfl,<-decide_not];exact decide_eq_decide.mpr (by lia)
 refine{rfl,?_};rw[e];exact q;rw[show decide (c<=126)=false from decide_eq_false (by lia)]at q;simpa using q;rw[decide_eq_false (by lia)]at q;exact q
def cH(hz:z.length<=1000)(l:∀ c (j:VK),j (.bl<|f c) H->n [some (.str {#[c]})] H j)(q:∀ d,Same H d->Q (.bl<|z.cps.toList.all f) d) :
  EH (QC z) (AG 0) CQ n 1 [] [some (.str z)] H λx o=>MJ K [x] o Q:=by
 refine zcd (BT _<|oA hz rfl) (λi ys d=>d=H/\ys=(z.cps.toList.take i).map λc=>V.bl<|f c) ⟨rfl,rfl⟩ (λi c ys d r s b=>?_) (λys d s b p u=>?_);let[rfl,e]:=b
 have g:z.cps.toList[i]? =some c:=by simpa using r
 refine l c _ {rfl,?_};rw[cv,g,e];simp;let[rfl,e]:=b
 have v:ys=(z.cps.toList.map f).map V.bl:=by
  rw[e,jf,eq (by simp)];rfl
 refine x2 p _ {rfl,by rw[<-v];exact SqL.of AE,?_};rw[Du];exact(q _<|AL  u)
example:(zwc,ZH,aI,1,h):=by
 let[z,rfl,hz,q]:=h;erw[aI,aI0_];unfold BL at q;refine{_,{BT _<|oA hz rfl,rfl},?_};split;rename_i h1;rw[decide_eq_true (by exact c_.mp h1)]at q;by_cases h2:z.length<=8;rw[decide_eq_true h2]at q;rw[if_pos (by lia)];refine cH hz (λc d b=>?_) q;erw[zv9,zwa];unfold N4 at b;split;rename_i h3;rw[decide_eq_true (cm h3)]at b;rw[show(!decide _)=decide (c<=122) by rw[<-decide_not];exact decide_eq_decide.mpr (by lia)];exact b;rw[decide_eq_false (by lia)]at b;exact b;rw[decide_eq_false h2]at q;rw[if_neg (by exact λz=>h2<|kg.mp z)];exact q _<|Same.refl _;rename_i h1;rw[decide_eq_false (λz=>h1<|kg.mpr z)]at q;exact q _<|Same.refl _
example:(zwd,ZI,a0,1,h):=by
 let[z,rfl,hz,q]:=h;erw[a0,a00_];unfold G9 at q;refine{_,{BT _<|oA hz rfl,rfl},?_};split;rename_i h1;rw[decide_eq_true (by exact c_.mp h1)]at q;by_cases h2:z.length<=40;rw[decide_eq_true h2]at q;rw[if_pos (by lia)];exact cH hz (λc d b=>⟨c,rfl,b⟩) q;rw[decide_eq_false h2]at q;rw[if_neg (by exact λz=>h2<|kg.mp z)];exact q _<|Same.refl _;rename_i h1;rw[decide_eq_false (λz=>h1<|kg.mpr z)]at q;exact q _<|Same.refl _
def MZ(x y:Str):(x++y).length=x.length+y.length:=PySem.strLen_append x y
def M3(x:Int){n:Nat}(h:1<=n):∃ b:Nat,x%(n:Int)=b/\b<n :=
 ⟨_,(fz (Ic x (show(n:Int)≠0 by exact λz=>je h<|ce z))).symm,by
  have:=Bs x (show(0:Int)<n by exact c_.mpr h)
  lia⟩
def zwe{z:Str}{i:Int}{n:Nat}{Q:VK}(b:i=n)(d:n<z.length)(hz:z.length<=1000)(q:∀ c,Q (.str {#[c]}) H):B8 K (.str z) (.int i) H Q:=by
 subst b;exact .inr<|.inr<|x3 z n _ {rfl,rfl,BT _<|oA hz rfl,SY<|θ<|d,q _}
section
variable{lp b tk:Addr}
def IN:(sf lp b tk).lookup ("plan":Str)=some (V.ref lp):=by simp[sf]
def HV:(sf lp b tk).lookup ("book":Str)=some (V.ref b):=by
 simp[sf,ao,BD (a:="book") (b:="plan") (by decide)]
def cI:(sf lp b tk).lookup ("taken_out":Str)=some (V.ref tk):=by
 simp[sf,ao,BD (a:="taken_out") (b:="plan") (by decide),BD (a:="taken_out") (b:="book") (by decide)]
def CC{x:Str}(h:(D2 x "plan" || D2 x "book" || D2 x "taken_out")=false:=by decide +kernel):(sf lp b tk).lookup x=none:=by
 simp only[fj]at h;let[[h1,h2],h3]:=h;simp[sf,ao,BD h1,BD h2,BD h3]
def zwf:BS "taken_out" (.ref tk) (BS "book" (.ref b) (BS "plan" (.ref lp) []))=sf lp b tk:=by
 rfl
end
def zwg{w k b:Nat}(h1:k/w=b/w)(h2:k%w=b%w):k=b:=by
 rw[<-sv k w,<-sv b w,h1,h2]
def zwh{f:zC}{m k:Nat}(h:EY f m=k):k<m:=by
 unfold EY at h;cases e:(τ m).find? f with
 |none=>rw[e]at h;simp at h
 |some b =>
  have:=ak.mp<|xa e
  lia
def Hd{z:Str}(h:BL z=true):e_ z=true:=by
 unfold BL at h;rw[bz]at h
 have h:=h.2;unfold e_;rw[<-uv];rw[fh]at h ⊢;intro c b
 have:=h c b;simp only[N4,bz,decide_eq_true_eq]at this ⊢;exact oC this.2 rfl
def RepC.keep(k:EA H c):∀ {x:CV} {v:V},RepC H x v->RepC c x v:=λ{x v}=>by
 cases x with
 |nm=>intro[t,e,b];exact{t,e,k _ _ b}
 |rc=>intro[t,u,e,b,d];exact x2 t u {e,k _ _ b,k _ _ d}
 |_=>exact id
theorem LaidA.keep(k:EA H b)(h:LaidA n r c w H cs as):LaidA n r c w b cs as:=by
 induction h with
 |nil=>exact .nil
 |snoc _ d e g i j l o=>exact o.snoc d e (g.keep k) i j l
def SM.same(I:SM a H S n r c w rows nn cs outs b M)(s:Same H i):SM a i S n r c w rows nn cs outs b M:=by
 let[[j,l],o,p,q,u,x,y,z,A,d,e,g]:=I;exact{{j,s _ _ l},o.same s,p.same s,s _ _ q,u,x,y,z,A.keep s.tk,λkind k v h1 h2 B=>(d _ k v h1 h2 B).keep s.tk,e,g.keep s.tk}
example:(zwi,ZJ,uF,1):=by
 apply u5;intro x c d b tk [rfl,T,e,q];exact y3 ⟨e,T.cl,T.n2,_,HV,q⟩
def BookAt.ins1(B:BookAt a C H A w rows n cs outs)(s:SameBut (· =x) H j)(I:H x=some (.ins C' dx fs))(hf:fs.length<=2):BookAt a C j A w rows n cs outs:=by
 let[[[J,L],[M,N,O],T,U,Y,[kvs,e7,e8],[DZ,e9,q],r1,r2,r3,r4,r5],[[d2,f1],[ts,f2,f3],f4,f5,f6],nb]:=B
 have o:∀ {y:Addr} {o:HO},H y=some o->(∀ b g ,o≠.ins b g fs)->j y=some o:=λe h=>s _ _ e<|BJ e I<|h _ _
 have u:∀ {y:Addr} {b g:Addr} {p:List _},H y=some _->2<p.length->j y=some (.ins b g p):=λe h=>o e λv v z=>by injection z with _ _ z;rw[z]at h;exact nL h hf
 have ol:∀ {y:Addr} {D:HO},H y=some D->(∀ b g p,D≠.ins b g p)->j y=some D:=λe h=>o e λv v=>h _ _ _;exact{{{J,u L (by simp[bf])},{_,ol N (by simp),Paired.mapP O (by intro y c [d,pl,nt,g1,g2,g3];exact x3 d pl nt {u g1 (by simp[GA]),ol g2 (by simp),ol g3 (by simp)})},ol T (by simp),λi l h=>ol (U i l h) (by simp),Y,{_,ol e7 (by simp),e8},{_,ol e9 (by simp),q},r1,r2,r3,r4,r5},{{d2,u f1 (by simp[pf])},{ts,ol f2 (by simp),Paired.mapP f3 λt r z=>ol z (by simp)},f4,f5,f6},nb}
example:(zwj,Q7,zW,3):=by
 apply O0;intro x d i gp cl n r c w rows nn M [rfl,[T,TP,TL,TS],l,L,P,sz,g,N,hok,q];refine y3 {l,TS.cl,TS.n1,by decide,?_}
 have s:upd H x _ x=some (.ins (a "Store") d (BS "plan" (.ref i) [])):=AE
 have j:SameBut _ H (upd H x<|.ins (a "Store") d (BS "plan" (.ref i) [])):=λy o e n=>by rw[AI n];exact e
 revert s j;generalize upd H x _=H1;intro s j
 have P1:PlankAt a H1 gp cl w rows nn:=by
  let[[dx',f1],[ts,f2,f3],r1,r2,r3]:=P;exact{{_,j _ _ f1 (BJ f1 l (NX (by simp[pf])))},{ts,j _ _ f2 (BJ f2 l (by intro z;cases z)),Paired.mapP f3 λt r z=>j _ _ z (BJ z l (by intro z;cases z))},r1,r2,r3}
 refine zu8 T TP P1 λA I eg ec off B O=>?_
 have u:=O _ _ s;refine y3 {u,TS.cl,TS.n2,FZ  (by decide),λp D=>?_}
 have np:=BK AE D;rw[AI np.symm]at D;refine y3 {by rw[AI np,AE],TS.cl,TS.n3,FZ  (FZ  (by decide)),?_};rw[zwf]
 have J:SameBut _ I (upd (upd (upd I x<|.ins (a "Store") d (BS "book" (.ref A.b) (BS "plan" (.ref i) []))) p (.dK [])) x (.ins (a "Store") d (sf i A.b p))):=λy o e n=>by
  rw[AI n,AI<|BK e D,AI n];exact e
 have U:upd (upd (upd I x<|.ins (a "Store") d (BS "book" (.ref A.b) (BS "plan" (.ref i) []))) p (.dK [])) x _ x=some (.ins (a "Store") d (sf i A.b p)):=AE
 have Y:upd (upd (upd I x<|.ins (a "Store") d (BS "book" (.ref A.b) (BS "plan" (.ref i) []))) p (.dK [])) x (.ins (a "Store") d (sf i A.b p)) p=some (.dK []):=by rw[AI np.symm,AE]
 revert J U Y;generalize upd _ x _=H3;intro J U Y
 have sb:=(j.trans<|Same.sb O).trans J
 have tk:EA H H3:=λb xs e=>sb _ _ e (BJ e l (by intro z;cases z));let[dl,el]:=L.ob;refine q ⟨A,x,i,p⟩ H3 rfl rfl eg ec (λy o e=>?_) (j.none (by rw[s];intro z;cases z) (O.free D)) {⟨d,U⟩,L.sb sb (BJ el l (NX (by simp[lf]))),(B.ins1 J u (χ (O8 _ _ _) (by simp))),Y,ο _,λz v h=>by simp[BG]at h,B.off D,sz,{λr hr v hv=>(g r hr v hv).keep tk,λc hc=>by cases hc},λkind k v h1 h2 hv=>(N _ k v h1 h2 hv).keep tk,hok,.nil} sb;by_cases hy:y=x;subst hy;exact(off _ _ s).imp id id;exact off y o<|j _ _ e hy
section
variable{X:SX}{cs:yD}{tks:yB}{M:Hs}
def cJ{n r c w kind d k g:Nat}(h1:kind<5)(h2:d<5)(o:k<BO n r c w kind)(i:g<BO n r c w d)(l:BI n r c w kind k=BI n r c w d g)(p:k%w=g%w):kind=d/\k=g:=by
 have f:∀ {kind x:Nat},kind<5->x<(if kind=0 then n else if kind=1 then r else if kind=2 then c else if kind=3 then r else c)->∀ b,(if kind=0 then 0 else if kind=1 then n+r+c else if kind=2 then n+r+c+r else if kind=3 then n else n+r)+x=b->(if b<n then 0 else if b<n+r then 3 else if b<n+r+c then 4 else if b<n+r+c+r then 1 else 2)=kind:=by
  intro kind x h j b e;rcases(c5 h)with z|z|z|z|z<;>subst z
  rw[if_pos]<;>simp at j e<;>exact e ▸ j
  all_goals rw[if_neg]<;>simp at j e<;>lia
 have key:kind=d/\k/w=g/w:=by
  obtain rfl:kind=d:=(f h1 (ku (by rw[da];exact o)) _ l).symm.trans (f h2 (ku (by rw[da];exact i)) _ rfl);exact{rfl,Nat.add_left_cancel l}
 exact{key.1,zwg key.2 p}
def LaidA.newest{n r c w:Nat}{H:Hp}{cs:yD}{as:uE}(h:LaidA n r c w H cs as){kind k:Nat}(h1:kind<5)(d:k<BO n r c w kind):D5 cs (BI n r c w kind k:Nat) (k%w:Nat)=G8 kind k as/\cs.length=as.length:=by
 induction h with
 |nil=>exact⟨rfl,rfl⟩
 |@snoc cs as ch x _ g i o p j l b =>
  refine{?_,by rw[ae,b.2];rfl};rw[YO,b.1,b.2]
  show _=(if x.kind=kind/\x.k=k then some _ else G8 _ k as);by_cases e:x.kind=kind/\x.k=k;rw[if_pos e,if_pos {by rw[g,e.1,e.2],by rw[i,e.2]}];rw[if_neg e,if_neg λz=>e (cJ j h1 l d (by lia) (by lia))]
def SM.on(I:X.at a H cs tks M)(h1:kind<5)(b:k<BO X.n X.r X.c X.w kind):BI X.n X.r X.c X.w kind k<X.rows.length/\k%X.w<X.w:=by
 refine{?_,tj _<|(Hb b)};rw[I.sz.2.2.2.2];unfold BI
 have hd:=ku (by rw[da];exact b);rcases(c5 h1)with z|z|z|z|z<;>subst z<;>simp at hd ⊢ <;>lia
def SM.onPl(I:X.at a H cs tks M){kind k:Nat}(h1:kind<5)(b:k<BO X.n X.r X.c X.w kind):onPl X.rows X.w (BI X.n X.r X.c X.w kind k:Nat) (k%X.w:Nat):=by
 have:=I.on h1 b;exact{jt _,by lia,jt _,c_.mpr this.2}
def SM.val(I:X.at a H cs tks M){kind k:Nat}(h1:kind<5)(c:k<BO X.n X.r X.c X.w kind):∃ v,EX cs X.rows (BI X.n X.r X.c X.w kind k:Nat) (k%X.w:Nat)=some v/\RepC H (M kind k) v:=by
 let[e,g]:=I.on h1 c;let[v,d]:=Gz (λi b=>I.bk.pk.wd i b) e g cs;exact{v,d,I.rp _ k v h1 c d}
def SM.snoc{i:Hp}{kind k:Nat}{v:V}{x:CV}{nd:vD}{l:wD}(hd:∀ y:Int,y∈nd↔(∃ j∈l,y=(j:Nat))\/sU cs (BI X.n X.r X.c X.w kind k:Nat) (k%X.w:Nat) y)(I:X.at a H cs tks M)(h1:kind<5)(n:k<BO X.n X.r X.c X.w kind)(B:D6 a i X.S.A X.w X.rows X.nn (cs++[{BI X.n X.r X.c X.w kind k,k%X.w,v,nd}]) X.outs)(s:SameBut X.S.A.F H i)(g:GoodV 4 i v)(D:RepC i x v)(T:FG kind x):X.at a i (cs++[{BI X.n X.r X.c X.w kind k,k%X.w,v,nd}]) tks (M.put kind k x l):=by
 have lo:∀ x,X.S.A.F x->EV _:=λx U=>I.bk.loose U
 have tk:=KQ s lo;let[[Y,J],L,e3,e4,e5,e6,N,e8,O,r,u,o]:=I;let[dl,el]:=L.ob;refine{{Y,s _ _ J λz=>(lo _ z).2 _ _ _ J},L.sb s λz=>(lo _ z).2 _ _ _ el,B,s _ _ e4 N,by rw[ae];exact ck e5,λz v h=>?_,N,e8,{(O.keep tk).1,λc hc=>?_},λb q v' d e p=>?_,λb q d e=>?_,(o.keep tk).snoc rfl rfl D (λy=>by rw[hd];unfold sU;rw[(o.newest h1 n).1]) h1 n};let[k,ek,n]:=e6 z v h;exact{k,ek,by rw[ae];exact ck n};let y||y:=bd.mp hc
 exact(O.keep tk).2 c y;rw[aa.mp y];exact g;rw[zv5]at p;rw[Hs.put_at];by_cases w:b=kind/\q=k;let[rfl,rfl]:=w;rw[if_pos ⟨rfl,rfl⟩]at p ⊢;obtain rfl:=μ p;exact D;rw[if_neg λy=>w (by
  have:=cJ h1 d n e (ce y.1) (ce y.2);exact⟨this.1.symm,this.2.symm⟩)]at p
 rw[if_neg w];exact(r _ q v' d e p).keep tk;rw[Hs.put_at];split;rename_i y;rw[y.1];exact T;exact u _ q d e
def IP{kind k:Nat}{v:V}{x:CV}{u nl:Addr}{ns:vD}(p:CZ K a)(I:X.at a H cs tks M)(h1:kind<5)(c:k<BO X.n X.r X.c X.w kind)(r:H u=some (.tup [.int (BI X.n X.r X.c X.w kind k:Nat),.int (k%X.w:Nat)]))(s:H nl=some (.lst<|ns.map V.int))(w:ns.length<=60)(d:cs.length<990)(i:∀ x∈ns,known cs x)(g:GoodV 4 H v)(B:RepC H x v)(D:FG kind x)
  (q:∀ ch l,X.at a l (cs++[ch]) tks (M.put kind k x<|LS ns)->SameBut X.S.A.F H l->Q (.int cs.length) l):GT K a [.ref X.S.A.b,.ref u,v,.ref nl] H Q E:=by
 let[T,TP,O,TS]:=p;refine OZ _ _ _ _ cs _ u nl v ns _ _ {rfl,T,TP,I.bk,r,SqL.of s,w,d,λz z nd J U mem L n=>?_,λy=>absurd (I.onPl h1 c) y,λz ⟨x,b,c⟩=>absurd (i x b) c}
 have tk:=KQ n λx b=>I.bk.loose b;refine q _ J (I.snoc (λy=>?_) h1 c L n (g.keep tk) (B.keep tk) D) n;rw[mem];refine or_congr {λh=>{_,av.mpr ⟨y,h,rfl⟩,(fz<|(i y h).1).symm},λo=>?_} Ls;let[j,N,e]:=o;let[x,b,rfl]:=av.mp N
 have:=(i x b).1;rw[show y=x by lia];exact b
end
def NmX(H:Hp)(v:V):Option (Str × Nat)->Prop
 |none=>v=.non
 |some (z,k)=>∃ t,v=.ref t/\H t=some (.tup [.str z,.int k])
def NmX.keep(h:NmX H v x)(k:EA H b):NmX b v x:=by
 cases x with
 |none=>exact h
 |some p=>let[t,e,c]:=h;exact{t,e,k _ _ c}
def RepC.nmv(h:RepC H (M 0 k) v)(ok:FG 0 (M 0 k)):NmX H v (EZ M k):=by
 unfold EZ;cases e:M 0 k with
 |no=>rw[e]at h;exact h
 |nm z r=>rw[e]at h;exact h
 |mk i=>rw[e]at ok;exact ok.elim
 |rc m ps=>rw[e]at ok;exact ok.elim
 |tx z=>rw[e]at ok;exact ok.elim
example:(zwk,Q8,bH,1):=by
 apply u4;intro X cs O M [rfl,[T,TP,J,TS],I,q];let[S,n,r,c,w,rows,nn,outs]:=X;let[dx,j]:=I.ob;let[dl,L]:=I.ly.ob;let[db,U]:=I.bk.bk.ob
 have hz:=I.sz
 have l:=io hz.1 hz.2.2.2.1;erw[bH,bH0_];refine y3 {j,TS.cl,TS.n1,_,IN,y2 {L,BY,x5 _ n r c w {rfl,J,I.ly,λt Y=>?_}}}
 have A:=AL (o:=.tup [V.int (n*w),V.int<|r*w,V.int<|c*w]) Y;refine BV AE  rfl rfl ?_;revert A
 have em:(n:Int)*w=(n*w:Nat):=rfl;intro A;rw[em];erw[];refine{i0,by lia,MI (BT _<|oA l rfl) (λi ys B=>Same H B/\ys.length=i/\∀ k v,ys[k]? =some v->EX cs rows (BI n r c w 0 k) (k%w)=some v) {A,rfl,λk v h=>by simp at h} (λi ys B hi e d=>?_) (λys B e d p hp=>?_)}
 ·let[s,x,D]:=d;refine y3 {s _ _ j,TS.cl,TS.n2,_,HV,y2 {s _ _ U,DA,y3 {s _ _ j,TS.cl,TS.n1,_,IN,y2 {s _ _ L,BY,x6 _ n r c w i {by simp,J,I.ly.same s,λu hu=>?_}}}}}
  have N:=s.trans<|AL (o:=.tup [.int (0+i/w),.int<|i%w]) hu;refine x9 _ w rows nn cs _ u (BI n r c w 0 i) (i%w) {rfl,T,TP,I.bk.same N,by rw[AE];simp[BI],λx v H3 ev g=>{N.trans g,by simp[e],λk v' b=>?_},λz=>absurd (SM.onPl I  (by decide) (hi)) z};let z||z:=fe k _
  rw[bc z]at b;exact D k v' b
  have:k=i:=by
   let y||y:=Nat.eq_or_lt_of_le z
   exact e ▸ y.symm;rw[bu (by simp;lia)]at b;cases b
  rw[cf z]at b;subst this;rw[e,vy]at b;obtain rfl:=μ b;exact ev
 let[s,x,D]:=d
 have g:=s.trans<|AL (o:=.lst ys) hp;exact q p ys _ g AE e λk v b=>((I.rp 0 k v (by decide) (by simp[BO];exact e ▸ ((ζ.mp b).1)) (D k v b)).keep g.tk)
def zwl(b:i<m)(h:(EZ M i).any (λp=>decide<|p.1=z)=true)(c:∀ j<i,(EZ M j).any (λp=>decide<|p.1=z)=false):cellOf M m z=some i:=by
 unfold cellOf;let[d,rfl]:=ie<|show i+1<=m from b;rw[mh];refine{h,x2 (τ i) ((τ d).map (i+1+·)) {?_,λj e=>by rw[c j (ak.mp e)];rfl}};rw[fb,wu,wu];simp[fb,xr]
def zwm(b:∀ j<m,(EZ M j).any (λp=>decide<|p.1=z)=false):cellOf M m z=none:=jz.mpr λj c=>by rw[b j (ak.mp c)];exact ay
example:(zwn,N5,Az,4):=by
 apply u5;intro X cs T M z [rfl,U,I,q];let[dx,Y]:=I.ob;refine y2 {Y,CC,x4 X cs _ M {rfl,U,I,λl xs J s1 L r hx=>({{_,SqL.of L},XY  (λi g d=>(Same H d/\Same J d/\∀ j<i,(EZ M j).any (λp=>decide<|p.1=z)=false)/\∃ x y,g=[some _,some _,x,y]) {{s1,Same.refl _,λj w=>absurd w<|ir _},x2 _ _ rfl} (by intro i g d v [[v,s,v],v];exact SqL.of<|s _ _ L) (λi x g d t e c N=>?_) (λg d c=>?_)})}};let[[A,s,lo],y1,y2,rfl]:=c
 have B:=(ζ.mp e).1
 have n:=s.trans<|AL (o:=.tup [.int i,x]) N
 have b:=A.trans<|AL (o:=.tup [.int i,x]) N
 have nx:=((hx i x e).nmv (I.ok 0 i (by decide) (by rw[r]at B;exact B))).keep n.tk;refine{_,SqT.of AE,rfl,?_};revert n b nx;generalize upd d t _=O;intro n b nx
 have next:(EZ M i).any (λp=>decide _)=false->Same H O/\Same J O/\∀ j<i+1,(EZ M j).any (λp=>decide _)=false:=λh=>⟨b,n,λj w=>by
  let y||y:=fe j i
  exact lo j y;rw[show j=i by exact ke (dq w) y];exact h⟩
 erw[Az1_,Az0_];cases D:EZ M i with
 |none =>
  rw[D]at nx next;rw[nx];exact next rfl
 |some p =>
  rw[D]at nx next;let[u,rfl,eu]:=nx;refine BV eu  rfl rfl ?_;erw[];by_cases hz:p.1=z;rw[if_pos hz]
  have:=q _ b;rw[zwl  (r ▸ B) (by rw[D];simpa using hz) lo]at this;exact this;rw[if_neg hz];exact next (by simpa using hz)
 let[[A,s,lo],y1,y2,ez]:=c
 have:=q _ A;rw[zwm (by rw[<-r];exact lo)]at this;exact this
example:(zwo,U0,bP,1):=by
 apply u4;intro X cs O M [rfl,T,I,q]
 have hz:=I.sz;let[dx,U]:=I.ob
 have g:=io hz.1 hz.2.2.2.1;erw[bP,bP0_];refine y2 {U,CC (by decide),x4 X cs _ M {rfl,T,I,λl xs Y w A s hx=>(.inl {{_,SqL.of A},qW  (BT _<|oA (χ (a_ s) g) rfl) (λi b ys j=>j=Y/\(∃ B,b=[B])/\ys=(KL M i).map V.str) {rfl,⟨_,rfl⟩,rfl} (by intro i b ys j [e,z,d];exact{e ▸ SqL.of A,by rw[d,ε];exact χ (gy _ _) (by simp)}) (λi x b ys j n v c=>?_) (λb ys j c p hp=>?_)})}};let[e,[B,es],d]:=c
 have nx:=(hx i x v).nmv (I.ok 0 i (by decide) (by rw[s]at n;simpa [BO]using n));subst e es
 have r:KL M (i+1)=KL M i++((EZ M i).map (·.1)).toList:=by
  unfold KL;rw[ca];cases e:EZ M i<;>simp[e]
 cases J:EZ M i with
 |none =>
  rw[J]at nx r;rw[nx];exact{_,by lia,rfl,n,by rw[r,d];simp}
 |some p =>
  rw[J]at nx r;let[u,rfl,eu]:=nx;exact{λy L=>y=.str _/\L=j,(by intro y L [e1,e2];exact{_,by lia,rfl,n,e2,by rw[r,d,e1];simp}),BV eu  rfl rfl ⟨rfl,rfl⟩}
 let[rfl,z,d]:=c
 have sp:=AL (o:=.lst ys) hp;exact x2 p (KL M _) {rfl,by rw[<-s,<-d];exact SqL.of AE,cj (gy _ _) (by simp;exact oC g rfl),λD ks N pk hs=>(q D ks _ (w.free<|sp.free N) ((w.trans sp).trans (AL N)) AE pk hs)}
example:(zwp,U1,bS,3):=by
 apply u7;intro X cs B M z U r [rfl,D,I,u,J,L,q,q1,q2];let[Y,N]:=I.ob;erw[bS,bS1_];refine .inl {{_,SqL.of u},XM  (BT _ (by rw[ε];exact oA J rfl)) (λi ys g=>Same H g/\ys=((r.take i).map BL).map V.bl) {Same.refl _,rfl} (λi ys g y ⟨s,_⟩=>SqL.of<|s _ _ u) (λi x ys g d l c=>?_) (λys g l c p O=>?_)};let[s,j]:=c;rw[ψ,af]at d;let[v,e,rfl]:=d;refine{v,rfl,L v<|ι e,λH2 b=>{s.trans b,?_}};rw[cv,e,j];simp;let[s,j]:=c;rw[ε,b_]at j
 have b:=s.trans<|AL (o:=.lst ys) O;refine x2 p _ {rfl,by rw[<-j];exact SqL.of AE,?_};rw[Du,Function.id_comp];revert b;intro b;cases n:r.all _ with
 |false =>
  exact{by decide,q1 n _ b}
 |true =>
  refine y2 {b _ _ N,CC,x5 X cs _ M z {rfl,D,I.same b,λH3 T=>?_}}
  have w:=b.trans T;cases A:cellOf M _ z with
  |none =>
   exact q n A _ w
  |some k =>
   exact{by decide,q2 n ⟨k,A⟩ _ w}
def KR{S:SA}{l n d e g lt i:Addr}{c:Str}{P:V->Prop}(TS:Q6 K a)(o:H S.st=some (.ins (a "Store") l (sf S.lp S.A.b S.tk)))(q:H S.A.b=some (.ins (a "Hold") n (bf d e g lt i)))(r:(bf d e g lt i).lookup c=none)(p:P (.ref S.A.b)) :
  ∃ x s x2,H S.st=some (.ins x s x2)/\Cls K x/\NoAttr K x "book"/\∃ v,x2.lookup ("book":Str)=some v/\CU v λb=>∃ y j,H b=some (.ins (a "Hold") y j)/\j.lookup c=none/\P v:=y3 {o,TS.cl,TS.n2,_,HV,y2 ⟨q,r,p⟩}
def HC{S:SA}{g dl:Addr}{n r c w:Int}{d:Str}{P:V->Prop}(TS:Q6 K a)(i:H S.st=some (.ins (a "Store") g (sf S.lp S.A.b S.tk)))(j:H S.lp=some (.ins (a "Layout") dl (lf n r c w)))(l:(lf n r c w).lookup d=none)(p:P (.ref S.lp)) :
  ∃ x o x2,H S.st=some (.ins x o x2)/\Cls K x/\NoAttr K x "plan"/\∃ v,x2.lookup ("plan":Str)=some v/\CU v λb=>∃ y e,H b=some (.ins (a "Layout") y e)/\e.lookup d=none/\P v:=y3 {i,TS.cl,TS.n1,_,IN,y2 ⟨j,l,p⟩}
section
variable{p:Addr}{n r c w k:Nat}
def Hg(b:D9 K a)(L:LayAt a H p n r c w)(q:G6 (0+k/w) (k%w) Q H):JK K a [.ref p,.int k] H Q E:=x6 p n r c w k ⟨rfl,b,L,q⟩
def OI(b:D9 K a)(L:LayAt a H p n r c w)(q:G6 (n+k/w) (k%w) Q H):G7 K a [.ref p,.int k] H Q E:=x6 p n r c w k ⟨rfl,b,L,q⟩
def Hh(b:D9 K a)(L:LayAt a H p n r c w)(q:G6 (n+r+k/w) (k%w) Q H):LN K a [.ref p,.int k] H Q E:=x6 p n r c w k ⟨rfl,b,L,q⟩
def Hj(b:D9 K a)(L:LayAt a H p n r c w)(q:G6 (n+r+c+k/w) (k%w) Q H):KH K a [.ref p,.int k] H Q E:=x6 p n r c w k ⟨rfl,b,L,q⟩
def lPM(b:D9 K a)(L:LayAt a H p n r c w)(q:G6 (n+r+c+r+k/w) (k%w) Q H):KJ K a [.ref p,.int k] H Q E:=x6 p n r c w k ⟨rfl,b,L,q⟩
end
theorem cK:∀ {l:wD},(∀ k∈l,f k=g k)->l.find? f=l.find? g
 | [],_=>rfl
 |k::l,h=>by
  rw[vk,vk,h k υ,cK λc b=>h c<|ρ _ b]
def zwr(h:∀ k<m,f k=g k):EY f m=EY g m:=by
 unfold EY;rw[cK λk b=>h k<|ak.mp b]
section
variable{X:SX}{cs:yD}{tks:yB}{M:Hs}
def SM.free(I:X.at a H cs tks M){kind:Nat}(d:kind<3):EY (MT cs X.rows X.n X.r X.c X.w kind) (BO X.n X.r X.c X.w kind)=HB M kind (BO X.n X.r X.c X.w kind):=zwr λk c=>by
 let[v,g,b]:=I.val (oA d rfl) c;unfold MT;rw[g];cases e:M _ k with
 |no=>rw[e]at b;rw[b];simp[LQ,HA]
 |nm z r=>rw[e]at b;let[t,rfl,y]:=b;simp[LQ,HA]
 |mk i =>
  rw[e]at b;rw[b];simp[LQ,HA]
 |rc m ps=>rw[e]at b;revert b;apply u2;intro t u [rfl,y];simp[LQ,HA]
 |tx z=>rw[e]at b;rw[b];simp[LQ,HA]
def Hk(h:cellOf M m z=some cell):cell<m/\∃ k,M 0 cell=.nm z k:=by
 have h2:=Ik h;unfold EZ at h2;refine{(ak.mp<|xa h),?_};cases e:M 0 _ with
 |nm b k =>
  rw[e]at h2;simp at h2;exact{k,by rw[h2]}
 |_=>rw[e]at h2;simp at h2
def VQ{kind:Nat}(d:CZ K a)(I:X.at a H cs tks M)(c:kind<3)(q:∀ k:Nat,HB M kind (BO X.n X.r X.c X.w kind)=k->k<BO X.n X.r X.c X.w kind->∀ b,Same H b->Q (.int k) b)(g:HB M kind (BO X.n X.r X.c X.w kind)= -1->EC a H "NoRoom" E):UY kind K a X.S.lp X.S.A.b H Q E:=by
 let[l,n,o,p,r]:=I.sz;let[T,TP,u,TS]:=d;refine x9 _ _ _ _ _ _ _ cs _ {rfl,T,TP,u,I.ly,l,n,o,p,I.bk,r,λi j v w=>zv4 I.gd w,λk e b s=>?_,λe b s=>?_};rw[I.free c]at e;exact q k e (zwh e) b s;rw[I.free c]at e;exact g e b s
end
example:(zws,JL,bI,2):=by
 apply u5;intro X cs i M b [rfl,[T,TP,j,TS],I,l,q];let[A,c]:=I.ob;let[dl,n]:=I.ly.ob;let[B,p]:=I.bk.bk.ob
 have d:b<BO X.n X.r X.c _ 3:=l;erw[bI,bI0_];refine KR TS (c) (p) (DA) (HC TS (c) (n) (BY) (OI j (I.ly) λu r=>?_))
 have e:=AL (o:=.tup [.int (X.n+b/X.w),.int<|b%X.w]) r;refine x9 _ _ _ _ cs _ u _ _ {rfl,T,TP,I.bk.same e,by rw[AE];simp[BI],λy v s w x=>?_,λz=>absurd (I.onPl  (by decide) d) z}
 have g:=e.trans x;exact q v s ((I.rp 3 _ v (by decide) d w).keep g.tk) g
example:(zwt,KM,Bx,3):=by
 apply u5;intro X cs o M z [rfl,d,I,q,p];let[x,g]:=I.ob;refine y2 {g,CC,x5 X cs _ M z {rfl,d,I,λy b=>?_}};cases e:cellOf M _ z with
 |none =>
  exact{by decide,p e _ b}
 |some cell =>
  let[i,k,j]:=Hk e;refine y2 {b _ _ g,CC,x4 X cs _ M {rfl,d,I.same b,λl xs A r s u v=>?_}}
  have ex:=θ (by rw[u];exact i)
  have n:=v _ _ ex;rw[j]at n;let[t,w,c]:=n;exact CH (SqL.of s) rfl ex (by rw[w];exact BV c  rfl rfl (q _ k e i j _<|b.trans r))
def Hl{X:SX}{cs:yD}{g:yB}{M:Hs}{cell c need:Nat}{z:Str}{nl:Addr}{ns:vD}{i:Hp}(w:CZ K a)(I:X.at a H cs g M)(L:cell<X.m0)(j:cs.length<980)(hz:e_ z=true)(s:Same H i)(N:i nl=some (.lst<|ns.map V.int))(O:ns.length<=60)(U:∀ x∈ns,known cs x)
  (q:U2 X a H cs g (M.put 0 cell (.nm z c) (LS ns)) Q) :
  bK3 K a (λ_=>E) (λ_=>E) (AW Q) [some (.ref X.S.st),some<|.int cell,some<|.str z,some<|.int c,some<|.int need,some<|.ref nl] i:=by
 have l:=w;let[T,TP,Y,TS]:=w;let[dx,y]:=I.ob;let[dl,el]:=I.ly.ob;let[db,eb]:=I.bk.bk.ob;erw[bK3_];refine KR TS (s _ _ y) (s _ _ eb) (DA) (HC TS (s _ _ y) (s _ _ el) (BY) (Hg Y (I.ly.same s) λu A=>?_))
 have p:=s.trans<|AL (o:=.tup [.int (0+cell/X.w),.int<|cell%X.w]) A
 have r:upd i u (.tup [.int (0+cell/X.w),.int<|cell%X.w]) u=some (.tup [.int (BI X.n X.r X.c X.w 0 cell),.int<|cell%X.w]):=by rw[AE];simp[BI]
 have d:=AL (o:=.tup [.int (0+cell/X.w),.int<|cell%X.w]) A _ _ N;revert p r d;generalize upd i u _=H3;refine λp r d=>{by decide,λt ht=>?_}
 have st:=AL (o:=.tup [V.str z,V.int c]) ht
 have B:=p.trans st
 have D:upd H3 t _ t=some (.tup [V.str z,V.int c]):=AE;refine IP l (I.same B)  (x:=.nm z _) (by decide) (L) (st _ _ r) (st _ _ d) O (oA j rfl) U {_,D,by simp,λv J=>?_} ⟨t,rfl,D⟩ trivial λch H' I' sb=>q ch H' I' λb o e n=>sb _ _ (B _ _ e) n;simp only[aj,bx,or_false]at J;let rfl||rfl:=J
 exact hz
 trivial
example:(zwu,U3,bK,6):=by
 apply u8;intro X cs i M cell s need z [rfl,[T,TP,l,TS],I,n,u,b,hz,q];let[y,p]:=I.ob;erw[bK,bK0_];refine{by decide,λnl c=>?_}
 have d:=AL (o:=.lst [V.int need]) c;refine y3 {d _ _ p,TS.cl,TS.n3,_,cI,_,dS<|d _ _ I.tk,?_}
 have j:upd H nl _ nl=some (.lst [V.int need]):=AE
 have r:known cs _:={i0,c_.mpr u}
 cases e:BG i _ with
 |none =>
  rw[show FV _ z=[] by unfold FV;rw[e]]at q;exact Hl (ns:=[need]) ⟨T,TP,l,TS⟩ I n b hz d j (by simp) (λx g=>by rw[aa.mp g];exact r) q
 |some v =>
  let[k,rfl,w]:=I.tv z v e;rw[show FV _ z=[k] by unfold FV;rw[e];rfl]at q;refine{.inl {rfl,_,SqL.of j},y3 {d _ _ p,TS.cl,TS.n3,_,cI,_,dS' (d _ _ I.tk) e,{_,j,(by show 1<sizeLine;decide),?_}}};rw[GG];refine Hl (ns:=[need,k]) ⟨T,TP,l,TS⟩ I n b hz (AL c) AE (by simp) (λx g=>?_) q;simp only[aj,bx,or_false]at g;let rfl||rfl:=g
  exact r;exact{i0,c_.mpr w}
def zwv(ps:wD):∀ v∈AO ps,GoodV (n+1) H v:=λv b=>by
 let[p,z,rfl]:=av.mp b
 trivial
def cM{H:Hp}{t u:Addr}{m:Nat}{ps:wD}(h1:H t=some (.tup [.int m,.ref u]))(h2:H u=some (.tup<|AO ps))(c:ps.length<=100):GoodV 4 H (.ref t):=⟨_,h1,by simp,λv b=>by
 simp only[aj,bx,or_false]at b;let rfl||rfl:=b
 trivial
 exact{_,h2,by simp[AO];exact c,zwv ps}⟩
example:(zww,Q9,Bc,5):=by
 apply mE;intro X cs U M c m i more ps nl ns [rfl,A,I,B,Y,j,l,en,hl,kn,p,q]
 have g:=A;let[T,TP,TL,TS]:=A;let[dx,r]:=I.ob;let[dl,el]:=I.ly.ob;let[db,eb]:=I.bk.bk.ob;refine y2 {r,CC,x5 X cs _ M _ {rfl,g,I,B,λv D J s=>?_}};rw[Y]at J;revert J;apply u2;intro t0 w [rfl,L,GE];erw[Bc1_];refine KR TS (s _ _ r) (s _ _ eb) (DA) (HC TS (s _ _ r) (s _ _ el) (BY) (OI TL (I.ly.same s) λu hu=>?_))
 have d:=AL (o:=.tup [.int (X.n+c/X.w),.int<|c%X.w]) hu
 have y:upd D u (.tup [.int (X.n+c/X.w),.int<|c%X.w]) u=some (.tup [.int (BI X.n X.r X.c X.w 3 c),.int<|c%X.w]):=by rw[AE];simp[BI]
 revert d y;generalize upd D u _=H2;refine λd y=>BV (d _ _ L)  rfl rfl (BV (d _ _ L)  rfl rfl {by decide,λt ht=>?_});rw[j]
 have st:=AL (o:=.tup [V.int i,V.ref w]) ht
 have z:=(s.trans d).trans st
 have N:upd H2 t _ t=some (.tup [V.int i,V.ref w]):=AE
 have O:=st _ _<|d _ _ GE;exact IP g (I.same z)  (x:=.rc i ps) (by decide) (B) (st _ _ y) (z _ _ en) hl (oA p rfl) kn (cM N O l) (x2 t w ⟨rfl,N,O⟩) trivial λch H' I' sb=>q ch H' I' λb o e n=>sb _ _ (z _ _ e) n
example:(zwx,U4,bQ,4):=by
 apply mE;intro X cs L M c m ps N j nl ns [rfl,y,I,z,O,l,p,U,Y,kn,r,q]
 have d:=y;let[T,TP,TL,TS]:=y;let[dx,s]:=I.ob;let[dl,el]:=I.ly.ob;let[db,eb]:=I.bk.bk.ob;erw[bQ,bQ0_];refine KR TS (s) (eb) (DA) (HC TS (s) (el) (BY) (OI TL (I.ly) λu hu=>?_))
 have g:=AL (o:=.tup [.int (X.n+c/X.w),.int<|c%X.w]) hu
 have w:upd H u (.tup [.int (X.n+c/X.w),.int<|c%X.w]) u=some (.tup [.int (BI X.n X.r X.c X.w 3 c),.int<|c%X.w]):=by rw[AE];simp[BI]
 revert g w;refine λg w=>y2 {g _ _ s,CC,x5 X cs _ M _ {rfl,d,I.same g,z,λv H3 A B=>?_}};rw[O]at A;revert A;apply u2;intro t0 u0 [rfl,GZ,GE];refine BV GZ  rfl rfl {by decide,λt ht=>?_}
 have st:=AL (o:=.tup [V.int m,V.ref j]) ht
 have i:=(g.trans B).trans st
 have D:upd H3 t _ t=some (.tup [V.int m,V.ref j]):=AE
 have J:=i _ _ l;exact IP d (I.same i)  (x:=.rc m _) (by decide) (z) (st _ _<|B _ _ w) (i _ _ U) Y (oA r rfl) kn (cM D J p) (x2 t j ⟨rfl,D,J⟩) trivial λch H' I' sb=>q ch H' I' λb o e n=>sb _ _ (i _ _ e) n
def OJ{α b c :Type}{F: α -> b ->Prop}{G: α -> c ->Prop}{f: b -> c}:∀ {l:List α} {m:List b},Paired F l m->(∀ x y,F x y->G x (f y))->Paired G l (m.map f):=λh k=>by
 induction h with
 |nil=>exact .nil
 |cons h t d=>exact .cons (k _ _ h) d
def VR{j:TE}{l:wD}{d:St}{b:Addr}{xs:vE}(v:xs.length<=sizeLine)(Pv:Nat->vE->Hp->Prop)(h0:Pv 0 [] H)(r:∀ i ys H,i<=xs.length->Pv i ys H->SqT K H b xs)
  (hs:∀ i x ys H,xs[i]? =some x->ys.length=i->Pv i ys H->j (some x::C1 l d) H λy s=>Pv (i+1) (ys++[y]) s)
  (hd:∀ ys H,ys.length=xs.length->Pv xs.length ys H->∀ p,H p=none->Q (.ref p) (upd H p<|.lst ys)) :
  EH (IY K b) (AG 0) CQ j 1 l d H Q:=by
 refine{λi m c ys H=>m=xs.length-i/\i<=xs.length/\ys.length=i/\(∃ n,c=n::C1 _ d)/\Pv i ys H,{xs.length,rfl,bg _,rfl,⟨_,rfl⟩,h0},?_};intro i m c ys H [rfl,u,g,[n,rfl],p]
 have q:=r i ys H u p;by_cases o:i<xs.length;refine .inr {x2 xs (xs[i]) {q,by simp[o]},by lia,λx w y=>?_};let[rfl,y]:=y;refine{_,λy z q=>{_,by lia,rfl,o,?_,⟨_,rfl⟩,q},hs i x ys _ (y xs q) g p};rw[ae,i_,g]
 have e:i=xs.length:=by lia
 subst e;exact .inl {{xs,q,ο _},hd ys H g p}
section
variable{X:SX}{cs:yD}{tks:yB}{M:Hs}
def SM.lput{l:Addr}{xs ys:vE}(I:X.at a H cs tks M)(e:H l=some (.lst xs))(f:¬ X.S.A.F l):X.at a (upd H l<|.lst ys) cs tks M:=by
 have s:SameBut _ H (upd H l<|.lst ys):=λy o r n=>by rw[AI n];exact r
 have g:∀ x,x=l->EV _:=λx b=>by rw[b];exact QY e
 have tk:=KQ s g;let[[u,j],p,w,q,B,D,J,L,N,c,d,i]:=I;let[dl,O]:=p.ob;exact{{u,s _ _ j (BJ j e (by intro z;cases z))},p.sb s (BJ O e (by intro z;cases z)),w.sb s g λx b=>by rw[b];exact f,s _ _ q (BJ q e (by intro z;cases z)),B,D,J,L,N.keep tk,λkind k v h1 h2 T=>(c _ k v h1 h2 T).keep tk,d,i.keep tk}
def SM.taken(I:X.at a H cs tks M)(q:k<cs.length)(r:tks.length<cs.length):X.at a (upd H X.S.tk<|.dK<|CD tks (.inr z) (.int k)) cs (CD tks (.inr z) (.int k)) M:=by
 have s:SameBut _ H (upd H X.S.tk<|.dK<|CD tks (.inr z) (.int k)):=λy o u n=>by rw[AI n];exact u
 have g:∀ x,x=X.S.tk->EV _:=λx b=>by rw[b];exact NZ I.tk
 have tk:=KQ s g;let[[w,i],j,A,l,O,B,p,D,J,c,d,e]:=I;let[dl,L]:=j.ob;refine{{w,s _ _ i (BJ i l (by intro z;cases z))},j.sb s (BJ L l (by intro z;cases z)),A.sb s g λx b=>by rw[b];exact p,AE,χ (HJ ..) (r),λy v h=>?_,p,D,J.keep tk,λkind k v h1 h2 N=>(c _ k v h1 h2 N).keep tk,d,e.keep tk};rw[G1]at h;split at h;obtain rfl:=μ h;exact⟨k,rfl,q⟩;exact B y v h
end
example:(zwy,U5,bT,4):=by
 apply u8;intro X cs v M cell z nl ns [rfl,p,I,w,A,B,D,J,b,q]
 have c:=p;let[dx,g]:=I.ob;let[dl,L]:=I.ly.ob;let[T,TP,N,TS]:=p;let[db,O]:=I.bk.bk.ob;erw[bT,bT0_];refine y3 {g,TS.cl,TS.n2,_,HV,y2 {O,DA,y3 {g,TS.cl,TS.n1,_,IN,y2 {L,BY,y2 {g,CC,x5 X cs _ M z {rfl,c,I,λU r=>?_}}}}}};rw[w];refine x6 _ _ _ _ _ _ {rfl,N,I.ly.same r,λu Y=>?_}
 have i:upd U u (.tup [.int (0+cell/X.w),.int<|cell%X.w]) u=some (.tup [.int (BI X.n X.r X.c X.w 0 cell),.int<|cell%X.w]):=by rw[AE];simp[BI]
 have d:=r.trans<|AL (o:=.tup [.int (0+cell/X.w),.int<|cell%X.w]) Y;revert i d;refine λi d=>IP c (I.same d)  (x:=.no) (by decide) (A) i (d _ _ B) D (oA b rfl) J trivial rfl trivial λch H3 j sb=>?_;let[dx3,l]:=j.ob
 have s:=I.tl;refine y3 {l,TS.cl,TS.n3,_,cI,_,pS j.tk<|oD (cj s b) rfl,(q ch _ (j.taken (by simp) (by simp;exact xf s)) λy o e n=>?_)};rw[AI λy=>n<|.inr y];exact sb _ _ (d _ _ e) λy=>n<|.inl y
def drI(a:Ad)(X:SX)(cs:yD)(c:yB)(M:Hs)(b gone:Nat)(j d:Addr)(e:List (Nat × Nat))(l:Hp)(i:Nat)(n:St)(g:Hp):Prop:=(∃ ex,ex.length=i+1/\X.at a g (cs++ex) c ((e.take i).foldl (λ(M:Hs) (y:Nat × Nat)=>M.put y.1 y.2 (.mk 0) [cs.length]) (M.put 3 b .no [gone]))/\g d=some (.lst (AO ((τ<|i+1).map (cs.length+·))))/\SameBut (λx=>X.S.A.F x\/x=d) l g)/\∃ o,n=[some (.ref X.S.st),some<|.int b,some<|.int gone,some<|.ref j,some<|.int cs.length,some<|.ref d,o]
example:(zw0,ZK,Bm,7):=by
 apply u8;intro X cs tks M c m gone ps [rfl,T4,I,hr,eM,hg,hps,CB,hcs,q]
 have T4':=T4;let[dx,ho]:=I.ob;let[T,TP,TL,TS]:=T4;refine y2 {ho,CC,x5 X cs _ M _ {rfl,T4',I,hr,λv H1 rv s=>?_}};rw[eM]at rv;revert rv;apply u2;intro t0 u0 [rfl,GZ,GE]
 have I1:=I.same s;refine BV GZ  rfl rfl ?_;let[dx1,ho1]:=I1.ob;let[dl1,el1]:=I1.ly.ob;let[db1,eb1]:=I1.bk.bk.ob;erw[Bm1_];refine KR TS (ho1) (eb1) (DA) (HC TS (ho1) (el1) (BY) (OI TL (I1.ly) λu hu=>{by decide,λnl hnl=>?_}))
 have sb:=AL (o:=.lst [V.int gone]) hnl
 have eu:=sb _ _ (show upd H1 u _ u=some (.tup [.int (BI X.n X.r X.c X.w 3 c),.int<|c%X.w]) by rw[AE];simp[BI])
 have en:upd (upd H1 u<|.tup [.int (X.n+c/X.w),.int<|c%X.w]) nl _ nl=some (.lst<|[(gone:Int)].map V.int):=AE
 have s2:=(AL  hu).trans sb;revert eu en s2;refine λeu en s2=>IP T4' (I1.same s2)  (x:=.no) (by decide) (hr) eu en (by simp) (oA hcs rfl) (λx l=>by rw[aa.mp l];exact{i0,c_.mpr hg}) trivial rfl trivial λch H3 I3 SE=>?_;erw[Bm2_];refine{by decide,λml hml=>?_}
 have sm:=AL (o:=.lst [V.int cs.length]) hml
 have I4:=I3.same sm
 have fml:=I3.bk.off hml
 have eu4:=sm _ _<|(KQ SE λx l=>(I1.same s2).bk.loose l) _ _ (s2 _ _ GE)
 have B:upd H3 ml _ ml=some (.lst [V.int cs.length]):=AE
 have hmlH:H ml=none:=by
  cases e:H ml with
  |none=>rfl
  |some o=>have:=SE _ _ (s2 _ _<|s _ _ e) fml;rw[hml]at this;cases this
 have sb4:SameBut _ H _:=λy o e n=>sm _ _<|SE _ _ (s2 _ _<|s _ _ e) n;revert I4 eu4 B sb4;generalize upd H3 ml _=H4;intro I4 eu4 B sb4;let[dx4,ho4]:=I4.ob;let[dl4,el4]:=I4.ly.ob;erw[Bm4_];refine .inr {{_,SqT.of eu4},VR  (BT _ (by simp[AO];exact oA CB rfl)) (λi ys H'=>Same H4 H'/\∃ us:List _,ys=us.map V.ref/\Paired (λu p=>H' u=some (.tup [.int (BI X.n X.r X.c X.w 2 p),.int<|p%X.w])) us (ps.take i)) {Same.refl _,[],rfl,.nil} (λi ys H' j ⟨s',_⟩=>SqT.of<|s' _ _ eu4) (λi x ys H' l D g=>?_) (λys H' D g lc hlc=>?_)};let[s',us,ey,pu]:=g;unfold AO at l;rw[ψ,af]at l;let[p,ep,rfl]:=l;erw[C1];refine y3 {s' _ _ ho4,TS.cl,TS.n1,_,IN,y2 {s' _ _ el4,BY,x6 _ _ _ _ _ p {rfl,TL,I4.ly.same s',λu' J=>?_}}}
 have su:=AL (o:=.tup [.int (X.n+X.r+X.c+X.r+(p:Int)/X.w),.int<|(p:Int)%X.w]) J;refine{s'.trans su,us++[u'],by rw[ey,aw];rfl,?_};rw[cv,ep];exact Paired.snoc (Paired.mapP pu λt r z=>su _ _ z) (by rw[AE];simp[BI]);let[s',us,rfl,pu]:=g;rw[show(AO ps).length=ps.length by simp[AO],b_]at pu
 have sc:=AL (o:=.lst<|us.map V.ref) hlc
 have s5:=s'.trans sc;refine HC TS (s5 _ _ ho4) (s5 _ _ el4) (BY) (Hj TL (I4.ly.same s5) λd hur=>{by decide,λlr hlr=>.inl ?_})
 have se:=AL (o:=.lst [V.ref d]) hlr
 have sd:=AL (o:=.tup [.int (X.n+X.r+X.c+(c:Int)/X.w),.int<|(c:Int)%X.w]) hur;refine x4 lc lr _ _ {rfl,rfl,se _ _<|sd _ _ AE,AE,BT _ (by have:=pu.length;simp;exact oA (χ (a_ this) CB) rfl),λl2 DF=>?_}
 have sf':=AL (o:=.lst<|us.map V.ref++[V.ref d]) DF
 have er:upd (upd (upd (upd H' lc<|.lst<|us.map V.ref) d (.tup [.int (X.n+X.r+X.c+(c:Int)/X.w),.int<|(c:Int)%X.w])) lr (.lst [V.ref d])) l2 (.lst<|us.map V.ref++[V.ref d]) d=some (.tup [.int (BI X.n X.r X.c X.w 1 c:Nat),.int (c%X.w:Nat)]):=(se.trans sf') _ _ (by rw[AE];simp[BI])
 have sg:=(sd.trans se).trans sf'
 have hl2F:¬ X.S.A.F l2:=by
  have:=((I4.same s5).same (sd.trans se)).bk.off DF;exact this
 have L:upd (upd (upd (upd H' lc<|.lst<|us.map V.ref) d (.tup [.int (X.n+X.r+X.c+(c:Int)/X.w),.int<|(c:Int)%X.w])) lr (.lst [V.ref d])) l2 (.lst<|us.map V.ref++[V.ref d]) l2=some (.lst<|(us++[d]).map V.ref):=by rw[AE];simp
 have s6:=s5.trans sg
 have nlm:=(BK (se _ _<|sd _ _<|s5 _ _ B) DF).symm
 have PP:Paired (λu (y:Nat × Nat)=>upd (upd (upd (upd H' lc<|.lst<|us.map V.ref) d (.tup [.int (X.n+X.r+X.c+(c:Int)/X.w),.int<|(c:Int)%X.w])) lr (.lst [V.ref d])) l2 (.lst<|us.map V.ref++[V.ref d]) u=some (.tup [.int (BI X.n X.r X.c X.w y.1 y.2:Nat),.int (y.2%X.w:Nat)])) (us++[d]) (ps.map (λp=>(2,p))++[(1,c)]) :=
  Paired.snoc (OJ pu λu p z=>sg _ _<|sc _ _ z) er
 revert s6 L PP;generalize upd (upd (upd (upd H' lc<|.lst<|us.map V.ref) d (.tup [.int (X.n+X.r+X.c+(c:Int)/X.w),.int<|(c:Int)%X.w])) lr (.lst [V.ref d])) l2 (.lst<|us.map V.ref++[V.ref d])=H6;intro L s6 PP;generalize us++[d]=vs at L PP
 have N:∀ y∈ps.map (λp=>(2,p))++[(1,c)],(y.1=1\/y.1=2)/\y.2<BO X.n X.r X.c X.w y.1:=λy hy=>by
  let hy||hy:=bd.mp hy
  ·let[p,hp,rfl]:=av.mp hy;exact{.inr rfl,by simpa [BO]using hps p hp}
  ·rw[aa.mp hy];exact{.inl rfl,by simpa [BO]using hr}
 have D:(ps.map (λp=>((2:Nat),p))++[(1,c)]).length=ps.length+1:=by simp
 have O:(ps.map (λp=>(2,p))++[(1,c)]).foldl (λ(M:Hs) (y:Nat × Nat)=>M.put y.1 y.2 (.mk 0) [cs.length]) (M.put 3 c .no [gone])=((M.put 3 c .no [gone]).unmark cs.length ps).put 1 c (.mk 0) [cs.length]:=by
  rw[ko,List.foldl_map];rfl
 revert N D O PP;generalize ps.map (λp=>((2:Nat),p))++[(1,c)]=w;intro PP N D O;refine(.inl ⟨{_,SqL.of L},G2 (xs:=vs.map V.ref) (drI a X cs tks M c gone u0 ml w H6)
  {{[ch],rfl,I4.same s6,by rw[s6 _ _ B];simp[AO,ca],λy o e j=>e},_,rfl} (λi σ H' j {⟨_,_,_,_,sb'⟩,_}=>SqL.of<|sb' _ _ L ?_) (λi x σ H7 l g=>?_) (λσ H7 g=>?_)⟩)
 rintro (y|y);exact hl2F y;exact nlm y;let[[ex,SG,I7,U,sb7],y6,rfl]:=g
 have hi:=(ζ.mp l).1;rw[ε]at hi
 have hip:i<w.length:=by rw[<-PP.length];exact hi
 have ey:=θ hip;let[u',eu',J]:=JC PP ey;rw[ψ,eu']at l;obtain rfl:=μ l;let[Y,hky]:=N _<|ι ey
 have etk:w.take (i+1)=w.take i++[w[i]]:=by rw[cv,ey];rfl
 revert etk Y hky J;generalize w[i]=y;intro J Y hky etk;let[dx7,ho7]:=I7.ob;let[db7,eb7]:=I7.bk.bk.ob;erw[Bm3_]
 have k67:∀ b xs,H6 b=some (.tup xs)->H7 b=some (.tup xs):=λb xs e=>sb7 _ _ e λz=>z.elim (λz=>((I4.same s6).bk.loose z).1 _ e) λz=>by rw[z,s6 _ _ B]at e;cases e
 refine{.inl {rfl,_,SqL.of U},y3 {ho7,TS.cl,TS.n2,_,HV,y2 {eb7,DA,by decide,λn8 hn8=>?_}}}
 have s8:=AL (o:=.lst [V.int cs.length]) hn8;refine IP (ns:=[(cs.length:Int)]) T4' (I7.same s8) (kind:=y.1) (x:=.mk 0) (by lia) hky (s8 _ _<|k67 _ _ J) AE (by simp) (by simp;lia) (λx l=>by rw[aa.mp l];exact{i0,by simp;lia}) trivial rfl (by let z||z:=Y<;>rw[z]<;>exact bg _) λch9 H9 I9 OW=>?_
 have em9:=OW _ _ (s8 _ _ U) fml;refine{_,em9,ω (show(AO ((τ<|i+1).map (cs.length+·))).length<1000 by simp[AO];lia) (by decide),({{ex++[ch9],by simp[SG],by have:=I9.lput (ys:=AO ((τ<|i+1).map (cs.length+·))++[V.int ((cs++ex).length:Nat)]) em9 fml;rw[etk,ko,<-dt];exact this,by rw[AE];simp[AO,ca,SG],λb o e n=>?_},_,rfl})};rw[AI λz=>n<|.inr z];exact OW _ _ (s8 _ _<|sb7 _ _ e n) λz=>n<|.inl z;let[[ex,SG,I7,U,sb7],y6,rfl]:=g
 have hvl:=PP.length;rw[ε,hvl,D]at SG U;rw[ε,hvl,b_,O]at I7;exact q ex ml H7 hmlH U SG I7 λy o e n=>(sb7 _ _ (s6 _ _<|sb4 _ _ e n) λy'=>y'.elim n λz=>by rw[z,hmlH]at e;cases e)
def M4{X:SX}{cs:yD}{c:yB}{M:Hs}{d:Hp}{l:Addr}(I:X.at a d cs c M)(sb:SameBut (λx=>X.S.A.F x\/x=X.S.tk) H d)(b:d l=none):H l=none:=by
 cases e:H l with
 |none=>rfl
 |some o =>
  have:=sb _ _ e λz=>z.elim (I.bk.off b) λz=>by rw[z,I.tk]at b;cases b
  rw[b]at this;cases this
example:(zw1,RA,bU,6):=by
 apply u5;intro X cs tks M z [rfl,T4,I,hzl,j,q,q1,q2,q3];let[dx,r]:=I.ob
 have c:=T4
 have hm3:BO X.n X.r X.c X.w 3=X.r*X.w:=by simp[BO]
 erw[bU,bU0_];refine y2 {r,CC,by decide,λgl hgl=>?_}
 have s1:=AL (o:=.lst [V.str z]) hgl;refine x7 X cs _ M z gl [z] {rfl,T4,I.same s1,AE,by simp,λy hy=>by rw[aa.mp hy];exact hzl,λg s H2 v=>?_,λg H2 v=>q1 (by simpa using g) _ (s1.trans v),λg s H2 v=>q2 (by simpa using g) s _ (s1.trans v)}
 have g:BL z=true:=by simpa using g
 have w:=s1.trans v;let[T,TP,TL,TS]:=T4;refine y3 {w _ _ r,TS.cl,TS.n1,_,IN,y3 {w _ _ r,TS.cl,TS.n2,_,HV,x2 _ _ {rfl,VQ c (I.same w) (by decide) (λb B KY H3 D=>?_) λB H3 D=>q3 g s (.inl<|B) _ (w.trans D)}}}
 have d:=w.trans D;refine y3 {d _ _ r,TS.cl,TS.n1,_,IN,y3 {d _ _ r,TS.cl,TS.n2,_,HV,x2 _ _ {rfl,VQ c (I.same d) (by decide) (λcell ec BN H4 s4=>?_) λB H3 D=>q3 g s (.inr<|B) _ (d.trans D)}}}
 have J:=d.trans s4
 have L:=I.same J;let[dl4,el4]:=L.ly.ob;let[dx4,N]:=L.ob;let[db4,eb4]:=L.bk.bk.ob;erw[bU3_];refine KR TS (N) (eb4) (DA) (HC TS (N) (el4) (BY) (Hj TL (L.ly) λu hu=>{by decide,λl0 hl0=>?_}))
 have sb:=AL (o:=.lst []) hl0
 have eu:=sb _ _ (show upd H4 u _ u=some (.tup [.int (BI X.n X.r X.c X.w 1 b),.int<|b%X.w]) by rw[AE];simp[BI])
 have p:upd (upd H4 u<|.tup [.int (X.n+X.r+X.c+b/X.w),.int<|b%X.w]) l0 _ l0=some (.lst<|([]).map V.int):=AE
 have s5:=(AL (o:=.tup [.int (X.n+X.r+X.c+b/X.w),.int<|b%X.w]) hu).trans sb;revert eu p s5;refine λeu p s5=>IP c (L.same s5)  (x:=.mk 1) (by decide) (KY) eu p (by simp) (oA j rfl) (λx hx=>by cases hx) trivial rfl (ο _) λc1 H6 O sb6=>?_;let[dx6,U]:=O.ob;let[dl6,el6]:=O.ly.ob;let[db6,eb6]:=O.bk.bk.ob;erw[bU4_];refine KR TS (U) (eb6) (DA) (HC TS (U) (el6) (BY) (OI TL (O.ly) λu2 hu2=>({by decide,λe6 he6=>{by decide,λt6 ht6=>{by decide,λl6 hl6=>?_}}})))
 have sc:=AL (o:=.tup [.int 1,.ref e6]) ht6
 have sd:=AL (o:=.lst [.int cs.length]) hl6
 have sb:=AL (o:=.tup []) he6
 have i:=(((AL  hu2).trans sb).trans sc).trans sd
 have f1:=sd _ _ (sc _ _ (sb _ _ (show upd H6 u2 _ u2=some (.tup [.int (BI X.n X.r X.c X.w 3 b),.int<|b%X.w]) by rw[AE];simp[BI])))
 have f2:=sd _ _<|sc _ _<|AE   
 have f3:=sd _ _<|AE   
 have f4:=AE (H:=upd (upd (upd H6 u2<|.tup [.int (X.n+b/X.w),.int<|b%X.w]) e6 (.tup [])) t6 (.tup [.int 1,.ref e6])) (a:=l6) (o:=.lst [.int cs.length]);revert i f1 f2 f3 f4;refine λi f1 f2 f3 f4=>IP (ns:=[cs.length]) c (O.same i)  (x:=.rc 1 []) (by decide) (by exact KY) f1 f4 (by simp) (by simp;exact oC j rfl) (λx hx=>by rw[aa.mp hx];exact{i0,by simp;exact Ae _}) (cM (ps:=[]) f3 f2 (by simp)) (x2 t6 e6 ⟨rfl,f3,f2⟩) trivial λc2 H8 I8 sb8=>?_;let[dx8,ho8]:=I8.ob
 have CN:(cs++[c1]).length=cs.length+1:=by simp
 erw[bU5_];rw[CN];refine y2 {ho8,CC,x8 X _ _ _ _ _ _ z {rfl,c,I8,BN,by simp,by simp;exact oH j rfl,Hd g,λc3 H9 I9 OW=>{by decide,λl hl=>?_}}}
 have sl:=AL (o:=.lst [V.int cs.length,V.int<|cs.length+1,V.int<|(cs++[c1]++[c2]).length]) hl
 have Y:SameBut (λx=>X.S.A.F x\/x=X.S.tk) H H9:=λy o e n=>OW _ _ (sb8 _ _ (i _ _<|sb6 _ _ (s5 _ _<|J _ _ e) λz=>n<|.inl z) λz=>n<|.inl z) λz=>n<|.inl z;exact q g s _ _ B ec KY BN _ l _ rfl (M4 I9 Y hl) (by rw[AE];simp[AO,ca]) (by simpa using (I9.same sl)) λy o e n=>sl _ _<|Y _ _ e n
example:(zw2,N6,bV,6):=by
 apply u6;intro X cs tks M y z [rfl,J,I,L,N,i,q,q1,q2,q3,q4]
 have d:=J;let[dx,j]:=I.ob;erw[bV,bV0_];refine y2 {j,CC,by decide,λgl O=>?_}
 have v:=AL (o:=.lst [V.str y,V.str z]) O;refine x7 X cs _ M z gl [y,z] {rfl,J,I.same v,AE,by simp,λx w=>?_,λb p H2 r=>?_,λb H2 r=>q1 (by simpa using b) _ (v.trans r),λb p H2 r=>?_};simp only[aj,bx,or_false]at w;let rfl||rfl:=w
 exact L;exact N
 have b:BL y=true/\BL z=true:=by simpa using b
 have B:=v.trans r;let[T,TP,TL,TS]:=J;refine y2 {B _ _ j,CC,x5 X cs _ M y {rfl,d,I.same B,λold rec D U eM H3 s=>?_,λD H3 s=>q3 b.1 b.2 p D _<|B.trans s}}
 have c:=B.trans s;refine y3 {c _ _ j,TS.cl,TS.n1,_,IN,y3 {c _ _ j,TS.cl,TS.n2,_,HV,x2 _ _ {rfl,VQ d (I.same c) (by decide) (λcell ec BN H4 s4=>?_) λer H3 s=>q4 b.1 b.2 p ⟨_,D⟩ (er) _ (c.trans s)}}};let[hr,m,ps,eR,Y,q]:=q b.1 b.2 p _ _ _ D U eM
 have g:=c.trans s4;refine y2 {g _ _ j,CC,by decide,λl0 hl0=>?_}
 have s5:=AL (o:=.lst []) hl0;refine OY X cs _ M _ m _ 1 ps l0 [] {rfl,d,(I.same g).same s5,hr,eR,rfl,Y,AE,by simp,(λx w=>by cases w),oA i rfl,λc1 H6 I6 sb6=>?_};let[dx6,ho6]:=I6.ob;erw[bV4_];refine y2 {ho6,CC,x8 X _ _ _ _ _ _ z {rfl,d,I6,BN,by simp,by simp;exact oC i rfl,Hd b.2,λc2 H7 I7 sb7=>{by decide,λl hl=>?_}}}
 have sl:=AL (o:=.lst [V.int cs.length,V.int<|(cs++[c1]).length]) hl
 have u:SameBut (λx=>X.S.A.F x\/x=X.S.tk) H H7:=λy o e n=>sb7 _ _ (sb6 _ _ (s5 _ _<|g _ _ e) λz=>n<|.inl z) λz=>n<|.inl z;exact q ec BN _ l _ rfl (M4 I7 u hl) (by rw[AE];simp[AO,ca]) (by simpa using (I7.same sl)) λy o e n=>sl _ _<|u _ _ e n
 have b:BL y=true/\BL z=true:=by simpa using b
 exact q2 b.1 b.2 p _<|v.trans r
def zw3(n d:Nat):AO ((τ<|d+1).map (n+·))=[V.int n]++AO ((τ d).map (n+1+·)):=by
 rw[yv];simp[AO,fb,uc 1]
example:(zw4,RB,Cm,4):=by
 apply u5;intro X cs tks M z [rfl,r,I,g,q,q1];let[dx,ho]:=I.ob;refine y2 {ho,CC,x5 X cs _ M z {rfl,r,I,λcell rec ec BN eM H1 D=>?_,λeo H3 s3=>q1 eo _ s3}};let[J,m,ps,eR,L,CB,q2,q3]:=q _ _ ec BN eM;refine y2 {D _ _ ho,CC,by decide,λl0 N=>?_}
 have s2:=AL (o:=.lst []) N;refine x8 X cs _ M _ z l0 [] {rfl,r,(I.same D).same s2,ec,BN,AE,by simp,(λx O=>by cases O),oA g rfl,λT H3 U SE=>?_}
 have sb:SameBut (λx=>X.S.A.F x\/x=X.S.tk) H H3:=λy o e n=>SE _ _ (s2 _ _<|D _ _ e) n
 have i:(M.put 0 cell .no<|LS []) 3 _=.rc m ps:=eR;let[dx3,j]:=U.ob;refine y2 {j,CC,x5 X _ _ _ _ {rfl,r,U,J,λv H4 rv s=>?_}};rw[i]at rv;revert rv;apply u2;intro t0 u0 [rfl,GZ,GE]
 have Y:=U.same s;refine BV GZ  rfl rfl ?_;erw[];split;rename_i hm;erw[Cm2_];refine y2 {s _ _ j,CC,by decide,λl5 c=>?_}
 have p:=AL (o:=.lst [V.int cs.length]) c;refine OY X _ _ _ _ m (m-1) _ ps l5 [cs.length] {rfl,r,Y.same p,J,i,by lia,oA CB rfl,AE,by simp,(λx O=>by rw[aa.mp O];exact{i0,by simp;exact Ae _}),by simp;exact oC g rfl,λc2 H6 u d=>{by decide,λl hl=>?_}}
 have w:=AL (o:=.lst [V.int cs.length,V.int<|(cs++[T]).length]) hl
 have b:SameBut (λx=>X.S.A.F x\/x=X.S.tk) H H6:=λy o e n=>d _ _ (p _ _<|s _ _<|sb _ _ e n) λz=>n<|.inl z;exact q2 (c_.mp hm) _ l _ rfl (M4 u b hl) (by rw[AE];simp[AO,ca]) (by simpa using (u.same w)) λy o e n=>w _ _<|b _ _ e n;erw[Cm4_];refine{by decide,λl5 c=>?_}
 have p:=AL (o:=.lst [V.int cs.length]) c;refine y2 {p _ _<|s _ _ j,CC,x8 X _ _ _ _ m _ ps {rfl,r,(Y.same p),J,i,by simp,L,CB,by simp;exact oC g rfl,λex l H6 hl6 el6 hex u d=>.inl (x4 l5 l _ _ {rfl,rfl,d _ _ AE<|Y.bk.off c,el6,BT _ (by simp[AO];lia),λl7 B=>?_})}}
 have w:=AL (o:=.lst ([V.int cs.length]++AO ((τ<|ps.length+2).map ((cs++[T]).length+·)))) B
 have b:SameBut (λx=>X.S.A.F x\/x=X.S.tk) H H6:=λy o e n=>d _ _ (p _ _<|s _ _<|sb _ _ e n) λz=>n<|.inl z;exact q3 (by lia) (T::ex) l7 _ (by simp[hex]) (M4 u b B) (by rw[AE,zw3 _<|ps.length+2];simp) (by simpa using (u.same w)) λy o e n=>w _ _<|b _ _ e n
def cat_tup(h1:H b=some (.tup xs))(h2:H d=some (.tup ys))(i:ys≠[])(j:xs.length+ys.length<=1000)(q:∀ p c,Same H c->c p=some (.tup<|xs++ys)->Q (.ref p) c):BE K (.ref b) (.ref d) H Q:=by
 by_cases g:xs=[];subst g;exact .inr<|.inr<|x3 b d ys {rfl,rfl,SqT.of h1,SqT.of h2,q d H (Same.refl _) h2};exact .inr<|.inl<|x4 b d xs ys {rfl,rfl,SqT.of h1,SqT.of h2,g,BT _<|oA j rfl,λe=>absurd e i,λz p l=>q p _ (AL l) AE}
example:(zw5,RC,Cw,7):=by
 apply u6;intro X cs tks M z t [rfl,T4,I,htl,hts,g,q,q1,q2,q3]
 have b:=T4;let[dx,ho]:=I.ob;refine y2 {ho,CC,x5 X cs _ M z {rfl,T4,I,λcell rec ec BN eM H1 s1=>?_,λeo H3 s3=>q1 eo _ s3}};let[T,TP,TL,TS]:=T4;refine{t,rfl,htl,λH2 s2=>?_}
 have c:=s1.trans s2;cases hb:G9 t with
 |false =>
  exact{by decide,q2 ⟨_,ec⟩ hb _ c}
 |true =>
  refine y3 {c _ _ ho,TS.cl,TS.n1,_,IN,y3 {c _ _ ho,TS.cl,TS.n2,_,HV,x2 _ _ {rfl,VQ b (I.same c) (by decide) (λp ep CB H4 s4=>?_) λer H3 s3=>q3 ⟨_,ec⟩ hb (er) _ (c.trans s3)}}};let[hr,m,ps,eR,r,q]:=q _ _ ec BN eM hb p ep CB
  have s:=c.trans s4
  have w:=I.same s;let[dx4,B]:=w.ob;let[dl4,el4]:=w.ly.ob;let[db4,eb4]:=w.bk.bk.ob;erw[Cw4_];refine KR TS (B) (eb4) (DA) (HC TS (B) (el4) (BY) (lPM TL (w.ly) λu hu=>{by decide,λl0 hl0=>?_}))
  have sb:=AL (o:=.lst []) hl0
  have j:=AL (o:=.tup [.int (X.n+X.r+X.c+X.r+p/X.w),.int<|p%X.w]) hu
  have eu:=sb _ _ (show upd H4 u _ u=some (.tup [.int (BI X.n X.r X.c X.w 2 p),.int<|p%X.w]) by rw[AE];simp[BI])
  have i:upd (upd H4 u<|.tup [.int (X.n+X.r+X.c+X.r+p/X.w),.int<|p%X.w]) l0 _ l0=some (.lst<|([]).map V.int):=AE
  have s5:=j.trans sb;revert eu i s5;refine λeu i s5=>IP b (w.same s5)  (x:=.mk 1) (by decide) (CB) eu i (by simp) (oA g rfl) (λx D=>by cases D) trivial rfl (ο _) λc1 H6 J sb6=>?_;let[dx6,L]:=J.ob;let[dl6,el6]:=J.ly.ob;let[db6,eb6]:=J.bk.bk.ob;erw[Cw5_];refine KR TS (L) (eb6) (DA) (HC TS (L) (el6) (BY) (Hh TL (J.ly) λu2 hu2=>{by decide,λl6 hl6=>?_}))
  have sb:=AL (o:=.lst [.int cs.length]) hl6
  have f1:=sb _ _ (show upd H6 u2 _ u2=some (.tup [.int (BI X.n X.r X.c X.w 4 p),.int<|p%X.w]) by rw[AE];simp[BI])
  have j:=AL (o:=.tup [.int (X.n+X.r+p/X.w),.int<|p%X.w]) hu2
  have f4:=AE (H:=upd H6 u2<|.tup [.int (X.n+X.r+p/X.w),.int<|p%X.w]) (a:=l6) (o:=.lst [.int cs.length])
  have d:=j.trans sb;revert d f1 f4;refine λf1 f4 d=>IP (ns:=[cs.length]) b (J.same d)  (x:=.tx t) (by decide) (by exact CB) f1 f4 (by simp) (by simp;exact oC g rfl) (λx D=>by rw[aa.mp D];exact{i0,by simp;exact Ae _}) hts rfl trivial λc2 H8 I8 sb8=>?_;let[dx8,N]:=I8.ob
  have O:((M.put 2 p (.mk 1) (LS [])).put 4 p (.tx t) (LS [cs.length])) 3 rec=.rc m ps:=eR;erw[Cw6_];refine y2 {N,CC,y2 {N,CC,x5 X _ _ _ _ {rfl,b,I8,hr,λv H9 rv s9=>?_}}};rw[O]at rv;let[t0,u0,rfl,GZ,GE]:=rv;refine BV GZ  rfl rfl {by decide,λt9 ht9=>?_}
  have j:=AL (o:=.tup [V.int p]) ht9;refine cat_tup (j _ _ GE) AE (by simp) (by simp[AO];exact oA r rfl) λpp H10 s10 epp=>{by decide,λl10 U=>?_}
  have sc:=AL (o:=.lst [V.int ((cs++[c1]).length)]) U
  have c:=((s9.trans j).trans s10).trans sc;refine OY X _ _ _ _ m ps (ps++[p]) pp _ [((cs++[c1]).length)] {rfl,b,I8.same c,hr,O,sc _ _ (by rw[epp];simp[AO]),by simp;exact oA r rfl,AE,by simp,(λx D=>by rw[aa.mp D];exact{i0,by simp}),by simp;exact oH g rfl,λc3 H13 Y sb13=>{by decide,λl hl=>?_}}
  have sl:=AL (o:=.lst [V.int cs.length,V.int<|(cs++[c1]).length,V.int<|(cs++[c1]++[c2]).length]) hl
  have sbH:SameBut (λx=>X.S.A.F x\/x=X.S.tk) H _:=λy o e n=>sb13 _ _ (c _ _<|sb8 _ _ (d _ _<|sb6 _ _ (s5 _ _<|s _ _ e) λz=>n<|.inl z) λz=>n<|.inl z) λz=>n<|.inl z;exact q _ l _ rfl (M4 Y sbH hl) (by rw[AE];simp[AO,ca]) (by simpa using (Y.same sl)) λy o e n=>sl _ _<|sbH _ _ e n
example:(zw6,U6,Dc,3):=by
 apply u5;intro X cs tks M z [rfl,U,I,q,q1]
 have d:=U;let[dx,r]:=I.ob;let[dl,el]:=I.ly.ob;let[db,eb]:=I.bk.bk.ob;let[T,TP,TL,TS]:=U;refine y2 {r,CC (by decide),y2 {r,CC (by decide),x5 X cs _ M z {rfl,d,I,λcell rec ec BN eM H1 Y=>?_,λeo H3 w=>q1 eo _ w}}};let[hr,m,ps,eR,A,B,pt,q]:=q _ _ ec BN eM;refine x5 X cs _ M _ {rfl,d,I.same Y,hr,λv H2 e s2=>?_};rw[eR]at e;revert e;apply u2;intro t0 u0 [rfl,GZ,GE]
 have D:=Y.trans s2;refine BV GZ  rfl rfl (.inr {{_,SqT.of GE},VR  (BT _ (by simp[AO];exact oA A rfl)) (λi ys s=>Same H2 s/\ys=(B.take i).map V.str) {Same.refl _,rfl} (λi ys s y ⟨b,_⟩=>SqT.of<|b _ _ GE) (λi x ys s J L c=>?_) (λys s L c lc g=>?_)});let[b,u]:=c;unfold AO at J;rw[ψ,af]at J;let[p,ep,rfl]:=J
 have N:i<B.length:=by have:=(ζ.mp ep).1;have:=pt.length;lia
 have j:=θ N;let[p',l,SH,eP]:=JC pt j;rw[ep]at l;obtain rfl:=μ l
 have hm:p<BO X.n X.r X.c _ 4:=SH
 have n:=D.trans b
 have I':=I.same n;refine y3 {n _ _ r,TS.cl,TS.n2,_,HV,y2 {n _ _ eb,DA (by decide),y3 {n _ _ r,TS.cl,TS.n1,_,IN,y2 {n _ _ el,BY (by decide),x6 _ _ _ _ _ p {rfl,TL,I'.ly,λu' O=>?_}}}}}
 have su:=AL (o:=.tup [.int (X.n+X.r+p/X.w),.int<|p%X.w]) O;refine x9 _ _ _ _ cs _ u' _ _ {rfl,T,TP,I'.bk.same su,by rw[AE];simp[BI],λy v H3 ev w=>?_,λz=>absurd (I.onPl  (by decide) hm) z}
 have e:=I.rp 4 p v (by decide) hm ev;rw[eP]at e;rw[e];refine{(b.trans su).trans w,?_};rw[cv,j,u,aw]
 rfl;let[b,u]:=c
 have hl:(AO ps).length=B.length:=by rw[<-pt.length];simp[AO]
 rw[hl,b_]at u;subst u;exact q lc _ (D.free<|b.free g) ((D.trans b).trans (AL  g)) AE
def zw7(h1:H b=some (.tup xs))(h2:H d=some (.tup ys))(g:xs.length+ys.length<=1000)(q:∀ p c,Same H c->c p=some (.tup<|xs++ys)->Q (.ref p) c):BE K (.ref b) (.ref d) H Q:=by
 by_cases i:ys=[];subst i;by_cases j:xs=[];subst j;exact .inr<|.inr<|x3 b d [] {rfl,rfl,SqT.of h1,SqT.of h2,q d H (Same.refl _) h2};exact .inr (.inl (x4 b d xs [] {rfl,rfl,SqT.of h1,SqT.of h2,j,BT _<|oA g rfl,λz=>q b H (Same.refl _) (by rw[h1];simp),λe=>absurd rfl e}));exact cat_tup h1 h2 i g q
example:(zw8,RD,Db,6):=by
 apply u6;intro X cs tks M z x [rfl,s,I,b,q,q1]
 have c:=s;let[dx,D]:=I.ob;refine y2 {D,CC,x5 X cs _ M z {rfl,s,I,λcell J ec BN eM H1 L=>?_,λeo H3 s3=>q1 eo _ s3}};let[hr,m,ps,eR,hps,q2,q3]:=q _ _ ec BN eM;refine y2 {L _ _ D,CC,x5 X cs _ M J {rfl,s,I.same L,hr,λv H2 rv s2=>?_}};rw[eR]at rv;revert rv;apply u2;intro t0 u0 [rfl,GZ,GE]
 have w:=L.trans s2;refine BV GZ  rfl rfl ?_;erw[Db3_];split;rename_i h0;refine{ps.length,.inr {_,SqT.of GE,by simp[AO]},?_};split;exact{by decide,q2 (by lia) _ w};obtain⟨k,rfl⟩:∃ k:Nat,x=k:={_,(fz h0).symm}
 have N:k<ps.length:=by lia
 have ek:=θ N;let[hp,q3]:=q3 k _ rfl ek
 have e1:HT.sIx (AO ps).length (AO ps).length (some k)=k:=by
  simp[AO];exact mz<|kh N
 refine y2 {w _ _ D,CC,?_}
 have e2:HT.sIx (AO ps).length 0 (some<|k+1)=k+1:=by
  simp[AO];exact mz N
 have hnl:(AO ps).length=ps.length:=by simp[AO]
 refine .inr (x2 u0 _ {rfl,SqT.of GE,λy=>by lia,λp1 OU=>?_})
 have B:=AL (o:=.tup<|GJ (AO ps) none (some k)) OU;refine .inr (x2 u0 _ {rfl,SqT.of<|B _ _ GE,λy=>by lia,λp2 JV=>?_})
 have sb:=AL (o:=.tup<|GJ (AO ps) (some<|k+1) none) JV
 have O:GJ (AO ps) none (some k)=AO (ps.take k):=by rw[zi9 _ (i0),ci];simp[AO]
 have c2:GJ (AO ps) (some<|k+1) none=AO (ps.drop<|k+1):=by rw[zja _ (by exact i0)];simp[AO]
 rw[O,c2]at sb;rw[O]at B;rw[O,c2];refine zw7 (sb _ _ AE) AE (by simp[AO];lia) λpp H5 s5 U=>{by decide,λl5 Y=>?_}
 have sc:=AL (o:=.lst []) Y
 have s6:=(((w.trans B).trans sb).trans s5).trans sc;refine OY X cs _ M _ m ps (ps.eraseIdx k) pp l5 [] {rfl,c,I.same s6,hr,eR,sc _ _ (by rw[U,lj];simp[AO]),(by rw[List.length_eraseIdx];split<;>lia),AE,by simp,(λx d=>by cases d),oA b rfl,λg H7 i j=>?_};let[T,TP,TL,TS]:=s;let[dx7,p]:=i.ob;let[dl7,el7]:=i.ly.ob;let[db7,eb7]:=i.bk.bk.ob;erw[Db5_]
 have hm2:BO X.n X.r X.c X.w 2=X.c*X.w:=by simp[BO]
 refine y3 {p,TS.cl,TS.n2,_,HV,y2 {eb7,DA,y3 {p,TS.cl,TS.n1,_,IN,y2 {el7,BY,BV ((KQ j λx d=>(I.same s6).bk.loose d) _ _ ((((B.trans sb).trans s5).trans sc) _ _ GE)) (n:=k) rfl (by unfold AO;rw[ψ,ek];rfl) (x6 X.S.lp X.n X.r X.c X.w (ps[k]) {rfl,TL,i.ly,λu hu=>{by decide,λl8 hl8=>?_}})}}}}
 have se:=AL (o:=.lst [.int cs.length]) hl8
 have sd:=AL (o:=.tup [.int (X.n+X.r+X.c+X.r+(ps[k]:Int)/X.w),.int<|(ps[k]:Int)%X.w]) hu;refine IP (ns:=[(cs.length:Int)]) c (i.same<|sd.trans se) (kind:=2) (x:=.mk 0) (by decide) (by rw[hm2];exact hp) (se _ _ (show upd H7 u (.tup [.int (X.n+X.r+X.c+X.r+(ps[k]:Int)/X.w),.int<|(ps[k]:Int)%X.w]) u=some (.tup [.int (BI X.n X.r X.c X.w 2 ps[k]:Nat),.int (ps[k]%X.w:Nat)]) by rw[AE];simp[BI])) AE (by simp) (by simp;exact oC b rfl) (λx d=>by rw[aa.mp d];exact{i0,by simp;exact Ae _}) trivial rfl (bg _) λc2' H9 I9 OW=>{by decide,λl hl=>?_}
 have sl:=AL (o:=.lst [V.int cs.length,V.int ((cs++[g]).length:Nat)]) hl
 have r:SameBut (λx=>X.S.A.F x\/x=X.S.tk) H H9:=λy o e n=>OW _ _ ((sd.trans se) _ _ (j _ _ (s6 _ _ e) λz=>n<|.inl z)) λz=>n<|.inl z;exact q3 [g,c2'] l _ rfl (M4 I9 r hl) (by rw[AE];simp[AO,ca]) (by have:=I9.same sl;simpa using this) λy o e n=>sl _ _<|r _ _ e n;exact{by decide,q2 (by lia) _ w}
def OK{f:zC}{m k:Nat}(h:EY f m=k):f k=true:=by
 unfold EY at h;cases e:(τ m).find? f with
 |none=>rw[e]at h;simp at h
 |some b =>
  rw[e]at h
  have:=Ik e
  have  :=ce h;subst this
  assumption
def zw9(b:y≠z)(d:HA 0 (M 0 cell)=true):cellOf ((M.put 3 c x i).put 0 cell (.nm z c) j) m y=cellOf M m y:=by
 refine cK λk v=>?_;unfold EZ;by_cases g:k=cell;subst g;rw[Hs.put_at];cases e:M 0 k with
 |nm l n=>rw[e]at d;simp[HA]at d
 |_=>simp;exact λh=>b h.symm
 rw[Hs.put_at,if_neg<|λz=>g z.2,Hs.put_at,if_neg<|nE rfl]
example:(zxa,RE,Dm,6):=by
 apply u6;intro X cs j M y z [rfl,O,I,Y,hzl,d,q,q1,q2,q3,q4];let[dx,ho]:=I.ob;refine y2 {ho,CC,x6 X cs _ M y z {rfl,O,I,Y,hzl,oA d rfl,λhy hz hc old c cell T p e0=>?_,q1,q2,q3,q4}};let[hr,m,ps,e3,r,q]:=q hy hz hc _ _ _ T p e0;refine{hr,x2 m ps {e3,r,λec BN ex l1 H1 hex DN s I1 sb1=>?_}}
 have fc:=OK ec
 have e01:((M.put 3 c (.rc (m+1) ps) []).put 0 cell (.nm z c) (cs.length::FV j z)) 0 old=.nm y c:=by rw[Hs.put_at,if_neg (λz=>(λh=>by rw[<-h,e0]at fc;simp[HA]at fc) z.2)];exact e0
 have g:cellOf ((M.put 3 c (.rc (m+1) ps) []).put 0 cell (.nm z c) (cs.length::FV j z)) X.m0 y=some old:=by rw[zw9 (λh=>by rw[h,hc]at T;cases T) fc];exact T
 let[dx1,u]:=I1.ob
 have i:¬ X.S.A.F l1/\l1≠X.S.tk:={λz=>(I.bk.off DN) z,λz=>by rw[z,I.tk]at DN;cases DN}
 refine y2 {u,CC,x5 X _ _ _ y {rfl,O,I1,λcell' k' w hc' B H2 D=>?_,λe=>by rw[g]at e;cases e}};rw[g]at w;obtain rfl:=μ w;rw[e01]at B;cases B;erw[Dm2_];refine y2 {D _ _ u,CC,CH (SqL.of<|D _ _ s)  (v:=.int<|cs.length+1) rfl (by simp[AO]) {by decide,λl3 hl3=>?_}}
 have s3:=AL (o:=.lst [V.int (cs.length+1)]) hl3;refine x8 X _ _ _ _ y l3 [((cs.length+1))] {rfl,O,((I1.same D).same s3),g,p,AE,by simp,(λx hx=>by rw[aa.mp hx];exact{i0,by simp[hex]}),by simp[hex];exact oH d rfl,λc3 H4 I4 J=>?_};let[dx4,ho4]:=I4.ob
 have CN:(cs++ex).length=cs.length+2:=by simp[hex]
 rw[CN];erw[Dm3_];refine y2 {ho4,CC,by decide,λl5 hl5=>?_}
 have s5:=AL (o:=.lst [V.int (cs.length+2)]) hl5;refine OY X _ _ _ _ _ m _ ps l5 [((cs.length+2))] {rfl,O,I4.same s5,hr,(by rw[Hs.put_at,if_neg<|nE rfl];exact(by rw[Hs.put_at,if_neg<|nE rfl,Hs.put_at,if_pos ⟨rfl,rfl⟩])),by lia,r,AE,by simp,(λx hx=>by rw[aa.mp hx];exact{i0,by simp[hex]}),by simp[hex];exact oH d rfl,λc4 H6 I6 L=>{by decide,λl6 hl6=>.inl ?_}}
 have U:=AL (o:=.lst [V.int (cs.length+2),V.int<|(cs++ex++[c3]).length]) hl6;refine x4 l1 l6 _ _ {rfl,rfl,U _ _<|L _ _ (s5 _ _<|J _ _ (s3 _ _<|D _ _ s) λz=>z.elim i.1 i.2) i.1,AE,BT _ (by simp[AO]),λl hl=>?_}
 have sl:=AL (o:=.lst (AO ((τ 2).map (cs.length+·))++[V.int (cs.length+2),V.int<|(cs++ex++[c3]).length])) hl
 have h2:((cs.length:Int)+2).toNat=cs.length+2:=rfl
 have N:SameBut (λx=>X.S.A.F x\/x=X.S.tk) H _:=λb o e n=>U _ _<|L _ _ (s5 _ _<|J _ _ (s3 _ _<|D _ _<|sb1 _ _ e n) n) λz=>n<|.inl z;exact(q ec BN) (ex++[c3]++[c4]) l _ (by simp[hex]) (M4 (I6.same U) N hl) (by rw[AE];simp[AO,ca,hex]) (by simpa [hex,h2]using ((I6.same U).same sl)) λb o e n=>sl _ _<|N _ _ e n
theorem Hm(C d:zC)(g:∀ j,C j=true->d j=true)(kind k:Nat):∀ as:uE,(∃ x,∀ M,sh M d as kind k=x)\/((∀ M,sh M d as kind k=M kind k)/\∀ M,sh M C as kind k=M kind k)
 | []=>.inr {λ_=>rfl,λ_=>rfl}
 |b::r=>by
  have i:=Hm C d g kind k r;by_cases e:kind=b.kind/\k=b.k;let[rfl,rfl]:=e;by_cases c:d r.length=true;exact .inl {_,λM=>by rw[CY c,CT]};let[x,h]||[h1,h2]:=i
  exact .inl {x,λM=>by rw[EJ c];exact h M};exact .inr {λM=>by rw[EJ c];exact h1 M,λM=>by rw[EJ (λz=>c<|g _ z)];exact h2 M}
  have far:∀ (D:zC) (M:Md),sh M D _ _ k=sh M D r _ k:=λD M=>by
   by_cases c:D r.length=true;rw[CY c];exact if_neg e;rw[EJ c]
  let[x,h]||[h1,h2]:=i
  exact .inl {x,λM=>by rw[far];exact h M};exact .inr {λM=>by rw[far];exact h1 M,λM=>by rw[far];exact h2 M}
def zxb(c:∀ j,C j=true->b j=true):sh (sh M C as) b as kind k=sh M b as kind k:=by
 let[x,h]||[h1,h2]:=Hm C b c _ k as
 rw[h,h];rw[h1,h1,h2]
def zxc:E7 (cs++[ch]) O b row=if ch.blk=b/\O cs.length=true then(E7 cs O b row).set ch.cell ch.val else E7 cs O b row:=by
 have st:∀ (l:List _) (row:vE),(∀ k∈l,k<cs.length)->l.foldl (HP (cs++[ch]) O) row=l.foldl (HP cs O) row:=by
  intro l
  induction l with
  |nil=>intro y y;rfl
  |cons k l d =>
   intro row h;rw[fq,fq,d _ λj g=>h j<|ρ _ g];unfold HP;rw[bc (h k υ)]
 have lt:∀ k∈DH cs b,k<cs.length:=λk i=>by
  let[c,e,y]:=UI.mp i;exact(ζ.mp e).1
 have n:DH (cs++[ch]) b=if ch.blk=b then DH cs b++[cs.length]else DH cs b:=by simp[DH,G5]
 unfold E7;rw[n];by_cases e:ch.blk=b;rw[if_pos e,ko,st _ _ lt];simp only[fq,List.foldl_nil];unfold HP;rw[cf (ο _),vy];by_cases o:O cs.length=true;rw[if_pos o,if_pos ⟨e,o⟩];rfl;rw[if_neg o,if_neg λz=>o z.2];rw[if_neg e,if_neg λz=>e z.1,st _ _ lt]
section
variable{n r c w:Nat}{cs:yD}{as:uE}
def LaidA.len(h:LaidA n r c w H cs as):cs.length=as.length:=by
 induction h with
 |nil=>rfl
 |snoc _ _ _ _ _ _ _ b=>rw[ae,b];rfl
def LaidA.cut(h:LaidA n r c w H cs as)(b:UN cs outs):FF (λj=>outs (j:Nat)) as:=by
 induction h with
 |nil=>trivial
 |@snoc cs as ch x l q s u d v z g =>
  refine{g λk c e=>b k c (by rw[bc (ζ.mp e).1];exact e),λo=>?_}
  have nd:=b _ ch (by rw[cf (ο _),vy];rfl) (by rw[l.len];exact o);exact{λy i=>nd _<|(d _).mpr (.inl ⟨y,i,rfl⟩),λj p=>nd _<|(d _).mpr (.inr ⟨j,p,rfl⟩)}
def LaidA.far(h:LaidA n r c w H cs as){C i:wC}(p:∀ (j:Nat) (ch:Ch),cs[j]? =some ch->ch.blk≠b->i j=C j)(s:BI n r c w kind k≠b):sh M (λj=>i (j:Nat)) as kind k=sh M (λj=>C (j:Nat)) as kind k:=by
 induction h with
 |nil=>rfl
 |@snoc cs as ch x l u v y z A B d =>
  have d:=d λj c q=>p j c (by rw[bc (ζ.mp q).1];exact q);by_cases e:kind=x.kind/\k=x.k
  have g:=p _ ch (by rw[cf (ο _),vy];rfl) (by rw[u,<-e.1,<-e.2];exact s);rw[l.len]at g;by_cases o:C as.length=true;rw[CY (C:=λj=>C j) o,CY  (g.trans o),e.1,e.2,CT,CT];rw[EJ (C:=λj=>C j) o,EJ  (by rw[g];exact o)];exact d
  have far:∀ D:Nat->Bool,sh M D _ _ k=sh M D as _ k:=λD=>by
   by_cases o:D as.length=true;rw[CY o];exact if_neg e;rw[EJ o]
  rw[far,far];exact d
def LaidA.laid(h:LaidA n r c w H cs as)(A:∀ kind k v,kind<5->k<BO n r c w kind->BI n r c w kind k=b->row[k % w]? =some v->RepC H (S kind k) v):∀ kind k v,kind<5->k<BO n r c w kind->BI n r c w kind k=b->(E7 cs O b row)[k % w]? =some v->RepC H (sh S (λj=>O (j:Nat)) as kind k) v:=by
 induction h with
 |nil=>exact A
 |@snoc cs as ch x l p q B J D I g =>
  intro kind k v h1 s i d;rw[zxc]at d
  have g:=g _ k v h1 s i;by_cases e:kind=x.kind/\k=x.k;let[rfl,rfl]:=e;rw[p,i]at d;by_cases o:O as.length=true;rw[CY  o,CT];rw[if_pos {rfl,by rw[l.len];exact o},q]at d
  have u:=(ζ.mp d).1;rw[ka]at u;rw[gk u]at d;obtain rfl:=μ d;exact B;rw[EJ  o];rw[if_neg λz=>o (by rw[<-l.len];exact z.2)]at d;exact g d
  have far:sh S (λj=>O j) (x::as) kind k=sh S (λj=>O j) as kind k:=by
   by_cases o:O as.length=true;rw[CY  o];exact if_neg e;rw[EJ  o]
  rw[far];refine g ?_;split at d;rename_i z
  have:ch.cell≠k%w:=λy=>e ((cJ     h1 D s I (by rw[i,<-p];exact z.1.symm) (by rw[<-y,q])));rw[ia this]at d;exact d;exact d
end
def RowsAre.keep(h:RowsAre H n r c w rows S)(k:EA H b):RowsAre b n r c w rows S:=λkind i v h1 h2 h3=>(h _ i v h1 h2 h3).keep k
def RowsAre.write{rows:aC}{outs:wC}(h:RowsAre H n r c w rows (sh B (λj=>outs (j:Nat)) as))(l:LaidA n r c w H cs as)(q:rows[b]? =some row) :
  RowsAre H n r c w (rows.set b<|E7 cs (DJ cs outs b) b row) (sh B (λj=>DJ cs outs b (j:Nat)) as):=λkind k v h1 o d=>by
 by_cases e:BI n r c w kind k=b;rw[e,gk<|(ζ.mp q).1]at d
 have:=l.laid     (λkind k v h1 o e d=>h _ k v h1 o (by rw[e,q];exact d)) _ k v h1 o e d;rw[zxb   (λj e=>by unfold DJ;rw[e];rfl)]at this;exact this;rw[ia (λz=>e z.symm)]at d;rw[l.far    (λj ch s u=>?_) e];exact h _ k v h1 o d;unfold DJ
 have:(outcome cs outs (λy=>false) b).out.any (λi=>j ==(i:Int))=false:=by
  rw[Bool.eq_false_iff];intro z;let[i,x,p]:=dn.mp z
  have p:=ce (beq_iff_eq.mp p).symm;subst p;let[D,g,A]:=UI.mp<|(UK.2.1 i x).2;rw[s]at g;obtain rfl:=μ g;exact u A
 rw[this,rg]
def zxd(l:D5 cs (b:Nat) (j:Nat)=none):(E7 cs O b row)[j]? =row[j]? :=by
 rw[zjj,sP];cases n:JJ cs _ j with
 |none=>simp
 |some c =>
  let[k,o,i,d,z]:=sQ n;let[q,e,p]:=UI.mp (de.mp o).1;rw[i]at e;obtain rfl:=μ e;refine u2 ?_<|zjk i;intro r s [g,z];rw[p,d,l]at g;cases g
def zxe(h:v∈E7 cs O b row):v∈row\/∃ c∈cs,v=c.val:=by
 unfold E7 at h;revert h;generalize DH cs b=l
 induction l generalizing row with
 |nil=>exact .inl
 |cons k l d =>
  intro h;let h||h:=d h
  unfold HP at h;split at h;split at h;rename_i c e;let h||h:=p_ h
  exact .inl h;exact .inr {c,ι e,h};exact .inl h;exact .inl h;exact .inr h
def cN{α b :Type}{F: α -> b ->Prop}{x: α}:∀ {l:List α} {m:List b} {i:Nat},Paired F l m->l[i]? =some x->∃ y,m[i]? =some y/\F x y:=λh e=>WM h e
example:(zxf,ZL,Dh,4):=by
 apply u5;intro X cs tks M z [rfl,T4,I,q,qE];let[dx,ho]:=I.ob
 have g:=T4;let[T,TP,TL,TS]:=T4;refine y2 {ho,CC (by decide),x5 X cs _ M z {rfl,g,I,λcell c e BN hm H1 s1=>?_,qE}};let[hr,m,ps,e3,hps,SH,q]:=q _ _ e BN hm
 have N:=I.same s1;let[d1,B]:=N.ob;let[dl1,el1]:=N.ly.ob;erw[Dh1_];refine HC TS B el1 (BY (by decide)) (y2 {B,CC (by decide),x5 X cs _ M z {rfl,g,N,λH2 s2=>?_}});rw[e]
 have I2:=N.same s2;refine Hg  TL I2.ly λO D=>?_
 have I3:=I2.same<|AL (o:=.tup [.int (0+cell/X.w),.int<|cell%X.w]) D;let[d3,ho3]:=I3.ob;let[dl3,el3]:=I3.ly.ob
 have b1:∀ k:Nat,[V.int _,V.int _]=U7 X (0,k):=λk=>by
  rfl
 have b3:∀ k:Nat,[V.int _,V.int _]=U7 X (3,k):=λk=>rfl;refine HC TS ho3 el3 (BY (by decide)) (OI  TL I3.ly λU ht2=>{by decide,λl1 DN=>?_})
 have j:=AL (o:=.lst [.ref O,.ref U]) DN
 have J:=AL (o:=.tup [.int (X.n+c/X.w),.int<|c%X.w]) ht2
 have n:=j _ _<|J _ _<|AE   
 have r:=j _ _<|AE  
 have Y:=s1.trans<|s2.trans<|(AL  D).trans (J.trans j)
 have b:upd (upd (upd H2 O<|.tup [.int (0+cell/X.w),.int<|cell%X.w]) U (.tup [.int (X.n+c/X.w),.int<|c%X.w])) l1 _ l1=some (.lst [.ref O,.ref U]):=AE;erw[Dh2_];revert n r Y b;intro n r Y b
 have I4:=I.same Y;let[d4,ho4]:=I4.ob;refine y2 {ho4,CC (by decide),x5 X cs _ M _ {rfl,g,I4,hr,λv H5 rv s5=>?_}};rw[e3]at rv;revert rv;apply u2;intro t u [rfl,et,eu];refine BV et  rfl rfl (.inr {{_,SqT.of eu},VR  (BT _ (by simp[AO];exact oA hps rfl)) (λi ys L=>Same H5 L/\∃ d:List _,ys=d.map V.ref/\Paired (λt p=>L t=some (.tup<|U7 X p)) d ((ps.take i).map λp=>(4,p))) {Same.refl _,[],rfl,.nil} (λi ys L y ⟨s,_⟩=>SqT.of<|s _ _ eu) (λi x ys L hx hyl w=>?_) (λys L hyl w lc hlc=>?_)});let[s,d,ey,P]:=w;unfold AO at hx;rw[ψ,af]at hx
 have I6:=(I4.same s5).same s;let[p,hp,rfl]:=hx;let[d6,ho6]:=I6.ob;let[dl6,el6]:=I6.ly.ob;erw[C1];refine HC TS ho6 el6 (BY (by decide)) (Hh  TL I6.ly λt ht=>{s.trans<|AL ht,d++[t],by rw[ey,aw];rfl,?_});rw[cv,hp,aw];exact Paired.snoc (Paired.mapP P λt p h=>AL ht _ _ h) AE;let[s,d,ey,P]:=w;rw[ey]
 have s6:=AL (o:=.lst<|d.map V.ref) hlc
 have hts:d.length<=100:=by
  have:=P.length;rw[ε,di]at this
  lia
 refine .inl (x4 l1 lc _ _ {rfl,rfl,s6 _ _<|s _ _<|s5 _ _ b,AE,by rw[fi];simp;lia,λl hl=>?_})
 have s7:=s6.trans<|AL (o:=.lst<|[V.ref O,V.ref U]++d.map V.ref) hl
 have A:=s5.trans<|s.trans s7;refine q l _ _ (Y.trans A) AE (.cons ?_<|.cons ?_ ?_);exact A _ _ n;exact A _ _ r
 have P':=Paired.mapP P λt p h=>s7 _ _ h;rw[eq (by simp[AO])]at P';exact P'
example:(zxg,N7,Dv,4):=by
 apply u5;intro X cs tks M z [rfl,U,I,q,qE];let[dx,w]:=I.ob
 have y:=U;let[T,TP,TL,TS]:=U;refine y2 {w,CC (by decide),y5 {rfl,TS,w,?_}};erw[Dv1_];refine y2 {w,CC (by decide),x5 X cs _ M z {rfl,y,I,λcell b e Y hm=>?_,qE}};let[hr,m,ps,e3,A,SH,q]:=q _ _ e Y hm;refine{hr,x2 m ps {e3,A,SH,λl ts H1 B el P=>(.inl {{_,SqL.of el},?_})}}
 have I1:=I.same B
 have j:ts.length<=102:=by
  have:=P.length;unfold FW at this;simp at this
  lia
 have on:∀ p∈FW cell b ps,p.1<5/\p.2<BO _ _ _ _ p.1:=λp g=>by
  let rfl||g:=aj.mp g
  exact{by show 0<5;decide,Y};let rfl||g:=aj.mp g
  exact{by show 3<5;decide,hr};let[k,hk,rfl]:=av.mp g;exact{by show 4<5;decide,SH k hk}
 refine XM  (BT _ (by rw[ε];exact oA j rfl)) (λi ys n=>Same H1 n/\ys=((FW cell b ps).take i).map λp=>US<|D5 cs (BI X.n X.r X.c X.w p.1 p.2) (p.2%X.w:Nat)) {Same.refl _,rfl} (λi ys n _ ⟨d,_⟩=>SqL.of<|d _ _ el) (λi x ys n s D c=>?_) (λys n D c lc J=>?_);let[d,u]:=c;rw[ψ,af]at s
 have N:=I1.same d;let[t,ht,rfl]:=s;let[p,g,e1]:=cN P ht;let[o1,o2]:=on p<|ι g;let[db,eb]:=N.bk.bk.ob;refine y2 {eb,DA (by decide),x9 _ _ _ _ cs _ t _ _ {rfl,T,TP,N.bk,d _ _ e1,λ_=>{d,?_},λz=>absurd (N.onPl o1 o2) z}};rw[cv,g,aw,u]
 rfl;let[d,u]:=c
 have e6:upd n lc _ lc=some (.lst ys):=AE;erw[Dv2_];refine .inl {{_,SqL.of e6},XW (λv=>match v with|.non=>false|_=>true) (BT _ (by simp at *;lia)) (SqL.of e6) (λv hv QB r=>?_) λl2 DF=>?_};rw[u]at hv;let[p,_,rfl]:=av.mp hv;revert r;cases D5 cs _ _ with
 |none=>intro r;exact r
 |some k=>intro r;exact r
 have ef:ys.filter (λv=>match v with|.non=>false|_=>true)=(LT X cs<|FW cell b ps).map V.int:=by
  rw[u,eq (by rw[ε];exact a_ P.length.symm)];unfold LT;generalize FW _ _ ps=L
  induction L with
  |nil=>rfl
  |cons p L ih =>
   rw[cg,q_];cases D5 cs _ _ with
   |none=>exact ih
   |some k=>exact congrArg _ ih
 have O:=(AL  J).trans (AL (o:=.lst<|(LT X cs<|FW cell b ps).map V.int) DF);rw[ef]
 have ln:(LT X cs<|FW cell b ps).length<=200:=by
  refine χ (gy _ _) ?_;exact oA (χ (a_ P.length.symm) j) rfl
 refine x8 _ _ _ _ cs _ l2 _ {rfl,T,(I1.same<|d.trans O).bk,SqL.of AE,by omega,λ_ l' row R H8 c1 c2 c3 c4 s8 e8=>q l' _ R H8 c1 c2 c3 ((B.trans<|d.trans O).free c4) (B.trans<|(d.trans O).trans s8) e8,λc=>?_};let[x,s,nx]:=c;exfalso;let[p,_,ex]:=jc.mp s;let[k,ek,rfl]:=af.mp ex;exact nx {i0,c_.mpr<|NY ek}
def EM{c A B:Prop}[Decidable c](h:c)(x:A):if c then A else B:=by rw[if_pos h];exact x
def DW{c A B:Prop}[Decidable c](h:¬ c)(x:B):if c then A else B:=by rw[if_neg h];exact x
def zxh{α :Type}{l:List (Option α)}{k:Nat}{c: α}(h:AY l k=some c):some c∈l:=by
 unfold AY at h;cases e:l[k]? with
 |none=>rw[e]at h;cases h
 |some y =>
  rw[e]at h;exact h ▸ ι e
def FindsL.on{b:Hp}{l:Addr}{fs:aC}(h:FindsL H l fs)(c:∀ o,H l=some o->b l=some o)(tk:EA H b):FindsL b l fs:=by
 let[ps,e,P]:=h;exact{ps,c _ e,Paired.mapP P λp f e=>tk _ _ e}
def NmV.keep(k:EA H b)(h:NmV H v c):NmV b v c:=by
 cases c with
 |none=>exact h
 |some c=>let[p,e,h1]:=h;exact{p,e,k _ _ h1}
def RcV.keep(k:EA H b)(h:RcV H v c):RcV b v c:=by
 cases c with
 |none=>exact h
 |some c=>revert h;apply u2;intro p q [e,h1,h2];exact x2 p q {e,k _ _ h1,k _ _ h2}
def PcV.keep(_:EA H b)(h:PcV H v c):PcV b v c:=by
 cases c<;>exact h
def MkV.keep(_:EA H b)(h:MkV H v c):MkV b v c:=by
 cases c<;>exact h
def LstAt.keep{α :Type}{R:Hp->V-> α ->Prop}{b:Hp}{p:Addr}{cs:List α}(h:LstAt R H p cs)(d:∀ v c,R H v c->R b v c)(g:∀ o,H p=some o->b p=some o):LstAt R b p cs:=by
 let[vs,e,P]:=h;exact{vs,g _ e,Paired.mapP P λv c=>d v c}
def FindsL.same(h:FindsL H l fs)(s:Same H b):FindsL b l fs:=by
 let[ps,e,P]:=h;exact{ps,s _ _ e,Paired.mapP P λp f e=>s _ _ e}
def ViewAt.same{b:Hp}{x:Addr}{A:VA}{d:Vw}(h:ViewAt a H x A d)(s:Same H b):ViewAt a b x A d:=by
 let[[g,e],h1,h2,h3,h4,h5,h6,h7,h8,ok]:=h;exact{{g,s _ _ e},h1.keep (λv c=>NmV.keep s.tk) (λo=>s _ _),h2.keep (λv c=>RcV.keep s.tk) (λo=>s _ _),h3.keep (λv c=>PcV.keep s.tk) (λo=>s _ _),h4.keep (λv c=>MkV.keep s.tk) (λo=>s _ _),h5.keep (λv c=>MkV.keep s.tk) (λo=>s _ _),s _ _ h6,s _ _ h7,s _ _ h8,ok}
def LstAt.at{α :Type}{R:Hp->V->Option α ->Prop}{p:Addr}{cs:List (Option α)}{k:Nat}(h:LstAt R H p cs)(b:k<cs.length):∃ vs v,H p=some (.lst vs)/\vs.length=cs.length/\vs[k]? =some v/\R H v (AY cs k):=by
 let[vs,e,P]:=h;let[v,c,d]:=JC P<|θ b;refine x2 vs v {e,P.length,c,?_};unfold AY;rw[θ b];exact d
def VS{l:wD}{k:Nat}{m:Nat}(h:l[k]? =some m):(AO l)[k]? =some (.int m):=by
 unfold AO;rw[ψ,h]
 rfl
def OL{n k:Nat}{f:Nat->Nat}(h:k<n):((τ n).map f)[k]? =some (f k):=by
 rw[ψ,vp h]
 rfl
def RX{p:Addr}{n k:Nat}{f:Nat->Nat}{Q:VK}(h:H p=some (.lst<|AO<|(τ n).map f))(b:k<n)(q:Q (.int<|f k) H):B8 K (.ref p) (.int k) H Q :=
 CH (SqL.of h)  rfl (VS<|OL b) q
def zxi:(vf A).lookup ("name_values":Str)=some (V.ref A.n):=by simp[vf]
def VT:(vf A).lookup ("record_values":Str)=some (V.ref A.r):=by
 simp[vf,ao,BD (a:="record_values") (b:="name_values") (by decide)]
def zxj:(vf A).lookup ("piece_values":Str)=some (V.ref A.p):=by
 simp[vf,ao,BD (a:="piece_values") (b:="name_values") (by decide),BD (a:="piece_values") (b:="record_values") (by decide)]
def Hq{A:VA}:(vf A).lookup ("record_marks":Str)=some (V.ref A.rm):=by
 simp[vf,ao,BD (a:="record_marks") (b:="name_values") (by decide),BD (a:="record_marks") (b:="record_values") (by decide),BD (a:="record_marks") (b:="piece_values") (by decide)]
def Hv{A:VA}:(vf A).lookup ("piece_marks":Str)=some (V.ref A.pm):=by
 simp[vf,ao,BD (a:="piece_marks") (b:="name_values") (by decide),BD (a:="piece_marks") (b:="record_values") (by decide),BD (a:="piece_marks") (b:="piece_values") (by decide),BD (a:="piece_marks") (b:="record_marks") (by decide)]
def cO{A:VA}:(vf A).lookup ("leads":Str)=some (V.ref A.ld):=by
 simp[vf,ao,BD (a:="leads") (b:="name_values") (by decide),BD (a:="leads") (b:="record_values") (by decide),BD (a:="leads") (b:="piece_values") (by decide),BD (a:="leads") (b:="record_marks") (by decide),BD (a:="leads") (b:="piece_marks") (by decide)]
def Hw{A:VA}:(vf A).lookup ("namings":Str)=some (V.ref A.ng):=by
 simp[vf,ao,BD (a:="namings") (b:="name_values") (by decide),BD (a:="namings") (b:="record_values") (by decide),BD (a:="namings") (b:="piece_values") (by decide),BD (a:="namings") (b:="record_marks") (by decide),BD (a:="namings") (b:="piece_marks") (by decide),BD (a:="namings") (b:="leads") (by decide)]
def zxk:(vf A).lookup ("reached":Str)=some (V.ref A.rh):=by
 simp[vf,ao,BD (a:="reached") (b:="name_values") (by decide),BD (a:="reached") (b:="record_values") (by decide),BD (a:="reached") (b:="piece_values") (by decide),BD (a:="reached") (b:="record_marks") (by decide),BD (a:="reached") (b:="piece_marks") (by decide),BD (a:="reached") (b:="leads") (by decide),BD (a:="reached") (b:="namings") (by decide)]
def M5{A:VA}{x:Str}(h:(D2 x "name_values" || D2 x "record_values" || D2 x "piece_values" || D2 x "record_marks" || D2 x "piece_marks" || D2 x "leads" || D2 x "namings" || D2 x "reached")=false):(vf A).lookup x=none:=by
 simp only[fj]at h;let[[[[[[[h1,h2],h3],h4],h5],h6],h7],h8]:=h;simp[vf,ao,BD h1,BD h2,BD h3,BD h4,BD h5,BD h6,BD h7,BD h8]
section
variable{tt:TT}{te:TE}{BB:wD}{σ:St}
def HW{c b:Hp}{l:Addr}{o:HO}(s:Same c b)(h:b l=none):Same c (upd b l o):=s.trans<|AL h
def FnW(H:Hp)(is:wD)(p:zC)(f:cC)(i:Nat)(ys:vE)(b:Hp):Prop:=Same H b/\∃ ps:xC,ys=ps.map V.ref/\Paired (λq g=>b q=some (.tup g)) ps (((is.take i).filter p).map f)
def JO{α :Type}{l:List α}{i:Nat}{x: α}(h:l[i]? =some x):l.take (i+1)=l.take i++[x]:=by
 let[g1,g2]:=ζ.mp h;rw[<-g2,lg]
def FnW.yes{p:zC}{f:cC}(h:FnW H is p f i ys b)(d:is[i]? =some k)(j:p k=true)(c:b t=none):FnW H is p f (i+1) (ys++[.ref t]) (upd b t<|.tup<|f k):=by
 let[s,ps,e,P]:=h;refine{HW s c,ps++[t],by rw[e,aw];rfl,?_};rw[JO d,mw,aw]
 have:([k].filter p).map f=[f k]:=by simp[j]
 rw[this];exact Paired.snoc (Paired.mapP P λq g e=>AL c _ _ e) AE
def FnW.no{is:wD}{p:zC}{f:cC}{i k:Nat}{ys:vE}{b:Hp}(h:FnW H is p f i ys b)(c:is[i]? =some k)(d:p k=false):FnW H is p f (i+1) ys b:=by
 let[s,ps,e,P]:=h;refine{s,ps,e,?_}
 have:([k].filter p).map f=[]:=by simp[d]
 rw[JO c,mw,aw,this,iu];exact P
def FnW.len{is:wD}{p:zC}{f:cC}{i:Nat}{ys:vE}{b:Hp}(h:FnW H is p f i ys b):ys.length<=i:=by
 let[s,ps,e,P]:=h;rw[e,ε,P.length,ε];exact χ (cu ..) (by rw[di];lia)
def FnW.fin{is:wD}{p:zC}{f:cC}{ys:vE}{b:Hp}{l:Addr}(h:FnW H is p f is.length ys b)(c:b l=none):H l=none/\Same H (upd b l<|.lst ys)/\FindsL (upd b l<|.lst ys) l ((is.filter p).map f):=by
 let[s,ps,rfl,P]:=h;rw[b_]at P;exact{s.free c,HW s c,ps,AE,Paired.mapP P λq g e=>AL c _ _ e}
def M6{b:Addr}{is:wD}(p:zC)(f:cC)(v:H b=some (.lst<|AO is))(w:is.length<=1000)
  (y:∀ k∈is,∀ c,Same H c->∀ n:Bool->Hp->Prop,n (p k) c->tt (some (.int (k:Int))::C1 BB σ) c n)
  (he:∀ k∈is,p k=true->∀ c (r:VK),Same H c->(∀ t,c t=none->r (.ref t) (upd c t<|.tup<|f k))->te (some (.int (k:Int))::C1 BB σ) c r) (hd:newF ((is.filter p).map f) H Q):EH (GH K b) (AG 0) tt te 1 BB σ H Q:=by
 have g:∀ {i:Nat} {x:V},(AO is)[i]? =some x->∃ k,is[i]? =some k/\x=.int k:=λe=>by
  unfold AO at e;rw[ψ,af]at e;let[k,h1,h2]:=e;exact⟨k,h1,h2.symm⟩
 have s:(AO is).length=is.length:=by simp[AO]
 refine rJ  (λi=>match is[i]? with
  |some k=>p k
  |none=>false) (BT _<|oA (χ (a_ s) w) rfl) (FnW H is p f) {Same.refl _,[],rfl,.nil} (λi ys c _ h=>{SqL.of<|h.1 _ _ v,h.len}) (λi x ys c l h n u=>?_) (λi x ys c l j h=>?_) (λi x ys c l j h=>?_) (λys c h q z=>?_)
 let[k,d,rfl]:=g l;simp only[d]at u;exact y k (ι d) c h.1 n u;let[k,d,rfl]:=g l;simp only[d]at j;exact he k (ι d) j c _ h.1 λt o=>h.yes d j o;let[k,d,rfl]:=g l;simp only[d]at j;exact h.no d j;rw[s]at h;let[h1,h2,h3]:=h.fin z;exact hd q _ h1 h2 h3
def RY{b:Addr}{xs:vE}(p:zC)(r:H b=some (.lst xs))(u:xs.length<=1000)
  (v:∀ i x,xs[i]? =some x->∀ c,Same H c->∀ d:Bool->Hp->Prop,d (p i) c->tt (some (.int (i:Int))::some x::C1 BB σ) c d) (hd:newL (AO<|(τ xs.length).filter p) H Q):EH (LD K b) (FM K 2<|DP (AG 0) (DP (AG 1) FL)) tt (EI 0) 2 BB σ H Q:=by
 refine X3  p (BT _<|oA u rfl) (λi ys c=>Same H c/\ys=AO ((τ i).filter p)) {Same.refl _,rfl} (λi ys c z ⟨s,e⟩=>{SqL.of<|s _ _ r,?_}) (λi ys c t o ⟨s,e⟩ h=>{HW s h,e}) (λi x ys c g ⟨s,e⟩ d w=>v i x g c s d w) (λi x ys c g j ⟨s,e⟩=>{s,by rw[e];unfold AO;rw[ca];simp[j]}) (λi x ys c g j ⟨s,e⟩=>{s,?_}) (λys c l q n=>?_);rw[e];unfold AO;rw[ε];exact χ (cu ..) (by rw[cr];exact ο _);rw[e];rw[ca];simp[j];let[s,rfl]:=l;exact hd q _ (s.free n) (HW s n) AE
end
def cP(h:RcV H v c):decide (v=.non)=c.isNone:=by
 cases c with
 |none=>rw[h];rfl
 |some c=>revert h;apply u2;intro p q [rfl,z];rfl
def zxl{v:V}{c:N8}(h:NmV H v c):decide (v=.non)=c.isNone:=by
 cases c with
 |none=>rw[h];rfl
 |some c=>let[p,rfl,z]:=h;rfl
def zxm(h:PcV H v c):decide (v=.non)=c.isNone:=by
 cases c with
 |none=>rw[h];rfl
 |some c=>rw[h];rfl
example:(zxn,VB,tF,2):=by
 apply u5;intro x A d r c [rfl,T,I,b,q];let[o,e]:=I.ob
 have j:r<d.rc.length:=by
  unfold AY at b;cases g:d.rc[r]? with
  |none=>rw[g]at b;cases b
  |some _=>exact(ζ.mp g).1
 refine u2 ?_<|I.r.at j;intro us v [l,s,n,i];rw[b]at i;revert i;apply u2;intro p u [rfl,h1,h2];exact y3 {e,T.cl,T.n2,_,VT,CH (SqL.of l)  rfl n (BV h1  rfl rfl q)}
example:(zxo,U9,tD,1):=by
 apply u3;intro x A l [rfl,T,I,q];let[u,e]:=I.ob;let[us,c,P]:=I.r
 have d:=P.length;refine y3 {e,T.cl,T.n2,_,VT,{_,SqL.of c},RY (λr=>(AY l.rc r).isSome) c (oA (χ (a_ d) I.ok.br) rfl) (λi v g w s y n=>?_) ?_};refine u2 ?_<|I.r.at  (d ▸ ((ζ.mp g).1));intro o B [b,z,j,p];rw[c]at b;cases b;rw[g]at j;obtain rfl:=μ j;erw[];rw[cP p];simpa using n;rw[d];exact q
def cQ(n:Nat):decide ((0:Int)<(n:Int))=decide (0<n):=by simp
def zxp(n:Nat):decide ((1:Int)<(n:Int))=decide (1<n):=by
 lia
def zxq(n:Nat):decide ((n:Int)=(0:Int))=decide (n=0):=by simp
def HX(l:wD):(AO l).length=l.length:=by simp[AO]
def M8(n:Nat)(f:Nat->Nat):((τ n).map f).length=n:=by simp
example:(zxr,RJ,tE,1):=by
 apply u3;intro x A g [rfl,T,I,q];let[l,e]:=I.ob
 have c:=I.ng;refine y3 {e,T.cl,T.n7,_,Hw,{_,SqL.of c},RY (λp=>decide<|0<E9 g p) c (by rw[HX,M8];exact oA I.ok.bp rfl) (λi v b n s o j=>?_) ?_}
 have d:=(ζ.mp b).1;rw[HX,M8]at d;rw[VS (OL d)]at b;obtain rfl:=μ b;erw[];rw[cQ];exact j;rw[HX,M8];exact q
example:(zxs,ZM,sZ,1):=by
 apply u4;intro x ar al g [rfl,T,[dx,fs,e,M],[N,O,I,l2],J,y,U,q];rw[e]at I
 have A:=J;cases I;let[us,B,P]:=J
 have w:=P.length;refine y3 {e,T.cl,T.n2,_,M,{_,SqL.of B},(X3  (λr=>decide<|0<led g r) (BT _<|oA (χ (a_ w) U) rfl) (λi ys j=>Same H j/\Paired (RcV j) ys (((τ i).filter λr=>decide<|0<led g r).map (AY g.rc))) {Same.refl _,.nil} (λi ys j z ⟨s,e⟩=>{SqL.of<|s _ _ B,?_}) (λi ys j t o ⟨s,d⟩ h=>{HW s h,Paired.mapP d λv c=>RcV.keep (AL h).tk}) (λi v ys j n b QB Y=>?_) (λi v ys j n l b=>?_) (λi v ys j n l ⟨s,d⟩=>{s,?_}) (λys j b p l=>?_))};rw[e.length,ε];exact χ (cu ..) (by rw[cr];exact ο _);let[s,d]:=b;refine y3 {s _ _ e,T.cl,T.n6,_,l2,RX (s _ _ y) (w ▸ ((ζ.mp n).1)) ?_};erw[];rw[cQ];exact Y;let[s,d]:=b;refine u2 ?_<|A.at  (w ▸ ((ζ.mp n).1));intro us' v' [u,z,L,D];rw[B]at u;cases u;rw[n]at L;obtain rfl:=μ L;refine{s,?_};rw[ca,mw,aw]
 have:(([i].filter λr=>decide<|0<led g r).map (AY g.rc))=[AY g.rc i]:=by simp[l]
 rw[this];exact Paired.snoc d<|RcV.keep s.tk D;rw[ca,mw,aw]
 have:(([i].filter λr=>decide<|0<led g r).map (AY g.rc))=[]:=by simp[l]
 rw[this,iu];exact d;let[s,d]:=b;rw[w]at d;exact q p _ (s.free l) (HW s l) {ys,AE,Paired.mapP d λv c=>RcV.keep (AL l).tk}
def Hx(h:MkV b v c)(q:Q (.bl<|decide<|c=some 1) H):CG K v (.int 1) H Q:=by
 cases c with
 |none=>rw[h];exact q
 |some j=>rw[h];show Q _ _;simpa using q
def Hy{b:Hp}{v:V}{c:Option Int}{Q:VK}(h:MkV b v c)(q:Q (.bl<|!decide (c=some 1)) H):DL K v (.int 1) H Q:=by
 cases c with
 |none=>rw[h];exact q
 |some j=>rw[h];show Q _ _;simpa using q
def KS{n:Nat}{p q r:zC}{f:cC}(h:∀ k,k<n->(p k&&q k)=r k):(((τ n).filter p).filter q).map f=DM n r f:=by
 rw[Ci]
 congr 1
 refine ug λk b=>?_;rw[Bool.and_comm];exact h k<|ak.mp b
def L4{n:Nat}{p:zC}(h:n<=100):((τ n).filter p).length<=1000:=χ (cu ..) (by rw[cr];exact oA h rfl)
def L5{n k:Nat}{p:zC}(h:k∈(τ n).filter p):k<n/\p k=true:=by
 let[h1,h2]:=de.mp h;exact{ak.mp h1,h2}
def newF.of{fs:aC}{b:Hp}(q:newF fs H Q)(s:Same H b):newF fs b Q:=λl c d e F=>q l c (s.free d) (s.trans e) F
def newL.of{xs:vE}{b:Hp}(q:newL xs H Q)(s:Same H b):newL xs b Q:=λl c d e F=>q l c (s.free d) (s.trans e) F
example:(zxt,ZR,aE,2):=by
 apply u3;intro x A n [rfl,T,I,q];let[O,e]:=I.ob
 have D:=I.ok.bp;let[us,d,P]:=I.pm
 have l2:=I.ok.l2
 have o:=P.length;erw[aE,aE0_];refine y3 {e,T.cl,T.n5,_,Hv,{_,SqL.of d},RY (λp=>decide<|AY n.pm p=some 1) d (by lia) (λi v r u s J g=>?_) λl U Y w j=>?_};refine u2 ?_<|I.pm.at  (o ▸ ((ζ.mp r).1));intro L v' [b,z,y,M];rw[d]at b;cases b;rw[r]at y;obtain rfl:=μ y;erw[];exact Hx M g;rw[o,l2]at j;refine .inl {{_,SqL.of j},M6 (λp=>decide<|HR n p=0) (λp=>[.str "left",.str "piece",.int p]) j (L4 D) (λk c u s J g=>?_) (λk c hp u Q' s N=>?_) ?_};let[c,z]:=L5 c
 have B:=w.trans s;refine y3 {B _ _ e,T.cl,T.n8,_,zxk,RX (B _ _ I.rh) c ?_};erw[];rw[zxq];exact g;erw[];exact{by decide,N};rw[KS λk z=>rfl];exact q.of w
example:(zxu,ZS,aF,2):=by
 apply u3;intro x A w [rfl,T,I,q];let[Y,e]:=I.ob
 have M:=I.ok.br;let[us,g,P]:=I.rm
 have l2:=I.ok.l1
 have y:=P.length;erw[aF,aF0_];refine y3 {e,T.cl,T.n4,_,Hq,{_,SqL.of g},RY (λp=>decide<|AY w.rm p=some 1) g (by lia) (λi v B D s N j=>?_) λl H1 DN J n=>?_};refine u2 ?_<|I.rm.at  (y ▸ ((ζ.mp B).1));intro o O [b,z,c,u];rw[g]at b;cases b;rw[B]at c;obtain rfl:=μ c;erw[];exact Hx u j;rw[y,l2]at n;refine .inl {{_,SqL.of n},M6 (λr=>(AY w.rc r).isNone) (λr=>[.str "marked",.int r]) n (L4 M) (λk d D s N j=>?_) (λk d hp D Q' s U=>?_) ?_};let[d,z]:=L5 d
 have L:=J.trans s;refine u2 ?_<|(I.same L).r.at d;intro o O [b,z,c,u];refine y3 {L _ _ e,T.cl,T.n2,_,VT,CH (SqL.of b)  rfl c ?_};erw[];rw[cP u];exact j;erw[];exact{by decide,U};rw[KS λk z=>rfl];exact q.of J
def OM{α b :Type}{F: α -> b ->Prop}:∀ {l c:List α} {m d:List b},Paired F l m->Paired F c d->Paired F (l++c) (m++d):=λh h'=>by
 induction h with
 |nil=>exact h'
 |cons x r e=>exact .cons x e
def DX{n:Nat}{p:zC}{f:cC}(h:n<=100):(DM n p f).length<=100:=by
 unfold DM;rw[ε];exact χ (cu ..) (by rw[cr];exact h)
def JP{b l2:Addr}{f1 f2:aC}{Q:VK}(h1:FindsL H b f1)(h2:FindsL H l2 f2)(i:f1.length+f2.length<=10000)(q:newF (f1++f2) H Q):BE K (.ref b) (.ref l2) H Q:=by
 let[n,j,d]:=h2;let[o,l,g]:=h1;exact .inl (x4 b l2 _ _ {rfl,rfl,l,j,BT _ (by rw[ε,ε,g.length,d.length];exact oA i rfl),λp c=>(q p _ c (AL c) {_,by rw[AE,aw],Paired.mapP (OM g d) λx f e=>AL c _ _ e})})
def VU(ok:EK b):(RF b).length<=200/\(RG b).length<=300/\(RH b).length<=200/\(N9 b).length<=200/\(OA b).length<=100/\(OB b).length<=100:=by
 unfold RF RG RH N9 OA OB;simp only[ae];exact{uh (DX ok.bn) (DX ok.bn),uh (uh (DX ok.bp) (DX ok.bp)) (DX ok.br),uh (DX ok.br) (DX ok.bp),uh (DX ok.br) (DX ok.br),DX ok.bp,DX ok.br}
example:(zxv,VC,yM,1):=by
 apply u3;intro x A b [rfl,T,I,q];let[o,p,r,z]:=VU I.ok;exact x3 x A b {rfl,T,I,λs u h1 c i=>x3 x A b {rfl,T,I.same c,λl2 v h2 d j=>JP (i.same d) j (by lia) λw y h3 e l=>x3 x A b {rfl,T,I.same<|(c.trans d).trans e,λB D h4 g n=>JP (l.same g) n (by simp only[ae];lia) (q.of<|((c.trans d).trans e).trans g)}}}
example:(zxw,ZT,yN,1):=by
 apply u3;intro x A b [rfl,T,I,q];let[z,z,z,o,p,r]:=VU I.ok;exact x3 x A b {rfl,T,I,λs u h1 c i=>x3 x A b {rfl,T,I.same c,λl2 v h2 d j=>JP (i.same d) j (by lia) λw y h3 e l=>x3 x A b {rfl,T,I.same<|(c.trans d).trans e,λB D h4 g n=>JP (l.same g) n (by simp only[ae];lia) (q.of<|((c.trans d).trans e).trans g)}}}
example:(zxx,ZP,aV,4):=by
 apply u3;intro x A c [rfl,T,I,q];let[dx,e]:=I.ob
 have o:=I.ok.br
 have O:=I.ok.bp;erw[aV,aV0_];refine y3 {e,T.cl,T.n6,_,cO,{_,SqL.of I.ld},RY (λp=>decide<|0<led c p) I.ld (by rw[HX,M8];exact oA o rfl) (λi v u n s U g=>?_) λl H1 DN w y=>?_}
 have Y:=(ζ.mp u).1;rw[HX,M8]at Y;rw[VS (OL Y)]at u;obtain rfl:=μ u;erw[];rw[cQ];exact g;rw[HX,M8]at y;erw[aV1_];refine .inl {{_,SqL.of y},M6 (λr=> !decide (AY c.rm r=some 1)) (λr=>[.str "free",.str "record",.int r]) y (L4 o) (λk b n s U g=>?_) (λk b hp n Q' s B=>?_) ?_};let[b,z]:=L5 b
 have s':=w.trans s;refine u2 ?_ ((I.same s').rm.at  (by rw[I.ok.l1];exact b));intro D v' [d,z,J,L];erw[C1];exact y3 {s' _ _ e,T.cl,T.n4,_,Hq,CH (SqL.of d)  rfl J (Hy L g)};erw[];exact{by decide,B};rw[KS λk z=>rfl];intro l2 H2 DF s2 F2
 have M:=I.same<|w.trans s2;let[dx2,e2]:=M.ob;erw[aV2_];refine y2 {e2,M5 (by decide),x3 x A c {rfl,T,M,λl3 H3 hl3 N j=>(.inl {{_,SqL.of j},M6 (λp=> !decide (AY c.pm p=some 1)) (λp=>[.str "free",.str "piece",.int p]) j (L4 O) (λk b n s U g=>?_) (λk b hp n Q' s B=>?_) ?_})}};let[b,z]:=L5 b
 have I':=(M.same N).same s;let[dx',e']:=I'.ob;refine u2 ?_ (I'.pm.at  (by rw[I.ok.l2];exact b));intro D v' [d,z,J,L];erw[C1];exact y3 {e',T.cl,T.n5,_,Hv,CH (SqL.of d)  rfl J (Hy L g)};erw[];exact{by decide,B};rw[KS λk z=>rfl];intro l4 H4 hl4 s4 F4
 have n2:=DX (p:=λp=>decide (0<E9 c p) && !decide (AY c.pm p=some 1)) (f:=λp=>[.str "free",.str "piece",.int p]) O
 have n1:=DX (p:=λr=>decide (0<led c r) && !decide (AY c.rm r=some 1)) (f:=λr=>[.str "free",.str "record",.int r]) o;exact JP (F2.same<|N.trans s4) F4 (by omega) (q.of<|((w.trans s2).trans N).trans s4)
example:(zxy,ZO,aU,4):=by
 apply u3;intro x A b [rfl,T,I,q];let[dx,e]:=I.ob
 have U:=I.ok.br
 have B:=I.ok.bp;erw[aU,aU0_];refine y2 {e,M5 (by decide),x3 x A b {rfl,T,I,λl1 H1 DN J l=>(.inl {{_,SqL.of l},M6 (λp=>decide<|1<E9 b p) (λp=>[.str "shared",.int p]) l (L4 B) (λk d n s Y i=>?_) (λk d hp n Q' s o=>?_) ?_})}};let[d,z]:=L5 d
 have g:=(I.same J).same s;let[u,j]:=g.ob;refine y3 {j,T.cl,T.n7,_,Hw,RX g.ng d ?_};erw[];rw[zxp];exact i;erw[];exact{by decide,o};rw[KS (r:=λp=>decide<|1<E9 b p) λk z=>by
  by_cases h:1<E9 b k;simp[h];exact χ (by decide) h
  ·simp[h]]
 intro l2 H2 DF s2 F2
 have D:=I.same<|J.trans s2;let[dx2,e2]:=D.ob;erw[aU1_];refine y2 {e2,M5 (by decide),x3 x A b {rfl,T,D,λl3 H3 hl3 L v=>(.inl {{_,SqL.of v},M6 (λp=>(AY b.pc p).isNone) (λp=>[.str "empty",.int p]) v (L4 B) (λk d n s Y i=>?_) (λk d hp n Q' s o=>?_) ?_})}};let[d,z]:=L5 d
 have g:=(D.same L).same s;let[u,j]:=g.ob;refine u2 ?_<|g.p.at d;intro us' v' [M,z,ev,hr];refine y3 {j,T.cl,T.n3,_,zxj,CH (SqL.of M)  rfl ev ?_};erw[];rw[zxm hr];exact i;erw[];exact{by decide,o};rw[KS λk z=>rfl];intro l4 H4 hl4 s4 F4
 have N:=(D.same L).same s4;let[dx4,e4]:=N.ob;erw[aU2_];refine y2 {e4,M5 (by decide),x3 x A b {rfl,T,N,λl5 H5 hl5 O w=>(.inl {{_,SqL.of w},M6 (JN b) (λr=>[.str "few",.int r]) w (L4 U) (λk d n s Y i=>?_) (λk d hp n Q' s o=>?_) ?_})}};let[d,hs]:=L5 d
 have g:=(N.same O).same s;let[u,j]:=g.ob;let[c,hc]:=dg.mp hs;refine y2 {j,M5 (by decide),x5 x A b k c {rfl,T,g,hc,x3 _ _ _ {j,T.cl,T.n6,_,cO,RX g.ld d ?_}}};unfold JN at i;rw[hc]at i;exact i;erw[];exact{by decide,o};rw[KS (r:=JN b) λk z=>by
  unfold JN;cases AY _ k<;>simp]
 intro l6 H6 hl6 s6 F6
 have n2:=DX (p:=λp=>decide (0<E9 b p)&&(AY b.pc p).isNone) (f:=λp=>[.str "empty",.int p]) B
 have n1:=DX (p:=λp=>decide<|1<E9 b p) (f:=λp=>[.str "shared",.int p]) B
 have n3:=DX (p:=JN b) (f:=λr=>[.str "few",.int r]) U
 have y:=((L.trans s4).trans O).trans s6;exact JP (F2.same y) (F4.same<|O.trans s6) (by lia) λl7 H7 hl7 s7 F7=>JP F7 (F6.same s7) (by simp only[ae];lia) (q.of<|((J.trans s2).trans y).trans s7)
def TwoL(H:Hp)(b l2:Addr)(f1 f2:aC)(c:Hp):Prop:=SameBut (λy=>y=b\/y=l2) H c/\FindsL c b f1/\FindsL c l2 f2/\b≠l2
def TwoL.same(h:TwoL H b l2 f1 f2 c)(s:Same c d):TwoL H b l2 f1 f2 d:={h.1.trans s.sb,h.2.1.same s,h.2.2.1.same s,h.2.2.2}
def zxz(h:TwoL H c l2 f1 f2 b)(j:b t=some (.tup f)):TwoL H c l2 (f1++[f]) f2 (upd b c<|.lst<|((h.2.1).choose++[t]).map V.ref):=by
 let[s,d,[l,p,r],n]:=h
 have k:∀ {y:Addr} {g:vE},b y=some (.tup g)->upd b c (.lst<|(d.choose++[t]).map V.ref) y=some _:=λe=>by rw[AI (BJ e d.choose_spec.1 (by intro z;cases z))];exact e
 exact{λy o e i=>by rw[AI λz=>i<|.inl z];exact s _ _ e i,{_,AE,Paired.snoc (Paired.mapP d.choose_spec.2 λq g e=>k e) (k j)},{l,by rw[AI n.symm];exact p,Paired.mapP r λq g e=>k e},n}
def TwoL.flip{b l2:Addr}{f1 f2:aC}{c:Hp}(h:TwoL H b l2 f1 f2 c):TwoL H l2 b f2 f1 c:={h.1.wide λz=>Or.symm,h.2.2.1,h.2.1,h.2.2.2.symm}
def VW{b l2 t:Addr}{f1 f2:aC}{f:vE}{c:Hp}{Q:VK}(h:TwoL H b l2 f1 f2 c)(e:f1.length<=1000)(g:c t=some (.tup f))(q:∀ d,TwoL H b l2 (f1++[f]) f2 d->Q .non d):FS (.ref b) [.ref t] c Q:=by
 have:=q _<|zxz h g;refine{_,h.2.1.choose_spec.1,ω (show(h.2.1.choose.map _).length<10000 by rw[ε,h.2.1.choose_spec.2.length];exact oC e rfl) (by decide),?_};rw[aw]at this;exact this
def Hz:DM (n+1) p f=if p n=true then DM n p f++[f n]else DM n p f:=by
 unfold DM;rw[ca];split;rename_i h;simp[h];rename_i h;simp[h]
def HY(is:wD)(p:zC)(f:cC)(i:Nat):aC:=((is.take i).filter p).map f
def Jb{is:wD}{p:zC}{f:cC}{i k:Nat}(h:is[i]? =some k):HY is p f (i+1)=if p k=true then HY is p f i++[f k]else HY is p f i:=by
 unfold HY;rw[JO h];split;rename_i h;simp[h];rename_i h;simp[h]
def Jc{is:wD}{p:zC}{f:cC}{i:Nat}(h:is.length<=1000):(HY is p f i).length<=1000:=by
 unfold HY;rw[ε];exact χ (cu ..) (by rw[di];lia)
def ViewAt.two(I:ViewAt a b x A c)(d:Same b H)(g:b i=none)(j:b l2=none)(W:TwoL H i l2 f1 f2 l):ViewAt a l x A c :=
 I.same λy o e=>W.1 _ _ (d _ _ e) λz=>by
  let z||z:=z
  rw[z,g]at e;cases e;rw[z,j]at e;cases e
example:(zx0,ZQ,vV,5):=by
 apply u3;intro x A b [rfl,T,I,q]
 have O:=I.ok.br;refine{by decide,λn J=>{by decide,λl2 U=>?_}}
 have L:Same H (upd _ l2<|.lst []):=(AL J).trans (AL U)
 have s:=BK AE U
 have k1:FindsL (upd (upd H n<|.lst []) l2 (.lst [])) n []:={[],by rw[AI s,AE];rfl,.nil}
 have k2:FindsL (upd (upd H n<|.lst []) l2 (.lst [])) l2 []:={[],AE,.nil}
 have f2:=(AL J).free U;revert L k1 k2;generalize upd _ l2 _=H2;intro L k1 k2
 have I2:=I.same L;let[dx2,e2]:=I2.ob;refine y2 {e2,M5 (by decide),x3 x A b {rfl,T,I2,λl3 H3 w Y B=>(.inl {{_,SqL.of B},?_})}}
 have m1:n≠l3:=λz=>by
  let[ps,e,u]:=k1;rw[z,w]at e;cases e
 have m2:l2≠l3:=λz=>by
  let[ps,e,u]:=k2;rw[z,w]at e;cases e
 have GD:=L.trans Y
 let is:=(τ b.rc.length).filter λr=>(AY b.rc r).isSome
 have D:is.length<=1000:=L4 O;refine G2  (λi M N=>TwoL H3 n l2 (HY is (GU b) (λr=>[.str "many",.int r,.int<|led b r]) i) (HY is (λr=>decide<|led b r=0) (λr=>[.str "left",.str "record",.int r]) i) N/\∃ y3 y4,M=[some _,some _,some _,y3,y4]) {{SameBut.refl _,k1.same Y,k2.same Y,s},x2 _ _ rfl} (by intro i M N u [W,u];exact SqL.of<|W.1 _ _ B λz=>z.elim (λz=>m1 z.symm) λz=>m2 z.symm) (λi v M N hx d=>?_) (λM N d=>?_);let[W,y3,y4,g]:=d;subst g;unfold AO at hx;rw[ψ,af]at hx;let[k,j,rfl]:=hx;let[hk,hsm]:=L5<|ι j
 have I':=I.two GD J f2 W;let[dx',e']:=I'.ob;let[c,hc]:=dg.mp hsm;refine x3 _ _ _ {e',T.cl,T.n6,_,cO,RX I'.ld hk ?_}
 have im:GU b k=(decide (0<led b k)&&decide ((led b k)<c.1)):=by unfold GU;rw[hc]
 erw[vV6_];rw[Jb j,Jb j,im];by_cases h0:led b k=0;refine EM (congrArg _ h0) ?_;erw[vV3_];let[ps2,l,u]:=W.2.2.1;refine{.inl {rfl,_,SqL.of l},by decide,λt ht=>VW (W.same<|AL ht).flip (Jc D) AE λH4 W4=>?_};rw[decide_eq_false (h0.symm ▸ by decide),if_pos h0];exact W4.flip;refine DW (λz=>h0<|ce z) (y2 {e',M5 (by decide +kernel),x5 x A b k c {rfl,T,I',hc,?_}});erw[];by_cases h1:(led b k)<c.1;refine EM h1 ?_;erw[vV4_];let[ps2,l,u]:=W.2.1;refine{.inl {rfl,_,SqL.of l},by decide,λt ht=>VW (W.same<|AL ht) (Jc D) AE λH4 W4=>?_};rw[decide_eq_true (show 0<led b k by exact tm h0),decide_eq_true h1,if_neg h0];exact W4;refine DW h1 ?_;rw[decide_eq_false h1,Jo,if_neg h0];exact W;let[W,y3,y4,g]:=d;subst g;rw[HX]at W
 have g1:HY is (GU b) (λr=>[.str "many",.int r,.int<|led b r]) is.length=DM b.rc.length (GU b) (λr=>[.str "many",.int r,.int<|led b r]):=by
  unfold HY;rw[b_];exact KS λk u=>by
   unfold GU;cases AY _ k<;>simp
 have g2:HY is (λr=>decide<|led b r=0) (λr=>[.str "left",.str "record",.int r]) is.length=DM b.rc.length (λr=>(AY b.rc r).isSome&&decide (led b r=0)) (λr=>[.str "left",.str "record",.int r]):=by
  unfold HY;rw[b_];exact KS λk u=>rfl
 rw[g1,g2]at W
 have n1:=DX (p:=GU b) (f:=λr=>[.str "many",.int r,.int<|led b r]) O
 have n2:=DX (p:=λr=>(AY b.rc r).isSome&&decide (led b r=0)) (f:=λr=>[.str "left",.str "record",.int r]) O;exact JP W.2.1 W.2.2.1 (by lia) (q.of λy o e=>W.1 _ _ (GD _ _ e) λz=>by
  let z||z:=z
  rw[z,J]at e;cases e;rw[z,f2]at e;cases e)
def ON(b:Vw)(i:Nat)(s:Str):Bool:=(τ i).any λj=>match AY b.nm j with
  |none=>false
  |some d=>decide<|d.1=s
structure NmW(H3:Hp)(vw:Vw)(l1 l2 sn:Addr)(i:Nat)(lo tw:aC)(j:Nat)(H':Hp):Prop where
 s:SameBut (λy=>y=l1\/y=l2\/y=sn) H3 H'
 f1:FindsL H' l1 lo
 f2:FindsL H' l2 tw
 d:∃ kvs:yB,H' sn=some (.dK kvs)/\(∀ s:Str,(BG kvs<|.inr s).isSome=ON vw j s)/\kvs.length<=j
def NmW.two{g:Hp}{l:Vw}{d l2 sn:Addr}{i j:Nat}{lo p b c:aC}{n o:Hp}(h:NmW g l d l2 sn i lo p j n)(q:sn≠d)(u:sn≠l2)(W:TwoL n d l2 b c o):NmW g l d l2 sn i b c j o:=by
 let[kvs,e,r]:=h.d;exact{h.s.trans<|W.1.wide λy z=>z.elim .inl λz=>.inr<|.inl z,W.2.1,W.2.2.1,{_,W.1 _ _ e λz=>z.elim q u,r}}
def NmW.same{b:Hp}{c:Vw}{d l2 sn:Addr}{i j:Nat}{lo g:aC}{l n:Hp}(h:NmW b c d l2 sn i lo g j l)(s:Same l n):NmW b c d l2 sn i lo g j n:=by
 let[kvs,e,r]:=h.d;exact{h.s.trans s.sb,h.f1.same s,h.f2.same s,{_,s _ _ e,r}}
example:(zx1,ZN,tK,6):=by
  apply u3;intro x A b [rfl,T,I,q]
  have bn:=I.ok.bn;refine{by decide,λl DN=>{by decide,λl2 DF sn M=>?_}}
  have n12:=BK AE DF
  have s2:Same H (upd _ l2<|.lst []):=(AL DN).trans (AL DF)
  have k1:FindsL (upd (upd H l<|.lst []) l2 (.lst [])) l []:={[],by rw[AI n12,AE];rfl,.nil}
  have k2:FindsL (upd (upd H l<|.lst []) l2 (.lst [])) l2 []:={[],AE,.nil}
  have f2:=(AL DN).free DF;revert M s2 k1 k2;generalize upd _ l2 _=H2;intro M s2 k1 k2
  have fsn:=s2.free M;let[H3,zz0,s3,e3]:=EL  M;rw[zz0]
  have GD:=s2.trans s3
  have I3:=I.same GD;let[dx3,ob3]:=I3.ob;let[us,en,P]:=I3.n
  have hl:=P.length;refine y3 {ob3,T.cl,T.n1,_,zxi,{_,SqL.of en},?_}
  have m1:sn≠l:=λz=>by
    let[ps,e,_]:=k1;rw[<-z,M]at e;cases e
  have m2:sn≠l2:=λz=>by
    let[ps,e,_]:=k2;rw[<-z,M]at e;cases e
  have vi:∀ {w:Hp} {i j:Nat} {lo tw:List _},NmW H3 b l l2 sn i lo tw j w->ViewAt a w x A b:=λh=>I.same λy o e=>h.s _ _ (GD _ _ e) λz=>by
    let z||z||z:=z
    rw[z,DN]at e;cases e;rw[z,f2]at e;cases e;rw[z,fsn]at e;cases e
  have nA:A.n≠l/\A.n≠l2/\A.n≠sn:=by
    let[us',e0,_]:=I.n;exact{λz=>(by rw[z,DN]at e0;cases e0),λz=>(by rw[z,f2]at e0;cases e0),λz=>(by rw[z,fsn]at e0;cases e0)}
  let B:=λi=>DM i (HS b) (λk=>[.str "lost",.int k])
  let D:=λi=>DM i (IL b) (λk=>[.str "twice",.int k])
  refine XY  (λi N w=>NmW H3 b l l2 sn i (B i) (D i) i w/\∃ y4 y5,N=[some (.ref x),some<|.ref l,some<|.ref l2,some<|.ref sn,y4,y5]) {{SameBut.refl _,k1.same s3,k2.same s3,[],e3,λ_=>rfl,ο _},x2 _ _ rfl} (λi N w _ ⟨W,_⟩=>SqL.of<|W.s _ _ en λz=>z.elim nA.1 λz=>z.elim nA.2.1 nA.2.2) (λi v N w t hx hzz ht=>?_) (λN w hzz=>?_);let[W0,y4,y5,eσ]:=hzz;subst eσ
  have hi:=(ζ.mp hx).1;erw[];refine{_,SqT.of AE,rfl,?_}
  have W:=W0.same<|AL (o:=.tup [.int (i:Int),v]) ht;revert W;generalize upd w t (.tup [.int (i:Int),v])=H4;intro W
  have I4:=vi W;let[dx4,ob4]:=I4.ob;refine u2 ?_<|I4.n.at (k:=i) (hl ▸ hi);intro us' v' [e1',_,ev,hr];rw[W.s _ _ en (λz=>z.elim nA.1 λz=>z.elim nA.2.1 nA.2.2)]at e1';cases e1';rw[hx]at ev;have bi:i<=100:=by lia
  obtain rfl:=μ ev
  have hLO:B (i+1)=if HS b i=true then B i++[[.str "lost",.int i]]else B i:=Hz
  have hTW:D (i+1)=if IL b i=true then D i++[[.str "twice",.int i]]else D i:=Hz
  have n1:(B i).length<=100:=DX bi
  have n2:(D i).length<=100:=DX bi
  have sS:∀ s:Str,ON b (i+1) s=(ON b i s||match AY b.nm i with
    |none=>false
    |some d=>decide<|d.1=s):=λs=>by
    unfold ON;rw[ca,Ij];simp
  erw[tK8_];cases J:AY b.nm i with
  |none =>
    rw[J]at hr;refine DW (λz=>z hr) ?_
    have z1:HS b i=false:=by unfold HS;rw[J]
    have z2:IL b i=false:=by unfold IL;rw[J]
    rw[hLO,hTW,z1,z2,if_neg ay,if_neg ay];let[kvs,ek,hv,IS]:=W.d;exact{W.s,W.f1,W.f2,kvs,ek,λs=>by rw[hv,sS,J,rg],ck IS}
  | some c =>
    rw[J]at hr;let[p,rfl,hp]:=hr;refine EM (by simp) ?_
    have hm:some c∈b.nm:=by
      unfold AY at J;cases e2:b.nm[i]? with
      |none=>rw[e2]at J;cases J
      |some y =>
        rw[e2]at J
        have J:y=some c:=J;exact J ▸ ι e2
    have hcr:=(I.ok.n1 c hm).1
    have z1:HS b i=(AY b.rc c.2).isNone:=by unfold HS;rw[J]
    have z2:IL b i=ON b i c.1:=by unfold IL ON;simp only[J]<;>rfl
    have tail:∀ {H5:Hp},NmW H3 b l l2 sn i (B<|i+1) (D i) i H5->H5 p=some (.tup [.str c.1,.int c.2])->AH (tK6 K a (λ_=>E) (λ_=>E)) (tK7 K a (λ_=>E) (λ_=>E)) { nx:=λN w=>NmW H3 b l l2 sn (i+1) (B<|i+1) (D<|i+1) (i+1) w/\∃ y4 y5,N=[some (V.ref x),some<|V.ref l,some<|V.ref l2,some<|V.ref sn,y4,y5],rt:=Q,bk:=tK10 K a (λx=>E) (λx=>E) (AW Q),ct:=λN w=>NmW H3 b l l2 sn (i+1) (B<|i+1) (D<|i+1) (i+1) w/\∃ y4 y5,N=[some (V.ref x),some<|V.ref l,some<|V.ref l2,some<|V.ref sn,y4,y5] } [some (V.ref x),some<|V.ref l,some<|V.ref l2,some<|V.ref sn,some<|V.int ↑i,some<|V.ref p] H5:=λ{H5} W5 O=>by
      have last:∀ {Y:Hp},NmW H3 b l l2 sn i (B<|i+1) (D<|i+1) i Y->Y p=some (.tup [.str c.1,.int c.2])->tK7 K a (λ_=>E) (λ_=>E) { nx:=λN w=>NmW H3 b l l2 sn (i+1) (B<|i+1) (D<|i+1) (i+1) w/\∃ y4 y5,N=[some (V.ref x),some<|V.ref l,some<|V.ref l2,some<|V.ref sn,y4,y5],rt:=Q,bk:=tK10 K a (λx=>E) (λx=>E) (AW Q),ct:=λN w=>NmW H3 b l l2 sn (i+1) (B<|i+1) (D<|i+1) (i+1) w/\∃ y4 y5,N=[some (V.ref x),some<|V.ref l,some<|V.ref l2,some<|V.ref sn,y4,y5] } [some (V.ref x),some<|V.ref l,some<|V.ref l2,some<|V.ref sn,some<|V.int ↑i,some<|V.ref p] Y:=λ{Y} W6 hp6=>by
        let[kvs,ek,hv,IS]:=W6.d;erw[tK7_];refine BV hp6 (n:=0) rfl rfl {_,pS ek (by lia),?_}
        have s7:SameBut (· =sn) Y (upd Y sn<|.dK<|CD kvs (.inr c.1) (.bl true)):=λy o e ny=>by rw[AI ny];exact e
        let[q1,g1,P1]:=W6.f1;let[q2,g2,P2]:=W6.f2
        have kt:∀ {y:Addr} {g:vE},Y y=some (.tup g)->upd Y sn (.dK<|CD kvs (.inr c.1) (.bl true)) y=some (.tup g):=λe=>s7 _ _ e (BJ e ek (by intro z;cases z));refine{W6.s.trans<|s7.wide λy z=>.inr<|.inr z,{q1,s7 _ _ g1 m1.symm,Paired.mapP P1 λq g e=>kt e},{q2,s7 _ _ g2 m2.symm,Paired.mapP P2 λq g e=>kt e},_,AE,λs=>?_,?_}
        · rw[G1,sS,J,<-hv]
          by_cases z:s=c.1
          ·subst z;simp
          · rw[if_neg (by simpa using z)]
            have:decide (c.1=s)=false:=by simpa using λu=>z<|Ar u
            simp only[this,rg]
        · have:=HJ kvs (.inr c.1) (.bl true)
          lia
      let[kvs,ek,hv,IS]:=W5.d;erw[tK6_];refine BV O (n:=0) rfl rfl {_,dS ek,?_};rw[hv,<-z2];cases hz:IL b i with
      | true =>
        refine EM rfl ?_;erw[tK5_];let[ps2,ep2,_]:=W5.f2;refine{.inl {rfl,_,SqL.of ep2},by decide,λt2 U=>?_}
        have L:=W5.same<|AL (o:=.tup [V.str (η "twice"),V.int ↑i]) U;refine VW (H:=upd H5 t2<|.tup [V.str (η "twice"),V.int ↑i]) (l2:=l) (f2:=B<|i+1) {SameBut.refl _,L.f2,L.f1,n12.symm} (by lia) AE λY W6=>?_
        have W7:=L.two m1 m2 W6.flip;rw[show D i++[[V.str (η "twice"),V.int ↑i]]=D (i+1) by rw[hTW,hz,if_pos rfl]]at W7;exact last W7 (W6.1 _ _ (AL U _ _ O) λz=>by
          let z||z:=z
          · let[ps,e,_]:=W5.f2
            rw[<-z,O]at e;cases e
          · let[ps,e,_]:=W5.f1
            rw[<-z,O]at e;cases e)
      |false =>
        refine DW ay ?_;rw[show D i=D (i+1) by rw[hTW,hz,if_neg ay]]at W5;exact last W5 O
    refine u2 ?_<|I4.r.at hcr;intro us2 v2 [e2,_,ev2,SF];erw[tK4_];refine y3 {ob4,T.cl,T.n2,_,VT,BV hp (n:=1) rfl rfl (CH (SqL.of e2) (n:=c.2) rfl ev2 ?_)};erw[]
    have JX:=cP SF;by_cases hz:v2=.non
    · refine EM hz ?_
      have hz':HS b i=true:=by rw[z1,<-JX];simpa using hz
      erw[tK3_];let[ps2,ep2,_]:=W.f1;refine{.inl {rfl,_,SqL.of ep2},by decide,λt2 U=>?_}
      have L:=W.same<|AL (o:=.tup [V.str (η "lost"),V.int ↑i]) U;refine VW (H:=upd H4 t2<|.tup [V.str (η "lost"),V.int ↑i]) (l2:=l2) (f2:=D i) {SameBut.refl _,L.f1,L.f2,n12} (by lia) AE λY W6=>?_
      have W7:=L.two m1 m2 W6;rw[show B i++[[V.str (η "lost"),V.int ↑i]]=B (i+1) by rw[hLO,hz',if_pos rfl]]at W7;exact tail W7 (W6.1 _ _ (AL U _ _ hp) λz=>by
          let z||z:=z
          · let[ps,e,_]:=W.f1
            rw[<-z,hp]at e;cases e
          · let[ps,e,_]:=W.f2
            rw[<-z,hp]at e;cases e)
    · refine DW hz ?_
      have hz':HS b i=false:=by rw[z1,<-JX];simpa using hz
      rw[show B i=B (i+1) by rw[hLO,hz',if_neg ay]]at W;exact tail W hp
  let[W,y4,y5,eσ]:=hzz;subst eσ;rw[hl]at W;exact JP W.f1 W.f2 (by have:=DX (p:=HS b) (f:=λk=>[.str "lost",.int k]) bn;have:=DX (p:=IL b) (f:=λk=>[.str "twice",.int k]) bn;show(DM _ _ _).length+(DM _ _ _).length<=_;lia) (q.of λy o e=>W.s _ _ (GD _ _ e) λz=>by
    let z||z||z:=z
    ·rw[z,DN]at e;cases e
    ·rw[z,f2]at e;cases e
    ·rw[z,fsn]at e;cases e)
def zx2{n b:Nat}(h:b<n):HI n (b:Int)=some b:=by
 unfold HI;rw[if_pos (i0),if_pos<|c_.mpr h,ci]
def KU{α b :Type}{F: α -> b ->Prop}:∀ {l:List α} {m:List b} {i:Nat} {x: α},Paired F l m->l[i]? =some x->∃ y,m[i]? =some y/\F x y:=λh e=>WM h e
example:(zx3,LX,yO,2):=by
 apply u8;intro T U pl w rows m ts ps [rfl,TP,P,o,r,l,Y,q]
 have u:=r.length;refine .inl {{_,SqL.of o},qW  (BT _ (by rw[ε];exact oA (χ (a_ u) Y) rfl)) (λi b ys j=>Same H j/\ys=(ps.take i).map (λc=>LW rows c.1 c.2)/\∃ A B,b=[A,B,some _]) {Same.refl _,rfl,x2 _ _ rfl} (λi b ys j ⟨s,e,_⟩=>{SqL.of<|s _ _ o,by rw[e,ε,di];lia}) (λi x b ys j D I d=>?_) (λb ys j d p J=>?_)};let[s,e,A,B,n]:=d;subst n;rw[ε]at D;rw[ψ,af]at I;let[t,ht,rfl]:=I;let[c,g,et]:=KU r ht
 have hb:=l c<|ι g
 have L:=P.same s;let[dp,NB]:=L.ob;erw[];refine{_,SqT.of<|s _ _ et,rfl,y2 {rfl,y2 {rfl,rfl,({λy M=>Same H M/\y=LW rows c.1 c.2,λy M ⟨s4,ey⟩=>cnx (by rw[ε];exact D) {s4,?_},y2 {NB,OH _ _ _,x6 T U w _ m _ {rfl,TP,L,λb' row eb N l1 DN=>?_,λz=>by lia}}})}}};rw[ey,e,JO g,aw]
 rfl;obtain rfl:c.1=b':=ce eb
 have O:=θ   (ω hb.2<|a_ (P.wd _<|ι N).symm);refine CH (SqL.of AE)  rfl O {HW s DN,?_};unfold LW;rw[N]
 show _=(row[c.2]?).getD _;rw[O];rfl;let[s,e,v]:=d;rw[ε,u,b_]at e;subst e;exact q p _ (s.free J) (HW s J) AE
example:(zx4,RI,aG,4):=by
 apply u3;intro many nl J [rfl,g,w,L,M,q];erw[aG,aG0_]
 have N:(τ many).map (λx=>V.int 0)=AO ((τ many).map λk=>([]).count k):=by
  unfold AO;rw[jf]
  rfl
 refine{i0,by lia,zb3 (BT _<|oA L rfl) (λx=>V.int 0) (λj d T O=>O) λl A=>?_};rw[N]
 have r:=AL (o:=.lst<|AO<|(τ many).map λk=>([]).count k) A
 have B:upd H l _ l=some (.lst<|AO<|(τ many).map λk=>([]).count k):=AE;revert r B;refine λr B=>.inl {{_,SqL.of<|r _ _ g},G2  (λi u n=>(Same H n/\n l=some (.lst<|AO<|(τ _).map λk=>(J.take i).count k))/\∃ y,u=[some _,some _,some _,y]) {⟨r,B⟩,_,rfl} (by intro i u n x [[s,x],x];exact SqL.of<|s _ _ g) (λi v u n D b=>?_) (λu n b=>?_)};let[[s,e],y,c]:=b;subst c;unfold AO at D;rw[ψ,af]at D;let[k,p,rfl]:=D
 have I:=w k<|ι p;erw[aG1_];refine x2 _ k {rfl,SqL.of e,_,VS<|OL I,?_};erw[];refine x4 l _ _ k {rfl,rfl,e,zx2 (by rw[HX,M8];exact I),λy o e=>by rw[AI (BK e A)];exact s _ _ e,?_};rw[AE]
 congr 2
 unfold AO;refine xp λj=>?_;by_cases d:j<many;rw[ψ,OL d,JO p,List.count_append];by_cases z:k=j;subst z;rw[gk (by simpa using d)];simp;rw[ia z,ψ,OL d]
 have:List.count j [k]=0:=by simp[z]
 rw[this]
 rfl;rw[bu (by simp;exact cm d),bu (by simp;exact cm d)];let[[s,e],y,c]:=b;subst c;rw[HX,b_]at e;exact q l _ A s e
example:(zx5,U8,tR,3):=by
 apply u2;intro rl cs [rfl,[us,w,P],L,A,q]
 have M:=P.length;refine{by decide,λl b=>?_}
 have n:=AL (o:=.lst []) b
 have u:upd H l _ l=some (.lst<|AO<|E8 []):=AE;revert n u
 have N:∀ i,(E8<|cs.take i).length<=i * 20:=λi=>by
  induction i with
  |zero=>exact ο _
  | succ i B =>
   cases e:cs[i]? with
   |none =>
    rw[eq (ck<|xb.mp e)];rw[eq ((xb.mp e))]at B
    lia
   | some c =>
    rw[JO e];unfold E8 at B ⊢;rw[List.flatMap_append,ae]
    have:(List.flatMap LU [c]).length<=20:=by
     cases c with
     |none=>simp[LU]
     |some c =>
      simp[LU];exact A c<|ι e
    lia
 refine λn u=>.inl {{_,SqL.of<|n _ _ w},G2  (λi r j=>(Same H j/\j l=some (.lst<|AO<|E8<|cs.take i))/\∃ y,r=[some _,some _,y]) {⟨n,u⟩,_,rfl} (by intro i r j x [[s,x],x];exact SqL.of<|s _ _ w) (λi v r j D d=>?_) (λr j d=>?_)};let[[s,e],y,g]:=d;subst g;let[c,I,J]:=KU P D
 have O:=N i
 have T:E8 (cs.take<|i+1)=E8 (cs.take i)++LU c:=by
  rw[JO I];unfold E8;simp
 have U:=(ζ.mp D).1;rw[T];erw[tR2_];cases c with
 |none =>
  refine DW (λz=>z J) ?_;rw[show LU _=[]from rfl,iu];exact⟨s,e⟩
 |some c =>
  revert J;apply u2;intro p t [rfl,h1,h2]
  have Y:=A c<|ι I;erw[tR1_];refine{.inl {rfl,_,SqL.of e},BV (s _ _ h1)  rfl rfl (x4 l t _ _ {rfl,rfl,e,SqT.of<|s _ _ h2,BT _ (by rw[HX,HX];lia),{λy o e=>by rw[AI (BK e b)];exact s _ _ e,?_}})};rw[AE];unfold AO;rw[aw]
  rfl
 let[[s,e],y,g]:=d;subst g;rw[M,b_]at e;exact q l _ b s e
def HZ{α :Type}{l b:List α}{a k:Nat}(h:l.length=a):(l++b)[a+k]? =b[k]? :=by
 subst h;rw[cf (yh _ _),Nat.add_sub_cancel_left]
theorem VX:∀ {rows:aC} {b j:Nat},(∀ r∈rows,r.length=w)->b<rows.length->j<w->rows.flatten[b*w+j]? =(rows[b]?).bind (·[j]?)
 | [],b,j,_,c,_=>by simp at c
 |r::e,0,j,h,_,d=>by
  rw[vz,kq,ii,bc<|ω d<|a_ (h r υ).symm]
  rfl
 |r::e,b+1,j,h,c,d=>by
  rw[ub,uc<|b*w,fb,ii,HZ<|h r υ,VX (λr g=>h r<|ρ _ g) (by simpa using c) d]
  rfl
def Jd(h:∀ r∈rows,r.length=w)(c:1<=w)(d:k<n*w)(i:b+n<=rows.length):(rows.flatten[b*w+k]?)=some (LW rows (b+k/w) (k%w))/\b+k/w<rows.length/\k%w<w:=by
 have h2:k%w<w:=tj _<|c
 have h1:=ku (by rw[da];exact d)
 have e:b*w+k=(b+k/w)*w+k%w:=by
  rw[dv,fb,Hf]
 refine{?_,by lia,h2};rw[e,VX h (by lia) h2];unfold LW
 have g:b+k/w<rows.length:=by lia
 rw[θ _]
 show(rows[b+k/w])[k%w]? =some (((rows[b+k/w])[k%w]?).getD _);rw[θ (ω h2<|a_ (h _<|pr _).symm)]
 rfl
def zx6(h:∀ r∈rows,r.length=w)(g:1<=w)(i:b+n<=rows.length)(e:rows.flatten=pre++vs++post)(j:pre.length=b*w)(d:vs.length=n*w):(τ<|n*w).map (λk=>LW rows (b+k/w) (k%w))=vs:=by
 refine xp λk=>?_;by_cases c:k<n*w
 ·rw[ψ,vp c]
  show some _=_;rw[<-((Jd h g c i).1),e,dt,HZ j,bc<|d ▸ c]
 ·rw[bu (by simp;exact cm c),bu<|d ▸ cm c]
def zx7(r:N<=1000)
  (he:∀ k,k<N->∀ c (o:VK),Same H c->(∀ t,c t=none->o (.ref t) (upd c t<|.tup [.int ((b+k/w:Nat):Int),.int ((k%w:Nat):Int)]))->u (some (.int (k:Int))::C1 v x) c o)
  (hd:∀ (l:Addr) (d:xC) (c:Hp),H l=none->Same H c->c l=some (.lst<|d.map V.ref)->Paired (λt (g:Nat × Nat)=>c t=some (.tup [.int g.1,.int g.2])) d ((τ N).map λk=>(b+k/w,k%w))->Q (.ref l) c):EH (FN 0 N) (AG 0) CQ u 1 v x H Q:=by
 refine MI (BT _<|oA r rfl) (λi ys c=>Same H c/\∃ d:List _,ys=d.map V.ref/\Paired (λt (g:Nat × Nat)=>c t=some (.tup [.int g.1,.int g.2])) d ((τ i).map λk=>(b+k/w,k%w))) {Same.refl _,[],rfl,.nil} (λi ys c y z j=>?_) (λys c z j p n=>?_);let[s,d,e,P]:=j;rw[uf];refine he i y c _ s λt q=>{HW s q,d++[t],by rw[e,aw];rfl,?_}
 rw[ca,aw];exact Paired.snoc (Paired.mapP P λt g e=>AL q _ _ e) AE;let[s,d,rfl,P]:=j;exact hd p d _ (s.free n) (HW s n) AE (Paired.mapP P λt g e=>AL n _ _ e)
def RZ{n b w m:Nat}{g o:Addr}{rows:aC}{p:TE}{r:wD}{u:St}{x:VK}{pre us post:vE}(TP:DR K a)(P:PlankAt a H g o w rows m)(y:1<=w)(c:n*w<=1000)(z:b+n<=rows.length)(e:rows.flatten=pre++us++post)(B:pre.length=b*w)(D:us.length=n*w)
  (he:∀ k,k<n*w->∀ d (A:VK),Same H d->(∀ t,d t=none->A (.ref t) (upd d t<|.tup [.int ((b+k/w:Nat):Int),.int ((k%w:Nat):Int)]))->p (some (.int (k:Int))::C1 r u) d A)
  (q:newL us H x):EH (FN 0<|n*w) (AG 0) CQ p 1 r u H (λv I=>LX K a [.ref g,v] I x E):=by
 refine zx7 c he λJ L d O s i M=>(x8 g o J w _ m L _ {rfl,TP,P.same s,i,M,λj l=>?_,by rw[ε,cr];exact c,?_})
 let[k,N,rfl]:=av.mp l;exact(Jd P.wd y (ak.mp N) z).2;rw[jf,show((τ _).map ((λj:Nat × Nat=>LW _ j.1 j.2) ∘ λk=>(b+k/w,k%w)))=us from(zx6 P.wd y z e B D)];exact q.of s
section
variable{u1 u2 u3 u4 u5 u6:V}{rest:vB}
def zx8:(("name_values",u1)::rest:vB).lookup ("name_values":Str)=some u1:=rfl
def Jg:(("name_values",u1)::("record_values",u2)::rest:vB).lookup ("record_values":Str)=some u2:=by
 simp[ao,BD (a:="record_values") (b:="name_values") (by decide)]
def zx9:(("name_values",u1)::("record_values",u2)::("piece_values",u3)::("record_marks",u4)::("piece_marks",u5)::("leads",u6)::rest:vB).lookup ("leads":Str)=some u6:=by
 simp[ao,BD (a:="leads") (b:="name_values") (by decide),BD (a:="leads") (b:="record_values") (by decide),BD (a:="leads") (b:="piece_values") (by decide),BD (a:="leads") (b:="record_marks") (by decide),BD (a:="leads") (b:="piece_marks") (by decide)]
end
def OO(b:aD)(as:xC):vB:=List.zipWith (λk l=>(k,V.ref l)) b as
theorem Jh:∀ {c:aD} {as:xC},c.length=as.length->c.all (λg=> !D2 g f)=true->BS f (.ref l) (OO c as)=OO (c++[f]) (as++[l])
 | [],[],_,_=>rfl
 |k::c,b::as,h,e=>by
  simp only[u_,bz,Fo]at e
  show BS f _ ((k,V.ref b)::OO c as)=_;rw[YT e.1,Jh (Fa h) e.2]
  rfl
structure VI(C:Addr)(H H':Hp)(x dx:Addr)(ks:aD)(as:xC)(ls:List (Addr × HO)):Prop where
 ob:H' x=some (.ins C dx<|OO ks as)
 s:SameBut (· =x) H H'
 al:∀ p∈ls,H' p.1=some p.2/\p.1≠x
section
variable{C x dx l:Addr}{ks:aD}{as:xC}{ls:List (Addr × HO)}{H1 H2:Hp}{o:HO}
def VI.same(I:VI C H H1 x dx ks as ls)(s:Same H1 H2):VI C H H2 x dx ks as ls:={s _ _ I.ob,I.s.trans s.sb,λp b=>{s _ _ (I.al p b).1,(I.al p b).2}}
def VI.add(I:VI C H H1 x dx ks as ls)(e:H1 l=some o)(no:∀ D d f,o≠.ins D d f:=by intro y y y z;cases z):VI C H H1 x dx ks as ((l,o)::ls):=⟨I.ob,I.s,λp b=>by
 let rfl||b:=aj.mp b
 exact{e,λz=>by rw[show l=x from z,I.ob]at e;exact no _ _ _ (μ e).symm};exact I.al p b⟩
def VI.put{f:Str}{P:Hp->Prop}(I:VI C H H1 x dx ks as ls)(T:Cls K C)(j:NoAttr K C f)(q:∀ i,VI C H i x dx (ks++[f]) (as++[l]) ls->P i)(n:ks.length=as.length:=by rfl)(hf:ks.all (λg=> !D2 g f)=true:=by decide +kernel)(h9:ks.length<1000:=by decide) :
  ∃ D d b,H1 x=some (.ins D d b)/\Cls K D/\NoAttr K D f/\b.length<1000/\P (upd H1 x<|.ins D d<|BS f (.ref l) b) :=
 {_,_,_,I.ob,T,j,cj (by unfold OO;rw[List.length_zipWith];exact Nat.min_le_left _ _) h9,q _ {by rw[AE,Jh n hf],I.s.trans λy o e r=>by rw[AI r];exact e,λp c=>{by rw[AI (I.al p c).2];exact(I.al p c).1,(I.al p c).2}}}
end
def R0{b k w:Nat}{z:Int}{Q:VK}(hz:z=b)(q:∀ t,H t=none->Q (.ref t) (upd H t<|.tup [.int ((b+k/w:Nat):Int),.int ((k%w:Nat):Int)])):G6 (z+(k:Int)/(w:Int)) ((k:Int)%(w:Int)) Q H:=by
 have c:z+k/w=((b+k/w:Nat)):=by rw[hz];simp
 rw[c];exact q
def PlankAt.off{c:Hp}{b d x j C:Addr}{w m:Nat}{rows:aC}{fs:vB}(P:PlankAt a H b d w rows m)(g:H x=some (.ins C j fs))(l:b≠x)(s:SameBut (· =x) H c):PlankAt a c b d w rows m:=by
 let[[n,o],[p,i,q],u,v,y]:=P;exact{{n,s _ _ o l},{p,s _ _ i (BJ i g (by intro z;cases z)),Paired.mapP q λt r e=>s _ _ e (BJ e g (by intro z;cases z))},u,v,y}
example:(zya,RK,zT,6):=by
 apply O0;intro x dx ly gp cl n r c w rows m B [rfl,T,TL,TP,hx,L,P,KY,[[v1,J,v3,v4,v5,ef,P1,P2,P3,P4,P5],ln,lr,O,ok],q];let[dl,IT]:=L.ob;let[u,b1,b2,b3,b4,b5]:=id L
 have q1:=P1.length
 have q3:=P3.length
 have q2:=P2.length
 have q4:=P4.length
 have ok1:=ok.l1
 have q5:=P5.length
 have ok2:=ok.l2
 have br:=ok.br
 have bp:=ok.bp
 have bn:=ok.bn;refine y2 {IT,BY (by decide +kernel),x5 ly n r c w {rfl,TL,L,λt ht=>?_}};let[H1,zz0,s1,et]:=EL (o:=.tup [.int ((n:Int)*w),.int<|(r:Int)*w,.int<|(c:Int)*w]) ht;rw[zz0];refine BV et (n:=1) rfl rfl (BV et (n:=2) rfl rfl ?_);erw[zT3_];refine BV et (n:=0) rfl rfl ?_
 have cn:∀ k:Nat,((k:Int)*w)=((k*w:Nat):Int):=λk=>by simp
 have ngx:gp≠x:=λz=>by
  let[dp,e]:=P.ob;rw[z,hx]at e
  have e:=(HO.ins.inj<|μ e).2.2;simp[pf]at e
 have nlx:ly≠x:=λz=>by
  rw[z,hx]at IT
  have IT:=(HO.ins.inj<|μ IT).2.2;simp[lf]at IT
 have L':∀ {j:Hp},SameBut (· =x) H j->LayAt a j ly n r c w:=λs=>L.sb s nlx
 have V1:VI (a "View") H H1 x dx [] [] []:={s1 _ _ hx,s1.sb,λp M=>by cases M}
 have P':∀ {j:Hp},SameBut (· =x) H j->PlankAt a j gp cl w rows m:=λs=>P.off hx ngx s;rw[cn n,cn r,cn c];refine{i0,by lia,?_};refine RZ (n:=n) (b:=0) (us:=v1) (pre:=[]) (post:=J++v3++v4++v5) TP (P' V1.s) b4 (oA (χ (a_ ln.symm) bn) rfl) (by lia) (by rw[ef];simp) (by simp) (ln ▸ q1) (λk A j Q' s U=>?_) λan H2 han s2 ean=>((V1.same s2).add ean).put T.cl T.n1 λH3 V2=>?_
 have D:=L'<|V1.s.trans s.sb;let[Y,g]:=D.ob;exact y2 {g,BY (by decide +kernel),x6 ly n r c w k {rfl,TL,D,R0 (by simp) U}};erw[zT4_];refine{i0,by lia,RZ (n:=r) (b:=n) (us:=J) (pre:=v1) (post:=v3++v4++v5) TP (P' V2.s) b4 (by lia) (by lia) (by simp[ef]) (by first|(simp only[ae,dv];lia)|exact ln ▸ q1) (lr ▸ q2) (λk A j Q' s U=>?_) λar H4 h4 s4 e4=>((V2.same s4).add e4).put T.cl T.n2 λH5 V3=>?_}
 have D:=L'<|V2.s.trans s.sb;let[Y,g]:=D.ob;exact y2 {g,BY (by decide +kernel),x6 ly n r c w k {rfl,TL,D,R0 (by simp) U}};erw[zT5_];refine{i0,by lia,RZ (n:=c) (b:=n+r) (us:=v3) (pre:=v1++J) (post:=v4++v5) TP (P' V3.s) b4 (oA (χ (a_ O.symm) bp) rfl) (by lia) (by simp[ef]) (by first|(simp only[ae,dv];lia)|lia) (O ▸ q3) (λk A j Q' s U=>?_) λap H4 h4 s4 e4=>((V3.same s4).add e4).put T.cl T.n3 λH5 V4=>?_}
 have D:=L'<|V3.s.trans s.sb;let[Y,g]:=D.ob;exact y2 {g,BY (by decide +kernel),x6 ly n r c w k {rfl,TL,D,R0 (by simp) U}};erw[zT6_];refine{i0,by lia,RZ (n:=r) (b:=n+r+c) (us:=v4) (pre:=v1++J++v3) (post:=v5) TP (P' V4.s) b4 (by lia) (by lia) (by simp[ef]) (by first|(simp only[ae,dv];lia)|lia) (by lia) (λk A j Q' s U=>?_) λam H4 h4 s4 e4=>((V4.same s4).add e4).put T.cl T.n4 λH5 V5=>?_}
 have D:=L'<|V4.s.trans s.sb;let[Y,g]:=D.ob;exact y2 {g,BY (by decide +kernel),x6 ly n r c w k {rfl,TL,D,R0 (by simp) U}};erw[zT7_];refine{i0,by lia,RZ (n:=c) (b:=n+r+c+r) (us:=v5) (pre:=v1++J++v3++v4) (post:=[]) TP (P' V5.s) b4 (oA (χ (a_ O.symm) bp) rfl) (a_ KY.symm) (by simp[ef]) (by first|(simp only[ae,dv];lia)|lia) (by lia) (λk A j Q' s U=>?_) λaq H4 h4 s4 e4=>((V5.same s4).add e4).put T.cl T.n5 λH5 V6=>?_}
 have D:=L'<|V5.s.trans s.sb;let[Y,g]:=D.ob;exact y2 {g,BY (by decide +kernel),x6 ly n r c w k {rfl,TL,D,R0 (by simp) U}};erw[zT8_]
 have P1':=Paired.mapP P1 λv c=>NmV.keep λy xs e=>V6.s _ _ e (BJ e hx (by intro z;cases z))
 have ean2:=(V6.al (an,.lst v1) (by simp)).1;refine y3 {V6.ob,T.cl,T.n1,_,zx8,.inl {{_,SqL.of ean2},(rJ (xs:=v1) (λi=>(AY B.nm i).isSome) (BT _<|oA (χ (a_ q1) bn) rfl) (λi ys j=>j=H5/\ys=AO (MV<|B.nm.take i)) ⟨rfl,rfl⟩ (λi ys j u ⟨e,e'⟩=>{e ▸ SqL.of ean2,?_}) (λi v ys j hv hzz QB qb=>?_) (λi v ys j hv M hzz=>?_) (λi v ys j hv M ⟨e,e'⟩=>{e,?_}) (λys j hzz p M=>?_))}};rw[e',HX];exact χ (gy ..) (by rw[di];lia);let[c',ec,hr]:=KU P1' hv;erw[];rw[zxl hr];unfold AY at qb;rw[ec]at qb;simpa using qb;let[rfl,e']:=hzz;let[c',ec,hr]:=KU P1' hv
 have:c'.isSome=true:=by
  unfold AY at M;rw[ec]at M;exact M
 let[d,rfl]:=dg.mp this;let[p,rfl,hp']:=hr;refine BV hp' (n:=1) rfl rfl {rfl,?_};rw[e',JO ec];unfold MV AO;rw[List.filterMap_append,aw]
 rfl;let[c',ec,hr]:=KU P1' hv
 have:c'=none:=by
  unfold AY at M;rw[ec]at M;cases c' with
  |none=>rfl
  |some _=>cases M
 subst this;rw[e',JO ec];unfold MV AO;simp;let[rfl,e']:=hzz;rw[q1,b_]at e';let[H12,zz0,DD,e12]:=EL (o:=.lst<|AO<|MV B.nm) M;subst e';rw[zz0];refine x3 (r*w) p (MV B.nm) {rfl,e12,λk A=>?_,by lia,oA (χ (gy ..) bn) rfl,λal H13 hal s13 eal=>((V6.same<|DD.trans s13).add eal).put T.cl T.n6 λH14 V7=>?_};let[d,h1,h2]:=jc.mp A;rw[af]at h2;let[c2,rfl,rfl]:=h2;rw[<-lr];exact(ok.n1 c2 h1).1
 have tkx:∀ {j:Hp} {ks as ls},VI (a "View") H j x dx ks as ls->EA H j:=λI y xs e=>I.s _ _ e (BJ e hx (by intro z;cases z))
 have rcs:∀ {j:Hp} {ks as ls},VI (a "View") H j x dx ks as ls->j ar=some (.lst J)->LstAt RcV j ar B.rc:=λI e=>{J,e,Paired.mapP P2 λv c=>RcV.keep<|tkx I}
 have n10:∀ d,some d∈B.rc->d.2.length<=20:=λd h=>(ok.n2 d h).2
 have pb:∀ (l:List JM),l.length<=100->(∀ d,some d∈l->d.2.length<=20)->(E8 l).length<=2000:=λl hl h=>by
  have:(E8 l).length<=l.length * 20:=by
   clear hl
   induction l with
   |nil=>simp[E8]
   |cons y l ih =>
    have ih:=ih λd hc=>h d<|ρ _ hc;unfold E8 at ih ⊢;rw[List.flatMap_cons,ae,bw]
    have:(LU y).length<=20:=by
     cases y with
     |none=>simp[LU]
     |some c=>exact h c υ
    lia
  lia
 erw[zT9_];refine y3 {V7.ob,T.cl,T.n2,_,Jg,x2 ar B.rc {rfl,rcs V7 ((V7.al (ar,.lst J) (by simp)).1),br,n10,λpl H15 CB s15 epl=>x3 (c*w) pl (E8 B.rc) {rfl,epl,λk A=>?_,oA (χ (a_ O.symm) bp) rfl,by have:=pb _ br n10;lia,λag H16 hag s16 eag=>((V7.same<|s15.trans s16).add eag).put T.cl T.n7 λH17 V8=>?_}}}
 ·unfold E8 at A;let[d,h1,h2]:=uw.mp A;cases d with
  |none=>cases h2
  |some d =>
   rw[<-O];exact(ok.n2 d h1).1 k h2
 have hal':H17 al=some (.lst<|AO<|(τ B.rc.length).map (led B)):=by rw[lr];exact(V8.al _<|.tail _<|.head _).1
 have ltm:∀ d,some d∈LV B->some d∈B.rc:=λd h=>by
  unfold LV at h;let[k,u,A]:=av.mp h;unfold AY at A;cases e:B.rc[k]? with
  |none=>rw[e]at A;cases A
  |some y =>
   rw[e]at A
   have A:y=some d:=A;exact A ▸ ι e
 have ltl:(LV B).length<=100:=by
  unfold LV;rw[ε];exact χ (cu ..) (by rw[cr];exact br)
 erw[zT10_];refine y2 {V8.ob,?_,x4 x ar al B {rfl,T,y2 ⟨V8.ob,Jg⟩,y2 ⟨V8.ob,zx9⟩,rcs V8 ((V8.al (ar,.lst J) (by simp)).1),hal',br,λlt H18 A0 s18 E4=>x2 lt (LV B) {rfl,E4,ltl,λd h=>n10 d<|ltm d h,λpl2 H19 hpl2 s19 epl2=>x3 (c*w) pl2 (E8<|LV B) {rfl,epl2,λk A=>?_,oA (χ (a_ O.symm) bp) rfl,by have:=pb _ ltl<|λd h=>n10 d<|ltm d h;lia,λah H20 hah s20 eah=>((V8.same<|(s18.trans s19).trans s20).add eah).put T.cl T.n8 λH21 N=>?_}}}}
 ·simp[OO,ao,BD (a:="records_led_to") (b:="name_values") (by decide +kernel),BD (a:="records_led_to") (b:="record_values") (by decide +kernel),BD (a:="records_led_to") (b:="piece_values") (by decide +kernel),BD (a:="records_led_to") (b:="record_marks") (by decide +kernel),BD (a:="records_led_to") (b:="piece_marks") (by decide +kernel),BD (a:="records_led_to") (b:="leads") (by decide +kernel),BD (a:="records_led_to") (b:="namings") (by decide +kernel)]
 ·unfold E8 at A;let[d,h1,h2]:=uw.mp A;cases d with
  |none=>cases h2
  |some d =>
   rw[<-O];exact(ok.n2 d<|ltm d h1).1 k h2
 have tk:=tkx N;refine q ⟨an,ar,ap,am,aq,al,ag,ah⟩ _ {⟨dx,N.ob⟩,{v1,(N.al (an,.lst v1) (by simp)).1,Paired.mapP P1 λv c=>NmV.keep tk},{J,(N.al (ar,.lst J) (by simp)).1,Paired.mapP P2 λv c=>RcV.keep tk},{v3,(N.al (ap,.lst v3) (by simp)).1,Paired.mapP P3 λv c=>PcV.keep tk},{v4,(N.al (am,.lst v4) (by simp)).1,Paired.mapP P4 λv c=>MkV.keep tk},{v5,(N.al (aq,.lst v5) (by simp)).1,Paired.mapP P5 λv c=>MkV.keep tk},by rw[lr];exact(N.al _<|.tail _<|.tail _<|.head _).1,by rw[O];exact(N.al _<|.tail _<|.head _).1,by rw[O];exact(N.al _<|.head _).1,ok} N.s
def PlV.same(h:PlV H rows n r c w b)(tk:EA H d):PlV d rows n r c w b:=by
 let[[v1,e,g,v4,i,j,l,o,P3,p,q],s,x2,x3,x4]:=h;exact{x5 v1 e g v4 i {j,Paired.mapP l λv c=>NmV.keep tk,Paired.mapP o λv c=>RcV.keep tk,Paired.mapP P3 λv c=>PcV.keep tk,Paired.mapP p λv c=>MkV.keep tk,Paired.mapP q λv c=>MkV.keep tk},s,x2,x3,x4}
def Ground.same(g:Ground K a H b d e)(s:Same H i):Ground K a i b d e:=by
 revert g;apply u7;intro j n r c w rows m [T,l,TP,L,P,o,pv];exact x7 j n r c w _ m {T,l,TP,L.same s,P.same s,o,pv.same s.tk}
def Ground.ok{d e:Addr}{b:Vw}(g:Ground K a H d e b):EK b:=by
 revert g;apply u7;intro i n r c w rows m [T,j,TP,L,P,l,pv];exact pv.ok
def Jj{j l:Addr}{p:Vw}{Q:Addr->Hp->Prop}(g:Ground K a H j l p)(q:TV K a->∀ x A d,ViewAt a d x A p->Same H d->Q x d) :
  ∀ x b,H x=none->H b=none->b≠x->RK K a [.ref x,.ref j,.ref l] (upd (upd H b<|.own x) x (.ins (a "View") b [])) (λv d=>v=.non/\Q x d) E:=λx b u z nd=>by
 have i:Same H (upd (upd H b<|.own x) x (.ins (a "View") b [])):=(AL z).trans (AL (by rw[AI nd.symm];exact u));revert g;apply u7;intro B n r c w rows m [T,D,TP,L,P,J,pv];exact OZ x b j l B n r c w _ m p {rfl,T,D,TP,AE,L.same i,P.same i,J,pv.same i.tk,λA M I s=>{rfl,q T x A M I λy o e=>s _ _ (i _ _ e) (BK e u)}}
example:(zyb,VD,Al,3):=by
 apply u3;intro l n b [rfl,g,q];let[o,p,r,s,u,v]:=VU g.ok;refine Jj g λT x A w I e=>(x3 x A b {rfl,T,I,λy z h2 c i=>x3 x A b {rfl,T,I.same c,λl2 B h3 d j=>JP (i.same d) j ?_ (q.of<|(e.trans c).trans d)}})
 unfold faults IM;simp only[ae]
 lia
example:(zyc,ZU,bL,2):=by
 apply u3;intro n o b [rfl,g,q];erw[bL,bL0_];refine Jj g λT x A p I c=>x3 x A b {rfl,T,I,λr d h2 i j=>?_};let[ps,e,P]:=j;refine{_,.inl {_,SqL.of e,by rw[ε,P.length]},?_}
 have l:decide (((faults b).length:Int)=0)=decide (faults b=[]):=by
  rw[decide_eq_decide];constructor;intro h;exact fg.mp (by lia);intro h;rw[h];rfl
 rw[l];exact(q d<|c.trans i)
def Jk(b:Vw):IM b=(FH b).map (sW b):=by
 unfold IM N9 OA OB FH DM;simp only[aw,jf]
 rfl
def L6{α :Type}{f:Nat->Option α}{n k:Nat}:AY ((τ n).map f) k=if k<n then f k else none:=by
 unfold AY;by_cases h:k<n;rw[if_pos h,ψ,vp h]
 rfl;rw[if_neg h,bu (by simp;exact cm h)]
 rfl
def VY{α :Type}{l:List (Option α)}{k:Nat}(h:¬ k<l.length):AY l k=none:=by
 unfold AY;rw[bu (cm h)]
 rfl
section
variable{vw:Vw}
def cS(r:Nat):AY (mended vw).rc r=FX vw r:=by
 show AY ((τ _).map _) r=_;rw[L6];split
 rfl;rename_i h;unfold FX;rw[VY h]
def cT(ok:EK vw)(r:Nat):AY (mended vw).rm r=KN vw r:=by
 show AY ((τ _).map _) r=_;rw[L6];split
 rfl;rename_i h;unfold KN;rw[VY h,(VY (by rw[ok.l1];exact h))];simp
def Jl(ok:EK vw)(p:Nat):AY (mended vw).pm p=MW vw p:=by
 show AY ((τ _).map _) p=_;rw[L6];split
 rfl;rename_i h;unfold MW;rw[(VY (by rw[ok.l2];exact h))];simp
def zyd{r:Nat}{d:Int × wD}(h:FX vw r=some d):∃ c,AY vw.rc r=some c/\0<led vw r/\d=((led vw r:Int),c.2):=by
 unfold FX at h;cases e:AY _ r with
 |none=>rw[e]at h;cases h
 |some c =>
  rw[e]at h;by_cases h0:led vw r=0;simp only[h0]at h;cases h;simp only[h0,if_false,xl]at h;exact{c,rfl,tm h0,h.symm}
def Jm{r:Nat}{c:Int × wD}(h:AY vw.rc r=some c)(b:0<led vw r):FX vw r=some ((led vw r:Int),c.2):=by
 unfold FX;rw[h];simp only;rw[if_neg (je b)]
def VZ(ok:EK vw):EK (mended vw):=by
 refine{λc h=>?_,λc h=>?_,ok.n3,?_,?_,ok.bn,?_,ok.bp}
 show c.2<((τ _).map _).length/\_;simp only[ε,cr];exact ok.n1 c h;let[r,z,b]:=av.mp h;let[d,hd,z,rfl]:=zyd b;exact ok.n2 d<|zxh hd
 show((τ _).map _).length=((τ _).map _).length;simp
 show((τ _).map _).length=vw.pc.length;simp
 show((τ _).map _).length<=100;simp only[ε,cr];exact ok.br
end
theorem OP{α b c :Type}{F: α -> b ->Prop}{G: α -> c ->Prop}{f: b -> c}(k:∀ x y,G x (f y)->F x y):∀ {l:List α} {m:List b},Paired G l (m.map f)->Paired F l m
 |_,[],h=>by cases h;exact .nil
 |_,y::m,h=>by
  cases h with
  |cons h t=>exact .cons (k _ _ h) (OP k t)
theorem R1{α d :Type}{F: α -> d ->Prop}:∀ {bs:List d} {l:List α} {c:List d},Paired F l (bs++c)->∃ x y,l=x++y/\Paired F x bs/\Paired F y c
 | [],l,c,h=>x2 [] l {rfl,.nil,h}
 |b::bs,l,c,h=>by
  cases h with
  |cons h t =>
   refine u2 ?_<|R1 t;intro x y [rfl,e,g];exact x2 _ y {rfl,.cons h e,g}
def PlV.asC{rows:aC}{n r c w:Nat}{b:Vw}(h:PlV H rows n r c w b):Paired (CelV H) rows.flatten (D3 b):=by
 refine u5 ?_ h.vs;intro v1 l o v4 p [d,e,g,P3,i,j];rw[d];exact OM (OM (OM (OM (OJ e λz z h=>h) (OJ g λz z h=>h)) (OJ P3 λz z h=>h)) (OJ i λz z h=>h)) (OJ j λz z h=>h)
def PlV.of{rows:aC}{n r c w:Nat}{b:Vw}(P:Paired (CelV H) rows.flatten (D3 b))(d:b.nm.length=n*w)(e:b.rc.length=r*w)(g:b.pc.length=c*w)(ok:EK b):PlV H rows n r c w b:=by
 refine u2 ?_<|R1 P;intro x4 i [j,P,l];refine u2 ?_<|R1 P;intro x3 v4 [o,P,p];refine u2 ?_<|R1 P;intro x2 q [s,P,P3];refine u2 ?_<|R1 P;intro v1 u [v,x,y];exact{x5 v1 u q v4 i {by rw[j,o,s,v],OP  (f:=Cel.nm) (λz z h=>h) x,OP  (f:=Cel.rc) (λz z h=>h) y,OP  (f:=Cel.pc) (λz z h=>h) P3,OP  (f:=Cel.mk) (λz z h=>h) p,OP  (f:=Cel.mk) (λz z h=>h) l},d,e,g,ok}
theorem CelV.keep{b:Hp}(tk:EA H b){v:V}:∀ {c:Cel},CelV H v c->CelV b v c
 |.nm _,h=>NmV.keep tk h
 |.rc _,h=>RcV.keep tk h
 |.pc _,h=>PcV.keep tk h
 |.mk _,h=>MkV.keep tk h
def zye{α :Type}{l:List (Option α)}{k:Nat}(h:k<l.length):l[k]? =some (AY l k):=by
 unfold AY;rw[θ h]
 rfl
def Jp(b:Vw)(ok:EK b):(D3 b).length=b.nm.length+b.rc.length+b.pc.length+b.rc.length+b.pc.length:=by
 unfold D3;simp only[ae,ε,ok.l1,ok.l2]
def R3{α b :Type}{f:Option α -> b}{l:List (Option α)}{c:List b}{k:Nat}(h:k<l.length):(l.map f++c)[k]? =some (f<|AY l k):=by
 rw[bc (by rwa [ε]),ψ,zye h]
 rfl
section
variable{vw:Vw}{N R P k:Nat}
def R4(vw:Vw):D3 vw=vw.nm.map .nm++(vw.rc.map .rc++(vw.pc.map .pc++(vw.rm.map .mk++(vw.pm.map .mk++[])))):=by simp[D3]
def cU(h1:vw.nm.length=N)(h:k<N):(D3 vw)[k]? =some (.nm<|AY vw.nm k):=by
 subst h1;rw[R4,R3 h]
def OQ(h1:vw.nm.length=N)(h2:vw.rc.length=R)(h:k<R):(D3 vw)[N+k]? =some (.rc<|AY vw.rc k):=by
 subst h1 h2;rw[R4,HZ<|ε _,R3 h]
def cV(h1:vw.nm.length=N)(h2:vw.rc.length=R)(h3:vw.pc.length=P)(h:k<P):(D3 vw)[N+R+k]? =some (.pc<|AY vw.pc k):=by
 subst h1 h2 h3;rw[R4,fb,HZ<|ε _,HZ<|ε _,R3 h]
def R5(ok:EK vw)(h1:vw.nm.length=N)(h2:vw.rc.length=R)(h3:vw.pc.length=P)(h:k<R):(D3 vw)[N+R+P+k]? =some (.mk<|AY vw.rm k):=by
 subst h1 h2 h3;rw[R4,fb,fb,HZ<|ε _,HZ<|ε _,HZ<|ε _,R3<|ok.l1 ▸ h]
def V0(ok:EK vw)(h1:vw.nm.length=N)(h2:vw.rc.length=R)(h3:vw.pc.length=P)(h:k<P):(D3 vw)[N+R+P+R+k]? =some (.mk<|AY vw.pm k):=by
 subst h1 h2 h3;rw[R4,fb,fb,fb,HZ<|ε _,HZ<|ε _,HZ<|ε _,HZ<|(ε _).trans ok.l1,R3<|ok.l2 ▸ h]
def Jq{f:Nat}{A:Nat->Prop}(h0:f<N->A f)(h3:∀ k,k<R->A (N+k))(h4:∀ k,k<P->A (N+R+k))(h1:∀ k,k<R->A (N+R+P+k))(h2:∀ k,k<P->A (N+R+P+R+k))(hf:f<N+R+P+R+P):A f:=by
 let h||h:=fe f N
 exact h0 h;let[f,rfl]:=ie h;let h||h:=fe f R
 exact h3 f h;let[f,rfl]:=ie h;rw[<-fb]at hf ⊢;let h||h:=fe f P
 exact h4 f h;let[f,rfl]:=ie h;rw[<-fb]at hf ⊢;let h||h:=fe f R
 exact h1 f h;let[f,rfl]:=ie h;rw[<-fb]at hf ⊢;exact h2 f<|Nat.lt_of_add_lt_add_left hf
end
def zyf(h:DM n p f=[])(b:k<n):p k=false:=by
 simpa using (yz.mp (A_.mp h) k (ak.mpr b))
def zyg(h:faults b=[])(c:r<b.rc.length):JN b r=false:=zyf (ui.mp<|(ui.mp (ui.mp h).1).2).2 c
def Jv{b:Vw}{c:Lv}(h:c∈FH b):(∃ r,c=.many r/\r<b.rc.length/\GU b r=true)\/(∃ r,c=.leftR r/\r<b.rc.length/\(AY b.rc r).isSome=true/\led b r=0)\/(∃ p,c=.leftP p/\p<b.pc.length/\AY b.pm p=some 1/\HR b p=0)\/∃ r,c=.marked r/\r<b.rc.length/\AY b.rm r=some 1/\AY b.rc r=none:=by
 unfold FH at h;simp only[bd,av,de,ak,bz,decide_eq_true_eq]at h;rcases h with((⟨r,h,rfl⟩|⟨r,h,rfl⟩)|⟨p,h,rfl⟩)|⟨r,h,rfl⟩
 exact .inl ⟨r,rfl,h.1,h.2⟩;exact .inr<|.inl ⟨r,rfl,h.1,h.2.1,h.2.2⟩;exact .inr<|.inr<|.inl ⟨p,rfl,h.1,h.2.1,h.2.2⟩;exact .inr<|.inr<|.inr {r,rfl,h.1,h.2.1,w_.mp h.2.2}
section
variable{vw:Vw}{n r c w:Nat}
def zyh(ok:EK vw)(p:vw.nm.length=n*w)(i:vw.rc.length=r*w)(j:vw.pc.length=c*w)(h:q∈FH vw)(b:l∈FA vw n r c w q):(D3<|mended vw)[l.1]? =some l.2:=by
 have g2:(mended vw).rc.length=r*w:=by
  show((τ vw.rc.length).map (FX vw)).length=_;simp[i]
 have g:=VZ ok
 have g1:(mended vw).nm.length=n*w:=p
 have g3:(mended vw).pc.length=c*w:=j;let[k,rfl,e,s]||[k,rfl,e,hs,o]||[k,rfl,e,h1,h2]||[k,rfl,e,h1,h2]:=Jv h
 ·simp only[FA,aa]at b;subst b;rw[OQ g1 g2 (i ▸ e),cS]
 ·let[d,hd]:=dg.mp hs;simp only[FA,aj,bx,or_false]at b;let rfl||rfl:=b
  ·rw[OQ g1 g2 (i ▸ e),cS];unfold FX;rw[hd];simp[o]
  ·simp only[dv];rw[R5 g g1 g2 g3 (i ▸ e),cT ok];unfold KN;rw[hd];simp[o]
 ·simp only[FA,aa]at b;subst b;simp only[dv];rw[V0 g g1 g2 g3 (j ▸ e),Jl ok];unfold MW;rw[if_pos ⟨h1,h2⟩]
 ·simp only[FA,aa]at b;subst b;simp only[dv];rw[R5 g g1 g2 g3 (i ▸ e),cT ok];unfold KN;rw[h2];simp[h1]
def zyi(ok:EK vw)(l:vw.nm.length=n * w)(j:vw.rc.length=r * w)(o:vw.pc.length=c * w)(q:faults vw=[])(hf:f<n * w+r * w+c * w+r * w+c * w):(∀ s∈FH vw,∀ u∈FA vw n r c w s,u.1≠f)->(D3<|mended vw)[f]? =(D3 vw)[f]? :=by
 have g2:(mended vw).rc.length=r*w:=by
  show((τ vw.rc.length).map (FX vw)).length=_;simp[j]
 have p:=VZ ok
 have g1:(mended vw).nm.length=n*w:=l
 have g3:(mended vw).pc.length=c*w:=o;refine Jq (A:=λf=>(∀ s∈FH vw,∀ u∈FA vw n r c w s,u.1≠f)->(D3<|mended vw)[f]? =(D3 vw)[f]?) (λh b=>?_) (λk g b=>?_) (λk g b=>?_) (λk g b=>?_) (λk g b=>?_) hf
 ·rw[cU g1 h,cU l h];rfl
 ·rw[OQ g1 g2 g,OQ l j g,cS]
  have i:k<vw.rc.length:=j.symm ▸ g
  congr 2
  cases e:AY vw.rc k with
  |none=>unfold FX;rw[e]
  |some d =>
   have h0:0<led vw k:=by
    rcases mx (led vw k)with z|z
    ·refine absurd rfl (b (.leftR k) ?_ (n*w+k,.rc none) (by simp[FA]));unfold FH;simp only[bd,av,de,ak,bz,decide_eq_true_eq];exact .inl (.inl (.inr {k,{i,by rw[e];rfl,z},rfl}))
    ·exact z
   have h1:¬ ((led vw k:Int)<d.1):=λz=>by
    refine absurd rfl (b (.many k) ?_ (n*w+k,.rc<|FX vw k) (by simp[FA]));unfold FH;simp only[bd,av,de,ak,bz,decide_eq_true_eq];refine .inl<|.inl<|.inl {k,{i,?_},rfl};unfold GU;rw[e];simp[h0,z]
   have h2:=zyg q i;unfold JN at h2;rw[e]at h2;rw[Jm e h0]
   have:d.1=(led vw k:Int):=by lia
   rw[<-this]
 ·rw[cV g1 g2 g3 g,cV l j o g];rfl
 ·rw[R5 p g1 g2 g3 g,R5 ok l j o g,cT ok]
  have i:k<vw.rc.length:=j.symm ▸ g
  congr 2
  cases e:AY vw.rc k with
  |none =>
   unfold KN;rw[e];simp only;rw[if_neg];intro z;refine absurd (by simp only[dv]) (b (.marked k) ?_ ((n+r+c)*w+k,.mk<|some 0) (by simp[FA]));unfold FH;simp only[bd,av,de,ak,bz,decide_eq_true_eq];exact .inr {k,{i,z,by rw[e];rfl},rfl}
  |some d =>
   unfold KN;rw[e];simp only;rw[if_neg];intro z;refine absurd (by simp only[dv]) (b (.leftR k) ?_ ((n+r+c)*w+k,.mk<|some 0) (by simp[FA]));unfold FH;simp only[bd,av,de,ak,bz,decide_eq_true_eq];exact .inl (.inl (.inr {k,{i,by rw[e];rfl,z},rfl}))
 ·rw[V0 p g1 g2 g3 g,V0 ok l j o g,Jl ok]
  congr 2
  unfold MW;rw[if_neg];intro[v,x];refine absurd (by simp only[dv]) (b (.leftP k) ?_ ((n+r+c+r)*w+k,.mk<|some 0) (by simp[FA]));unfold FH;simp only[bd,av,de,ak,bz,decide_eq_true_eq];exact .inl<|.inr {k,{o.symm ▸ g,v,x},rfl}
end
def FB:Cel->xx
 |.nm none=>.none
 |.nm (some c)=>.tuple [.str c.1,.int c.2]
 |.rc none=>.none
 |.rc (some c)=>.tuple [.int c.1,.tuple<|c.2.map λ(k:Nat)=>Cn k]
 |.pc none=>.none
 |.pc (some s)=>.str s
 |.mk none=>.none
 |.mk (some i)=>.int i
def zyj(l:wD):∀ {n:Nat},Paired (Dat K H n) (AO l) (l.map λ(k:Nat)=>Cn k):=by
 induction l with
 |nil=>exact .nil
 |cons x r b=>exact .cons (.int _) b
def CelV.dat:∀ {c:Cel},CelV H v c->c.ok->Dat K H 2 v (FB c)
 |.nm none,h,_=>by cases (h);exact Dat.non
 |.nm (some c),h,o=>by
  let[p,rfl,e]:=(h)
  exact Dat.tup  (SqT.of e) (.cons {.str _,o,bg _} (.cons (Dat.int _) .nil))
 |.rc none,h,_=>by cases (h);exact Dat.non
 |.rc (some c),h,_=>by
  refine u2 ?_<|h;intro p q [rfl,e,b];exact Dat.tup  (SqT.of e) (.cons (Dat.int _) (.cons (Dat.tup  (SqT.of b) (zyj _)) .nil))
 |.pc none,h,_=>by cases (h);exact Dat.non
 |.pc (some s),h,o=>by
  cases (h);exact{.str s,o,bg _}
 |.mk none,h,_=>by cases (h);exact Dat.non
 |.mk (some i),h,_=>by cases (h);exact Dat.int i
theorem Jw:∀ (l m:wD),nr (l.map λ(k:Nat)=>Cn k) (m.map λ(k:Nat)=>Cn k)=decide (l=m)
 | [],[]=>rfl
 | [],_::_=>rfl
 |_::_,[]=>rfl
 |x::l,y::m=>by
  show((x ==(y:Int))&&nr _ _)=_;rw[Jw l m];simp
  lia
def zyk:∀ {c b:Cel},c.kind=b.kind->f_ (FB c) (FB b)=decide (c=b)
 | .nm c,.nm b,_=>by
  cases c with
  |none=>cases b<;>simp[FB,f_]
  |some c =>
   cases b with
   |none=>simp[FB,f_]
   |some d =>
    let[s,k]:=c;let[e,g]:=d;simp[FB,f_,nr]
    lia
 | .rc c,.rc b,_=>by
  cases c with
  |none=>cases b<;>simp[FB,f_]
  |some c =>
   cases b with
   |none=>simp[FB,f_]
   |some d =>
    let[s,k]:=c;let[e,g]:=d;rw[kf];simp[FB,f_,nr,Jw]
 | .pc c,.pc b,_=>by
  cases c with
  |none=>cases b<;>simp[FB,f_]
  |some c =>
   cases b with
   |none=>simp[FB,f_]
   |some d =>
    rw[kf];simp[FB,f_]
 | .mk c,.mk b,_=>by
  cases c with
  |none=>cases b<;>simp[FB,f_]
  |some c =>
   cases b with
   |none=>simp[FB,f_]
   |some d =>
    rw[kf];simp[FB,f_]
 |.nm _,.rc _,h=>by cases h
 |.nm _,.pc _,h=>by cases h
 |.nm _,.mk _,h=>by cases h
 |.rc _,.nm _,h=>by cases h
 |.rc _,.pc _,h=>by cases h
 |.rc _,.mk _,h=>by cases h
 |.pc _,.nm _,h=>by cases h
 |.pc _,.rc _,h=>by cases h
 |.pc _,.mk _,h=>by cases h
 |.mk _,.nm _,h=>by cases h
 |.mk _,.rc _,h=>by cases h
 |.mk _,.pc _,h=>by cases h
theorem Jx:∀ {cs b:xD},cs.map Cel.kind=b.map Cel.kind->nr (cs.map FB) (b.map FB)=decide (cs=b)
 | [],[],_=>rfl
 | [],_::_,h=>by cases h
 |_::_,[],h=>by cases h
 |x::l,y::m,h=>by
  injection h with h1 h2
  show(f_ _ _&&nr _ _)=_;rw[zyk h1,Jx h2];simp
def Jy(h:Paired (CelV H) xs cs)(ok:∀ c∈cs,c.ok):Paired (Dat K H 2) xs (cs.map FB):=by
 induction h with
 |nil=>exact .nil
 |cons h t b=>exact .cons (h.dat<|ok _ υ) (b λc d=>ok c<|ρ _ d)
def zyl{p q:Addr}{xs ys:vE}{cs b:xD}(h1:H p=some (.lst xs))(h2:H q=some (.lst ys))(g:Paired (CelV H) xs cs)(i:Paired (CelV H) ys b)(j:∀ c∈cs,c.ok)(l:∀ c∈b,c.ok)(n:cs.map Cel.kind=b.map Cel.kind)(o:Q (.bl<|!decide (cs=b)) H):KB K (.ref p) (.ref q) H Q:=by
 have d:Dat K H 3 _ _:=Dat.lst (SqL.of h1) (Jy g j)
 have e:Dat K H 3 _ _:=Dat.lst (SqL.of h2) (Jy i l);refine y2 {d.1,e.1,d.shp (by decide),e.shp (by decide),?_}
 show Q (.bl<|!PyData.eqvAll _ _) H;rw[Jx n];exact o
def Jz{w f g:Nat}(h:pk w f=pk w g):f=g:=by
 injection h with h1 h
 injection h with h2 _
 injection h1 with h1
 injection h2 with h2
 have b:=sv f w;rw[show f/w=g/w by exact ce h1,show f%w=g%w by exact ce h2]at b;exact b ▸ (sv g w)
def cW(b j:Nat):Int:=reduceHash<|Jt [hashInt b,hashInt j]
def zym:∀ j,j<6->∀ b,b<31->∀ c,c<31->cW b j=cW c j->b=c:=by decide +kernel
def zyn{k:List AN}{v:V}:TZ [(k,v)]:=λP w=>by simp
def zyo{w f g:Nat}{v u:V}(b:w<=6)(c:1<=w)(hf:f/w<31)(d:g/w<31)(he:f%w=g%w)(ne:f/w≠g/w):TZ [(pk w f,v),(pk w g,u)]:=λP W=>by
 have e:∀ h:Nat,(pe<|EE P W).hash (pk w h)=cW (h/w) (h%w):=λh=>rfl;simp only[cg,yw,gz,aa,bx,not_false_eq_true,jv,and_true];rw[e,he];exact λz=>ne<|zym (g%w) (ω (tj _ c) b) _ hf _ d z
def R6{w b k:Nat}{x:Int}(c:1<=w)(d:x=b):([.int (x+(k:Int)/(w:Int)),.int<|(k:Int)%(w:Int)]:vE)=(pk w<|b*w+k).map kV:=by
 unfold pk
 have h2:(b*w+k)%w=k%w:=by rw[da,ni]
 have h1:(b*w+k)/w=b+k/w:=by rw[da,nj<|c]
 rw[h1,h2,d];simp only[cg,yw,kV];rw[Il,Hi,Hn]
def zyp{c d:Addr}{w m f:Nat}{rows:aC}{cs:xD}{x:Cel}(P:PlankAt a H c d w rows m)(g:1<=w)(i:Paired (CelV H) rows.flatten cs)(l:cs[f]? =some x)(n:f/w<rows.length):∃ row v,rows[f/w]? =some row/\row[f%w]? =some v/\CelV H v x:=by
 let[v,o,p]:=JC i l
 have e:=VX  (j:=f%w) P.wd n (tj _ g);rw[da,sv,o]at e;cases b:rows[f/w]? with
 |none=>rw[b]at e;cases e
 |some row =>
  rw[b]at e;exact x2 _ v ⟨rfl,e.symm,p⟩
example:(zyq,ZV,bF,4):=by
 apply O0;intro ly gp cl fd n r c w rows m N lv [rfl,S,hlv,u,q]
 have J:=S.w1;let[dl,IT]:=S.la.ob
 have z2:=S.pv.lr
 have n6:=S.n6
 have r6:=S.r6
 have c6:=S.c6
 have q1:∀ {p t:Addr} {f:Nat} {x:Cel} {v:V} {A:Hp},H p=none->Same H A->A p=some (.dT [])->A t=some (.tup<|(pk w f).map kV)->CelV A v x->FA N n r c w lv=[(f,x)]->A p=some (.dT [])/\∃ kvs:uA,T2 A [(.ref t,v)] kvs/\kvs.length<=15/\Q (.ref p) (upd A p<|.dT<|EU [] kvs):=λ{p t f x v A} B s e et hv ef=>by
  refine{e,[(pk w f,v)],.cons {⟨t,rfl,et⟩,rfl} .nil,by simp,?_};refine q p [(pk w f,v)] _ B (λy o M=>by rw[AI (BK M B)];exact s _ _ M) AE ?_ zyn;rw[ef];exact .cons {rfl,CelV.keep (λy ys M=>by rw[AI (BJ M e (λz=>nomatch z))];exact M) hv} .nil
 let[k,rfl,Y,O]||[k,rfl,Y,hsm,hl]||[k,rfl,Y,h1,h2]||[k,rfl,Y,h1,h2]:=Jv hlv
 obtain⟨d,hd⟩:∃ d,AY N.rc k=some d:=by
  unfold GU at O;cases e:AY N.rc k with
  |none=>rw[e]at O;cases O
  |some d=>exact⟨d,rfl⟩
 have hl:0<led N k:=by
  unfold GU at O;rw[hd]at O;simp at O;exact O.1
 refine BV u (n:=0) rfl rfl (y2 {IT,BY (by decide +kernel),BV u (n:=1) rfl rfl (x6 ly n r c w k {rfl,S.tl,S.la,λt T=>?_})});let[H1,g,s1,e1]:=EL (o:=.tup [.int ((n:Int)+(k:Int)/(w:Int)),.int<|(k:Int)%(w:Int)]) T;rw[g];erw[bF1_];intro p B;let[A,g,j,U]:=EL (o:=.dT []) B;rw[g]
 have KW:=s1.trans j
 have P2:=S.pl.same KW
 have f1:(n*w+k)/w=n+k/w:=by rw[da,nj (by exact J)]
 have f2:(n*w+k)%w=k%w:=by rw[da,ni]
 let[dp,NB]:=P2.ob
 have hkw:k/w<r:=by
  rw[ul (by exact J)];exact z2 ▸ Y
 refine u2 ?_ (zyp (f:=n*w+k) (x:=.rc<|AY N.rc k) P2 J (S.pv.same KW.tk).asC (OQ S.pv.ln z2<|z2 ▸ Y) (by rw[S.rl];lia));intro row v [er,ev,hv];rw[f1]at er;rw[f2]at ev;rw[hd]at hv;revert hv;apply u2;intro pv tv [rfl,hpv,htv];refine BV ((s1.trans j) _ _ u) (n:=2) rfl rfl (y2 {NB,OH _ _ _,BV (j _ _ e1) (n:=0) rfl rfl (x6 gp cl w rows m _ {rfl,S.tp,P2,λi row' eb er' l hnl=>?_,λz=>?_})})
 have ei:i=n+k/w:=by
  have:((n+k/w:Nat):Int)=(n:Int)+(k:Int)/(w:Int):=by rw[Il,Hi]
  exact ce eb.symm
 subst ei;rw[er]at er';let[H3,g,I,L]:=EL (o:=.lst row) hnl;obtain rfl:=μ er';rw[g];refine BV (I _ _<|j _ _ e1) (n:=1) rfl rfl (CH (SqL.of L) (n:=k%w) (by rw[Hn]) ev (BV (I _ _ hpv) (n:=1) rfl rfl {by decide,λp1 OU=>?_}))
 have s4:=AL (o:=.tup [V.int ↑(led N k),V.ref tv]) OU
 have D:=I.trans s4;refine q1 (f:=n*w+k) (x:=.rc<|FX N k) (s1.free B) (KW.trans D) (D _ _ U) ?_ ?_ rfl;rw[<-R6 (x:=(n:Int)) J rfl];exact D _ _<|j _ _ e1;rw[Jm hd hl];exact x2 p1 tv {rfl,AE,D _ _ htv}
 have rl:=S.rl;let z||z:=z
 exact absurd z<|wg.mpr<|jt _
 ·have z:rows.length<=n+k/w:=kg.mp z
  lia
 refine BV u (n:=0) rfl rfl ?_;refine BV u (n:=0) rfl rfl ?_;refine BV u (n:=1) rfl rfl ?_;intro p B;let[A,g,j,U]:=EL (o:=.dT []) B;rw[g];refine y2 {j _ _ IT,BY (by decide +kernel),BV (j _ _ u) (n:=2) rfl rfl (x6 ly n r c w k {rfl,S.tl,S.la.same j,λt T=>?_})}
 have I:=AL (o:=.tup [.int ((n:Int)+(k:Int)/(w:Int)),.int<|(k:Int)%(w:Int)]) T
 have L:upd A t (.tup [.int ((n:Int)+(k:Int)/(w:Int)),.int<|(k:Int)%(w:Int)]) t=some (.tup<|(pk w<|n*w+k).map kV):=by rw[AE,R6 (x:=(n:Int)) J rfl]
 revert I L;generalize upd A t (.tup [.int ((n:Int)+(k:Int)/(w:Int)),.int<|(k:Int)%(w:Int)])=H3;intro I L
 have GD:=j.trans I;refine y2 {GD _ _ IT,BY (by decide +kernel),BV (GD _ _ u) (n:=2) rfl rfl (x6 ly n r c w k {rfl,S.tl,S.la.same GD,λt2 ht2=>?_})}
 have s4:=AL (o:=.tup [.int ((n:Int)+r+c+(k:Int)/(w:Int)),.int<|(k:Int)%(w:Int)]) ht2
 have e4:upd H3 t2 (.tup [.int ((n:Int)+r+c+(k:Int)/(w:Int)),.int<|(k:Int)%(w:Int)]) t2=some (.tup<|(pk w<|(n+r+c)*w+k).map kV):=by rw[AE,R6 (x:=(n:Int)+r+c) (b:=n+r+c) J (by exact rfl)]
 revert s4 e4;intro s4 e4
 have D:=I.trans s4
 have f1:(n*w+k)/w=n+k/w:=by rw[da,nj (by exact J)]
 have f2:(n*w+k)%w=k%w:=by rw[da,ni]
 have g1:((n+r+c)*w+k)/w=n+r+c+k/w:=by rw[da,nj (by exact J)]
 have g2:((n+r+c)*w+k)%w=k%w:=by rw[da,ni]
 have hkw:k/w<r:=by
  rw[ul (by exact J)];exact z2 ▸ Y
 have mg:EU [] [(pk w<|n*w+k,V.non),(pk w<|(n+r+c)*w+k,.int 0)]=[(pk w<|n*w+k,V.non),(pk w<|(n+r+c)*w+k,.int 0)]:=X6 _ [] (by
  simp only[r_,cg,yw,gz,aa,bx,not_false_eq_true,jv,and_true];intro z
  have:=Jz z
  have e9:(n*w+k)/w=((n+r+c)*w+k)/w:=by rw[this]
  rw[f1,g1]at e9
  lia)
 refine{(D _ _ U),[(pk w<|n*w+k,V.non),(pk w<|(n+r+c)*w+k,.int 0)],.cons {{t,rfl,s4 _ _ L},rfl} (.cons {⟨t2,rfl,e4⟩,rfl} .nil),by simp,?_};rw[mg];refine q p _ _ B (λy o M=>by rw[AI (BK M B)];exact(j.trans D) _ _ M) AE (.cons ⟨rfl,rfl⟩ (.cons ⟨rfl,rfl⟩ .nil)) (zyo S.w6 J (by rw[f1];lia) (by rw[g1];lia) (by rw[f2,g2]) (by rw[f1,g1];lia));refine BV u (n:=0) rfl rfl ?_;erw[];refine BV u (n:=0) rfl rfl ?_;erw[];erw[bF6_];refine BV u (n:=1) rfl rfl ?_;erw[];refine DW (by decide +kernel) ?_;erw[bF7_];intro p B;let[A,g,j,U]:=EL (o:=.dT []) B;rw[g];refine y2 {j _ _ IT,BY (by decide +kernel),BV (j _ _ u) (n:=2) rfl rfl (x6 ly n r c w k {rfl,S.tl,S.la.same j,λt T=>?_})}
 have I:=AL (o:=.tup [.int ((n:Int)+r+c+r+(k:Int)/(w:Int)),.int<|(k:Int)%(w:Int)]) T
 have L:upd A t (.tup [.int ((n:Int)+r+c+r+(k:Int)/(w:Int)),.int<|(k:Int)%(w:Int)]) t=some (.tup<|(pk w<|(n+r+c+r)*w+k).map kV):=by rw[AE,R6 (x:=(n:Int)+r+c+r) (b:=n+r+c+r) J (by exact rfl)]
 exact q1 (f:=(n+r+c+r)*w+k) (x:=.mk<|some 0) B (j.trans I) (I _ _ U) L rfl rfl
 ·have u:H fd=some (.tup [.str (η "marked"),.int k]):=u;erw[bF,bF2_];refine BV u (n:=0) rfl rfl ?_;erw[];refine DW (by decide +kernel) ?_;erw[bF4_];refine BV u (n:=0) rfl rfl ?_;erw[];erw[bF3_];intro p B;let[A,g,j,U]:=EL (o:=.dT []) B;rw[g];refine y2 {j _ _ IT,BY (by decide +kernel),BV (j _ _ u) (n:=1) rfl rfl (x6 ly n r c w k {rfl,S.tl,S.la.same j,λt T=>?_})}
  have I:=AL (o:=.tup [.int ((n:Int)+r+c+(k:Int)/(w:Int)),.int<|(k:Int)%(w:Int)]) T
  have L:upd A t (.tup [.int ((n:Int)+r+c+(k:Int)/(w:Int)),.int<|(k:Int)%(w:Int)]) t=some (.tup<|(pk w<|(n+r+c)*w+k).map kV):=by rw[AE,R6 (x:=(n:Int)+r+c) (b:=n+r+c) J (by exact rfl)]
  exact q1 (f:=(n+r+c)*w+k) (x:=.mk<|some 0) B (j.trans I) (I _ _ U) L rfl rfl
theorem Kb{α b :Type}{F: α -> b ->Prop}:∀ {l:List α} {m:List b} (k:Nat),Paired F l m->Paired F (l.take k) (m.take k)
 |_,_,0,_=>.nil
 |_,_,_+1,.nil=>.nil
 |_,_,k+1,.cons h t=>.cons h<|Kb k t
theorem Kc{α b :Type}{F: α -> b ->Prop}:∀ {l:List α} {m:List b} (k:Nat),Paired F l m->Paired F (l.drop k) (m.drop k)
 |_,_,0,h=>h
 |_,_,_+1,.nil=>.nil
 |_,_,k+1,.cons h t=>Kc k t
def Kd{w b:Nat}{cs:xD}:DT w cs (b+1)=DT w (cs.drop w) b:=by
 unfold DT;rw[List.drop_drop,ub,uc]
theorem Kg{w:Nat}:∀ {rows:aC} {cs:xD},(∀ r∈rows,r.length=w)->Paired (CelV H) rows.flatten cs->∀ {b:Nat} {row:vE},rows[b]? =some row->Paired (CelV H) row (DT w cs b)
 | [],_,_,_,_,_,e=>by simp at e
 |d::g,cs,c,P,0,row,e=>by
  obtain rfl:=μ e
  have h0:=c d υ
  have:=Kb w P;rw[ii,<-h0,List.take_left]at this;unfold DT;rw[vz,<-h0];exact this
 |d::g,cs,c,P,b+1,row,e=>by
  have h0:=c d υ
  have:=Kc w P;rw[ii,<-h0,List.drop_left,h0]at this;rw[Kd];exact Kg (λr i=>c r<|ρ _ i) this e
theorem Kh{w:Nat}:∀ {rows:aC} {cs:xD},cs.length=rows.length * w->(∀ {b:Nat} {row:vE},rows[b]? =some row->Paired (CelV H) row (DT w cs b))->Paired (CelV H) rows.flatten cs
 | [],cs,c,_=>by
  rw[nc,vz]at c;rw[fg.mp c];exact .nil
 |i::d,cs,c,h=>by
  rw[bw]at c
  have h0:=h (b:=0) rfl;unfold DT at h0;rw[vz,Js]at h0
  have g:=Kh (w:=w) (rows:=d) (cs:=cs.drop w) (by rw[ic,c,ub,Nat.add_sub_cancel]) λ{b row} e=>by
   rw[<-Kd];exact h  e
  have:=OM h0 g;rw[j_]at this;exact this
theorem WA{w:Nat}:∀ {rows:aC},(∀ r∈rows,r.length=w)->rows.flatten.length=rows.length*w
 | [],_=>by simp
 |r::c,h=>by
  rw[ii,ae,WA λx b=>h x<|ρ _ b,h r υ,bw,ub];exact uc _ _
def zyr(b:Addr)(w n:Int):(pf b w n).lookup ("blocks":Str)=none:=KG _ _ _ (by decide) (by decide) (by decide)
def Kj{w b j:Nat}{cs:xD}(c:j<w):(DT w cs b)[j]? =cs[b*w+j]? :=by
 unfold DT;rw[List.getElem?_take,if_pos c,Cf]
def zys{w b:Nat}{cs c:xD}(h:c.map Cel.kind=cs.map Cel.kind):(DT w c b).map Cel.kind=(DT w cs b).map Cel.kind:=by
 unfold DT;rw[Bo,Br,Bo,Br,h]
def Kk{w b:Nat}{cs:xD}{c:Cel}(h:c∈DT w cs b):c∈cs:=Af<|Ai h
def Kl{w i:Nat}{cs b:xD}:OC w (i+1) cs b=OC w i cs b+if DT w cs i=DT w b i then 0 else 1:=by
 unfold OC;rw[ca];by_cases h:DT w cs i=DT w b i;simp[h];simp[h]
def zyt{w b j:Nat}(c:j<w):([.int (b:Int),.int (j:Int)]:vE)=(pk w<|b*w+j).map kV:=by
 unfold pk
 have h1:(b*w+j)/w=b:=by rw[da,nj (by lia),Nat.div_eq_of_lt c,Nat.add_zero]
 have h2:(b*w+j)%w=j:=by rw[da,ni,Nat.mod_eq_of_lt c]
 rw[h1,h2]
 rfl
structure Km(a:Ad)(gp cl:Addr)(w m M:Nat)(cs cs':xD)(H:Hp)(i:Nat)(rs:aC)(H':Hp):Prop where
 p:PlankAt a H' gp cl w rs (m+OC w i cs cs')
 l:rs.length=M
 c:∀ {b:Nat} {row:vE},rs[b]? =some row->Paired (CelV H') row (if b<i then DT w cs' b else DT w cs b)
 s:SameBut (λx=>x=gp\/x=cl) H H'
example:(zyu,ZW,bG,5):=by
 apply u9;intro Y cl dl w rows m kvs cs d [rfl,TP,P,hM,w1,w6,M,PC,hk,o1,o2,hc,q];let[dp,NB]:=P.ob;let[tc,BN,_]:=P.ls
 have n:cs.length=rows.length*w:=by
  rw[<-PC.length];exact WA P.wd
 have HF:d.length=cs.length:=by
  simpa using (congrArg ji hk)
 have ndl:dl≠Y/\dl≠cl:={BJ M NB (λz=>nomatch z),BJ M BN (λz=>nomatch z)}
 erw[bG,bG4_];refine y2 {NB,zyr _ _ _,x5 Y cl w _ m {rfl,TP,P,?_}};erw[];refine{i0,by lia,P9 (λi σ u=>(∃ r,Km a Y cl w m _ cs d H i r u)/\∃ y2 y3 y4,σ=[some _,some _,y2,y3,y4]) {{_,{P,rfl,λe=>Kg P.wd PC e,SameBut.refl _}},x3 _ _ _ rfl} (λi σ H1 hi g=>?_) (λσ H1 g=>?_)};let[[r,J],y2,y3,y4,eσ]:=g;subst eσ;let[dp1,hob1]:=J.p.ob
 have er:=θ   (by rw[J.l];exact hi)
 have tk1:EA H H1:=λy ys e=>J.s _ _ e λz=>by
  let z||z:=z
  rw[z,NB]at e;cases e;rw[z,BN]at e;cases e
 revert er;generalize r[i]'(by rw[J.l];exact hi)=row;intro er
 have Pr:=J.c er;rw[if_neg (jq _)]at Pr
 have N:=J.p.wd _<|ι er;erw[uf];refine x2 _ _ {hob1,OH _ _ _,x6 Y cl w r _ i {rfl,TP,J.p,λi' row' eb er' l hl=>?_,λz=>by rw[J.l]at z;lia}};obtain rfl:i=i':=ce eb;rw[er]at er';obtain rfl:=μ er';let[H2,O,s2,e2]:=EL  hl;rw[O];erw[bG1_];refine{{_,SqL.of e2},X3  (λ_=>true) (BT _<|oA (χ (a_ N) w6) rfl) (λj ys u=>Same H2 u/\Paired (CelV u) ys ((DT w d i).take j)) {Same.refl _,.nil} (λj ys u hj ⟨s,P⟩=>{SqL.of<|s _ _ e2,?_}) (λj ys u t o ⟨s,P⟩ h=>{HW s h,Paired.mapP P λv c=>CelV.keep (AL h).tk}) (λj x ys u hx _ QB qb=>qb) (λj x ys u hx _ g=>?_) (λj x ys u hx hp=>by cases hp) (λys H3 g l2 DF=>?_)};rw[P.length,di];lia
 have hj:j<w:=by rw[<-N];exact(ζ.mp hx).1
 let[s,P]:=g
 have hd':=s _ _<|s2 _ _<|J.s _ _ M λz=>z.elim ndl.1 ndl.2;erw[C1]
 have A0:i*w+j<cs.length:=by
  rw[n]
  have:=vg w<|hi
  lia
 refine{.inr {_,.inl hd'},by decide,λp hp=>{BG kvs<|pk w<|i*w+j,?_,HW s hp,?_}}
 have sp:=AL (o:=.tup [V.int i,V.int j]) hp;exact DGet.t (sp _ _ hd') (by rw[AE,zyt hj])
 have sp:=AL (o:=.tup [V.int i,V.int j]) hp
 have A:=θ (l:=d)  (by rw[HF];exact A0);revert A;generalize d[i*w+j]'(by rw[HF];exact A0)=c';intro A;let[c,ec,hv]:=KU Pr hx;rw[Kj hj]at ec;rw[JO  (by rw[Kj hj];exact A)]
 have s1p:=(s2.trans s).trans sp;refine Paired.snoc (Paired.mapP P λv c=>CelV.keep sp.tk) ?_;let[e1,T]||[v,e1,T]:=hc _ c c' ec A
 rw[e1,T];exact CelV.keep s1p.tk hv;rw[e1];exact CelV.keep s1p.tk<|CelV.keep tk1 T
 have I:(DT w d i).length=w:=by
  unfold DT;rw[di,ic,HF,n]
  have:=vg w<|hi
  lia
 let[s,P]:=g;rw[N,eq<|a_ I]at P;let[H4,O,s4,e4]:=EL  DF
 have B:=(s2.trans s).trans s4
 have P4:=Paired.mapP P λv c=>CelV.keep s4.tk
 have hys:ys.length=w:=by rw[P4.length,I]
 have D:Km a Y cl w m _ cs _ H i r H4:={J.p.same B,J.l,λe=>Paired.mapP (J.c e) λv c=>CelV.keep B.tk,J.s.trans B.sb}
 rw[O];erw[bG3_];refine zyl e4 ((s.trans s4) _ _ e2) P4 (Paired.mapP Pr λv c=>CelV.keep B.tk) (λc hc=>o2 c<|Kk hc) (λc hc=>o1 c<|Kk hc) (zys hk) ?_;by_cases he:DT w d i=DT w cs i;refine DW (by simp[he]) ({r,{by rw[Kl,if_pos he.symm];exact D.p,D.l,λ{b row} e=>?_,D.s}})
 have:=D.c e;by_cases U:b=i;rw[U,if_neg<|jq _]at this;rw[U,if_pos<|fu _,he];exact this;simp only[propext {λh=>jw (dq h) U,λh=>ck h}];exact this;let[dp4,L]:=D.p.ob;let[tc4,hcl4,_]:=D.p.ls;refine EM (by simp[he]) ?_;erw[bG2_];refine x2 _ _ {L,Gw _ _ _,x8 Y cl w r _ _ l2 ys {rfl,TP,D.p,SqL.of e4,by lia,λi' eb hb' hyl H5 P5 JW=>?_,λz=>by rw[J.l]at z;lia}};obtain rfl:i=i':=ce eb
 have tk5:EA H4 H5:=λy ys e=>JW _ _ e λz=>by
  let z||z:=z
  rw[z,L]at e;cases e;rw[z,hcl4]at e;cases e
 refine{r.set i ys,{?_,by rw[ka];exact J.l,λ{b row} e=>?_,D.s.trans JW}};rw[Kl,if_neg<|λz=>he z.symm];exact P5;by_cases U:b=i;subst U;rw[gk (by rw[J.l];exact hi)]at e;obtain rfl:=μ e;rw[if_pos (fu _)];exact Paired.mapP P4 λv c=>CelV.keep tk5;rw[ia (λz=>U z.symm)]at e
 have:=D.c e;simp only[show(b<i+1)=(b<i)from propext {λh=>by exact jw (dq h) U,λh=>by exact ck h}];exact Paired.mapP this λv c=>CelV.keep tk5;let[[r,J],y2,y3,y4,eσ]:=g;refine q r H1 J.p J.l (Kh (w:=w) (by rw[J.l,HF,n]) λ{b row} e=>?_) J.s
 have:=J.c e;rw[if_pos (by rw[<-J.l];exact(ζ.mp e).1)]at this;exact this
def cX{g:Vw}(ok:EK g):∀ c∈D3 g,c.ok:=λc e=>by
 unfold D3 at e;simp only[bd,av]at e;rcases e with(((⟨x,b,rfl⟩|⟨x,b,rfl⟩)|⟨x,b,rfl⟩)|⟨x,b,rfl⟩)|⟨x,b,rfl⟩
 cases x with
 |none=>exact trivial
 |some d=>exact(ok.n1 d b).2
 cases x<;>exact trivial;cases x with
 |none=>exact trivial
 |some d=>exact ok.n3 d b
 cases x<;>exact trivial;cases x<;>exact trivial
def JQ{α :Type}{f: α ->Cel}(h:∀ x,(f x).kind=k)(l:List α):(l.map f).map Cel.kind=ba l.length k:=by
 rw[jf]
 induction l with
 |nil=>rfl
 |cons x r b=>rw[cg,b];exact congrArg (· ::_) (h x)
def zyv{b:Vw}(ok:EK b):(D3<|mended b).map Cel.kind=(D3 b).map Cel.kind:=by
 have c:=VZ ok
 have d:(mended b).rc.length=b.rc.length:=by
  show((τ _).map _).length=_;simp
 unfold D3;simp only[aw];rw[JQ  (f:=Cel.nm) λz=>rfl,JQ  (f:=Cel.rc) λz=>rfl,JQ  (f:=Cel.pc) λz=>rfl,JQ  (f:=Cel.mk) λz=>rfl,JQ  (f:=Cel.mk) λz=>rfl,
  JQ  (f:=Cel.nm) λz=>rfl,JQ  (f:=Cel.rc) λz=>rfl,JQ  (f:=Cel.pc) λz=>rfl,JQ  (f:=Cel.mk) λz=>rfl,JQ  (f:=Cel.mk) λz=>rfl,c.l1,c.l2,ok.l1,ok.l2,d]
 rfl
theorem Kp{P:List AN->V->Prop}:∀ {more kvs:uA},(∀ k v,BG kvs k=some v->P k v)->(∀ b∈more,P b.1 b.2)->∀ k v,BG (EU kvs more) k=some v->P k v
 | [],kvs,h,_=>h
 |p::r,kvs,h,d=>Kp  (kvs:=CD _ _ _) (λk v e=>by
   rw[G1]at e;by_cases z:k=p.1;rw[if_pos z]at e;obtain rfl:=μ e;rw[z];exact d p υ;rw[if_neg z]at e;exact h k v e) λb c=>d b<|ρ _ c
theorem cY:∀ {more kvs:uA} {k:List AN},(BG kvs k).isSome=true->(BG (EU kvs more) k).isSome=true
 | [],_,_,h=>h
 |p::r,kvs,k,h=>cY  (kvs:=CD _ _ _) (by
   rw[G1];split
   rfl;exact h)
theorem Kq:∀ {more kvs:uA} {b:List AN × V},b∈more->(BG (EU kvs more) b.1).isSome=true
 | [],_,_,h=>by cases h
 |p::r,kvs,b,h=>by
  let rfl||h:=aj.mp h
  exact cY  (kvs:=CD _ _ _) (by rw[G1,if_pos rfl];rfl);exact Kq (more:=r) h
def zyw(b:Lv):(FA d n r c w b).length<=2:=by
 cases b<;>simp[FA]
structure DuI(vw:Vw)(n r c w:Nat)(dl:Addr)(H2:Hp)(i:Nat)(kvs:uA)(H':Hp):Prop where
 s:Same H2 H'
 e:H' dl=some (.dT kvs)
 A:∀ k v,BG kvs k=some v->∃ lv∈FH vw,∃ fx∈FA vw n r c w lv,k=pk w fx.1/\CelV H' v fx.2
 B:∀ j lv,j<i->(FH vw)[j]? =some lv->∀ fx∈FA vw n r c w lv,(BG kvs<|pk w fx.1).isSome=true
 l:kvs.length<=2*i
def zyy(ok:EK b):(FH b).length<=400:=by
 let[z,z,z,c,d,e]:=VU ok
 have:=congrArg ji<|Jk b;unfold IM at this;simp only[ae,ε]at this
 lia
def Site.ground(S:Site K a H b d e n r c w rows m g):Ground K a H b d g:=x7 e n r c w _ m ⟨S.tv,S.tl,S.tp,S.la,S.pl,S.rl,S.pv⟩
def Site.same{b d e:Addr}{n r c w:Nat}{rows:aC}{m:Nat}{g:Vw}{i:Hp}(S:Site K a H b d e n r c w rows m g)(s:Same H i):Site K a i b d e n r c w rows m g:={S.tv,S.tl,S.tp,S.la.same s,S.pl.same s,S.rl,S.pv.same s.tk,S.w1,S.w6,S.n6,S.r6,S.c6}
example:(zyz,sX,bR,5):=by
 apply WL;intro ly L cl n r c w rows m p [rfl,S,hf,q]
 have z1:=S.pv.ln
 have z2:=S.pv.lr
 have z3:=S.pv.lp
 have ok:=S.pv.ok
 have n6:=S.n6
 have r6:=S.r6
 have c6:=S.c6
 have rl:=S.rl;refine x3 ly L p {rfl,S.ground,λH1 M=>?_};rw[decide_eq_true hf];refine x3 ly L p {rfl,S.ground.same M,λfo H2 s s2 F2=>?_};rw[hf,r_]at F2
 have F0:=F2;rw[Jk]at F2
 have KW:=M.trans s2;let[ps,N,PF]:=F2;intro dl O;let[H3,zz0,s3,e3]:=EL  O
 have ln:=zyy ok
 have pl:ps.length=(FH p).length:=by rw[PF.length,ε]
 rw[zz0];refine .inl {{_,SqL.of<|s3 _ _ N},G2  (λi σ H'=>(∃ kvs,DuI p n r c w dl H2 i kvs H')/\∃ y,σ=[some _,some _,some _,some _,y]) {{[],{s3,e3,λk v h=>(by cases h),λj u h=>absurd h<|ir _,ο _}},_,rfl} (by intro i σ H' _ [[_,J],_];exact SqL.of<|J.s _ _ N) (λi x σ H4 hx A=>?_) (λσ H4 A=>?_)};let[[kvs,J],y,B]:=A;subst B;rw[ψ,af]at hx;let[fd,efd,rfl]:=hx;let[g,eg,E6]:=KU PF efd;rw[ψ,af]at eg;let[u,D,rfl]:=eg
 have b:=ι D
 have hi:=(ζ.mp D).1;erw[bR4_];refine{.inr<|.inr<|.inl {rfl,.inr ⟨_,J.e⟩},OZ ly L cl fd n r c w _ m p u {rfl,(S.same KW).same J.s,b,J.s _ _ E6,λdm more T hdm s5 e5 PM ap=>?_}}
 have ml:more.length<=2:=by rw[PM.length];exact zyw u
 have U:EA T (upd T dl<|.dT<|EU kvs more):=λy ys Y=>by rw[AI (BJ Y (s5 _ _ J.e) (λz=>nomatch z))];exact Y
 have jl:=J.l;refine x4 dl dm _ _ {rfl,rfl,BK J.e hdm,s5 _ _ J.e,e5,λ_=>ap,BT _ (by lia),_,{λy o Y=>?_,AE,?_,λj lv' hj I l d=>?_,?_}};rw[AI (BK Y O)];exact s5 _ _<|J.s _ _ Y;refine Kp (λk v e=>?_) λkv hkv=>?_;let[lv',h1,l,h2,h3,h4]:=J.A k v e;exact{_,h1,l,h2,h3,CelV.keep U<|CelV.keep s5.tk h4};let[k,ek]:=QX hkv;let[l,efx,h1,h2]:=KU PM ek;exact{u,b,l,ι efx,h1,CelV.keep U h2};by_cases hji:j<i;exact cY<|J.B j _ hji I l d;obtain rfl:j=i:=ke (dq hj) (cm hji);rw[D]at I;obtain rfl:=μ I;let[k,ek]:=QX d;let[kv,ekv,h1,_]:=JC PM ek;rw[<-h1];exact Kq<|ι ekv
 have:=X5 more kvs
 lia
 let[[kvs,J],y,B]:=A
 have S4:=(S.same KW).same J.s;subst B;let[dp,mC]:=S4.pl.ob;let[dp1,hgp1]:=(S.same M).pl.ob;let[tc1,hcl1,_]:=(S.same M).pl.ls;let[tc,BN,_]:=S4.pl.ls
 have nfo:fo≠L/\fo≠cl:={(BK hgp1 s).symm,(BK hcl1 s).symm}
 have ok2:=VZ ok
 have g2:(mended p).rc.length=r*w:=by
  show((τ _).map _).length=_;simp[z2]
 erw[bR6_];refine x9 L cl dl w _ m _ _ _ {rfl,S.tp,S4.pl,by lia,S.w1,S.w6,J.e,S4.pv.asC,zyv ok,cX ok,cX ok2,λf x x' ex mD=>?_,λrows' T P5 hl5 PC5 JW=>?_}
 have A0:f<n*w+r*w+c*w+r*w+c*w:=by
  have:=(ζ.mp ex).1;rw[Jp p ok]at this
  lia
 cases ev:BG _ (pk w f)with
 |none =>
  refine .inl {rfl,?_}
  have:=zyi ok z1 z2 z3 hf A0 λu b l d e=>?_;rw[ex,mD]at this;exact μ this;let[j,I]:=QX b
  have:=J.B j u (by rw[ε,pl];exact(ζ.mp I).1) I l d;rw[e,ev]at this;cases this
 |some v =>
  let[u,b,l,d,e1,e2]:=J.A _ v ev
  have h3:=zyh ok z1 z2 z3 b d;rw[<-(Jz e1),mD]at h3;obtain rfl:=μ h3;exact .inr ⟨v,rfl,e2⟩
 have tk5:EA H4 T:=λy ys e=>JW _ _ e λz=>by
  let z||z:=z
  rw[z,mC]at e;cases e;rw[z,BN]at e;cases e
 exact q fo _ T (M.free s) ((F0.same J.s).on (λo e=>JW _ _ e λz=>z.elim nfo.1 nfo.2) tk5) P5 (by rw[hl5,rl]) (PlV.of PC5 z1 g2 z3 ok2) ((KW.trans J.s).sb.trans JW)
theorem Kv:∀ {b:uE},(∀ j,as.length<=j->C j=false)->sh M C (b++as)=sh M C as
 | [],_=>rfl
 |e::b,h=>by
  rw[pi,EJ (by rw[h _ (by simp)];exact ay)];exact Kv h
def cZ{b:yB}{z:Str}{k:Nat}:LZ (CD b (.inr z) (.int (k:Nat)))=EW (LZ b) z k:=by
 funext y;unfold LZ FV EW;rw[G1];by_cases e:y=z;subst e;rw[if_pos rfl,if_pos rfl];rfl;rw[if_neg (λh=>e<|La h),if_neg e]
def c7{b:yB}{z:Str}{j:Nat}(h:LZ b z=some j):j∈FV b z:=List.mem_of_mem_head? h
def LaidA.off{n r c w:Nat}{cs:yD}{as:uE}{B:Md}(h:LaidA n r c w H cs as)(b:∀ kind k,¬ k<BO n r c w kind->B kind k=.no){C:zC}{kind k:Nat}(d:¬ k<BO n r c w kind):sh B C as kind k=.no:=by
 induction h with
 |nil=>exact b _ _ d
 |@snoc cs as ch x l j o p q s i g =>
  by_cases c:C as.length=true;rw[CY c];unfold Md.put;rw[if_neg (λe=>d (by rw[e.1,e.2];exact i))];exact g;rw[EJ c];exact g
def zy0(b:∀ kind k,FG kind<|B kind k)(h:∀ x∈as,FG x.kind x.x)(kind k:Nat):FG kind (sh B C as kind k):=by
 induction as with
 |nil=>exact b _ _
 |cons x r d =>
  have d:=d λy e=>h y<|ρ _ e;by_cases c:C r.length=true;rw[CY c];unfold Md.put;split;rename_i z;rw[z.1];exact h x υ;exact d;rw[EJ c];exact d
section
variable{X:SX}{cs:yD}{tks:yB}{M:Hs}
theorem SM.out(I:X.at a H cs tks M){j:Nat}(i:cs.length<=j):X.outs j=false:=by
 let[l,e,c,d]:=I.bk.bk.out;cases b:X.outs j with
 |false=>rfl
 |true =>
  rw[<-c,<-K4]at b;let[p,g,n]:=dn.mp b
  have:=d.2 p g
  lia
def C6.more{g:Hp}{ex:yD}{b:yB}{d:Hs}(I:C6 a H X cs tks M)(r:X.at a g (cs++ex) b d)(sb:SameBut (λx=>X.S.A.F x\/x=X.S.tk) H g)(s:∃ o,Hist X.m0 d.b d.as (LZ b) o)(n:d.b=M.b)(hs:∃ i,d.as=i++M.as/\∀ x∈i,FG x.kind x.x):C6 a g X (cs++ex) b d:=by
 let[i,he,u]:=hs
 have out:∀ j:Nat,cs.length<=j->X.outs j=false:=λj l=>I.st.out l;refine{r,s,n ▸ I.bo,λk c p o=>?_,?_,I.few,λx e=>?_,I.w1};by_cases q:k<cs.length;rw[bc q]at p;exact I.cut k c p o;rw[out k (cm q)]at o;cases o;rw[n,he,Kv λj l=>out j (by rw[I.st.la.len];exact l)];exact I.rows.keep (KQ sb λx e=>e.elim (λh=>I.st.bk.loose h) λh=>by rw[h];exact NZ I.st.tk);rw[he]at e;let h||h:=bd.mp e
 exact u x h;exact I.ok x h
def WB{m:Nat}{z:Str}(h:cellOf M m z=none):∀ j r,j<m->M 0 j≠.nm z r:=λj r b e=>by
 have:=jz.mp h j<|ak.mpr b;unfold EZ at this;rw[e]at this;simp at this
def c8{cell:Nat}(h:HA 0 (M 0 cell)=true):M 0 cell=.no:=by
 cases e:M 0 _ with
 |no=>rfl
 |_=>rw[e]at h;simp[HA]at h
def Kw{kind k:Nat}(h:HA kind (M kind k)=true):M kind k≠.mk 1:=λe=>by
 rw[e]at h;simp[HA]at h
def C6.snd(I:C6 a H X cs tks M):Snd X.m0 (sh M.b X.C M.as):=by
 let[o,b]:=I.hi;exact b.sd _<|I.st.la.cut I.cut
def C6.now(I:C6 a H X cs tks M):Snd X.m0 M.f:=by
 let[o,b]:=I.hi;exact b.now
def C6.inl(I:C6 a H X cs tks M)(C:zC):InL X.n X.r X.c X.w (sh M.b C M.as):={λz z h=>I.st.la.off I.bo.no h,zy0 I.bo.ok I.ok}
end
def Snd.few{n r c w:Nat}{S:Md}(s:Snd (n*w) S)(b:InL n r c w S){q m:Nat}{ps:wD}(h:S 3 q=.rc m ps):(∀ p∈ps,p<c*w)/\ps.length<=c*w:=by
 have lt:∀ p∈ps,p<c*w:=λp d=>by
  have e:=(s.pm q m ps h p d).1;let z||z:=fe p _
  exact z;rw[b.no 2 p (λg=>nL g z)]at e;cases e
 have:=uu (s.nd q m ps h)  λp d=>ak.mpr<|lt p d;rw[cr]at this;exact⟨lt,this⟩
def Snd.rl{n r c w:Nat}{S:Md}(s:Snd (n*w) S)(b:InL n r c w S){k q:Nat}{z:Str}(d:k<n*w)(e:S 0 k=.nm z q):∃ m ps,q<r*w/\S 3 q=.rc m ps:=by
 refine u2 ?_<|s.nl k z q d e;rintro m ps g;refine x2 m ps {?_,g};let h||h:=fe q _
 exact h;rw[b.no 3 q (λd=>nL d h)]at g;cases g
section
variable{X:SX}{cs:yD}{tks:yB}{M:Hs}
def C6.ps(I:C6 a H X cs tks M){r m:Nat}{ps:wD}(h:M 3 r=.rc m ps):(∀ p∈ps,p<X.c*X.w)/\ps.length<=18:=by
 have:=I.now.few (I.inl _) h;exact{this.1,χ this.2 I.few}
def C6.rl(I:C6 a H X cs tks M){k b:Nat}{z:Str}(c:k<X.m0)(e:M 0 k=.nm z b):∃ m ps,b<X.r*X.w/\M 3 b=.rc m ps:=I.now.rl (I.inl _) c e
def SM.sbG{G:Addr->Prop}{e:Hp}(I:X.at a H cs tks M)(s:SameBut G H e)(g:∀ x,G x->EV (H x))(f:∀ x,G x->¬ X.S.A.F x/\x≠X.S.tk):X.at a e cs tks M:=by
 let[[l,i],j,n,o,p,q,r,u,w,b,c,d]:=I;let[dl,y]:=j.ob
 have tk:=KQ s g;exact{{l,s _ _ i λz=>(g _ z).2 _ _ _ i},j.sb s λz=>(g _ z).2 _ _ _ y,n.sb s g λx B=>(f x B).1,s _ _ o λz=>(f _ z).2 rfl,p,q,r,u,w.keep tk,λkind k v h1 h2 D=>(b _ k v h1 h2 D).keep tk,c,d.keep tk}
def C6.sbG{G:Addr->Prop}{b:Hp}(I:C6 a H X cs tks M)(s:SameBut G H b)(g:∀ x,G x->EV (H x))(f:∀ x,G x->¬ X.S.A.F x/\x≠X.S.tk):C6 a b X cs tks M:={I.st.sbG s g f,I.hi,I.bo,I.cut,I.rows.keep<|KQ s g,I.few,I.ok,I.w1}
def C6.same{b:Hp}(I:C6 a H X cs tks M)(s:Same H b):C6 a b X cs tks M:={I.st.same s,I.hi,I.bo,I.cut,I.rows.keep s.tk,I.few,I.ok,I.w1}
def C6.write(I:C6 a H X cs tks M)(d:X.rows[b]? =some row)(g:(X.wr cs b row).at a c cs tks M)(sb:SameBut (λx=>X.S.A.F x\/x=X.S.A.gp) H c):C6 a c (X.wr cs b row) cs tks M:=by
 let[j,i]:=I.st.bk.pk.ob;exact{g,I.hi,I.bo,zjm I.cut b,(I.rows.write I.st.la d).keep (λy ys e=>sb _ _ e λz=>z.elim (λz=>(I.st.bk.loose z).1 _ e) λz=>by rw[z,i]at e;cases e),I.few,I.ok,I.w1}
end
def Kx:Nat->CV->Cel
 |0,x=>.nm<|OD x
 |1,x=>.mk<|GW x
 |2,x=>.mk<|GW x
 |3,x=>.rc<|MX x
 |_,x=>.pc<|RL x
def HD(n r c kind:Nat):Nat:=if kind=0 then 0 else if kind=1 then n+r+c else if kind=2 then n+r+c+r else if kind=3 then n else n+r
def Ky(b:kind<5)(ok:FG kind x):RepC H x v↔CelV H v (Kx kind x):=by
 let _||_||_||_||_||k:=kind
 all_goals cases x<;>first|exact ok.elim|exact Ls
section
variable{n r c w:Nat}{S:Md}
def Kz(k:Nat):AY (B9 n r c w S).nm k=if k<n*w then OD (S 0 k)else none:=L6
def Lb(k:Nat):AY (B9 n r c w S).rc k=if k<r*w then MX (S 3 k)else none:=L6
def Lc(k:Nat):AY (B9 n r c w S).pc k=if k<c*w then RL (S 4 k)else none:=L6
def Ld(k:Nat):AY (B9 n r c w S).rm k=if k<r*w then GW (S 1 k)else none:=L6
def Lg(k:Nat):AY (B9 n r c w S).pm k=if k<c*w then GW (S 2 k)else none:=L6
def JR:(B9 n r c w S).nm.length=n*w:=by simp[B9]
def JS:(B9 n r c w S).rc.length=r*w:=by simp[B9]
def L7:(B9 n r c w S).pc.length=c*w:=by simp[B9]
def InL.rc(b:InL n r c w S)(k:Nat):AY (B9 n r c w S).rc k=MX (S 3 k):=by
 rw[Lb];split
 rfl;rename_i h;rw[b.no 3 k (h)];rfl
def InL.nm(b:InL n r c w S)(k:Nat):AY (B9 n r c w S).nm k=OD (S 0 k):=by
 rw[Kz];split
 rfl;rename_i h;rw[b.no 0 k (h)];rfl
def InL.pc(b:InL n r c w S)(k:Nat):AY (B9 n r c w S).pc k=RL (S 4 k):=by
 rw[Lc];split
 rfl;rename_i h;rw[b.no 4 k (h)];rfl
def InL.rm(b:InL n r c w S)(k:Nat):AY (B9 n r c w S).rm k=GW (S 1 k):=by
 rw[Ld];split
 rfl;rename_i h;rw[b.no 1 k (h)];rfl
def InL.pm(b:InL n r c w S)(k:Nat):AY (B9 n r c w S).pm k=GW (S 2 k):=by
 rw[Lg];split
 rfl;rename_i h;rw[b.no 2 k (h)];rfl
def zy1(h:OD x=some (z,q)):x=.nm z q:=by
 cases x<;>simp[OD]at h;rw[h.1,h.2]
def zy2(h:MX x=some d):∃ m:Nat,x=.rc m d.2/\d.1=m:=by
 cases x with
 |rc m ps=>cases h;exact⟨m,rfl,rfl⟩
 |_=>cases h
def zy3(h:RL x=some z):x=.tx z:=by
 cases x with
 |tx y=>cases h;rfl
 |_=>cases h
def R7(q:Nat):led (B9 n r c w S) q=ld (n * w) S q:=by
 unfold led ld MV B9;generalize τ _=l
 induction l with
 |nil=>rfl
 |cons k l b =>
  rw[cg,yl];cases e:S 0 k with
  |nm z d =>
   show List.count q (d::_)=_;rw[List.count_cons,b]
   rfl
  |_=>exact b
def Lh(h:0<ld (n*w) S q):∃ k z,k<n*w/\S 0 k=.nm z q:=by
 let[k,d,e]:=vo.mp h;cases b:S 0 k with
 |nm z g =>
  rw[b]at e
  have:g=q:=by simpa [GS]using e
  exact x2 k z {ak.mp d,by rw[<-this];exact b}
 |_=>rw[b]at e;cases e
def Lj(b:k<n*w)(e:S 0 k=.nm z q):0<ld (n*w) S q:=vo.mpr {k,ak.mpr b,by rw[e];simp[GS]}
def zy4(b:InL n r c w S)(h:0<E9 (B9 n r c w S) p):∃ q m ps,S 3 q=.rc m ps/\p∈ps:=by
 let[d,hd,g]:=uw.mp<|Co.mp h;let[k,i,rfl]:=av.mp hd;cases e:S 3 k with
 |rc m ps=>rw[e]at g;exact x3 k m ps ⟨e,g⟩
 |_=>rw[e]at g;cases g
def zy5(s:Snd (n * w) S)(p:Nat):E9 (B9 n r c w S) p<=1:=by
 refine Aa.mp (List.pairwise_flatMap.mpr {λd hd=>?_,List.pairwise_map.mpr<|ip.imp λ{i j} l x b y g z=>?_}) p;let[k,v,rfl]:=av.mp hd;cases e:S 3 k with
 |rc m ps=>exact s.nd k m ps e
 |_=>exact .nil
 cases e:S 3 i with
 |rc m ps =>
  cases o:S 3 j with
  |rc q u =>
   rw[e]at b;rw[o]at g;exact s.dj i j m q ps _ (bh l) e o x b (z ▸ g)
  |_=>rw[o]at g;cases g
 |_=>rw[e]at b;cases b
def M9(h:∀ k,k<n->p k=false):DM n p f=[]:=by
 unfold DM;rw[yz.mpr λk b=>by rw[h k (ak.mp b)];exact ay]
 rfl
def Snd.fault(s:Snd (n * w) S)(b:InL n r c w S):faults (B9 n r c w S)=[]:=by
 have pm:∀ {p},0<E9 _ p->S 2 p=.mk 1/\∃ t,S 4 p=.tx t:=λ{p} h=>by
  refine u3 ?_<|zy4 b h;intro q m ps [e,g];exact s.pm q m ps e p g
 have o:∀ k,k<(B9 n r c w S).nm.length->HS _ k=false:=λk d=>by
  unfold HS;rw[b.nm];cases e:S 0 k with
  |nm z q =>
   refine u2 ?_ (s.nl k z q (by rw[JR]at d;exact d) e);rintro m ps i
   show(AY _ q).isNone=false;rw[b.rc,i];rfl
  |_=>rfl
 have u:∀ k,k<(B9 n r c w S).nm.length->IL _ k=false:=λk d=>by
  unfold IL;rw[b.nm];cases e:S 0 k with
  |nm z q =>
   show List.any _ _=false;rw[xc];intro j l
   have l:=ak.mp l;rw[b.nm];cases v:S 0 j with
   |nm x A =>
    have d:k<n*w:=by rw[JR]at d;exact d
    show ¬ decide _=true;rw[decide_eq_true_eq];rintro rfl
    have:=s.un j k x A q (yu l d) d v e
    lia
   |_=>exact ay
  |_=>rfl
 have B:∀ p,p<(B9 n r c w S).pc.length->decide (1<E9 (B9 n r c w S) p)=false:=λp g=>by
  have:=zy5 (r:=r) (c:=c) s p
  lia
 have D:∀ p,p<(B9 n r c w S).pc.length->(decide _&&(AY _ p).isNone)=false:=λp g=>by
  by_cases h:0<E9 (B9 n r c w S) p;let[y,t,e]:=pm h;rw[b.pc,e,decide_eq_true h];rfl;rw[decide_eq_false h];rfl
 have I:∀ q,q<(B9 n r c w S).rc.length->JN _ q=false:=λq J=>by
  unfold JN;rw[b.rc];cases e:S 3 q with
  |rc m ps =>
   have:=s.ct q m ps e
   show decide _=false;rw[R7];lia
  |_=>rfl
 have L:∀ q,q<(B9 n r c w S).rc.length->(decide (0<led (B9 n r c w S) q) && !decide (AY (B9 n r c w S).rm q=some 1))=false:=λq J=>by
  rw[R7,b.rm];by_cases h:0<ld (n*w) S q;refine u2 ?_<|Lh h;intro k z [d,e];refine u2 ?_<|s.nl k z q d e;rintro m ps i;rw[s.mr q m ps i,decide_eq_true h];rfl;rw[decide_eq_false h];rfl
 have M:∀ p,p<(B9 n r c w S).pc.length->(decide _ && !decide (AY (B9 n r c w S).pm p=some 1))=false:=λp g=>by
  by_cases h:0<E9 (B9 n r c w S) p;rw[b.pm,(pm h).1,decide_eq_true h];rfl;rw[decide_eq_false h];rfl
 unfold faults RF RG RH;rw[M9 o,M9 u,M9 B,M9 D,M9 I,M9 L,M9 M]
 rfl
end
section
variable{n r c w:Nat}{S:Md}
def Ll(e:S 3 k=.rc m ps)(h:0<ld (n*w) S k):D7 n r c w S 3 k=.rc (ld (n*w) S k) ps:=by
 unfold D7;simp only[ma,if_false,if_true,e];rw[if_neg (je h)]
def OR(h:D7 n r c w S 3 k=.rc m ps):∃ b,S 3 k=.rc b ps/\0<ld (n*w) S k/\m=ld (n*w) S k:=by
 unfold D7 at h;simp only[ma,if_false,if_true]at h;cases e:S 3 k with
 |rc b d =>
  rw[e]at h;simp only at h;split at h;cases h;cases h;exact{b,rfl,by lia,rfl}
 |_=>rw[e]at h;cases h
def Snd.mended(s:Snd (n*w) S)(b:InL n r c w S):Snd (n*w) (D7 n r c w S):=by
 refine{λk z q i e=>?_,λq m ps e=>?_,λq m ps e=>?_,λq m ps e=>?_,λq m ps e p l=>?_,λq o m g ps u v e A=>?_,s.un};refine u2 ?_<|s.nl k z q i e;rintro m ps d;exact x2 _ _<|Ll d<|Lj i e;let[g,x,x,rfl]:=OR e;exact a_<|(λq=>rfl) q;let[g,d,h,x]:=OR e;unfold D7;simp only[d];rw[if_neg (je h)];exact s.mr q g ps d;let[g,d,x,x]:=OR e;exact s.nd q g ps d;let[g,d,h,x]:=OR e;let[h2,h4]:=s.pm q g ps d p l;refine{?_,h4};unfold D7;simp only[h2]
 have:0<HR (B9 n r c w S) p:=by
  refine Co.mpr (uw.mpr {_,av.mpr {q,de.mpr {ak.mpr ?_,?_},b.rc q},by rw[d];exact l});rw[JS];refine u2 ?_<|Lh h;intro k y [i,B];refine u2 ?_<|s.rl b i B;intro x x [h',x];exact h';rw[R7];exact decide_eq_true h
 lia
 let[x,d,x,x]:=OR e;let[x,j,x,x]:=OR A;exact s.dj q o _ _ ps _ v d j
def InL.mended(b:InL n r c w S):InL n r c w (D7 n r c w S):=by
 constructor;intro kind k h
 have e:=b.no _ k h;unfold D7;split;rename_i z;subst z;rw[e,b.no 3 k<|h];split;rename_i z;subst z;rw[e];split;rename_i z;subst z;rw[e];exact e;intro kind k
 have e:=b.ok kind k;unfold D7;split;rename_i z;subst z;cases g:S 3 k with
 |rc m ps =>
  show FG 1 (if _ then _ else _);split;exact bg 1;exact e
 |_ =>
  cases d:S 1 k with
  |mk i =>
   show FG 1 (if _ then _ else _);rw[d]at e;split;exact bg 1;exact e
  |_=>rw[d]at e;exact e
 split;rename_i z;subst z;cases d:S 2 k with
 |mk i =>
  show FG 2 (if _ then _ else _);rw[d]at e;split;exact bg 1;exact e
 |_=>rw[d]at e;exact e
 split;rename_i z;subst z;cases d:S 3 k with
 |rc m ps =>
  show FG 3 (if _ then _ else _);split
  trivial
  trivial
 |_=>rw[d]at e;exact e
 exact e
def c9{α :Type}{f g:Nat-> α}{m:Nat}(h:∀ k,k<m->f k=g k):(τ m).map f=(τ m).map g:=vn λk b=>h k<|ak.mp b
def zy6(b:InL n r c w S):mended (B9 n r c w S)=B9 n r c w (D7 n r c w S):=by
 unfold mended;rw[JS,L7]
 have d:(τ _).map (FX _)=(τ<|r*w).map λk=>MX (D7 n r c w S 3 k):=c9 λk y=>by
  unfold FX D7;rw[b.rc,R7];cases e:S 3 k with
  |rc m ps =>
   show(if ld _ S k=0 then none else some _)=MX _;split<;>rfl
  |_=>rfl
 have g:(τ _).map (KN _)=(τ<|r * w).map λk=>GW (D7 n r c w S 1 k):=c9 λk y=>by
  unfold KN D7;rw[b.rc,b.rm,R7];cases e:S 3 k with
  |rc m ps =>
   show(if ld _ S k=0 then some 0 else GW _)=GW _;split<;>rfl
  |_ =>
   cases d:S 1 k with
   |mk i =>
    show(if(some (i:Int))=some 1 then some 0 else some _)=GW (if i=1 then .mk 0 else .mk i);by_cases h:i=1;subst h;rfl;rw[if_neg h,if_neg (λz=>h (by exact ce<|μ z))];rfl
   |_=>rfl
 have j:(τ _).map (MW _)=(τ<|c*w).map λk=>GW (D7 n r c w S 2 k):=c9 λk y=>by
  unfold MW D7;rw[b.pm];cases d:S 2 k with
  |mk i =>
   show(if some (i:Int)=some 1/\HR _ k=0 then some 0 else some _)=GW (if i=1/\HR _ k=0 then .mk 0 else .mk i);by_cases h:i=1/\HR (B9 n r c w S) k=0;rw[if_pos h,if_pos {by rw[h.1];rfl,h.2}];rfl;rw[if_neg h,if_neg<|λz=>h {ce<|μ z.1,z.2}];rfl
  |_=>rfl
 rw[d,g,j]
 rfl
def Lm(ok:EK (B9 n r c w S))(h1:kind<5)(b:k<BO n r c w kind):(D3<|B9 n r c w S)[HD n r c kind*w+k]? =some (Kx kind<|S kind k):=by
 unfold BO at b;unfold HD;let _||_||_||_||_||kind:=kind
 ·simp only[if_true,vz,kq]at b ⊢;rw[cU JR b,Kz,if_pos b];rfl
 ·simp only[ma,if_false,if_true,kq,dv]at b ⊢;rw[R5 ok JR JS L7 b,Ld,if_pos b];rfl
 ·simp only[ma,if_false,if_true,kq,yb,dv]at b ⊢;rw[V0 ok JR JS L7 b,Lg,if_pos b];rfl
 ·simp only[ma,if_false,if_true,kq,yb]at b ⊢;rw[OQ JR JS b,Lb,if_pos b];rfl
 ·simp only[ma,if_false,if_true,kq,yb,dv]at b ⊢;rw[cV JR JS L7 b,Lc,if_pos b];rfl
 ·lia
def zy7(b:1<=w):BI n r c w kind k=(HD n r c kind*w+k)/w/\k%w=(HD n r c kind*w+k)%w:=by
 constructor;rw[da,nj<|b];rfl;rw[da,ni]
def zy8(hf:f<(n+r+c+r+c)*w):∃ kind k,kind<5/\k<BO n r c w kind/\f=HD n r c kind*w+k:=by
 simp only[dv]at hf;refine Jq (N:=n*w) (R:=r*w) (P:=c*w) (A:=λf=>∃ kind k,kind<5/\k<BO n r c w kind/\f=HD n r c kind*w+k) (λh=>x2 0 f {by decide,h,by simp[HD]}) (λk h=>x2 3 k {by decide,h,rfl}) (λk h=>x2 4 k {by decide,h,by simp[HD,dv]}) (λk h=>x2 1 k {by decide,h,by simp[HD,dv]}) (λk h=>x2 2 k {by decide,h,by simp[HD,dv]}) hf
def zy9{α b :Type}{F: α -> b ->Prop}:∀ {l:List α} {m:List b},l.length=m.length->(∀ (i:Nat) x y,l[i]? =some x->m[i]? =some y->F x y)->Paired F l m:=by
 intro l m h f
 induction l generalizing m with
 |nil=>rw[List.eq_nil_of_length_eq_zero h.symm];exact .nil
 |cons x l d=>cases m with
  |nil=>cases h
  |cons y m=>exact .cons (f 0 x y rfl rfl) (d (Fa h) λi=>f<|i+1)
def WC(P:PlankAt a H x y w rows m)(b:1<=w)(rl:rows.length=n+r+c+r+c)(h1:kind<5)(o:k<BO n r c w kind):∃ v,(rows[BI n r c w kind k]?).bind (λq=>q[k%w]?)=some v/\rows.flatten[HD n r c kind*w+k]? =some v/\∃ q∈rows,v∈q:=by
 let[g,p]:=zy7      b
 have s:HD n r c kind*w+k<(n+r+c+r+c)*w:=by
  refine ω (Nat.add_lt_add_left o _) ?_;unfold BO;rw[<-dv];refine vg _ ?_;unfold HD;let _||_||_||_||_||kind:=kind<;>simp<;>lia
 have i:BI n r c w kind k<rows.length:=by rw[rl,g];exact(ul<|b).mpr s
 have j:k%w<w:=tj _<|b
 have d:=θ i
 have u:=P.wd _<|ι d
 have l:=θ (show k%w<(rows[BI n r c w kind k]).length by rw[u];exact j)
 have e:(rows[BI n r c w kind k]?).bind (λq=>q[k%w]?)=some ((rows[BI n r c w kind k])[k%w]):=by rw[d];exact l
 refine{_,e,?_,_,ι d,ι l};rw[<-e,<-VX P.wd i j,g,p,Hf]
def zza(P:PlankAt a H U Y w rows m)(u:1<=w)(sz:n<=6/\r<=6/\c<=6/\w<=6/\rows.length=n+r+c+r+c)(few:c*w<=18)(A:Q5 H rows)(R:RowsAre H n r c w rows S)(b:InL n r c w S)(s:Snd (n*w) S):EK (B9 n r c w S):=by
 let[D,I,z3,J,rl]:=sz
 have B:∀ {x:Nat},x<=6->x*w<=36:=λ{x} h=>io h J;refine{λd hd=>?_,λd hd=>?_,λz hz=>?_,by simp[B9],by simp[B9],by rw[JR];exact oA (B D) rfl,by rw[JS];exact oA (B I) rfl,by rw[L7];exact oA few rfl};let[k,g,e]:=av.mp hd
 have g:=ak.mp g
 have e:=zy1   e;rw[JS];refine u2 ?_<|s.rl b g e;intro y y [L,y];refine{L,?_};let[v,o,y,q,j,i]:=WC    P u rl (kind:=0)  (by decide) (g)
 have l:=R 0 k v (by decide) (g) o;rw[e]at l;let[t,rfl,M]:=l;let[xs,ex,y,N]:=A q j _ i;rw[M]at ex;cases ex;exact N _ υ;let[k,g,e]:=av.mp hd;let[m,O,y]:=zy2 e
 have:=s.few b O;exact{λp T=>by rw[L7];exact this.1 p T,oA (χ this.2 few) rfl};let[k,g,e]:=av.mp hz;let[v,o,y,q,j,i]:=WC    P u rl (kind:=4)  (by decide) (by simpa [BO]using g)
 have l:=R 4 k v (by decide) (by simpa [BO]using g) o;rw[(zy3 e)]at l;rw[l]at i;exact A q j _ i
def RowsAre.plv{rows:aC}(R:RowsAre H n r c w rows S)(P:PlankAt a H o p w rows m)(j:1<=w)(rl:rows.length=n+r+c+r+c)(b:InL n r c w S)(ok:EK (B9 n r c w S)):PlV H rows n r c w (B9 n r c w S):=by
 refine PlV.of (zy9 ?_ λf v x e g=>?_) JR JS L7 ok;rw[WA P.wd,Jp _ ok,JR,JS,L7,rl];simp only[dv]
 have hf:=(ζ.mp e).1;rw[WA P.wd,rl]at hf;refine u2 ?_<|zy8 hf;intro kind k [h1,d,rfl];rw[Lm ok h1 d]at g;let[q,l,i,z]:=WC P j rl h1 d;obtain rfl:=μ g;rw[e]at i;obtain rfl:=μ i;exact(Ky h1<|b.ok _ _).mp (R _ k v h1 d l)
def PlV.rows{g i:Addr}{m:Nat}{rows:aC}(L:PlV H rows n r c w (B9 n r c w S))(P:PlankAt a H g i w rows m)(j:1<=w)(rl:rows.length=n+r+c+r+c)(b:InL n r c w S):RowsAre H n r c w rows S:=λkind k v h1 e l=>by
 let[q,d,o,z]:=WC P j rl h1 e;rw[l]at d;obtain rfl:=μ d;let[x,ex,p]:=cN L.asC o;rw[Lm L.ok h1 e]at ex;obtain rfl:=μ ex;exact(Ky h1<|b.ok _ _).mpr p
def PlV.good{rows:aC}{g:Vw}(L:PlV H rows n r c w g):Q5 H rows:=λq l v o=>by
 let[f,hf]:=List.mem_iff_getElem?.mp<|List.mem_flatten.mpr ⟨q,l,o⟩;let[x,ex,b]:=cN L.asC hf
 have ok:=cX L.ok x<|ι ex;cases x with
 | nm d =>
  cases d with
  |none=>rw[b];trivial
  |some d =>
   let[t,rfl,e]:=b;exact⟨_,e,by simp,λu j=>by
    simp only[aj,bx,or_false]at j;let rfl||rfl:=j
    exact ok
    trivial⟩
 | rc d =>
  cases d with
  |none=>rw[b];trivial
  |some d =>
   revert b;apply u2;intro t u [rfl,e,p]
   have hd:some d∈g.rc:=by
    have:=ι ex;unfold D3 at this;simp only[bd,av,reduceCtorEq,and_false,exists_false,false_or,or_false,Cel.rc.injEq,exists_eq_right]at this;exact this
   exact⟨_,e,by simp,λx b=>by
    simp only[aj,bx,or_false]at b;let rfl||rfl:=b
    trivial
    refine{_,p,by simp[AO];exact oA ((L.ok.n2 d hd).2) rfl,λy s=>?_};let[i,z,rfl]:=av.mp s
    trivial⟩
 |pc d =>
  cases d with
  |none=>rw[b];trivial
  |some d=>rw[b];exact ok
 |mk d =>
  cases d with
  |none=>rw[b];trivial
  |some d=>rw[b];trivial
end
def zzb(s:Snd m0 S):∃ o,Hist m0 S [] (LZ []) o:={λz=>none,λz z=>s,λz z z z z=>rfl,λz z=>rfl,λz z z z z z z=>Ls}
def Lp{Q:Addr->Hp->Prop}{E:XK}(G:Gnd K a b j l p n r c w rows nn S)
  (q:∀ (X:SX) (d:Hp),X.S.lp=j->X.S.A.gp=l->X.S.A.cl=p->X.n=n->X.r=r->X.c=c->X.w=w->(∀ y o,b y=some o->y=p\/¬ X.S.A.F y)->b X.S.tk=none->C6 a d X [] [] {S,[]}->Same b d->Q X.S.st d) :
  ∀ x g,b x=none->b g=none->g≠x->Q7 K a [.ref x,.ref j,.ref l] (upd (upd b g<|.own x) x (.ins (a "Store") g [])) (λv d=>v=.non/\Q x d) E:=λx g u J nd=>by
 have i:Same b (upd (upd b g<|.own x) x (.ins (a "Store") g [])):=(AL J).trans (AL (by rw[AI nd.symm];exact u));refine OZ x g j l p n r c w _ nn S {rfl,G.t4,AE,G.la.same i,G.pl.same i,G.sz,λq L v s=>(G.gd q L v s).keep i.tk,λkind k v h1 M s=>(G.rw.keep i.tk) _ k v h1 M s,λkind k z z=>G.bo.ok _ k,λN d O T U Y off B I sb=>{rfl,?_}}
 have D:Same b d:=λy o e=>sb _ _ (i _ _ e) (BK e u)
 have:=q {N,n,r,c,w,_,nn,λz=>false} d T U Y rfl rfl rfl rfl (λy o e=>off y o<|i _ _ e) (by
  cases e:b _ with
  |none=>rfl
  |some o=>rw[i _ _ e]at B;cases B) {I,zzb G.sd,G.bo,λk c ec=>by simp at ec,G.rw.keep D.tk,G.few,λz h=>by simp at h,G.w1} D
 rw[<-O];exact this
def zzc(h:ZX K a vs H Q E):bR K a (λ_=>E) (AW Q) (AX ["layout","plank","finds","due","find"] vs) H:=zyz h
def Gnd.site(G:Gnd K a H d e g n r c w rows nn S):Site K a H d e g n r c w rows nn (B9 n r c w S):=by
 let[i,j,l,o,b]:=G.sz;exact{G.tv,G.t4.2.2.1,G.t4.2.1,G.la,G.pl,b,G.rw.plv G.pl G.w1 b G.bo<|zza G.pl G.w1 G.sz G.few G.gd G.rw G.bo G.sd,G.w1,o,i,j,l}
example:(zzd,ZY,Dj,2):=by
 apply WL;intro s g j n r c w rows nn S [rfl,G,q];let[dl,l]:=G.la.ob;let[dp,D]:=G.pl.ob;let[tc,I,x]:=G.pl.ls
 have u:¬ (s=g\/s=j):=λz=>by
  let z||z:=z
  rw[z,D]at l;injection l with z;injection z with _ _ z;exact absurd (congrArg ji z) (by simp[pf,lf])
  rw[z,I]at l;cases l
 refine WK s g j n r c w _ nn _ {rfl,G.site,G.sd.fault G.bo,λfo v J L F2 i B b p=>?_};rw[zy6 G.bo]at b;refine Lp  {G.tv,G.t4,G.la.sb p u,i,⟨G.sz.1,G.sz.2.1,G.sz.2.2.1,G.sz.2.2.2.1,B⟩,G.few,G.w1,b.good,b.rows i G.w1 B G.bo.mended,G.bo.mended,G.sd.mended G.bo} λX M N O T U Y e6 e7 off ht C s3=>?_
 have old:∀ y,J y=none->H y=none:=λy e=>by
  cases e':H y with
  |none=>rfl
  |some o =>
   by_cases z:y=g\/y=j;let z||z:=z
   let[x,d]:=i.ob;rw[z,d]at e;cases e;let[x,A,x]:=i.ls;rw[z,A]at e;cases e;rw[p _ _ e' z]at e;cases e
 refine q X M N O T U Y e6 e7 (λy o e=>?_) (old _ ht) C (p.trans<|Same.sb s3);by_cases z:y=g\/y=j;let z||z:=z
 let[x,d]:=i.ob;rw[z];exact off g _ d;exact .inl z;exact off y o<|p _ _ e z
def C6.gnd(I:C6 a H X cs b M)(c:TV K a)(d:CZ K a):Gnd K a H X.S.lp X.S.A.gp X.S.A.cl X.n X.r X.c X.w X.rows X.nn (sh M.b X.C M.as):={c,d,I.st.ly,I.st.bk.pk,I.st.sz,I.few,I.w1,I.st.gd.1,I.rows,I.inl _,I.snd}
def E3{M:Hs}{kind k:Nat}{x:CV}{nd:wD}:(M.put kind k x nd).f=M.f.put kind k x:=rfl
def FJ{c kind k:Nat}{S:Md}{x:CV}(h:kind≠2):DU c (S.put kind k x)=DU c S:=by
 unfold DU
 congr 1
 funext j;rw[MS h.symm]
def dA{k:Nat}{S:Md}{x:CV}:∀ {c:Nat},k<c->DU c (S.put 2 k x)+(if RQ (S 2 k)then 1 else 0)=DU c S+(if RQ x then 1 else 0):=by
 intro c;unfold DU
 induction c with
 |zero=>intro h;exact nZ h
 |succ n d =>
  rw[ca,tq,tq];simp only[yl,Ii];by_cases e:k=n;subst e
  have:(τ k).countP (λj=>RQ<|(S.put 2 k x) 2 j)=(τ k).countP (λj=>RQ _):=Fn λj b=>by
   rw[DS (bh<|ak.mp b)]
  rw[CT]
  lia
  rw[DS (λz=>e z.symm)]
  lia
theorem Lq{c d:Nat}:∀ {ps:wD} {M:Hs},ps.Nodup->(∀ p∈ps,p<c/\M 2 p=.mk 1)->DU c (M.unmark d ps).f+ps.length=DU c M.f
 | [],_,_,_=>rfl
 |p::ps,M,i,h=>by
  let[h1,h2]:=gz.mp i;let[j,e]:=h p υ
  have l:=Lq  (d:=d)  (M:=M.put 2 p (.mk 0) [d]) h2 λq b=>⟨(h q<|ρ _ b).1,by
   rw[Hs.put_at,if_neg<|λ(z:2=2/\q=p)=>h1<|z.2 ▸ b];exact(h q<|ρ _ b).2⟩
  have g:=dA (S:=M.f) (x:=.mk 0) j;rw[e]at g
  have g:DU c (M.put 2 p _ [d]).f+1=DU c _+0:=g
  show DU c ((M.put 2 p _ _).unmark d ps).f+_=_;rw[bw]
  lia
theorem R8:∀ {ps:wD} {M:Hs},(M.unmark d ps).as=(ps.map λp=>({2,p,.mk 0,[d]}:AC)).reverse++M.as/\(M.unmark d ps).b=M.b
 | [],_=>⟨rfl,rfl⟩
 |p::ps,M=>by
  have:=R8 (d:=d) (ps:=ps) (M:=M.put 2 p (.mk 0) [d]);refine{?_,this.2};rw[cg,nz,dt];exact this.1
section
variable{X:SX}{M:Hs}{y:Str}{ts:aD}{kind k:Nat}{x:CV}{nd:wD}
def OutAt.put{i j:Nat}(h:OutAt X M i j)(n:¬ (kind=i/\k=j)):OutAt X (M.put kind k x nd) i j:=λq e=>by
 have e:(if kind=i/\k=j then some _ else G8 i j _)=some q:=e;rw[if_neg n]at e;exact h q e
def KX.hand(h:KX X M y ts):∃ k r m ps,k<X.m0/\M 0 k=.nm y r/\M 3 r=.rc m ps/\Paired (λp t=>M 4 p=.tx t) ps ts:=by
 revert h;apply u3;intro k r ps [b,e,o,f];let[[m,c],P]:=f (λz=>true) (UR _) λz z=>rfl;exact x4 k r m ps ⟨b,e,c,P⟩
def KX.put(h:KX X M y ts)(h0:kind=0->∀ r,M 0 k≠.nm y r)(h3:kind=3->∀ m ps,M 3 k=.rc m ps->(∃ j,j<X.m0/\M 0 j=.nm y k)->∃ b,x=.rc b ps)(h4:kind≠4):KX X (M.put kind k x nd) y ts:=by
 revert h;apply u3;intro k0 r ps [g,e,o,f]
 have ne:¬ (kind=0/\k=k0):=λz=>h0 z.1 r (by rw[z.2];exact e);refine x3 k0 r ps {g,by rw[Hs.put_at,if_neg<|λz=>ne ⟨z.1.symm,z.2.symm⟩];exact e,o.put ne,λC l n=>?_};let[[m,i],P]:=f C (zju l) n;let[[q,d],v]:=f (λv=>true) (UR _) λv v=>rfl
 show(∃ m,sh M.b C (⟨_,k,x,nd⟩::M.as) 3 r=.rc m ps)/\Paired (λp t=>sh M.b C (⟨_,k,x,nd⟩::M.as) 4 p=.tx t) ps ts;by_cases c:C M.as.length=true;rw[CY c];refine{?_,Paired.mapP P λp t s=>by rw[MS h4.symm];exact s};by_cases z:kind=3/\k=r;let[rfl,rfl]:=z;let[b,rfl]:=h3 rfl q ps d ⟨k0,g,e⟩;exact⟨b,CT⟩;refine{m,?_};unfold Md.put;rw[if_neg (λw=>z ⟨w.1.symm,w.2.symm⟩)];exact i;rw[EJ c];exact{⟨m,i⟩,P}
theorem KX.unmark{d:Nat}:∀ {ps:wD} {M:Hs},KX X M y ts->KX X (M.unmark d ps) y ts
 | [],_,h=>h
 |p::ps,M,h=>KX.unmark (ps:=ps) (h.put (λz=>by cases z) (λz=>by cases z) (by decide))
def KX.outs{X':SX}(h:KX X M y ts)(e:X'.m0=X.m0)(o:∀ j,X.C j=true->X'.C j=true):KX X' M y ts:=by
 revert h;apply u3;intro k r ps [b,c,d,f];exact x3 k r ps {by rw[e];exact b,c,λj z=>o j<|d j z,λC g i=>f C g λj z=>i j<|o j z}
def KX.of{r m:Nat}{ps:wD}(d:k<X.m0)(e:M 0 k=.nm y r)(g:M 3 r=.rc m ps)(P:Paired (λp t=>M 4 p=.tx t) ps ts)(i:OutAt X M 0 k)(l:OutAt X M 3 r)(b:∀ p∈ps,OutAt X M 4 p):KX X M y ts:=by
 refine x3 k r ps {d,e,i,λC x c=>{{m,?_},?_}};rw[Q2 λj z=>c j<|l j z];exact g
 have:∀ {ps:List _} {ts:List _},Paired (λp t=>M 4 p=.tx t) ps ts->(∀ p∈ps,OutAt X M 4 p)->Paired (λp t=>sh M.b C M.as 4 p=.tx t) ps ts:=λ{ps ts} P b=>by
  induction P with
  |nil=>exact .nil
  |cons h t n =>
   refine .cons ?_<|n λp o=>b p<|ρ _ o;rw[Q2 λj z=>c j<|b _ υ j z];exact h
 exact this P b
end
def KX.up{X X':SX}{cs:yD}{d:yB}{M:Hs}{y:Str}{g:aD}(I:C6 a H X cs d M)(h:KX X M y g)(e:X'.m0=X.m0):KX X' {D7 X.n X.r X.c X.w<|sh M.b X.C M.as,[]} y g:=by
 revert h;apply u3;intro k r ps [i,l,o,f];let[[m,n],P]:=f _ (I.st.la.cut I.cut) λx z=>z
 have b:sh M.b X.C M.as 0 k=.nm y r:=by rw[Q2 o];exact l
 refine KX.of   (by rw[e];exact i) b (Ll  (r:=X.r) (c:=X.c)  n (Lj i b)) P (λj z=>by cases z) (λj z=>by cases z) λp x j z=>by cases z
def zze:∀ i:Fin 26,(η "abcdefghijklmnopqrstuvwxyz").cps.toList[i.val]? =some (97+i.val):=by decide
def zzf{i:Int}{n:Nat}{Q:VK}(b:i=n)(c:n<26)(q:Q (.str {#[97+n]}) H):B8 K (.str<|η "abcdefghijklmnopqrstuvwxyz") (.int i) H Q:=cG b (by decide) (zze ⟨n,c⟩) q
def WD(q:∀ n:Nat,n<26->Q (.str {#[97+n]}) H):B8 K (.str<|η "abcdefghijklmnopqrstuvwxyz") (.int<|x%26) H Q:=by
 let[b,c,d]:=M3 x (n:=26) (by decide);rw[show((26:Nat):Int)=26 from rfl]at c;rw[c];exact zzf rfl d<|q b d
def R9:Str:=η " !\"#$&'()*+,-./0123456789:;<=>?@ABCDEFGHIJKLMNOPQRSTUVWXYZ[\\]^_`"++η "abcdefghijklmnopqrstuvwxyz{|}~"
theorem Lw:∀ l:aD,(∀ x∈l,x.length=1)->(l.map (·.length)).sum=l.length
 | [],_=>rfl
 |x::r,h=>by
  rw[cg,vb,Lw r λy b=>h y<|ρ _ b,h x υ];exact uc _ _
section
variable{X:SX}{M:Hs}{y:Str}
def dB(h:kind≠0):(M.put kind k x nd) 0 j=M 0 j:=by rw[Hs.put_at,if_neg<|λz=>h z.1.symm]
end
def zzg{kvs:yB}:(∃ v,BG kvs k=some v)↔k∈kvs.map (·.1):=by
 rw[<-dg,<-K4,dn,av];constructor;intro[p,b,e];exact{p,b,by simpa using e};intro[p,b,e];exact{p,b,by simpa using e}
def Lx:z∈KL M m↔∃ k d,k<m/\M 0 k=.nm z d:=by
 unfold KL;rw[jc];constructor;intro[k,g,e];let[p,b,rfl]:=af.mp e;unfold EZ at b;cases c:M 0 k with
 |nm y r=>rw[c]at b;cases b;exact x2 k r {ak.mp g,c}
 |no=>rw[c]at b;cases b
 |mk i=>rw[c]at b;cases b
 |rc m ps=>rw[c]at b;cases b
 |tx t=>rw[c]at b;cases b
 intro[k,d,g,e];exact{k,ak.mpr g,by unfold EZ;rw[e];rfl}
theorem Ly{c:Nat}{M:Hs}:∀ {ps:wD},(∀ p∈ps,p<c/\∃ t,M 4 p=.tx t)->∃ b,Paired (λp t=>p<c/\M 4 p=.tx t) ps b
 | [],_=>{[],.nil}
 |p::ps,h=>by
  let[b,P]:=Ly λq d=>h q<|ρ _ d;let[h1,t,h2]:=h p υ;exact{_,.cons ⟨h1,h2⟩ P}
def zzh{cs:yD}{outs:wC}{left row:wD}{b:Nat}(h:GB cs outs left (b::row)):∃ (k:Nat) (c:Ch),cs[k]? =some c/\b=c.blk/\GB cs (DJ cs outs b) (left.filter λ(x:Nat)=> !DJ cs outs b x) row:=by
 cases h with
 |cons e h=>exact y2 ⟨e,rfl,h⟩
def zzi(h:GB cs outs left []):left=[]:=by
 cases h;rfl
section
variable{X:SX}{cs:yD}{tks:yB}{M:Hs}
def C6.cell(I:C6 a H X cs tks M){k b:Nat}{z:Str}(c:k<X.m0)(e:M 0 k=.nm z b):cellOf M X.m0 z=some k:=by
 cases d:cellOf M _ z with
 |none=>exact absurd e<|WB d k _ c
 |some j =>
  let[g,i,l]:=Hk d;rw[I.now.un j k z i _ g c l e]
structure KI(a:Ad)(X:SX)(cs:yD)(tks:yB)(M:Hs)(H3:Hp)(left0 row:wD)(i:Nat)(X':SX)(H':Hp):Prop where
 e:X'.S=X.S/\X'.n=X.n/\X'.r=X.r/\X'.c=X.c/\X'.w=X.w
 c:C6 a H' X' cs tks M
 r:∃ left,GB cs X'.outs left (row.drop i)/\∀ x∈left0,X'.outs (x:Nat)=true\/x∈left
 m:∀ j,X.C j=true->X'.C j=true
 s:SameBut (λx=>X.S.A.F x\/x=X.S.A.gp) H3 H'
def KI.out{g:Hp}{row:wD}{X':SX}{i:Hp}{R:wC}{b:List (Nat × Nat)}{kind k:Nat}(I:C6 a H X cs tks M)(J:KI a X cs tks M g (EO cs.length X.outs R) row row.length X' i)(l:MP cs X.outs (LT X cs b) R)(n:(kind,k)∈b)(h1:kind<5)(o:k<BO X.n X.r X.c X.w kind):OutAt X' M kind k:=λj p=>by
 have c:=(I.st.la.newest h1 o).1;rw[p]at c;cases d:X.outs j with
 |true=>exact J.m j d
 |false =>
  let[left,e,h]:=J.r;rw[List.drop_length]at e;rw[zzi e]at h;exact(h j (N0.mpr {(NY c),d,(l.all _ (jc.mpr {_,n,by rw[c];rfl}))})).elim id λz=>by cases z
end
def Lz:DU c S<=c:=by
 refine χ List.countP_le_length ?_;rw[cr];exact ο _
def zzj{c:Nat}:[c]<(η "0").cps.toList↔c<48:=by
 rw[show(η _).cps.toList=[48] by decide +kernel,jb];simp
def zzk{c:Nat}:(η "9").cps.toList<[c]↔57<c:=by
 rw[show(η _).cps.toList=[57] by decide +kernel,jb];simp
def SB{b c st:Addr}:(hf b c st).lookup ("plan":Str)=some (.ref b):=rfl
def dC{c b st:Addr}:(hf c b st).lookup ("ground":Str)=some (.ref b):=rfl
example:(zzl,Z2,uG,1,h):=by
 revert h;refine u5 ?_;intro h b c d st [rfl,T,e,q];exact x3 _ _ _ ⟨e,T.cl,T.n2,_,dC,q⟩
example:(zzm,Z0,aJ,1,h):=by
  let[z,rfl,hz,q]:=h;erw[aJ,aJ1_,aJ2_]
  have d:z.cps.toList.length=z.length:=by simp[yq]
  unfold L0 at q;rw[d]at q;refine{_,{BT _ (by lia),rfl},?_};split;rw[show decide _=true from decide_eq_true (by omega)]at q;by_cases h2:z.length<=3;rw[show decide _=true from decide_eq_true h2]at q;rw[if_neg (by omega)];refine cH hz (f:=λc=>decide (48<=c)&&decide (c<=57)) (λc n b=>?_) λj s=>?_;erw[zzj,zzk];split;rw[show decide _=true from decide_eq_true (by omega)]at b;rw[show(!decide _)=decide (c<=57) by rw[<-decide_not];exact decide_eq_decide.mpr (by lia)];exact b;rw[show decide _=false from decide_eq_false (by omega)]at b;exact b
  have b:=q j s;revert b;cases z.cps.toList.all _ with
  |false=>intro b;exact b
  | true =>
    intro b
    have i:(η "0").cps.toList=[48]:=by decide
    by_cases h4:z=η "0";rw[if_pos h4];rw[h4]at b;exact b;rw[if_neg h4];rw[decide_eq_false (λe=>h4 (by rw[<-YI z,e,<-i]))]at b;cases g:z.cps.toList with
    |nil=>rw[g]at d;simp at d;omega
    | cons c r =>
      refine cG  rfl (by omega) (by rw[g];rfl) ?_;rw[g]at b
      have l:(!decide ({#[c]}=η "0"))=decide ((c::r).head? ≠some 48):=by
        rw[<-decide_not];refine decide_eq_decide.mpr<|not_congr {λe=>?_,λe=>?_}
        have:=congrArg (λs:Str=>s.cps.toList) e;rw[i]at this;simpa using this
        · simp at e
          rw[e];decide +kernel
      erw[];rw[l];exact b
  rw[show decide (z.length<=3)=false from decide_eq_false h2]at q;rw[if_pos (by omega)];exact q H<|Same.refl _;rw[show decide (1<=z.length)=false from decide_eq_false (by omega)]at q;exact q H<|Same.refl _
example:(zzn,VF,aK,3,h):=by
 revert h;refine u5 ?_;intro t ol e out held [rfl,[b,c,hs,d,P],h1,h2,q];erw[aK,aK0_,aK1_,aK2_];exact BV b  rfl rfl {_,.inl {_,SqL.of c,by rw[ε]},BV b  rfl rfl {_,.inl {_,SqL.of d,by rw[ε,P.length]},by lia,by omega,by lia,by omega,q}}
example:(zzo,RM,aL,1,h):=by
 revert h;refine u2 ?_;intro l b [rfl,e,c,q];erw[aL,aL0_];unfold FY at q;refine{_,.inl {_,SqL.of e,by rw[ε]},?_};cases b with
 |nil=>exact q
 |cons k r =>
  rw[if_pos (by simp)];exact{rfl,x3 _ l _ {rfl,rfl,SqL.of e,by decide,by lia,q}}
example:(zzp,Z1,xM,3,h):=by
 let[z,rfl,T,hz,c,b]:=h;refine{rfl,x2 z _ {rfl,rfl,by decide,by omega,λt g=>BV AE  rfl rfl ?_}}
 have j:=AL (o:=.tup [.str (Txt.partition z<|η " ").1,.str (Txt.partition z<|η " ").2.1,.str (Txt.partition z<|η " ").2.2]) g;revert j;generalize upd H t _=N;intro j;rw[zi3 z (by omega)];unfold D8 L3 at c b
 have hs:=UC z
 have v:=zi2 z
 have x:∀ w∈CW _,w.length<=z.cps.toList.length:=λw h=>UE h;revert c b hs v x;generalize CW _=ws;generalize C4 _=k;intro c b hs v x;erw[xM2_];cases g:HN _ k with
 |none =>
  simp only[g]at b;exact{by decide,b trivial _ j}
 | some n =>
  simp only[g]at c b;rw[if_neg (by simp)]
  have fin:∀ {vs:List _} {l:Addr} {q:Hp},(if k=("put")then UD ws else ws)=vs->H l=none->Same H q->q l=some (.lst<|(vs.map C4).map V.str)->xM5 K a (λ_=>E) (λ_=>E) { nx:=AH (xM7 K a (λ_=>E) λ_=>E) (xM8 K a (λ_=>E) λ_=>E) (AW Q),rt:=Q } [some (.str z),some<|.str k,some<|.ref l] q:=by
   intro vs l q y i r s;rw[y]at c b;erw[xM5_];refine{vs.length,.inl {_,SqL.of s,by rw[ε,ε]},n,g,?_};by_cases p:(vs.length:Int)=n;rw[if_neg (by simpa using p)];rw[if_neg (by simpa using p)]at c b;refine x2 _ _ {rfl,.inr<|T.wn q,rfl,rfl,?_}
   have J:NK (.str k) (MY.map V.str)=decide (k∈MY):=by
    show((η "take")==k||((η "write")==k||false))=_;rw[kf];simp only[m_,beq_iff_eq,mv,or_false,decide_eq_true_eq,MY,aj,bx];exact{λh=>h.imp Ar Ar,λh=>h.imp Ar Ar}
   rw[J];erw[];by_cases d:k∈MY;refine EM d ?_
   have D:vs≠[]:=λe=>by
    rw[e]at p
    have:n=0:=p.symm;rw[this]at g;rcases(show k=("take":Str)\/k=("write":Str) by simpa [MY]using d)with h|h
    ·rw[h]at g;revert g;decide +kernel
    ·rw[h]at g;revert g;decide +kernel
   obtain⟨us,u,rfl⟩:∃ us u,vs=us++[u]:=x2 vs.dropLast (vs.getLast D) ((List.dropLast_concat_getLast D).symm);refine .inl<|x4 l _ _ (.str<|C4 u) {rfl,rfl,SqL.of s,?_,C4 u,rfl,?_,λO A=>?_}
   ·rw[aw,aw];exact zi4
   ·have L:¬ k=("put":Str):=λe=>by rw[e]at d;revert d;decide +kernel
    rw[if_neg L]at y
    have:=x u (by rw[y];exact bt _ υ)
    show u.toArray.size<=_;rw[ax]
    have U:z.cps.toList.length=z.length:=by simp[yq]
    omega
   ·rw[show L0 ((us++[u]).getLastD [])=L0 u by simp]at c b
    have M:(C4 u).cps.toList=u:=rfl;rw[M];cases I:L0 u with
    |false =>
     rw[if_pos ⟨d,I⟩]at b;erw[xM6_];exact{by decide,b rfl _<|r.trans A}
    |true =>
     rw[if_neg (by rw[I];simp)]at c;erw[xM8_];exact c _ rfl _ _ i (r.trans A) (A _ _ s)
   ·refine DW d ?_;rw[if_neg λz=>d z.1]at c;erw[xM8_];exact c _ rfl _ _ i r s
   ·rw[if_pos p];rw[if_pos p]at b;erw[xM4_];exact{by decide,b rfl _ r}
  erw[xM3_];split;rename_i d;refine{rfl,x2 z _ {rfl,by decide +kernel,by omega,.inr {2,by omega,rfl,λl i=>?_}}}
  have B:Txt.splitMax z (η " ") ((2:Nat):Int)=(UD ws).map C4:=v;rw[B];exact fin (if_pos d) (j.free i) (j.trans<|AL i) AE;rename_i d;refine{rfl,x2 z _ {rfl,by decide +kernel,by omega,.inl {rfl,λl i=>?_}}};rw[hs];exact fin (if_neg d) (j.free i) (j.trans<|AL i) AE
section
variable{st l:Addr}{k:Str}{us:vE}
abbrev JT(K:W.Frag)(a:Ad)(st l:Addr)(k:Str)(H:Hp)(Q:VK)(E:XK)(f:W.Frag->Ad->XE->XE->TS):Prop:=f K a (λ_=>E) (λ_=>E) (AW Q) [some (.ref st),some<|.ref l,some<|.str k] H
def zzq(h0:H l=some (.lst (V.str k::us)))(h1:k=("make":Str)->JT K a st l k H Q E Em1)(h2:k=("link":Str)->JT K a st l k H Q E Em2)(h3:k=("cut":Str)->JT K a st l k H Q E Em3)(h4:k=("put":Str)->JT K a st l k H Q E Em4)(h5:k=("take":Str)->JT K a st l k H Q E Em5)(h6:k≠("make":Str)->k≠("link":Str)->k≠("cut":Str)->k≠("put":Str)->k≠("take":Str)->JT K a st l k H Q E Em6):B8 K (.ref l) (.int 0) H λx b=>Em11 K a (λ_=>E) (λ_=>E) (AW Q) [some (.ref st),some<|.ref l,some x] b:=by
 refine CH (SqL.of h0)  rfl rfl ?_;erw[Em11_];split;exact h1 ‹_›;erw[Em10_];split;exact h2 ‹_›;erw[Em9_];split;exact h3 ‹_›;erw[Em8_];split;exact h4 ‹_›;erw[Em7_];split;exact h5 ‹_›;exact h6 ‹_› ‹_› ‹_› ‹_› ‹_›
end
example:(zzr,RN,Em,3):=by
 intro[st,l,ws,rfl,[j,n,b,tk,d],c,h];let[y,rfl,h]||[y,t,rfl,h]||[y,z,rfl,h]||[y,z,rfl,h]||[y,rfl,h]||[y,w,x,rfl,g,i,h]:=h<;>refine zzq c ?_ ?_ ?_ ?_ ?_ ?_<;>first|exact λe=>absurd e (by decide)|exact λh1 h2 h3 h4 h5=>(by first|exact absurd rfl h1|exact absurd rfl h2|exact absurd rfl h3|exact absurd rfl h4|exact absurd rfl h5)|intros
 exact x2 _ _ {d,CC,CH (SqL.of c)  rfl rfl h};exact x2 _ _ {d,CC,CH (SqL.of c)  rfl rfl (CH (SqL.of c)  rfl rfl h)};exact x2 _ _ {d,CC,CH (SqL.of c)  rfl rfl (CH (SqL.of c)  rfl rfl h)};exact x2 _ _ {d,CC,CH (SqL.of c)  rfl rfl (CH (SqL.of c)  rfl rfl h)};exact x2 _ _ {d,CC,CH (SqL.of c)  rfl rfl h};exact x2 _ _ {d,CC,CH (SqL.of c)  rfl rfl (CH (SqL.of c)  rfl rfl (x2 w x ⟨rfl,g,i,h⟩))}
def WE:∀ b:Fin 100,(B0 (b.val:Nat)).length<=2:=by decide
theorem dD:∀ {row:wD},(∀ b∈row,b<100)->((row.map λ(b:Nat)=>B0 b).map (·.length)).sum<=2*row.length
 | [],_=>ο _
 |b::row,h=>by
  have h2:=dD  λc d=>h c<|ρ _ d
  have h1:=WE {b,h b υ};simp only[cg,vb,bw]
  lia
def zzs{c:VK}{vs:vE}(h:N7 K a vs H Q E)(f:∀ v b,Q v b->c v b):N7 K a vs H c E:=by
 revert h;refine u5 ?_;intro X cs d M z [e,T,I,q,g];refine x5 X cs _ M z {e,T,I,λcell i h1 h2 h3=>?_,g};let[j,n,ps,o,p,r,q]:=q _ _ h1 h2 h3;exact{j,x2 n ps {o,p,r,λl row R b s u c3 w c5 x=>f _ _<|q l _ R b s u c3 w c5 x}}
section
variable{st l:Addr}{k:Str}{us:vE}
def zzt(h0:H l=some (.lst (V.str k::us)))(h1:k=("write":Str)->JT K a st l k H Q E bY1)(h2:k=("keep":Str)->JT K a st l k H Q E bY3)(h3:k=("show":Str)->JT K a st l k H Q E bY5)(h4:k≠("write":Str)->k≠("keep":Str)->k≠("show":Str)->JT K a st l k H Q E bY7):bY K a (λ_=>E) (AW Q) (AX ["","",""] [.ref st,.ref l]) H:=by
 refine CH (SqL.of h0)  rfl rfl ?_;erw[bY2_];split;exact h1 ‹_›;erw[bY4_];split;exact h2 ‹_›;erw[bY6_];split;exact h3 ‹_›;exact h4 ‹_› ‹_› ‹_›
end
example:(zzu,RO,bY,3):=by
 intro[st,l,ws,rfl,[L,M,b,tk,o],g,h];let[b,rfl,r,h]||[y,rfl,h]||[rfl,h]||[y,rfl,h]:=h<;>refine zzt g ?_ ?_ ?_ ?_<;>first|exact λe=>absurd e (by decide)|exact λh1 h2 h3=>(by first|exact absurd rfl h1|exact absurd rfl h2|exact absurd rfl h3)|intros
 exact x2 _ _ {o,CC,CH (SqL.of g)  rfl rfl (x2 _ b {rfl,χ (MN (by lia) (by lia)) (by lia),W.KIN.num_reads (by lia) (by lia),h})};erw[bY3_];refine CH (SqL.of g)  rfl rfl (zzs h ?_);intro v I [p,row,rfl,B,N,r,q];refine .inl {{_,SqL.of B},?_}
 have s:(AO row).length=row.length:=by unfold AO;rw[ε]
 refine XM (xs:=AO row) (BT _ (by lia)) (λi ys j=>j=I/\ys=(row.take i).map λ(b:Nat)=>V.str<|B0 b) ⟨rfl,rfl⟩ (λi ys j z q=>by rw[q.1];exact SqL.of B) (λi x ys j u w A=>?_) (λys j w A J d=>?_);let[e,n]:=A;unfold AO at u;rw[ψ,af]at u;let[c,D,rfl]:=u
 have:=r c<|ι D;refine{_,rfl,by lia,by lia,e,?_};rw[cv,D,aw,n]
 rfl;let[e,n]:=A;rw[e]at d ⊢;rw[s,eq<|ο _]at n
 have:=dD r;exact x2 J _ {rfl,by rw[AE,n,jf];rfl,by rw[ε];lia,q _<|AL d};exact x2 _ _ ⟨o,CC,h⟩;exact{rfl,x2 _ _ {o,CC,CH (SqL.of g)  rfl rfl h}}
def SM.far{X:SX}{cs:yD}{p:yB}{M:Hs}{G:Addr->Prop}{w:Hp}{e C J:Addr}{fs:vB}(I:X.at a H cs p M)(he:H e=some (.ins C J fs))(hc:∀ L v N,fs≠GA L v N)(n1:X.S.st≠e)(n2:X.S.lp≠e)(n3:X.S.A.b≠e)(n4:X.S.A.gp≠e)(s:SameBut G H w)(g:∀ x,G x->x=e\/EV (H x))(f:∀ x,G x->x=e\/(¬ X.S.A.F x/\x≠X.S.tk)):X.at a w cs p M:=by
 have ne:∀ {y:Addr} {o:HO},H y=some o->(∀ C J fs,o≠.ins C J fs)->y≠e:=λh n z=>by rw[z,he]at h;obtain rfl:=μ h;exact n _ _ _ rfl
 have d:EA H w:=λy ys h=>s _ _ h λz=>(g _ z).elim (ne h (by intro u u u z;cases z)) λl=>l.1 _ h
 have j:∀ {y:Addr} {o:HO},H y=some o->X.S.A.F y->w y=some o:=λh hf=>s _ _ h λz=>(f _ z).elim (λz=>(I.bk.loose hf).2 _ _ _ (z ▸ he)) λq=>q.1 hf;let[[d1,e1],e2,[[[d3,b1],[chs,b2,b3],b4,b5,b6,[kvs,b7,b8],[DZ,b9,O],r1,r2,r3,r4,r5],[[d4,p1],[ts,p2,p3],q1,q2,q3],nb],e4,e5,e6,e7,e8,e9,T,U,Y]:=I;let[dl,el]:=e2.ob
 have D:∀ {y C' B:Addr} {fs':List _},H y=some _->y≠e->w y=some (.ins C' B fs'):=λh n=>s _ _ h λz=>(g _ z).elim n λl=>l.2 _ _ _ h;refine{{d1,D e1 n1},e2.sb  (λy o h n=>s _ _ h λz=>n<|g _ z) λz=>z.elim n2 λl=>l.2 _ _ _ el,{{{d3,D b1 n3},{_,j b2<|.inl rfl,Paired.mapP b3 λx c h=>?_},j b4<|.inr<|.inl rfl,λi l h=>j (b5 i l h) (.inr<|.inr<|.inl<|ι h),b6,{_,j b7<|.inr<|.inr<|.inr<|.inl rfl,b8},{_,j b9<|.inr<|.inr<|.inr<|.inr<|.inl rfl,O},r1,r2,r3,r4,r5},{{d4,D p1 n4},{ts,j p2<|.inr<|.inr<|.inr<|.inr<|.inr rfl,Paired.mapP p3 λt r q=>d _ _ q},q1,q2,q3},nb},s _ _ e4 λz=>(f _ z).elim (ne e4 (by intro u u u z;cases z)) λq=>q.2 rfl,e5,e6,e7,e8,e9.keep d,λkind k v h1 h2 hv=>(T _ k v h1 h2 hv).keep d,U,Y.keep d};revert h;refine u3 ?_;intro B L N [b,c2,c3];exact x3 _ L N {D b λz=>by rw[z,he]at b;injection b with b;injection b with _ _ b;exact hc _ _ _ b,d _ _ c2,d _ _ c3}
def Mb{b c st:Addr}:(hf b c st).lookup ("store":Str)=some (.ref st):=rfl
def zzv{k:Str}{Q:VK}(T:EQ K a)(q:Q (.bl<|decide<|k∈KO) H):QI K (.str k) (.ref<|a "DEEDS") H Q:=by
 have b:NK (.str k) (KO.map V.str)=decide (k∈KO):=by
  show((η _)==k||((η _)==k||((η _)==k||((η _)==k||((η _)==k||((η _)==k||false))))))=_;rw[kf]
  have e:∀ {x:Str},x=k↔k=x:=⟨Ar,Ar⟩
  simp only[m_,beq_iff_eq,mv,decide_eq_true_eq,KO,aj,bx];rw[e,e,e,e,e,e]
 refine x2 _ _ {rfl,.inr<|T.dd H,rfl,rfl,?_};rw[b];exact q
example:(zzw,ER,Fd,3):=by
 intro[h,o,p,r,st,z,rfl,T,d,i,hz,w,ws,e,q];refine{z,rfl,T,hz,λj b l n s c g=>?_,λb=>by rw[e]at b;cases b};rw[e]at b;obtain rfl:=μ b
 have q:=q l n c g;erw[Fd3_];refine CH (SqL.of g)  rfl rfl (zzv T ?_);erw[];let[hd,q]||q:=q
 exact EM hd<|x3 _ _ _ {c _ _ d,T.ho.cl,T.ho.n3,_,Mb,q};refine DW (q.elim (λq=>by rw[q.1];decide +kernel) λq=>q.1) ?_;refine CH (SqL.of g)  rfl rfl ?_;erw[];let[hd,q]||[_,hd,q]:=q
 exact EM hd<|x2 _ _ {c _ _ d,rfl,q};exact DW hd<|x3 _ _ _ {c _ _ d,T.ho.cl,T.ho.n3,_,Mb,q}
def OS{x h C d c g:Addr}{fs b:vB}{k:Str}(i:H h=some (.ins C d fs))(e:H x=some (.ins c g b))(k1:fs.lookup k≠none)(k2:b.lookup k=none):x≠h:=λz=>by
 rw[z,i]at e;injection e with e
 injection e with _ _ e
 exact k1<|e ▸ k2
def C6.far{X:SX}{cs:yD}{c:yB}{M:Hs}{h C i:Addr}{fs d:vB}(I:C6 a H X cs c M)(b:H h=some (.ins C i fs))(g:fs.lookup ("plan":Str)≠none)(j:fs.lookup ("ground":Str)≠none):C6 a (upd H h<|.ins C i d) X cs c M:=by
 let[u,l]:=I.st.ob;let[u,p]:=I.st.ly.ob;let[u,q]:=I.st.bk.bk.ob
 have s:SameBut _ H (upd H h<|.ins C i d):=λy o e n=>by rw[AI n];exact e
 let[u,r]:=I.st.bk.pk.ob;exact{SM.far I.st b (λw v A z=>g (by rw[z];rfl)) (OS b l j CC) (OS b p g BY) (OS b q g DA) (OS b r g (KG _ _ _ (by decide) (by decide) (by decide))) s (λx z=>.inl z) λx z=>.inl z,I.hi,I.bo,I.cut,I.rows.keep (λy ys e=>s _ _ e λz=>by rw[z,b]at e;cases e),I.few,I.ok,I.w1}
def HsC.same{h:Addr}{X:SX}{cs:yD}{b:yB}{M:Hs}{c:Hp}(A:HsC a H h X cs b M)(s:Same H c):HsC a c h X cs b M:=by
 let[[d,e],I]:=A;exact{{d,s _ _ e},I.same s}
def HsC.st{h:Addr}{X:SX}{cs:yD}{b:yB}{M:Hs}(A:HsC a H h X cs b M):VG a H X.S.st:=by
 let[c,e]:=A.2.st.ob;exact x4 c _ _ _ e
def zzx{b:Vw}(ok:EK b):(IM b).length<=400:=by
 have h2:=DX (p:=λr=>(AY b.rc r).isSome&&decide (led b r=0)) (f:=λr=>[.str "left",.str "record",.int r]) ok.br
 have h1:=DX (p:=GU b) (f:=λr=>[.str "many",.int r,.int<|led b r]) ok.br
 have h4:=DX (p:=λr=>decide (AY b.rm r=some 1)&&(AY b.rc r).isNone) (f:=λr=>[.str "marked",.int r]) ok.br
 have h3:=DX (p:=λp=>decide (AY b.pm p=some 1)&&decide (HR b p=0)) (f:=λp=>[.str "left",.str "piece",.int p]) ok.bp;simp only[IM,N9,OA,OB,ae]
 lia
example:(zzy,RP,Dx,2):=by
 intro[h,X,cs,O,M,rfl,T,D,[[U,c],I],q]
 have J:=T.s4
 have G:=I.gnd D J
 have S:=G.site;refine x3 _ _ _ {c,T.ho.cl,T.ho.n1,_,SB,x3 _ _ _ {c,T.ho.cl,T.ho.n2,_,dC,x3 _ _ _ {rfl,x7 _ _ _ _ _ _ _ ⟨S.tv,S.tl,S.tp,S.la,S.pl,S.rl,S.pv⟩,λl H1 j n p=>?_}}};let[ps,r,s]:=p
 have u:=I.same n;rw[G.sd.fault G.bo]at s
 have b:=n _ _ c;erw[Dx1_];refine x3 _ _ _ {b,T.ho.cl,T.ho.n1,_,SB,x3 _ _ _ {b,T.ho.cl,T.ho.n2,_,dC,WK _ _ _ _ _ _ _ _ _ _ {rfl,u.gnd D J,λX' H2 L N b3 Y b5 b6 b7 off ht C' sb=>?_}}}
 have v:X.S.A.F _:=.inr<|.inr<|.inr<|.inr<|.inr rfl;let[x,B]:=u.st.bk.pk.ob
 have d:=sb _ _ b λz=>z.elim (λz=>(OS b B  (by rw[SB];nofun) (KG _ _ _ (by decide) (by decide) (by decide))) z.symm) λz=>(λz=>(u.st.bk.loose v).2 _ _ _ (z ▸ b)) z.symm;refine x3 _ _ _ {d,T.ho.cl,T.ho.n3,by show 3<1000;decide,?_}
 have bl:ps.length<1000000:=cj (s.length ▸ zzx S.pv.ok) (by decide);refine{_,.inl {_,SqL.of (by rw[AI (λz=>by rw[z,c]at j;cases j)];exact(sb _ _ r λz=>z.elim (λz=>by rw[z,B]at r;cases r) λz=>I.st.bk.off j<|z ▸ v)),by rw[ε]},_,rfl,by lia,by lia,?_};rw[s.length];refine q X' _ {{U,by rw[L,N];exact AE},C'.far d (by rw[SB];nofun) (by nofun)} {L,⟨Y,b5,b6,b7⟩,λy o e no nG=>?_} N
 have g:=n _ _ e
 have i:y≠X.S.A.cl:=λz=>nG<|.inl<|z ▸ v;exact{by rw[AI (λz=>no _ _ _<|μ<|e.symm.trans<|z ▸ c)];exact sb _ _ g λz=>z.elim (λz=>no _ _ _<|μ<|g.symm.trans<|z ▸ B) i,λz=>z.elim (λz=>(off y _ g).elim i λw=>w z) λz=>by rw[z,ht]at g;cases g}
def NA(b c:Addr):vB:=[("plan",.ref b),("ground",.ref c)]
example:(zzz,Z3,Bp,2):=by
 intro[h,l,d,n,r,c,w,rfl,[T4,TH,x,x],tv,eh,L,[z1,z2,z3,w1,w6,fw],q];let[TB',TP,TL,TS]:=id T4;refine y3 {eh,TH.cl,TH.n1,by decide,?_};let[dl,u]:=L.ob
 have nh:d≠h:=λz=>by
  rw[z,eh]at u;injection u with u
  injection u with _ _ u
  exact absurd (congrArg ji u) (by simp[lf])
 have k1:SameBut _ H (upd H h<|.ins (a "House") l (BS (η "plan") (.ref d) [])):=λy o e n=>by rw[AI n];exact e
 have g:upd H h (.ins (a "House") l (BS (η "plan") (.ref d) [])) h=_:=AE
 have f1:∀ y,upd H h (.ins (a "House") l (BS (η "plan") (.ref d) [])) y=none->H y=none:=λy b=>by
  by_cases z:y=h;rw[z,AE]at b;cases b;rw[AI z]at b;exact b
 have M:=L.sb k1 nh;let[dl1,N]:=M.ob;refine y2 {N,BY,x5 d n r c w {rfl,TL,TP,M,λi cl A mC BN P2 I=>y3 {I _ _ g,TH.cl,TH.n2,(show 1<1000 by decide),?_}}}
 have O:BS (η "ground") (.ref i) (BS (η "plan") (.ref d) [])=NA d i:=by
  rfl
 rw[O]
 have k3:SameBut _ A (upd A h<|.ins (a "House") l (NA d i)):=λy o e n=>by rw[AI n];exact e
 have J:=(BK g BN).symm
 have j:upd A h (.ins (a "House") l (NA d i)) h=_:=AE
 have f3:∀ y,upd A h (.ins (a "House") l (NA d i)) y=none->A y=none:=λy b=>by
  by_cases z:y=h;rw[z,AE]at b;cases b;rw[AI z]at b;exact b
 generalize upd A h (.ins (a "House") l (NA d i))=H3 at *
 have P3:PlankAt a H3 i cl w (ba (n+r+c+r+c) (ba w .non)) 0:=by
  let[[dx,p1],[ts,p2,p3],q1,q2,q3]:=P2;exact{{dx,k3 _ _ p1<|(BK g mC).symm},{ts,k3 _ _ p2 J,Paired.mapP p3 λt r q=>k3 _ _ q λz=>by rw[z,I _ _ g]at q;cases q},q1,q2,q3}
 have hN:∀ B∈ba (n+r+c+r+c) (ba w V.non),∀ v∈B,v=.non:=λB s v D=>by
  rw[rq s]at D;exact rq D
 refine y3 {j,TH.cl,TH.n2,_,rfl,(Lp (S:=λx x=>.no) {tv,T4,((M.same I).sb k3 nh),P3,{z1,z2,z3,w6,by simp},fw,w1,(λB s v D=>by rw[hN B s v D];trivial),(λkind k v x x D=>?_),{λx x x=>rfl,λkind x=>by cases kind<;>trivial},{λx x x x e=>(by cases e),λx x x e=>(by cases e),λx x x e=>(by cases e),λx x x e=>(by cases e),λx x x e=>(by cases e),λx x x x x x x e=>(by cases e),λx x x x x x x e=>(by cases e)}} λX H5 a1 a2 a3 a4 a5 a6 a7 off T C5 U=>?_)};let[B,Y,ev]:=yi.mp D;exact hN B (ι Y) _ (ι ev)
 have e13:BS (η "store") (.ref X.S.st) (NA d i)=hf d i X.S.st:=by
  unfold NA;rw[YT (by decide +kernel),YT (by decide +kernel),zjd]
  rfl
 refine y3 {U _ _ j,TH.cl,TH.n3,(show 2<1000 by decide),?_}
 have all:∀ y o,H y=some o->y≠h->H3 y=some o:=λy o e n=>k3 _ _ (I _ _<|k1 _ _ e n) n;refine q X _ a1 a4 a5 a6 a7 (λy b=>?_) {{l,by rw[a1,a2];exact AE},C5.far (U _ _ j) nofun nofun} λy o e n=>by rw[AI n];exact U _ _<|all _ _ e n
 let b||rfl:=b
 cases e:H y with
 |none=>rfl
 |some o =>
  exfalso;by_cases z:y=h
  ·exact(off y _<|z ▸ j).elim (λp=>J<|p ▸ z) λp=>p b
  ·refine(off y _<|all _ _ e z).elim (λp=>?_) λp=>p b
   have:=k1 _ _ (p ▸ e) (p ▸ z);rw[BN]at this;cases this
 exact f1 _<|I.free<|f3 _ T
def dE(z:Str):z.cps.toList.length=z.length:=by simp[yq]
def SD(x y:Str):(x++y).cps.toList=x.cps.toList++y.cps.toList:=by
 show(x.cps++y.cps).toList=_;simp
def zz1{z:Str}{k:Nat}(h:k<=z.length):(Txt.slice z none<|some (k:Int)).cps.toList=z.cps.toList.take k:=by
 rw[eq_of_beq (slice_closes_to   {i0,by rw[dE];lia})];simp
def zz2{z:Str}{k:Nat}(h:k<=z.length):(Txt.slice z (some (k:Int)) none).cps.toList=z.cps.toList.drop k:=by
 rw[eq_of_beq (slice_closes_from   {i0,by rw[dE];omega})]
 have:((z.cps.toList.length:Int)-k).toNat=(z.cps.toList.drop k).length:=by rw[ic];lia
 simp only[ci,this,b_]
def Lts(z:Str)(n:Nat):Prop:=z.cps.toList.length=n/\z.cps.toList.all N4=true
def Lts.len{z:Str}{n:Nat}(h:Lts z n):z.length=n:=h.1
def Lts.cat{x y:Str}{n m:Nat}(h:Lts x n)(h':Lts y m):Lts (x++y) (n+m):=by
 unfold Lts;rw[SD,ae,List.all_append,h.1,h'.1,h.2,h'.2];exact⟨rfl,rfl⟩
def Lts.one{n:Nat}(h:n<26):Lts {#[97+n]} 1:={rfl,by simp[N4];exact At (dq h) _}
def Lts.to{z:Str}{n k:Nat}(h:Lts z n)(b:k<=n):Lts (Txt.slice z none<|some (k:Int)) k:=by
 unfold Lts;rw[zz1 (by rw[h.len];exact b)];refine{by rw[di,h.1];exact mz b,?_};rw[fh];exact λc d=>fh.mp h.2 c<|Ai d
def Lts.from{z:Str}{n k:Nat}(h:Lts z n)(b:k<=n):Lts (Txt.slice z (some (k:Int)) none) (n-k):=by
 unfold Lts;rw[zz2 (by rw[h.len];exact b)];refine{by rw[ic,h.1],?_};rw[fh];exact λc d=>fh.mp h.2 c<|Af d
def Lts.name{z:Str}{n:Nat}(h:Lts z n)(h1:1<=n)(h8:n<=8):BL z=true:=by
 unfold BL;rw[h.len,h.2];simp;exact⟨h1,h8⟩
example:(zz3,Z4,aP,9,h):=by
 let[x,rfl,q]:=h;obtain⟨m,I,d⟩:∃ m:Nat,1+x%6=m/\1<=m/\m<=6:=md _ 6 (by decide);erw[aP,aP0_,aP1_,aP2_,aP5_];rw[I,ci];clear I;refine{{by decide,by decide},i0,iA d.2 rfl,P9 (λi r s=>∃ (p:Str) (rest:Int),s=H/\Lts p i/\∃ y,r=[some (.int x),some<|.str<|η "abcdefghijklmnopqrstuvwxyz",some<|.str p,some<|.int rest,y,none,none,none,none]) (x2 (η "") _ {rfl,{by decide +kernel,by decide +kernel},_,rfl}) (λi r s hi ⟨p,rest,e,g,y,u⟩=>?_) (λr s ⟨p,rest,e,g,y,u⟩=>?_)};subst e u;erw[aP3_,aP4_]
 have:=g.len;refine{.inl {by decide,by decide},{by decide,by decide},.inl {i0,by omega},WD λn J=>?_};erw[]
 have h1:=(Lts.one J).len;exact{BT _ (by omega),{by decide,by decide},.inl {by decide,by decide},_,g.cat<|Lts.one J,rfl}
 ·subst e u
  have j:=g.len;erw[aP6_];refine{{by decide,by decide},m,{BT _<|oA (χ (a_ j) d.2) rfl,j.symm},c_.mpr (ω (by decide) d.1),?_};let[b,v,o]:=M3 (x/7) (n:=m) (d.1);rw[v];erw[aP7_];refine{{by decide,by decide},WD λL w=>?_};erw[aP8_];refine{{by decide,by decide},{by decide,by decide},WD λM A=>?_};erw[aP9_];refine{rfl,zwe (n:=b) rfl (j ▸ o) (oA (χ (a_ j) d.2) rfl) λc=>y2 {rfl,rfl,?_}};erw[];refine{{by decide,by decide},WD λT B=>?_};erw[aP10_]
  have D:=Lts.one w
  have l2:=Lts.one A
  have N:=Lts.one B
  have lt:=g.to (k:=b) (kh o)
  have lf:=g.from (k:=b+1) (o)
  have d1:=D.len
  have d2:=l2.len
  have d3:=N.len
  have d4:=lt.len
  have d5:=lf.len
  have U:((b:Nat):Int)+1=((b+1:Nat):Int):=rfl;rw[U]
  have Y:=g.cat l2
  have e2:=D.cat g
  have e3:=(lt.cat N).cat lf
  have e4:=(g.cat l2).cat D;refine{BT _<|oC (χ (a_ j) d.2) rfl,BT _ (by omega),BT _<|oA (χ (a_ j) d.2) rfl,BT _ (by omega),BT _<|oA (χ (a_ j) d.2) rfl,BT _ (by rw[MZ];omega),BT _<|oC (χ (a_ j) d.2) rfl,BT _ (by rw[MZ];omega),by decide,λl O=>?_};refine q l [p,p++({#[97+M]}:Str),({#[97+L]}:Str)++p,Txt.slice p none (some (b:Int))++({#[97+T]}:Str)++Txt.slice p (some ((b+1:Nat):Int)) none,p++({#[97+M]}:Str)++({#[97+L]}:Str)] _ O (AL O) (by rw[AE];rfl) rfl λz hz=>?_;simp only[aj,bx,or_false]at hz;let rfl||rfl||rfl||rfl||rfl:=hz
  ·exact g.name (d.1) (oA d.2 rfl)
  ·exact Y.name (vh _ _) (oC d.2 rfl)
  ·exact e2.name (yh _ _) (by omega)
  ·exact e3.name (by omega) (by omega)
  ·exact e4.name (vh _ _) (oG d.2 rfl)
def zz4:∀ i:Fin 94,∃ c,R9.cps.toList[i.val]? =some c/\LR c=true:=by
 have h:∀ i:Fin 94,R9.cps.toList[i.val]? =some (R9.cps.toList[i.val]!)/\LR (R9.cps.toList[i.val]!)=true:=by decide
 exact λi=>{_,(h i).1,(h i).2}
theorem Mc{p:zC}:∀ (l:aD) (b:Array Nat),b.all p=true->(∀ z∈l,z.cps.all p=true)->(l.foldl (λb q=>b++(η "").cps++q.cps) b).all p=true
 | [],b,h,_=>h
 |z::l,b,h,hz=>by
  refine Mc l _ ?_ λy c=>hz y<|ρ _ c;rw[Ho,Ho,h,hz z υ,show(η "").cps= #[] by decide +kernel];simp
def zz5{l:aD}(h1:1<=l.length)(h2:l.length<=40)(h:∀ z∈l,z.length=1/\z.cps.all LR=true):G9 (Txt.join (η "") l)=true:=by
 unfold G9;rw[W.KT.join_ones l λz hz=>(h z hz).1,decide_eq_true h2,uv];cases l with
 |nil=>simp at h1
 |cons z l=>exact Mc l _ (h z υ).2 λy b=>(h y<|ρ _ b).2
example:(zz6,Z5,aT,5):=by
 intro[x,rfl,q]
 have tail:∀ m:Nat,1<=m->m<=40->aT5 K a (λy=>E) (λy=>E) { nx:=AH (aT6 K a (λy=>E) (λy=>E)) (aT7 K a (λy=>E) (λy=>E)) (AW Q),rt:=Q } [some (.int x),some<|.str R9,some<|.int m,none,none] H:=λm w g=>by
  erw[aT5_,aT6_,aT7_];refine{{by decide,by decide},{by decide,by decide},rfl,by lia,by lia,MI (BT _ (by lia)) (λi ys o=>o=H/\∃ d:aD,ys=d.map V.str/\∀ z∈d,z.length=1/\z.cps.all LR=true) {rfl,[],rfl,by simp} (λi ys o I J e=>?_) (λys o r e p A=>?_)}
  ·let[rfl,d,j,l]:=e;erw[C1]
   have hd:(0+(i:Int))/(1+x/7%3)<=40/\0<=(0+(i:Int))/(1+x/7%3):={Kr (Int.ediv_le_self _ (by lia)) (by lia),Int.ediv_nonneg (by lia) (by lia)}
   let[b,v,B]:=M3 (x/3+(1+x/19%93)*((0+(i:Int))/(1+x/7%3))) (n:=94) (by decide);rw[show((94:Nat):Int)=94 from rfl]at v;let[c,D,s]:=zz4 ⟨b,B⟩;refine{{by decide,by decide},{by lia,by lia},.inl {by lia,by lia},?_};rw[v];refine cG rfl (by decide) D {rfl,d++[⟨_⟩],by rw[j,aw];rfl,λz hz=>?_};let hz||hz:=bd.mp hz
   ·exact l z hz
   rw[aa.mp hz];exact{rfl,by simpa using s}
  ·let[rfl,d,j,l]:=e
   have L:d.length=m:=by rw[<-r,j,ε]
   exact x3 _ p d {rfl,rfl,by rw[<-j];exact SqL.of AE,by decide,by rw[Lw d λz hz=>(l z hz).1];lia,q _ _ (zz5 (by lia) (by lia) l) (AL A)}
 erw[aT,aT0_,aT1_,aT2_,aT4_,aT3_];refine{by decide +kernel,{by decide,by decide},?_};split;obtain⟨m,u,g⟩:∃ m:Nat,40-x/40%2=m/\1<=m/\m<=40:={(40-x/40%2).toNat,by lia,by lia}
 rw[u];exact{{by decide,by decide},tail m g.1 g.2}
 ·obtain⟨m,u,g⟩:∃ m:Nat,1+x%5=m/\1<=m/\m<=40:={(1+x%5).toNat,by lia,by lia}
  rw[u];exact tail m g.1 g.2
structure Mg(H:Hp)(d:Addr)(rows:aC)(w b j:Nat)(kvs:uA):Prop where
 e:H d=some (.dT kvs)
 l:kvs.length<=b*w+j
 v:∀ x y:Nat,(x<b\/x=b/\y<j)->y<w->BG kvs [.inl (x:Int),.inl (y:Int)]=(rows[x]?).bind λq=>q[y]?
example:(zz7,Z7,zK,6):=by
 apply u9;intro O U cl n r c w rows m [rfl,TL,TP,L,P,rl,r30,w6,q];let[dl,el]:=L.ob;intro d hd
 have B:=AL (o:=.dT []) hd
 have Y:upd H d (.dT []) d=some (.dT []):=AE;revert B Y;intro B Y;erw[zK4_];refine x2 _ _ {B _ _ el,BY (by decide +kernel),x5 O n r c w {rfl,TL,L.same B,by lia,by lia,?_}};rw[show((n:Int)+r+c+r+c).toNat=rows.length by lia];refine P9 (λi l g=>(Same H g/\∃ kvs,Mg g d rows w i 0 kvs)/\∃ y3 y4 y5,l=[some (.ref O),some<|.ref U,some<|.ref d,y3,y4,y5]) {{B,[],Y,bg _,λx y h=>(h.elim (absurd · (ir _)) (absurd ·.2 (ir _)))},x3 _ _ _ rfl} (λi l g hi {⟨s,kvs,T⟩,y3,y4,y5,u}=>?_) (λl g {⟨s,kvs,T⟩,y3,y4,y5,u}=>?_)
 have P':=P.same s;subst u;let[dp,ep]:=P'.ob;erw[zK1_,uf];refine x2 _ _ {ep,OH _ _ _,x6 U cl w rows m i {rfl,TP,P',λb' row eb er I v=>?_,λz=>by lia}}
 have rw1:=P'.wd row<|ι er;obtain rfl:=ce eb
 have J:=AL (o:=.lst row) v
 have M:upd g I (.lst row) I=some (.lst row):=AE;revert J M;intro J M;erw[zK3_];refine{row.length,.inl {_,SqL.of M,rfl},by lia,by lia,?_};refine P9 (λj l g=>(Same H g/\g I=some (.lst row)/\∃ kvs,Mg g d rows w i j kvs)/\∃ y5,l=[some (.ref O),some<|.ref U,some<|.ref d,some<|.int i,some<|.ref I,y5]) {{s.trans J,M,kvs,J _ _ T.e,T.l,T.v},_,rfl} (λj l H3 hj {⟨s3,ev,D,A⟩,y5,u}=>?_) (λl H3 {⟨s3,ev,D,A⟩,y5,u}=>?_);subst u
 have ej:=θ (show j<row.length by lia);erw[zK2_,uf];refine CH (SqL.of ev) rfl ej {by decide,λp hp=>?_}
 have l3:=A.l
 have sp:=AL (o:=.tup [V.int (i:Int),V.int (j:Int)]) hp
 have l4:i*w<=30*6:=io (by lia) w6;refine{_,DPut.t (k:=[.inl (i:Int),.inl (j:Int)]) (sp _ _ A.e) AE (BT _ (by lia)),λb o e=>?_,?_,_,AE,(χ (HJ ..) (by lia)),λx y hxy N=>?_};rw[AI (BK e hd)];exact sp _ _<|s3 _ _ e;rw[AI (λz=>by rw[z,T.e]at v;cases v)];exact sp _ _ ev
 ·rw[G1];by_cases z:x=i/\y=j
  ·let[rfl,rfl]:=z;rw[if_pos rfl,er];exact ej.symm
  ·rw[if_neg λe=>z (by
    simp only[zg,Sum.inl.injEq,and_true]at e;exact{ce e.1,ce e.2})]
   exact A.v x y (hxy.imp id λh=>{h.1,jw (dq h.2) λe=>z ⟨h.1,e⟩}) N
 ·subst u;erw[];exact{s3,D,A.e,by have:=A.l;rw[dv];lia,λx y h N=>A.v x y (h.elim (λh=>(yd.mp h).imp id λe=>{e,by rw[rw1];exact N}) (absurd ·.2 (ir _))) N}
 ·subst u;erw[zK5_];exact q d kvs g s T.e λb k hb hk=>T.v b k (.inl hb) hk
def IQ{z:Str}(h:BL z=true):Lts z z.length/\1<=z.length/\z.length<=8:=by
 unfold BL at h;simp only[bz,decide_eq_true_eq]at h;exact{{dE z,h.2},h.1.1,h.1.2}
def IR{y:Str}(h:BL y=true):32∉y.cps.toList:=λz=>by
 have:=fh.mp (IQ h).1.2 32 z;revert this;decide
theorem Mh:∀ l:wD,FT (CW l)=l/\CW l≠[]
 | []=>⟨rfl,nofun⟩
 |c::r=>by
  let[h1,h2]:=Mh r;unfold CW;split;rename_i e;refine{?_,nofun};revert h1 h2;cases CW r with
  |nil=>exact λ_ h=>absurd rfl h
  |cons w ws=>intro h1 _;rw[e];show []++32::FT _=_;rw[h1];rfl
  revert h1 h2;cases CW r with
  |nil=>exact λ_ h=>absurd rfl h
  |cons w ws =>
   refine λh1 _=>{?_,nofun}
   rw[<-h1];cases ws<;>rfl
section
variable{p u v k:Str}{c:wD}
def w2(b:32∉v.cps.toList)(d:p.cps.toList=c++[32])(e:32∉c)(h:L3 [c,v.cps.toList]=some [C4 c,C4 v.cps.toList])(g:C4 c=k):D8 (p++v)=some [k,v]:=by
 unfold D8;rw[SD,d,dt]
 show L3 (CW (c++32::v.cps.toList))=_;rw[QS e,NV b,h,g]
def w3(b:32∉u.cps.toList)(d:p.cps.toList=c++[32])(e:32∉c)(h:L3 (c::u.cps.toList::CW v.cps.toList)=some [C4 c,C4 u.cps.toList,C4 v.cps.toList])(g:C4 c=k):D8 (p++u++η " "++v)=some [k,u,v]:=by
 unfold D8;rw[SD,SD,SD,d,dt,dt,dt]
 show L3 (CW (c++32::(u.cps.toList++32::v.cps.toList)))=_;rw[QS e,QS b,h,g]
def Mj{r:uB}(n:Nat)(h1:HN OE (C4 c)=some (n:Int))(h2:C4 c≠"put")(h3:r.length+1=n)(h4:L0 ((c::r).getLastD [])=true):L3 (c::r)=some ((c::r).map C4):=by
 unfold L3;rw[List.headD_cons,h1];dsimp only;rw[if_neg h2,if_neg (by rw[bw,h3];exact λz=>z rfl),if_neg (λz=>by rw[h4]at z;cases z.2)]
def OT:∀ b:Fin 100,L0 (B0 (b.val:Nat)).cps.toList=true/\32∉(B0 (b.val:Nat)).cps.toList:=by decide
def zz8(h:BL v=true):D8 (η "make "++v)=some [("make":Str),v]:=w2 (c:=[109,97,107,101]) (IR h) (by decide) (by decide) rfl (by decide)
def zz9(h:BL v=true):D8 (η "cut "++v)=some [("cut":Str),v]:=w2 (c:=[99,117,116]) (IR h) (by decide) (by decide) rfl (by decide)
def z0a(h:BL v=true):D8 (η "keep "++v)=some [("keep":Str),v]:=w2 (c:=[107,101,101,112]) (IR h) (by decide) (by decide) rfl (by decide)
def z0b(h:BL v=true):D8 (η "show "++v)=some [("show":Str),v]:=w2 (c:=[115,104,111,119]) (IR h) (by decide) (by decide) rfl (by decide)
def z0c{b:Nat}(h:b<100):D8 (η "write "++B0 b)=some [("write":Str),B0 b]:=w2 (c:=[119,114,105,116,101]) (OT ⟨b,h⟩).2 (by decide +kernel) (by decide) (Mj 2 (by decide +kernel) (by decide +kernel) rfl (OT ⟨b,h⟩).1) (by decide +kernel)
def z0d(h:BL u=true)(h':BL v=true):D8 (η "link "++u++η " "++v)=some [("link":Str),u,v]:=w3 (c:=[108,105,110,107]) (IR h) (by decide) (by decide) (by rw[NV (IR h')];rfl) (by decide)
def z0e(h:BL u=true)(h':BL v=true):D8 (η "move "++u++η " "++v)=some [("move":Str),u,v]:=w3 (c:=[109,111,118,101]) (IR h) (by decide) (by decide) (by rw[NV (IR h')];rfl) (by decide)
def z0f{b:Nat}(h:BL u=true)(d:b<100):D8 (η "take "++u++η " "++B0 b)=some [("take":Str),u,B0 b]:=w3 (c:=[116,97,107,101]) (IR h) (by decide) (by decide) (by rw[NV (OT ⟨b,d⟩).2];exact Mj 3 (by decide) (by decide) rfl (OT _).1) (by decide)
def z0g(h:BL u=true):D8 (η "put "++u++η " "++v)=some [("put":Str),u,v]:=w3 (c:=[112,117,116]) (IR h) (by decide) (by decide) (by
 let[e,n]:=Mh _;revert e n;cases CW _ with
 |nil=>exact λz n=>absurd rfl n
 |cons w ws =>
  intro e z
  show some [C4 _,C4 _,C4 _]=_;rw[e]) (by decide)
end
def Ml{nl:Addr}{c:aD}{x:Int}{Q:VK}(h:Z6 H nl c)(q:∀ z∈c,Q (.str z) H):B8 K (.ref nl) (.int<|x%5) H Q:=by
 let[b,d,e]:=M3 x (n:=5) (by decide);rw[show((5:Nat):Int)=5 from rfl]at d;rw[d]
 have hz:b<c.length:=by rw[h.2.1];exact e
 exact CH (SqL.of h.1) rfl (by rw[ψ,θ hz];rfl) (q _<|pr hz)
def WF{z:Str}(h:G9 z=true):z.length<=40/\e_ z=true:=by
 unfold G9 at h;simp only[bz,decide_eq_true_eq]at h;refine{h.1.2,?_};unfold e_;rw[<-uv,fh];intro c b
 have:=fh.mp h.2 c b;unfold LR at this
 lia
example:(z0h,Z9,bE,5):=by
 apply u3;intro x nl D [rfl,nm,q];erw[bE,bE0_,bE1_,bE2_];refine{{by decide,by decide},Ml nm λy e=>?_};refine{{by decide,by decide},Ml nm λv g=>?_}
 have s:=nm.2.2 v g
 have i:=nm.2.2 y e
 have I:=(IQ s).2.2
 have J:=(IQ i).2.2
 have two:∀ {p:Str},p.length<=5->p.length+y.length<=sizeLine/\(p++y).length<=900:=λh=>by rw[MZ];exact{BT _ (by lia),by lia}
 have w:(η " ").length=1:=by decide
 have c:∀ {p t:Str},p.length<=5->t.length<=40->(p++y).length+(η " ").length<=sizeLine/\(p++y++η " ").length+t.length<=sizeLine/\(p++y++η " "++t).length<=900:=λh h'=>by
  simp only[MZ,w];exact{BT _ (by lia),BT _ (by lia),by lia}
 erw[bE4_,bE3_];by_cases k1:x%8<2;let[d,j]:=two (p:=η "make ") (by decide);exact EM k1 {d,q _ H (Same.refl _) {j,y,e,v,g,.inl {k1,zz8 i}}};refine DW k1 ?_;erw[bE6_,bE5_];by_cases k2:x%8=2;let[r,l,o]:=c (p:=η "link ") (t:=v) (by decide) (by lia);let[d,j]:=two (p:=η "link ") (by decide);exact EM k2 {d,r,l,q _ H (Same.refl _) {o,y,e,v,g,.inr<|.inl {k2,z0d i s}}}
 have big:2<x%8:=by lia
 refine DW k2 ?_;erw[bE8_,bE7_];by_cases k3:x%8=3;let[d,j]:=two (p:=η "cut ") (by decide);exact EM k3 {d,q _ H (Same.refl _) {j,y,e,v,g,.inr<|.inr {big,.inl<|zz9 i}}};refine DW k3 ?_;erw[bE10_,bE9_];by_cases k4:x%8<6;let[d,j]:=two (p:=η "put ") (by decide);refine EM k4 {d,(c (p:=η "put ") (t:=v) (by decide) (by lia)).1,{by decide,by decide},_,rfl,λt z po A=>?_};let[r,l,o]:=c (p:=η "put ") (by decide) (WF po).1;exact{l,q _ z A {o,y,e,v,g,.inr<|.inr {big,.inr<|.inl {t,po,z0g i}}}};refine DW k4 ?_;erw[bE12_,bE11_];by_cases k5:x%8=6;let[d,j]:=two (p:=η "take ") (by decide);let[b,u,B]:=M3 (x/200) (n:=6) (by decide);rw[show((6:Nat):Int)=6 from rfl]at u;let[r,l,o]:=c (p:=η "take ") (t:=B0 b) (by decide) (χ (MN (by lia) (by lia)) (by decide));refine EM k5 {d,r,{by decide,by decide},?_};rw[u];exact{_,rfl,by lia,by lia,l,q _ H (Same.refl _) {o,y,e,v,g,.inr (.inr {big,.inr (.inr (.inl {b,B,z0f i (by lia)}))})}};refine DW k5 ?_;erw[bE13_];let[d,j]:=two (p:=η "move ") (by decide);let[r,l,o]:=c (p:=η "move ") (t:=v) (by decide) (by lia);exact{d,r,l,q _ H (Same.refl _) {o,y,e,v,g,.inr<|.inr {big,.inr<|.inr<|.inr<|z0e i s}}}
theorem WG{P:CV->Prop}{b:Md}(c:∀ kind k,P<|b kind k):∀ {as:uE},(∀ x∈as,P x.x)->∀ kind k,P (hnd b as kind k)
 | [],_,kind,k=>c _ k
 |⟨d,e,v,nd⟩::as,hs,kind,k=>by
  show P (if kind=d/\k=e then v else hnd b as _ k);split;exact hs _ υ;exact WG c (λy g=>hs y<|ρ _ g) _ k
theorem dF{P:CV->Prop}{C:zC}{b:Md}(c:∀ kind k,P<|b kind k):∀ {as:uE},(∀ x∈as,P x.x)->∀ kind k,P (sh b C as kind k)
 | [],_,kind,k=>c _ k
 |⟨e,g,v,nd⟩::as,hs,kind,k=>by
  have d:=dF (C:=C) c (λy i=>hs y<|ρ _ i) kind k;unfold sh;split
  show P (if kind=e/\k=g then v else sh b C as _ k);split;exact hs _ υ;exact d;exact d
section
variable{X:SX}{cs:yD}{tks:yB}{M:Hs}{zs:aD}{k:Int}{P:Hp->Prop}{y v:Str}
structure DE(a:Ad)(X:SX)(cs:yD)(M:Hs)(zs:aD)(k:Int)(H:Hp)(P:Hp->Prop)(E:XK):Prop where
 g:∀ cs' tks' M' H',C6 a H' X cs' tks' M'->cs'.length+DU (X.c*X.w) M'<=cs.length+DU (X.c*X.w) M+4->ES M' zs->(k<=2->∀ y ts,KX X M y ts->KX X M' y ts)->SameBut (λx=>X.S.A.F x\/x=X.S.tk) H H'->P H'
 b:∀ c:String,(c="NoName"\/c="Twice"\/c="NoPiece"\/c="NoRoom")->∀ H',Same H H'->E (.ref<|a c) none H'
def DE.same{d:Hp}(D:DE a X cs M zs k H P E)(s:Same H d):DE a X cs M zs k d P E:={λi g j b h1 h2 h3 h4 h5=>D.g _ _ j b h1 h2 h3 h4 λy o e n=>h5 _ _ (s _ _ e) n,λc l b p=>D.b c l b<|s.trans p}
def F5{P:AC->Prop}{a:AC}{l:uE}(h:P a)(t:∀ x∈l,P x):∀ x∈a::l,P x:=λx b=>(aj.mp b).elim (λe=>e ▸ h) (t x)
def DE.good(D:DE a X cs M zs k H P E)(I:C6 a H X cs tks M)(e:ES M zs){ex:yD}{b:yB}{c:Hs}{i:Hp}{d:Nat}(p:ex.length=d)(hd:d+DU (X.c*X.w) c<=DU (X.c*X.w) M+4)(q:X.at a i (cs++ex) b c)(h3:∃ o,Hist X.m0 c.b c.as (LZ b) o)(h4:c.b=M.b)(h5:∃ g,c.as=g++M.as/\∀ x∈g,FG x.kind x.x/\OF zs x.x)(r:k<=2->∀ y l,KX X M y l->KX X c y l)(sb:SameBut (λx=>X.S.A.F x\/x=X.S.tk) H i):P i:=by
 let[g,n,h5]:=h5;exact D.g _ _ _ _ (I.more q sb h3 h4 {g,n,λx j=>(h5 x j).1}) (by rw[ae,p];lia) {h4 ▸ e.b,λx j=>(bd.mp<|n ▸ j).elim (λh=>(h5 x h).2) λh=>e.s x h} r sb
def C6.make(l:CZ K a)(I:C6 a H X cs tks M)(c:cs.length<900)(d:ES M zs)(n:BL y=true)(p:y∈zs)(D:DE a X cs M zs k H P E):RA K a [.ref X.S.st,.str y] H (λ_ b=>P b) E:=by
 let[o,q]:=I.hi
 have len:=I.st.la.len;refine x5 X cs _ M y {rfl,l,I.st,oA (IQ n).2.2 rfl,oA c rfl,λx g u cell w A N B ex v b J x x L sb=>?_,λx b s=>D.b _ (.inl rfl) b s,(by intro x [k,g] b s;exact D.b _ (.inr<|.inl rfl) b s),λx g h b s=>D.b _ (.inr<|.inr<|.inr rfl) b s}
 have i:=c8<|OK A
 have f1:=Kw  (OK w);refine D.good I d J ?_ L ?_ rfl {[_,_,_],rfl,F5 ⟨trivial,p⟩ (F5 ⟨trivial,trivial⟩ (F5 {ο _,trivial} nofun))} (λx O T h=>?_) sb;rw[E3,E3,E3,FJ (by decide),FJ (by decide),FJ (by decide)];lia
 have:=q.make  (nd:=(cs.length+1)::FV _ y) B i (WB g) f1 (by rw[len];simp) λj h=>ρ _<|c7 h;rw[<-len]at this;exact⟨_,this⟩;refine((h.put (λz=>by cases z) (λz=>by cases z) (by decide)).put (λz=>by cases z) (λx m ps e x=>?_) (by decide)).put (λx r e=>?_) (λz=>by cases z) (by decide);exact absurd (I.now.mr _ m ps e) f1;rw[dB (by decide),dB (by decide),i]at e;cases e
def C6.link(p:CZ K a)(I:C6 a H X cs tks M)(d:cs.length<900)(g:ES M zs)(q:BL y=true)(u:BL v=true)(w:v∈zs)(D:DE a X cs M zs k H P E):N6 K a [.ref X.S.st,.str y,.str v] H (λ_ b=>P b) E:=by
 let[o,A]:=I.hi;refine x6 X cs _ M y v {rfl,p,I.st,oA (IQ q).2.2 rfl,oA (IQ u).2.2 rfl,oA d rfl,λx x l old B cell eo i J=>(u2 ?_<|I.rl i J),λx b s=>D.b _ (.inl rfl) b s,λx x ⟨k,l⟩ b s=>D.b _ (.inr<|.inl rfl) b s,λx x x x b s=>D.b _ (.inl rfl) b s,λx x x x x b s=>D.b _ (.inr<|.inr<|.inr rfl) b s};intro m ps [L,c];refine{L,x2 m ps {c,oA ((I.ps c).2) rfl,λN O ex v b T x x U sb=>?_}}
 have n:=c8<|OK N;refine D.good I g T ?_ U {_,A.link  O n (WB l) c (by rw[I.st.la.len];simp) λj h=>ρ _<|c7 h} rfl {[_,_],rfl,F5 ⟨trivial,w⟩ (F5 ⟨trivial,trivial⟩ nofun)} (λx y' ts h=>?_) sb;rw[E3,E3,FJ (by decide),FJ (by decide)];lia;refine(h.put (λz=>by cases z) (λx m' Y e x=>?_) (by decide)).put (λx r e=>?_) (λz=>by cases z) (by decide);rw[c]at e;cases e;exact⟨_,rfl⟩;rw[dB (by decide),n]at e;cases e
def C6.put'(g:CZ K a)(I:C6 a H X cs tks M)(c:cs.length<900)(d:ES M zs)(po:G9 v=true)(J:2<k)(D:DE a X cs M zs k H P E):RC K a [.ref X.S.st,.str y,.str v] H (λ_ b=>P b) E:=by
 let[o,i]:=I.hi;refine x6 X cs _ M y v {rfl,g,I.st,oA (WF po).1 rfl,(WF po).2,oA c rfl,λcell j L l n u p q r=>(u2 ?_<|I.rl l n),λN b s=>D.b _ (.inl rfl) b s,λu u b s=>D.b _ (.inr<|.inr<|.inl rfl) b s,λu u u b s=>D.b _ (.inr<|.inr<|.inr rfl) b s};intro m ps [w,e];refine{w,x2 m ps {e,oA (I.ps e).2 rfl,λex u b A u u B sb=>D.good I d A ?_ B ?_ rfl {[_,_,_],rfl,F5 ⟨trivial,trivial⟩ (F5 {trivial,(WF po).1} (F5 {ο _,trivial} nofun))} (λz=>by lia) sb}};rw[E3,E3,E3,FJ (by decide),FJ (by decide)]
 have:=dA (S:=M.f) (x:=.mk 1) r
 lia
 have:=i.put (x:=v) (Kw  (OK q)) e;rw[<-I.st.la.len]at this;exact⟨_,this⟩
def C6.take{x:Int}(n:CZ K a)(I:C6 a H X cs tks M)(d:cs.length<900)(e:ES M zs)(O:2<k)(D:DE a X cs M zs k H P E):RD K a [.ref X.S.st,.str y,.int x] H (λ_ b=>P b) E:=by
 let[o,q]:=I.hi;refine x6 X cs _ M y _ {rfl,n,I.st,oA d rfl,λcell c T r w=>(u2 ?_<|I.rl r w),λU b s=>D.b _ (.inl rfl) b s};intro m ps [A,g];let[l,B]:=I.ps g;refine{A,x2 m ps {g,oA B rfl,λY b s=>D.b _ (.inr<|.inr<|.inl rfl) b s,λj p ek i=>{l p<|ι i,λex v b J u u L sb=>D.good I e J ?_ L ?_ rfl {[_,_],rfl,F5 {bg _,trivial} (F5 ⟨trivial,trivial⟩ nofun)} (λz=>by lia) sb}}};rw[E3,E3]
 have:=dA (S:=M.f.put 3 c<|.rc m<|ps.eraseIdx j) (x:=.mk 0) (l p<|ι i)
 have N:DU _ (M.f.put 3 c<|.rc m<|ps.eraseIdx j)=DU (X.c*X.w) _:=FJ (by decide)
 lia
 have:=q.take g i;rw[<-I.st.la.len]at this;exact⟨_,this⟩
def C6.move(r:CZ K a)(I:C6 a H X cs tks M)(i:cs.length<900)(l:ES M zs)(u:BL y=true)(w:BL v=true)(A:v∈zs)(Y:2<k)(D:DE a X cs M zs k H P E):RE K a [.ref X.S.st,.str y,.str v] H (λ_ b=>P b) E:=by
 let[o,B]:=I.hi
 have len:=I.st.la.len;refine x6 X cs _ M y v {rfl,r,I.st,oA (IQ u).2.2 rfl,oA (IQ w).2.2 rfl,oA i rfl,λx x p old c cell eo d g=>(u2 ?_<|I.rl d g),λx b s=>D.b _ (.inl rfl) b s,λx x ⟨k,p⟩ b s=>D.b _ (.inr<|.inl rfl) b s,λx x x x b s=>D.b _ (.inl rfl) b s,λx x x x x b s=>D.b _ (.inr<|.inr<|.inr rfl) b s};intro m ps [J,n];refine{J,x2 m ps {n,oA ((I.ps n).2) rfl,λL N ex v' b O x x T sb=>?_}}
 have q:=c8<|OK L;refine D.good I l O ?_ T ?_ rfl {[_,_,_,_],rfl,F5 ⟨trivial,trivial⟩ (F5 ⟨trivial,trivial⟩ (F5 ⟨trivial,A⟩ (F5 ⟨trivial,trivial⟩ nofun)))} (λz=>by lia) sb;rw[E3,E3,E3,E3,FJ (by decide),FJ (by decide),FJ (by decide),FJ (by decide)];lia
 have l2:=(B.link  (nd:=cs.length::FV _ v) N q (WB p) n (by rw[len];simp) λj h=>ρ _<|c7 h).unlead  (nd:=[cs.length+1])   d (by rw[IK,DS (λe=>by rw[e,q]at g;cases g),IK];exact g) (by rw[IK,MS (by simp),IK,CT])
 have U:({0,cell,.nm v c,cs.length::FV tks v}::{3,c,.rc (m+1) ps,[]}::M.as).length=cs.length+2:=by rw[len];rfl
 rw[U]at l2;rw[cZ];exact⟨_,l2⟩
def C6.cut'(O:CZ K a)(I:C6 a H X cs tks M)(i:cs.length<900)(e:ES M zs)(Y:2<k)(D:DE a X cs M zs k H P E):RB K a [.ref X.S.st,.str y] H (λ_ g=>P g) E:=by
 have len:=I.st.la.len;let[o,r]:=I.hi
 have w:=I.now;refine x5 X cs _ M y {rfl,O,I.st,oA i rfl,λcell b ec j l=>(u2 ?_<|I.rl j l),λhc g s=>D.b _ (.inl rfl) g s};intro m ps [T,c];let[A,U]:=I.ps c;refine{T,x2 m ps {c,A,oA U rfl,λB ex v g n u u q sb=>D.good I e n ?_ q ?_ rfl {[_,_],rfl,F5 ⟨trivial,trivial⟩ (F5 ⟨trivial,trivial⟩ nofun)} (λz=>by lia) sb,λB ex v g n u u q sb=>D.good I e n ?_ q ?_ R8.2 ?_ (λz=>by lia) sb}};rw[E3,E3,FJ (by decide),FJ (by decide)];lia;obtain⟨J,rfl⟩:∃ J,m=J+1:={m-1,by lia}
 have:=r.unlead (nd:=[]) j l c;rw[<-len]at this;rw[cZ];exact⟨_,this⟩;rw[E3,FJ (by decide)]
 have:=Lq  (d:=cs.length+1)  (M:=(M.put 0 cell .no []).put 3 b .no [cs.length]) (w.nd _ m ps c) λp L=>{A p L,(w.pm _ m ps c p L).1}
 rw[E3,E3,FJ (by decide),FJ (by decide)]at this
 lia
 have:=r.dropped (nd:=[]) j l c B;rw[<-len]at this;rw[cZ];refine{EW o y cs.length,?_}
 show Hist _ (Hs.unmark _ _ _).b ({1,_,_,_}::(Hs.unmark _ _ _).as) _ _;rw[R8.1,R8.2];exact this;refine{{1,b,.mk 0,[cs.length+1]}::((ps.map λp=>{2,p,.mk 0,[cs.length+1]}).reverse++[{3,b,.no,[cs.length]},{0,cell,.no,[]}]),?_,λx N=>?_}
 show{1,_,_,_}::(Hs.unmark _ _ _).as=_;rw[R8.1];simp[Hs.put];simp only[aj,bd,He,av,bx,or_false]at N;let rfl||[p,_,rfl]||rfl||rfl:=N<;>first|exact{bg _,trivial}|exact⟨trivial,trivial⟩
end
section
variable{h:Addr}{X:SX}{cs:yD}{tks:yB}{M:Hs}{z:Str}
def HsC.say(T:EQ K a)(A:HsC a H h X cs tks M)(hz:z.length<=900){w:Str}{ws:aD}(e:D8 z=some (w::ws))(q:∀ l b,Same H b->b l=some (.lst<|(w::ws).map V.str)->(w∈KO/\RN K a [.ref X.S.st,.ref l] b (λ_ c=>Q (.str "ok") c) E)\/(w="stop"/\RP K a [.ref h] b Q E)\/(w∉KO/\w≠"stop"/\RO K a [.ref X.S.st,.ref l] b Q E)):ER K a [.ref h,.str z] H Q E:=by
 let[d,g]:=A.1;exact x6 h d _ _ _ z {rfl,T,g,A.st,hz,x2 w ws ⟨e,q⟩}
def HsC.deed{n:aD}{k:Int}(T:EQ K a)(A:HsC a H h X cs tks M)(c:cs.length<900)(j:∀ z∈n,BL z=true)(d:ES M n)(R:Z8 n k z)(D:DE a X cs M n k H (λs=>Q (.str "ok") s) E):ER K a [.ref h,.str z] H Q E:=by
 let[hz,y,q,v,o,R]:=R
 have p:=j y q
 have r:=j v o;rcases R with⟨i,e⟩|⟨i,e⟩|⟨i,e|⟨t,po,e⟩|⟨b,w,e⟩|e⟩<;>refine A.say T hz e λl x g u=>.inl {by decide,x3 _ l _ {rfl,(A.same g).st,u,?_}}
 exact .inl {y,rfl,(A.same g).2.make T.s4 c d p q (D.same g)};exact .inr<|.inr<|.inl<|x2 y v {rfl,(A.same g).2.link T.s4 c d p r o (D.same g)};exact .inr<|.inr<|.inr<|.inr<|.inl {y,rfl,(A.same g).2.cut' T.s4 c d i (D.same g)};exact .inr<|.inl<|x2 y t {rfl,(A.same g).2.put' T.s4 c d po i (D.same g)};exact .inr (.inr (.inr (.inr (.inr (x3 y _ b {rfl,χ (MN (by lia) (by lia)) (by decide),W.KIN.num_reads (by lia) (by lia),(A.same g).2.take T.s4 c d i (D.same g)})))));exact .inr<|.inr<|.inr<|.inl<|x2 y v {rfl,(A.same g).2.move T.s4 c d p r o i (D.same g)}
def C6.hs(A:HsC a H h X cs tks M){X':SX}{c:yD}{b:yB}{g:Hs}{e:Hp}(C:C6 a e X' c b g)(i:X'.S=X.S)(sb:SameBut (λx=>X.S.A.F x\/x=X.S.tk\/x=X.S.A.gp) H e):HsC a e h X' c b g:=by
 let[[j,d],I]:=A;let[y,l]:=I.st.bk.pk.ob;refine{{j,?_},C};rw[i];refine sb _ _ d λz=>?_;let z||z||z:=z
 exact(I.st.bk.loose z).2 _ _ _ d;rw[z,I.st.tk]at d;cases d;exact OS d l  (by rw[SB];nofun) (KG _ _ _ (by decide) (by decide) (by decide)) z.symm
def C6.nx(I:C6 a H X cs tks M){X':SX}{c:Hp}(d:X'.S=X.S)(g:X'.n=X.n/\X'.r=X.r/\X'.c=X.c/\X'.w=X.w)(sb:SameBut (λx=>X.S.A.F x\/x=X.S.tk\/x=X.S.A.gp) H c):Nx H X c X':=by
 let[y,i]:=I.st.bk.pk.ob;refine{by rw[d],g,λl o e no b=>{sb _ _ e λz=>?_,by show ¬ (X'.S.A.F l\/l=X'.S.tk);rw[d];exact b}};let z||z||z:=z
 exact b<|.inl z;exact b<|.inr z;exact no _ _ _<|μ<|e.symm.trans<|z ▸ i
end
def Nx.refl{X:SX}:Nx H X H X:={rfl,⟨rfl,rfl,rfl,rfl⟩,λl o e z n=>⟨e,n⟩}
def Nx.of{X:SX}{b:Hp}(s:Same H b):Nx H X b X:={rfl,⟨rfl,rfl,rfl,rfl⟩,λl o e z n=>{s _ _ e,n}}
def Nx.trans{X X' b:SX}{c d:Hp}(h:Nx H X c X')(h':Nx c X' d b):Nx H X d b:={h'.lp.trans h.lp,{h'.sz.1.trans h.sz.1,h'.sz.2.1.trans h.sz.2.1,h'.sz.2.2.1.trans h.sz.2.2.1,h'.sz.2.2.2.trans h.sz.2.2.2},λl o e no n=>h'.o l o (h.o l o e no n).1 no (h.o l o e no n).2}
example:(z0i,aA,Fg,3):=by
 apply u8;intro h X cs r M k z L [rfl,T,TD,A,i,j,l,R,g,u];let[N,v]:=A.1;refine x2 _ _ {v,rfl,A.deed T i j l R {λw q B p C D b I sb=>?_,λc J p s=>?_}}
 have d:SameBut (λx=>X.S.A.F x\/x=X.S.tk\/x=X.S.A.gp) H p:=λy o e n=>sb _ _ e λz=>n<|z.imp id .inl;exact u _ _ B p (C6.hs A C rfl d) D b I (A.2.nx rfl ⟨rfl,rfl,rfl,rfl⟩ d);let rfl||rfl||rfl||rfl:=J
 exact .inl {TD.n1,g _ s};exact .inl {TD.t1,g _ s};exact .inr {TD.p1,.inl {TD.p2,g _ s}};exact .inr {TD.r1,.inl {TD.r2,g _ s}}
def C6.there{X:SX}{cs:yD}{c:yB}{M:Hs}{kvs:uA}{kind k:Nat}(I:C6 a H X cs c M)(l:∀ b k:Nat,b<X.rows.length->k<X.w->BG kvs [.inl (b:Int),.inl (k:Int)]=(X.rows[b]?).bind λq=>q[k]?)(h1:kind<5)(d:k<BO X.n X.r X.c X.w kind):∃ v,BG kvs [.inl ((BI X.n X.r X.c X.w kind k:Nat):Int),.inl ((k%X.w:Nat):Int)]=some v/\RepC H (sh M.b X.C M.as kind k) v:=by
 let[g,i]:=I.st.on h1 d
 have j:=θ g;obtain⟨v,n⟩:∃ v,(X.rows[BI _ _ _ _ _ k])[k%X.w]? =some v:={_,θ (by rw[(I.st.bk.pk.wd _<|ι j)];exact i)}
 have e:(X.rows[BI X.n X.r X.c X.w kind k]?).bind (λq=>q[k%X.w]?)=some v:=by rw[j];exact n
 exact{v,by rw[l _ _ g i];exact e,I.rows _ k v h1 d e}
def C6.look{X:SX}{cs:yD}{e:yB}{M:Hs}{kvs:uA}{kind k:Nat}{x:Int}{d t:Addr}{c:Hp}{P:V->Prop}(I:C6 a H X cs e M)(g:H d=some (.dT kvs))(i:∀ b k:Nat,b<X.rows.length->k<X.w->BG kvs [.inl (b:Int),.inl (k:Int)]=(X.rows[b]?).bind λq=>q[k]?)(s:Same H c)(h1:kind<5)(j:k<BO X.n X.r X.c X.w kind)(l:c t=some (.tup [.int x,.int<|(k:Int)%X.w]))(n:x=(BI X.n X.r X.c X.w kind k:Nat))(q:∀ v,RepC c (sh M.b X.C M.as kind k) v->P v):∃ v,DGet c d (.ref t) (some v)/\P v:=by
 let[v,o,p]:=I.there i h1 j;exact{v,zdn (s _ _ g) l (by rw[n];exact o),q v<|p.keep s.tk}
def Mm{S:Md}{c:aD}{ps:wD}{b:aD}(P:Paired (λp t=>S 4 p=.tx t) ps b)(h:∀ kind k,OF c<|S kind k):(b.map (·.length)).sum+b.length<=41*ps.length:=by
 induction P with
 |nil=>exact ο _
 |cons e _ d =>
  have:=h 4 ‹_›;rw[e]at this
  have:_<=40:=this;simp only[cg,vb,bw]
  lia
def Mp(b:Hp)(S:Md)(z:Str)(c h d:Addr)(i:Nat)(e:St)(g:Hp):Prop:=(Same b g/\∀ j<i,∀ r,S 0 j≠.nm z r)/\∃ y4 y5 l,e=[some (.ref c),some<|.ref h,some<|.str z,some<|.ref d,y4,y5,l]
example:(z0j,VH,Ac,7):=by
 apply u8;intro h X cs tks M z zs ts [rfl,T,[[dh,eh],I],N,[k0,r,ps,hk,D,out,f],q];let[[m,e3],P]:=f X.C (I.st.la.cut I.cut) λy z=>z
 have D:sh M.b X.C M.as 0 k0=.nm z r:=by rw[Q2 out];exact D
 let[TB,TP,O,TS]:=id T.s4;let[z1,z2,z3,z4,z5]:=I.st.sz;refine x2 _ _ {eh,rfl,x5 h dh _ _ _ {rfl,T.ho,eh,x9 _ _ _ _ _ _ _ _ X.nn {rfl,O,TP,I.st.ly,I.st.bk.pk,z5,by lia,z4,λd kvs H1 s1 ed hv=>?_}}}
 have b:=I.same s1;let[dl,el]:=b.st.ly.ob;erw[Ac5_];refine x2 _ _ {el,BY,x5 X.S.lp X.n X.r X.c X.w {rfl,O,b.st.ly,λt ht=>?_}};refine BV (n:=0) AE rfl rfl ?_
 have em:((X.n:Int)*X.w).toNat=X.m0:=by rw[<-zb];rfl
 have hm:X.n*X.w<=36:=χ (io z1 z4) (by decide)
 have bm: -2^62<=(X.n:Int)*X.w/\(X.n:Int)*X.w<2^62:=by rw[<-zb];lia
 refine{bm.1,bm.2,?_};refine P9 (Mp H1 (sh M.b X.C M.as) z X.S.lp h d) {{(AL (o:=.tup [.int (X.n*X.w),.int<|X.r*X.w,.int<|X.c*X.w]) ht),λj hj=>by lia},x3 _ _ _ rfl} (λi σ J hi A=>?_) (λσ J A=>?_);let[[s,hn],y4,y5,y6,rfl]:=A;erw[Ac1_,uf];refine x2 _ _ {s _ _ el,BY,x6 X.S.lp X.n X.r X.c X.w i {rfl,O,(b.same s).st.ly,λt1 ht1=>?_}};let[H2,g,s3,et1]:=EL (o:=.tup [.int (0+(i:Int)/X.w),.int<|(i:Int)%X.w]) ht1;rw[g]
 have l:=s.trans s3;refine b.look (kind:=0) ed hv l (by decide) hi et1 (by simp[BI]) λv L=>?_;erw[Ac4_]
 have ok:=(b.inl X.C).ok 0 i
 have go:(∀ r,sh M.b X.C M.as 0 i≠.nm z r)->Mp H1 (sh M.b X.C M.as) z X.S.lp h d (i+1) [some (.ref X.S.lp),some<|.ref h,some<|.str z,some<|.ref d,some<|.int i,some v,y6] H2:=λh=>{{l,λj hj=>(yd.mp hj).elim (hn j) λe=>e ▸ h},x3 _ _ _ rfl}
 cases w:sh M.b X.C M.as 0 i with
 | nm z' r' =>
  rw[w]at L;let[p,rfl,ep]:=L;refine EM nofun<|BV (n:=0) ep rfl rfl ?_;erw[];by_cases ez:z'=z
  ·refine EM ez ?_;subst ez;obtain rfl:=b.snd.un _ _ _ _ _ hi hk w D;rw[w]at D;cases D;refine u2 ?_<|b.snd.rl (b.inl _) hi w;intro y y [hr,y];erw[Ac2_];refine x2 _ _ {l _ _ el,BY,BV (n:=1) ep rfl rfl (x6 X.S.lp X.n X.r X.c X.w r {rfl,O,(b.same l).st.ly,λt2 ht2=>?_})};let[H3,g,s4,et2]:=EL (o:=.tup [.int ((X.n:Int)+(r:Int)/X.w),.int<|(r:Int)%X.w]) ht2;rw[g]
   have u:=l.trans s4;refine b.look (kind:=3) ed hv u (by decide) hr et2 (by simp[BI]) λv3 U=>?_;rw[e3]at U;revert U;refine u2 ?_;intro p3 u3 [rfl,ep3,Y]
   have I3:=b.same u;refine BV (n:=1) ep3 rfl rfl ?_;erw[Ac3_];let[pl,pn]:=b.snd.few (b.inl X.C) e3
   have few:=I.few;refine{rfl,.inr {{_,SqT.of Y},VR (xs:=AO ps) (by simp only[AO,ε];exact BT _ (by lia)) (λj ys J=>Same H3 J/\ys=(ts.take j).map V.str) {Same.refl _,rfl} (λj ys J y q=>SqT.of<|q.1 _ _ Y) (λj x ys J ex hyl q=>?_) (λys J hyl q' lc hlc=>?_)}}
   ·let[s5,ey]:=q;unfold AO at ex;rw[ψ,af]at ex;let[c,hc,rfl]:=ex;let[t4,et4,e4]:=KU P hc
    have B:=u.trans s5;erw[C1];refine x2 _ _ {B _ _ el,BY,x6 X.S.lp X.n X.r X.c X.w c {rfl,O,(b.same B).st.ly,λt5 ht5=>?_}};let[H5,g,s6,et5]:=EL (o:=.tup [.int ((X.n:Int)+X.r+(c:Int)/X.w),.int<|(c:Int)%X.w]) ht5;rw[g];refine b.look (kind:=4) ed hv (B.trans s6) (by decide) (pl c<|ι hc) et5 (by simp[BI]) λv4 rv4=>{s5.trans s6,?_}
    rw[e4]at rv4;rw[cv,et4,aw,ey,show v4=.str t4 from rv4]
    rfl
   ·let[s5,ey]:=q'
    have e5:ts.length=(AO ps).length:=by simp only[AO,ε];exact P.length.symm
    rw[<-e5,eq<|ο _]at ey;exact x3 _ lc ts {rfl,rfl,by rw[<-ey];exact SqL.of AE,by decide,χ (Mm P<|dF N.b N.s) (by lia),q _<|((s1.trans u).trans s5).trans (AL hlc)}
  ·refine DW ez ?_;exact go λr e=>ez (by rw[w]at e;cases e;rfl)
 |no =>
  rw[w]at L
  have L:v=.non:=L;subst L;exact DW (λh=>h rfl) (go λr e=>by rw[w]at e;cases e)
 |_=>rw[w]at ok;exact ok.elim
 let[[s,hn],y]:=A;exact absurd D<|hn k0 hk r
def z0k{cs:yD}{outs:wC}{ns:vD}{R:wC}(j:∀ (k:Nat) (c:Ch),cs[k]? =some c->∀ x∈c.nd,x<k)(l:MP cs outs ns R)(h:∀ x∈ns,outs x=true)(d:Nat):∀ x:Int,(cs.length:Int) - x<=d->outs x=false->R x=false:=by
 induction d with
 |zero =>
  intro x hd g;cases e:R x with
  |false=>rfl
  |true =>
   let b||[k,c,i,_,_,b]:=l.only x e
   rw[h x b]at g;cases g
   have:=j k c i x b
   have:=(ζ.mp i).1
   lia
 |succ d o =>
  intro x hd g;cases e:R x with
  |false=>rfl
  |true =>
   let b||[k,c,i,ok,n,b]:=l.only x e
   rw[h x b]at g;cases g
   have:=j k c i x b;rw[o k (by lia) ok]at n;cases n
def z0l{cs:yD}{outs:wC}{ns:vD}{R:wC}{row:wD}(b:∀ (k:Nat) (c:Ch),cs[k]? =some c->∀ x∈c.nd,x<k)(d:MP cs outs ns R)(h:∀ x∈ns,outs x=true)(r:GB cs outs (EO cs.length outs R) row):row=[]:=by
 have:EO cs.length _ R=[]:=List.eq_nil_iff_forall_not_mem.mpr λk e=>by
  let[h1,h2,h3]:=N0.mp e;rw[z0k b d h cs.length k (by lia) h2]at h3;cases h3
 rw[this]at r;cases r;rfl
def z0m{cs:yD}{m:Nat}{row:wD}{outs:wC}{left:wD}(h:∀ c∈cs,c.blk<m)(r:GB cs outs left row):∀ b∈row,b<m:=by
 induction r with
 |nil=>exact λb d=>by cases d
 |cons e _ g =>
  intro b d;let rfl||d:=aj.mp d
  exact h _<|ι e;exact g b d
section
variable{h:Addr}{X:SX}{cs:yD}{tks:yB}{M:Hs}{z:Str}{zs:aD}{k r m:Nat}{ps:wD}{ts:aD}
structure Std(X:SX)(M:Hs)(z:Str)(k r m:Nat)(ps:wD)(ts:aD):Prop where
 hk:k<X.m0
 n:M 0 k=.nm z r
 hr:r<X.r*X.w
 e:M 3 r=.rc m ps
 l:ps.length<=18
 p:∀ p∈ps,p<X.c*X.w
 t:Paired (λp t=>p<X.c*X.w/\M 4 p=.tx t) ps ts
def C6.std(I:C6 a H X cs tks M)(c:k<X.m0)(d:M 0 k=.nm z r):∃ m ps ts,Std X M z k r m ps ts:=by
 refine u2 ?_<|I.rl c d;intro m ps [i,b];let[e,j]:=I.ps b;let[ts,P]:=Ly    λp g=>{e p g,(I.now.pm r m ps b p g).2}
 exact x3 m ps ts ⟨c,d,i,b,j,e,P⟩
def l5(b:BL z=true):(η "show ").length+z.length<=sizeLine/\(η "show "++z).length<=900/\(η "keep ").length+z.length<=sizeLine/\(η "keep "++z).length<=900:=by
 have:=(IQ b).2.2;rw[MZ,MZ,show(η _).length=5 by decide,show(η _).length=5 by decide];exact{BT _ (by lia),by lia,BT _ (by lia),by lia}
def HsC.shows(T:EQ K a)(A:HsC a H h X cs tks M)(b:ES M zs)(d:BL z=true)(S:Std X M z k r m ps ts)(q:∀ e,Same H e->Q (.str<|Txt.join "" ts) e):ER K a [.ref h,.str<|η "show "++z] H Q E:=by
 refine A.say T (l5 d).2.1 (z0b d) λl w c n=>.inr (.inr {by decide,by decide,x3 _ l _ {rfl,(A.same c).st,n,.inr<|.inr<|.inr {z,rfl,x5 X cs _ M z {rfl,T.s4,(A.same c).2.st,λcell o g y i=>?_,λj=>?_}}}});rw[A.2.cell S.hk S.n]at g;obtain rfl:=μ g;rw[S.n]at i;cases i
 have:=Mm   (Paired.mapP S.t λp t h=>h.2) (WG b.b b.s);refine{S.hr,x2 m ps {S.e,oA S.l rfl,ts,S.t,λp s y u v=>x3 _ p ts {rfl,rfl,SqL.of v,by decide,?_,q s<|c.trans u}}}
 have:=S.l
 lia
 rw[A.2.cell S.hk S.n]at j;cases j
def HsC.keeps(T:EQ K a)(A:HsC a H h X cs tks M)(w:cs.length<=300)(i:BL z=true)(S:Std X M z k r m ps ts)(q:∀ row R j,Same H j->MP cs X.outs (LT X cs<|FW k r ps) R->GB cs X.outs (EO cs.length X.outs R) row->row.length<=300->(∀ b∈row,b<X.rows.length/\b<100)->Q (.str<|FY<|row.map λ(b:Nat)=>B0 b) j):ER K a [.ref h,.str<|η "keep "++z] H Q E:=by
 have n:=A.2.st.sz;refine A.say T (l5 i).2.2.2 (z0a i) λl O e x=>.inr (.inr {by decide,by decide,x3 _ l _ {rfl,(A.same e).st,x,.inr<|.inl {z,rfl,x5 X cs _ M z {rfl,T.s4,(A.same e).2.st,λcell B o y s=>?_,λd=>?_}}}});rw[A.2.cell S.hk S.n]at o;obtain rfl:=μ o;rw[S.n]at s;cases s;refine{S.hr,x2 m ps {S.e,oA S.l rfl,S.p,λp row R U D u c3 y I J=>?_}}
 have v:∀ b∈row,b<X.rows.length/\b<100:=λb g=>by
  have:=z0m (λc d=>A.2.st.bk.nb ▸ (A.2.st.bk.bk.inn c d).1) u b g;exact{this,by lia}
 exact x2 p _ {rfl,J,by lia,λb n=>(v b n).2,λL N=>q _ R L (e.trans<|I.trans N) D u (by lia) v};rw[A.2.cell S.hk S.n]at d;cases d
end
example:(z0n,VE,zX,2):=by
 apply u6;intro X cs tks M b row [rfl,[T,TP,TL,TS],I,r,q];let[N,ho]:=I.ob;let[dp,s]:=I.bk.pk.ob
 have hb:=(ζ.mp r).1;let[db,eb]:=I.bk.bk.ob;refine y3 {ho,TS.cl,TS.n2,_,HV,y2 {eb,DA (by decide),x7 _ _ _ _ cs _ b {rfl,T,TP,I.bk,λb' O t ol hl U w n o1 o2 u o3 B' sb=>?_,λz=>by lia}}};obtain rfl:b=b':=ce w;rw[r]at n
 have lo:∀ x,X.S.A.F x->EV _:=λx hx=>I.bk.loose hx;obtain rfl:=μ n;let[[N,i],Y,e3,B,e5,e6,e7,o,e9,D,J,L]:=I
 have tk:EA H U:=λy ys e=>sb _ _ e λz=>z.elim (λz=>(lo _ z).1 _ e) λz=>by rw[z,s]at e;cases e
 let[dl,l]:=Y.ob;refine q t ol hl U o1 o2 o3 {{N,sb _ _ i λz=>z.elim (λz=>(lo _ z).2 _ _ _ i) λz=>?_},Y.sb sb λz=>z.elim (λz=>(lo _ z).2 _ _ _ l) λz=>?_,B',sb _ _ B λz=>z.elim e7 λz=>?_,e5,e6,e7,{o.1,o.2.1,o.2.2.1,o.2.2.2.1,by show(X.rows.set b _).length=X.n+X.r+X.c+X.r+X.c;rw[ka];exact o.2.2.2.2},{λq p v d=>?_,(e9.keep tk).2},λkind k v h1 hk d=>?_,J,L.keep tk} sb;rw[show X.S.st=X.S.A.gp from z,s]at i;injection i with i
 injection i with _ _ i
 cases (congrArg (·.lookup ("plan":Str)) i);rw[z,s]at l;injection l with l
 injection l with _ _ l
 exact absurd (congrArg ji l) (by simp[pf,lf]);rw[show X.S.tk=X.S.A.gp from z,s]at B;cases B
 have g:=e9.keep tk;let p||p:=p_ p
 exact g.1 q p v d;rw[p]at d;let d||[c,hc,rfl]:=zxe d
 exact g.1 _ (ι r) v d;exact g.2 c hc
 have d:EX cs (X.rows.set b _) (BI X.n X.r X.c X.w _ k) (k%X.w:Nat)=some v:=d;refine(D _ k v h1 hk ?_).keep tk;rw[<-d];unfold EX;cases en:D5 cs _ _ with
 |some j=>rfl
 |none =>
  rw[ci];by_cases e:BI X.n X.r X.c X.w kind k=b;rw[e]at en ⊢;rw[r,gk hb]
  show row[_]? =(E7 cs _ b _)[_]?;rw[ci,zxd en];rw[ia (λz=>e z.symm)]
section
variable{h:Addr}{X:SX}{cs:yD}{tks:yB}{M:Hs}{z:Str}{zs:aD}
def HsC.write{b:Nat}(T:EQ K a)(A:HsC a H h X cs tks M)(j:b<X.rows.length)(p:cs.length<=900)(q:∀ s row c,X.rows[b]? =some row->HsC a c h (X.wr cs b row) cs tks M->SameBut (λx=>X.S.A.F x\/x=X.S.A.gp) H c->Q (.str s) c):ER K a [.ref h,.str<|η "write "++B0 b] H Q E:=by
 have sz:=A.2.st.sz
 have i:b<100:=by lia
 have g:=θ j
 have l2:=WE ⟨b,i⟩
 have w:(η "write ").length=6:=by decide
 refine A.say T (by rw[MZ];lia) (z0c i) λl B e r=>.inr (.inr {by decide,by decide,x3 _ l _ {rfl,(A.same e).st,r,.inl {b,rfl,by lia,x6 X cs _ M b _ {rfl,T.s4,(A.same e).2.st,g,λt ol u c y y told v sb=>?_}}}})
 have D:(outcome cs X.outs (λy=>false) b).out.length+(outcome cs X.outs (λy=>false) b).held.length<=cs.length:=by
  have:=YW (cs:=cs) (outs:=X.outs) (DH cs b) {[],[],λy=>false}
  have h2:=YS cs b;unfold outcome;simp at this ⊢
  lia
 have d:SameBut (λx=>X.S.A.F x\/x=X.S.A.gp) H c:=λx o ex n=>sb _ _ (e _ _ ex) n;exact x5 t ol u _ _ {rfl,told,by lia,by lia,q _ _ c g (C6.hs A ((A.same e).2.write g v sb) rfl λx o ex n=>d _ _ ex λz=>n<|z.imp id .inr) d}
def HsC.stop(T:EQ K a)(d:TV K a)(A:HsC a H h X cs tks M)(q:∀ X' b,HsC a b h X' [] [] {D7 X.n X.r X.c X.w<|sh M.b X.C M.as,[]}->Nx H X b X'->Q (.str<|B0 (IM<|B9 X.n X.r X.c X.w<|sh M.b X.C M.as).length) b):ER K a [.ref h,.str<|η "stop"] H Q E :=
 A.say T (by decide)  (ws:=[]) (by decide) λl g c i=>.inr<|.inl {rfl,x5 h X cs _ M {rfl,T,d,A.same c,λX' b e nx z=>q X' b e<|(Nx.of c).trans nx}}
def HsC.names(T:EQ K a)(A:HsC a H h X cs tks M)(c:ES M zs)(g:∀ z∈zs,BL z=true)(q:∀ b o,Same H o->b.Perm (KL M X.m0)->sortedS b=true->(∀ y∈b,y∈zs)->(b.map (·.length)).sum+b.length<=1000->Q (.str<|FY b) o):ER K a [.ref h,.str<|η "names"] H Q E:=by
 refine A.say T (by decide)   (by decide) λl L i s=>.inr (.inr {by decide,by decide,x3 _ l _ {rfl,(A.same i).st,s,.inr<|.inr<|.inl {rfl,x4 X cs _ M {rfl,T.s4,(A.same i).2.st,λp b u v w B j hs=>?_}}}})
 have d:∀ y∈b,y∈zs:=λy n=>by
  refine u2 ?_<|Lx.mp<|j.mem_iff.mp n;intro k r [N,e]
  have:=WG c.b c.s 0 k;rw[show hnd _ _ 0 k=_ from e]at this;exact this
 have D:∀ {l:aD},(∀ y∈l,y.length<=8)->(l.map (·.length)).sum<=8*l.length:=λ{l} h=>by
  induction l with
  |nil=>exact ο _
  |cons y l I =>
   have h1:=h y υ
   have h2:=I λx J=>h x<|ρ _ J;simp only[cg,vb,bw]
   lia
 have h2:b.length<=X.m0:=by
  rw[j.length_eq];exact χ (gy _ _) (by rw[cr];exact ο _)
 have h3:X.m0<=36:=χ (io A.2.st.sz.1 A.2.st.sz.2.2.2.1) (by decide)
 have h1:=D λy n=>(IQ<|g y<|d y n).2.2;exact x2 p b {rfl,B,by lia,q b u (i.trans w) j hs d (by lia)}
end
theorem Mq:∀ (l:aD) (b:Array Nat),(l.foldl (λb q=>b++(η " ").cps++q.cps) b).toList=b.toList++(l.map λq=>32::q.cps.toList).flatten
 | [],b=>by simp
 |q::l,b=>by
  rw[fq,Mq l,show(η _).cps= #[32] by decide +kernel];simp
def Mv:∀ {k:Str} {l:aD},(Txt.join (η " ") (k::l)).cps.toList=FT ((k::l).map (·.cps.toList)):=by
 intro k l
 show(l.foldl (λb q=>b++(η _).cps++q.cps) k.cps).toList=_;rw[Mq]
 induction l generalizing k with
 |nil=>simp[FT]
 |cons q l c =>
  have:=c (k:=q)
  show _=k.cps.toList++32::FT _;rw[cg]at this;rw[<-this];simp
def Mw{l:aD}(h:l≠[])(b:∀ k∈l,32∉k.cps.toList):Txt.split (Txt.join (η " ") l) (η " ")=l:=by
 cases l with
 |nil=>exact absurd rfl h
 |cons k l =>
  rw[UC _,Mv,YG (ps:=(k::l).map _) nofun (by intro p c;let[y,d,rfl]:=av.mp c;exact b y d)];simp[xr]
def z0o{α b :Type}{F: α -> b ->Prop}{G: α ->Prop}{l:List α}{m:List b}(h:Paired F l m)(g:∀ x∈l,G x):Paired (λx y=>G x/\F x y) l m:=by
 induction h with
 |nil=>exact .nil
 |cons h t c=>exact .cons {g _ υ,h} (c λx d=>g x<|ρ _ d)
section
variable{h:Addr}{X X':SX}{cs:yD}{tks:yB}{M:Hs}{z:Str}{zs ts:aD}{H3 H' H2:Hp}{left0 row:wD}{i b:Nat}
def KX.std(I:C6 a H X cs tks M)(h:KX X M z ts):∃ k r m ps,Std X M z k r m ps ts:=by
 refine u4 ?_ h.hand;intro k r m ps [c,d,e,P];refine u2 ?_<|I.rl c d;intro y y [j,y];let[g,l]:=I.ps e;exact x4 k r m ps {c,d,j,e,l,g,z0o P g}
def KI.step{rw:vE}(J:KI a X cs tks M H3 left0 row i X' H')(o:row[i]? =some b)(p:C6 a H2 (X'.wr cs b rw) cs tks M)(sb:SameBut (λx=>X'.S.A.F x\/x=X'.S.A.gp) H' H2):KI a X cs tks M H3 left0 row (i+1) (X'.wr cs b rw) H2:=by
 let[[l,q,r,u,v],C,[left,d,w],y,s]:=J
 have hd:row.drop i=b::row.drop (i+1):=by
  let[B,e]:=ζ.mp o;rw[ix B,e]
 rw[hd]at d;refine u2 ?_<|zzh d;intro k c [I,rfl,d];refine{⟨l,q,r,u,v⟩,p,{_,d,λx g=>?_},λj D=>UP<|y j D,s.trans (by rw[l]at sb;exact sb)};let h||h:=w x g
 exact .inl<|UP h;cases n:DJ cs _ _ x with
 |true=>exact .inl n
 |false=>exact .inr (de.mpr {h,by rw[n];rfl})
def z0p{n r c w:Nat}{S:Md}(h:∀ kind k,OF zs<|S kind k)(kind k:Nat):OF zs (D7 n r c w S kind k):=by
 unfold D7
 repeat' split
 all_goals first|trivial|exact h _ _|(exact h _ _)
def z0q{k r:Nat}{ps:wD}(I:C6 a H X cs tks M)(l:k<X.m0)(n:r<X.r*X.w)(q:∀ p∈ps,p<X.c*X.w)(o:∀ {kind j},(kind,j)∈FW k r ps->kind<5->j<BO X.n X.r X.c X.w kind->OutAt X M kind j):∀ x∈LT X cs (FW k r ps),X.outs x=true:=λx s=>by
 let[[kind,j],d,e]:=jc.mp s
 have c:kind<5/\j<BO X.n X.r X.c X.w kind:=by
  simp only[FW,aj,av,Ka]at d;let[rfl,rfl]||[rfl,rfl]||[p,g,rfl,rfl]:=d
  exact{by decide,l};exact{by decide,n};exact{by decide,q _ g}
 let[y,u,rfl]:=af.mp e;refine o d c.1 c.2 y ?_;rw[<-u];exact((I.st.la.newest c.1 c.2).1).symm
end
def z0r{row:wD}(e:∀ b∈row,b<100)(h:row≠[]):FY (row.map λ(b:Nat)=>B0 b)=Txt.join (η " ") (row.map λ(b:Nat)=>B0 b)/\Txt.split (Txt.join (η " ") (row.map λ(b:Nat)=>B0 b)) (η " ")=row.map (λ(b:Nat)=>B0 b)/\FY (row.map λ(b:Nat)=>B0 b)≠η "-":=by
 have h1:row.map (λ(b:Nat)=>B0 b)≠[]:=by simpa using h
 have g:FY _=Txt.join _ _:=if_neg h1
 have d:=Mw h1 λk i=>by
  let[b,c,rfl]:=av.mp i;exact(OT {b,e b c}).2
 refine{g,d,λz=>?_};rw[<-g,z,show Txt.split _ _=[η "-"] by decide +kernel]at d
 have  :=d ▸ υ;let[b,c,j]:=av.mp this
 have:=(OT {b,e b c}).1;rw[j]at this;revert this;decide +kernel
theorem Mx:∀ ps:uB,(FT ps).length<=(ps.map (·.length)).sum+ps.length
 | []=>ο _
 | [p]=>by simp[FT]
 |p::q::r=>by
  have:=Mx (q::r);simp only[FT,ae,bw,cg,vb]at *
  lia
def My:∀ l:aD,(Txt.join (η " ") l).length<=(l.map (·.length)).sum+l.length
 | []=>by decide
 |k::l=>by
  have:=Mx ((k::l).map (·.cps.toList));rw[<-Mv,jf,ε]at this;exact this
example:(z0s,aB,cB,7):=by
 apply u9;intro h X cs l M z zs b B [rfl,T,tv,A,hB,hcw,hB3,zok,d,[k,r,hk,e0],q];refine u3 ?_<|A.2.std hk e0;rintro m ps O S
 have Y:=zok z (by have:=WG d.b d.s 0 k;rw[show hnd M.b M.as 0 k=_ from e0]at this;exact this)
 have lz:=l5 Y;let[dh,eh]:=A.1;erw[cB,cB0_];refine y2 {eh,rfl,lz.1,A.shows T d Y S λH1 s1=>?_}
 have A1:=A.same s1;erw[cB1_];refine y2 {s1 _ _ eh,rfl,lz.2.2.1,A1.keeps T (by lia) Y S λrow R H2 s2 c1 c2 lr rb=>?_}
 have A2:=A1.same s2
 have tail:∀ (X':SX) (g I:Hp) (y6:Option V),Same H2 I->KI a X cs l M I (EO cs.length X.outs R) row row.length X' g->cB6 K a (λu=>E) (λu=>E) { nx:=AH (cB10 K a (λu=>E) (λu=>E)) (cB11 K a (λu=>E) (λu=>E)) (AW Q),rt:=Q } [some (.ref X.S.lp),some<|.ref h,some<|.str z,some<|.bl b,some<|.str<|Txt.join "" O,some<|.str<|FY<|row.map λ(b:Nat)=>B0 b,y6] g:=by
  intro X' g I y6 s3 J
  have A3:=A2.same s3;let[a1,a2,a3,a4,L]:=J.e
  have em:X'.m0=X.m0:=by unfold SX.m0;rw[a2,L]
  have sb:SameBut (λx=>X.S.A.F x\/x=X.S.tk\/x=X.S.A.gp) I g:=λx o ex n=>J.s _ _ ex λz=>n<|z.imp id .inr
  have A':HsC a g h X' cs l M:=C6.hs A3 J.c a1 sb
  have nx:Nx H X g X':=(Nx.of<|(s1.trans s2).trans s3).trans (A3.2.nx a1 ⟨a2,a3,a4,L⟩ sb)
  have o:∀ {kind j},(kind,j)∈FW k r ps->kind<5->j<BO X.n X.r X.c X.w kind->OutAt X' M kind j:=λht h1 hj=>J.out A.2 c1 ht h1 hj
  have kx:KX X' M z O:=KX.of (by rw[em];exact hk) e0 S.e (Paired.mapP S.t λu u h=>h.2) (o (by simp[FW]) (by decide) hk) (o (by simp[FW]) (by decide) S.hr) λp hp=>o (ρ _<|ρ _<|av.mpr ⟨p,hp,rfl⟩) (by decide) (S.p p hp)
  have S':Std X' M z k r m ps O:={by rw[em];exact hk,e0,by rw[a3,L];exact S.hr,S.e,S.l,by rw[a4,L];exact S.p,by rw[a4,L];exact S.t}
  have kk:∀ y us,KX X M y us->KX X' M y us:=λy us h=>h.outs em J.m;erw[cB6_];refine x8 h X' cs l M z zs O {by rw[a1],T,A',d,kx,λH4 s4=>?_}
  have A4:=A'.same s4;let[dh4,eh4]:=A4.1;erw[cB6_];refine y2 {eh4,rfl,lz.2.2.1,A4.keeps T (by lia) Y S' λrow' R' H5 s5 d1 d2 u u=>?_};rw[z0l (λk c e x U=>((A.2.st.bk.bk.need k c e).1 x U).2) d1 (z0q J.c S'.hk S'.hr S'.p (by rw[a2,a3,a4,L];exact o)) d2]
  have A5:=A4.same s5
  have nx5:=nx.trans<|Nx.of<|s4.trans s5;erw[cB10_];refine DW (λz=>z rfl) ?_;by_cases hb:b=true
  ·refine EM hb ?_;let[dh5,eh5]:=A5.1;erw[cB7_];refine y2 {eh5,rfl,A5.stop T tv λX2 H6 A6 s=>?_}
   have em2:X2.m0=X'.m0:=by unfold SX.m0;rw[s.sz.1,s.sz.2.2.2]
   have kx2:=kx.up (X':=X2) A5.2 em2;refine u4 ?_<|KX.std A6.2 kx2;rintro k2 r2 m2 ps2 S2
   have N:ES {D7 X'.n X'.r X'.c X'.w<|sh M.b X'.C M.as,[]} zs:={z0p<|dF d.b d.s,λx U=>by cases U}
   let[dh6,eh6]:=A6.1;erw[cB9_];refine y2 {eh6,rfl,lz.1,A6.shows T N Y S2 λH7 s7=>?_}
   have A7:=A6.same s7;erw[cB9_];refine y2 {s7 _ _ eh6,rfl,lz.2.2.1,A7.keeps T (by simp) Y S2 λrow2 R2 H8 s8 u f2 u u=>?_}
   have e2:row2=[]:=by
    have f2:GB [] X2.outs [] row2:=f2;cases f2;rfl
   rw[e2];erw[cB11_];refine DW (λz=>z rfl) (q X2 [] [] _ O H8 (A7.same s8) ?_ N kx2 (λy us h=>KX.up A5.2 (kk y us h) em2) (nx5.trans<|s.trans<|Nx.of<|s7.trans s8));rw[s.sz.2.2.1,s.sz.2.2.2,a4,L];exact χ (by rw[nc,kq];exact Lz) hcw
  ·refine DW hb ?_;exact q X' cs l M O H5 A5 (by rw[a4,L];exact hB) d kx kk nx5
 erw[cB4_];by_cases hr:row=[];rw[hr]at tail c2 ⊢;exact DW (λz=>z rfl) (tail X H2 H2 _ (Same.refl _) {⟨rfl,rfl,rfl,rfl,rfl⟩,A2.2,{_,c2,λx U=>.inr U},λu h=>h,λu u e u=>e});let[e1,e2,e3]:=z0r (λb hb=>(rb b hb).2) hr;refine EM e3 ?_;erw[cB3_]
 have ls:=dD<|λb hb=>(rb b hb).2
 have ll:=My<|row.map λ(b:Nat)=>B0 b;rw[ε]at ll;refine{rfl,x2 _ _ {rfl,by decide +kernel,by rw[e1];lia,.inl {rfl,λwl D=>.inl ?_}}};rw[show Txt.split (FY<|row.map λ(b:Nat)=>B0 b) (η " ")=row.map (λ(b:Nat)=>B0 b) by rw[e1];exact e2];let[I,zz0,s3,ew]:=EL (o:=.lst<|(row.map λ(b:Nat)=>B0 b).map V.str) D;rw[zz0];let[u,ep]:=A2.2.st.bk.pk.ob
 have A3:=A2.same s3;refine{{_,SqL.of ew},G2 (xs:=(row.map λ(b:Nat)=>B0 b).map V.str) (λi σ g=>(∃ X',KI a X cs l M I (EO cs.length X.outs R) row i X' g)/\∃ v,σ=[some (.ref X.S.lp),some<|.ref h,some<|.str z,some<|.bl b,some<|.str<|Txt.join "" O,some<|.str<|FY<|row.map λ(b:Nat)=>B0 b,v]) {{X,⟨rfl,rfl,rfl,rfl,rfl⟩,A3.2,{_,c2,λx U=>.inr U},λu h=>h,λu u e u=>e},_,rfl} (λi σ g u w=>?_) (λi v σ g ev w=>?_) (λσ g w=>?_)};let[[X',J],u]:=w;exact SqL.of (J.s _ _ ew (λz=>z.elim (A2.2.st.bk.off D) λz=>by rw[z,ep]at D;cases D));let[[X',J],v',rfl]:=w;rw[jf,ψ,af]at ev;let[c,ec,rfl]:=ev
 have sb:SameBut (λx=>X.S.A.F x\/x=X.S.tk\/x=X.S.A.gp) I g:=λx o ex n=>J.s _ _ ex λz=>n<|z.imp id .inr
 have A':=C6.hs A3 J.c J.e.1 sb;let[dh',eh']:=A'.1
 have hc:=rb c<|ι ec;erw[cB2_,Function.comp];refine y2 {eh',rfl,?_,A'.write T ?_ (by lia) λu rw' H4 u A4 sb4=>{_,J.step ec A4.2 sb4}}
 ·have:(η "write ").length=6:=by decide
  have:(B0 c).length<=2:=WE ⟨c,hc.2⟩;exact BT _ (by lia)
 ·rw[J.c.st.sz.2.2.2.2,J.e.2.1,J.e.2.2.1,J.e.2.2.2.1,<-A.2.st.sz.2.2.2.2];exact hc.1
 ·let[[X',J],v,rfl]:=w;rw[ε,ε]at J;exact tail X' g I v s3 J
structure L74(a:Ad)(h ly nl rr:Addr)(zs:aD)(ms:vD)(i:Nat)(X:SX)(kt:Addr)(cs:yD)(tks:yB)(M:Hs)(kvs:yB)(H:Hp):Prop where
 A:HsC a H h X cs tks M
 e:X.S.lp=ly
 w:X.c*X.w<=12/\1<=X.n
 b:cs.length+DU (X.c*X.w) M<=12+4*i
 v:ES M zs
 k:zjx H X M kt kvs
 l:kvs.length<=i
 nm:Z6 H nl zs
 er:H rr=some (.lst<|ms.map V.int)
 g:¬ X.G nl/\¬ X.G rr/\¬ X.G kt
section
variable{h ly nl rr kt s:Addr}{zs:aD}{ms:vD}{i:Nat}{X X':SX}{cs cs':yD}{tks tks':yB}{M M':Hs}{kvs:yB}{H':Hp}
def L74.go(J:L74 a h ly nl rr zs ms i X kt cs tks M kvs H)(d:HsC a H' h X' cs' tks' M')(L:cs'.length+DU (X'.c*X'.w) M'<=12+4*i+4)(g:ES M' zs)(j:∀ y c,KX X M y c->KX X' M' y c)(nx:Nx H X H' X'):L74 a h ly nl rr zs ms (i+1) X' kt cs' tks' M' kvs H':=by
 let[A,e,w,b,v,k,l,nm,n,g1,g2,g3]:=J;let[o,p]:=nx.o nl _ nm.1 nofun g1;let[q,r]:=nx.o rr _ n nofun g2;let[k1,k2]:=nx.o kt _ k.e nofun g3;exact{d,nx.lp.trans e,by rw[nx.sz.1,nx.sz.2.2.1,nx.sz.2.2.2];exact w,by omega,g,{k1,λx y u=>by refine u2 ?_<|k.v x y u;intro z c [B,D,I];exact x2 z c {B,D,j z c I}},by lia,⟨o,nm.2⟩,q,p,r,k2}
def L74.new{c:Addr}(J:L74 a h ly nl rr zs ms i X kt cs tks M kvs H)(g:HsC a H' h X' cs' tks' M')(D:cs'.length+DU (X'.c*X'.w) M'<=12+4*i+4)(j:ES M' zs)(nx:Nx H X H' X')(d:H' c=none):L74 a h ly nl rr zs ms (i+1) X' c cs' tks' M' [] (upd H' c<|.dK []):=by
 let[A,e,w,b,v,k,l,nm,n,g1,g2,g3]:=J;let[p,q]:=nx.o nl _ nm.1 nofun g1;let[r,u]:=nx.o rr _ n nofun g2
 have s:=AL (o:=.dK []) d;exact{g.same s,nx.lp.trans e,by rw[nx.sz.1,nx.sz.2.2.1,nx.sz.2.2.2];exact w,by lia,j,{AE,λx y B=>(by cases B)},bg _,{s _ _ p,nm.2},s _ _ r,q,u,λz=>z.elim (g.2.st.bk.off d) λz=>by rw[z,g.2.st.tk]at d;cases d}
def L74.same(J:L74 a h ly nl rr zs ms i X kt cs tks M kvs H)(s:Same H H'):L74 a h ly nl rr zs ms i X kt cs tks M kvs H':={J.A.same s,J.e,J.w,J.b,J.v,{s _ _ J.k.e,J.k.v},J.l,{s _ _ J.nm.1,J.nm.2},s _ _ J.er,J.g}
def HsC.sbk{kt:Addr}(A:HsC a H h X cs tks M)(lo:EV (H kt))(g:¬ X.G kt)(s:SameBut (· =kt) H H'):HsC a H' h X cs tks M:=by
 let[[d,c],I]:=A;exact{{d,s _ _ c λz=>lo.2 _ _ _<|z ▸ c},I.sbG s (λx b=>b ▸ lo) λx b=>by rw[b];exact{λz=>g<|.inl z,λz=>g<|.inr z}}
def L74.put{z:Str}{b:aD}(J:L74 a h ly nl rr zs ms i X kt cs tks M kvs H)(d:KX X M z b)(j:kvs.length+1<=i):L74 a h ly nl rr zs ms i X kt cs tks M (CD kvs (.inr z) (.str<|Txt.join "" b)) (upd H kt<|.dK<|CD kvs (.inr z) (.str<|Txt.join "" b)):=by
 have s:SameBut _ H (upd H kt<|.dK<|CD kvs (.inr z) (.str<|Txt.join "" b)):=λy o e n=>by rw[AI n];exact e
 have ne:∀ {l:Addr} {xs:vE},H l=some (.lst xs)->l≠kt:=λe z=>by rw[z,J.k.e]at e;cases e
 refine{J.A.sbk (NZ J.k.e) J.g.2.2 s,J.e,J.w,J.b,J.v,{AE,λk v c=>?_},χ (HJ ..) j,{s _ _ J.nm.1<|ne J.nm.1,J.nm.2},s _ _ J.er<|ne J.er,J.g};rw[G1]at c;split at c;rename_i e;obtain rfl:=μ c;exact x2 z b ⟨e,rfl,d⟩;exact J.k.v k v c
def LI(a:Ad)(h ly nl rr:Addr)(zs:aD)(ms:vD)(s:Addr)(i:Nat)(b:St)(H':Hp):Prop:=∃ X kt cs tks M kvs,L74 a h ly nl rr zs ms i X kt cs tks M kvs H'/\∃ c d e,b=[some (.ref s),c,some<|.ref ly,some<|.ref h,some<|.ref nl,some<|.ref kt,d,e]
def L74.tail(T:EQ K a)(J:L74 a h ly nl rr zs ms i X kt cs tks M kvs H){D:Ends}(O:D.nx=LI a h ly nl rr zs ms s i){B I c:Option V}:cD17 K a (λ_=>E) (λ_=>E) D [some (.ref s),B,some<|.ref ly,some<|.ref h,some<|.ref nl,some<|.ref kt,I,c] H:=by
 obtain rfl:=J.e;erw[cD17_];refine{_,J.k.e,λo=>zey (λx r d=>(SameBut (· =kt) H d/\d kt=some _)/\∃ c,r=[some _,B,some _,some _,some _,some _,I,c]) {{λy L e n=>by rw[AI n];exact e,AE},_,rfl} (λx x x x q=>q.1.2) (λj k v r d u b=>?_) (λr d b=>?_)};let[U,N]:=zzg.mpr<|av.mpr {_,ι u,rfl};refine u2 ?_<|J.k.v k U N;intro z Y [rfl,rfl,kx];let[[l,p],c,rfl]:=b;refine x8 h X cs _ M z zs Y {rfl,T,J.A.sbk (NZ J.k.e) J.g.2.2 l,J.v,kx,λH3 w=>{_,.inl<|x2 _ _ {.inr {o,w _ _ p},rfl,N.symm},?_}};erw[];exact{λy L e n=>w _ _<|l _ _ e n,w _ _ p};let[[l,p],c,rfl]:=b;refine{p,?_};rw[O];refine x6 X kt cs _ M _ {J.same λy L e=>?_,x3 _ _ _ rfl};by_cases z:y=kt;rw[z,AE];rw[z,J.k.e]at e;exact e;rw[AI z];exact l _ _ e z
end
def z0t(ns:vD):∃ b:vD,GJ (ns.map V.int) (some 1) none=b.map V.int/\b.length<=ns.length-1:=by
 refine{(ns.drop<|HT.sIx ns.length 0<|some 1).take (HT.sIx ns.length ns.length none-HT.sIx ns.length 0 (some 1)),by unfold GJ;rw[ε,<-Br,<-Bo],χ (vd ..) ?_};rw[ic];cases ns with
 |nil=>exact ο _
 |cons x t =>
  show t.length+1-min 1 (t.length+1)<=_;rw[mz (vh ..)];exact ο _
def z0u{z:Str}(h:BL z=true):e_ z=true:=by
 unfold e_;rw[<-uv,fh];intro c b
 have:=fh.mp (IQ h).1.2 c b;unfold N4 at this
 lia
def z0v{p q:Addr}{k:Str}{l:aD}(h1:H p=some (.lst<|(k::l).map V.str))(h2:H q=some (.lst [.str (η "-")]))(e:k≠η "-")(ok:∀ z∈k::l,e_ z=true)(g:Q (.bl true) H):KB K (.ref p) (.ref q) H Q:=by
 have b:∀ {l:List _},(∀ z∈l,e_ z=true)->Paired (Dat K H 2) (l.map _) (l.map _):=λ{l} h=>by
  induction l with
  |nil=>exact .nil
  |cons z l i=>exact .cons {.str z,h z υ,by simp[vx]} (i λy j=>h y<|ρ _ j)
 have c:=Dat.lst (SqL.of h2) (b (l:=[η _]) (by decide +kernel))
 have d:=Dat.lst (SqL.of h1) (b ok);refine y2 {d.1,c.1,d.shp (by decide),c.shp (by decide),?_}
 show Q (.bl<|!PyData.eqvAll _ _) H;rw[show nr _ _=false by
  show(f_ _ _&&_)=false;rw[show f_ _ _=false by simp[f_,e],Bool.false_and]]
 exact g
def z0w{z:Str}(hz:e_ z=true)(q:Q (.bl false) H):CG K .non (.str z) H Q:=by
 have b:Dat K H 2 .non .none:={.non,rfl,by simp[vx]}
 have c:Dat K H 2 (.str z) (.str z):={.str z,hz,by simp[vx]}
 first
 |exact q
 |exact y2 {b.1,c.1,b.shp (by decide),c.shp (by decide),q}
def z0x{b:aD}(h:∀ y∈b,BL y=true)(hs:(b.map (·.length)).sum+b.length<=1000):(FY b).length<=1000/\((b=[]/\Txt.split (FY b) (η " ")=[η "-"])\/∃ k l,b=k::l/\Txt.split (FY b) (η " ")=b/\k≠η "-"):=by
 cases b with
 |nil=>exact{by decide,.inl {rfl,by decide +kernel}}
 |cons k l =>
  have e:FY _=Txt.join _ (k::l):=if_neg nofun;exact{χ (My _) hs,.inr (x2 k l {rfl,Mw nofun λy c=>IR<|h y c,λz=>by have:=h k υ;rw[z]at this;revert this;decide +kernel})}
example:(z0y,sY,cD,8):=by
 apply u2;intro s ns [rfl,tv,T,TD,hs,hl,q];let[TB,TP,TL,TS]:=id T.s4;erw[cD,cD0_];refine x3 s ns 0 {rfl,hs,oA hl rfl,?_};generalize Q3 ns 0=x;erw[cD1_];let[n,en,n1,n3]:=md x 3 (by decide);let[r,er,r1,r3]:=md (x/3) 3 (by decide);let[c,ec,c1,c3]:=md (x/9) 3 (by decide);let[w,ew,w1,w4]:=md (x/27) 4 (by decide);rw[show 1+x%3=_ from en,show 1+x/3%3=_ from er,show 1+x/9%3=_ from ec,show 1+x/27%4=_ from ew];refine{{by decide,by decide},{by decide,by decide},{by decide,by decide},λN dl hlp hdl ndl=>x6 N dl n r c w {rfl,TL,AE,oA n3 rfl,oA r3 rfl,oA c3 rfl,w1,oA w4 rfl,λH1 L1 sb1=>{rfl,?_}}}
 have s1:Same H H1:=λy o e=>sb1 _ _ (((AL hdl).trans (AL (by rw[AI ndl.symm];exact hlp))) _ _ e) (BK e hlp)
 have fw:=io c3 w4;refine λh dh hh hdh ndh=>x7 h dh N n r c w {rfl,T,tv,AE,(L1.same ((AL hdh).trans (AL (by rw[AI ndh.symm];exact hh)))),{oA n3 rfl,oA r3 rfl,oA c3 rfl,w1,oA w4 rfl,oA fw rfl},λX H2 a1 a4 a5 a6 a7 off A2 OV=>{rfl,?_}}
 have s2:Same H1 H2:=λy o e=>OV _ _ (((AL hdh).trans (AL (by rw[AI ndh.symm];exact hh))) _ _ e) (BK e hh);erw[cD3_];refine{{by decide,by decide},_,rfl,λnl O H3 hnl s3 enl hzl hz=>?_};erw[cD4_];intro kt hkt;let[H4,g,s4,e4]:=EL (o:=.dK []) hkt;rw[g]
 have A4:=A2.same<|s3.trans s4;let[U,ems,hms]:=z0t ns;erw[cD18_];refine zjb (((s1.trans s2).trans (s3.trans s4)).seq hs) λrr hrr=>?_;rw[ems];let[H5,g,s5,e5]:=EL (o:=.lst<|U.map V.int) hrr;rw[g]
 have og:∀ {H':Hp} {l:Addr},C6 a H' X [] [] {λu u=>.no,[]}->H' l=none->¬ X.G l:=λC e z=>z.elim (C.st.bk.off e) λz=>by rw[z,C.st.tk]at e;cases e
 have J5:L74 a h N nl rr O U 0 X kt [] [] {λu u=>.no,[]} [] H5:={A4.same s5,a1,by rw[a4,a6,a7];exact⟨fw,n1⟩,χ (by rw[nc,kq];exact Lz) (by rw[a6,a7];exact fw),{λu u=>trivial,λu h=>(by cases h)},{s5 _ _ e4,λu u h=>(by cases h)},ο _,{s5 _ _<|s4 _ _ enl,hzl,hz},e5,og A2.2 hnl,og A4.2 hrr,og (A2.2.same s3) hkt}
 refine .inl {{_,SqL.of e5},G2 (xs:=U.map V.int) (LI a h N nl rr O U s) (x6 X kt [] [] _ [] {J5,x3 _ _ _ rfl}) (λi σ H' u D=>?_) (λi v σ H' ev D=>?_) (λσ H' D=>?_)}
 ·revert D;refine u6 ?_;intro X kt cs L M kvs [J,u];exact SqL.of J.er
 ·revert D;refine u6 ?_;intro X kt cs L M kvs [J,yc,y6,y7,rfl];rw[ψ,af]at ev;let[y,ey,rfl]:=ev
  have hi:=(ζ.mp ey).1
  have hi:i<=61:=by lia
  let[dh,eh]:=J.A.1;erw[cD5_];refine y2 {eh,rfl,J.A.names T J.v hz λks H1 s1 perm u Y hsum=>?_};let[jl,js]:=z0x (λy hy=>hz y<|Y y hy) hsum;refine{rfl,x2 _ _ {rfl,by decide +kernel,jl,.inl {rfl,λwl hwl=>?_}}};let[H2',g,s2',ew2]:=EL (o:=.lst<|(Txt.split (FY ks) (η " ")).map V.str) hwl;rw[g]
  have J2:=J.same<|s1.trans s2'
  have rest:∀ {H6:Hp},Same H2' H6->cD13 K a (λu=>E) (λu=>E) { nx:=cD17 K a (λu=>E) (λu=>E) { nx:=LI a h N nl rr O U s<|i+1,rt:=Q,bk:=cD19 K a (λu=>E) (λu=>E) (AW Q),ct:=LI a h N nl rr O U s (i+1) },rt:=Q,bk:=cD19 K a (λu=>E) (λu=>E) (AW Q),ct:=LI a h N nl rr O U s (i+1) } [some (.ref s),some<|.int y,some<|.ref N,some<|.ref h,some<|.ref nl,some<|.ref kt,some<|.ref wl,y7] H6:=by
   intro H6 s6
   have d:=J2.same s6;let[dh6,eh6]:=d.A.1;erw[cD13_];by_cases k3:y%3=0
   ·refine EM k3 ?_;erw[cD10_];obtain rfl:=d.e;let[dl6,el6]:=d.A.2.st.ly.ob
    have rl:=d.A.2.st.sz.2.2.2.2
    have n1:=d.w.2
    have s30:=d.A.2.st.sz;refine y2 {eh6,rfl,{by decide,by decide},y2 {el6,BY,x5 _ _ _ _ _ {rfl,TL,d.A.2.st.ly,?_}}};let[b,eb,hb]:=M3 (y/3) (n:=X.rows.length) (by lia);erw[];refine{by lia,?_};rw[show((X.n:Int)+X.r+X.c+X.r+X.c)=(X.rows.length:Nat) by lia,eb]
    have b1:b<100:=by lia
    have l2:(B0 b).length<=2:=WE ⟨b,b1⟩
    have l6:(η "write ").length=6:=by decide
    refine{_,rfl,by lia,by lia,?_};erw[]
    have bb:=d.b;refine{BT _ (by lia),d.A.write T hb (by lia) λu row H7 er A7 sb7=>(d.go A7 (by show cs.length+DU (X.c*X.w) M<=_;lia) d.v (λy ts k=>k.outs rfl λj hj=>UP hj) (d.A.2.nx rfl ⟨rfl,rfl,rfl,rfl⟩ λx o ex n=>sb7 _ _ ex λz=>n<|z.imp id .inr)).tail T rfl}
   refine DW k3 ?_;erw[cD12_];refine{{by decide,by decide},x3 _ nl O {rfl,d.nm,λz H7 s7 R=>?_}}
   have I:=d.same s7
   have bb:=I.b;refine x8 h X cs L M _ z O {rfl,T,TD,I.A,by lia,hz,I.v,R,λH8 s8=>?_,λcs' tks' M' H8 A8 hb v8 kx nx=>?_}
   ·refine z0w (by decide +kernel) ?_;erw[];exact((I.same s8).go ((I.same s8).A) (by lia) I.v (λy ts k=>k) Nx.refl).tail T rfl
   ·erw[];refine{{by decide,by decide},?_};by_cases k2:2<y/12%8
    ·refine EM k2 ?_;erw[cD11_];exact λkt' hkt'=>(I.new A8 (by lia) v8 nx hkt').tail T rfl
    ·refine DW k2 ?_;exact(I.go A8 (by lia) v8 (kx (by lia)) nx).tail T rfl
  erw[cD14_];by_cases k7:y%12=7
  ·refine EM k7 {by decide,λp hp=>?_};let[H6,g,s6,ep]:=EL (o:=.lst [.str (η "-")]) hp;rw[g]
   have B:=s6 _ _ ew2;let[_,es]||[k1,l1,ek,es,nd]:=js
   ·rw[es]at B;refine zv6 (SqL.of B) (SqL.of ep) (λv hv=>?_) ?_
    ·rw[aa.mp hv];exact(show e_ (η "-")=true by decide +kernel)
    ·exact rest s6
   ·rw[es]at B;refine z0v (by rw[B,ek]) ep nd (λz hz'=>z0u<|hz z<|Y z<|ek ▸ hz') ?_
    have d:=J2.same s6;erw[cD6_];let[b,eb,hb]:=M3 (y/24) (n:=ks.length) (by rw[ek];simp);refine{{by decide,by decide},ks.length,.inl {_,SqL.of B,by rw[ε]},by lia,?_};rw[eb];refine CH (SqL.of B) rfl (by rw[ψ,θ hb];rfl) ?_
    have hm:=pr hb;generalize ks[b]=z at hm
    have oz:=hz z<|Y z hm
    have bb:=d.b
    have ww:=d.w;erw[cD8_];refine{{by decide,by decide},x9 h X cs L M z O _ (12+4*i) {by rw[d.e],T,tv,d.A,bb,by lia,by lia,hz,d.v,Lx.mp<|perm.mem_iff.mp hm,λX7 cs7 tks7 M7 ts7 H7 A7 b7 v7 kx7 kk7 nx7=>?_}}
    have I:=d.go A7 (by lia) v7 kk7 nx7;refine u4 ?_<|KX.std A7.2 kx7;rintro k8 r8 m8 ps8 S8;let[dh7,eh7]:=A7.1;erw[cD9_];refine y2 {eh7,rfl,(l5 oz).1,A7.shows T v7 oz S8 λH8 s8=>?_}
    have J8:=I.same s8
    have kl:=d.l;exact{_,DPut.k (k:=.inr z) J8.k.e (BT _ (by lia)),(J8.put kx7 (by lia)).tail T rfl}
  refine DW k7 ?_;exact rest<|Same.refl _
 ·revert D;refine u6 ?_;intro X kt cs L M kvs [J,yc,y6,y7,rfl];erw[cD19_];exact q _
end
def JU:Expr->aD
 |.Name x _=>[x]
 |.Tuple [.Name x _,.Name y _] _ _=>[x,y]
 |_=>[]
def Mz(N:aD)(a:wD):aD:=a.filterMap λi=>N[i]?
def FnScope.cq{X:Cx}{scope outer:Scope}{N P b:aD}{a:wD}(_:FnScope N P outer)(h:TJ scope outer N (Mz N a) a=true:=by decide +kernel)(h1:X.env.scope=outer:=by exact rfl)(h2:X.N=N:=by exact rfl):KA X scope b (Mz N a) a:=pW h1 h2 h
section
variable{X:Cx}{tg iter E4:Expr}{E5:yC}{scope:Scope}{pos:Pos}{wi:TI}{td:TE}{g:TG}{tt:TT}{te:TE}{cn:aD}{BB:wD}
def pcm(S:KA X scope (JU tg) cn BB)(d:X.calm=true)(e:PI X tg iter wi)(i:∀ a s H b C c,PG (X.block a s H (JU tg++cn) scope b C c) tg g)(j:∀ a s H b C c,K9 (X.block a s H (JU tg++cn) scope b C c) E5 tt)(he:∀ a s H b C c,PE (X.block a s H (JU tg++cn) scope b C c) E4 te)
  (hs:∀ x,ki iter X.env x=pure x:=by intro _;rfl):PE X (.ListComp E4 [{tg,iter,E5,0}] scope pos) (BZ wi g tt te (JU tg).length BB):=Zb S d e i j he hs
def pcs{i:Nat}{x:Str}{l a:Pos}(S:KA X scope (JU tg) cn BB)(n:X.calm=true)(o:X.N.Nodup)(e:X.N[i]? =some x)(p:X.env.scope.names.lookup x=some .local)(q:PI X tg iter wi)(r:∀ b s H c C d,PG (X.block b s H (JU tg++cn) scope c C d) tg g)(u:∀ b s H c C d,K9 (X.block b s H (JU tg++cn) scope c C d) E5 tt)(he:∀ b s H c C d,PE (X.block b s H (JU tg++cn) scope c C d) E4 te)
  (j:v_ (.ListComp E4 [{tg,iter,E5,0}] scope pos) (some<|.Name x l) a.line X.env=pure true:=by rfl)
  (hs:∀ x,ki iter X.env x=pure x:=by intro _;rfl):PS X (.Assign [.Name x l] (.ListComp E4 [{tg,iter,E5,0}] scope pos) a) (AT (BZ wi g tt te (JU tg).length BB) (AG i)):=Zc S n o e p q r u he j hs
end
def top(i:Nat):Stmt:=PySem.Challenge.pw_holdback_k74_whole_kept_behind_a_stop.main.body.getD i<|.Pass {0,0,0,0}
structure Txt(K:W.Frag)(mg:Str->Option Value)(a:Ad):Prop where
 z4a:Cls K (a "Change")
 Ng:Cls K (a "Hold")
 Nh:Cls K (a "House")
 Nj:Cls K (a "Layout")
 Nk:Cls K (a "Plank")
 Nl:Cls K (a "Store")
 Nm:Cls K (a "View")
 z4b:GV mg "DEEDS" (.ref<|a "DEEDS")
 Np:GV mg "FORMS" (.ref<|a "FORMS")
 Nq:TabK K (a "FORMS") OE
 z4c:GV mg "MOST_FIGURES" (.int 3)
 z4d:GV mg "MOST_LETTERS" (.int 8)
 z4e:GV mg "MOST_PIECE_SIGNS" (.int 40)
 z4h:mg "NoBlock"=some (.ref<|a "NoBlock")
 z7s:GV mg "NoBlock" (.ref<|a "NoBlock")
 z4l:Exc K (a "NoBlock")
 z4i:mg "NoChange"=some (.ref<|a "NoChange")
 z7t:GV mg "NoChange" (.ref<|a "NoChange")
 z4m:Exc K (a "NoChange")
 Nv:mg "NoName"=some (.ref<|a "NoName")
 z7u:GV mg "NoName" (.ref<|a "NoName")
 z4n:Exc K (a "NoName")
 Ny:mg "NoPiece"=some (.ref<|a "NoPiece")
 z7v:GV mg "NoPiece" (.ref<|a "NoPiece")
 z4o:Exc K (a "NoPiece")
 Nz:mg "NoRoom"=some (.ref<|a "NoRoom")
 z7w:GV mg "NoRoom" (.ref<|a "NoRoom")
 z4p:Exc K (a "NoRoom")
 z4j:mg "NoRow"=some (.ref<|a "NoRow")
 z7x:GV mg "NoRow" (.ref<|a "NoRow")
 z4q:Exc K (a "NoRow")
 z4k:mg "NotSound"=some (.ref<|a "NotSound")
 z7y:GV mg "NotSound" (.ref<|a "NotSound")
 z4r:Exc K (a "NotSound")
 z4f:GV mg "PERCENT" (.int 37)
 Pb:mg "Twice"=some (.ref<|a "Twice")
 z7z:GV mg "Twice" (.ref<|a "Twice")
 z4s:Exc K (a "Twice")
 z4g:GV mg "WITH_A_NUMBER_LAST" (.ref<|a "WITH_A_NUMBER_LAST")
 z3y:mg "all"=none
 z3z:mg "dict"=none
 z30:mg "enumerate"=none
 z31:mg "int"=none
 z32:mg "len"=none
 z33:mg "list"=none
 z34:mg "ord"=none
 z35:mg "range"=none
 z36:mg "reversed"=none
 z37:mg "set"=none
 Nd:mg "sorted"=none
 z38:mg "str"=none
 z39:mg "tuple"=none
section
variable(P:bv)(w:World){K:W.Frag}{mg:Str->Option Value}(base:Heap){a:Ad}{f:Addr}{fd:gq}
seal wpAny
seal MA K3 QJ X8 IW ME O4 IJ HM CI D0 MM II HL FM F8 QD AG C8 K2 PY CM tB TR EI AD SR BW A9 DL P8 MC PZ CS FS AH PL LG NH MB FD NP SV AS GR PR DG GQ BE JF BU EB NI JG JH TY NL AT AV LJ MK tC G4 DP GK GL LK FR QH FE DQ D4 CJ F9 FL NT PU LF LH BM TU IF CP AM D1 BQ PD MJ IZ O3 X1 O9 CG XZ PE PT FC PS PA PI PG K9 IX PW CF IxR
def dvT:Nat->List String->Array Lean.Term->Lean.MacroM (Lean.Term × List String)
 |0,_,_=>Lean.Macro.throwUnsupported
 |n+1,l,a=>match l with
  |"("::r=>do
   let x<-dvT n r #[]
   dvT n x.2 (a.push x.1)
  |")"::r=>pure (Lean.Syntax.mkApp a[0]! (a.extract 1 a.size),r)
  |[]=>pure (Lean.Syntax.mkApp a[0]! (a.extract 1 a.size),[])
  |s::r=>do
   let x:Lean.Term<-match s with
    |"?"=>`(?_)
    |"_"=>`(_)
    |"1"=>`(by assumption)
    |"2"=>`(by rfl)
    |"3"=>`(by with_unfolding_all rfl)
    |"4"=>`(show List.Nodup (_++_) by decide +kernel)
    |"5"=>`(fun _ _=>rfl)
    |"6"=>`(fun _ _ _ _ _ _=>?_)
    |"7"=>`(⟨rfl,rfl,rfl,rfl⟩)
    |"8"=>let h:=Lean.mkIdent `hx1;let e:=Lean.mkIdent `E1;`(fun $e _ _ $h=>?_)
    |"9"=>`(by simp)
    |"10"=>`(fun _=>rfl)
    |"11"=>`(fun _=>?_)
    |_=>pure<|Lean.mkIdent s.toName
   dvT n r (a.push x)
def dvC(R:Array String):Nat->StateT (List Char) Lean.MacroM Lean.Term
 |0=>Lean.Macro.throwUnsupported
 |n+1=>do
  let c::l<-get|Lean.Macro.throwUnsupported
  set l
  let k:=c.toNat
  let x<-dvT 99 ((R[if k<58 then k-48 else if k<91 then k-55 else if k<123 then k-61 else k-130]!).splitOn " ") #[]
  return ⟨<-x.1.raw.replaceM fun s=>if s.isOfKind `Lean.Parser.Term.syntheticHole then do return some (<-dvC R n).raw else return none⟩
def dvR:="pvr _|rE ?|Rh ? ?|Rj ?|mJ|pFl ( Up ? rfl )|Rl ?|T6 ( pmx ? ? 1 hr hx ? )|psl _ nd ?|Qh|rF ? ?|O6 Zy ? ?|Rm ? ? ?|nS pQ ? ? 5|pei ?|Rg|rN ( pcx 1 hr hx ? )|rC _ 4|T.Nj|T.Nl|Uz ?|pSq ( zar ? )|Rk ?|T6 ( pmz ? ? 1 hr hx )|rG ? ? ?|pSf ( Uq ? ? rfl )|O6 zgi ? ?|T.Ng|pcm sc.cq rfl ? 6 6 6|Qg|Uy ?|O6 zgj ? ?|rC _ nd|LE ( K0 ( rR hr.units ) ? ? ( KZ _ ) )|Yx|Sk hx.po rfl ? ? ?|Rq ? ?|PK zhd rfl T.z32 2 ?|Yy ?|pR1 ( Sh rfl T.z35 ? )|T6 ( XF ? ? 1 hr.m pJ ? )|SW|pcs sc.cq rfl nd rfl rfl ? 6 6 6|T.Nk|Qd|T.Nh|pTb ( Ql ? 3 )|Qw ?|LE ( K0 ( rS hr.units ) ? ? ( KZ _ ) )|Rv rfl ?|Rp|MF PySem.F.plainAttrs_list PySem.F.slot_list_append PySem.F.type_list_append zio ? ?|PW.pt ?|pEn ( zdz rfl T.z30 ? )|pDp ( Xw ( K7 hr ) ? ? ? rfl )|LE ( K0 zha ? ? ( KZ _ ) )|pMk ( Zj 1 hr.m hx.passes rfl ? )|LE ( K0 zak ? ? ( KZ _ ) )|Xy|pTr ( Tx ? 10 )|O6 zaj ? ?|mO nd rfl ( zu rfl ) ?|T.Nm|LE ( K0 zg9 ? ? ( KZ _ ) )|Qq ? ?|Qm ?|pGc ?|pDn ( Xv ( K7 hr ) ? ? )|pDi ( Xq ( K7 hr ) ? ? )|rP ( mT P0 pM ? ? ? )|pCh ( Tq P0 P0 ? ? ? )|zd7 ? ? ? ?|Vy zan ? ? ?|Vv|pPt ( Vx ? )|Yc ? ? ?|pDg ( Xp ( K7 hr ) ? ? 5 )|Qx ?|PK ( zca rfl ) rfl T.z3y 2 ?|Qv ? ?|Qp ?|MF PySem.F.plainAttrs_str PySem.F.slot_str_join PySem.F.type_str_join zdt ? ?|LE ( K0 pM ? ? ( KZ _ ) )|MF PySem.F.plainAttrs_str PySem.F.slot_str_split PySem.F.type_str_split zir ? ?|NJ zis rfl T.z38 2 ?|zet ( K7 hr ) ? rfl rfl 9 9|Yb|pTp ?|pGn ?|NJ zhj rfl T.z39 2 ?|NJ zhg rfl T.z33 2 ?|pAv ( Qy ? ? )|zb8 ?|mS ( rR hr.units ) ? ? ( KZ _ )|LA hx T.z4l rfl T.z4h ?|Xz|LA hx T.z4q rfl T.z4j ?|Sw zgk ?|zda rfl rfl T.Nd rfl T.z37 ?|Rx ? ?|Rw ? ? pT|mS ( rS hr.units ) ? ? ( KZ _ )|Rb ? ? ?|rN ( pK 1 hr.m pJ rfl ? )|LE ( K0 ( qT hr.units ) ? ? 3 )|LA hx T.z4n rfl T.Nv ?|LA hx T.z4o rfl T.Ny ?|NJ zit rfl T.z31 2 ?|Zp ? 11 ?|zef ? ? ? mZ|MF PySem.F.plainAttrs_list PySem.F.slot_list_extend PySem.F.type_list_extend zeh ? ?|LA hx T.z4m rfl T.z4i ?|PK zb9 rfl T.z34 2 ?|LB T.z4f rfl|LB T.z4d rfl|rP ( mT P0 P0 ? ? ? )|LB T.z4c rfl|pOv ?|Qz ? ?|ziv ? ?|MF PySem.F.plainAttrs_str PySem.F.slot_str_find PySem.F.type_str_find zd3 ? ?|MD ? ?|O6 zgh ? ?|zdd rfl T.z36 ?|NJ zde rfl T.z3z 2 ?|LB T.z4e rfl|MF PySem.F.plainAttrs_str PySem.F.slot_str_partition PySem.F.type_str_partition ziq ? ?|ziz T.Np rfl T.Nq ?|zi0 T.Np rfl T.Nq ? 5|LB T.z4g rfl|Uv ? ? mZ|mM nd rfl ( zu rfl )|Yj ( K7 hr ) ? ? ? 7|Rz hx.po ? ?|pD1 ( Yh ( K7 hr ) ? ? 7 )|LE ( K0 ( zd1 hr.units ) ? ? 3 )|LA hx T.z4p rfl T.Nz ?|PK ( zd2 rfl ) rfl T.Nd 2 ?|LA hx T.z4r rfl T.z4k ?|MF PySem.F.plainAttrs_dict PySem.F.slot_dict_update PySem.F.type_dict_update ? ? ?|zep ( K7 hr )|LA hx T.z4s rfl T.Pb ?|LB T.z4b rfl|Zq rfl rfl rfl rfl 8 ?|T6 ( XF ? ? 1 hr.m hx1.passes ? )|rM rfl T.Nv rfl T.Pb|rM rfl T.Ny rfl T.Nz|Zk|ze0 hx.po rfl ? ? ?".splitOn "|"
local macro_rules
 |`(command|example:($v:str,$x,*):=$t:term)=>do
  let a:=x.getElems
  let i:=fun (n:Lean.Name)=>Lean.mkIdent n
  let j:=fun (k:Nat)=>i (a[k]!).raw.getId
  let [v,c]:=v.getString.splitOn " "|Lean.Macro.throwUnsupported
  let d<-(dvC dvR.toArray 99).run' c.toList
  let f<-`(fun _ _ _ _ _ $(i `E) $(i `hr) $(i `hx)=>have $(i `sc):ident:=$(j 2);have $(i `nd):ident:=$(i `sc.nd);$d)
  let u:Array Lean.Term:=#[i `P,i `w,i `mg,i `base,a[4]!,<-`($(a[3]!) $(i `K) $(i `a)),j 2,a[7]!]
  let e<-if a.size=9 then `($(i `F.oK) $u* ($(i `len):ident:=$(a[8]!)) $f) else `($(i `F.oK) $u* $f)
  return Lean.mkNullNode #[<-`(command|abbrev $(j 1):ident:Stmt:=$t),<-`(command|def $(j 2):ident:AZ $(a[6]!) $(a[5]!) (AU $(j 1)):=.go),<-`(command|def $(j 0):ident ($(i `T):ident:Txt $(i `K) $(i `mg) $(i `a)) ($(i `F):ident:Fun $(i `K) $(Lean.Syntax.mkStrLit ((v.splitOn ".").getLast!)) $(Lean.Syntax.mkStrLit v) $(j 1) $(i `f) $(i `fd)):=$e)]
example:("View.records_led_to 36Sr150naHaHocvD50040",z01,dG,dH,sZ,0,1,["self"],zxs):=BR (top 12) 1
example:("View.records_standing 36Sr150naHaHoct0T0",z02,dJ,dM,tD,0,1,["self"],zxo):=BR (top 12) 2
example:("View.pieces_named 36Sr150naHaHocv040",z03,dN,dO,tE,0,1,["self"],zxr):=BR (top 12) 3
example:("View.count_of 36DD5004",z04,dP,dQ,tF,0,2,["self","record"],zxn):=BR (top 12) 4
example:("faults_of_names 28Kf28Kf28w2Zr150ÙnÄaWÄaWÚo3Ct0T2CÁD50E0T3Mp01UA90F2CkÆE003Mp01UA90F3s0E0iF36B00",z05,dR,dU,tK,0,1,["view","lost","twice","seen","k","value"],zx1):=top 16
example:("left_pieces 2gr150naHaHocX04036SL0HcXD5004UO990",z06,dW,dX,aE,0,1,["view","marked"],zxt):=top 21
example:("marked_records 2gr150naHaHocX04036SL0HcÁD500TUA90",z07,dY,dZ,aF,0,1,["view","marked"],zxu):=top 22
example:("tally 2gd10HY42ZL0W3ï004360",z08,d0,d7,aG,0,2,["many","numbers","counts","number"],zx4):=top 24
example:("pieces_in 28Kf2ZL0W3Ct0T3Mð01E0F360",z09,d8,d9,tR,0,1,["records","pieces","value"],zx5):=top 25
example:("Change.__init__ 2P002P003P00",z1a,eA,eB,tS,0,4,["self","place","value","needs"],zuw):=BR (top 33) 0
example:("Book.waiting 36Sd1b150HckÅ0500",z1b,eC,eD,tT,0,1,["self"],zu2):=BR (top 34) 4
example:("Book.block_of 36D5D5004",z1c,eE,eF,tU,0,2,["self","number"],zvf):=BR (top 34) 8
example:("Book.ask_for_changes 3ZL0W3ClÇ40b1503ñ19F",z1d,eG,eI,tX,0,2,["self","numbers","number"],zu1):=BR (top 34) 10
example:("needs_with 2CÁ0T36Û1ä0F36Û1äBÜ10K10",z1e,eK,eL,VM,0,2,["needs","ahead"],zuy):=top 35
example:("Hold.lack_of 2ZL5D500W3CqÂkÅ050ÃkÅ00360F36T",z1f,eO,eQ,t8,0,3,["self","number","gone","need"],zva):=BR (top 37) 2
example:("Hold.laid_over 28Ü102ZLD500W3CkÆ0503å5D500æ0D5D5004F360",z1g,eU,eV,uC,0,3,["self","values","block","laid","number"],zvd):=BR (top 37) 3
example:("is_sign 36ÝÈ909Ïçò10ó",z1h,eX,eY,aH,0,1,["sign"],zwb):=top 40
example:("is_name 36ÝÈ4b10ôÏÐ1SÞ0HYÈ909",z1i,eZ,fA,aI,0,1,["thing"],zwc):=top 44
example:("Store.hold 3650",z1j,fB,fC,uF,0,1,["self"],zwi):=BR (top 51) 12
example:("House.plank 3650",z1k,fD,fE,uG,0,1,["self"],zzl):=BR (top 60) 1
example:("is_number 2CqÑlõ4b10öÒlxÐ1SÞ0HYÈ90936iF36÷øß09ÏçE09",z1l,fF,fG,aJ,0,1,["word"],zzm):=top 62
example:("numbers_of_writing 28b1E028b1E036ù00",z1m,fH,fI,aK,0,1,["told","out","held"],zzn):=top 65
example:("joined_or_dash 36èvb104Ó9109",z1n,fJ,fK,aL,0,1,["parts"],zzo):=top 66
example:("Plank.__init__ 2P0Sd10HYyU1T02P003P04",z1o,fL,fM,aM,0,3,["self","blocks","cells"],zuq):=BR (top 68) 0
example:("Plank.blocks 36b150",z1p,fN,fP,uO,0,1,["self"],zur):=BR (top 68) 1
example:("Plank.cells 3650",z1q,fQ,fR,uP,0,1,["self"],zus):=BR (top 68) 2
example:("Plank.ask_for_block 3ClÇ40b1503à19F",z1r,fS,fT,aN,0,2,["self","block"],zut):=BR (top 68) 6
example:("Layout.__init__ 2P002P002P003P00",z1s,fU,fV,uR,0,5,["self","names","records","pieces","cells"],zvi):=BR (top 70) 0
example:("Layout.counts 36UOy5050y5050y5050",z1t,fW,fX,uS,0,1,["self"],zvr):=BR (top 70) 6
example:("Layout.blocks_ahead_of_marks 36BB505050",z1u,fY,fZ,uT,0,1,["self"],zvp):=BR (top 70) 9
example:("Layout.place_from 36UAB0V050Q050",z1v,f7,f8,uU,0,3,["self","block","k"],zvj):=BR (top 70) 10
example:("_law_cell_at 2CÔ0b1036D00F364",z1w,f9,gA,aO,0,2,["script","k"],zup):=top 72
example:("_law_names 28928928V042Zd1B4Q04W28B0D0QB0yy40QV044438BV04y4028QV04b1028D0QV04428D0QBBV044QV044428D0QBBú01D004QV044436Kû0ÉB00B00BBÊ0ËÌ00Ê0ÌB04ËBB000",z1x,gB,gC,aP,0,1,["cell","letters","base","rest","k","at","first","last","turned"],zz3):=top 73
example:("_law_text 2z92zB0928B4Q042CXQV044438ü4QV044F2zB4QV0442zB4QV04436Ó91Sd10HYD0QBV04y0V004",z1y,gD,gE,aT,0,1,["cell","signs","many","step","wide"],zz6):=top 74
variable(z7i:BX P w K mg base (a "View") 1 "pieces_named" dO (RJ K a))(z7k:BX P w K mg base (a "View") 1 "records_standing" dM (U9 K a))(z7h:BX P w K mg base (a "View") 1 "count_of" dQ (VB K a))
example:("faults_of_things 2gLN0ÀHcvD5004UA902gLN0ÀHcÁD500TUA902gLN0ÀHcÔe0À10D500UA9036BB000",z1z,gF,gG,aU,1,1,["view","shared","empty","few"],zxy):=top 17
example:("faults_of_marks 2gr150naHaHocv0402gL0HcmD5004UO9902gLN0ÀHcmD5004UO99036B00",z10,gH,gI,aV,1,1,["view","led_to","records","pieces"],zxx):=top 18
example:("leavings_of_records 28Kf28Kf2ZLN0ÀW28D5003CX043Mp01UO9903Cv70À1003Mp01UO900F36B00",z11,gJ,gK,vV,1,1,["view","many","left","record","leads"],zx0):=top 20
variable(z6s:BX P w K mg base (a "Plank") 1 "blocks" fP (QT K a))
example:("Book.__init__ 2P002P0Kf2P0Sd1N0hHYKf2P0á3P0w",z12,gL,gM,aW,1,2,["self","plank"],zux):=BR (top 34) 0
variable(z52:BX P w K mg base (a "Hold") 1 "ask_for_changes" eI (UU K a))(z6c:BX P w K mg base (a "Hold") 1 "waiting" eD (UV K a))
example:("Book.closure 2M70R102zw2ZL0W3s00i2Zý1N0RW3CkÆ003ZL5D500W3s00iF36SLN0RHckÆ000",z13,gO,gP,wM,1,2,["self","numbers","found","number","need"],zu7):=BR (top 34) 6
variable(z6t:BX P w K mg base (a "Plank") 1 "cells" fR (YN K a))
example:("Book.ask_for_place 3CqÑlÇ4E0N50hÒlÇ4E0N50h3à19F",z14,gQ,gR,wN,1,2,["self","place"],zuz):=BR (top 34) 9
variable(z58:BX P w K mg base (a "Hold") 1 "lack_of" eQ (Y9 K a))
example:("Hold.outcome 28þ1028Kf28Kf2ZLD500W3CqÂkÅ050ÃkÅ002870RA003CÁ0T2s00i3Mp0103Mp01UA00F36UA00",z15,gS,gT,aZ,1,3,["self","block","taken","gone","out","held","number","lack"],zvc):=BR (top 37) 1
variable(z5a:CL P w K mg base 1 "is_sign" eY (ZG K a))
example:("is_piece 36ÝÈ4b10ÿÏÐ1SÞ0HYé10",z16,gU,gW,a0,1,1,["thing"],zwd):=top 45
variable(z48:CL P w K mg base 1 "is_number" fG (Z0 K a))
example:("words_of 28DĀ01942Ckā03â19F28èX09Õ0A94Õ0192Cmb10Ă03â19F2CqÂê0ăÃlxG1D0ã43â19F360",z17,gX,gY,xM,1,1,["row","kind","words"],zzp):=top 61
variable(z6r:BX P w K mg base (a "Plank") 1 "ask_for_block" fT (NW K a))
example:("Plank.read 2M70h1036Ü1D500",z18,gZ,g7,bC,1,2,["self","block"],zuu):=BR (top 68) 4
example:("Plank.write 2M70h102Cmb10503à19F2åÛ10æ5003Ą04",z19,g8,g9,bD,1,3,["self","block","values"],zuv):=BR (top 68) 5
variable(z6n:BX P w K mg base (a "Layout") 1 "place_from" f8 (MR K a))
example:("Layout.name_at 3670IA40",z2a,hE,hG,xS,1,2,["self","k"],zvk):=BR (top 70) 1
example:("Layout.record_at 3670IA500",z2b,hU,hV,xT,1,2,["self","k"],zvl):=BR (top 70) 2
example:("Layout.piece_at 3670IAB50500",z2c,hX,hZ,xU,1,2,["self","k"],zvm):=BR (top 70) 3
variable(z6i:BX P w K mg base (a "Layout") 1 "blocks_ahead_of_marks" fZ (Q0 K a))
example:("Layout.record_mark 3670IAN0I0",z2d,iB,iC,xV,1,2,["self","k"],zvn):=BR (top 70) 4
example:("Layout.piece_mark 3670IABN0I500",z2e,iD,iE,xW,1,2,["self","k"],zvo):=BR (top 70) 5
example:("Layout.blocks 36BBN0I5050",z2f,iF,iG,xX,1,1,["self"],zvq):=BR (top 70) 7
variable(z5j:CL P w K mg base 1 "_law_text" gE (Z5 K a))
example:("_law_row 28Q0428D0QV04428D0QV0442CÔ0436B90F2CX0436BBB9090F2CX0436B90F2CÔ0436BBB909G1V04F2CX0436BBB909Ö1QV044F36BBB9090",z2g,iH,iI,bE,1,2,["cell","names","kind","one","other"],z0h):=top 76
variable(z42:CL P w K mg base 1 "faults_of_names" dU (ZN K a))(z43:CL P w K mg base 2 "faults_of_things" gG (ZO K a))(z41:CL P w K mg base 2 "faults_of_marks" gI (ZP K a))
example:("faults_in 36BBG10G10G10",z2h,iJ,iK,yM,2,1,["view"],zxv):=top 15
variable(z5m:CL P w K mg base 2 "leavings_of_records" gK (ZQ K a))(z5n:CL P w K mg base 1 "left_pieces" dX (ZR K a))(z5p:CL P w K mg base 1 "marked_records" dZ (ZS K a))
example:("leavings_in 36BBG10G10G10",z2i,iL,iN,yN,2,1,["view"],zxw):=top 19
variable(z6u:BX P w K mg base (a "Plank") 2 "read" g7 (LM K a))
example:("values_at 36SL0naHaHoYDe0h100",z2j,iO,iP,yO,2,2,["plank","places"],zx3):=top 23
variable(z6p:BX P w K mg base (a "Layout") 2 "record_at" hV (G7 K a))(z6q:BX P w K mg base (a "Layout") 2 "record_mark" iC (KH K a))(z6m:BX P w K mg base (a "Layout") 2 "piece_mark" iE (KJ K a))
example:("mended_cells 2CXE092870I1E036×Í0UAE0DD70h1E0E04ØF2CXE0936×Í70I1E04ØF2CXE0936×Í70I1E0TÍ70I1E04ØF36×Í70I1E04Ø",z2k,iQ,iR,bF,2,3,["layout","plank","find","place"],zyq):=top 28
variable(z6v:BX P w K mg base (a "Plank") 2 "write" g9 (UG K a))
example:("write_due 3Zd1N0hą2870h102gr10naHaHoYĆ0UA0003Cm003M70hA00F",z2l,iS,iT,bG,2,2,["plank","due","block","before","after"],zyu):=top 29
variable(z56:BX P w K mg base (a "Hold") 2 "closure" gP (Y7 K a))(z54:BX P w K mg base (a "Hold") 1 "block_of" eF (ZC K a))(z6b:BX P w K mg base (a "Hold") 2 "outcome" gT (UW K a))
example:("row_for 28Kf2zw2870R102ćx02870R1E02Mp0102ZLD70RA004W3s00i3gL0HckÅ000360",z2m,iU,iV,zA,2,2,["hold","numbers","row","taken","left","block","number"],zvh):=top 31
variable(z53:BX P w K mg base (a "Hold") 2 "ask_for_place" gR (Y6 K a))
example:("Book.newest 2M70R1036Ĉ500",z2n,iW,iX,zB,2,2,["self","place"],zu0):=BR (top 34) 3
variable(z59:BX P w K mg base (a "Hold") 1 "laid_over" eV (ZA K a))
example:("Hold.write 28750h102870RA0w2ZLE0W3s500i2M750hA070RA00360",z2o,iY,iZ,zD,2,2,["self","block","values","told","number"],zve):=BR (top 37) 0
variable(z6h:BX P w K mg base (a "Layout") 2 "blocks" iG (Q1 K a))(z7p:ML P w K mg base (a "Plank") 1 "Plank" fM (YM K a))
example:("Layout.plank 36uAN0I50",z2p,i4,i5,zE,2,1,["self"],zvs):=BR (top 70) 8
example:("_law_plank 28á2Zd1N0IW2870h103Zd1b10W3s0UA00D00360",z2q,i6,i7,zK,2,2,["layout","plank","there","block","values","k"],zz7):=top 75
variable(z6j:BX P w K mg base (a "Layout") 1 "counts" fX (LP K a))(z6k:BX P w K mg base (a "Layout") 2 "name_at" hG (JK K a))(z5y:CL P w K mg base 3 "values_at" iP (LX K a))(z6l:BX P w K mg base (a "Layout") 2 "piece_at" hZ (LN K a))(z5x:CL P w K mg base 1 "tally" d7 (RI K a))(z5u:CL P w K mg base 1 "pieces_in" d9 (U8 K a))(z7j:BX P w K mg base (a "View") 1 "records_led_to" dH (ZM K a))
example:("View.__init__ 28N0I28E028E02P0GA0Sd1E0HYe0I102P0GA0Sd10HYe0I102P0GA0Sd10HYe0I102P0GA0Sd10HYe0I102P0GA0Sd10HYe0I102P0GA0SL50Hct0TE02P0GA0G1503P0GA0G1N0À",z2r,i8,i9,zT,3,3,["self","layout","plank","counts","records","pieces"],zya):=BR (top 12) 0
variable(z6a:BX P w K mg base (a "Hold") 3 "newest" iX (Q4 K a))(z5s:CL P w K mg base 1 "needs_with" eL (Y5 K a))(z7l:ML P w K mg base (a "Change") 1 "Change" eB (Y4 K a))
example:("Book.change 2870R102M70R1028b1502Mp501uO00GA002MpD50E0102s5000360",z2s,jA,jB,zU,3,4,["self","place","value","needs","ahead","number"],zu3):=BR (top 34) 1
example:("Book.in_hand 2870R102CÁ0T36D750h1E0E0F365D500",z2t,jC,jD,zV,3,2,["self","place","number"],zu9):=BR (top 34) 2
variable(z7m:ML P w K mg base (a "Hold") 2 "Hold" gM (UT K a))
example:("Store.__init__ 2P002P0u103P0w",z2u,jE,jF,zW,3,3,["self","layout","plank"],zwj):=BR (top 51) 0
variable(z6d:BX P w K mg base (a "Hold") 3 "write" iZ (ZB K a))
example:("Store.write 36750R10",z2v,jG,jH,zX,3,2,["self","block"],z0n):=BR (top 51) 10
variable(z6f:BX P w K mg base (a "House") 1 "plank" fE (Z2 K a))(z5g:CL P w K mg base 3 "_law_plank" i7 (Z7 K a))
example:("_law_there 2zGA0N0j2Zd1DN0I4W28Î070I103CqÂt0TÃXE0028DÎ070I1E0436Ó91SL0HYÎ0e0I10F36T",z2w,jI,jJ,Ac,3,3,["layout","house","name","there","k","cell","pieces"],z0j):=top 78
variable(z57:BX P w K mg base (a "Hold") 4 "in_hand" jD (N2 K a))
example:("lowest_with 2Zr10ÙnÄaWÄaWÚo3Cĉ70R100360F3Ċ19",z2x,jK,jL,Ag,4,3,["hold","places","values","k","place"],zvx):=top 49
example:("Store.name_cells 36Sd1DN50I4HYe50R1e50I10",z2y,jM,jN,bH,4,1,["self"],zwk):=BR (top 51) 16
example:("Store.standing 36750R1750I10",z2z,jO,jP,bI,4,2,["self","record"],zws):=BR (top 51) 17
variable(z55:BX P w K mg base (a "Hold") 4 "change" jB (GT K a))
example:("Store.fill_cell 28K102CkÆ0503Mp01Î500F36750RO750I10UA000",z20,jQ,jR,bK,4,5,["self","cell","name","record","need","needs"],zwu):=BR (top 51) 18
variable(z7r:ML P w K mg base (a "View") 4 "View" i9 (RK K a))(z40:CL P w K mg base 3 "faults_in" iK (VC K a))(z5l:CL P w K mg base 3 "leavings_in" iN (ZT K a))
example:("walk 28uA0036BG10G10",z21,jS,jT,Al,5,2,["layout","plank","view"],zyb):=top 13
example:("is_sound 36ßb1G1uA004",z22,jU,jV,bL,5,2,["layout","plank"],zyc):=top 14
variable(z5o:CL P w K mg base 5 "lowest_with" jL (N3 K a))
example:("free_name 2gd1DN0I4HYe0I1036GO00U1T",z23,jW,jX,bM,5,2,["layout","hold","places"],zv0):=top 46
example:("free_record 2gd1DN0I4HYe0I1036GO00UAT4",z24,jY,jZ,bN,5,2,["layout","hold","marks"],zv1):=top 47
example:("free_piece 2gd1DN0I4HYe0I1036GO00UAT4",z25,j3,j4,bO,5,2,["layout","hold","marks"],zv2):=top 48
variable(z66:BX P w K mg base (a "Store") 5 "name_cells" jN (Q8 K a))
example:("Store.names 36ċ1SLN0JHct0TE0",z26,j5,j6,bP,5,1,["self"],zwo):=BR (top 51) 7
example:("Store.cell_of 2Zr1N0JÙnÄaWÄaWÚo3CqÂt0TÃXE00360F36T",z27,j7,j8,Az,5,2,["self","name","cell","value"],zwn):=BR (top 51) 15
variable(z7d:BX P w K mg base (a "Store") 5 "standing" jP (JL K a))
example:("Store.recount 2870J1036750RO750I10UABE00E00",z28,j9,kA,Bc,5,4,["self","record","more","needs","value"],zww):=BR (top 51) 20
example:("Store.regroup 36750RO750I10UAD70J10400",z29,kB,kC,bQ,5,4,["self","record","pieces","needs"],zwx):=BR (top 51) 21
example:("Store.drop_record 28D70J10428750RO750I10TK1028K102ZLBSL0HYe50I10K1750I10W3Mp01750RO04K10360",z3a,kD,kE,Bm,5,3,["self","record","gone","pieces","dropped","made","mark"],zw0):=BR (top 51) 22
variable(z6o:BX P w K mg base (a "Layout") 3 "plank" i5 (Y1 K a))(z7q:ML P w K mg base (a "Store") 4 "Store" jF (Q7 K a))
example:("House.__init__ 2P002P0N0I3P0uA050",z3b,kG,kH,Bp,5,2,["self","layout"],zzz):=BR (top 60) 0
variable(z5b:CL P w K mg base 6 "is_sound" jV (ZU K a))(z5z:CL P w K mg base 6 "walk" jT (VD K a))(z5r:CL P w K mg base 3 "mended_cells" iR (ZV K a))(z51:CL P w K mg base 3 "write_due" iT (ZW K a))
example:("mend 2ClxGA003Č19F28GA0028á2ZL0W3MčĎ01GO0002MGA00360",z3c,kJ,kK,bR,6,2,["layout","plank","finds","due","find"],zzc):=top 27
variable(z47:CL P w K mg base 1 "is_name" fA (ZH K a))(z6x:BX P w K mg base (a "Store") 6 "cell_of" j8 (N5 K a))
example:("Store.ask_for_new_name 2ClxÐ1SL0HYé103ë19F3Ct70J10T3ď19F",z3d,kL,kM,bS,6,3,["self","new","given"],zwp):=BR (top 51) 13
example:("Store.record_of 2870J102CÁ0T3ë19F36DDN0J04",z3e,kN,kO,Bx,6,2,["self","name","cell"],zwt):=BR (top 51) 14
example:("Store.empty_cell 28750RO750I170J10T02s5000360",z3f,kP,kQ,bT,6,3,["self","name","needs","gone"],zwy):=BR (top 51) 19
variable(z6w:BX P w K mg base (a "Store") 7 "ask_for_new_name" kM (U1 K a))(z46:CL P w K mg base 6 "free_record" jZ (ZE K a))(z44:CL P w K mg base 6 "free_name" jX (UZ K a))(z61:BX P w K mg base (a "Store") 5 "fill_cell" jR (U3 K a))
example:("Store.make 2M70JA0K1028GA505028GA505028750RO750I104Kf28750RO750I10UA4UfK1036KO0070JÉ0000",z3g,kR,kS,bU,7,2,["self","name","record","cell","mark","stands"],zw1):=BR (top 51) 1
variable(z7a:BX P w K mg base (a "Store") 7 "record_of" kO (KM K a))(z7b:BX P w K mg base (a "Store") 6 "recount" kA (Q9 K a))
example:("Store.link 2M70JA0KA002870J1028GA50502870JO04Kf36KA070JÉ0000",z3h,kU,kW,bV,7,3,["self","old","new","record","cell","more"],zw2):=BR (top 51) 2
variable(z60:BX P w K mg base (a "Store") 7 "empty_cell" kQ (U5 K a))(z6z:BX P w K mg base (a "Store") 6 "drop_record" kE (ZK K a))
example:("Store.cut 2870J102870JA0Kf2CvD70J104436KA070JO0ã4K10F36BK1070JA00",z3i,kX,kY,Cm,7,2,["self","name","record","gone"],zw4):=BR (top 51) 3
variable(z49:CL P w K mg base 2 "is_piece" gW (ZI K a))(z45:CL P w K mg base 6 "free_piece" j4 (ZF K a))(z7c:BX P w K mg base (a "Store") 6 "regroup" kC (U4 K a))
example:("Store.put 2870J102ClxG103ì19F28GA505028750RO750I104Kf28750RO750I100K1036KO0070JO0BD70J104U10K10",z3j,kZ,k9,Cw,7,3,["self","name","text","record","piece","mark","filled"],zw5):=BR (top 51) 4
example:("Store.take 2870J1028D70J1042ClÇ40b103ì19F2870JO0BÊ0ËÌ0Ê0ÌB04ËKf36KA0750RO750I1D004K10",z3k,lA,lB,Db,7,3,["self","name","at","record","pieces","without"],zw8):=BR (top 51) 5
example:("Store.texts 28D70J170J10436SL0HYe50R1e50I10",z3l,lC,lD,Dc,7,2,["self","name","pieces"],zw6):=BR (top 51) 8
example:("Store.places_of 2870J1028KA750I170J10750I1036B0SLD70J104HYe50I10",z3m,lE,lF,Dh,7,2,["self","name","record","own"],zxf):=BR (top 51) 9
variable(z5q:CL P w K mg base 7 "mend" kK (ZX K a))
example:("come_up 2MGA0036uA00",z3n,lG,lH,Dj,7,2,["layout","plank"],zzd):=top 54
variable(z63:BX P w K mg base (a "Store") 8 "link" kW (N6 K a))
example:("Store.move 2870JA002870J102870JA0K1E036B0KA070JO0ã4K10",z3o,lI,lJ,Dm,8,3,["self","old","new","linked","record","gone"],zxa):=BR (top 51) 6
variable(z62:BX P w K mg base (a "Store") 1 "hold" fC (ZJ K a))(z68:BX P w K mg base (a "Store") 8 "places_of" lF (ZL K a))(z5v:CL P w K mg base 3 "row_for" iV (ZD K a))
example:("row_to_keep 2zN0J2gL70J10HYe0R1036GA0SL0Hct0T0",z3p,lK,lL,Dv,8,2,["store","name","hold","newest"],zxg):=top 53
variable(z4y:CL P w K mg base 8 "come_up" lH (ZY K a))
example:("House.come_up_again 28GA50502P0GA505036Ö1b10",z3q,lM,lN,Dx,8,1,["self","finds"],zzy):=BR (top 60) 3
variable(z64:BX P w K mg base (a "Store") 8 "make" kS (RA K a))(z6y:BX P w K mg base (a "Store") 8 "cut" kY (RB K a))(z69:BX P w K mg base (a "Store") 8 "put" k9 (RC K a))(z7e:BX P w K mg base (a "Store") 8 "take" lB (RD K a))(z65:BX P w K mg base (a "Store") 9 "move" lJ (RE K a))
example:("do_deed 28E03CX093M70J1E03CX093M70JAE0E03CX093M70J1E03CX093M70JAE0E03CX093M70JAE0í1E03M70JAE0E0",z3r,lO,lP,Em,9,2,["store","words","kind"],zzr):=top 63
variable(z7g:BX P w K mg base (a "Store") 4 "write" jH (VE K a))(z5t:CL P w K mg base 1 "numbers_of_writing" fI (VF K a))(z5w:CL P w K mg base 9 "row_to_keep" lL (N7 K a))(z5c:CL P w K mg base 1 "joined_or_dash" fK (RM K a))(z7f:BX P w K mg base (a "Store") 8 "texts" lD (U6 K a))(z67:BX P w K mg base (a "Store") 6 "names" j6 (U0 K a))
example:("answer_of 28E02CX0936G170J1í1E0F2CX0936G1SLGA0E0HYÖ10F2CX0936Ó9170J1E0F36G1N0J",z3s,lQ,lR,bY,9,2,["store","words","kind"],zzu):=top 64
variable(z50:CL P w K mg base 2 "words_of" gY (Z1 K a))(z4z:CL P w K mg base 10 "do_deed" lP (RN K a))(z6e:BX P w K mg base (a "House") 9 "come_up_again" lN (RP K a))(z4x:CL P w K mg base 10 "answer_of" lR (RO K a))
example:("House.say 28G102CêE0Đ2MGA500369F2CXE0936N0jF36GA500",z3t,lS,lT,Fd,10,2,["self","row","words"],zzw):=BR (top 60) 2
variable(z6g:BX P w K mg base (a "House") 11 "say" lT (ER K a))
example:("_law_said 28T2đ38Ē0j10îē38TîĔ38Tĕ360",z3u,lU,lV,Fg,11,2,["house","row","told"],z0i):=top 77
variable(z5k:CL P w K mg base 4 "_law_there" jJ (VH K a))
example:("_law_kept 2870j1B902870j1B902Cm093ZLÕ019W3M70j1B90F2CqÑmGO0000Òm70j1B90936iF2Cx02M70j193CqÑm70j1B900Òm70j1B90936iFF36i",z3v,lW,lX,cB,11,4,["layout","house","name","stopped","shown","told","word"],z0s):=top 79
variable(z5d:CL P w K mg base 1 "_law_cell_at" gA (Y3 K a))(z7o:ML P w K mg base (a "Layout") 1 "Layout" fV (Y0 K a))(z7n:ML P w K mg base (a "House") 6 "House" kH (Z3 K a))(z5f:CL P w K mg base 1 "_law_names" gC (Z4 K a))(z5e:CL P w K mg base 12 "_law_kept" lX (aB K a))(z5h:CL P w K mg base 2 "_law_row" iI (Z9 K a))(z5i:CL P w K mg base 12 "_law_said" lV (aA K a))
example:("law 28GA0428uÉB4Q04B4QV044B4QV044B4QV04428u1028G1V0428w2ZLÊ0Ì4ËW28Õ70j19192CqÂXQ044Ãm0K1928D0QV04b102ClxGÉ000ßQV044436iF3s0070j1B903CXQ0443M70j1B9Ö1QV04N0I3CqÂXGA0GAV0409ÃvQV044438wF3Ė0W3CmGO000Î0036iF36i",z3w,lY,Nb,cD,12,1,["script","cell","layout","house","names","kept","some","name"],z0y):=top 80
end
def z3x(b c d e g i j l n o p q r u v w x y:Addr):∃ a:Ad,a "NoBlock"=b/\a "NoChange"=c/\a "NoRoom"=d/\a "NoName"=e/\a "Twice"=g/\a "NoPiece"=i/\a "NotSound"=j/\a "NoRow"=l/\a "View"=n/\a "Change"=o/\a "Hold"=p/\a "Store"=q/\a "House"=r/\a "Plank"=u/\a "Layout"=v/\a "DEEDS"=w/\a "FORMS"=x/\a "WITH_A_NUMBER_LAST"=y :=
 {λs=>(([("NoBlock",b),("NoChange",c),("NoRoom",d),("NoName",e),("Twice",g),("NoPiece",i),("NotSound",j),("NoRow",l),("View",n),("Change",o),("Hold",p),("Store",q),("House",r),("Plank",u),("Layout",v),("DEEDS",w),("FORMS",x),("WITH_A_NUMBER_LAST",y)]:List (String × Addr)).lookup s).getD 0,rfl,rfl,rfl,rfl,rfl,rfl,rfl,rfl,rfl,rfl,rfl,rfl,rfl,rfl,rfl,rfl,rfl,rfl}
def lZ(K:W.Frag):Sp:=λvs H Q _=>∃ (s:Addr) (ns:List Int),vs=[.ref s]/\SqL K H s (ns.map V.int)/\ns.length<=63/\∀ a,Q (.bl true) a
local macro_rules
 | `(tactic| injections)=>`(tactic| skip)
 | `(tactic| injections $x:ident $y*)=>`(tactic| ((first|have:=gmc (ok:=by intro _ _ F;apply $x<;>assumption)|have:=gfc (ok:=by intro _ _ F;apply $x<;>assumption)|have:=gnc (ok:=by intro _ _ F;apply $x<;>assumption));injections $y*))
def all_mk{P:bv}{w:World}{K:W.Frag}{h:Heap}{mg:Str->Option Value}{fa:Addr}{A B o l n p D I g r c b j i d x u y:Addr}{tk_MOST_FIGURES:Tok}{tk_MOST_LETTERS:Tok}{tk_MOST_PIECE_SIGNS:Tok}{tk_PERCENT:Tok}{o_DEEDS:Obj}{o_FORMS:Obj}{o_WITH_A_NUMBER_LAST:Obj}(X:K.In h)(G:h.Ns bq mg)(O:mg "law"=some (.ref fa))
  (J:GX K A "NoBlock")
  (q1:GX K B "NoChange")
  (q2:GX K o "NoRoom")
  (q3:GX K l "NoName")
  (q4:GX K n "Twice")
  (L:GX K p "NoPiece")
  (M:GX K D "NotSound")
  (N:GX K I "NoRow")
  (q8:GC K g "View")
  (q9:GC K r "Change")
  (qa:GC K c "Hold")
  (qb:GC K b "Store")
  (qc:GC K j "House")
  (qd:GC K i "Plank")
  (qe:GC K d "Layout")
  (qf:W.nsIn K bq "DEEDS"=some (some<|.ref x))
  (qg:K.lookup x=some o_DEEDS)
  (qh:UB o_DEEDS ["make","link","cut","put","take","move"]=true)
  (qi:W.nsIn K bq "FORMS"=some (some<|.ref u))
  (qj:K.lookup u=some o_FORMS)
  (qk:(u==gb)=false)
  (ql:UA o_FORMS OE=true)
  (qm:W.nsIn K bq "MOST_FIGURES"=some (some<|.int 3 tk_MOST_FIGURES))
  (qn:W.nsIn K bq "MOST_LETTERS"=some (some<|.int 8 tk_MOST_LETTERS))
  (qo:W.nsIn K bq "MOST_PIECE_SIGNS"=some (some<|.int 40 tk_MOST_PIECE_SIGNS))
  (qp:W.nsIn K bq "PERCENT"=some (some<|.int 37 tk_PERCENT))
  (qq:W.nsIn K bq "WITH_A_NUMBER_LAST"=some (some<|.ref y))
  (qr:K.lookup y=some o_WITH_A_NUMBER_LAST)
  (qs:UB o_WITH_A_NUMBER_LAST ["take","write"]=true)
  (qt:W.nsIn K bq "all"=some none)
  (qu:W.nsIn K bq "dict"=some none)
  (qv:W.nsIn K bq "enumerate"=some none)
  (qw:W.nsIn K bq "int"=some none)
  (qx:W.nsIn K bq "len"=some none)
  (qy:W.nsIn K bq "list"=some none)
  (qz:W.nsIn K bq "ord"=some none)
  (U:W.nsIn K bq "range"=some none)
  (Y:W.nsIn K bq "reversed"=some none)
  (q12:W.nsIn K bq "set"=some none)
  (q13:W.nsIn K bq "sorted"=some none)
  (q14:W.nsIn K bq "str"=some none)
  (q15:W.nsIn K bq "tuple"=some none)
  (q16:GF K "law" lY)
  (_:GM K g "pieces_named" "View.pieces_named" dN)
  (_:GM K g "records_standing" "View.records_standing" dJ)
  (_:GM K g "count_of" "View.count_of" dP)
  (_:GM K i "blocks" "Plank.blocks" fN)
  (_:GM K c "ask_for_changes" "Book.ask_for_changes" eG)
  (_:GM K c "waiting" "Book.waiting" eC)
  (_:GM K i "cells" "Plank.cells" fQ)
  (_:GM K c "lack_of" "Hold.lack_of" eO)
  (_:GF K "is_sign" eX)
  (_:GF K "is_number" fF)
  (_:GM K i "ask_for_block" "Plank.ask_for_block" fS)
  (_:GM K d "place_from" "Layout.place_from" f7)
  (_:GM K d "blocks_ahead_of_marks" "Layout.blocks_ahead_of_marks" fY)
  (_:GF K "_law_text" gD)
  (_:GF K "faults_of_names" dR)
  (_:GF K "faults_of_things" gF)
  (_:GF K "faults_of_marks" gH)
  (_:GF K "leavings_of_records" gJ)
  (_:GF K "left_pieces" dW)
  (_:GF K "marked_records" dY)
  (_:GM K i "read" "Plank.read" gZ)
  (_:GM K d "record_at" "Layout.record_at" hU)
  (_:GM K d "record_mark" "Layout.record_mark" iB)
  (_:GM K d "piece_mark" "Layout.piece_mark" iD)
  (_:GM K i "write" "Plank.write" g8)
  (_:GM K c "closure" "Book.closure" gO)
  (_:GM K c "block_of" "Book.block_of" eE)
  (_:GM K c "outcome" "Hold.outcome" gS)
  (_:GM K c "ask_for_place" "Book.ask_for_place" gQ)
  (_:GM K c "laid_over" "Hold.laid_over" eU)
  (_:GM K d "blocks" "Layout.blocks" iF)
  (_:GN K i "Plank" "Plank.__init__" fL)
  (_:GM K d "counts" "Layout.counts" fW)
  (_:GM K d "name_at" "Layout.name_at" hE)
  (_:GF K "values_at" iO)
  (_:GM K d "piece_at" "Layout.piece_at" hX)
  (_:GF K "tally" d0)
  (_:GF K "pieces_in" d8)
  (_:GM K g "records_led_to" "View.records_led_to" dG)
  (_:GM K c "newest" "Book.newest" iW)
  (_:GF K "needs_with" eK)
  (_:GN K r "Change" "Change.__init__" eA)
  (_:GN K c "Hold" "Book.__init__" gL)
  (_:GM K c "write" "Hold.write" iY)
  (_:GM K j "plank" "House.plank" fD)
  (_:GF K "_law_plank" i6)
  (_:GM K c "in_hand" "Book.in_hand" jC)
  (_:GM K c "change" "Book.change" jA)
  (_:GN K g "View" "View.__init__" i8)
  (_:GF K "faults_in" iJ)
  (_:GF K "leavings_in" iL)
  (_:GF K "lowest_with" jK)
  (_:GM K b "name_cells" "Store.name_cells" jM)
  (_:GM K b "standing" "Store.standing" jO)
  (_:GM K d "plank" "Layout.plank" i4)
  (_:GN K b "Store" "Store.__init__" jE)
  (_:GF K "is_sound" jU)
  (_:GF K "walk" jS)
  (_:GF K "mended_cells" iQ)
  (_:GF K "write_due" iS)
  (_:GF K "is_name" eZ)
  (_:GM K b "cell_of" "Store.cell_of" j7)
  (_:GM K b "ask_for_new_name" "Store.ask_for_new_name" kL)
  (_:GF K "free_record" jY)
  (_:GF K "free_name" jW)
  (_:GM K b "fill_cell" "Store.fill_cell" jQ)
  (_:GM K b "record_of" "Store.record_of" kN)
  (_:GM K b "recount" "Store.recount" j9)
  (_:GM K b "empty_cell" "Store.empty_cell" kP)
  (_:GM K b "drop_record" "Store.drop_record" kD)
  (_:GF K "is_piece" gU)
  (_:GF K "free_piece" j3)
  (_:GM K b "regroup" "Store.regroup" kB)
  (_:GF K "mend" kJ)
  (_:GM K b "link" "Store.link" kU)
  (_:GM K b "hold" "Store.hold" fB)
  (_:GM K b "places_of" "Store.places_of" lE)
  (_:GF K "row_for" iU)
  (_:GF K "come_up" lG)
  (_:GM K b "make" "Store.make" kR)
  (_:GM K b "cut" "Store.cut" kX)
  (_:GM K b "put" "Store.put" kZ)
  (_:GM K b "take" "Store.take" lA)
  (_:GM K b "move" "Store.move" lI)
  (_:GM K b "write" "Store.write" jG)
  (_:GF K "numbers_of_writing" fH)
  (_:GF K "row_to_keep" lK)
  (_:GF K "joined_or_dash" fJ)
  (_:GM K b "texts" "Store.texts" lC)
  (_:GM K b "names" "Store.names" j5)
  (_:GF K "words_of" gX)
  (_:GF K "do_deed" lO)
  (_:GM K j "come_up_again" "House.come_up_again" lM)
  (_:GF K "answer_of" lQ)
  (_:GM K j "say" "House.say" lS)
  (_:GF K "_law_there" jI)
  (_:GF K "_law_cell_at" f9)
  (_:GN K d "Layout" "Layout.__init__" fU)
  (_:GN K j "House" "House.__init__" kG)
  (_:GF K "_law_names" gB)
  (_:GF K "_law_kept" lW)
  (_:GF K "_law_row" iH)
  (_:GF K "_law_said" lU)
  (q42:W.findIn K (.ref i) "contents"=some none)
  (q43:W.findIn K (.ref i) "width"=some none)
  (q44:W.findIn K (.ref i) "written"=some none)
  (q45:W.findIn K (.ref c) "ground"=some none)
  (q46:W.findIn K (.ref c) "made"=some none)
  (q47:W.findIn K (.ref c) "made_in"=some none)
  (q48:W.findIn K (.ref c) "latest"=some none)
  (q49:W.findIn K (.ref c) "outs"=some none)
  (q4a:W.findIn K (.ref r) "place"=some none)
  (q4b:W.findIn K (.ref r) "value"=some none)
  (q4c:W.findIn K (.ref r) "needs"=some none)
  (q4d:W.findIn K (.ref d) "name_blocks"=some none)
  (q4e:W.findIn K (.ref d) "record_blocks"=some none)
  (q4f:W.findIn K (.ref d) "piece_blocks"=some none)
  (q4g:W.findIn K (.ref d) "width"=some none)
  (q4h:W.findIn K (.ref b) "plan"=some none)
  (q4i:W.findIn K (.ref b) "book"=some none)
  (q4j:W.findIn K (.ref b) "taken_out"=some none)
  (q4k:W.findIn K (.ref g) "name_values"=some none)
  (q4l:W.findIn K (.ref g) "record_values"=some none)
  (q4m:W.findIn K (.ref g) "piece_values"=some none)
  (q4n:W.findIn K (.ref g) "record_marks"=some none)
  (q4o:W.findIn K (.ref g) "piece_marks"=some none)
  (q4p:W.findIn K (.ref g) "leads"=some none)
  (q4q:W.findIn K (.ref g) "namings"=some none)
  (q4r:W.findIn K (.ref g) "reached"=some none)
  (q4s:W.findIn K (.ref j) "plan"=some none)
  (q4t:W.findIn K (.ref j) "ground"=some none)
  (q4u:W.findIn K (.ref j) "store"=some none)
  (q4v:W.exmAny K (.ref l) [.ref l,.ref n]=some true)
  (q4w:W.exmAny K (.ref n) [.ref l,.ref n]=some true)
  (q4x:W.exmAny K (.ref p) [.ref l,.ref n]=some false)
  (q4y:W.exmAny K (.ref p) [.ref p,.ref o]=some true)
  (q4z:W.exmAny K (.ref o) [.ref l,.ref n]=some false)
  (q50:W.exmAny K (.ref o) [.ref p,.ref o]=some true) :
  ∃ fd:gq,(∀ (s:π) (v:Value),xh s fd {[v],[]} [("script",v)])/\∀ base:Heap,K.In base->base.Ns bq mg->FnOk P w K mg base (EG P w) 13 fa fd ["script"] (lZ K):=by
 let[a,rfl,rfl,rfl,rfl,rfl,rfl,rfl,rfl,rfl,rfl,rfl,rfl,rfl,rfl,rfl,rfl,rfl,rfl]:=z3x A B o l n p D I g r c b j i d x u y
 have T:Txt K mg a:={q9.c,qa.c,qc.c,qe.c,qd.c,qb.c,q8.c,{_,W.mg_of X G qf,rfl},{_,W.mg_of X G qi,rfl},ziw qj ql qk,{_,W.mg_of X G qm,_,rfl},{_,W.mg_of X G qn,_,rfl},{_,W.mg_of X G qo,_,rfl},W.mg_of X G J.ac,{_,W.mg_of X G J.ac,rfl},{⟨_,J.ac⟩,J.ex},W.mg_of X G q1.ac,{_,W.mg_of X G q1.ac,rfl},{⟨_,q1.ac⟩,q1.ex},W.mg_of X G q3.ac,{_,W.mg_of X G q3.ac,rfl},{⟨_,q3.ac⟩,q3.ex},W.mg_of X G L.ac,{_,W.mg_of X G L.ac,rfl},{⟨_,L.ac⟩,L.ex},W.mg_of X G q2.ac,{_,W.mg_of X G q2.ac,rfl},{⟨_,q2.ac⟩,q2.ex},W.mg_of X G N.ac,{_,W.mg_of X G N.ac,rfl},{⟨_,N.ac⟩,N.ex},W.mg_of X G M.ac,{_,W.mg_of X G M.ac,rfl},{⟨_,M.ac⟩,M.ex},{_,W.mg_of X G qp,_,rfl},W.mg_of X G q4.ac,{_,W.mg_of X G q4.ac,rfl},{⟨_,q4.ac⟩,q4.ex},{_,W.mg_of X G qq,rfl},W.mg_none_of X G qt,W.mg_none_of X G qu,W.mg_none_of X G qv,W.mg_none_of X G qw,W.mg_none_of X G qx,W.mg_none_of X G qy,W.mg_none_of X G qz,W.mg_none_of X G U,W.mg_none_of X G Y,W.mg_none_of X G q12,W.mg_none_of X G q13,W.mg_none_of X G q14,W.mg_none_of X G q15}
 have TPk:DR K a:=⟨T.Nk,q42,q43,q44⟩
 have TBk:sJ K (a "Hold") (a "Change"):=⟨T.Ng,q45,q46,q47,q48,q49,T.z4a,q4a,q4b,q4c⟩
 have TLy:D9 K a:=⟨T.Nj,q4d,q4e,q4f,q4g⟩
 have TSt:Q6 K a:=⟨T.Nl,q4h,q4i,q4j⟩
 have TVw:TV K a:=⟨T.Nm,q4k,q4l,q4m,q4n,q4o,q4p,q4q,q4r⟩
 have THo:ZZ K a:=⟨T.Nh,q4s,q4t,q4u⟩
 have EQ:EQ K a:={⟨TBk,TPk,TLy,TSt⟩,THo,rW qg qh,rW qr qs}
 have TRm:TD K a:=⟨q4v,q4w,q4x,q4y,q4z,q50⟩
 let[fd,hb,F]:=q16.law X G O<|λz z z z z z z z=>.of_eq rfl;refine{fd,hb,λbase z z=>?_}
 injections z01 z02 z03 z04 z05 z06 z07 z08 z09 z1a z1b z1c z1d z1e z1f z1g z1h z1i z1j z1k z1l z1m z1n z1o z1p z1q z1r z1s z1t z1u
 injections z1v z1w z1x z1y z1z z10 z11 z12 z13 z14 z15 z16 z17 z18 z19 z2a z2b z2c z2d z2e z2f z2g z2h z2i z2j z2k z2l z2m z2n z2o
 injections z2p z2q z2r z2s z2t z2u z2v z2w z2x z2y z2z z20 z21 z22 z23 z24 z25 z26 z27 z28 z29 z3a z3b z3c z3d z3e z3f z3g z3h z3i
 injections z3j z3k z3l z3m z3n z3o z3p z3q z3r z3s z3t z3u z3v
 exact FnOk.imp (sp:=sY K a) (by apply z3w<;>assumption) (λvs H Q E ⟨s,ns,e,hs,hn,q⟩=>⟨s,ns,e,TVw,EQ,TRm,hs,hn,q⟩)
def walk{l:W.OpenLaw}{q:bv}{loose:List Str}{g:(Str->Option Value)->Heap->Prop}{c:World->Heap->Prop}{d:DefRec}{K:Params->W.Frag}(i:l.most=some 63)(b:d.params.defaults=[])
  (j:∀ (w:World) (h:Heap),c w h->(K w.params).In h)
  (F:∀ (w:World) (mg:Str->Option Value) (e:Addr) (h:Heap),(K w.params).In h->h.Ns bq mg->mg d.name=some (.ref e) ->
   ∃ fd:gq,(∀ (s:π) (u:Value),xh s fd {[u],[]} [("script",u)])/\∀ base:Heap,(K w.params).In base->base.Ns bq mg->FnOk l.prog w (K w.params) mg base (EG l.prog w) 13 e fd ["script"] (lZ<|K w.params)) :
  W.WalkO q loose g c l.row.toRowW d [] (λf vs=>PySem.call f vs) :=
 L2.walk_of (n:=63) (k:=13) (x:="script") (CX:=λw=>EG l.prog w) (sp:=λw=>lZ<|K w.params) i (by decide) b {rfl,by decide,by decide} j F (λy y a ns o y p=>{a,ns,rfl,p,o,λy=>rfl}) λy y y y y z=>pH z
end L2
local macro_rules
 |`(command|example:=$s:str)=>do
  return Lean.mkNullNode (<-(s.getString.splitOn " "++(List.range 1108).map (s!"o_{·}")).toArray.mapM fun n=>`(command|theorem $(Lean.mkIdent (.mkSimple ("tw"++if n.front.isDigit then n else s!"{(`PySem.Challenge.cw_holdback_k74_whole_kept_behind_a_stop_holds++.mkSimple n:Lean.Name).hash}"))):ident:True:=⟨⟩))
namespace PySem.W.Fast
example:="tree_1046 heap_1108 sts_499 tree_175 tree_498 tree_85 sts_362 sts_176 tree_70 sts_322 sts_805 11172953612934052142 env_41 tree_145 sts_161 tree_130 tree_860 sts_86 tree_160 tree_47 sts_786 tree_1107 sts_954 sts_116 tree_888 tree_951 tree_952 tree_782 sts_952 view_39 sts_241 sts_1047 tree_361 sts_101 sts_449 tree_448 tree_100 sts_71 12040671064913711998 tree_190 tree_321 sts_146 heap_39 tree_802 tree_240 sts_191 sts_889 heap_46 sts_49 sts_540 tree_115 sts_131 sts_861 tree_704 tree_539"
end PySem.W.Fast
open PySem PySem.W PyProof.Rows
set_option Elab.async false
set_option tactic.hygienic true
set_option maxRecDepth 100000 in
set_option maxHeartbeats 0 in
theorem PySem.Challenge.cw_holdback_k74_whole_kept_behind_a_stop_holds : PySem.Challenge.rw_holdback_k74_whole_kept_behind_a_stop.Holds := by
 w_on;o_law;k_head;(case hw=>w_witness2)
 k_fill
 refine L2.walk (l:=PySem.Challenge.rw_holdback_k74_whole_kept_behind_a_stop) rfl rfl (λw h Y=>PySem.W.kIn_of Y) ?F
 case F =>
  intro w mg fa h KX G hmg;apply L2.all_mk KX G hmg<;>first|(apply L2.gc;(case a=>k_is);(case l=>k_is);(case c=>k_is);(case k=>k_is);(case i=>k_is))|(apply L2.GX.mk;(case ac=>k_is);(case ex=>k_exc))|(apply L2.gf;(case a=>k_is);(case l=>k_is);(case c=>k_is);(case k=>k_is))|(apply L2.gm;(case a=>k_is);(case l=>k_is);(case c=>k_is);(case k=>k_is);(case i=>k_is))|(apply L2.gn;(case a=>k_is);(case l=>k_is);(case c=>k_is);(case k=>k_is);(case i=>k_is);(case m=>k_is);(case n=>k_is);(case s=>k_is))|k_is|decide +kernel|kernel_rfl|kts_exm
