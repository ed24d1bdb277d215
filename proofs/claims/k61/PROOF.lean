import PyProof.Rows.All
import Wide.All
import OpenK.AllK
import PySem.Challenge.RW_daysgate_k61_changed_by_days
set_option Elab.async false
set_option linter.all false
set_option maxRecDepth 100000
set_option compiler.extract_closed false
set_option bootstrap.genMatcherCode false
set_option genSizeOf false
set_option genInjectivity false
set_option backward.eqns.nonrecursive false
noncomputable section
abbrev PP:=List (PySem.Addr×PySem.Obj)
abbrev PQ:=PySem.Value->PySem.Shared->Prop
abbrev PR:=PySem.Str->Option PySem.Value
open PySem.W (Frag)
set_option hygiene false
local macro_rules
| `(%[$n:num|0])=>`(.cons (.var $n) .nil)
| `(%[$a|0])=>`(.cons $a .nil)
| `(%[$n:num,$b,*|0])=>`(.cons (.var $n) %[$b,*|0])
| `(%[$a,$b,*|0])=>`(.cons $a %[$b,*|0])
| `(%[$n:num|1])=>`(qm (pg:=pg) (st:=top $n) (4:) λk cl=>(4:))
def saidX:PySem.Challenge.rw_daysgate_k61_changed_by_days.wellSaid=true:=by kernel_rfl
local macro_rules|`(($n:num :))=>`(nat_lit $n)
local macro_rules|`((1:))=>`(by lia)|`((5:))=>`(by simp)|`((-$e :))=>`(by simpa using $e)|`((3:))=>`(by decide+kernel)|`((4:))=>`(by kernel_rfl)|`((2:))=>`(by decide)
local macro_rules|`(tactic| simp?![$ls,*])=>do
  let f (s:String) (k:Lean.Name):=(s.splitOn " ").toArray.map λn=>Lean.mkIdent (k++n.toName)
  let b<-(f "Rv.list? Rv.plain? Rv.data Rv.int? Rv.str? Rv.bl? Rv.tup? int2 seqD Rv.non? idxD sliceD truthD lenD listD intD strD tupD maxD minD B1.go B2.go Ty.of Ty.go toAr toSl flR slN runD th_ok of_some slR_s slR_v slR_o slR_b slR_c slX_s slX_v slX_o ownI_s ownI_o kk_f kk_cs kk_nw at_0 at_1 at_2 ixN_app set_app emp_app xR_var xR_con xR_bin xR_neg xR_not xR_one xR_and xR_cmp xR_ite xR_idx xR_sli xR_lst xR_tup xR_stp xR_call xR_b1 xR_b2 xR_isc xR_fld xR_met xR_new xR_isi xR_comp n_ok n_R n_As yRet yBl yTmp yB1 yB2 yNeg yNot yAnd yC1 yC2 yIf yI1 yI2 yS1 yS2 yS3 yLst yTup yQs1 yQs2 yQs3 yCall yF1 yG1 yG2 yIsc yDat yFld yMt3 yMt2 yMt1 yMtO yNew yIsi yComp xT_not xT_one xT_and xT_or xT_cmp xT_chn xT_val yBo yTn yTa yTo yD1 yD2 yN0 yN1 yN2 yTv xF_yes xF_test xEs_nil xEs_cons yE1 yE2 xAs_nil xAs_cons yA1 yA2 xO_none xO_some yO xI_seq xI_rng xI_rev xI_enum xI_zip ySeq yRng yRev yEnum yZ1 yZ2 yVal yValt yValL yValLt yValLm yX yXt yAv yAx yAxt yCons xE_s xE_v xE_o xL_s xL_l xL_z xL_o xL_b oGo_some xS_app yApp yApp2 xS_ext yExt yExt2 xS_ret yRt xS_set ySet xS_setT yST yNx xS_setI ySI ySI2 ySI3 ySI4 xS_ite yIte xS_for yFor xS_whl xSs_nil xSs_cons yNext yNextr xFo_cons yFo1 yFo2 yFo2r xWh yWh1 yWh2 xP_cons yP1 yP2 yP3 vc_bin vc_neg vc_and vc_cmp vc_ite vc_idx vc_sli vc_lst vc_tup vc_call vc_b1 vc_b2 vc_fld vc_met vc_new vc_comp eE_g eL_g eX_g eA_g eE_var eE_con eL_var eX_var eX_con eA_var eA_con bAdd bAdds bAddtt bSub bMult bDiv bMod bPow cEq cNe cLt cLe cGt cGe cIn cNi mIn rgoV rgoT setIs_nil setIs_cons g_mapc g_mapn g_lenc g_lenn g_rep0 g_reps g_appc g_appn g_set0 g_sets g_last g_nott g_notf g_omap g_fe g_and g_dt g_df lend_v" `DE++f "Int.reduceLT Int.reduceLE Nat.reduceAdd Nat.reduceSub" .anonymous).mapM λn=>`(Lean.Parser.Tactic.simpLemma| $n:ident)
  let d<-(f "n_var sA_p sA_R sA_L rA_a rA_l rA_s rA_t rA_y" `DE++f "reduceIte" .anonymous).mapM λn=>`(Lean.Parser.Tactic.simpLemma| ↓ $n:ident)
  let c : Array (Lean.TSyntax [`Lean.Parser.Tactic.simpStar, `Lean.Parser.Tactic.simpErase, `Lean.Parser.Tactic.simpLemma]):=(b ++ d).map (⟨·.raw⟩) ++ ls.getElems
  `(tactic| simp only[$c,*])
local macro_rules|`({$xs:term,*})=>`(⟨$xs,*⟩)
local macro_rules|`(tactic|simp?[$ls,*])=>`(tactic|(refine(qg _).symm.trans ?_;simp?![$ls,*]))
local macro_rules|`(tactic|simp![$ls,*]$[$l:location]?)=>`(tactic|simp only[$ls,*]$[$l]?)
local macro_rules|`(command|$d:definition)=>`(command|noncomputable $d:definition)
open PySem renaming Value->aa,Addr->ad,Expr->ae,Shared->ag,wpAny_bind->ai,wpAny->ak,model->al,Heap->au,wpAny_pure->ax,World->aB,Stmt->aC,Program->aE,Around->aH,starEach->aI,CmpOp->aR,mainGlobals->aV,Paired->bb,Scope->bi,backTo->bu,compareOp->bv,rawInt->bH,FuncData->bO,sliceBounds->bT,intKind->b8,binaryOp->b9,NameKind->ci,pyNext->cn,Operator->cq,SetTable->cr,Model->cH,holding->cJ,wpAny_holding->cK,mem_of_lookup->cY,codeAny->de,Keyword->df,wpAny_rule->dg,wpAny_setState_of->dy,assignEach->dI,backToKw->dJ,keywordEach->dM,wpAny_mono->dY,standAt->dZ,assign->d8,codeAny_mono->d9,Params->ec,PyData->ed,scanBound->ef,sysModules->eD,bindArgs->eE,wpAny_call_entry->eG,codeAny_builtin->eH,wpAny_truthy_bool->eY,wpAny_passesOwn->eZ,BindsTo->e6,callerA->e8,plainId_quiet->e9,pickOrder->fb,bootBuiltins->fK,GenState->fL,swapsWith->fM,getMethod->fN,attributeBase->fO,wpAny_Call_Name_kw->fP,slicePick->fQ,unsupported->fU,wpAny_attempt->fV,sliceRange->fW,valueAt->fX,relayAll->fY,setNext->fZ,tupleKind->gE,treeTable->gJ,wpAny_newObj_type->gM,fits_of_scanBound->gN,wpAny_setField->gO,wpAny_execs_nil->iy,foldedSetIterable->iz,wpAny_getItem_str_slice->iB,post_val_or_str->iC,wpAny_typeOf->iD,wpAny_callSpecial?_slot->iE,wpAny_fieldsOf->iG,Within->i7,wpAny_eqBool_int->k6,wpAny_standAt->k7,swapsWithSole->k8,PassesOwn->k9,letOwnedTupleGo->lc,seqIndex_neg->lh,slot_list_getitem->ll,importedModules->lm,wpAny_newList->lr,wpAny_seqItems->lx,wpAny_pyIter_list->ly,wpAny_askSetting->lB,isSubtype_type->lC,wpAny_ite_split->lD,wpAny_pyNext_list_item->mJ,wpAny_pyNext_list_end->mK,wpAny_getItem_list_slice->mM,wpAny_comprehension_free->mN,builtinLookup_eq_fast->mO
open PyProof.Rows renaming Keyed->af,arrOf->ah,SortSt->aj,wpS_bind->am,wpS_pure->ay,pendingOf->aM,elem'->aO,KeyOrd->aU,setArr->aY,pairsOf->bM,wpS_forRange->bY,seqObj->bZ,SortKind->cc,wpS_mono->ce,failedOf->cM,wpS_modify->cP,wpS_get->cQ,firstMet->cU,envOfC->dw,gallopOf->dN,AllBare->dX,minRun'->ee,wpS_lift->eF,IntsAre->e7,callWith_type1->fc,boot_list->f6,reverseSlice'->gK,mem_zip_self->gL,sortedHeap->iA,boot_tuple->i4,subscriptTail->ld,listUpdate_at->lq,pairsOf_toList->lu,firstMet_succ->lA,boot_int->lR,boot_sorted->lS,boot_str->lT,boot_isinstance->lU,subscriptTail_builtinR->mL
open False renaming elim->ao
open List renaming map_cons->av,length_map->aD,mem_cons->aF,map_nil->aK,length_cons->aQ,append_assoc->aT,mem_append->aW,mem_append_right->aX,map_append->a8,nil_append->bf,lookup_cons->bh,size_toArray->bj,mem_singleton->bo,length_append->bq,mem_append_left->bC,getElem?_map->bE,pairwise_cons->bG,mem_cons_of_mem->bI,getElem?_eq_some_iff->bJ,getElem?_eq_getElem->bK,cons_append->bN,pairwise_append->bQ,getElem?_set_ne->bU,mem_cons_self->b5,sum_cons->cm,range->cw,filterMap_cons->cx,getElem?_set_self->cy,replicate->cz,getElem?_append_right->cZ,getElem?_append_left->dm,mem_of_getElem?->dn,append_nil->dD,find?_cons->dG,length_eq_zero_iff->dH,mem_map->dU,take_sublist->eu,not_mem_nil->eC,lookup->eK,length_set->eL,any_cons->eM,drop_sublist->eO,mem_reverse->eQ,map->eT,all_eq_true->eX,mem_filter->fe,nodup_cons->fj,all_cons->fk,pairwise_iff_getElem->ft,drop_eq_getElem_cons->fD,mergeSort_perm->fF,getD_cons_succ->fH,getD_cons_zero->fI,extract_eq_take_drop->gc,take_of_length_le->gf,mem_iff_getElem->gg,pairwise_reverse->gh,mem_of_mem_take->gi,take_length->gj,drop_zero->gq,mem_flatMap->gC,getElem?_eq_none_iff->gX,of_mem_zip->gY,length_take->gZ,take_append_drop->g8,map_map->hZ,pairwise_map->ie,any_eq_true->ij,zip_cons_cons->ik,pairwise_mergeSort->il,eq_of_mem_replicate->io,map_take->ir,length_replicate->kh,length_singleton->kj,drop_eq_nil_of_le->kq,map_snd_zip->kD,length_nil->kF,length_range->kG,range'_succ->kH,range_eq_range'->kI,getElem_mem->kK,ext_getElem->kM,nodup_append->kN,getElem?_cons_succ->kP,contains_cons->kR,length_mergeSort->kS,length_filter_le->kT,map_drop->kU,flatMap_cons->kW,filter_cons->kZ,getElem?_take_of_lt->lY,sublist_append_left->l5,perm_append_comm->l6,mem_take_iff_getElem->l7,perm_append_comm_assoc->l8,sublist_append_right->l9,set_append_right->me,pairwise_lt_range->mi,length_eraseIdx_of_lt->mr,getElem?_toArray->mw,getElem?_zipWith->mF,getD_eq_getElem?_getD->mG,zipWith_cons_cons->mH
open Nat renaming le_refl->az,ne_of_lt->aZ,zero_le->bd,lt_of_lt_of_le->bn,le_trans->bz,le_add_right->cG,lt_irrefl->ej,zero_add->eA,min_eq_left->eR,ne_of_gt->fg,le_succ->fh,add_sub_cancel'->fC,le_of_eq->f7,lt_succ_self->f8,reduceAdd->gy,reduceSub->gz,add_zero->hE,lt_trans->hJ,add_le_add_left->hU,lt_of_le_of_lt->kn,add_lt_add_left->kx,lt_succ_of_lt->kC
open Bool renaming and_eq_true->aG,false_eq_true->a7,not_eq_true'->da,false_ne_true->dQ,or_eq_true->eB,or_eq_false_iff->eW,not_true->fm,or_false->ki,not_eq_false'->kr,and_self->kQ
open True renaming intro->aJ
open PySem.Heap renaming lt_size->aN,get?_push_of_some->aP,get?_push_size->bg,SameBut->dP,size_push->eo,get?_update_self->g6,get?_update_other->g7,get?_none_of_le->i8
open Int renaming le_refl->a9,emod_nonneg->bD,emod_lt_of_pos->bW,toNat_natCast->dF,sub_zero->fG,le_total->fJ,one_mul->gA,mul_sub->gD,add_zero->iu,lt_irrefl->kY,fdiv_eq_ediv_of_nonneg->mD,fmod_eq_emod_of_nonneg->mE,eq_ofNat_of_zero_le->mI
open PySem.Value renaming ref->bm,type->dk,bool->gW,isInt_shape->i6
open Array renaming length_toList->bp,getElem?_eq_some_iff->bP,toList_append->c9,getElem?_eq_getElem->dq,mk->eN,toList_extract->fq,toList_reverse->fu,perm_iff_toList_perm->gk,size_extract->g9,toList_map->hV,toList_push->ky,toArray_toList->kE,size_setIfInBounds->ma,getElem?_eq_none_iff->mf,getElem?_toList->ml,getElem?_eq_none->mC
open PySem.SeqAt renaming shaped->br,EqAt->lW
open Option renaming map_eq_some_iff->bF,bind_eq_some_iff->dW
open PySem.SetTable renaming below->bV,grown->eU,insertAt->kJ
open PySem.W renaming boot_heap->bX,fnOf->cu,findIn->dh,kitOne->di,kia_one->dj,keepIn->dz,emptyDict->dO,findIn->eg,instObj->eh,SharedT->fT,boot_drawn->gH,boot_toks->gI,lookIn->gP,plainGet->gQ,callWith_K->gR,codeIn->gU,methodObj->iH,hasDictIn->iK,plainGet_of->iL,isFn->iM,takerIn->iN,specialIn->iP,takesIn->iQ,callWith_K0->iU,methodCall_KW->iV,nsIn->i5,cellsFrom_some->lE
open PySem.NameKind renaming free->b6,cell->fE
open PySem.PyData renaming eqv->b7,canLay0->db,strOk->du,eqvAll->gr,canLayAll0->ip,depthAll->iq
open PySem.Obj renaming mapSeq->cg
open Ne renaming symm->cj
open Bind renaming bind->cD
open Prod renaming mk->c8
open PyProof.Rows.KeyOrd renaming kle_refl->dt,kle_trans->fo,kle_of_klt->f9
open Sum renaming inr->dC,inl->eJ
open PySem.F renaming called_set->ei,slot_dict_get->iY,slot_list_getattribute->iZ,entry_dict_get->lG,args_dict_get_3->lH,plain_set_new->lJ,slot_set_iter->lK,plain_list_iadd->lM,plain_extend_loop->lP,plainAttrs_list->lV
open PySem.Heap.SameBut renaming update->eI
open PyProof.Rows.SortSt renaming mk'->eP
open PySem.Around renaming under_plainId->eS,under->i9
open Exists renaming elim->eV
open ForInStep renaming yield->gm
open PySem.Str renaming ofString->gn
open Decidable renaming byContradiction->gB
open List.Perm renaming append_left->gV,append_right->lF,eq_of_pairwise->lQ
open PySem.Txt renaming slice_le->ig
open PySem.Shared renaming TypeIs->ii
open PySem.Builtin.Str renaming occurrences->iJ
open PySem.Builtin.List renaming listTooLong->iW,listLengthHint->lL,listExtendWith->lN,listSameRef->lO
open List.Pairwise renaming imp_of_mem->iX
open PySem.Code renaming isFrame->ke
open PySem.Calls renaming spliced_cons->kg,Name_function_global->lX,callWith_builtin->lZ,call_function_entry->mh
open PyProof.Rows.F renaming plain_set_update_loop->kL,entry_set_update_loop->mj
open PySem.Builtin.Dict renaming updateFrom->lI
open PySem.Manifest renaming sig_set_iterator->mq
namespace L2
open PySem PySem.Spec PyProof.Rows
abbrev Key:=Sum Int Str
def qb1:Key->aa->Bool
 |.inl k,v=>Value.isInt k v
 |.inr x,v=>Value.isStrOf x v
def qoS(w:aB):Key->Int
 |.inl k=>hashInt k
 |.inr x=>hashStr w x
theorem qz:∀{k:Key} {v:aa},qb1 k v=true->(∃i t,k=eJ i/\v=Value.int i t)\/(∃x t,k=dC x/\v=Value.str x t)
 |.inl i,v,h=>by obtain⟨t,e⟩:=i6 (k:=i) (v:=v) h;exact .inl ⟨i,t,rfl,e⟩
 |.inr x,v,h=>by obtain⟨t,e⟩:=Value.isStrOf_shape (x:=x) (v:=v) h;exact .inr ⟨x,t,rfl,e⟩
def qcI(i:Int)(t:Tok):qb1 (.inl i) (.int i t)=true:=by simp[qb1,Value.isInt]
def qcJ(x:Str)(t:Tok):qb1 (.inr x) (.str x t)=true:=by simp[qb1,Value.isStrOf]
def qjz(a b:Int):decide ((eJ a:Key)=eJ b)=(a == b):=by
 by_cases e:a=b
 ·subst e;simp
 ·have h:¬ (eJ a:Key)=eJ b:=λq=>e (Sum.inl.inj q);rw[decide_eq_false h];exact(beq_eq_false_iff_ne.mpr e).symm
def qjA(a b:Str):decide ((dC a:Key)=dC b)=decide (a=b):=by
 by_cases e:a=b
 ·subst e;simp
 ·have h:¬ (dC a:Key)=dC b:=λq=>e (Sum.inr.inj q);rw[decide_eq_false h,decide_eq_false e]
def qjB(a:Int)(b:Str):decide ((eJ a:Key)=dC b)=false:=decide_eq_false (λq=>nomatch q)
def qjC(a:Str)(b:Int):decide ((dC a:Key)=eJ b)=false:=decide_eq_false (λq=>nomatch q)
def qt(prog:aE)(w:aB):PySem.KeyKind prog w Key where
 is:=qb1
 hash:=qoS w
 inj:=λv a b ha hb=>by
  rcases qz ha with ⟨i,t,rfl,rfl⟩|⟨x,t,rfl,rfl⟩
  ·rcases qz hb with ⟨j,u,rfl,e⟩|⟨y,u,rfl,e⟩
   ·injection e with e1 _;rw[e1]
   ·exact nomatch e
  ·rcases qz hb with ⟨j,u,rfl,e⟩|⟨y,u,rfl,e⟩
   ·exact nomatch e
   ·injection e with e1 _;rw[e1]
 byValue:=λk v h=>by rcases qz h with ⟨i,t,rfl,rfl⟩|⟨x,t,rfl,rfl⟩<;>rfl
 pyHash:=λhv h=>by
  rcases qz hv with ⟨i,t,rfl,rfl⟩|⟨x,t,rfl,rfl⟩
  ·exact wpAny_pyHash_int h
  ·exact wpAny_pyHash_str h
 eqBool:=λhu hv h=>by
  rcases qz hu with ⟨i,t,rfl,rfl⟩|⟨x,t,rfl,rfl⟩
  ·rcases qz hv with ⟨j,u,rfl,rfl⟩|⟨y,u,rfl,rfl⟩
   ·rw[qjz]at h;exact k6 h
   ·rw[qjB]at h;exact SeqAt.EqAt.int_str i t y u _ _ _ _ h
  ·rcases qz hv with ⟨j,u,rfl,rfl⟩|⟨y,u,rfl,rfl⟩
   ·rw[qjC]at h;exact SeqAt.EqAt.str_int x t j u _ _ _ _ h
   ·rw[qjA]at h;exact wpAny_eqBool_str h
 «strs»:=λk x t v h=>by
  rcases qz h with ⟨i,u,rfl,e⟩|⟨y,u,rfl,e⟩
  ·exact nomatch e
  ·injection e with e1 _;subst e1;cases v<;>rfl
def qam(prog:aE)(w:aB)(i:Int)(t:Tok):(qt prog w).is (.inl i) (.int i t)=true:=qcI i t
def qan(prog:aE)(w:aB)(x:Str)(t:Tok):(qt prog w).is (.inr x) (.str x t)=true:=qcJ x t
inductive V where
 | non|bl (b:Bool)|int (i:Int)|str (x:Str)|byt (b:Array UInt8)|flt (b:UInt64)|ref (a:ad)|ty (n:String)
 deriving DecidableEq
def qK:V->aa->Prop
 |.non,u=>u=Value.none
 |.bl b,u=>u=gW b
 |.int i,u=>∃t,u=Value.int i t
 |.str x,u=>∃t,u=Value.str x t
 |.byt b,u=>∃t,u=Value.bytes b t
 |.flt b,u=>∃t,u=Value.float b t
 |.ref a,u=>u=bm a
 |.ty n,u=>u=dk n
abbrev qu:List V->List aa->Prop:=bb qK
def qu.length{xs:List V}{us:List aa}(r:qu xs us):xs.length=us.length:=Paired.length r
theorem qu.get:∀{xs:List V} {us:List aa} {i:Nat} {x:V},qu xs us->xs[i]?=some x->∃u,us[i]?=some u/\qK x u
 |_,_,_,_,.nil,e=>by simp at e
 |_,_,0,_,.cons r _,e=>by simp at e;subst e;exact{_,rfl,r}
 | _,_,i+1,x,.cons _ t,e=>by obtain⟨u,h1,h2⟩:=qu.get (i:=i) (x:=x) t (-e:);exact{u,(-h1:),h2}
theorem qu.set{x:V}{u:aa}(r:qK x u):∀{xs:List V} {us:List aa} (i:Nat),qu xs us->qu (xs.set i x) (us.set i u)
 |_,_,_,.nil=>.nil
 |_,_,0,.cons _ t=>.cons r t
 | _,_,i+1,.cons q t=>.cons q (qu.set r i t)
theorem qu.append{xs ys:List V}{us ws:List aa}(h:qu xs us)(s:qu ys ws):qu (xs++ys) (us++ws):=by
 induction h with
 |nil=>exact s
 |cons r t ih=>exact .cons r ih
theorem qu.take:∀{xs:List V} {us:List aa} (n:Nat),qu xs us->qu (xs.take n) (us.take n)
 |_,_,0,_=>.nil
 | _,_,_+1,.nil=>.nil
 | _,_,n+1,.cons r t=>.cons r (qu.take n t)
theorem qu.drop:∀{xs:List V} {us:List aa} (n:Nat),qu xs us->qu (xs.drop n) (us.drop n)
 |_,_,0,r=>r
 | _,_,_+1,.nil=>.nil
 | _,_,n+1,.cons _ t=>qu.drop n t
def qu.none_of:∀{xs:List V} {us:List aa} {i:Nat},qu xs us->xs[i]?=none->us[i]?=none:=λ{xs us i} r e=>by have h1:=r.length;have h2:xs.length<=i:=gX.mp e;exact gX.mpr (1:)
def qaZ:Option V->Option aa->Prop
 |some v,some u=>qK v u
 |none,none=>True
 |_,_=>False
def KV{U:Type}:List (U×V)->List (U×aa)->Prop:=bb λ(p:U×V) (q:U×aa)=>p.1=q.1/\qK p.2 q.2
def kV:Key->V
 |.inl i=>.int i
 |.inr x=>.str x
inductive HO where
 | lst (xs:List V)
 | tup (xs:List V)
 | dK (kvs:List (Key×V))|dT (kvs:List (List Key×V))
 | set (S:Int->Bool) (n:Nat)
 | ins (C dx:ad) (fs:List (Str×V))
 | own (x:ad)
 | xd (fs:List (Str×V))
 | met (f x:ad)
 | rng (lo hi:Int)
 | frz (o:Obj) (u:HO)
 | tbl (ps:Array aa)
 | ext (φ:au->Prop)
abbrev Hp:=ad->Option HO
def upd(H:Hp)(a:ad)(o:HO):Hp:=λb=>if b=a then some o else H b
def qf{H:Hp}{a:ad}{o:HO}:upd H a o a=some o:=by unfold upd;rw[if_pos rfl]
def qd{H:Hp}{a b:ad}{o:HO}(h:b≠a):upd H a o b=H b:=by unfold upd;rw[if_neg h]
def qV{H:Hp}{a b:ad}{o:HO}(h:H a=some o)(h':H b=none):a≠b:=by intro e;subst e;rw[h]at h';cases h'
section
variable(P:aE)(w:aB)
def qH(H:Hp)(h:au)(a:ad):HO->Prop
 |.lst xs=>xs.length<=sizeLine/\∃(its:List aa) (n:Nat),qu xs its/\h.get? a=some { cls:=.type "list",data:=.seq its.toArray n }
 |.tup xs=>xs.length<=sizeLine/\∃its:List aa,qu xs its/\IsTup h a its.toArray
 |.dK kvs=>kvs.length<=sizeLine/\(a == eD)=false/\∃vs,KV kvs vs/\h.DictOf (qt P w) a vs
 |.dT kvs=>kvs.length<=sizeLine/\(a == eD)=false/\∃xs:List (List Key×ad×aa),
   bb (λ(p:List Key×V) (q:List Key×ad×aa)=>p.1=q.1/\H q.2.1=some (.tup (p.1.map kV))/\qK p.2 q.2.2) kvs xs/\
   ∃o es ep,h.get? a=some o/\o.ExactDict/\o.data=.dict es ep/\es.toList=xs.map (entryOfKey (gE (qt P w)))/\(xs.map (·.1)).Nodup
 |.set S n=>h.SetOf (b8 P w) a S n
 |.ins C dx fs=>H dx=some (.own a)/\fs.length<=1000/\dx≠a/\h.get? a=some (eh C dx)/\
   ∃mA,h.Ns1 dx mA/\(∀f,qaZ (fs.lookup f) (mA f))/\i7 mA (fs.map (·.1))
 |.own _=>∃o,h.get? a=some o
 |.xd fs=>∃mA,h.Ns1 a mA/\∀f,qaZ (fs.lookup f) (mA f)
 |.rng lo hi=>∃t u v,h.get? a=some { cls:=.type "range",data:=.fields #[.int lo t,.int hi u,.int 1 v] }
 |.frz o u=>h.get? a=some o/\qH H h a u
 |.tbl ps=>h.get? a=some { cls:=.none,data:=.fields ps }
 |.met f x=>h.get? a=some (iH (.ref f) (.ref x))
 |.ext φ=>φ h/\(∃o,h.get? a=some o)/\∀h1 h2:au,φ h1->(∀o,h1.get? a=some o->h2.get? a=some o)->φ h2
def HOk(H:Hp)(h:au):Prop:=∀a o,H a=some o->qH P w H h a o
end
section
variable{P:aE}{w:aB}{H H':Hp}{h h':au}{a:ad}{o:HO}
theorem qH.lt(x:qH P w H h a o):a < h.objs.size:=by
 cases o with
 |lst xs=>obtain⟨_,_,_,_,e⟩:=x;exact aN e
 |tup xs=>obtain⟨_,_,_,p⟩:=x;exact p.lt
 |dK kvs=>obtain⟨_,_,_,_,o,_,_,e,_⟩:=x;exact aN e
 |dT kvs=>obtain⟨_,_,_,_,o,_,_,e,_⟩:=x;exact aN e
 |set S n=>obtain⟨o,_,_,_,e,_⟩:=x;exact aN e
 |ins C dx fs=>obtain⟨_,_,_,e,_⟩:=x;exact aN e
 |own y=>obtain⟨_,e⟩:=x;exact aN e
 |xd fs=>obtain⟨_,⟨_,_,_,e,_⟩,_⟩:=x;exact aN e
 |rng lo hi=>obtain⟨_,_,_,e⟩:=x;exact aN e
 |frz ob u=>obtain⟨e,_⟩:=x;exact aN e
 |tbl ps=>exact aN (show h.get? a=some _ from x)
 |met f y=>exact aN (show h.get? a=some _ from x)
 |ext φ=>obtain⟨_,⟨_,e⟩,_⟩:=x;exact aN e
theorem Paired.mapP{α M:Type}{F G:α->M->Prop}{l₁:List α}{l₂:List M}(h:bb F l₁ l₂)(f:∀a b,F a b->G a b):bb G l₁ l₂:=by
 induction h with
 |nil=>exact .nil
 |cons r t ih=>exact .cons (f _ _ r) ih
theorem qH.stay(x:qH P w H h a o)(k:∀b u,(b=a\/H b=some (.own a))->h.get? b=some u->h'.get? b=some u)
  (ho:∀b,H b=some (.own a)->H' b=some (.own a)) (ht:∀b xs,H b=some (.tup xs)->H' b=some (.tup xs)):qH P w H' h' a o:=by
 induction o with
 |lst xs=>obtain⟨z,its,n,r,e⟩:=x;exact{z,its,n,r,k _ _ (.inl rfl) e}
 |tup xs=>obtain⟨z,its,r,ob,e,c⟩:=x;exact{z,its,r,ob,k _ _ (.inl rfl) e,c}
 |dK kvs=>obtain⟨z,y,vs,r,ob,es,ep,e,c⟩:=x;exact{z,y,vs,r,ob,es,ep,k _ _ (.inl rfl) e,c}
 |dT kvs=>obtain⟨z,y,xs,r,ob,es,ep,e,c⟩:=x;exact{z,y,xs,Paired.mapP r λp q z=>{z.1,ht _ _ z.2.1,z.2.2},ob,es,ep,k _ _ (.inl rfl) e,c}
 |set S n=>obtain⟨ob,es,ep,t,e,c⟩:=x;exact{ob,es,ep,t,k _ _ (.inl rfl) e,c}
 |ins C dx fs=>obtain⟨d,z,ne,e,mA,⟨od,es,ep,e2,c⟩,r⟩:=x;exact{ho _ d,z,ne,k _ _ (.inl rfl) e,mA,{od,es,ep,k _ _ (.inr d) e2,c},r}
 |own y=>obtain⟨ob,e⟩:=x;exact{ob,k _ _ (.inl rfl) e}
 |xd fs=>obtain⟨mA,⟨od,es,ep,e,c⟩,r⟩:=x;exact{mA,{od,es,ep,k _ _ (.inl rfl) e,c},r}
 |rng lo hi=>obtain⟨t,u,v,e⟩:=x;exact{t,u,v,k _ _ (.inl rfl) e}
 |frz ob u ih=>obtain⟨e,q⟩:=x;exact{k _ _ (.inl rfl) e,ih q}
 |tbl ps=>have e:h.get? a=some { cls:=.none,data:=.fields ps }:=x;show h'.get? a=some { cls:=.none,data:=.fields ps };exact k a _ (.inl rfl) e
 |met f y=>have e:h.get? a=some (iH (.ref f) (.ref y)):=x;show h'.get? a=some (iH (.ref f) (.ref y));exact k a _ (.inl rfl) e
 |ext φ=>obtain⟨p,⟨o,e⟩,st⟩:=x;exact{st _ _ p λo q=>k _ _ (.inl rfl) q,{o,k _ _ (.inl rfl) e},st}
def HOk.lt(x:HOk P w H h)(e:H a=some o):a < h.objs.size:=(x a o e).lt
theorem HOk.fresh(x:HOk P w H h)(e:h.objs.size<=a):H a=none:=by
 cases q:H a with
 |none=>rfl
 |some u=>exact absurd (bn (x.lt q) e) (ej _)
def HOk.kept(x:HOk P w H h)(k:∀b u,h.get? b=some u->h'.get? b=some u):HOk P w H h':=λa o e=>(x a o e).stay (λb u _ q=>k b u q) (λ_ q=>q) λ_ _ q=>q
def HOk.laid(x:HOk P w H h)(k:∀b u,h.get? b=some u->h'.get? b=some u)(hp:h.objs.size<=a)(new:qH P w (upd H a o) h' a o):HOk P w (upd H a o) h':=λb u e=>by
 have hn:=x.fresh hp
 by_cases hb:b=a
 ·subst hb;rw[qf]at e;cases e;exact new
 ·rw[qd hb]at e;exact(x b u e).stay (λc v _ q=>k c v q) (λc q=>by rw[qd (qV q hn)];exact q) λc xs q=>by rw[qd (qV q hn)];exact q
end
def Rd(H:Hp)(a:ad)(u:HO):Prop:=H a=some u\/∃o,H a=some (.frz o u)
def Rd.ok{P:aE}{w:aB}{H:Hp}{h:au}{a:ad}{u:HO}(r:Rd H a u)(x:HOk P w H h):qH P w H h a u:=by
 rcases r with r|⟨o,r⟩
 ·exact x a u r
 ·obtain⟨_,q⟩:=x a _ r;exact q
def Mut:Option HO->Prop
 |some (.lst _)=>True
 |some (.dK _)=>True
 |some (.dT _)=>True
 |some (.set _ _)=>True
 |some (.ins _ _ _)=>True
 |some (.ext _)=>True
 |_=>False
section
variable{P:aE}{w:aB}{H:Hp}{h h':au}{x e:ad}{o':HO}
def HOk.write(ok:HOk P w H h)(mu:Mut (H x))(he:e=x\/H e=some (.own x))(k:∀b u,b≠e->h.get? b=some u->h'.get? b=some u)(heo:∃u,h'.get? e=some u)
  (new:qH P w (upd H x o') h' x o'):HOk P w (upd H x o') h':=λb u q=>by
 have nown:∀c y,H c=some (.own y)->c≠x:=λc y r z=>by subst z;rw[r]at mu;exact mu
 have ntup:∀c xs,H c=some (.tup xs)->c≠x:=λc xs r z=>by subst z;rw[r]at mu;exact mu
 by_cases hb:b=x
 ·subst hb;rw[qf]at q;cases q;exact new
 ·rw[qd hb]at q
  by_cases hbe:b=e
  ·have q':H b=some (.own x):=by
    rcases he with z|z
    ·exact absurd (hbe.trans z) hb
    ·rw[hbe];exact z
   rw[q]at q';cases q';obtain⟨v,hv⟩:=heo;exact{v,by rw[hbe];exact hv}
  ·refine(ok b u q).stay (λc v hc r=>k c v ?_ r) (λc r=>by rw[qd (nown c b r)];exact r) λc xs r=>by rw[qd (ntup c xs r)];exact r
   rcases hc with rfl|hc
   ·exact hbe
   ·rintro rfl;rcases he with z|z
    ·exact nown c b hc z
    ·rw[hc]at z;cases z;exact hb rfl
end
structure Un(fs ex:List ad)(H H':Hp)(h h':au):Prop where
 keep:∀b o,h.get? b=some o->H b=none->b∉fs->b∉ex->h'.get? b=some o
 slot:∀b o,h.get? b=some o->H b=none->b∈fs->b∉ex->∃sl,h'.get? b=some { o with slots:=sl }
 free:∀b o,h.get? b=some o->H b=none->b∉ex->H' b=none
 there:∀b o,h.get? b=some o->b∉ex->∃o',h'.get? b=some o'
 tups:∀b xs,H b=some (.tup xs)->H' b=some (.tup xs)
 frzs:∀b o u,H b=some (.frz o u)->H' b=some (.frz o u)
 tbls:∀b ps,H b=some (.tbl ps)->∃more,H' b=some (.tbl (ps++more))
section
variable{fs fs' ex ex':List ad}{H H1 H2:Hp}{h h1 h2 h':au}{a x e:ad}{o:HO}
def Un.any(u:Un fs ex H H1 h h1){b:ad}{ob:Obj}(q:h.get? b=some ob)(n:H b=none)(hx:b∉ex):∃sl,h1.get? b=some { ob with slots:=sl }:=by
 by_cases hb:b∈fs
 ·exact u.slot b ob q n hb hx
 ·exact{ob.slots,u.keep b ob q n hb hx}
def Un.kept(k:∀b u,h.get? b=some u->h'.get? b=some u):Un fs ex H H h h':=
 ⟨λb ob q _ _ _=>k b ob q,λb ob q _ _ _=>{ob.slots,k b ob q},λ_ _ _ n _=>n,λb ob q _=>{ob,k b ob q},λ_ _ q=>q,λ_ _ _ q=>q,λ_ ps q=>{#[],by rw[q];simp}⟩
def Un.refl:Un fs ex H H h h:=Un.kept λ_ _ q=>q
def Un.laid(k:∀b u,h.get? b=some u->h'.get? b=some u)(hp:h.objs.size<=a)(hn:H a=none):Un fs ex H (upd H a o) h h' where
 keep:=λb u q _ _ _=>k b u q
 slot:=λb u q _ _ _=>{u.slots,k b u q}
 free:=λb u q n _=>by rw[qd (aZ (bn (aN q) hp))];exact n
 there:=λb u q _=>{u,k b u q}
 tups:=λb xs q=>by rw[qd (qV q hn)];exact q
 frzs:=λb u xs q=>by rw[qd (qV q hn)];exact q
 tbls:=λb ps q=>{#[],by rw[qd (qV q hn),q];simp}
def Un.write(mu:Mut (H x))(he:e=x\/H e=some (.own x))(k:∀b u,b≠e->h.get? b=some u->h'.get? b=some u)(heo:∃u,h'.get? e=some u):Un fs ex H (upd H x o) h h':=by
 have hx:∀b,H b=none->b≠x:=λb n z=>by subst z;rw[n]at mu;exact mu
 have hb:∀b,H b=none->b≠e:=λb n z=>by
  subst z;rcases he with r|r
  ·exact hx b n r
  ·rw[n]at r;cases r
 have hm:∀b u,H b=some u->¬ Mut (some u)->b≠x:=λb u q nm z=>by subst z;rw[q]at mu;exact nm mu
 refine{λb u q n _ _=>k b u (hb b n) q,λb u q n _ _=>{u.slots,k b u (hb b n) q},λb u q n _=>by rw[qd (hx b n)];exact n,λb u q _=>?_,
  λb xs q=>by rw[qd (hm b _ q λz=>z)];exact q,λb u xs q=>by rw[qd (hm b _ q λz=>z)];exact q,λb ps q=>{#[],by rw[qd (hm b _ q λz=>z),q];simp}}
 by_cases hbe:b=e
 ·subst hbe;exact heo
 ·exact{u,k b u hbe q}
end
def trk(h:au)(H:Hp):List ad:=(cw h.objs.size).filter λa=>(H a).isSome
def qeX(h:au)(H:Hp):au:=PySem.W.hideAll h (trk h H)
def qcK(h:au)(H:Hp):(qeX h H).objs.size=h.objs.size:=PySem.W.hideAll_size _ _
def qeY{h:au}{H:Hp}{b:ad}{o:Obj}(e:h.get? b=some o)(n:H b=none):(qeX h H).get? b=some o:=
 PySem.W.hideAll_get _ e λhm=>by have q:(H b).isSome=true:=(fe.mp hm).2;rw[n]at q;simp at q
theorem qhv{h:au}{H:Hp}{b:ad}{o:Obj}(e:(qeX h H).get? b=some o):h.get? b=some o/\H b=none:=by
 have e':h.get? b=some o:=PySem.W.of_hideAll (trk h H) e;refine{e',?_}
 cases q:H b with
 |none=>rfl
 |some x=>have hm:b∈trk h H:=fe.mpr ⟨List.mem_range.mpr (aN e'),by simp[q]⟩;have z:(qeX h H).get? b=none:=PySem.W.hideAll_none (trk h H) hm;rw[z]at e;cases e
structure Mod(K:Frag)(mg:PR)(base:au):Prop where
 kin:K.In base
 glob:base.Ns aV mg
 blt:∃mb,base.Ns builtinsNs mb/\∀x:Str,x≠"__name__"->mb x=fK x
 nolimit:base.NoLimit
structure Cx where
 prog:aE
 w:aB
 K:Frag
 mg:PR
 base:au
 A:aH
 N:List Str
 s₀:ag
 Hv:Hp
 env:Env
 outer:List Env
 stack:List Env
 ex:List ad
 fn:Str->Bool
 calm:Bool
 pn:PP
 xe:PQ
def frs(l:List Env):List ad:=l.filterMap (·.frame)
abbrev Cx.fs(X:Cx):List ad:=frs X.outer
def Vis(sc:bi)(x:Str):Prop:=sc.names.lookup x=some .local\/sc.names.lookup x=some .cell\/sc.names.lookup x=some .free
def Loc(sc:bi)(x:Str):Prop:=sc.names.lookup x=some .local\/sc.names.lookup x=some .cell
def qoT(env:Env)(h:au)(m:PR)(x:Str)(u:aa):Prop:=
 (env.kindOf x=some .local/\m x=some u)\/((env.kindOf x=some .cell\/env.kindOf x=some .free)/\∃c,env.cells.lookup x=some c/\h.IsCell c (some u))
structure Cx.Ok(X:Cx):Prop where
 mod:Mod X.K X.mg X.base
 kind:X.env.scope.kind=.function
 glob:X.env.globals=aV
 blt:X.env.builtins=builtinsNs
 above:X.s₀.heap.objs.size<=X.env.locals
 inj:∀x y c,X.env.cells.lookup x=some c->X.env.cells.lookup y=some c->x=y
 has:∀x,(X.env.kindOf x=some .cell\/X.env.kindOf x=some .free)->∃c,X.env.cells.lookup x=some c
 cab:∀x c,X.fn x=true->X.env.cells.lookup x=some c->X.s₀.heap.objs.size<=c
 hd:X.calm=true->X.A.handled=none
 frames:X.A.frames=some X.stack
 stk:X.stack=X.outer\/(X.stack=X.env::X.outer/\X.env.frame=some X.env.locals)
 exf:∀b∈X.ex,b≠X.env.locals/\∀x c,X.env.cells.lookup x=some c->c≠b
 bs:∀b o,X.base.get? b=some o->X.s₀.heap.get? b=some o/\X.Hv b=none
 bsz:X.base.objs.size<=X.s₀.heap.objs.size
 noex:∀b o,X.base.get? b=some o->b∉X.ex
 exfs:∀b∈X.ex,b∉X.fs
 funs:X.s₀.heap.FunFrames X.base X.outer
 frf:∀b∈X.fs,X.Hv b=none
structure Inv(X:Cx)(pins:PP)(Z:List (Option V))(H:Hp)(s:ag):Prop where
 ok:X.Ok
 os:s.os=X.s₀.os
 bare:dX s.gens
 base:Un X.fs X.ex X.Hv H X.s₀.heap s.heap
 loc:∃m,s.heap.Ns X.env.locals m/\∀(i:Nat) (x:Str) (v:V),X.N[i]?=some x->Z[i]?=some (some v)->Vis X.env.scope x->∃u,qK v u/\qoT X.env s.heap m x u
 cell:∀x c,X.env.cells.lookup x=some c->∃v,s.heap.IsCell c v
 free:H X.env.locals=none
 freeC:∀x c,X.env.cells.lookup x=some c->H c=none
 pin:∀p∈X.pn++pins,s.heap.get? p.1=some p.2/\H p.1=none/\p.1≠X.env.locals/\p.1∉X.fs/\∀v,p.2.data≠.cell v
 hok:HOk X.prog X.w H s.heap
 len:Z.length=X.N.length
section
variable{X:Cx}{pins:PP}{Z:List (Option V)}{H H':Hp}{s:ag}{h':au}
def Cx.Ok.nofr(ok:X.Ok){b:ad}{o:Obj}(e:X.base.get? b=some o):b∉X.fs:=λhb=>by
 have:=(ok.funs.mem hb).1
 rw[e]at this;cases this
def Inv.bs(I:Inv X pins Z H s):∀b o,X.base.get? b=some o->s.heap.get? b=some o/\H b=none:=λb o e=>{I.base.keep b o (I.ok.bs b o e).1 (I.ok.bs b o e).2 (I.ok.nofr e) (I.ok.noex b o e),I.base.free b o (I.ok.bs b o e).1 (I.ok.bs b o e).2 (I.ok.noex b o e)}
def Inv.bk(I:Inv X pins Z H s):∀b o,X.base.get? b=some o->s.heap.get? b=some o:=λb o e=>(I.bs b o e).1
def Inv.mod(I:Inv X pins Z H s):Mod X.K X.mg X.base:=I.ok.mod
def Inv.kIn(I:Inv X pins Z H s):X.K.In s.heap:=I.ok.mod.kin.keeps I.bk
def Inv.lt(I:Inv X pins Z H s):X.env.locals < s.heap.objs.size:=let ⟨_,hn,_⟩:=I.loc;hn.lt
def Inv.sz(I:Inv X pins Z H s):X.s₀.heap.objs.size<=s.heap.objs.size:=bz I.ok.above (Nat.le_of_lt I.lt)
def Inv.nofs(I:Inv X pins Z H s){a:ad}(h:s.heap.objs.size<=a):a∉X.fs:=λhb=>by obtain⟨_,o,ho,_⟩:=I.ok.funs.mem hb;exact absurd (bn (aN ho) (bz I.sz h)) (ej _)
def Inv.cne(I:Inv X pins Z H s):∀x c,X.env.cells.lookup x=some c->c≠X.env.locals:=λx c e z=>by obtain⟨v,o,ho,hd⟩:=I.cell x c e;obtain⟨m,⟨o',es,ep,ho',hd',_⟩,_⟩:=I.loc;rw[z,ho']at ho;cases ho;rw[hd']at hd;cases hd
def Inv.funs(I:Inv X pins Z H s):s.heap.FunFrames X.base X.outer:=by
 have all:∀(l:List Env),(∀b∈frs l,b∈X.fs)->X.s₀.heap.FunFrames X.base l->s.heap.FunFrames X.base l:=by
  intro l
  induction l with
  |nil=>intro _ _;trivial
  |cons env r ih=>intro hs hl;obtain⟨hk,⟨L,o,hf,hn,ho,hd⟩,hr⟩:=hl;have hL:L∈X.fs:=hs L (by unfold frs;rw[cx,hf];exact b5);obtain⟨sl,e⟩:=I.base.slot L o ho (I.ok.frf L hL) hL λz=>I.ok.exfs L z hL;exact{hk,{L,_,hf,hn,e,hd},ih (λb hb=>hs b (by unfold frs;rw[cx,hf];exact bI _ hb)) hr}
 exact all X.outer (λ_ hb=>hb) I.ok.funs
def Inv.stack(I:Inv X pins Z H s):s.heap.FunFrames X.base X.stack:=by
 rcases I.ok.stk with e|⟨e,hf⟩
 ·rw[e];exact I.funs
 ·rw[e];obtain⟨m,hn,_⟩:=I.loc;refine .cons (by rw[I.ok.kind];decide) hf hn ?_ I.funs;exact i8 (bz I.ok.bsz I.ok.above)
def Inv.stkSub(I:Inv X pins Z H s):∀b∈frs X.stack,b∈X.env.locals::X.fs:=λb hb=>by
 rcases I.ok.stk with e|⟨e,hf⟩
 ·rw[e]at hb;exact bI _ hb
 ·rw[e]at hb;unfold frs at hb;rw[cx,hf]at hb;exact hb
def Inv.stkFree(I:Inv X pins Z H s):∀b∈frs X.stack,H b=none:=λb hb=>by
 rcases aF.mp (I.stkSub b hb) with e|hb
 ·rw[e];exact I.free
 ·obtain⟨_,o,ho,_⟩:=I.ok.funs.mem hb;exact I.base.free b o ho (I.ok.frf b hb) λz=>I.ok.exfs b z hb
def Inv.step{g':Array fL}{t':Nat}{d':Drawn}{ch:List ad}(I:Inv X pins Z H s)
  (hch:∀b∈ch,(b∈X.ex\/X.s₀.heap.objs.size<=b)/\b≠X.env.locals/\(∀x c,X.env.cells.lookup x=some c->c≠b)/\∀p∈X.pn++pins,p.1≠b)
  (keep:∀b o,b≠X.env.locals->b∉X.fs->b∉ch->s.heap.get? b=some o->H b=none->h'.get? b=some o)
  (slot:∀b o,b≠X.env.locals->b∈X.fs->b∉ch->s.heap.get? b=some o->H b=none->∃sl,h'.get? b=some { o with slots:=sl }) (free:∀b o,b∉ch->s.heap.get? b=some o->H b=none->H' b=none)
  (there:∀b o,b∉ch->s.heap.get? b=some o->∃o',h'.get? b=some o')
  (tups:∀b xs,H b=some (.tup xs)->H' b=some (.tup xs)) (frzs:∀b o u,H b=some (.frz o u)->H' b=some (.frz o u)) (tbls:∀b ps,H b=some (.tbl ps)->∃more,H' b=some (.tbl (ps++more)))
  (ns:∀m,s.heap.Ns X.env.locals m->h'.Ns X.env.locals m) (hok:HOk X.prog X.w H' h') (hg:dX g') :
  Inv X pins Z H' { s with heap:=h',gens:=g',drawn:=d',toks:=t' }:=by
 have neL:∀b o,X.s₀.heap.get? b=some o->b≠X.env.locals:=λb o e=>aZ (bn (aN e) I.ok.above)
 have neC:∀b o,X.s₀.heap.get? b=some o->b∉X.ex->b∉ch:=λb o e hx hb=>by
  rcases (hch b hb).1 with z|z
  ·exact hx z
  ·exact absurd (bn (aN e) z) (ej _)
 have cellK:∀x c,X.env.cells.lookup x=some c->∀v,s.heap.IsCell c v->h'.IsCell c v:=λx c e v ⟨o,ho,hd⟩=>by
  have nch:c∉ch:=λz=>(hch c z).2.2.1 x c e rfl
  by_cases hc:c∈X.fs
  ·obtain⟨sl,q⟩:=slot c o (I.cne x c e) hc nch ho (I.freeC x c e);exact{_,q,hd}
  ·exact{o,keep c o (I.cne x c e) hc nch ho (I.freeC x c e),hd}
 refine{I.ok,I.os,hg,{λb o e n hb hx=>?_,λb o e n hb hx=>?_,λb o e n hx=>?_,λb o e hx=>?_,λb xs e=>tups b xs (I.base.tups b xs e),λb o xs e=>frzs b o xs (I.base.frzs b o xs e),λb ps e=>?_},?_,λx c e=>?_,?_,λx c e=>?_,λp hp=>?_,hok,I.len}
 ·exact keep b o (neL b o e) hb (neC b o e hx) (I.base.keep b o e n hb hx) (I.base.free b o e n hx)
 ·obtain⟨sl,e1⟩:=I.base.slot b o e n hb hx;obtain⟨sl',e2⟩:=slot b _ (neL b o e) hb (neC b o e hx) e1 (I.base.free b o e n hx);exact⟨sl',e2⟩
 ·obtain⟨o',e1⟩:=I.base.there b o e hx;exact free b o' (neC b o e hx) e1 (I.base.free b o e n hx)
 ·obtain⟨o',e1⟩:=I.base.there b o e hx;exact there b o' (neC b o e hx) e1
 ·obtain⟨m1,e1⟩:=I.base.tbls b ps e;obtain⟨m2,e2⟩:=tbls b _ e1;exact{m1++m2,by rw[e2,Array.append_assoc]}
 ·obtain⟨m,hn,hl⟩:=I.loc;refine{m,ns m hn,λi x v e1 e2 e3=>?_};obtain⟨u,r,l⟩:=hl i x v e1 e2 e3;refine{u,r,?_};rcases l with l|⟨k,c,e,z⟩
  ·exact .inl l
  ·exact .inr ⟨k,c,e,cellK x c e _ z⟩
 ·obtain⟨v,z⟩:=I.cell x c e;exact{v,cellK x c e v z}
 ·obtain⟨m,⟨o,_,_,ho,_⟩,_⟩:=I.loc;exact free _ o (λz=>(hch _ z).2.1 rfl) ho I.free
 ·obtain⟨v,o,ho,hd⟩:=I.cell x c e;exact free c o (λz=>(hch c z).2.2.1 x c e rfl) ho (I.freeC x c e)
 ·obtain⟨e,n,ne,nf,d⟩:=I.pin p hp;have nch:p.1∉ch:=λz=>(hch p.1 z).2.2.2 p hp rfl;exact{keep p.1 p.2 ne nf nch e n,free p.1 p.2 nch e n,ne,nf,d}
def Inv.un{t':Nat}(I:Inv X pins Z H s)(u:Un X.fs [] H H' s.heap h')(hok:HOk X.prog X.w H' h'):Inv X pins Z H' { s with heap:=h',toks:=t' }:=by
 obtain⟨m,⟨o,es,ep,ho,r⟩,_⟩:=id I.loc;obtain⟨sl,hL⟩:=u.any ho I.free (5:)
 exact I.step (g':=s.gens) (d':=s.drawn) (ch:=[]) (λ_ z=>nomatch z) (λb o _ hb _ e n=>u.keep b o e n hb (5:)) (λb o _ hb _ e n=>u.slot b o e n hb (5:)) (λb o _ e n=>u.free b o e n (5:)) (λb o _ e=>u.there b o e (5:)) u.tups u.frzs u.tbls (λm' hm=>by obtain⟨o',es',ep',ho',r'⟩:=hm;rw[ho]at ho';cases ho';exact{_,es',ep',hL,r'}) hok I.bare
def Inv.call{g':Array fL}{t':Nat}{d':Drawn}{ch:List ad}(I:Inv X pins Z H s)(u:Un (frs X.stack) ch H H' s.heap h')(hok:HOk X.prog X.w H' h')(hg:dX g')
  (hch:∀b∈ch,(b∈X.ex\/X.s₀.heap.objs.size<=b)/\b≠X.env.locals/\(∀x c,X.env.cells.lookup x=some c->c≠b)/\∀p∈X.pn++pins,p.1≠b) :
  Inv X pins Z H' { s with heap:=h',gens:=g',drawn:=d',toks:=t' }:=by
 obtain⟨m,⟨o,es,ep,ho,r⟩,_⟩:=id I.loc;obtain⟨sl,hL⟩:=u.any ho I.free λz=>(hch _ z).2.1 rfl
 exact I.step (ch:=ch) hch (λb o hL hb hc e n=>u.keep b o e n (λz=>(aF.mp (I.stkSub b z)).elim hL hb) hc) (λb o _ _ hc e n=>u.any e n hc) (λb o hc e n=>u.free b o e n hc) (λb o hc e=>u.there b o e hc) u.tups u.frzs u.tbls (λm' hm=>by obtain⟨o',es',ep',ho',r'⟩:=hm;rw[ho]at ho';cases ho';exact{_,es',ep',hL,r'}) hok hg
def Inv.turned{t':Nat}{it:ad}(I:Inv X pins Z H s)(k:∀b o,b≠it->s.heap.get? b=some o->h'.get? b=some o)(hn:H it=none)(hL:it≠X.env.locals)
  (h1:it∈X.ex\/X.s₀.heap.objs.size<=it) (h2:∀x c,X.env.cells.lookup x=some c->c≠it) (h3:∀p∈X.pn++pins,p.1≠it):Inv X pins Z H { s with heap:=h',toks:=t' }:=by
 have nit:∀b u,H b=some u->b≠it:=λb u e z=>by rw[z,hn]at e;cases e
 refine I.step (g':=s.gens) (d':=s.drawn) (ch:=[it]) (λb hb=>?_) (λb o _ _ hc e _=>k b o (λz=>hc (by simp[z])) e) (λb o _ _ hc e _=>{o.slots,k b o (λz=>hc (by simp[z])) e}) (λ_ _ _ _ n=>n)
  (λb o hc e=>{o,k b o (λz=>hc (by simp[z])) e}) (λ_ _ e=>e) (λ_ _ _ e=>e) (λb ps e=>{#[],by rw[e];simp}) (λm hm=>?_) (λb u e=>?_) I.bare
 ·have e:b=it:=(-hb:)
  subst e;exact⟨h1,hL,h2,h3⟩
 ·obtain⟨o,es,ep,ho,r⟩:=hm;exact{o,es,ep,k _ o (cj hL) ho,r}
 ·refine(I.hok b u e).stay (λc v hc q=>k c v ?_ q) (λ_ q=>q) λ_ _ q=>q;rcases hc with z|z
  ·rw[z];exact nit b u e
  ·exact nit c _ z
def Inv.tok(I:Inv X pins Z H s)(t:Nat):Inv X pins Z H { s with toks:=t }:=I.un (h':=s.heap) (t':=t) Un.refl I.hok
def Inv.kept{t':Nat}(I:Inv X pins Z H s)(k:∀b u,s.heap.get? b=some u->h'.get? b=some u):Inv X pins Z H { s with heap:=h',toks:=t' }:=I.un (Un.kept k) (I.hok.kept k)
def Inv.laid{a:ad}{o:HO}{t':Nat}(I:Inv X pins Z H s)(k:∀b u,s.heap.get? b=some u->h'.get? b=some u)(hp:s.heap.objs.size<=a)(new:qH X.prog X.w (upd H a o) h' a o) :
  Inv X pins Z (upd H a o) { s with heap:=h',toks:=t' }:=I.un (Un.laid k hp (I.hok.fresh hp)) (I.hok.laid k hp new)
def Inv.write{x e:ad}{o:HO}{t':Nat}(I:Inv X pins Z H s)(mu:Mut (H x))(he:e=x\/H e=some (.own x))(k:∀b u,b≠e->s.heap.get? b=some u->h'.get? b=some u)(heo:∃u,h'.get? e=some u)
  (new:qH X.prog X.w (upd H x o) h' x o):Inv X pins Z (upd H x o) { s with heap:=h',toks:=t' }:=I.un (Un.write mu he k heo) (I.hok.write mu he k heo new)
def Inv.pins_of{pins':PP}(I:Inv X pins Z H s)(h:∀p∈pins',s.heap.get? p.1=some p.2/\H p.1=none/\p.1≠X.env.locals/\p.1∉X.fs/\∀v,p.2.data≠.cell v):Inv X pins' Z H s:=
 ⟨I.ok,I.os,I.bare,I.base,I.loc,I.cell,I.free,I.freeC,λp hp=>(aW.mp hp).elim (λz=>I.pin p (bC _ z)) (h p),I.hok,I.len⟩
def qa0{N:List Str}(hN:N.Nodup){i j:Nat}{x:Str}(a:N[i]?=some x)(b:N[j]?=some x):i=j:=by obtain⟨h1,e1⟩:=bJ.mp a;obtain⟨h2,e2⟩:=bJ.mp b;exact(List.getElem_inj hN).mp (e1.trans e2.symm)
def Q3{M:cH}{A:aH}{E:PQ}{i:Nat}{x:Str}{v:V}{u:aa}{Q:Unit->ag->Prop}(I:Inv X pins Z H s)(hN:X.N.Nodup)(hi:X.N[i]?=some x)(hx:Loc X.env.scope x)(r:qK v u)
  (h:∀s',Inv X pins (Z.set i (some v)) H s'->(∃a,dP a s.heap s'.heap/\(a=X.env.locals\/X.env.cells.lookup x=some a))->Q () s') (hf:X.fn x=true\/X.env.scope.names.lookup x=some .local:=by first|exact .inl rfl|exact .inr rfl|assumption):ak M A (storeName X.env x u) Q E s:=by
 obtain⟨m,hn,hl⟩:=id I.loc;have hcls:(X.env.scope.kind == .class||(X.env.scope.kind == .module&&X.env.locals != X.env.globals))=false:=by rw[I.ok.kind];rfl
 have hiσ:i < Z.length:=by rw[I.len];exact(bJ.mp hi).1
 have cne:=I.cne
 have tracked:∀{a:ad} {h':au},(∃o,s.heap.get? a=some o/\H a=none)->dP a s.heap h'->HOk X.prog X.w H h':=λ{a h'} ha hs b ob e=>by
  obtain⟨_,_,hfree⟩:=ha;refine(I.hok b ob e).stay (λc w' hc q=>(hs.2 c ?_).trans q) (λ_ q=>q) λ_ _ q=>q;rintro rfl;rcases hc with rfl|hc
  ·rw[hfree]at e;cases e
  ·rw[hfree]at hc;cases hc
 rcases hx with hk|hk
 ·refine wpAny_storeName_local hk hn (λh' hn' hs=>?_) hcls;obtain⟨oL,_,_,hoL,_⟩:=id hn;refine h _ ⟨I.ok,I.os,I.bare,⟨λb o e n hb hx=>?_,λb o e n hb hx=>?_,I.base.free,λb o e hx=>?_,I.base.tups,I.base.frzs,I.base.tbls⟩,⟨_,hn',λj y v' e1 e2 e3=>?_⟩,λy c e=>?_,I.free,I.freeC,λp hp=>?_,tracked ⟨oL,hoL,I.free⟩ hs,(-I.len:)⟩ ⟨_,hs,.inl rfl⟩
  ·exact(hs.2 b (aZ (bn (aN e) I.ok.above))).trans (I.base.keep b o e n hb hx)
  ·obtain⟨sl,e1⟩:=I.base.slot b o e n hb hx;exact{sl,(hs.2 b (aZ (bn (aN e) I.ok.above))).trans e1}
  ·obtain⟨o',e1⟩:=I.base.there b o e hx;exact{o',(hs.2 b (aZ (bn (aN e) I.ok.above))).trans e1}
  ·by_cases hj:j=i
   ·subst hj;rw[hi]at e1;cases e1;rw[cy hiσ]at e2;cases e2;exact{u,r,.inl {hk,by simp}}
   ·rw[bU (cj hj)]at e2;obtain⟨u',r',q⟩:=hl j y v' e1 e2 e3;refine{u',r',?_};rcases q with ⟨k,e⟩|⟨k,c,e,z⟩
    ·refine .inl ⟨k,?_⟩
     have:y≠x:=λe=>hj (qa0 hN e1 (e▸hi))
     simp[this,e]
    ·exact .inr ⟨k,c,e,z.sameBut hs (cne y c e)⟩
  ·obtain⟨w',z⟩:=I.cell y c e;exact{w',z.sameBut hs (cne y c e)}
  ·obtain⟨e,n,ne,nf,d⟩:=I.pin p hp;exact{(hs.2 p.1 ne).trans e,n,ne,nf,d}
 ·have hfn:X.fn x=true:=by
   rcases hf with z|z
   ·exact z
   ·rw[z]at hk;cases hk
  obtain⟨c,hc⟩:=I.ok.has x (.inl hk);obtain⟨w',z⟩:=I.cell x c hc;refine wpAny_storeName_cell I.ok.kind hk hc z (λh' hc' hs=>?_);obtain⟨oc,hoc,hocd⟩:=id z;refine h { s with heap:=h' } ⟨I.ok,I.os,I.bare,⟨λb o e n hb hx=>?_,λb o e n hb hx=>?_,I.base.free,λb o e hx=>?_,I.base.tups,I.base.frzs,I.base.tbls⟩,⟨m,hn.sameBut hs (cj (cne x c hc)),λj y v' e1 e2 e3=>?_⟩,λy c' e=>?_,I.free,I.freeC,λp hp=>?_,tracked ⟨oc,hoc,I.freeC x c hc⟩ hs,(-I.len:)⟩ ⟨c,hs,.inr hc⟩
  ·exact(hs.2 b (aZ (bn (aN e) (I.ok.cab x c hfn hc)))).trans (I.base.keep b o e n hb hx)
  ·obtain⟨sl,e1⟩:=I.base.slot b o e n hb hx;exact{sl,(hs.2 b (aZ (bn (aN e) (I.ok.cab x c hfn hc)))).trans e1}
  ·obtain⟨o',e1⟩:=I.base.there b o e hx;exact{o',(hs.2 b (aZ (bn (aN e) (I.ok.cab x c hfn hc)))).trans e1}
  ·by_cases hj:j=i
   ·subst hj;rw[hi]at e1;cases e1;rw[cy hiσ]at e2;cases e2;exact{u,r,.inr {.inl hk,c,hc,hc'}}
   ·rw[bU (cj hj)]at e2;obtain⟨u',r',q⟩:=hl j y v' e1 e2 e3;refine{u',r',?_};rcases q with q|⟨k,c',e,z'⟩
    ·exact .inl q
    ·refine .inr ⟨k,c',e,z'.sameBut hs ?_⟩;rintro rfl;exact hj (qa0 hN e1 (I.ok.inj _ _ _ e hc▸hi))
  ·by_cases hcc:c'=c
   ·subst hcc;exact{_,hc'}
   ·obtain⟨w2,z2⟩:=I.cell y c' e;exact{w2,z2.sameBut hs hcc}
  ·obtain⟨e,n,ne,nf,d⟩:=I.pin p hp;refine{(hs.2 p.1 ?_).trans e,n,ne,nf,d};intro q;rw[q,hoc]at e;have q':oc=p.2:=Option.some.inj e;exact d w' (by rw[<-q'];exact hocd)
def qa1{M:cH}{A:aH}{E:PQ}{i:Nat}{x:Str}{v:V}{u:aa}{Q:Unit->ag->Prop}(I:Inv X pins Z H s)(hN:X.N.Nodup)(hi:X.N[i]?=some x)(hx:Loc X.env.scope x)(r:qK v u)
  (h:∀s',Inv X pins (Z.set i (some v)) H s'->Q () s') (hf:X.fn x=true\/X.env.scope.names.lookup x=some .local:=by first|exact .inl rfl|exact .inr rfl|assumption):ak M A (storeName X.env x u) Q E s:=
 Q3 I hN hi hx r (λs' I' _=>h s' I') hf
def Inv.call'{s':ag}{ch:List ad}(I:Inv X pins Z H s)(ho:s'.os=s.os)(u:Un (frs X.stack) ch H H' s.heap s'.heap)(hok:HOk X.prog X.w H' s'.heap)(hg:dX s'.gens)
  (hch:∀b∈ch,(b∈X.ex\/X.s₀.heap.objs.size<=b)/\b≠X.env.locals/\(∀x c,X.env.cells.lookup x=some c->c≠b)/\∀p∈X.pn++pins,p.1≠b):Inv X pins Z H' s':=by
 obtain⟨h',g',d',t',o'⟩:=s';have e:o'=s.os:=ho;subst e;exact I.call (g':=g') (t':=t') (d':=d') u hok hg hch
end
abbrev XK:=aa->Option ad->Hp->Prop
abbrev St:=List (Option V)
abbrev VK:=V->Hp->Prop
abbrev TE:=St->Hp->VK->Prop
abbrev TT:=St->Hp->(Bool->Hp->Prop)->Prop
abbrev TA:=St->Hp->(List V->Hp->Prop)->Prop
structure Ends where
 nx:St->Hp->Prop
 rt:VK
 bk:St->Hp->Prop:=λ_ _=>False
 ct:St->Hp->Prop:=λ_ _=>False
abbrev TS:=Ends->St->Hp->Prop
def EP(X:Cx)(pins:PP)(Z:St)(Q:VK)(u:aa)(s':ag):Prop:=∃v H',Inv X pins Z H' s'/\qK v u/\Q v H'
def TP(X:Cx)(pins:PP)(Z:St)(Q:Bool->Hp->Prop)(b:Bool)(s':ag):Prop:=∃H',Inv X pins Z H' s'/\Q b H'
def AP(X:Cx)(pins:PP)(Z:St)(Q:List V->Hp->Prop)(us:List aa)(s':ag):Prop:=∃vs H',Inv X pins Z H' s'/\qu vs us/\Q vs H'
def SP(X:Cx)(pins:PP)(D:Ends)(f:Flow)(s':ag):Prop:=
 match f with
 |.next=>∃Z' H',Inv X pins Z' H' s'/\D.nx Z' H'
 |.brk=>∃Z' H',Inv X pins Z' H' s'/\D.bk Z' H'
 |.cont=>∃Z' H',Inv X pins Z' H' s'/\D.ct Z' H'
 |.ret u=>∃v Z' H',Inv X pins Z' H' s'/\qK v u/\D.rt v H'
def PE(X:Cx)(e:ae)(t:TE):Prop:=
 ∀(pins:PP) (s:ag) (Z:St) (H:Hp) (Q:VK),Inv X pins Z H s->t Z H Q->ak (al X.prog X.w) X.A (eval e X.env) (EP X pins Z Q) X.xe s
def PT(X:Cx)(e:ae)(t:TT):Prop:=
 ∀(pins:PP) (s:ag) (Z:St) (H:Hp) (Q:Bool->Hp->Prop),Inv X pins Z H s->t Z H Q->ak (al X.prog X.w) X.A (isTrue e X.env (eval e X.env)) (TP X pins Z Q) X.xe s
def PW(X:Cx)(e:ae)(t:TT):Prop:=
 ∀(whole:Sem aa) (pins:PP) (s:ag) (Z:St) (H:Hp) (Q:Bool->Hp->Prop),Inv X pins Z H s->t Z H Q->ak (al X.prog X.w) X.A (isTrue e X.env whole) (TP X pins Z Q) X.xe s
def PW.pt{X:Cx}{e:ae}{t:TT}(h:PW X e t):PT X e t:=h _
def PA(X:Cx)(es:List ae)(t:TA):Prop:=
 ∀(pos:Pos) (pins:PP) (s:ag) (Z:St) (H:Hp) (Q:List V->Hp->Prop),Inv X pins Z H s->t Z H Q->ak (al X.prog X.w) X.A (spliced (bu pos (aI es X.env))) (AP X pins Z Q) X.xe s
def PS(X:Cx)(st:aC)(t:TS):Prop:=
 ∀(pins:PP) (s:ag) (Z:St) (H:Hp) (D:Ends),Inv X pins Z H s->t D Z H->ak (al X.prog X.w) X.A (exec st X.env) (SP X pins D) X.xe s
def PSs(X:Cx)(st:List aC)(t:TS):Prop:=
 ∀(pins:PP) (s:ag) (Z:St) (H:Hp) (D:Ends),Inv X pins Z H s->t D Z H->ak (al X.prog X.w) X.A (execs st X.env) (SP X pins D) X.xe s
def thn{α:Type}{t:Sem α}{Q Q':α->ag->Prop}{M:cH}{A:aH}{E:PQ}{s:ag}(h:ak M A t Q E s)(hQ:∀a s,Q a s->Q' a s):ak M A t Q' E s:=dY h hQ λ_ _ x=>x
section
variable{X:Cx}
def bin{a b:ae}{ta tb:TE}(ha:PE X a ta)(hb:PE X b tb){pins:PP}{s:ag}{Z:St}{H:Hp}{R:V->V->Hp->Prop}(I:Inv X pins Z H s)(h:ta Z H λx H1=>tb Z H1 λy H2=>R x y H2)
  {α:Type} {Q:α->ag->Prop} {f:aa->aa->Sem α}
  (hf:∀v u s2 x y H2,Inv X pins Z H2 s2->qK x v->qK y u->R x y H2->ak (al X.prog X.w) X.A (f v u) Q X.xe s2) :
  ak (al X.prog X.w) X.A (eval a X.env) (λv s₁=>ak (al X.prog X.w) X.A (eval b X.env) (λu s₂=>ak (al X.prog X.w) X.A (f v u) Q X.xe s₂) X.xe s₁) X.xe s:=by
 refine thn (ha pins s Z H _ I h) λv s1 hq1=>?_;obtain⟨x,H1,I1,r1,q1⟩:=hq1;refine thn (hb pins s1 Z H1 _ I1 q1) λu s2 hq1=>?_;obtain⟨y,H2,I2,r2,q2⟩:=hq1;exact hf v u s2 x y H2 I2 r1 r2 q2
def qmV(i:Nat):TE:=λZ H Q=>∃v,Z[i]?=some (some v)/\Q v H
def tC(v:V):TE:=λ_ H Q=>Q v H
def qcL{i:Nat}{x:Str}{pos:Pos}(hN:X.N[i]?=some x)(hv:Vis X.env.scope x)(hd:(x == ("__debug__" : Str))=false:=by decide)(hcd:(x == ("__classdict__" : Str))=false:=by decide):PE X (.Name x pos) (qmV i):=by
 intro pins s Z H Q I h;obtain⟨v,e,h⟩:=h;obtain⟨m,hn,hl⟩:=I.loc;obtain⟨u,r,l⟩:=hl i x v hN e hv;have fin:EP X pins Z Q u s:=⟨v,H,I,r,h⟩;rcases l with ⟨hk,hm⟩|⟨hk,c,hc,hcell⟩
 ·exact wpAny_Name (wpAny_loadName_local I.ok.kind hk hn hm fin) hd
 ·rcases hk with hk|hk
  ·exact wpAny_Name (wpAny_loadName_cell I.ok.kind hk hc hcell fin) hd
  ·exact wpAny_Name (wpAny_loadName_free I.ok.kind hk hc hcell fin hcd) hd
def Q4{i j pos}:PE X (.Constant (.int i) j pos) (tC (.int i)):=λ_ _ _ H _ I h=>wpAny_Constant_int ⟨.int i,H,I.tok _,⟨_,rfl⟩,h⟩
def qm9{b j pos}:PE X (.Constant (.bool b) j pos) (tC (.bl b)):=λ_ _ _ H _ I h=>Constant_bool ⟨.bl b,H,I,rfl,h⟩
def qjD{j pos}:PE X (.Constant .none j pos) (tC .non):=λ_ _ _ H _ I h=>Constant_none ⟨.non,H,I,rfl,h⟩
def qjE{x j pos}:PE X (.Constant (.str x) j pos) (tC (.str x)):=λ_ _ _ H _ I h=>Calls.Constant_str ⟨.str x,H,I.tok _,⟨_,rfl⟩,h⟩
def Gl(X:Cx)(x:Str):Prop:=X.env.kindOf x=some .globalImplicit
def yV{E:PQ}{pins:PP}{s:ag}{Z:St}{H:Hp}{x:Str}{u:aa}{pos:Pos}{Q:PQ}(I:Inv X pins Z H s)(hg:Gl X x)(hm:X.mg x=some u)(h:Q u s)
  (hd:(x == ("__debug__" : Str))=false:=by decide):ak (al X.prog X.w) X.A (eval (.Name x pos) X.env) Q E s:=
 lX I.ok.kind hg (Calls.loadGlobal_global (by rw[I.ok.glob];exact I.mod.glob.keeps I.bk) hm h) hd
def Ja{E:PQ}{pins:PP}{s:ag}{Z:St}{H:Hp}{x:Str}{u:aa}{pos:Pos}{Q:PQ}(I:Inv X pins Z H s)(hg:Gl X x)(hm:X.mg x=none)(hv:fK x=some u)(h:Q u s)
  (hn:x≠"__name__":=by decide) (hd:(x == ("__debug__" : Str))=false:=by decide):ak (al X.prog X.w) X.A (eval (.Name x pos) X.env) Q E s:=by
 obtain⟨mb,h1,h2⟩:=I.mod.blt;exact lX I.ok.kind hg (Calls.loadGlobal_builtin (by rw[I.ok.glob];exact I.mod.glob.keeps I.bk) hm (by rw[I.ok.blt];exact h1.keeps I.bk) ((h2 x hn).trans hv) h) hd
def Y5{x:Str}{v:V}{u:aa}{pos:Pos}(hg:Gl X x)(hm:X.mg x=some u)(r:qK v u)(hd:(x == ("__debug__" : Str))=false:=by decide):PE X (.Name x pos) (tC v):=
 λ_ _ _ H _ I h=>yV I hg hm ⟨v,H,I,r,h⟩ hd
def JN{x:Str}{v:V}{u:aa}{pos:Pos}(hg:Gl X x)(hm:X.mg x=none)(hv:fK x=some u)(r:qK v u)(hn:x≠"__name__":=by decide)(hd:(x == ("__debug__" : Str))=false:=by decide):PE X (.Name x pos) (tC v):=
 λ_ _ _ H _ I h=>Ja I hg hm hv ⟨v,H,I,r,h⟩ hn hd
variable{a b:ae}{ta tb:TE}{pos:Pos}
def tB(t:TE):TT:=λZ H Q=>t Z H λx H1=>∃c,x=.bl c/\Q c H1
def qa2{e:ae}{t:TE}(h:PE X e t)(he:∀whole,isTrue e X.env whole=(do let v<-whole;dZ e.pos;cJ [v] (truthy v)):=by intro _;rfl):PT X e (tB t):=by intro pins s Z H Q I hw;refine isTrue_plain (thn (h pins s Z H _ I hw) λv s1 hz2=>?_) (he _);obtain⟨x,H1,I1,r1,q1⟩:=hz2;obtain⟨d,rfl,q⟩:=q1;cases r1;exact eY ⟨H1,I1,q⟩
variable{tA tB':TT}{rest:List ae}
def qoU(t:TT):TT:=λZ H Q=>t Z H λc H1=>Q (!c) H1
theorem qhw(ha:PT X a tA):PW X (.BoolOp .And [a] pos) tA:=by
 intro wh pins s Z H Q I h;refine isTrue_and (thn (ha pins s Z H Q I h) λc s1 e=>?_)
 cases c with
 |true=>exact isTrue_and_nil e
 |false=>exact e
theorem qjF(ha:PT X a tA):PW X (.BoolOp .Or [a] pos) tA:=by
 intro wh pins s Z H Q I h;refine isTrue_or (thn (ha pins s Z H Q I h) λc s1 e=>?_)
 cases c with
 |false=>exact isTrue_or_nil e
 |true=>exact e
def Q5(ha:PT X a tA):PT X (.UnaryOp .Not a pos) (qoU tA):=by intro pins s Z H Q I h;exact isTrue_not (ha pins s Z H (λc H1=>Q (!c) H1) I h)
def qna(ta tb:TE):TE:=λZ H Q=>ta Z H λx H1=>∃c,x=.bl c/\if c=true then tb Z H1 Q else Q (.bl false) H1
def qnb(ta:TE):TE:=λZ H Q=>ta Z H λx H1=>∃c,x=.bl c/\Q (.bl (!c)) H1
def qjG{op}{t:TE}(h:PE X a t):PE X (.BoolOp op [a] pos) t:=λpins s Z H Q I hw=>BoolOp_one (h pins s Z H Q I hw)
theorem qjH(ha:PE X a ta)(hb:PE X (.BoolOp .And (b::rest) pos) tb):PE X (.BoolOp .And (a::b::rest) pos) (qna ta tb):=by
 intro pins s Z H Q I h;refine BoolOp_and (thn (ha pins s Z H _ I h) λv s1 hq1=>?_);obtain⟨x,H1,I1,r1,q1⟩:=hq1;obtain⟨c,rfl,q1⟩:=q1;cases r1;refine eY ?_
 cases c with
 |true=>exact hb pins s1 Z H1 Q I1 q1
 |false=>exact{.bl false,H1,I1,rfl,q1}
def qjI(ha:PE X a ta):PE X (.UnaryOp .Not a pos) (qnb ta):=by intro pins s Z H Q I h;refine UnaryOp_ (thn (ha pins s Z H _ I h) λv s1 hq1=>?_);obtain⟨x,H1,I1,r1,q1⟩:=hq1;obtain⟨c,rfl,q1⟩:=q1;cases r1;exact not_of (eY ⟨.bl (!c),H1,I1,rfl,q1⟩)
def tIf(t:TT)(ta tb:TE):TE:=λZ H Q=>t Z H λc H1=>if c=true then ta Z H1 Q else tb Z H1 Q
theorem qeZ{c:ae}(hc:PT X c tA)(ha:PE X a ta)(hb:PE X b tb):PE X (.IfExp c a b pos) (tIf tA ta tb):=by
 intro pins s Z H Q I h;refine wpAny_IfExp (thn (hc pins s Z H _ I h) λd s1 hq1=>?_);obtain⟨H1,I1,q1⟩:=hq1
 cases d with
 |true=>exact ha pins s1 Z H1 Q I1 q1
 |false=>exact hb pins s1 Z H1 Q I1 q1
end
def SqL(K:Frag)(H:Hp)(a:ad)(xs:List V):Prop:=
 Rd H a (.lst xs)\/
  ∃(o:Obj) (its:Array aa) (n:Nat),K.lookup a=some o/\o.cls=.type "list"/\o.dict=none/\o.data=.seq its n/\its.size<=sizeLine/\qu xs its.toList
def SqT(K:Frag)(H:Hp)(a:ad)(xs:List V):Prop:=
 Rd H a (.tup xs)\/
  ∃(o:Obj) (its:Array aa) (n:Nat),K.lookup a=some o/\o.cls=.type "tuple"/\o.data=.seq its n/\its.size<=sizeLine/\qu xs its.toList
def qoV:aa->Option V
 |.none=>some .non
 |.bool b=>some (.bl b)
 |.int i _=>some (.int i)
 |.str x _=>some (.str x)
 |.bytes b _=>some (.byt b)
 |.float b _=>some (.flt b)
 |.ref a=>some (.ref a)
 |.type n=>some (.ty n)
 |_=>none
theorem qK.abs{x:V}{u:aa}(r:qK x u):qoV u=some x:=by
 cases x with
 |non=>cases r;rfl
 |bl _=>cases r;rfl
 |int _=>obtain⟨t,rfl⟩:=r;rfl
 |str _=>obtain⟨t,rfl⟩:=r;rfl
 |byt _=>obtain⟨t,rfl⟩:=r;rfl
 |flt _=>obtain⟨t,rfl⟩:=r;rfl
 |ref _=>cases r;rfl
 |ty _=>cases r;rfl
def qK.inj{x y:V}{u:aa}(r:qK x u)(q:qK y u):x=y:=Option.some.inj (r.abs.symm.trans q.abs)
theorem qu.inj{xs ys:List V}{us:List aa}(h:qu xs us)(k:qu ys us):xs=ys:=by
 induction h generalizing ys with
 |nil=>cases k;rfl
 |cons r t ih=>cases k with
  | cons r' t'=>rw[r.inj r',ih t']
section
variable{X:Cx}{pins:PP}{Z:St}{H:Hp}{s:ag}{a:ad}{xs ys:List V}
def SqL.of{K:Frag}(h:H a=some (.lst xs)):SqL K H a xs:=.inl (.inl h)
def SqT.of{K:Frag}(h:H a=some (.tup xs)):SqT K H a xs:=.inl (.inl h)
def Inv.list(I:Inv X pins Z H s)(h:SqL X.K H a xs):∃its:List aa,qu xs its/\PlainL s.heap a its.toArray/\xs.length<=sizeLine:=by
 rcases h with h|⟨o,its,n,hk,hc,hd,hs,hz,r⟩
 ·obtain⟨z,its,n,r,e⟩:=h.ok I.hok;exact{its,r,{_,n,e,rfl,rfl,rfl},z}
 ·refine{its.toList,r,{o,n,I.kIn a o hk,hc,hd,(-hs:)},?_};have e:=r.length;simp![bp]at e
  lia
def Inv.tuple(I:Inv X pins Z H s)(h:SqT X.K H a xs):∃its:List aa,qu xs its/\IsTup s.heap a its.toArray/\xs.length<=sizeLine:=by
 rcases h with h|⟨o,its,n,hk,hc,hs,hz,r⟩
 ·obtain⟨z,its,r,p⟩:=h.ok I.hok;exact⟨its,r,p,z⟩
 ·refine{its.toList,r,{o,I.kIn a o hk,hc,n,(-hs:)},?_};have e:=r.length;simp![bp]at e
  lia
def Inv.list_inj(I:Inv X pins Z H s)(h:SqL X.K H a xs)(h':SqL X.K H a ys):xs=ys:=by
 obtain⟨its,r,⟨o,n,e,_,_,d⟩,_⟩:=I.list h;obtain⟨its',r',⟨o',n',e',_,_,d'⟩,_⟩:=I.list h';rw[e]at e';cases e';rw[d]at d';injection d' with d1 _
 have:its=its':=by simpa using congrArg Array.toList d1
 subst this;exact r.inj r'
def Inv.tuple_inj(I:Inv X pins Z H s)(h:SqT X.K H a xs)(h':SqT X.K H a ys):xs=ys:=by
 obtain⟨its,r,⟨o,e,_,n,d⟩,_⟩:=I.tuple h;obtain⟨its',r',⟨o',e',_,n',d'⟩,_⟩:=I.tuple h';rw[e]at e';cases e';rw[d]at d';injection d' with d1 _
 have:its=its':=by simpa using congrArg Array.toList d1
 subst this;exact r.inj r'
end
abbrev Cx.wish(X:Cx)(E:PQ):Cx:={ X with xe:=E }
abbrev Cx.nox(X:Cx):Cx:=X.wish λ_ _=>False
def Cx.Ok.wish{X:Cx}(ok:X.Ok)(E:PQ):(X.wish E).Ok:=
 ⟨ok.mod,ok.kind,ok.glob,ok.blt,ok.above,ok.inj,ok.has,ok.cab,ok.hd,ok.frames,ok.stk,ok.exf,ok.bs,ok.bsz,ok.noex,ok.exfs,ok.funs,ok.frf⟩
def Cx.Ok.unwish{X:Cx}{E:PQ}(ok:(X.wish E).Ok):X.Ok:=
 ⟨ok.mod,ok.kind,ok.glob,ok.blt,ok.above,ok.inj,ok.has,ok.cab,ok.hd,ok.frames,ok.stk,ok.exf,ok.bs,ok.bsz,ok.noex,ok.exfs,ok.funs,ok.frf⟩
section
variable{X:Cx}{pins:PP}{Z:St}{H:Hp}{s:ag}{E:PQ}
def Inv.wish(I:Inv X pins Z H s)(E:PQ):Inv (X.wish E) pins Z H s:={I.ok.wish E,I.os,I.bare,I.base,I.loc,I.cell,I.free,I.freeC,I.pin,I.hok,I.len}
def Inv.unwish(I:Inv (X.wish E) pins Z H s):Inv X pins Z H s:=⟨I.ok.unwish,I.os,I.bare,I.base,I.loc,I.cell,I.free,I.freeC,I.pin,I.hok,I.len⟩
theorem SP.unwish{D:Ends}{f:Flow}{s':ag}(h:SP (X.wish E) pins D f s'):SP X pins D f s':=by
 cases f with
 |next=>obtain⟨Z',H',I,q⟩:=h;exact⟨Z',H',I.unwish,q⟩
 |brk=>obtain⟨Z',H',I,q⟩:=h;exact⟨Z',H',I.unwish,q⟩
 |cont=>obtain⟨Z',H',I,q⟩:=h;exact⟨Z',H',I.unwish,q⟩
 |ret u=>obtain⟨v,Z',H',I,r,q⟩:=h;exact⟨v,Z',H',I.unwish,r,q⟩
def PSs.nox{st:List aC}{t:TS}(h:PSs X.nox st t):PSs X st t:=λpins s Z H D I hw=>dY (h pins s Z H D (I.wish _) hw) (λ_ _ q=>q.unwish) λ_ _ z=>ao z
end
section
variable{X:Cx}{st:aC}{rest:List aC}{t u:TS}{e:ae}{te:TE}{pos:Pos}
def qjJ:TS:=λD Z H=>D.nx Z H
def qoW(t u:TS):TS:=λD Z H=>t { D with nx:=u D } Z H
def JO:PSs X [] qjJ:=λ_ _ Z H _ I h=>iy ⟨Z,H,I,h⟩
theorem zo(h1:PS X st t)(h2:PSs X rest u):PSs X (st::rest) (qoW t u):=by
 intro pins s Z H D I h;refine wpAny_execs_cons (thn (h1 pins s Z H { D with nx:=u D } I h) λf s1 q=>?_)
 cases f with
 |next=>obtain⟨Z',H',I',q⟩:=q;exact h2 pins s1 Z' H' D I' q
 |ret v=>exact q
 |brk=>exact q
 |cont=>exact q
theorem jH(h1:PS X st t):PSs X [st] t:=by
 intro pins s Z H D I h;refine wpAny_execs_cons (thn (h1 pins s Z H D I h) λf s1 q=>?_)
 cases f with
 |next=>exact iy q
 |ret v=>exact q
 |brk=>exact q
 |cont=>exact q
def qhx:PS X (.Pass pos) qjJ:=λ_ _ Z H _ I h=>wpAny_Pass ⟨Z,H,I,h⟩
def Inv.quiet{pins:PP}{Z:St}{H:Hp}{s:ag}(I:Inv X pins Z H s):interactive X.env=false:=by simp[interactive,I.ok.kind]
def qnc(te:TE):TS:=λD Z H=>te Z H λ_ H1=>D.nx Z H1
def yW(he:PE X e te)(hs:fM e none pos.line X.env=pure false:=by rfl):PS X (.Expr e pos) (qnc te):=by intro pins s Z H D I h;refine wpAny_Expr_any (thn (he pins s Z H _ I h) λv s1 hz3=>?_) I.quiet hs;obtain⟨x,H1,I1,r1,q1⟩:=hz3;exact⟨Z,H1,I1,q1⟩
def qoX(te:TE):TS:=λD Z H=>te Z H D.rt
def qcM(he:PE X e te):PS X (.Return (some e) pos) (qoX te):=by intro pins s Z H D I h;refine wpAny_Return_some (thn (he pins s Z H _ I h) λv s1 hz4=>?_);obtain⟨x,H1,I1,r1,q1⟩:=hz4;exact⟨x,Z,H1,I1,r1,q1⟩
def qnd:TS:=λD _ H=>D.rt .non H
def qhy:PS X (.Return none pos) qnd:=λ_ _ Z H _ I h=>wpAny_Return_none ⟨.non,Z,H,I,rfl,h⟩
def qoY(c:TT)(t u:TS):TS:=λD Z H=>c Z H λb H1=>if b=true then t D Z H1 else u D Z H1
theorem qcN{c:ae}{a b:List aC}{tc:TT}(hc:PT X c tc)(ha:PSs X a t)(hb:PSs X b u):PS X (.If c a b pos) (qoY tc t u):=by
 intro pins s Z H D I h;refine wpAny_If (thn (hc pins s Z H _ I h) λd s1 hq1=>?_);obtain⟨H1,I1,q1⟩:=hq1
 cases d with
 |true=>exact ha pins s1 Z H1 D I1 q1
 |false=>exact hb pins s1 Z H1 D I1 q1
def qjK:TS:=λ_ _ _=>False
def Jw:PS X st qjK:=λ_ _ _ _ _ _ h=>h.elim
end
abbrev TG:=V->St->Hp->(St->Hp->Prop)->Prop
abbrev TGs:=List V->St->Hp->(St->Hp->Prop)->Prop
def PG(X:Cx)(target:ae)(t:TG):Prop:=
 ∀(pins:PP) (s:ag) (Z:St) (H:Hp) (v:V) (u:aa) (Q:St->Hp->Prop),Inv X pins Z H s->qK v u->t v Z H Q->
  ak (al X.prog X.w) X.A (d8 target X.env u) (λ_ s'=>∃Z' H',Inv X pins Z' H' s'/\Q Z' H') X.xe s
def PGs(X:Cx)(ts:List ae)(t:TGs):Prop:=
 ∀(pins:PP) (s:ag) (Z:St) (H:Hp) (vs:List V) (us:List aa) (Q:St->Hp->Prop),Inv X pins Z H s->qu vs us->t vs Z H Q->
  ak (al X.prog X.w) X.A (assignInOrder ((dI ts X.env).map (·.2)) us) (λ_ s'=>∃Z' H',Inv X pins Z' H' s'/\Q Z' H') X.xe s
abbrev qne:=V->V->V->Hp->(Hp->Prop)->Prop
def qom(X:Cx)(t:qne):Prop:=
 ∀(pins:PP) (s:ag) (Z:St) (H:Hp) (o i v:V) (ov iv u:aa) (Q:Hp->Prop),Inv X pins Z H s->qK o ov->qK i iv->qK v u->t o i v H Q->
  ak (al X.prog X.w) X.A (setItem ov iv u) (λ_ s'=>∃H',Inv X pins Z H' s'/\Q H') X.xe s
section
variable{X:Cx}{pos:Pos}
def qe0(i:Nat):TG:=λv Z H Q=>Q (Z.set i (some v)) H
def qhz{i:Nat}{x:Str}(hN:X.N.Nodup)(hi:X.N[i]?=some x)(hx:Loc X.env.scope x)(hf:X.fn x=true\/X.env.scope.names.lookup x=some .local:=by first|exact .inl rfl|exact .inr rfl|assumption):PG X (.Name x pos) (qe0 i):=by intro pins s Z H v u Q I r h;exact wpAny_assign_Name (qa1 I hN hi hx r (λs' I'=>{_,H,I',h}) hf)
def qoZ:TGs:=λvs Z H Q=>vs=[]/\Q Z H
def qnf(t:TG)(u:TGs):TGs:=λvs Z H Q=>∃v r,vs=v::r/\t v Z H λZ' H'=>u r Z' H' Q
def qhA:PGs X [] qoZ:=by intro pins s Z H vs us Q I r h;obtain⟨e,h⟩:=h;subst e;cases r;exact assignInOrder_nil ⟨Z,H,I,h⟩
theorem qe1{e:ae}{es:List ae}{t:TG}{u:TGs}(h1:PG X e t)(h2:PGs X es u)
  (hs:(dI (e::es) X.env).map (·.2)=d8 e X.env::(dI es X.env).map (·.2):=by rfl):PGs X (e::es) (qnf t u):=by
 intro pins s Z H vs us Q I r h;obtain⟨v,vr,e1,h⟩:=h;subst e1
 cases r with
 |cons r rr=>rw[hs];refine assignInOrder_cons (thn (h1 pins s Z H _ _ _ I r h) λ_ s1 hq1=>?_);obtain⟨Z1,H1,I1,q1⟩:=hq1;exact h2 pins s1 Z1 H1 _ _ Q I1 rr q1
def qo0(K:Frag)(n:Nat)(t:TGs):TG:=λv Z H Q=>∃a xs,v=.ref a/\SqT K H a xs/\xs.length=n/\t xs Z H Q
def qjL{es:List ae}{k:Nat}{t:TGs}{n:Nat}(hc:X.calm=true)(h:PGs X es t)
  (hn:(dI es X.env).length=n:=by rfl) (hst:(dI es X.env).findIdx? (·.1)=none:=by rfl):PG X (.Tuple es k pos) (qo0 X.K n t):=by
 intro pins s Z H v u Q I r hw;obtain⟨a,xs,e1,hq,hl,hw⟩:=hw;subst e1;cases r;obtain⟨its,rv,ht,hz⟩:=I.tuple hq;refine assign_Tuple_tuple (I.ok.hd hc) ht (by simp[hn,<-hl,rv.length]) hst λh' hx=>?_;have I1:Inv X pins Z H { s with heap:=h' }:=I.kept (t':=s.toks) λb o e=>hx b o (aZ (aN e)) e;exact h pins _ Z H xs _ Q I1 (-rv:) hw
def qo1(to ti:TE)(t:qne):TG:=λv Z H Q=>to Z H λo H1=>ti Z H1 λi H2=>t o i v H2 λH3=>Q Z H3
def qjM{o i:ae}{to ti:TE}{t:qne}(ho:PE X o to)(hi:PE X i ti)(hs:qom X t)
  (ha:∀v,d8 (.Subscript o i pos) X.env v=(do
   let ov<-cJ [v] (eval o X.env)
   let iv<-cJ [v,ov] (eval i X.env)
   dZ pos
   cJ [v,ov,iv] (setItem ov iv v)
   release [v,ov,iv] []):=by intro _;rfl):PG X (.Subscript o i pos) (qo1 to ti t):=by
 intro pins s Z H v u Q I r h;rw[ha];refine ai (cK (thn (ho pins s Z H _ I h) λov s1 hq1=>?_));obtain⟨x,H1,I1,r1,q1⟩:=hq1;refine ai (cK (thn (hi pins s1 Z H1 _ I1 q1) λiv s2 hq1=>?_));obtain⟨y,H2,I2,r2,q2⟩:=hq1;refine ai (k7 (ai (cK (thn (hs pins s2 Z H2 x y v ov iv u _ I2 r1 r2 r q2) λ_ s3 hq1=>?_))));obtain⟨H3,I3,q3⟩:=hq1;exact wpAny_release ⟨Z,H3,I3,q3⟩
def qng(te:TE)(g:TG):TS:=λD Z H=>te Z H λx H1=>g x Z H1 D.nx
def qgE{tg e:ae}{te:TE}{g:TG}(he:PE X e te)(hg:PG X tg g)(hs:k8 [tg] e pos.line X.env=pure false:=by rfl)(hw:swappedStores [tg] e X.env=pure none:=by rfl)
  (h1:(dI [tg] X.env).map (·.2)=[d8 tg X.env]:=by rfl):PS X (.Assign [tg] e pos) (qng te g):=by
 intro pins s Z H D I h;refine wpAny_Assign_stores (thn (he pins s Z H _ I h) λv s1 hz5=>?_) hs hw;obtain⟨x,H1,I1,r1,q1⟩:=hz5;rw[h1];exact thn (hg pins s1 Z H1 x v _ I1 r1 q1) λ_ s2 q=>q
def qgF{i:Nat}{x:Str}{e:ae}{te:TE}{pos':Pos}(hN:X.N.Nodup)(hi:X.N[i]?=some x)(hx:Loc X.env.scope x)(he:PE X e te)(hs:fM e (some (.Name x pos')) pos.line X.env=pure false:=by rfl)(hf:X.fn x=true\/X.env.scope.names.lookup x=some .local:=by first|exact .inl rfl|exact .inr rfl|assumption) :
  PS X (.Assign [.Name x pos'] e pos) (qng te (qe0 i)):=by
 intro pins s Z H D I h;refine wpAny_Assign_Name (thn (he pins s Z H _ I h) λv s1 hz6=>?_) hs;obtain⟨y,H1,I1,r1,q1⟩:=hz6;exact qa1 I1 hN hi hx r1 (λs2 I2=>{_,H1,I2,q1}) hf
def qjN(c:TT)(tb:TS):TS:=λD Z H=>∃W:Nat->St->Hp->Prop,(∃m,W m Z H)/\∀m Z H,W m Z H->
 c Z H λb H1=>if b=true then∃N:St->Hp->Prop,(∀Z' H',N Z' H'->∃m',m' < m/\W m' Z' H')/\tb { D with nx:=N,ct:=N,bk:=D.nx } Z H1 else D.nx Z H1
theorem qe2{c:ae}{body:List aC}{tc:TT}{tb:TS}(hp:k9 (al X.prog X.w) X.A X.env X.xe)(hc:PT X c tc)(hb:PSs X body tb):PS X (.While c body [] pos) (qjN tc tb):=by
 intro pins s Z H D I h;obtain⟨W,⟨m0,w0⟩,turn⟩:=h;refine wpAny_While (codeAny_whileLoop (λn s'=>∃Z' H',Inv X pins Z' H' s'/\W n Z' H') ?_ m0 ⟨Z,H,I,w0⟩);rintro n s1 ⟨Z1,H1,I1,w1⟩;refine eZ hp (thn (hc pins s1 Z1 H1 _ I1 (turn n Z1 H1 w1)) λb s2 hq1=>?_);obtain⟨H2,I2,q2⟩:=hq1
 cases b with
 |true=>
  obtain⟨N,hN,q2⟩:=q2;rw[if_pos rfl];refine eZ hp (thn (hb pins s2 Z1 H2 _ I2 q2) λf s3 q3=>?_)
  cases f with
  |next=>obtain⟨Z3,H3,I3,n3⟩:=q3;obtain⟨m',hm,w3⟩:=hN Z3 H3 n3;exact⟨m',hm,Z3,H3,I3,w3⟩
  |cont=>obtain⟨Z3,H3,I3,n3⟩:=q3;obtain⟨m',hm,w3⟩:=hN Z3 H3 n3;exact⟨m',hm,Z3,H3,I3,w3⟩
  |brk=>exact q3
  |ret v=>exact q3
 |false=>rw[if_neg dQ];exact iy ⟨Z1,H2,I2,q2⟩
end
structure It where
 go:Nat->Hp->Prop
 yld:Nat->Hp->V->Hp->Prop
 stop:Nat->Hp->Prop
def qb2(X:Cx)(pins:PP)(H:Hp)(b:ad):Prop:=
 H b=none/\b≠X.env.locals/\b∉X.fs/\(b∈X.ex\/X.s₀.heap.objs.size<=b)/\(∀x c,X.env.cells.lookup x=some c->c≠b)/\∀p∈X.pn++pins,p.1≠b
def Inv.fpOk{X:Cx}{pins:PP}{Z:St}{H H':Hp}{s:ag}{b:ad}(I:Inv X pins Z H s)(hb:s.heap.objs.size<=b)(hn:H' b=none):qb2 X pins H' b:=by
 refine{hn,fg (bn I.lt hb),I.nofs hb,.inr (bz I.sz hb),λx c e z=>?_,λp hp z=>?_}
 ·obtain⟨v,q⟩:=I.cell x c e;exact absurd (bn q.lt (by rw[z];exact hb)) (ej _)
 ·exact absurd (bn (aN (I.pin p hp).1) (by rw[z];exact hb)) (ej _)
structure Turn(P:aE)(w:aB)(K:Frag)(tg:ae)(J:It)(fp:List ad)(it:ad)(tn:Nat->au->Prop):Prop where
 mem:it∈fp
 obj:∀i h,tn i h->∀b∈fp,∃o,h.get? b=some o/\∀v,o.data≠.cell v
 keep:∀i h h',tn i h->(∀b∈fp,∀o,h.get? b=some o->h'.get? b=some o)->tn i h'
 item:∀(X:Cx),X.prog=P->X.w=w->X.K=K->X.calm=true->∀(i:Nat) (pins:PP) (s:ag) (Z:St) (H:Hp) (E:PQ),Inv X pins Z H s->(∀b∈fp,qb2 X pins H b)->tn i s.heap->J.go i H->
  ak (al P w) X.A (cn (.ref it)) (λr s1=>∃u,r=some u/\
   ak (al P w) X.A (lc tg (.ref it) u) (λ_ s2=>∃x H',Inv X pins Z H' s2/\qK x u/\J.yld i H x H'/\tn (i+1) s2.heap/\∀b∈fp,H' b=none) E s1) E s
 done:∀(X:Cx),X.prog=P->X.w=w->X.K=K->X.calm=true->∀(i:Nat) (pins:PP) (s:ag) (Z:St) (H:Hp) (E:PQ),Inv X pins Z H s->(∀b∈fp,qb2 X pins H b)->tn i s.heap->J.stop i H->
  ak (al P w) X.A (cn (.ref it)) (λr s1=>r=none/\Inv X pins Z H s1) E s
 self:∀(A:aH) (i:Nat) (s:ag) (Q:PQ) (E:PQ),tn i s.heap->Q (.ref it) s->ak (al P w) A (pyIter (.ref it)) Q E s
abbrev TI:=St->Hp->(It->Hp->Prop)->Prop
def PIE(X:Cx)(pins:PP)(Z:St)(tg:ae)(R:It->Hp->Prop)(itv:aa)(s2:ag):Prop:=
 ∃(it:ad) (fp:List ad) (tn:Nat->au->Prop) (J:It) (H':Hp),itv=.ref it/\Inv X pins Z H' s2/\Turn X.prog X.w X.K tg J fp it tn/\tn 0 s2.heap/\(∀b∈fp,qb2 X pins H' b)/\R J H'
def PI(X:Cx)(tg iter:ae)(wi:TI):Prop:=
 ∀(pins:PP) (s:ag) (Z:St) (H:Hp) (R:It->Hp->Prop),Inv X pins Z H s->wi Z H R->
  ak (al X.prog X.w) X.A (eval iter X.env) (λv s1=>ak (al X.prog X.w) X.A (pyIter v) (PIE X pins Z tg R) X.xe s1) X.xe s
def qcO{M:cH}{A:aH}{E:PQ}{s:ag}{tg:ae}{it:ad}{u:aa}{o:Obj}{n:String}{vs:Array aa}{Q:Unit->ag->Prop}(ho:s.heap.get? it=some o)(hc:o.cls=.type n)(hd:o.data=.fields vs)
  (hn:["enumerate","zip","dict_itemiterator","dict_reverseitemiterator","odict_iterator","itertools.zip_longest","itertools.pairwise"].contains n=false) (hQ:Q () s):ak M A (lc tg (.ref it) u) Q E s:=by
 unfold lc
 cases tg<;>first
  | exact ax hQ
  | (cases u<;>first
    | exact ax hQ
    | (refine ai (wpAny_load ho ?_)
       rw[hc,hd];show ak M A (if (["enumerate","zip","dict_itemiterator","dict_reverseitemiterator","odict_iterator","itertools.zip_longest","itertools.pairwise"].contains n&&vs[0]? == some (bH _))=true then _ else _) Q E s;rw[if_neg (by intro h;rw[hn,Bool.false_and]at h;cases h)];exact ax hQ))
def Itl(K:Frag)(a:ad):It:=
 ⟨λi H=>∃xs x,SqL K H a xs/\xs[i]?=some x,λi H x H'=>H'=H/\∀xs,SqL K H a xs->xs[i]?=some x,λi H=>∃xs,SqL K H a xs/\xs.length<=i⟩
def Itt(K:Frag)(a:ad):It:=
 ⟨λi H=>∃xs x,SqT K H a xs/\xs[i]?=some x,λi H x H'=>H'=H/\∀xs,SqT K H a xs->xs[i]?=some x,λi H=>∃xs,SqT K H a xs/\xs.length<=i⟩
def Itr(lo:Int)(n:Nat):It:={λi _=>i < n,λi H x H'=>H'=H/\x=.int (lo+i),λi _=>n<=i}
def qcP{P:aE}{w:aB}{K:Frag}{tg:ae}(a it:ad):Turn P w K tg (Itl K a) [it] it (λi h=>h.IsListIter it a i) where
 mem:=by simp
 obj:=λi h st b hb=>by
  have e:b=it:=(-hb:)
  subst e;obtain⟨o,e,c,d⟩:=st;exact{o,e,λv z=>by rw[d]at z;cases z}
 keep:=λi h h' st k=>st.at λo e=>k it (5:) o e
 item:=by intro X hP hw hK hc i pins s Z H E I hf st hg;subst hP hw hK;obtain⟨xs,x,hq,hx⟩:=hg;obtain⟨its,rv,p,hz⟩:=I.list hq;obtain⟨u,hu,ru⟩:=rv.get hx;obtain⟨f0,f1,f2,f3,f4,f5⟩:=hf it (5:);refine mJ st p.isList (x:=u) (-hu:) λh' st' sb=>?_;have I1:Inv X pins Z H { s with heap:=h' }:=I.turned (t':=s.toks) (λb o hb e=>(sb.2 b hb).trans e) f0 f1 f3 f4 f5;obtain⟨o,e,c,d⟩:=id st';exact{u,rfl,qcO (s:={ s with heap:=h' }) e c d (2:) ⟨x,H,I1,ru,⟨rfl,λys hy=>by rw[I.list_inj hy hq];exact hx⟩,st',λb hb=>(hf b hb).1⟩}
 done:=by intro X hP hw hK hc i pins s Z H E I hf st hg;subst hP hw hK;obtain⟨xs,hq,hx⟩:=hg;obtain⟨its,rv,p,hz⟩:=I.list hq;obtain⟨f0,f1,f2,f3,f4,f5⟩:=hf it (5:);have hl:=rv.length;exact mK (I.ok.hd hc) st p.isList (by simp;lia) λh' eb=>{rfl,I.turned (t':=s.toks) (λb o hb e=>eb b o hb e) f0 f1 f3 f4 f5}
 self:=λ_ _ _ _ _ st h=>wpAny_pyIter_listiter st h
def qb3{P:aE}{w:aB}{K:Frag}{tg:ae}(a it:ad):Turn P w K tg (Itt K a) [it] it (λi h=>h.IsTupleIter it a i) where
 mem:=by simp
 obj:=λi h st b hb=>by
  have e:b=it:=(-hb:)
  subst e;obtain⟨o,e,c,d⟩:=st;exact{o,e,λv z=>by rw[d]at z;cases z}
 keep:=λi h h' st k=>st.at λo e=>k it (5:) o e
 item:=by intro X hP hw hK hc i pins s Z H E I hf st hg;subst hP hw hK;obtain⟨xs,x,hq,hx⟩:=hg;obtain⟨its,rv,p,hz⟩:=I.tuple hq;obtain⟨u,hu,ru⟩:=rv.get hx;obtain⟨f0,f1,f2,f3,f4,f5⟩:=hf it (5:);refine wpAny_pyNext_tuple_item st (show s.heap.IsTuple a its.toArray from p) (x:=u) (-hu:) λh' st' sb=>?_;have I1:Inv X pins Z H { s with heap:=h' }:=I.turned (t':=s.toks) (λb o hb e=>(sb.2 b hb).trans e) f0 f1 f3 f4 f5;obtain⟨o,e,c,d⟩:=id st';exact{u,rfl,qcO (s:={ s with heap:=h' }) e c d (2:) ⟨x,H,I1,ru,⟨rfl,λys hy=>by rw[I.tuple_inj hy hq];exact hx⟩,st',λb hb=>(hf b hb).1⟩}
 done:=by intro X hP hw hK hc i pins s Z H E I hf st hg;subst hP hw hK;obtain⟨xs,hq,hx⟩:=hg;obtain⟨its,rv,p,hz⟩:=I.tuple hq;obtain⟨f0,f1,f2,f3,f4,f5⟩:=hf it (5:);have hl:=rv.length;exact wpAny_pyNext_tuple_end (I.ok.hd hc) st (show s.heap.IsTuple a its.toArray from p) (by simp;lia) λh' eb=>{rfl,I.turned (t':=s.toks) (λb o hb e=>eb b o hb e) f0 f1 f3 f4 f5}
 self:=λ_ _ _ _ _ st h=>wpAny_pyIter_tupleiter st h
def qb4{P:aE}{w:aB}{K:Frag}{tg:ae}(it:ad)(lo:Int)(n:Nat):Turn P w K tg (Itr lo n) [it] it (λi h=>IsRangeIter h it (lo+(i:Nat) * 1) ((n:Int) - (i:Nat)) 1) where
 mem:=by simp
 obj:=λi h st b hb=>by
  have e:b=it:=(-hb:)
  subst e
  exact{_,st,λv z=>by have z':Data.fields _=Data.cell v:=z;cases z'}
 keep:=λi h h' st k=>k it (5:) _ st
 item:=by intro X hP hw hK hc i pins s Z H E I hf st hg;subst hP hw hK;obtain⟨f0,f1,f2,f3,f4,f5⟩:=hf it (5:);have W:=Walks.range (prog:=X.prog) (w:=X.w) (I.ok.hd hc) it lo 1 n;refine W.item i s _ _ hg st λv h' tk hv st' kk=>?_;obtain⟨t,rfl⟩:=hv;have I1:Inv X pins Z H { s with heap:=h',toks:=tk }:=I.turned (λb o hb e=>kk b o (-hb:) e) f0 f1 f3 f4 f5;refine{_,rfl,qcO (s:={ s with heap:=h',toks:=tk }) (n:="range_iterator") st' rfl rfl (2:) ⟨.int (lo+i),H,I1,⟨t,?_⟩,⟨rfl,rfl⟩,st',λb hb=>(hf b hb).1⟩};rw[Int.mul_one]
 done:=by intro X hP hw hK hc i pins s Z H E I hf st hg;subst hP hw hK;obtain⟨f0,f1,f2,f3,f4,f5⟩:=hf it (5:);exact wpAny_pyNext_range_end (I.ok.hd hc) st (by have:n<=i:=hg;lia) λh' eb=>{rfl,I.turned (t':=s.toks) (λb o hb e=>eb b o hb e) f0 f1 f3 f4 f5}
 self:=λ_ _ _ _ _ st h=>wpAny_pyIter_rangeiter st h
section
variable{X:Cx}{tg:ae}
def qa3{pins:PP}{Z:St}{H:Hp}{s:ag}{R:It->Hp->Prop}{E:PQ}{lo hi:Int}{t u v:Tok}{tk:Nat}(I:Inv X pins Z H s)(h1:-(2 ^ 62)<=lo)(h2:lo < 2 ^ 62)(h3:-(2 ^ 62)<=hi)(h4:hi < 2 ^ 62)
  (q:R (Itr lo (hi - lo).toNat) H):ak (al X.prog X.w) X.A (pyIter (.ref s.heap.objs.size)) (PIE X pins Z tg R) E { s with heap:=s.heap.push { cls:=.type "range",data:=.fields #[.int lo t,.int hi u,.int 1 v] },toks:=tk }:=by
 refine wpAny_pyIter_range (IsRange.new ..) (small_one h1 h2 h3 h4) ?_;have I1:Inv X pins Z H { s with heap:=s.heap.push { cls:=.type "range",data:=.fields #[.int lo t,.int hi u,.int 1 v] },toks:=tk }:=I.kept λb o e=>aP _ e
 refine{(s.heap.push { cls:=.type "range",data:=.fields #[.int lo t,.int hi u,.int 1 v] }).objs.size,[(s.heap.push { cls:=.type "range",data:=.fields #[.int lo t,.int hi u,.int 1 v] }).objs.size],_,_,H,rfl,
  I1.kept (t':=tk) λb o e=>aP _ e,qb4 _ lo (hi - lo).toNat,?_,λb hb=>?_,q}
 ·have e1:lo+((0:Nat):Int) * 1=lo:=by simp
  have e2:(((hi - lo).toNat:Nat):Int) - ((0:Nat):Int)=Builtin.Range.rangeSize lo hi 1:=by rw[rangeSize_one];split<;>lia
  show IsRangeIter _ _ (lo+((0:Nat):Int) * 1) ((((hi - lo).toNat:Nat):Int) - ((0:Nat):Int)) 1;rw[e1,e2];exact bg _ rfl
 ·have e:b=(s.heap.push { cls:=.type "range",data:=.fields #[.int lo t,.int hi u,.int 1 v] }).objs.size:=(-hb:)
  subst e;exact I1.fpOk (az _) (I1.hok.fresh (az _))
def qnh(ta:TA):TI:=λZ H R=>ta Z H λvs H1=>∃j:Int,vs=[.int j]/\-(2 ^ 62)<=j/\j < 2 ^ 62/\R (Itr 0 j.toNat) H1
def qni(ta:TA):TI:=λZ H R=>ta Z H λvs H1=>∃i j:Int,vs=[.int i,.int j]/\(-(2 ^ 62)<=i/\i < 2 ^ 62/\-(2 ^ 62)<=j/\j < 2 ^ 62)/\R (Itr i (j - i).toNat) H1
theorem qcQ{a:ae}{ta:TA}{p pos:Pos}(hg:Gl X "range")(hm:X.mg "range" = none)(ha:PA X [a] ta)(hs:aI [a] X.env=[(false,eval a X.env)]:=by rfl):PI X tg (.Call (.Name "range" p) [a] [] pos) (qnh ta):=by
 intro pins s Z H R I h;refine Call_ (Ja I hg hm boot_range (fc (thn (ha pos pins s Z H _ I h) λus s1 hz9=>?_) hs rfl));obtain⟨vs,H1,I1,r1,q1⟩:=hz9;obtain⟨j,e,q1,q2,q⟩:=q1;subst e
 cases r1 with
 |cons r rr=>cases rr;obtain⟨t,rfl⟩:=r;exact call_range_1 (qa3 I1 (1:) (1:) q1 q2 (-q:))
theorem qcR{a b:ae}{ta:TA}{p pos:Pos}(hg:Gl X "range")(hm:X.mg "range" = none)(ha:PA X [a,b] ta)(hs:aI [a,b] X.env=[(false,eval a X.env),(false,eval b X.env)]:=by rfl)(hs2:aI [b] X.env=[(false,eval b X.env)]:=by rfl) :
  PI X tg (.Call (.Name "range" p) [a,b] [] pos) (qni ta):=by
 intro pins s Z H R I h;refine Call_ (Ja I hg hm boot_range (fc (thn (ha pos pins s Z H _ I h) λus s1 ⟨vs,H1,I1,r1,q1⟩=>?_) (by rw[hs,hs2]) (by rw[hs2];rfl)));obtain⟨i,j,e,⟨q1,q2,q3,q4⟩,q⟩:=q1;subst e
 cases r1 with
 |cons r rr=>
  cases rr with
  | cons r' rr=>cases rr;obtain⟨t,rfl⟩:=r;obtain⟨t',rfl⟩:=r';exact call_range_2 (qa3 I1 q1 q2 q3 q4 q)
def qo2(wi:TI)(g:TG)(tb:TS):TS:=λD Z H=>wi Z H λJ H1=>∃W:Nat->Nat->St->Hp->Prop,(∃m,W 0 m Z H1)/\∀i m Z H,W i m Z H->
 (J.stop i H/\D.nx Z H)\/(J.go i H/\∃N:St->Hp->Prop,(∀Z' H',N Z' H'->∃m',m' < m/\W (i+1) m' Z' H')/\∀x H',J.yld i H x H'->g x Z H' λZ2 H2=>tb { D with nx:=N,ct:=N,bk:=D.nx } Z2 H2)
def Q6(fp:List ad)(h:au):List (ad×Obj):=fp.filterMap λb=>(h.get? b).map λo=>(b,o)
def jZ{fp:List ad}{h:au}{b:ad}{o:Obj}(hb:b∈fp)(e:h.get? b=some o):(b,o)∈Q6 fp h:=List.mem_filterMap.mpr ⟨b,hb,by rw[e];rfl⟩
theorem qcS{fp:List ad}{h:au}{p:ad×Obj}(hp:p∈Q6 fp h):p.1∈fp/\h.get? p.1=some p.2:=by
 obtain⟨b,hb,e⟩:=List.mem_filterMap.mp hp
 cases q:h.get? b with
 |none=>rw[q]at e;cases e
 |some o=>rw[q]at e;have e':(b,o)=p:=Option.some.inj e;subst e';exact⟨hb,q⟩
def Inv.pinned{pins:PP}{Z:St}{H:Hp}{s:ag}{fp:List ad}(I:Inv X pins Z H s)(hf:∀b∈fp,qb2 X pins H b)(ho:∀b∈fp,∃o,s.heap.get? b=some o/\∀v,o.data≠.cell v):Inv X (pins++Q6 fp s.heap) Z H s:=
 I.pins_of λp hp=>(aW.mp hp).elim (λz=>I.pin p (aX _ z)) λz=>by obtain⟨hb,e⟩:=qcS z;obtain⟨f0,f1,f2,_⟩:=hf p.1 hb;obtain⟨o,e',d⟩:=ho p.1 hb;rw[e]at e';cases e';exact⟨e,f0,f1,f2,d⟩
def Inv.unpinned{pins pl:PP}{Z:St}{H:Hp}{s:ag}(I:Inv X (pins++pl) Z H s):Inv X pins Z H s:=I.pins_of λp hp=>I.pin p (aX _ (bC _ hp))
def qjO{iter:ae}{body:List aC}{wi:TI}{g:TG}{tb:TS}{pos:Pos}(hp:k9 (al X.prog X.w) X.A X.env X.xe)(hc:X.calm=true)(hi:PI X tg iter wi)(hg:PG X tg g)(hb:PSs X body tb)
  (hs:∀x,iz iter X.env x=pure x:=by intro _;rfl):PS X (.For tg iter body [] pos) (qo2 wi g tb):=by
 intro pins s Z H D I h;refine wpAny_For (thn (hi pins s Z H _ I h) λv s1 h1=>thn h1 λitv s2 h2=>?_) hs;obtain⟨it,fp,tn,J,H2,e,I2,T,st2,f2,W,⟨m0,w0⟩,turn⟩:=h2;subst e;have stat:∀{H':Hp},(∀b∈fp,H' b=none)->∀b∈fp,qb2 X pins H' b:=λhn b hb=>{hn b hb,(f2 b hb).2};refine codeAny_forLoop_any (λn s'=>∃i Z' H',Inv X pins Z' H' s'/\tn i s'.heap/\(∀b∈fp,H' b=none)/\W i n Z' H') ?_ m0 ⟨0,Z,H2,I2,st2,λb hb=>(f2 b hb).1,w0⟩;rintro n s3 ⟨i,Z3,H3,I3,st3,fr3,w3⟩;rcases turn i n Z3 H3 w3 with ⟨stop,qn⟩|⟨go,N,hN,step⟩
 ·refine eZ hp (thn (T.done X rfl rfl rfl hc i pins s3 Z3 H3 X.xe I3 (stat fr3) st3 stop) λr s4 hq1=>?_);obtain⟨hr,I4⟩:=hq1;subst hr;exact iy ⟨Z3,H3,I4,qn⟩
 ·refine eZ hp (thn (T.item X rfl rfl rfl hc i pins s3 Z3 H3 X.xe I3 (stat fr3) st3 go) λr s4 hq1=>?_);obtain⟨u,hr,h4⟩:=hq1;subst hr;refine eZ hp (thn h4 λ_ s5 hq1=>?_);obtain⟨x,H5,I5,r5,y5,st5,fr5⟩:=hq1;have I5':=I5.pinned (stat fr5) (T.obj _ _ st5);refine eZ hp (thn (hg _ s5 Z3 H5 x u _ I5' r5 (step x H5 y5)) λ_ s6 hq1=>?_);obtain⟨Z6,H6,I6,q6⟩:=hq1;refine eZ hp (thn (hb _ s6 Z6 H6 _ I6 q6) λf s7 q7=>?_)
  have again:∀{Z7:St} {H7:Hp},Inv X (pins++Q6 fp s5.heap) Z7 H7 s7->N Z7 H7->∃m,m < n/\∃i Z' H',Inv X pins Z' H' s7/\tn i s7.heap/\(∀b∈fp,H' b=none)/\W i m Z' H':=λ{Z7 H7} I7 n7=>by obtain⟨m',hm,w7⟩:=hN Z7 H7 n7;refine{m',hm,i+1,Z7,H7,I7.unpinned,T.keep _ _ _ st5 λb hb o e=>(I7.pin (b,o) (aX _ (aX _ (jZ hb e)))).1,λb hb=>?_,w7};obtain⟨o,e,d⟩:=T.obj _ _ st5 b hb;exact(I7.pin (b,o) (aX _ (aX _ (jZ hb e)))).2.1
  cases f with
  |next=>obtain⟨Z7,H7,I7,n7⟩:=q7;exact again I7 n7
  |cont=>obtain⟨Z7,H7,I7,n7⟩:=q7;exact again I7 n7
  |brk=>obtain⟨Z7,H7,I7,q7⟩:=q7;exact⟨Z7,H7,I7.unpinned,q7⟩
  |ret v=>obtain⟨x7,Z7,H7,I7,r7,q7⟩:=q7;exact⟨x7,Z7,H7,I7.unpinned,r7,q7⟩
end
abbrev R2:=V->V->Hp->VK->Prop
def OpR(X:Cx)(f:aa->aa->Sem aa)(r:R2):Prop:=
 ∀(pins:PP) (s:ag) (Z:St) (H:Hp) (x y:V) (v u:aa) (Q:VK),Inv X pins Z H s->qK x v->qK y u->r x y H Q->
  ak (al X.prog X.w) X.A (f v u) (EP X pins Z Q) X.xe s
def UnR(X:Cx)(f:aa->Sem aa)(r:V->Hp->VK->Prop):Prop:=
 ∀(pins:PP) (s:ag) (Z:St) (H:Hp) (x:V) (v:aa) (Q:VK),Inv X pins Z H s->qK x v->r x H Q->
  ak (al X.prog X.w) X.A (f v) (EP X pins Z Q) X.xe s
def qO(X:Cx)(f:aa)(r:List V->Hp->VK->Prop):Prop:=
 ∀(pins:PP) (s:ag) (Z:St) (H:Hp) (xs:List V) (us:List aa) (Q:VK),Inv X pins Z H s->qu xs us->r xs H Q->
  ak (al X.prog X.w) X.A (call f us) (EP X pins Z Q) X.xe s
def qo3(X:Cx)(r:V->Hp->(Bool->Hp->Prop)->Prop):Prop:=
 ∀(pins:PP) (s:ag) (Z:St) (H:Hp) (x:V) (v:aa) (Q:Bool->Hp->Prop),Inv X pins Z H s->qK x v->r x H Q->
  ak (al X.prog X.w) X.A (truthy v) (TP X pins Z Q) X.xe s
def tOp(r:R2)(ta tb:TE):TE:=λZ H Q=>ta Z H λx H1=>tb Z H1 λy H2=>r x y H2 Q
def tUn(r:V->Hp->VK->Prop)(ta:TE):TE:=λZ H Q=>ta Z H λx H1=>r x H1 Q
def rI(C:Int->Int->Prop)(g:Int->Int->V):R2:=λx y H Q=>∃i j,x=.int i/\y=.int j/\C i j/\Q (g i j) H
def rI0(g:Int->Int->V):R2:=λx y H Q=>∃i j,x=.int i/\y=.int j/\Q (g i j) H
def rU(g:Int->V):V->Hp->VK->Prop:=λx H Q=>∃i,x=.int i/\Q (g i) H
section
variable{X:Cx}{a b c:ae}{ta tb tc:TE}{pos:Pos}
def qnj(ha:PE X a ta)(hb:PE X b tb){pins:PP}{s:ag}{Z:St}{H:Hp}{R:V->V->Hp->Prop}(I:Inv X pins Z H s)
  (h:ta Z H λx H1=>tb Z H1 λy H2=>R x y H2) {Q:PQ} {f:aa->aa->Sem aa}
  (hf:∀v u s2 x y H2,Inv X pins Z H2 s2->qK x v->qK y u->R x y H2->ak (al X.prog X.w) X.A (f v u) Q X.xe s2) :
  ak (al X.prog X.w) X.A (eval a X.env) (λv s₁=>ak (al X.prog X.w) X.A (eval b X.env) (λu s₂=>ak (al X.prog X.w) X.A (f v u) Q X.xe s₂) X.xe s₁) X.xe s:=by
 refine thn (ha pins s Z H _ I h) λv s1 hq1=>?_;obtain⟨x,H1,I1,r1,q1⟩:=hq1;refine thn (hb pins s1 Z H1 _ I1 q1) λu s2 hq1=>?_;obtain⟨y,H2,I2,r2,q2⟩:=hq1;exact hf v u s2 x y H2 I2 r1 r2 q2
def qnk{op:cq}{r:R2}(ho:OpR X (b9 op) r)(ha:PE X a ta)(hb:PE X b tb):PE X (.BinOp a op b pos) (tOp r ta tb):=by intro pins s Z H Q I h;exact wpAny_BinOp (qnj ha hb I h λv u s2 x y H2 I2 rx ry q=>ho pins s2 Z H2 x y v u Q I2 rx ry q)
def qnl{op:UnaryOp}{r:V->Hp->VK->Prop}(ho:UnR X (unaryOp op) r)(ha:PE X a ta):PE X (.UnaryOp op a pos) (tUn r ta):=by intro pins s Z H Q I h;refine UnaryOp_ (thn (ha pins s Z H _ I h) λv s1 hz10=>?_);obtain⟨x,H1,I1,r1,q1⟩:=hz10;exact ho pins s1 Z H1 x v Q I1 r1 q1
def opI{f:aa->aa->Sem aa}{C:Int->Int->Prop}{g:Int->Int->Int}
  (rule:∀(i j:Int) (t u:Tok) (s:ag) (Q:PQ) (E:PQ),C i j->Q (.int (g i j) s.toks) { s with toks:=s.toks+1 }->ak (al X.prog X.w) X.A (f (.int i t) (.int j u)) Q E s) :
  OpR X f (rI C λi j=>.int (g i j)):=by
 intro pins s Z H x y v u Q I rx ry h;obtain⟨i,j,rfl,rfl,hc,q⟩:=h;obtain⟨t,rfl⟩:=rx;obtain⟨t',rfl⟩:=ry;exact rule i j t t' s _ _ hc ⟨.int (g i j),H,I.tok _,⟨_,rfl⟩,q⟩
def qon{f:aa->aa->Sem aa}{g:Int->Int->Int}
  (rule:∀(i j:Int) (t u:Tok) (s:ag) (Q:PQ) (E:PQ),Q (.int (g i j) s.toks) { s with toks:=s.toks+1 }->ak (al X.prog X.w) X.A (f (.int i t) (.int j u)) Q E s) :
  OpR X f (rI0 λi j=>.int (g i j)):=by
 intro pins s Z H x y v u Q I rx ry h;obtain⟨i,j,rfl,rfl,q⟩:=h;obtain⟨t,rfl⟩:=rx;obtain⟨t',rfl⟩:=ry;exact rule i j t t' s _ _ ⟨.int (g i j),H,I.tok _,⟨_,rfl⟩,q⟩
def qmW{f:aa->aa->Sem aa}{g:Int->Int->Bool}
  (rule:∀(i j:Int) (t u:Tok) (s:ag) (Q:PQ) (E:PQ),Q (.bool (g i j)) s->ak (al X.prog X.w) X.A (f (.int i t) (.int j u)) Q E s) :
  OpR X f (rI0 λi j=>.bl (g i j)):=by
 intro pins s Z H x y v u Q I rx ry h;obtain⟨i,j,rfl,rfl,q⟩:=h;obtain⟨t,rfl⟩:=rx;obtain⟨t',rfl⟩:=ry;exact rule i j t t' s _ _ ⟨.bl (g i j),H,I,rfl,q⟩
def qnm(i j:Int):Prop:=j≠0/\j.natAbs < 1073741824
def qo4(i j:Int):Prop:=0<=j/\j<=1000000/\i.natAbs < 2 ^ 64
def qmX(i j:Int):Prop:=(-(2 ^ 64) < i/\i < 2 ^ 64)\/(-(2 ^ 64) < j/\j < 2 ^ 64)
def qmX.ok{i j:Int}(h:qmX i j):IntMulOk i j:=by
 rcases h with ⟨h1,h2⟩|⟨h1,h2⟩
 ·exact .of_left (intBits_le_64 h1 h2)
 ·exact .of_right (intBits_le_64 h1 h2)
def qjP:OpR X (b9 .Add) (rI0 λi j=>.int (i+j)):=qon λ_ _ _ _ _ _ _ q=>add_int q
def qjQ:OpR X (b9 .Sub) (rI0 λi j=>.int (i - j)):=qon λ_ _ _ _ _ _ _ q=>sub_int q
def qjR:OpR X (b9 .Mult) (rI qmX λi j=>.int (i * j)):=opI λ_ _ _ _ _ _ _ hc q=>mul_int q hc.ok
def qe3:OpR X (b9 .FloorDiv) (rI qnm λi j=>.int (i.fdiv j)):=opI λ_ _ _ _ _ _ _ hc q=>floordiv_int hc.1 q (.inl (PyProof.noPylong_small hc.2))
def qhB:OpR X (b9 .Mod) (rI (λ_ j=>j≠0) λi j=>.int (i.fmod j)):=opI λ_ _ _ _ _ _ _ hc q=>mod_int' hc q
def qjS:OpR X (b9 .Pow) (rI qo4 λi j=>.int (i ^ j.toNat)):=opI λ_ _ _ _ _ _ _ hc q=>pow_int_small hc.1 hc.2.1 hc.2.2 q
def unI{f:aa->Sem aa}{g:Int->Int}
  (rule:∀(i:Int) (t:Tok) (s:ag) (Q:PQ) (E:PQ),Q (.int (g i) s.toks) { s with toks:=s.toks+1 }->ak (al X.prog X.w) X.A (f (.int i t)) Q E s) :
  UnR X f (rU λi=>.int (g i)):=by
 intro pins s Z H x v Q I rx h;obtain⟨i,rfl,q⟩:=h;obtain⟨t,rfl⟩:=rx;exact rule i t s _ _ ⟨.int (g i),H,I.tok _,⟨_,rfl⟩,q⟩
def qjT:UnR X (unaryOp .USub) (rU λi=>.int (-i)):=unI λ_ _ _ _ _ q=>neg_int q
def qa4{pins:PP}{Z:St}{H:Hp}{s:ag}{Q:VK}{k k':Bool}(I:Inv X pins Z H s)(q:Q (.bl k) H)(e:k=k'):EP X pins Z Q (.bool k') s:=by subst e;exact{.bl k,H,I,rfl,q}
def qnn:OpR X (bv .Lt) (rI0 λi j=>.bl (decide (i < j))):=qmW λ_ _ _ _ _ _ _ q=>lt_int q
def qno:OpR X (bv .LtE) (rI0 λi j=>.bl (decide (i<=j))):=qmW λ_ _ _ _ _ _ _ q=>le_int q
def qnp:OpR X (bv .Gt) (rI0 λi j=>.bl (decide (j < i))):=qmW λ_ _ _ _ _ _ _ q=>gt_int q
def qnq:OpR X (bv .GtE) (rI0 λi j=>.bl (decide (j<=i))):=qmW λ_ _ _ _ _ _ _ q=>ge_int q
def qcT:OpR X (bv .In) (λx y H Q=>∃i j,x=.str i/\y=.str j/\Q (.bl (!(iJ j i 0 j.length 1).isEmpty)) H):=by intro pins s Z H x y v u Q I rx ry h;obtain⟨i,j,rfl,rfl,q⟩:=h;obtain⟨t,rfl⟩:=rx;obtain⟨t',rfl⟩:=ry;exact in_str (qa4 I q rfl)
def qjU:OpR X (bv .Is) (λx y H Q=>y=.non/\Q (.bl (decide (x=.non))) H):=by
 intro pins s Z H x y v u Q I rx ry h;obtain⟨rfl,q⟩:=h;cases ry;refine is_none_gen (qa4 I q ?_)
 cases x<;>first
  | (cases rx;rfl)
  | (obtain⟨t,rfl⟩:=rx;rfl)
def qhC:OpR X (bv .IsNot) (λx y H Q=>y=.non/\Q (.bl (!decide (x=.non))) H):=by
 intro pins s Z H x y v u Q I rx ry h;obtain⟨rfl,q⟩:=h;cases ry;refine isnot_none_gen (qa4 I q ?_)
 cases x<;>first
  | (cases rx;rfl)
  | (obtain⟨t,rfl⟩:=rx;rfl)
def Q7:OpR X (bv .NotIn) (λx y H Q=>∃i j,x=.str i/\y=.str j/\Q (.bl (!(!(iJ j i 0 j.length 1).isEmpty))) H):=by intro pins s Z H x y v u Q I rx ry h;obtain⟨i,j,rfl,rfl,q⟩:=h;obtain⟨t,rfl⟩:=rx;obtain⟨t',rfl⟩:=ry;exact notIn_str (qa4 I q rfl)
def qhD{op:aR}{r:R2}(ho:OpR X (bv op) r)(ha:PE X a ta)(hb:PE X b tb)(hm:behindInMarks op b=false):PE X (.Compare a [op] [b] pos) (tOp r ta tb):=by intro pins s Z H Q I h;exact wpAny_Compare1 (qnj ha hb I h λv u s2 x y H2 I2 rx ry q=>ho pins s2 Z H2 x y v u Q I2 rx ry q) hm
def qjV(t:TE):TT:=λZ H Q=>t Z H λx H'=>∃k,x=.bl k/\Q k H'
def qhE{op:aR}{r:R2}(ho:OpR X (bv op) r)(ha:PE X a ta)(hb:PE X b tb)(hm:behindInMarks op b=false):PT X (.Compare a [op] [b] pos) (qjV (tOp r ta tb)):=by intro pins s Z H Q I h;refine wpAny_isTrue_Compare1 (thn (ha pins s Z H _ I h) λv s1 hz11=>?_) hm;obtain⟨x,H1,I1,r1,q1⟩:=hz11;refine thn (hb pins s1 Z H1 _ I1 q1) λu s2 hz12=>?_;obtain⟨y,H2,I2,r2,q2⟩:=hz12;refine thn (ho pins s2 Z H2 x y v u _ I2 r1 r2 q2) λc s3 hz13=>?_;obtain⟨z,H3,I3,r3,k,e,q3⟩:=hz13;subst e;cases r3;exact eY ⟨H3,I3,q3⟩
def qjW(r r':R2)(ta tb tc:TE):TE:=λZ H Q=>ta Z H λx H1=>tb Z H1 λy H2=>r x y H2 λz H3=>∃k,z=.bl k/\
 (if k=true then tc Z H3 λw' H4=>r' y w' H4 Q else Q (.bl false) H3)
theorem qe4{op op':aR}{r r':R2}(ho:OpR X (bv op) r)(ho':OpR X (bv op') r')(ha:PE X a ta)(hb:PE X b tb)(hc:PE X c tc)
  (hm:lastMarks [op,op'] [b,c]=false:=by with_unfolding_all rfl):PT X (.Compare a [op,op'] [b,c] pos) (qjV (qjW r r' ta tb tc)):=by
 intro pins s Z H Q I h;refine isTrue_chain (thn (ha pins s Z H _ I h) λv s1 hz17=>?_) hm;obtain⟨x,H1,I1,r1,q1⟩:=hz17;refine test_link (thn (hb pins s1 Z H1 _ I1 q1) λu s2 hz18=>?_);obtain⟨y,H2,I2,r2,q2⟩:=hz18;refine thn (ho pins s2 Z H2 x y v u _ I2 r1 r2 q2) λd s3 hz19=>?_;obtain⟨z,H3,I3,r3,k,e,q3⟩:=hz19;subst e;cases r3;refine eY ?_
 cases k with
 |false=>obtain⟨k',e',q'⟩:=q3;cases e';exact ite_ff ⟨H3,I3,q'⟩
 |true=>refine ite_tt (test_last (thn (hc pins s3 Z H3 _ I3 q3) λw' s4 hz20=>?_));obtain⟨z',H4,I4,r4,q4⟩:=hz20;refine thn (ho' pins s4 Z H4 y z' u w' _ I4 r2 r4 q4) λd' s5 hq1=>?_;obtain⟨z2,H5,I5,r5,k2,e2,q5⟩:=hq1;subst e2;cases r5;exact eY ⟨H5,I5,q5⟩
def qmY(K:Frag)(x:V)(H:Hp)(k:Bool):Prop:=
 match x with
 |.non=>k=false
 |.bl b=>k=b
 |.int i=>k=(i != 0)
 |.str y=>y.length<=sizeLine/\k=((y.length:Int) != 0)
 |.byt y=>y.size<=sizeLine/\k=((y.size:Int) != 0)
 |.ref p=>(∃xs,SqL K H p xs/\k = !xs.isEmpty)\/(∃xs,SqT K H p xs/\k = !xs.isEmpty)\/∃kvs,H p=some (.dK kvs)/\k = !kvs.isEmpty
 |_=>False
def qb5{U:Type}{kvs:List (U×V)}{vs:List (U×aa)}(r:KV kvs vs):(!vs.isEmpty) = !kvs.isEmpty:=by cases r<;>rfl
def YD{xs:List V}{its:List aa}(r:qu xs its):(!its.toArray.isEmpty) = !xs.isEmpty:=by cases r<;>simp
def JP:(sizeLine:Nat) < 2 ^ 63:=by rw[sizeLine_eq];decide
theorem qjX:qo3 X (λx H Q=>∃k,qmY X.K x H k/\Q k H):=by
 intro pins s Z H x v Q I rx h;obtain⟨k,e,q⟩:=h;have hl:=JP;have hs:sizeLine=16777216:=sizeLine_eq
 cases x with
 |non=>cases rx;have e':k=false:=e;subst e';exact truthy_none ⟨H,I,q⟩
 |bl b=>cases rx;have e':k=b:=e;subst e';exact eY ⟨H,I,q⟩
 |int i=>obtain⟨t,rfl⟩:=rx;have e':k=(i != 0):=e;subst e';exact PySem.P.truthy_int ⟨H,I,q⟩
 |str y=>obtain⟨t,rfl⟩:=rx;obtain⟨hy,e'⟩:y.length<=sizeLine/\k=((y.length:Int) != 0):=e;subst e';exact PySem.P.truthy_str (1:) ⟨H,I.tok _,q⟩
 |byt y=>obtain⟨t,rfl⟩:=rx;obtain⟨hy,e'⟩:y.size<=sizeLine/\k=((y.size:Int) != 0):=e;subst e';exact PySem.W.truthy_bytes (1:) ⟨H,I.tok _,q⟩
 |ref p=>
  cases rx;have e':(∃xs,SqL X.K H p xs/\k = !xs.isEmpty)\/(∃xs,SqT X.K H p xs/\k = !xs.isEmpty)\/∃kvs,H p=some (.dK kvs)/\k = !kvs.isEmpty:=e;rcases e' with ⟨xs,hx,e'⟩|⟨xs,hx,e'⟩|⟨kvs,hx,e'⟩
  ·subst e';obtain⟨its,r,pl,hz⟩:=I.list hx;have hlen:=r.length;exact wpAny_truthy_list pl.isList (by simp![bj];lia) ⟨H,I.tok _,by rw[YD r];exact q⟩
  ·subst e';obtain⟨its,r,pl,hz⟩:=I.tuple hx;have hlen:=r.length;exact truthy_tuple pl (by simp![bj];lia) ⟨H,I.tok _,by rw[YD r];exact q⟩
  ·subst e';obtain⟨hz,hS,vs,r,m⟩:kvs.length<=sizeLine/\(p == eD)=false/\∃vs,KV kvs vs/\s.heap.DictOf (qt X.prog X.w) p vs:=I.hok p _ hx;have hlen:kvs.length=vs.length:=Paired.length r;exact wpAny_truthy_dict hS m (1:) ⟨H,I.tok _,by rw[qb5 r];exact q⟩
 |_=>exact(show False from e).elim
def qe5(ha:PE X a ta)(he:∀whole,isTrue a X.env whole=(do let v<-whole;dZ a.pos;cJ [v] (truthy v))) :
  PT X a (λZ H Q=>ta Z H λx H'=>∃k,qmY X.K x H' k/\Q k H'):=by
 intro pins s Z H Q I h;refine isTrue_plain (thn (ha pins s Z H _ I h) λv s1 hz21=>?_) (he _);obtain⟨x,H1,I1,r1,q1⟩:=hz21;exact qjX pins s1 Z H1 x v Q I1 r1 q1
def qb6:OpR X (b9 .Add) (λx y H Q=>∃i j,x=.str i/\y=.str j/\i.length+j.length<=sizeLine/\Q (.str (i++j)) H):=by intro pins s Z H x y v u Q I rx ry h;obtain⟨i,j,rfl,rfl,hz,q⟩:=h;obtain⟨t,rfl⟩:=rx;obtain⟨t',rfl⟩:=ry;exact add_str (λt' tk=>{.str (i++j),H,I.tok _,{_,rfl},q}) hz
theorem yt{x:V}{us:List aa}(r:qu [x] us):∃u,us=[u]/\qK x u:=by
 cases r with
 |cons r1 r2=>cases r2;exact{_,rfl,r1}
theorem Q8{x y:V}{us:List aa}(r:qu [x,y] us):∃u w',us=[u,w']/\qK x u/\qK y w':=by
 cases r with
 |cons r1 r2=>
  cases r2 with
  |cons r3 r4=>cases r4;exact{_,_,rfl,r1,r3}
def qcU(hc:X.calm=true):qO X (.builtin "max") (λxs H Q=>∃i j,xs=[.int i,.int j]/\Q (.int (if j > i then j else i)) H):=by
 intro pins s Z H xs us Q I r h;obtain⟨i,j,rfl,q⟩:=h;obtain⟨u,w',rfl,⟨t,rfl⟩,⟨t',rfl⟩⟩:=Q8 r;refine max_two_ints (I.ok.hd hc) λh' tk k=>{_,H,I.kept k,?_,q}
 by_cases hj:j > i
 ·rw[if_pos hj,if_pos hj];exact{_,rfl}
 ·rw[if_neg hj,if_neg hj];exact{_,rfl}
def qcV(hc:X.calm=true):qO X (.builtin "min") (λxs H Q=>∃i j,xs=[.int i,.int j]/\Q (.int (if j < i then j else i)) H):=by
 intro pins s Z H xs us Q I r h;obtain⟨i,j,rfl,q⟩:=h;obtain⟨u,w',rfl,⟨t,rfl⟩,⟨t',rfl⟩⟩:=Q8 r;refine min_two_ints (I.ok.hd hc) λh' tk k=>{_,H,I.kept k,?_,q}
 by_cases hj:j < i
 ·rw[if_pos hj,if_pos hj];exact{_,rfl}
 ·rw[if_neg hj,if_neg hj];exact{_,rfl}
def Q9:qO X (.type "int") (λxs H Q=>(∃i,xs=[.int i]/\Q (.int i) H)\/∃k,xs=[.bl k]/\Q (.int (if k then 1 else 0)) H):=by
 intro pins s Z H xs us Q I r h;rcases h with ⟨i,rfl,q⟩|⟨k,rfl,q⟩
 ·obtain⟨u,rfl,t,rfl⟩:=yt r;exact call_int_int ⟨.int i,H,I,⟨_,rfl⟩,q⟩
 ·obtain⟨u,rfl,r1⟩:=yt r;cases r1;exact call_int_bool ⟨.int (if k then 1 else 0),H,I.tok _,⟨_,rfl⟩,q⟩
end
structure ObjM(h:au)(x dx C:ad)(mA:PR):Prop where
 obj:h.get? x=some (eh C dx)
 ns:h.Ns1 dx mA
 ne:dx≠x
def qcW{h:au}{dx:ad}{mA:PR}(n:h.Ns1 dx mA):∃od,h.get? dx=some od/\∀name,gP name od=some (mA name):=by
 obtain⟨o,es,ep,ho,hd,hk,_,hm⟩:=n;refine{o,ho,λname=>?_};have e:=hm name;unfold nsFind findBy at e;rw[<-Array.find?_toList]at e;unfold gP;rw[hd];dsimp only;split
 ·rename_i y q;rw[q]at e;exact congrArg some e
 ·rename_i q;rw[q]at e
  have a:es.toList.any (·.refKey)=false:=by rw[List.any_eq_false];intro y hy;obtain⟨z,t,hkey⟩:=hk y (Array.mem_toList_iff.mp hy);simp[DictEntry.refKey,hkey]
  have a':¬ es.toList.any (·.refKey)=true:=by rw[a];exact dQ
  rw[if_neg a'];exact congrArg some e
def ObjM.look{h:au}{x dx C:ad}{mA:PR}(I:ObjM h x dx C mA):∃od,PySem.W.InstAt h x (eh C dx) C (some od)/\∀name,gP name od=some (mA name):=
 let ⟨od,ho,hl⟩:=qcW I.ns
 ⟨od,⟨I.obj,rfl,rfl,ho⟩,hl⟩
section
variable{prog:aE}{w:aB}{A:aH}{E:PQ}{s:ag}{K:Frag}{x dx C f:ad}{mA:PR}{name:Str}{v:aa}
def qhF{expr:Bool}{Q:PQ}(X:K.In s.heap)(I:ObjM s.heap x dx C mA)(hg:gQ K C name=true)(hh:iK K C=true)
  (ha:dh K (.ref C) name=some none) (hv:mA name=some v) (hv':PySem.W.handedIn v=true) (h:Q v { s with toks:=s.toks+1 }) :
  ak (al prog w) A (getAttr (.ref x) name expr) Q E s:=by
 obtain⟨od,J,hl⟩:=I.look;exact PySem.W.get_value X J (iL hg).1 (PySem.W.findObj_own hh ha rfl (by rw[hl,hv])) hv' h
def qe6{pl:Sem Bool}{Q:aa×List aa->ag->Prop}(X:K.In s.heap)(I:ObjM s.heap x dx C mA)(hg:gQ K C name=true)
  (hf:dh K (.ref C) name=some (some (.ref f))) (ht:iM K (.ref f)=true) (hv:mA name=none) (h:Q (.ref f,[.ref x]) s) :
  ak (al prog w) A (fN (.ref x) name pl) Q E s:=by
 obtain⟨od,J,hl⟩:=I.look;exact PySem.W.method_fn X J (iL hg).1 (iL hg).2 hf (beq_iff_eq.mp ht) (by show(gP name od).map (·.isSome)=some false;rw[hl,hv];rfl) h
def qhG{ns:List Str}{Q:Unit->ag->Prop}(X:K.In s.heap)(I:ObjM s.heap x dx C mA)
  (hs:dh K (.ref C) "__setattr__" = some (some (.builtin "object.__setattr__"))) (hp:PySem.W.plainOver K C=true) (ht:iN K C name=some none) (hh:iK K C=true)
  (hw:i7 mA ns) (hsz:ns.length<=sizeLine)
  (h:∀h',ObjM h' x dx C (λy=>if y=name then some v else mA y)->dP dx s.heap h'->Q () { s with heap:=h',toks:=s.toks+2 }) :
  ak (al prog w) A (setAttr (.ref x) name v) Q E s:=by
 obtain⟨od,J,hl⟩:=I.look;refine PySem.W.set_plain X J hs (PySem.W.osa_open (s:={ s with toks:=s.toks+1 }) (r:=none) X J hp ht λb=>?_);obtain⟨cd,hc,hd'⟩:=PySem.W.any_some hh;have hx:s.heap.get? x=some ⟨.ref C,some dx,.plain,#[]⟩:=I.obj;refine ai (ax (ai (ai (wpAny_loadPart hx (ai (PySem.W.Looks.here (s:={ s with toks:=s.toks+1 }) (PySem.W.looks_clsIn X hc) ?_))))));rw[hd'];refine ax (a:=some dx) (ai (ax (ai ?_)));refine wpAny_nsSet1 (s:={ s with toks:=s.toks+1 }) I.ns λh' hn2 hs2=>?_;obtain⟨oD,esD,epD,hoD,hdD,hcD⟩:=hn2.count (PySem.Within.cons name v hw);refine ai (wpAny_lookBehind hoD (by rw[hdD];exact pastItsLine_dict (bz hcD (by rw[aQ];lia))) ?_);exact ax (h _ ⟨(hs2.2 _ (cj I.ne)).trans I.obj,hn2,I.ne⟩ hs2)
def qe7{R:Result->ag->Prop}{vs:List aa}{kw:List (Str×aa)}(X:K.In s.heap)(hm:PySem.W.makesIn K C=true)
  (hi:dh K (.ref C) "__init__" = some (some (.ref f))) (hf:PySem.W.typeIn K (.ref f)=some (.type "function"))
  (h:de (al prog w) (A.under (.builtin "type.__call__" ⟨.ref C::vs,kw⟩)) (.call (.ref f) ⟨.ref (s.heap.objs.size+1)::vs,kw⟩) (PySem.W.InitBack (s.heap.objs.size+1) R)
   { s with heap:=(s.heap.push dO).push (eh C s.heap.objs.size) }) :
  de (al prog w) A (.call (.ref C) ⟨vs,kw⟩) R s:=by
 obtain⟨hh,g,d,t,os⟩:=s;exact PySem.W.make_core (PySem.W.makes_of X hm) (PySem.W.looks_findIn X hi) (λself=>PySem.W.bind_fn X self hf) (.inl rfl) h
end
def qaj(f:Str)(v:V):List (Str×V)->List (Str×V)
 |[]=>[(f,v)]
 | (g,x)::r=>if g=f then (g,v)::r else (g,x)::qaj f v r
theorem JQ(f g:Str)(v:V):∀fs:List (Str×V),(qaj f v fs).lookup g=if g=f then some v else fs.lookup g
 |[]=>by
  show eK g [(f,v)]=_
  by_cases h:g=f
  ·have hb:(g == f)=true:=beq_iff_eq.mpr h;simp![eK,hb,if_pos h]
  ·have hb:(g == f)=false:=beq_eq_false_iff_ne.mpr h;simp![eK,hb,if_neg h]
 | (k,x)::r=>by
  have ih:=JQ f g v r;rw[show qaj f v ((k,x)::r)=(if k=f then (k,v)::r else (k,x)::qaj f v r) from rfl]
  by_cases hk:k=f
  ·rw[if_pos hk]
   by_cases h:g=k
   ·have hb:(g == k)=true:=beq_iff_eq.mpr h;simp![eK,hb,if_pos (h.trans hk)]
   ·have hb:(g == k)=false:=beq_eq_false_iff_ne.mpr h;simp![eK,hb,if_neg (λe:g=f=>h (e.trans hk.symm))]
  ·rw[if_neg hk]
   by_cases h:g=k
   ·have hb:(g == k)=true:=beq_iff_eq.mpr h;simp![eK,hb,if_neg (λe:g=f=>hk (h.symm.trans e))]
   ·have hb:(g == k)=false:=beq_eq_false_iff_ne.mpr h;simp![eK,hb];exact ih
theorem JR(f:Str)(v:V):∀fs:List (Str×V),f∈(qaj f v fs).map (·.1)/\∀g,g∈fs.map (·.1)->g∈(qaj f v fs).map (·.1)
 |[]=>{by simp[qaj],λg h=>by simp at h}
 | (k,x)::r=>by
  obtain⟨i1,i2⟩:=JR f v r;rw[show qaj f v ((k,x)::r)=(if k=f then (k,v)::r else (k,x)::qaj f v r) from rfl]
  by_cases hk:k=f
  ·rw[if_pos hk];subst hk;exact{by simp,λg h=>(-h:)}
  ·rw[if_neg hk];refine{?_,λg h=>?_}
   ·rw[av];exact bI _ i1
   ·rw[av]at h ⊢;rcases aF.mp h with e|e
    ·exact aF.mpr (.inl e)
    ·exact bI _ (i2 g e)
theorem JS(f:Str)(v:V):∀fs:List (Str×V),(qaj f v fs).length<=fs.length+1
 |[]=>by simp[qaj]
 | (k,x)::r=>by
  have ih:=JS f v r;rw[show qaj f v ((k,x)::r)=(if k=f then (k,v)::r else (k,x)::qaj f v r) from rfl]
  by_cases hk:k=f
  ·rw[if_pos hk,aQ,aQ];lia
  ·rw[if_neg hk,aQ,aQ];lia
theorem qaZ.some_of{v:V}{o:Option aa}(r:qaZ (some v) o):∃u,o=some u/\qK v u:=by
 cases o with
 |none=>exact(show False from r).elim
 |some u=>exact⟨u,rfl,r⟩
theorem qaZ.none_of{o:Option aa}(r:qaZ none o):o=none:=by
 cases o with
 |none=>rfl
 |some u=>exact(show False from r).elim
theorem qcX{v:V}{u:aa}(r:qK v u):PySem.W.handedIn u=true:=by
 cases v with
 |non=>cases (show u=Value.none from r);rfl
 |bl b=>cases (show u=gW b from r);rfl
 |int i=>obtain⟨t,e⟩:=(show∃t,u=Value.int i t from r);cases e;rfl
 |str x=>obtain⟨t,e⟩:=(show∃t,u=Value.str x t from r);cases e;rfl
 |byt b=>obtain⟨t,e⟩:=(show∃t,u=Value.bytes b t from r);cases e;rfl
 |flt b=>obtain⟨t,e⟩:=(show∃t,u=Value.float b t from r);cases e;rfl
 |ref a=>cases (show u=bm a from r);rfl
 |ty n=>cases (show u=dk n from r);rfl
section
variable{P:aE}{w:aB}{H H':Hp}{h h':au}{a C dx:ad}{fs fs':List (Str×V)}
def Y6(hok:HOk P w H h)(e:H a=some (.ins C dx fs)):∃mA,ObjM h a dx C mA/\(∀f,qaZ (fs.lookup f) (mA f))/\i7 mA (fs.map (·.1))/\fs.length<=1000/\H dx=some (.own a):=by obtain⟨d,z,ne,ob,mA,n,r,q⟩:=(show qH P w H h a (.ins C dx fs) from hok a _ e);exact{mA,⟨ob,n,ne⟩,r,q,z,d}
end
structure Cls(K:Frag)(C:ad):Prop where
 pg:gQ K C Str.empty=true
 hd:iK K C=true
 po:PySem.W.plainOver K C=true
 sa:dh K (.ref C) "__setattr__" = some (some (.builtin "object.__setattr__"))
def Cls.get{K:Frag}{C:ad}(c:Cls K C)(f:Str):gQ K C f=true:=c.pg
def ze(K:Frag)(C:ad)(f:Str):Prop:=dh K (.ref C) f=some none
def ze.taker{K:Frag}{C:ad}{f:Str}(n:ze K C f):iN K C f=some none:=by unfold iN;rw[show dh K (.ref C) f=some none from n];rfl
structure Meth(K:Frag)(C:ad)(m:Str)(f:ad):Prop where
 at_:dh K (.ref C) m=some (some (.ref f))
 fn:iM K (.ref f)=true
 kp:dz K (.ref f)=true
section
variable{X:Cx}{pins:PP}{Z:St}{H:Hp}{s:ag}{a C dx:ad}{fs:List (Str×V)}{f:Str}{v:V}{A:aH}{E:PQ}
def qb7{b:Bool}{Q:PQ}(I:Inv X pins Z H s)(e:H a=some (.ins C dx fs))(c:Cls X.K C)(n:ze X.K C f)(l:fs.lookup f=some v)
  (h:∀u s',Inv X pins Z H s'->qK v u->Q u s'):ak (al X.prog X.w) A (getAttr (.ref a) f b) Q E s:=by
 obtain⟨mA,O,r,_,_,_⟩:=Y6 I.hok e;obtain⟨u,hu,ru⟩:=qaZ.some_of (v:=v) (o:=mA f) (by rw[<-l];exact r f);exact qhF I.kIn O (c.get f) c.hd n hu (qcX ru) (h u _ (I.tok _) ru)
def YE{m:Str}{g:ad}{pl:Sem Bool}{Q:aa×List aa->ag->Prop}(I:Inv X pins Z H s)(e:H a=some (.ins C dx fs))(c:Cls X.K C)(k:Meth X.K C m g)(l:fs.lookup m=none)
  (h:Q (.ref g,[.ref a]) s):ak (al X.prog X.w) A (fN (.ref a) m pl) Q E s:=by
 obtain⟨mA,O,r,_,_,_⟩:=Y6 I.hok e;have hn:mA m=none:=qaZ.none_of (by rw[<-l];exact r m);exact qe6 I.kIn O (c.get m) k.at_ k.fn hn h
def qb8{y:V}{u:aa}{Q:Unit->ag->Prop}(I:Inv X pins Z H s)(e:H a=some (.ins C dx fs))(c:Cls X.K C)(n:ze X.K C f)(hl:fs.length < 1000)(ry:qK y u)
  (h:∀s',Inv X pins Z (upd H a (.ins C dx (qaj f y fs))) s'->Q () s'):ak (al X.prog X.w) A (setAttr (.ref a) f u) Q E s:=by
 obtain⟨mA,O,r,wi,_,ho⟩:=Y6 I.hok e;have hz:(fs.map (·.1)).length<=sizeLine:=by rw[aD,sizeLine_eq];lia
 refine qhG I.kIn O c.sa c.po n.taker c.hd wi hz λh' O' sb=>h _ ?_;have hd:∃o,h'.get? dx=some o:=let ⟨o,_,_,e',_⟩:=O'.ns;⟨o,e'⟩;refine I.write (x:=a) (e:=dx) (by rw[e];exact aJ) (.inr ho) (λb q hb z=>(sb.2 b hb).trans z) hd ?_;refine{by rw[qd O.ne];exact ho,?_,O.ne,O'.obj,_,O'.ns,λg=>?_,λg hg=>?_}
 ·have:=JS f y fs;lia
 ·show qaZ ((qaj f y fs).lookup g) (if g=f then some u else mA g);rw[JQ]
  by_cases q:g=f
  ·rw[if_pos q,if_pos q];exact ry
  ·rw[if_neg q,if_neg q];exact r g
 ·by_cases q:g=f
  ·rw[q];exact(JR f y fs).1
  ·refine(JR f y fs).2 g (wi g λz=>hg ?_);show(if g=f then some u else mA g)=none;rw[if_neg q];exact z
def Inv.made(I:Inv X pins Z H s):Inv X pins Z (upd (upd H s.heap.objs.size (.own (s.heap.objs.size+1))) (s.heap.objs.size+1) (.ins C s.heap.objs.size []))
  { s with heap:=(s.heap.push dO).push (eh C s.heap.objs.size) }:=by
 have e1:(s.heap.push dO).get? s.heap.objs.size=some dO:=bg s.heap rfl
 have e2:((s.heap.push dO).push (eh C s.heap.objs.size)).get? (s.heap.objs.size+1)=some (eh C s.heap.objs.size):=by
  have:=bg (s.heap.push dO) (o:=eh C s.heap.objs.size) rfl
  rwa[eo]at this
 have e3:(s.heap.push dO).Ns s.heap.objs.size (λ_=>none):={dO,#[],_,e1,rfl,(λe he=>absurd he (5:)),λ_=>rfl};have I1:=I.laid (a:=s.heap.objs.size) (o:=.own (s.heap.objs.size+1)) (h':=s.heap.push dO) (t':=s.toks) (λb u q=>aP _ q) (az _) ⟨_,e1⟩;refine I1.laid (a:=s.heap.objs.size+1) (o:=.ins C s.heap.objs.size []) (t':=s.toks) (λb u q=>aP _ q) (f7 (eo _ _)) ?_;have ne:s.heap.objs.size≠s.heap.objs.size+1:=aZ (f8 _);refine{by rw[qd ne,qf],bd _,ne,e2,λ_=>none,(Heap.Ns1.of_empty e3).at λo q=>aP _ q,λ_=>aJ,λy hy=>absurd rfl hy}
def qhH{prog:aE}{w:aB}{env:Env}{e:ae}{f:Str}{pos:Pos}{s:ag}{Q:PQ}(hb:fO e f env (eval e env)=eval e env)
  (h:ak (al prog w) A (eval e env) (λo s₁=>ak (al prog w) A (getAttr o f true) Q E s₁) E s):ak (al prog w) A (eval (.Attribute e f pos) env) Q E s:=
 Attribute_any_ h (by rw[arm_eval_Attribute,hb])
end
def qo5(K:Frag)(ta:TE)(f:Str):TE:=λZ H Q=>ta Z H λx H1=>∃a C dx fs v,x=.ref a/\H1 a=some (.ins C dx fs)/\Cls K C/\ze K C f/\fs.lookup f=some v/\Q v H1
def qo6(K:Frag)(ta tv:TE)(f:Str):TS:=λD Z H=>tv Z H λy H1=>ta Z H1 λx H2=>∃a C dx fs,x=.ref a/\H2 a=some (.ins C dx fs)/\Cls K C/\ze K C f/\fs.length < 1000/\
 D.nx Z (upd H2 a (.ins C dx (qaj f y fs)))
section
variable{X:Cx}{o e value:ae}{f:Str}{pos pos' tpos:Pos}{ta tv:TE}
def qjY(he:PE X e ta)(hb:fO e f X.env (eval e X.env)=eval e X.env):PE X (.Attribute e f pos) (qo5 X.K ta f):=by intro pins s Z H Q I h;refine qhH hb (thn (he pins s Z H _ I h) λu s1 hq1=>?_);obtain⟨x,H1,I1,rx,a,C,dx,fs,v,ex,ea,c,n,l,q⟩:=hq1;subst ex;obtain rfl:u=bm a:=rx;exact qb7 I1 ea c n l λu' s2 I2 ru=>⟨v,H1,I2,ru,q⟩
def Za(ha:PE X o ta)(hv:PE X value tv)(hs:fM value (some (.Attribute o f pos')) pos.line X.env=pure false):PS X (.Assign [.Attribute o f pos'] value pos) (qo6 X.K ta tv f):=by intro pins s Z H D I h;refine plainObj_wpAny_Assign_Attribute (thn (hv pins s Z H _ I h) λu s1 hz22=>?_) hs;obtain⟨y,H1,I1,ry,q⟩:=hz22;refine thn (ha pins s1 Z H1 _ I1 q) λov s2 hz23=>?_;obtain⟨x,H2,I2,rx,a,C,dx,fs,ex,ea,c,n,l,q2⟩:=hz23;subst ex;obtain rfl:ov=bm a:=rx;exact qb8 I2 ea c n l ry λs3 I3=>{Z,_,I3,q2}
end
section
variable{X:Cx}{pins:PP}{Z:St}{H:Hp}{s:ag}{A:aH}{E:PQ}{Q:PQ}{c:aa}{b:Bool}
inductive TyOf(K:Frag)(H:Hp):V->aa->Prop where
 | non:TyOf K H .non (.type "NoneType")
 | bl (x:Bool):TyOf K H (.bl x) (.type "bool")
 | int (i:Int):TyOf K H (.int i) (.type "int")
 | str (x:Str):TyOf K H (.str x) (.type "str")
 | flt (x:UInt64):TyOf K H (.flt x) (.type "float")
 | lst {a:ad} {xs:List V} (e:H a=some (.lst xs)):TyOf K H (.ref a) (.type "list")
 | frz {a:ad} {o:Obj} {xs:List V} (e:H a=some (.frz o (.lst xs))):TyOf K H (.ref a) (.type "list")
 | tup {a:ad} {xs:List V} (e:H a=some (.tup xs)):TyOf K H (.ref a) (.type "tuple")
 | dK {a:ad} {kvs:List (Key×V)} (e:H a=some (.dK kvs)):TyOf K H (.ref a) (.type "dict")
 | dT {a:ad} {kvs:List (List Key×V)} (e:H a=some (.dT kvs)):TyOf K H (.ref a) (.type "dict")
 | ins {a C dx:ad} {fs:List (Str×V)} (e:H a=some (.ins C dx fs)) (cl:Cls K C) (ha:dh K (.ref C) "__class__" = some (some (.builtin "object.__class__")))
   (hn:iP K (.builtin "object.__class__") "__get__" = some (some (.builtin "getset_descriptor.__get__"))) (htk:iQ K (.builtin "object.__class__")=some true)
   (hm:PySem.W.mroIn K C (.type "object")=some true):TyOf K H (.ref a) (.ref C)
theorem Zb{x:V}{u t:aa}(I:Inv X pins Z H s)(rx:qK x u)(ty:TyOf X.K H x t)(e:di X.K t c=some b)(h:∀tk,Q (.bool b) { s with toks:=tk }) :
  ak (al X.prog X.w) A (call (.builtin "isinstance") [u,c]) Q E s:=by
 cases ty with
 |non=>cases (show u=Value.none from rx);exact dj PySem.W.kitx_none I.kIn aJ e (λz=>nomatch z) h
 |bl y=>cases (show u=gW y from rx);exact dj PySem.W.kitx_bool I.kIn aJ e (λz=>nomatch z) h
 |int i=>obtain⟨t,q⟩:=(show∃t,u=Value.int i t from rx);cases q;exact dj PySem.W.kitx_int I.kIn aJ e (λz=>nomatch z) h
 |str y=>obtain⟨t,q⟩:=(show∃t,u=Value.str y t from rx);cases q;exact dj PySem.W.kitx_str I.kIn aJ e (λz=>nomatch z) h
 |flt y=>obtain⟨t,q⟩:=(show∃t,u=Value.float y t from rx);cases q;exact dj PySem.W.kitx_float I.kIn aJ e (λz=>nomatch z) h
 |@lst a xs ea=>
  cases (show u=bm a from rx)
  obtain⟨_,_,n,_,h1⟩:=(show qH X.prog X.w H s.heap a (.lst xs) from I.hok a _ ea);exact dj PySem.W.kitx_list I.kIn ⟨_,h1,rfl⟩ e (λz=>nomatch z) h
 |@frz a ob xs ea=>
  cases (show u=bm a from rx)
  obtain⟨_,_,_,n,_,h1⟩:=(show qH X.prog X.w H s.heap a (.frz ob (.lst xs)) from I.hok a _ ea);exact dj PySem.W.kitx_list I.kIn ⟨_,h1,rfl⟩ e (λz=>nomatch z) h
 |@tup a xs ea=>
  cases (show u=bm a from rx)
  obtain⟨_,_,_,p⟩:=(show qH X.prog X.w H s.heap a (.tup xs) from I.hok a _ ea);obtain⟨o,h1,h2,_⟩:=p;exact dj PySem.W.kitx_tuple I.kIn ⟨o,h1,h2⟩ e (λz=>nomatch z) h
 |@dK a kvs ea=>
  cases (show u=bm a from rx)
  obtain⟨_,_,vs,_,p⟩:=(show qH X.prog X.w H s.heap a (.dK kvs) from I.hok a _ ea);obtain⟨o,es,ep,h1,h2,_⟩:=p;exact dj PySem.W.kitx_dict I.kIn ⟨o,h1,h2.1⟩ e (λz=>nomatch z) h
 |@dT a kvs ea=>
  cases (show u=bm a from rx)
  obtain⟨_,_,xs,_,o,es,ep,h1,h2,_⟩:=(show qH X.prog X.w H s.heap a (.dT kvs) from I.hok a _ ea);exact dj PySem.W.kitx_dict I.kIn ⟨o,h1,h2.1⟩ e (λz=>nomatch z) h
 |@ins a C dx fs ea cl ha hn htk hm=>
  cases (show u=bm a from rx)
  obtain⟨mA,O,_⟩:=Y6 I.hok ea;obtain⟨od,J,_⟩:=O.look;exact dj (PySem.W.kitx_own (cl.get _) cl.hd ha hn htk hm) I.kIn J e (λz=>nomatch z) h
end
structure Room(k:Nat)(A:aH):Prop where
 hd:A.handled=none
 dp:A.depth+3 * k+5 < recursionLimit
 un:A.units+16 * k+200 < cLine
def Room.deeper{k:Nat}{A:aH}(r:Room (k+1) A)(env:Env):Room k (A.deeper env):=
 ⟨r.hd,by have:=r.dp;show A.depth+1+3 * k+5 < _;lia,by have:=r.un;show A.units+3+16 * k+200 < _;lia⟩
def qb9{A:aH}{C:ad}{us:List aa}{kw:List (Str×aa)}:(A.under (.builtin "type.__call__" ⟨.ref C::us,kw⟩)).depth=A.depth+1:=by first|rfl|simp[i9,Code.weight,Code.isCreation,Code.isGuard,Code.isCaller,Code.frames,ke,guardIds]
def qca{A:aH}{C:ad}{us:List aa}{kw:List (Str×aa)}:(A.under (.builtin "type.__call__" ⟨.ref C::us,kw⟩)).units=A.units+1:=by first|rfl|simp[i9,Code.cUnits,Code.frames,ke]
def Room.make{k:Nat}{A:aH}(r:Room (k+1) A)(C:ad)(us:List aa)(kw:List (Str×aa)):Room k (A.under (.builtin "type.__call__" ⟨.ref C::us,kw⟩)):=
 ⟨r.hd,by have:=r.dp;rw[qb9];lia,by have:=r.un;rw[qca];lia⟩
def Room.depth{k:Nat}{A:aH}(r:Room k A):A.depth < recursionLimit:=by have:=r.dp;lia
def qjq:TA:=λ_ H Q=>Q [] H
def qe8(ta:TE)(tr:TA):TA:=λZ H Q=>ta Z H λx H1=>tr Z H1 λxs H2=>Q (x::xs) H2
section
variable{X:Cx}{e:ae}{es:List ae}{te:TE}{t:TA}{pos:Pos}
def qv:PA X [] qjq:=λ_ _ _ _ H Q I h=>Calls.spliced_nil ⟨[],H,I,.nil,h⟩
def qi(ha:PE X e te)(hr:PA X es t)(hs:aI (e::es) X.env=(false,eval e X.env)::aI es X.env:=by rfl):PA X (e::es) (qe8 te t):=by intro pos pins s Z H Q I h;rw[hs];show ak _ _ (spliced ((false,eval e X.env)::bu pos (aI es X.env))) _ _ s;refine kg (thn (ha pins s Z H _ I h) λu s1 hq1=>?_);obtain⟨x,H1,I1,r1,q1⟩:=hq1;refine thn (hr pos pins s1 Z H1 _ I1 q1) λus s2 hz26=>?_;obtain⟨xs,H2,I2,r2,q2⟩:=hz26;exact{x::xs,H2,I2,.cons r1 r2,q2}
def qo7(t:TA):TE:=λZ H Q=>t Z H λxs H1=>xs.length<=sizeLine/\∀p,H1 p=none->Q (.ref p) (upd H1 p (.tup xs))
def qo8(t:TA):TE:=λZ H Q=>t Z H λxs H1=>xs.length<=sizeLine/\∀p,H1 p=none->Q (.ref p) (upd H1 p (.lst xs))
def qjZ{x1}(h:PA X es t):PE X (.Tuple es x1 pos) (qo7 t):=by intro pins s Z H Q I hq;refine wpAny_Tuple_spliced (thn (h pos pins s Z H _ I hq) λus s1 ⟨xs,H1,I1,r,z,q⟩=>{by rw[<-r.length];exact z,?_});have hf:H1 s1.heap.objs.size=none:=I1.hok.fresh (az _);refine{.ref s1.heap.objs.size,upd H1 s1.heap.objs.size (.tup xs),I1.laid (t':=s1.toks) (λb u e=>aP _ e) (az _) ?_,rfl,q _ hf};exact{z,us,r,{_,bg _ rfl,rfl,_,rfl}}
def qj0(h:PA X es t):PE X (.List es pos) (qo8 t):=by intro pins s Z H Q I hq;refine wpAny_List_spliced (thn (h pos pins s Z H _ I hq) λus s1 ⟨xs,H1,I1,r,z,q⟩=>{by rw[<-r.length];exact z,?_});have hf:H1 s1.heap.objs.size=none:=I1.hok.fresh (az _);refine{.ref s1.heap.objs.size,upd H1 s1.heap.objs.size (.lst xs),I1.laid (t':=s1.toks) (λb u e=>aP _ e) (az _) ?_,rfl,q _ hf};exact{z,us,0,r,bg _ rfl}
end
abbrev Sp:=List V->Hp->VK->XK->Prop
abbrev CXT:=List Env->Hp->ag->XK->aa->ag->Prop
structure Env0(P:aE)(w:aB)(K:Frag)(mg:PR)(base:au)(A:aH)(outer:List Env)(s:ag)(H:Hp):Prop where
 frames:A.frames=some outer
 mod:Mod K mg base
 bs:∀b o,base.get? b=some o->s.heap.get? b=some o/\H b=none
 bsz:base.objs.size<=s.heap.objs.size
 funs:s.heap.FunFrames base outer
 frf:∀b∈frs outer,H b=none
 hok:HOk P w H s.heap
 bare:dX s.gens
def CE(outer:List Env)(P:aE)(w:aB)(H:Hp)(s:ag)(Q:VK)(u:aa)(s':ag):Prop:=
 ∃v H',s'.os=s.os/\dX s'.gens/\Un (frs outer) [] H H' s.heap s'.heap/\HOk P w H' s'.heap/\qK v u/\Q v H'
def CR(CX:CXT)(outer:List Env)(P:aE)(w:aB)(H:Hp)(s:ag)(Q:VK)(E:XK)(r:Result)(s':ag):Prop:=
 match r with
 |.ok (.ret u)=>CE outer P w H s Q u s'
 |.ok _=>False
 |.error e=>CX outer H s E e s'
structure FnOk(P:aE)(w:aB)(K:Frag)(mg:PR)(base:au)(CX:CXT)(k:Nat)(f:ad)(fd:bO)(ps:List Str)(sp:Sp):Prop where
 len:∀vs H Q E,sp vs H Q E->vs.length=ps.length
 run:∀(A:aH) (outer:List Env) (s:ag) (H:Hp) (args:Args) (us:List aa) (vs:List V) (Q:VK) (E:XK),Room k A->Env0 P w K mg base A outer s H->e6 s fd args (ps.zip us)->qu vs us->sp vs H Q E->
  de (al P w) A (.call (.ref f) args) (CR CX outer P w H s Q E) s
def Env0.make{P:aE}{w:aB}{K:Frag}{mg:PR}{base:au}{A:aH}{outer:List Env}{s:ag}{H:Hp}(e:Env0 P w K mg base A outer s H)(C:ad)(us:List aa)(kw:List (Str×aa)) :
  Env0 P w K mg base (A.under (.builtin "type.__call__" ⟨.ref C::us,kw⟩)) outer s H:={by first|exact e.frames|(simpa [i9,Code.envs,ke,pushEnvs] using e.frames),e.mod,e.bs,e.bsz,e.funs,e.frf,e.hok,e.bare}
section
variable{X:Cx}{pins:PP}{Z:St}{H:Hp}{s s':ag}
def Inv.env0(I:Inv X pins Z H s):Env0 X.prog X.w X.K X.mg X.base X.A X.stack s H:=
 ⟨I.ok.frames,I.ok.mod,I.bs,bz I.ok.bsz I.sz,I.stack,I.stkFree,I.hok,I.bare⟩
def Inv.after{Q:VK}{u:aa}(I:Inv X pins Z H s)(h:CE X.stack X.prog X.w H s Q u s'):EP X pins Z Q u s':=by obtain⟨v,H',os,bare,un,hok,r,q⟩:=h;obtain⟨hh,g,d,t,os'⟩:=s';obtain rfl:os'=s.os:=os;exact{v,H',I.call (h':=hh) (g':=g) (d':=d) (t':=t) (ch:=[]) un hok bare (λb z=>absurd z (5:)),r,q}
end
def qe9(sp:Sp)(dvs:List V)(E:XK)(t:TA):TE:=λZ H Q=>t Z H λvs H1=>sp (vs++dvs) H1 Q E
def qhI(C:ad)(m:Str)(sp:Sp)(dvs:List V)(E:XK)(ta:TE)(t:TA):TE:=λZ H Q=>ta Z H λx H1=>∃a dx fs,x=.ref a/\H1 a=some (.ins C dx fs)/\fs.lookup m=none/\
 t Z H1 λvs H2=>sp (x::(vs++dvs)) H2 Q E
def qhJ(C:ad)(sp:Sp)(dvs:List V)(E:XK)(t:TA):TE:=λZ H Q=>t Z H λvs H1=>∀x dx,H1 x=none->H1 dx=none->dx≠x->
 sp (.ref x::(vs++dvs)) (upd (upd H1 dx (.own x)) x (.ins C dx [])) (λv H2=>v=.non/\Q (.ref x) H2) E
def zp(K:Frag)(fd:bO)(ps:List Str)(ds:List aa):Prop:=
 ∀(s:ag) (us:List aa),K.In s.heap->(us++ds).length=ps.length->e6 s fd ⟨us,[]⟩ (ps.zip (us++ds))
def zp.all{K:Frag}{fd:bO}{ps:List Str}(h:∀us:List aa,us.length=ps.length->eE fd ⟨us,[]⟩=pure (ps.zip us)):zp K fd ps []:=λs us _ hl=>by rw[dD]at hl ⊢;exact .of_eq (h us hl)
def jv(CX:CXT)(X:Cx)(E:XK):Prop:=∀(pins:PP) (Z:St) (H:Hp) (s:ag) (e:aa) (s':ag),Inv X pins Z H s->CX X.stack H s E e s'->X.xe e s'
section
variable{X:Cx}{CX:CXT}{k:Nat}{f C:ad}{fd:bO}{ps:List Str}{sp:Sp}{dvs:List V}{ds:List aa}{E:XK}{x m:Str}{p pos apos:Pos}{e o:ae}{es:List ae}{ta:TE}{t:TA}
theorem Zc{pins:PP}{Z:St}{H:Hp}{s:ag}{Q:VK}{us:List aa}{vs:List V}(F:FnOk X.prog X.w X.K X.mg X.base CX k f fd ps sp)(hr:Room k X.A)(hb:zp X.K fd ps ds)(hd:qu dvs ds)(hx:jv CX X E)
  (I:Inv X pins Z H s) (r:qu vs us) (h:sp (vs++dvs) H Q E):ak (al X.prog X.w) X.A (call (.ref f) us) (EP X pins Z Q) X.xe s:=by
 have r2:qu (vs++dvs) (us++ds):=r.append hd;have hl:(us++ds).length=ps.length:=by rw[<-r2.length];exact F.len _ _ _ _ h
 refine wpAny_call (d9 (F.run X.A X.stack s H ⟨us,[]⟩ (us++ds) (vs++dvs) Q E hr I.env0 (hb s us I.kIn hl) r2 h) λr s' hq=>?_)
 cases r with
 |error e=>exact hx pins Z H s e s' I hq
 |ok fl=>
  cases fl with
  |ret u=>exact I.after hq
  |next=>exact ao hq
  |brk=>exact ao hq
  |cont=>exact ao hq
def yY(F:FnOk X.prog X.w X.K X.mg X.base CX k f fd ps sp)(hr:Room k X.A)(hg:Gl X x)(hm:X.mg x=some (.ref f))(hk:dz X.K (.ref f)=true)(hb:zp X.K fd ps ds)(hd:qu dvs ds)(hx:jv CX X E)
  (ha:PA X (e::es) t) (hdb:(x == ("__debug__" : Str))=false:=by decide) (he:aI (e::es) X.env=(false,eval e X.env)::aI es X.env:=by rfl) (hpl:(bu pos (aI es X.env)).any (·.1)=false:=by rfl) :
  PE X (.Call (.Name x p) (e::es) [] pos) (qe9 sp dvs E t):=by
 intro pins s Z H Q I h;refine fP (yV I hg hm ?_ hdb);refine gR (h₀:=X.base) I.ok.mod.kin hk (thn (ha pos pins s Z H _ I h) λus s1 hz27=>?_) he hpl;obtain⟨vs,H1,I1,r,q⟩:=hz27;refine{I1.kIn,?_};exact Zc F hr hb hd hx I1 r q
def qfa(F:FnOk X.prog X.w X.K X.mg X.base CX k f fd ps sp)(hr:Room k X.A)(hg:Gl X x)(hm:X.mg x=some (.ref f))(hk:dz X.K (.ref f)=true)(hb:zp X.K fd ps ds)(hd:qu dvs ds)(hx:jv CX X E)
  (hdb:(x == ("__debug__" : Str))=false:=by decide):PE X (.Call (.Name x p) [] [] pos) (qe9 sp dvs E qjq):=by
 intro pins s Z H Q I h;refine fP (yV I hg hm ?_ hdb);exact iU I.kIn hk (Zc (us:=[]) F hr hb hd hx I .nil h)
def qhK{pl:Sem Bool}(he:PE X o ta)(c:Cls X.K C)(hm:Meth X.K C m f)(F:FnOk X.prog X.w X.K X.mg X.base CX k f fd ps sp)(hr:Room k X.A)(hb:zp X.K fd ps ds)(hd:qu dvs ds)(hx:jv CX X E)(ha:PA X (e::es) t)
  (hst:aI (e::es) X.env=(false,eval e X.env)::aI es X.env:=by rfl) (hpl:(bu pos (aI es X.env)).any (·.1)=false:=by rfl)
  (ht:eval (.Call (.Attribute o m apos) (e::es) [] pos) X.env=(do
   let ov<-eval o X.env
   dZ apos.atName
   let (f,first)<-cJ [ov] (fN ov m pl)
   callWith pos f first (bu pos (aI (e::es) X.env)) (dJ pos (dM [] X.env))):=by rfl) :
  PE X (.Call (.Attribute o m apos) (e::es) [] pos) (qhI C m sp dvs E ta t):=by
 intro pins s Z H Q I h;refine iV (pl:=pl) (thn (he pins s Z H _ I h) λu s1 hz28=>?_) ht;obtain⟨x,H1,I1,rx,a,dx,fs,ex,ea,l,q⟩:=hz28;subst ex;obtain rfl:u=bm a:=rx;refine YE I1 ea c hm l ?_;refine gR (first:=[.ref a]) (h₀:=X.base) I.ok.mod.kin hm.kp (thn (ha pos pins s1 Z H1 _ I1 q) λus s2 hz29=>?_) hst hpl;obtain⟨vs,H2,I2,r,q2⟩:=hz29;refine{I2.kIn,?_};exact Zc (us:=.ref a::us) (vs:=.ref a::vs) F hr hb hd hx I2 (.cons rfl r) q2
def qfb{pl:Sem Bool}(he:PE X o ta)(c:Cls X.K C)(hm:Meth X.K C m f)(F:FnOk X.prog X.w X.K X.mg X.base CX k f fd ps sp)(hr:Room k X.A)(hb:zp X.K fd ps ds)(hd:qu dvs ds)(hx:jv CX X E)
  (ht:eval (.Call (.Attribute o m apos) [] [] pos) X.env=(do
   let ov<-eval o X.env
   dZ apos.atName
   let (f,first)<-cJ [ov] (fN ov m pl)
   callWith pos f first (bu pos (aI [] X.env)) (dJ pos (dM [] X.env))):=by rfl) :
  PE X (.Call (.Attribute o m apos) [] [] pos) (qhI C m sp dvs E ta qjq):=by
 intro pins s Z H Q I h;refine iV (pl:=pl) (thn (he pins s Z H _ I h) λu s1 hz30=>?_) ht;obtain⟨x,H1,I1,rx,a,dx,fs,ex,ea,l,q⟩:=hz30;subst ex;obtain rfl:u=bm a:=rx;refine YE I1 ea c hm l ?_;exact iU (first:=[.ref a]) I1.kIn hm.kp (Zc (us:=[.ref a]) (vs:=[.ref a]) F hr hb hd hx I1 %[rfl|0] q)
structure Mk(K:Frag)(C f:ad):Prop where
 makes:PySem.W.makesIn K C=true
 init:dh K (.ref C) "__init__" = some (some (.ref f))
 fn:iM K (.ref f)=true
 kp:dz K (.ref C)=true
theorem qa5{pins:PP}{Z:St}{H:Hp}{s:ag}{Q:VK}{us:List aa}{vs:List V}(M:Mk X.K C f)(F:FnOk X.prog X.w X.K X.mg X.base CX k f fd ps sp)(hr:Room (k+1) X.A)(hb:zp X.K fd ps ds)(hd:qu dvs ds)
  (hx:jv CX X E) (I:Inv X pins Z H s) (r:qu vs us)
  (h:∀x dx,H x=none->H dx=none->dx≠x->sp (.ref x::(vs++dvs)) (upd (upd H dx (.own x)) x (.ins C dx [])) (λv H2=>v=.non/\Q (.ref x) H2) E) :
  ak (al X.prog X.w) X.A (call (.ref C) us) (EP X pins Z Q) X.xe s:=by
 have hq:=h (s.heap.objs.size+1) s.heap.objs.size (I.hok.fresh (fh _)) (I.hok.fresh (az _)) (aZ (f8 _));have I2:=Inv.made (C:=C) I;have r2:qu (V.ref (s.heap.objs.size+1)::(vs++dvs)) (bm (s.heap.objs.size+1)::(us++ds)):=.cons rfl (r.append hd)
 have hl:(bm (s.heap.objs.size+1)::us++ds).length=ps.length:=by have e:=r2.length;rw[F.len _ _ _ _ hq]at e;exact e.symm
 refine wpAny_call (qe7 (f:=f) I.kIn M.makes M.init (beq_iff_eq.mp M.fn) (d9 (F.run _ X.stack _ _ ⟨bm (s.heap.objs.size+1)::us,[]⟩ (bm (s.heap.objs.size+1)::(us++ds)) _ _ E (hr.make C us [])
  (I2.env0.make C us []) (hb _ (bm (s.heap.objs.size+1)::us) I2.kIn hl) r2 hq) λr s' hq'=>?_))
 cases r with
 |error e=>exact hx pins Z _ _ e s' I2 hq'
 |ok fl=>
  cases fl with
  |ret u=>obtain⟨v,H',I3,rv,ev,q3⟩:=I2.after hq';subst ev;exact{rv,{V.ref (s.heap.objs.size+1),H',I3,rfl,q3}}
  |next=>exact ao hq'
  |brk=>exact ao hq'
  |cont=>exact ao hq'
def qhL(M:Mk X.K C f)(F:FnOk X.prog X.w X.K X.mg X.base CX k f fd ps sp)(hr:Room (k+1) X.A)(hg:Gl X x)(hm:X.mg x=some (.ref C))(hb:zp X.K fd ps ds)(hd:qu dvs ds)(hx:jv CX X E)
  (ha:PA X (e::es) t) (hdb:(x == ("__debug__" : Str))=false:=by decide) (he:aI (e::es) X.env=(false,eval e X.env)::aI es X.env:=by rfl) (hpl:(bu pos (aI es X.env)).any (·.1)=false:=by rfl) :
  PE X (.Call (.Name x p) (e::es) [] pos) (qhJ C sp dvs E t):=by
 intro pins s Z H Q I h;refine fP (yV I hg hm ?_ hdb);refine gR (h₀:=X.base) I.ok.mod.kin M.kp (thn (ha pos pins s Z H _ I h) λus s1 hz31=>?_) he hpl;obtain⟨vs,H1,I1,r,q⟩:=hz31;refine{I1.kIn,?_};exact qa5 M F hr hb hd hx I1 r q
def qfc(M:Mk X.K C f)(F:FnOk X.prog X.w X.K X.mg X.base CX k f fd ps sp)(hr:Room (k+1) X.A)(hg:Gl X x)(hm:X.mg x=some (.ref C))(hb:zp X.K fd ps ds)(hd:qu dvs ds)(hx:jv CX X E)
  (hdb:(x == ("__debug__" : Str))=false:=by decide):PE X (.Call (.Name x p) [] [] pos) (qhJ C sp dvs E qjq):=by
 intro pins s Z H Q I h;refine fP (yV I hg hm ?_ hdb);exact iU I.kIn M.kp (qa5 (us:=[]) M F hr hb hd hx I .nil h)
end
structure FnScope(N P:List Str)(sc:bi):Prop where
 kind:sc.kind=.function
 co:sc.isCoroutine=false
 gen:sc.isGenerator=false
 nd:N.Nodup
 pre:N.take P.length=P
 par:∀x∈P,sc.names.lookup x=some .local\/sc.names.lookup x=some .cell
 nofree:∀y∈sc.names,y.2≠.free
theorem Zd{kindOf:Str->Option ci}{x:Str}:∀{binds:List (Str×aa)} {m:PR},(∀v,(x,v)∉binds)->bindL kindOf binds m x=m x
 |[],_,_=>rfl
 | (n,v)::r,m,h=>by
  unfold bindL;rw[Zd λw hw=>h w (bI _ hw)];split
  ·have:x≠n:=by rintro rfl;exact h v b5
   simp[this]
  ·rfl
theorem Ze{kindOf:Str->Option ci}{x:Str}:∀{binds:List (Str×aa)} {m:PR},(∀v,(x,v)∉binds)->bindC kindOf binds m x=m x
 |[],_,_=>rfl
 | (n,v)::r,m,h=>by
  unfold bindC;rw[Ze λw hw=>h w (bI _ hw)];split
  ·rfl
  ·have:x≠n:=by rintro rfl;exact h v b5
   simp[this]
theorem Zf{kindOf:Str->Option ci}{x:Str}{v:aa}:∀{P:List Str} {vs:List aa} {i:Nat} {m:PR},P.Nodup->P[i]?=some x->vs[i]?=some v->kindOf x=some .local->
  bindL kindOf (P.zip vs) m x=some v
 |[],_,_,_,_,h,_,_=>by simp at h
 | _::_,[],_,_,_,_,h,_=>by simp at h
 | p::P,w::vs,0,m,nd,h1,h2,hk=>by simp at h1 h2;subst h1;subst h2;show bindL kindOf ((p,w)::P.zip vs) m p=_;unfold bindL;rw[Zd λv hv=>(fj.mp nd).1 (gY hv).1,if_pos hk];simp
 | p::P,w::vs,i+1,m,nd,h1,h2,hk=>by show bindL kindOf ((p,w)::P.zip vs) m x=_;unfold bindL;exact Zf (i:=i) (fj.mp nd).2 (-h1:) (-h2:) hk
theorem Zg{kindOf:Str->Option ci}{x:Str}{v:aa}:∀{P:List Str} {vs:List aa} {i:Nat} {m:PR},P.Nodup->P[i]?=some x->vs[i]?=some v->kindOf x≠some .local->
  bindC kindOf (P.zip vs) m x=some v
 |[],_,_,_,_,h,_,_=>by simp at h
 | _::_,[],_,_,_,_,h,_=>by simp at h
 | p::P,w::vs,0,m,nd,h1,h2,hk=>by simp at h1 h2;subst h1;subst h2;show bindC kindOf ((p,w)::P.zip vs) m p=_;unfold bindC;rw[Ze λv hv=>(fj.mp nd).1 (gY hv).1,if_neg hk];simp
 | p::P,w::vs,i+1,m,nd,h1,h2,hk=>by show bindC kindOf ((p,w)::P.zip vs) m x=_;unfold bindC;exact Zg (i:=i) (fj.mp nd).2 (-h1:) (-h2:) hk
def start(N:List Str)(vs:List V):St:=vs.map some++cz (N.length - vs.length) none
def qfd(CX:CXT)(P:aE)(w:aB)(K:Frag)(mg:PR)(base:au)(N:List Str)(qual:Str)(scope:bi)(f:ad)(cd:aa)(A:aH)(outer:List Env)(s:ag)(H:Hp)(E:XK):Cx where
 prog:=P
 w:=w
 K:=K
 mg:=mg
 base:=base
 A:=A.deeper (dw qual scope s.heap.objs.size f cd)
 N:=N
 s₀:=s
 Hv:=H
 env:=dw qual scope s.heap.objs.size f cd
 outer:=outer
 stack:=dw qual scope s.heap.objs.size f cd::outer
 ex:=[]
 calm:=true
 fn:=λ_=>true
 pn:=[]
 xe:=λe s'=>ak (al P w) (A.deeper (dw qual scope s.heap.objs.size f cd)) (leaving (dw qual scope s.heap.objs.size f cd) e) (λ_ s''=>CX outer H s E e s'') (λe' s''=>CX outer H s E e' s'') s'
def qa6{sc:bi}{n:Nat}{x:Str}(h:sc.names.lookup x=some .cell):∃c,(cellsFrom n sc.names []).lookup x=some c:=by have q:=lE sc.names n [] (.inl h);exact Option.isSome_iff_exists.mp q
def qcY{CX:CXT}{P:aE}{w:aB}{K:Frag}{mg:PR}{base:au}{N ps:List Str}{qual:Str}{scope:bi}{f:ad}{cd:aa}{A:aH}{outer:List Env}{s s1:ag}{H:Hp}{E:XK}{us:List aa}{vs:List V}
  (S:FnScope N ps scope) (hd:A.handled=none) (e0:Env0 P w K mg base A outer s H) (hl:vs.length=ps.length) (r:qu vs us)
  (x:InCallC s s.heap.objs.size (bindL (dw qual scope s.heap.objs.size f cd).kindOf (ps.zip us) λ_=>none) (cellsFrom (s.heap.objs.size+1) scope.names []) (bindC (dw qual scope s.heap.objs.size f cd).kindOf (ps.zip us) λ_=>none) s1) :
  Inv (qfd CX P w K mg base N qual scope f cd A outer s H E) [] (start N vs) H s1:=by
 have hpl:ps.length<=N.length:=by have:=congrArg List.length S.pre;rw[gZ]at this;lia
 obtain⟨h1,tk,rfl,hk⟩:=x.done;have noA:∀b:ad,b∉(qfd CX P w K mg base N qual scope f cd A outer s H E).ex:=λb z=>absurd (show b∈([]:List ad) from z) (5:)
 refine{{e0.mod,S.kind,rfl,rfl,az _,λy z c h1 h2=>?_,λy hy=>?_,λy c _ h=>?_,λ_=>hd,Around.frames_deeper e0.frames,.inr ⟨rfl,rfl⟩,λb z=>absurd z (noA b),e0.bs,e0.bsz,λb _ _=>noA b,λb z=>absurd z (noA b),e0.funs,e0.frf},
  rfl,e0.bare,Un.kept hk,{_,x.toInCall.ns,λi y v h1 h2 h3=>?_},λy c h=>{_,x.cell y c h},e0.hok.fresh (az _),λy c h=>?_,λp hp=>absurd (show p∈([]:PP) from hp) (5:),e0.hok.kept hk,?_}
 ·exact name_of_addr x.apart (cY h1) (cY h2)
 ·have hy:scope.names.lookup y=some .cell\/scope.names.lookup y=some .free:=hy;rcases hy with hy|hy
  ·exact qa6 hy
  ·exact absurd rfl (S.nofree _ (cY hy))
 ·exact Nat.le_of_lt (x.above y c (cY h))
 ·have hi:i < vs.length:=by
   unfold start at h2
   by_cases hi:i < vs.length
   ·exact hi
   ·rw[cZ (-hi:)]at h2;rw[List.getElem?_replicate]at h2
    split at h2<;>cases h2
  have ha:vs[i]?=some v:=by
   unfold start at h2;rw[dm (-hi:),bE]at h2
   cases e:vs[i]? with
   |none=>rw[e]at h2;cases h2
   |some a=>rw[e]at h2;cases h2;rfl
  obtain⟨u,hu,rv⟩:=r.get ha
  have hp:ps[i]?=some y:=by rw[<-S.pre,lY (1:)];exact h1
  have ndP:ps.Nodup:=by rw[<-S.pre];exact S.nd.sublist (eu _ _)
  refine{u,rv,?_};rcases S.par y (dn hp) with k|k
  ·exact .inl ⟨k,Zf ndP hp hu k⟩
  ·obtain⟨c,e⟩:=qa6 (n:=s.heap.objs.size+1) k;refine .inr ⟨.inl k,c,e,?_⟩;have q:=x.cell y c e;rw[Zg ndP hp hu (by show scope.names.lookup y≠_;rw[k];decide)]at q;exact q
 ·exact e0.hok.fresh (Nat.le_of_lt (x.above y c (cY h)))
 ·unfold start;show _=N.length;rw[bq,aD,kh]
  lia
theorem qj1{CX:CXT}{P:aE}{w:aB}{K:Frag}{mg:PR}{base:au}{k:Nat}{f:ad}{name qual:Str}{params:Arguments}{body:List aC}{scope:bi}{dV kV doc pm cdv ct oc:aa}{an od:Option ad}
  {osl:Array (Option aa)} {N ps:List Str} {sp:Sp} (lk:K.lookup f=some ⟨oc,od,.func (cu name qual params body scope dV kV doc pm an cdv ct),osl⟩) (hcd:gU K cdv qual=true) (S:FnScope N ps scope)
  (len:∀vs H Q E,sp vs H Q E->vs.length=ps.length)
  (hbody:∀(A:aH) (outer:List Env) (s:ag) (H:Hp) (vs:List V) (Q:VK) (E:XK),Room k (A.deeper (dw qual scope s.heap.objs.size f cdv))->sp vs H Q E->
   ∃t,PSs (qfd CX P w K mg base N qual scope f cdv A outer s H E) body t/\t { nx:=λ_ H'=>Q .non H',rt:=Q } (start N vs) H) :
  FnOk P w K mg base CX (k+1) f (cu name qual params body scope dV kV doc pm an cdv ct) ps sp:=by
 refine{len,λA outer s H args us vs Q E hr e0 hb r hsp=>?_};have hl:=len _ _ _ _ hsp;have KX:K.In s.heap:=e0.mod.kin.keeps λb o e=>(e0.bs b o e).1;have lim:s.heap.NoLimit:=e0.mod.nolimit.keeps λb o e=>(e0.bs b o e).1
 have hkind:∀y∈ps.zip us,scope.names.lookup y.1=some .local\/(scope.names.lookup y.1=some .cell/\((cellsFrom (s.heap.objs.size+1) scope.names []).lookup y.1).isSome=true):=λ⟨n,v⟩ hy=>by
  rcases S.par n (gY hy).1 with q|q
  ·exact .inl q
  ·exact .inr ⟨q,lE _ _ _ (.inl q)⟩
 refine codeAny_call_function hr.depth (KX _ _ lk) rfl S.co S.gen rfl (PySem.W.codeRec_of KX hcd) (hb _ _ _ _ ?_);refine wpAny_newFunctionEnv_cells S.kind hkind λenv he s1 x=>?_;subst he;refine{lim.keeps x.toInCall.keep,codeAny_func ?_};obtain⟨t,ht,hq⟩:=hbody A outer s H vs Q E (hr.deeper _) hsp;have I:Inv (qfd CX P w K mg base N qual scope f cdv A outer s H E) [] (start N vs) H s1:=qcY S hr.hd e0 hl r x;refine dY (ht [] s1 (start N vs) H _ I hq) (λfl s' hs=>?_) λe s' hs=>hs
 have fin:∀{Z':St} {H':Hp} {v:V} {u:aa},Inv (qfd CX P w K mg base N qual scope f cdv A outer s H E) [] Z' H' s'->qK v u->Q v H'->CE outer P w H s Q u s':=
  λ{Z' H' v u} J rv q=>⟨v,H',J.os,J.bare,J.base,J.hok,rv,q⟩
 cases fl with
 |ret u=>obtain⟨v,Z',H',J,rv,q⟩:=hs;exact fin J rv q
 |next=>obtain⟨Z',H',J,q⟩:=hs;exact fin (v:=V.non) (u:=Value.none) J rfl q
 |brk=>obtain⟨_,_,_,q⟩:=hs;exact ao q
 |cont=>obtain⟨_,_,_,q⟩:=hs;exact ao q
section
variable{X:Cx}{x:Str}{p pos:Pos}{e:ae}{es:List ae}{t:TA}{id T:String}{r:List V->Hp->VK->Prop}
def tCB(r:List V->Hp->VK->Prop)(t:TA):TE:=λZ H Q=>t Z H λvs H1=>r vs H1 Q
def qP(hc:qO X (.builtin id) r)(hg:Gl X x)(hm:X.mg x=none)(hv:fK x=some (.builtin id))(ha:PA X (e::es) t)(hn:x≠"__name__":=by decide)(hdb:(x == ("__debug__" : Str))=false:=by decide)
  (he:aI (e::es) X.env=(false,eval e X.env)::aI es X.env:=by rfl) (hpl:(bu pos (aI es X.env)).any (·.1)=false:=by rfl):PE X (.Call (.Name x p) (e::es) [] pos) (tCB r t):=by
 intro pins s Z H Q I h;refine fP (Ja I hg hm hv ?_ hn hdb);refine PyProof.Rows.callWith_builtin1 (thn (ha pos pins s Z H _ I h) λus s1 hz36=>?_) he hpl;obtain⟨vs,H1,I1,r1,q1⟩:=hz36;exact hc pins s1 Z H1 vs us Q I1 r1 q1
def qE(hc:qO X (.type T) r)(hg:Gl X x)(hm:X.mg x=none)(hv:fK x=some (.type T))(ha:PA X (e::es) t)(hn:x≠"__name__":=by decide)(hdb:(x == ("__debug__" : Str))=false:=by decide)
  (he:aI (e::es) X.env=(false,eval e X.env)::aI es X.env:=by rfl) (hpl:(bu pos (aI es X.env)).any (·.1)=false:=by rfl):PE X (.Call (.Name x p) (e::es) [] pos) (tCB r t):=by
 intro pins s Z H Q I h;refine fP (Ja I hg hm hv ?_ hn hdb);refine fc (thn (ha pos pins s Z H _ I h) λus s1 hz37=>?_) he hpl;obtain⟨vs,H1,I1,r1,q1⟩:=hz37;exact hc pins s1 Z H1 vs us Q I1 r1 q1
end
end L2
namespace HT
open PySem PyProof.Rows
section
variable{prog:aE}{w:aB}{A:aH}{E:PQ}{s:ag}
def sIx(n d:Nat):Option Int->Nat
 |none=>d
 |some v=>if v < 0 then (v+(n:Int)).toNat else min v.toNat n
def Y7(n d:Nat):sIx n d none=d:=rfl
def yh(n d k:Nat):sIx n d (some (k:Int))=min k n:=by show(if (k:Int) < 0 then ((k:Int)+(n:Int)).toNat else min (k:Int).toNat n)=min k n;rw[if_neg (1:),dF]
end
end HT
namespace L2
open PySem PySem.Spec PyProof.Rows
abbrev TO:=St->Hp->(Option Int->Hp->Prop)->Prop
def PO(X:Cx)(e:Option ae)(t:TO):Prop:=
 ∀(pins:PP) (s:ag) (Z:St) (H:Hp) (Q:Option Int->Hp->Prop),Inv X pins Z H s->t Z H Q->
  ak (al X.prog X.w) X.A (evalPart e X.env) (λu s'=>∃o H',Inv X pins Z H' s'/\IsPart u o/\Q o H') X.xe s
def qhM:TO:=λ_ H Q=>Q none H
def qnr(t:TE):TO:=λZ H Q=>t Z H λx H1=>∃i,x=.int i/\Q (some i) H1
section
variable{X:Cx}{e:ae}{te:TE}{lo hi:Option ae}{tl th:TO}{pos p2:Pos}
def qhN:PO X none qhM:=by intro pins s Z H Q I h;rw[evalPart_none];exact ax ⟨none,H,I,.none,h⟩
def qhO(h:PE X e te):PO X (some e) (qnr te):=by intro pins s Z H Q I hw;rw[evalPart_some];refine thn (h pins s Z H _ I hw) λu s1 hq1=>?_;obtain⟨x,H1,I1,r1,q1⟩:=hq1;obtain⟨i,rfl,q⟩:=q1;obtain⟨t,rfl⟩:=r1;exact{some i,H1,I1,.int i t,q}
def SlR(X:Cx)(r:V->Option Int->Option Int->Hp->VK->Prop):Prop:=
 ∀(pins:PP) (s:ag) (Z:St) (H:Hp) (x:V) (v vl vu:aa) (lo hi:Option Int) (sl:ad) (Q:VK),Inv X pins Z H s->qK x v->s.heap.IsSliceOf sl vl vu .none->IsPart vl lo->IsPart vu hi->r x lo hi H Q->
  ∃T id,typeLookup (.type T) "__getitem__" = pure (some (.builtin id))/\s.TypeIs v T/\ak (al X.prog X.w) X.A (getItem v (.ref sl)) (EP X pins Z Q) X.xe s
def tSl(r:V->Option Int->Option Int->Hp->VK->Prop)(te:TE)(tl th:TO):TE:=λZ H Q=>te Z H λx H1=>tl Z H1 λl H2=>th Z H2 λu H3=>r x l u H3 Q
def qfe{r:V->Option Int->Option Int->Hp->VK->Prop}(hr:SlR X r)(he:PE X e te)(hl:PO X lo tl)(hu:PO X hi th):PE X (.Subscript e (.Slice lo hi none p2) pos) (tSl r te tl th):=by intro pins s Z H Q I h;refine Subscript_ (thn (he pins s Z H _ I h) λv s1 hq1=>?_);obtain⟨x,H1,I1,r1,q1⟩:=hq1;refine wpAny_Slice (thn (hl pins s1 Z H1 _ I1 q1) λvl s2 hz38=>?_);obtain⟨l,H2,I2,pl,q2⟩:=hz38;refine thn (hu pins s2 Z H2 _ I2 q2) λvu s3 hq1=>?_;obtain⟨u,H3,I3,pu,q3⟩:=hq1;rw[evalPart_none];refine ax ?_;have I4:Inv X pins Z H3 { s3 with heap:=s3.heap.push { cls:=.type "slice",data:=.fields #[vl,vu,.none] } }:=I3.kept (t':=s3.toks) λb ob q=>aP _ q;obtain⟨T,id,hT,ht,hg⟩:=hr pins { s3 with heap:=s3.heap.push { cls:=.type "slice",data:=.fields #[vl,vu,.none] } } Z H3 x v vl vu l u s3.heap.objs.size Q I4 r1 (Heap.IsSliceOf.new ..) pl pu q3;show ak (al X.prog X.w) X.A (ld e (.Slice lo hi none p2) v (.ref s3.heap.objs.size)) (EP X pins Z Q) X.xe { s3 with heap:=s3.heap.push { cls:=.type "slice",data:=.fields #[vl,vu,.none] } };exact tail_any (ops:=[.ref s3.heap.objs.size,v]) ht hT hg (by with_unfolding_all rfl)
def qjr(xs:List V)(lo hi:Option Int):List V:=(xs.drop (HT.sIx xs.length 0 lo)).take (HT.sIx xs.length xs.length hi - HT.sIx xs.length 0 lo)
def qao(xs:List V)(lo hi:Option Int):(qjr xs lo hi).length<=xs.length:=by
 unfold qjr;rw[gZ,List.length_drop]
 lia
end
def ixN(n:Nat)(i:Int):Option Nat:=if 0<=i then (if i < n then some i.toNat else none) else if -(n:Int)<=i then some (i+n).toNat else none
def atI{α:Type}(xs:List α)(i:Int):Option α:=(ixN xs.length i).bind λj=>xs[j]?
def qcZ{n:Nat}{i:Int}{j:Nat}(h:ixN n i=some j):seqIndex? i n=some j/\j < n/\-(n:Int)<=i/\i < n:=by
 unfold ixN at h
 by_cases h0:0<=i
 ·rw[if_pos h0]at h
  by_cases h1:i < n
  ·rw[if_pos h1]at h;have e:i.toNat=j:=Option.some.inj h;exact{by rw[seqIndex_of h0 h1,e],by lia,by lia,h1}
  ·rw[if_neg h1]at h;cases h
 ·rw[if_neg h0]at h
  by_cases h1:-(n:Int)<=i
  ·rw[if_pos h1]at h;have e:(i+n).toNat=j:=Option.some.inj h;exact{by rw[lh (1:) h1,e],by lia,h1,by lia}
  ·rw[if_neg h1]at h;cases h
theorem qap{α:Type}{xs:List α}{i:Int}{v:α}(h:atI xs i=some v):∃j,seqIndex? i xs.length=some j/\xs[j]?=some v/\j < xs.length/\-(xs.length:Int)<=i/\i < xs.length:=by
 unfold atI at h
 cases e:ixN xs.length i with
 |none=>rw[e]at h;cases h
 |some j=>rw[e]at h;obtain⟨h1,h2,h3,h4⟩:=qcZ e;exact⟨j,h1,h,h2,h3,h4⟩
def qff{α:Type}(xs:List α)(v:α):atI (xs++[v]) (-1)=some v:=by
 have hl:(xs++[v]).length=xs.length+1:=by simp
 have e:ixN (xs++[v]).length (-1)=some xs.length:=by
  unfold ixN;rw[hl,if_neg (2:),if_pos (1:)]
  congr 1
  lia
 unfold atI;rw[e];show(xs++[v])[xs.length]?=some v;simp
def qc0(b:ae):Prop:=∀o i,subscripted b false o i=operate [o,i] (getItem o i)
def IxR(X:Cx)(r:R2):Prop:=
 ∀(value slice:ae) (pins:PP) (s:ag) (Z:St) (H:Hp) (x y:V) (v u:aa) (Q:VK),Inv X pins Z H s->qK x v->qK y u->r x y H Q->
  subscripted slice false v u=operate [v,u] (getItem v u)->ak (al X.prog X.w) X.A (ld value slice v u) (EP X pins Z Q) X.xe s
def MtR(X:Cx)(id:String)(r:V->List V->Hp->VK->Prop):Prop:=
 ∀(pins:PP) (s:ag) (Z:St) (H:Hp) (x:V) (xs:List V) (v:aa) (us:List aa) (Q:VK),Inv X pins Z H s->qK x v->qu xs us->r x xs H Q->
  ak (al X.prog X.w) X.A (call (.builtin id) (v::us)) (EP X pins Z Q) X.xe s
section
variable{X:Cx}{a b:ae}{ta tb:TE}{pos:Pos}
def qns{r:R2}(hr:IxR X r)(ha:PE X a ta)(hb:PE X b tb)(hs:qc0 b):PE X (.Subscript a b pos) (tOp r ta tb):=by intro pins s Z H Q I h;exact Subscript_ (qnj ha hb I h λv u s2 x y H2 I2 rx ry q=>hr a b pins s2 Z H2 x y v u Q I2 rx ry q (hs _ _))
def qo9(K:Frag):R2:=λx y H Q=>∃p xs i v,x=.ref p/\y=.int i/\SqL K H p xs/\atI xs i=some v/\Q v H
def qpa(K:Frag):R2:=λx y H Q=>∃p xs i v,x=.ref p/\y=.int i/\SqT K H p xs/\atI xs i=some v/\Q v H
def qpb:R2:=λx y H Q=>∃z i c,x=.str z/\y=.int i/\z.length<=sizeLine/\atI z.cps.toList i=some c/\Q (.str ⟨#[c]⟩) H
def qhP:IxR X (qo9 X.K):=by
 intro value slice pins s Z H x y v u Q I rx ry h hs;obtain⟨p,xs,i,z,rfl,rfl,hq,he,q⟩:=h;cases rx;obtain⟨t,rfl⟩:=ry;obtain⟨its,r,pl,hz⟩:=I.list hq;obtain⟨j,h1,h2,h3,h4,h5⟩:=qap he;obtain⟨w,ew,rw'⟩:=r.get h2;have hl:=r.length;have hn:=JP;have fin:EP X pins Z Q w s:=⟨z,H,I,rw',q⟩
 by_cases h0:0<=i
 ·have hj:i.toNat=j:=by
   rw[seqIndex_of h0 h5]at h1;exact Option.some.inj h1
  exact item_listR pl.isList h0 (1:) (by rw[hj];simpa using ew) fin hs
 ·have hj:(i+(its.toArray.size:Int)).toNat=j:=by
   rw[lh (1:) h4]at h1;rw[bj,<-hl];exact Option.some.inj h1
  exact mL (x:=w) pl.isList.typeIs ll.lookup
   (wpAny_getItem_list_neg (Q:=λr s'=>r=w/\EP X pins Z Q r s') pl.isList (1:) (by rw[bj]<;>lia) (1:) (by rw[hj];simpa using ew) ⟨rfl,fin⟩) hs
def qj2:IxR X (qpa X.K):=by
 intro value slice pins s Z H x y v u Q I rx ry h hs;obtain⟨p,xs,i,z,rfl,rfl,hq,he,q⟩:=h;cases rx;obtain⟨t,rfl⟩:=ry;obtain⟨its,r,pl,hz⟩:=I.tuple hq;obtain⟨j,h1,h2,h3,h4,h5⟩:=qap he;obtain⟨w,ew,rw'⟩:=r.get h2;have hl:=r.length;have hn:=JP;have fin:EP X pins Z Q w s:=⟨z,H,I,rw',q⟩
 exact mL (x:=w) pl.typeIs slot_tuple_getitem.lookup
  (getItem_tuple (j:=j) (Q:=λr s'=>r=w/\EP X pins Z Q r s') pl (1:) (1:) (by rw[bj,<-hl];exact h1) (-ew:) ⟨rfl,fin⟩) hs
def qj3:IxR X qpb:=by
 intro value slice pins s Z H x y v u Q I rx ry h hs;obtain⟨z,i,c,rfl,rfl,hz,he,q⟩:=h;obtain⟨t,rfl⟩:=rx;obtain⟨t',rfl⟩:=ry;obtain⟨j,h1,h2,h3,h4,h5⟩:=qap he;have hl:z.cps.toList.length=z.length:=by simp[Str.length]
 rw[hl]at h1 h4 h5;have hn:=JP
 exact tail_any (typeIs_str s z t) slot_str_getitem.lookup (getItem_str (c:=c) (by have e1:decide (i < -(2 ^ 63:Int))=false:=decide_eq_false (1:);have e2:decide (i≥2 ^ 63)=false:=decide_eq_false (1:);rw[e1,e2,ki]) (by rw[h1];simpa using h2) ⟨.str ⟨#[c]⟩,H,I.tok _,⟨_,rfl⟩,q⟩) hs
def qcb(its:List aa)(n j:Nat)(u:aa):cg (·.setIfInBounds j u) { cls:=.type "list",data:=.seq its.toArray n }={ cls:=.type "list",data:=.seq (its.set j u).toArray n }:=by simp[cg]
def Inv.lst{pins:PP}{Z:St}{H:Hp}{s:ag}{p:ad}{xs:List V}(I:Inv X pins Z H s)(h:H p=some (.lst xs)) :
  ∃(its:List aa) (n:Nat),qu xs its/\s.heap.get? p=some { cls:=.type "list",data:=.seq its.toArray n }/\xs.length<=sizeLine:=by
 obtain⟨z,its,n,r,e⟩:=I.hok p _ h;exact⟨its,n,r,e,z⟩
def Inv.lstUpd{pins:PP}{Z:St}{H:Hp}{s:ag}{p:ad}{xs ys:List V}{its its':List aa}{n n':Nat}{f:Obj->Obj}(I:Inv X pins Z H s)(h:H p=some (.lst xs))
  (ho:s.heap.get? p=some { cls:=.type "list",data:=.seq its.toArray n }) (hf:f { cls:=.type "list",data:=.seq its.toArray n }={ cls:=.type "list",data:=.seq its'.toArray n' }) (r:qu ys its') (hz:ys.length<=sizeLine) (t:Nat) :
  Inv X pins Z (upd H p (.lst ys)) { s with heap:=s.heap.update p f,toks:=t }:=by
 have e:(s.heap.update p f).get? p=some { cls:=.type "list",data:=.seq its'.toArray n' }:=by rw[g6 f ho (by rw[hf]<;>rfl),hf]
 refine I.write (x:=p) (e:=p) (by rw[h];trivial) (.inl rfl) (λb u hb q=>(g7 _ _ (cj hb)).trans q) ⟨_,e⟩ ?_;exact⟨hz,its',n',r,e⟩
def qnt:V->V->V->Hp->(Hp->Prop)->Prop:=λo i v H Q=>∃p xs k j,o=.ref p/\i=.int k/\H p=some (.lst xs)/\ixN xs.length k=some j/\Q (upd H p (.lst (xs.set j v)))
def qfg:qom X qnt:=by
 intro pins s Z H o i v ov iv u Q I ro ri rv h;obtain⟨p,xs,k,j,rfl,rfl,hp,hj,q⟩:=h;cases ro;obtain⟨t,rfl⟩:=ri;obtain⟨its,n,r,ho,hz⟩:=I.lst hp;obtain⟨h1,h2,h3,h4⟩:=qcZ hj;have hl:=r.length;have hn:=JP
 have I':Inv X pins Z (upd H p (.lst (xs.set j v))) { s with heap:=s.heap.update p (cg (·.setIfInBounds j u)) }:=
  I.lstUpd hp ho (qcb its n j u) (r.set rv j) (by rw[eL];exact hz) s.toks
 by_cases h0:0<=k
 ·have hk:k.toNat=j:=by
   rw[seqIndex_of h0 h4]at h1;exact Option.some.inj h1
  exact PySem.W.ki_setAt ho h0 (1:) (by rw[bj,<-hl];exact h4) (by rw[hk];exact{_,I',q})
 ·have hk:(k+(its.toArray.size:Int)).toNat=j:=by
   rw[lh (1:) h3]at h1;rw[bj,<-hl];exact Option.some.inj h1
  exact PySem.W.ki_setBack ho (1:) (by rw[bj,<-hl];exact h3) (1:) (by rw[hk];exact{_,I',q})
def Zh(lo hi:Option Int)(n:Nat):(bT lo hi none n).1=((HT.sIx n 0 lo:Nat):Int)/\(bT lo hi none n).2.1=((HT.sIx n n hi:Nat):Int)/\(bT lo hi none n).2.2=1:=by
 refine{?_,?_,rfl}
 ·cases lo with
  |none=>simp[bT,HT.sIx]
  |some i=>
   simp![bT,HT.sIx,Option.getD_none,show(1:Int) > 0 by decide,if_true]
   by_cases h:i < 0
   ·simp![h,if_true]<;>lia
   ·simp![h,if_false]<;>lia
 ·cases hi with
  |none=>simp[bT,HT.sIx]
  |some i=>
   simp![bT,HT.sIx,Option.getD_none,show(1:Int) > 0 by decide,if_true]
   by_cases h:i < 0
   ·simp![h,if_true]<;>lia
   ·simp![h,if_false]<;>lia
def Y8(its:List aa)(lo hi:Option Int):fQ its.toArray lo hi none=((its.drop (HT.sIx its.length 0 lo)).take (HT.sIx its.length its.length hi - HT.sIx its.length 0 lo)).toArray:=by obtain⟨h1,h2,h3⟩:=Zh lo hi its.toArray.size;unfold fQ;rw[h1,h2,h3];simp![sliceRange_one,pick_run,bj]<;>rfl
def qpc(K:Frag):V->Option Int->Option Int->Hp->VK->Prop:=λx lo hi H Q=>∃a xs,x=.ref a/\SqL K H a xs/\∀p,H p=none->Q (.ref p) (upd H p (.lst (qjr xs lo hi)))
def qhQ:SlR X (qpc X.K):=by intro pins s Z H x v vl vu lo hi sl Q I rx hs pl pu h;obtain⟨a,xs,rfl,hx,q⟩:=h;cases rx;obtain⟨its,r,ht,hz⟩:=I.list hx;have hlen:=r.length;refine{"list",_,ll.lookup,ht.isList.typeIs,?_};refine mM ht.isList hs pl pu .none (5:) ?_ (by rw[bj]<;>lia);rw[Y8,<-hlen];refine{.ref s.heap.objs.size,_,I.laid (t':=s.toks) (o:=.lst (qjr xs lo hi)) (λb ob q=>aP _ q) (az _) ?_,rfl,q _ (I.hok.fresh (az _))};exact{bz (qao xs lo hi) hz,_,0,(r.drop (HT.sIx xs.length 0 lo)).take (HT.sIx xs.length xs.length hi - HT.sIx xs.length 0 lo),bg _ rfl}
def JT:V->Bool
 |.non=>true
 |.bl _=>true
 |.int _=>true
 |.str _=>true
 |_=>false
def eqV:V->V->Bool
 |.non,.non=>true
 |.bl a,.bl b=>a == b
 |.bl a,.int b=>(if a then 1 else 0) == b
 |.int a,.bl b=>a == (if b then 1 else 0)
 |.int a,.int b=>a == b
 |.str a,.str b=>a == b
 |_,_=>false
theorem qj4{A:aH}{s:ag}{y x:V}{u v:aa}(ry:qK y u)(rx:qK x v)(fy:JT y=true)(fx:JT x=true):lW A s u v (eqV y x):=by
 cases y with
 |non=>
  cases ry
  cases x with
  |non=>cases rx;exact SeqAt.EqAt.same _
  |bl b=>cases rx;exact SeqAt.EqAt.none_bool b
  |int b=>obtain⟨t,rfl⟩:=rx;exact SeqAt.EqAt.none_int b t
  |str b=>obtain⟨t,rfl⟩:=rx;exact SeqAt.EqAt.none_str b t
  |_=>exact absurd (show false=true from fx) dQ
 |bl a=>
  cases ry
  cases x with
  |non=>cases rx;exact SeqAt.EqAt.bool_none a
  |bl b=>cases rx;exact SeqAt.EqAt.bool_bool a b
  |int b=>obtain⟨t,rfl⟩:=rx;exact SeqAt.EqAt.bool_int a b t
  |str b=>obtain⟨t,rfl⟩:=rx;exact SeqAt.EqAt.bool_str a b t
  |_=>exact absurd (show false=true from fx) dQ
 |int a=>
  obtain⟨t',rfl⟩:=ry
  cases x with
  |non=>cases rx;exact SeqAt.EqAt.int_none a t'
  |bl b=>cases rx;exact SeqAt.EqAt.int_bool a t' b
  |int b=>obtain⟨t,rfl⟩:=rx;exact SeqAt.EqAt.int_int a t' b t
  |str b=>obtain⟨t,rfl⟩:=rx;exact SeqAt.EqAt.int_str a t' b t
  |_=>exact absurd (show false=true from fx) dQ
 |str a=>
  obtain⟨t',rfl⟩:=ry
  cases x with
  |non=>cases rx;exact SeqAt.EqAt.str_none a t'
  |bl b=>cases rx;exact SeqAt.EqAt.str_bool a t' b
  |int b=>obtain⟨t,rfl⟩:=rx;exact SeqAt.EqAt.str_int a t' b t
  |str b=>obtain⟨t,rfl⟩:=rx;exact SeqAt.EqAt.str_str a t' b t
  |_=>exact absurd (show false=true from fx) dQ
 |_=>exact absurd (show false=true from fy) dQ
def eqU(x:V)(u:aa):Bool:=match u with
 |.none=>eqV .non x
 |.bool b=>eqV (.bl b) x
 |.int i _=>eqV (.int i) x
 |.str z _=>eqV (.str z) x
 |_=>false
theorem qgG{x y:V}{u:aa}(r:qK y u)(f:JT y=true):eqU x u=eqV y x:=by
 cases y with
 |non=>cases r;rfl
 |bl b=>cases r;rfl
 |int i=>obtain⟨t,rfl⟩:=r;rfl
 |str z=>obtain⟨t,rfl⟩:=r;rfl
 |_=>exact absurd (show false=true from f) dQ
theorem JU{x:V}:∀{xs:List V} {us:List aa},qu xs us->xs.all JT=true->us.any (eqU x)=xs.any λy=>eqV y x
 |_,_,.nil,_=>rfl
 | y::xs,u::us,.cons r t,f=>by rw[fk,aG]at f;rw[eM,eM,qgG r f.1,JU t f.2]
theorem Jx{A:aH}{s:ag}{x:V}{v:aa}(rx:qK x v)(fx:JT x=true){xs:List V}{us:List aa}(h:qu xs us)(f:xs.all JT=true):∀u∈us,lW A s u v (eqU x u):=by
 induction h with
 |nil=>intro u hu;cases hu
 |cons r t ih=>
  intro u' hu;rw[fk,aG]at f;rcases aF.mp hu with rfl|hu
  ·rw[qgG r f.1];exact qj4 r rx f.1 fx
  ·exact ih f.2 u' hu
def inV(x:V)(xs:List V):Bool:=xs.any λy=>eqV y x
def rIn(K:Frag)(neg:Bool):R2:=λx y H Q=>∃p xs,y=.ref p/\(SqL K H p xs\/SqT K H p xs)/\JT x=true/\xs.all JT=true/\Q (.bl (if neg then !inV x xs else inV x xs)) H
def qc1:OpR X (bv .In) (rIn X.K false):=by
 intro pins s Z H x y v u Q I rx ry h;obtain⟨p,xs,rfl,hq,fx,fs,q⟩:=h;cases ry;rcases hq with hq|hq
 ·obtain⟨its,r,pl,hz⟩:=I.list hq;refine SeqAt.in_listAt (eqU x) pl.isList (λw hw=>Jx rx fx r fs w (-hw:)) ⟨.bl _,H,I,rfl,?_⟩;rw[show its.toArray.any (eqU x)=its.any (eqU x) by simp,JU r fs];exact q
 ·obtain⟨its,r,pl,hz⟩:=I.tuple hq;refine SeqAt.in_tupleAt (eqU x) pl (λw hw=>Jx rx fx r fs w (-hw:)) ⟨.bl _,H,I,rfl,?_⟩;rw[show its.toArray.any (eqU x)=its.any (eqU x) by simp,JU r fs];exact q
def Zi:OpR X (bv .NotIn) (rIn X.K true):=by
 intro pins s Z H x y v u Q I rx ry h;obtain⟨p,xs,rfl,hq,fx,fs,q⟩:=h;cases ry;rcases hq with hq|hq
 ·obtain⟨its,r,pl,hz⟩:=I.list hq;refine SeqAt.notIn_listAt (eqU x) pl.isList (λw hw=>Jx rx fx r fs w (-hw:)) ⟨.bl _,H,I,rfl,?_⟩;rw[show its.toArray.any (eqU x)=its.any (eqU x) by simp,JU r fs];exact q
 ·obtain⟨its,r,pl,hz⟩:=I.tuple hq;refine SeqAt.notIn_tupleAt (eqU x) pl (λw hw=>Jx rx fx r fs w (-hw:)) ⟨.bl _,H,I,rfl,?_⟩;rw[show its.toArray.any (eqU x)=its.any (eqU x) by simp,JU r fs];exact q
def Jb:qO X (.builtin "len") (λxs H Q=>∃p ys,xs=[.ref p]/\(SqL X.K H p ys\/SqT X.K H p ys)/\Q (.int ys.length) H):=by
 intro pins s Z H xs us Q I r h;obtain⟨p,ys,rfl,hq,q⟩:=h;obtain⟨u,rfl,rx⟩:=yt r;cases rx;have hn:=JP;rcases hq with hq|hq
 ·obtain⟨its,r',pl,hz⟩:=I.list hq;have hlen:=r'.length;exact Calls.call_len_list pl.isList (by simp![bj]<;>lia) ⟨.int ys.length,H,I.tok _,⟨s.toks+1,by rw[bj,hlen]⟩,q⟩
 ·obtain⟨its,r',pl,hz⟩:=I.tuple hq;have hlen:=r'.length;exact len_tuple pl (by simp![bj]<;>lia) ⟨.int ys.length,H,I.tok _,⟨s.toks+1,by rw[bj,hlen]⟩,q⟩
def Zj:qO X (.builtin "len") (λxs H Q=>∃z,xs=[.str z]/\z.length<=sizeLine/\Q (.int z.length) H):=by intro pins s Z H xs us Q I r h;obtain⟨z,rfl,hz,q⟩:=h;obtain⟨u,rfl,t,rfl⟩:=yt r;have hn:=JP;exact len_str (1:) ⟨.int z.length,H,I.tok _,⟨_,rfl⟩,q⟩
def jI:qO X (.type "list") (λxs H Q=>∃p ys,xs=[.ref p]/\(SqL X.K H p ys\/SqT X.K H p ys)/\∀l,H l=none->Q (.ref l) (upd H l (.lst ys))):=by
 intro pins s Z H xs us Q I r h;obtain⟨p,ys,rfl,hq,q⟩:=h;obtain⟨u,rfl,rx⟩:=yt r;cases rx
 have fin:∀(its:List aa),qu ys its->ys.length<=sizeLine->∀(h':au) (c':Nat),(∀b o',s.heap.get? b=some o'->h'.get? b=some o')->
   h'.get? s.heap.objs.size=some { cls:=.type "list",dict:=none,data:=.seq its.toArray c',slots:=#[] }->EP X pins Z Q (.ref s.heap.objs.size) { s with heap:=h' }:=λits r' hz h' c' kp e=>
  ⟨.ref s.heap.objs.size,_,I.laid (t':=s.toks) kp (az _) (show qH X.prog X.w _ h' _ (.lst ys) from⟨hz,its,c',r',e⟩),rfl,q _ (I.hok.fresh (az _))⟩
 rcases hq with hq|hq
 ·obtain⟨its,r',pl,hz⟩:=I.list hq;have hlen:=r'.length;obtain⟨o,ho,hc,n,hd⟩:=pl.isList;exact call_list_seq p (.inl rfl) ho hc hd (λh' c' kp e=>fin its r' hz h' c' kp e) (by simp![bj]<;>lia)
 ·obtain⟨its,r',pl,hz⟩:=I.tuple hq;have hlen:=r'.length;obtain⟨o,ho,hc,n,hd⟩:=pl;exact call_list_seq p (.inr rfl) ho hc hd (λh' c' kp e=>fin its r' hz h' c' kp e) (by simp![bj]<;>lia)
def Y9:qO X (.type "tuple") (λxs H Q=>∃p ys,xs=[.ref p]/\((SqL X.K H p ys/\∀l,H l=none->Q (.ref l) (upd H l (.tup ys)))\/(SqT X.K H p ys/\Q (.ref p) H))):=by
 intro pins s Z H xs us Q I r h;obtain⟨p,ys,rfl,h⟩:=h;obtain⟨u,rfl,rx⟩:=yt r;cases rx;rcases h with ⟨hq,q⟩|⟨hq,q⟩
 ·obtain⟨its,r',pl,hz⟩:=I.list hq;have hlen:=r'.length;refine call_tuple_list pl.isList (λh' kp=>?_) (by simp![bj]<;>lia);have I1:Inv X pins Z H { s with heap:=h' }:=I.kept (t':=s.toks) kp
  have I2:Inv X pins Z (upd H h'.objs.size (.tup ys)) { s with heap:=h'.push { cls:=.type "tuple",data:=.seq its.toArray } }:=
   I1.laid (t':=s.toks) (λb o e=>aP _ e) (az _) (show qH X.prog X.w _ _ _ (.tup ys) from⟨hz,its,r',IsTup.new _ _⟩)
  exact{.ref h'.objs.size,_,I2,rfl,q _ (I1.hok.fresh (az _))}
 ·obtain⟨its,r',pl,hz⟩:=I.tuple hq;exact call_tuple_same pl ⟨.ref p,H,I,rfl,q⟩
def tyV(K:Frag)(T:String)(x:V)(H:Hp):Prop:=match x with
 |.str _=>T = "str"
 |.int _=>T = "int"
 |.ref p=>(T = "list"/\∃xs,SqL K H p xs)\/(T = "tuple"/\∃o,K.lookup p=some o/\o.cls=.type "tuple"/\o.dict=none)\/
   (T = "dict"/\((∃kvs,H p=some (.dK kvs))\/∃kvs,H p=some (.dT kvs)))\/(T = "set"/\∃S n,H p=some (.set S n))
 |_=>False
theorem qj5{pins:PP}{Z:St}{H:Hp}{s:ag}{T:String}{x:V}{v:aa}(I:Inv X pins Z H s)(r:qK x v)(ty:tyV X.K T x H) :
  s.TypeIs v T/\∀a,v=.ref a->∃ob,s.heap.get? a=some ob/\ob.dict=none:=by
 cases x with
 |str z=>
  obtain⟨t,rfl⟩:=r
  cases (show T = "str" from ty)
  exact{typeIs_str s z t,λ_ e=>nomatch e}
 |int i=>
  obtain⟨t,rfl⟩:=r
  cases (show T = "int" from ty)
  exact{typeIs_int s i t,λ_ e=>nomatch e}
 |ref p=>
  cases r;rcases ty with ⟨rfl,xs,hq⟩|⟨rfl,o,hk,hc,hd⟩|⟨rfl,hk⟩|⟨rfl,S,n,hk⟩
  ·obtain⟨its,_,pl,_⟩:=I.list hq;refine{pl.isList.typeIs,λa e=>?_};cases e;obtain⟨o,n,e,c,hd,_⟩:=pl;exact⟨o,e,hd⟩
  ·refine{{o,I.kIn p o hk,hc},λa e=>?_};cases e;exact{o,I.kIn _ o hk,hd}
  ·have z:∃o,s.heap.get? p=some o/\o.ExactDict:=by
    rcases hk with ⟨kvs,hk⟩|⟨kvs,hk⟩
    ·obtain⟨_,_,_,_,o,_,_,e,ex,_⟩:=I.hok p _ hk;exact⟨o,e,ex⟩
    ·obtain⟨_,_,_,_,o,_,_,e,ex,_⟩:=I.hok p _ hk;exact⟨o,e,ex⟩
   obtain⟨o,e,ex⟩:=z;refine{⟨o,e,ex.1⟩,λa e2=>?_};cases e2;exact⟨o,e,ex.2.1⟩
  ·obtain⟨o,_,_,_,e,ex,_⟩:=I.hok p _ hk;refine{⟨o,e,ex.1⟩,λa e2=>?_};cases e2;exact⟨o,e,ex.2.1⟩
 |_=>exact ao ty
def tBM(K:Frag)(T:String)(r:V->List V->Hp->VK->Prop)(to:TE)(t:TA):TE:=λZ H Q=>to Z H λx H1=>tyV K T x H1/\t Z H1 λxs H2=>r x xs H2 Q
variable{o e:ae}{es:List ae}{to:TE}{t:TA}{name:Str}{apos cpos:Pos}{T id:String}{r:V->List V->Hp->VK->Prop}
def qj6(pa:PlainAttrs T)(slot:Slot T name id)(hty:typeOf (.builtin id)=pure (.type "method_descriptor"))(hm:MtR X id r)(ho:PE X o to)(ha:PA X (e::es) t)
  (hbase:fO o name X.env (eval o X.env)=eval o X.env:=by rfl)
  (hfew:((bu cpos (aI (e::es) X.env)).all (λx=>!x.1)&&(dJ cpos (dM [] X.env)).all (λx=>x.1.isSome)
   && decide ((e::es).length+([]:List df).length+(if ([]:List df).isEmpty then 0 else 1) < 30))=true:=by rfl)
  (hline:(apos.endLine == cpos.line)=true:=by rfl) (hs:aI (e::es) X.env=(false,eval e X.env)::aI es X.env:=by rfl) (hplain:(bu cpos (aI es X.env)).any (·.1)=false:=by rfl) :
  PE X (.Call (.Attribute o name apos) (e::es) [] cpos) (tBM X.K T r to t):=by
 intro pins s Z H Q I h;refine wpAny_Call_method_late hbase hfew hline rfl (thn (ho pins s Z H _ I h) λv s1 hq1=>?_);obtain⟨x,H1,I1,r1,ty,q1⟩:=hq1;obtain⟨h1,h2⟩:=qj5 I1 r1 ty;refine{T,id,pa,slot,hty,h1,h2,?_};have hA:=ha cpos pins s1 Z H1 _ I1 q1;rw[hs]at hA ⊢;refine lZ (by show(false||(bu cpos (aI es X.env)).any (·.1))=false;rw[hplain]<;>rfl) (Calls.evalArgs_plain ?_);refine thn hA λus s2 hz39=>?_;obtain⟨vs,H2,I2,r2,q2⟩:=hz39;exact hm pins s2 Z H2 x vs v us Q I2 r1 r2 q2
end
def MtM(X:Cx)(id:String)(r:V->List V->Hp->VK->Prop):Prop:=
 ∀(pins:PP) (s:ag) (Z:St) (H:Hp) (x:V) (xs:List V) (v:aa) (us:List aa) (Q:VK),Inv X pins Z H s->qK x v->qu xs us->r x xs H Q->
  ak (al X.prog X.w) X.A (call (.builtin id) (v::us)) (EP X pins Z Q) X.xe s
theorem qu.one{x:V}{us:List aa}(h:qu [x] us):∃u,us=[u]/\qK x u:=by
 cases h with
 |cons r t=>cases t;exact{_,rfl,r}
section
variable{X:Cx}{pins:PP}{Z:St}{H:Hp}{s:ag}{l b:ad}{xs ys zs:List V}
def Inv.lset{its its':List aa}{n:Nat}{f:Array aa->Array aa}{t':Nat}(I:Inv X pins Z H s)(hH:H l=some (.lst xs))
  (e:s.heap.get? l=some { cls:=.type "list",data:=.seq its.toArray n }) (hf:f its.toArray=its'.toArray) (hv:qu ys its') (hz:ys.length<=sizeLine) :
  Inv X pins Z (upd H l (.lst ys)) { s with heap:=s.heap.update l (cg f),toks:=t' }:=by
 have q:=PySem.IsL.update e f;rw[hf]at q;refine I.write (x:=l) (e:=l) (by rw[hH];exact trivial) (.inl rfl) (λb' u hb hu=>(g7 s.heap (cg f) (cj hb)).trans hu) ⟨_,q⟩ ?_;exact{hz,its',_,hv,q}
def Inv.lnew{its:List aa}{t':Nat}(I:Inv X pins Z H s)(hv:qu ys its)(hz:ys.length<=sizeLine) :
  Inv X pins Z (upd H s.heap.objs.size (.lst ys)) { s with heap:=s.heap.push { cls:=.type "list",data:=.seq its.toArray },toks:=t' }:=
 I.laid (λ_ _ q=>aP _ q) (az _) ⟨hz,its,0,hv,bg _ rfl⟩
def Inv.fresh(I:Inv X pins Z H s):H s.heap.objs.size=none:=I.hok.fresh (az _)
def Inv.lstM(I:Inv X pins Z H s)(hH:H l=some (.lst xs)):xs.length<=sizeLine/\∃(its:List aa) (n:Nat),qu xs its/\xs.length=its.length/\s.heap.get? l=some { cls:=.type "list",data:=.seq its.toArray n }:=by obtain⟨z,its,n,r,e⟩:=I.hok l _ hH;exact⟨z,its,n,r,r.length,e⟩
def qfh{n:Nat}(h:n<=sizeLine):iW n=false:=by unfold iW;exact decide_eq_false (1:)
end
section
variable{X:Cx}
def qhR:V->List V->Hp->VK->Prop:=λx vs H Q=>∃l xs y,x=.ref l/\vs=[y]/\H l=some (.lst xs)/\xs.length < sizeLine/\Q .non (upd H l (.lst (xs++[y])))
def qc2:MtM X "list.append" qhR:=by
 intro pins s Z H x vs v us Q I rx rv h;obtain⟨l,xs,y,rfl,rfl,hH,hz,q⟩:=h;cases rx;obtain⟨u,rfl,ru⟩:=rv.one;obtain⟨z,its,n,r,hl,e⟩:=I.lstM hH;refine call_meets F.slot_list_append ⟨_,e,rfl⟩ F.entry_list_append (F.args_list_append_2 _ _) (PySem.list_append l its.toArray n u (by rw[bj];lia)) ⟨e,?_⟩;refine{.non,_,I.lset (its':=its++[u]) hH e (5:) (r.append %[ru|0]) ?_,rfl,q};rw[bq,kj]
 lia
def qhS:V->List V->Hp->VK->Prop:=λx vs H Q=>∃l b xs zs,x=.ref l/\vs=[.ref b]/\H l=some (.lst xs)/\H b=some (.lst zs)/\xs.length+zs.length<=sizeLine/\Q .non (upd H l (.lst (xs++zs)))
def qc3:MtM X "list.extend" qhS:=by
 intro pins s Z H x vs v us Q I rx rv h;obtain⟨l,b,xs,zs,rfl,rfl,hH,hB,hz,q⟩:=h;cases rx;obtain⟨u,rfl,ru⟩:=rv.one;cases ru;obtain⟨z,its,n,r,hl,e⟩:=I.lstM hH;obtain⟨z2,its2,n2,r2,hl2,e2⟩:=I.lstM hB;have hsz:its.toArray.size+its2.toArray.size<=sizeLine:=by rw[bj,bj];lia
 have hlong:¬ (!its.toArray.isEmpty&&iW (its.toArray.size+its2.toArray.size))=true:=by rw[qfh hsz,Bool.and_false];exact dQ
 refine call_meets F.slot_list_extend ⟨_,e,rfl⟩ F.entry_list_extend (F.args_list_extend_2 _ _)
  (AutoSeq1.list_extend_list_list_0 l its.toArray n b its2.toArray n2 hlong (by rw[bj];lia) (1:)) ⟨e,e2,?_⟩
 refine{.non,_,I.lset (its':=its++its2) hH e (5:) (r.append r2) ?_,rfl,q};rw[bq];omega
def qpd:R2:=λx y H Q=>∃l b xs zs,x=.ref l/\y=.ref b/\H l=some (.lst xs)/\H b=some (.lst zs)/\xs.length+zs.length<=sizeLine/\∀p,H p=none->Q (.ref p) (upd H p (.lst (xs++zs)))
def qj7:OpR X (b9 .Add) qpd:=by
 intro pins s Z H x y v u Q I rx ry h;obtain⟨l,b,xs,zs,rfl,rfl,hH,hB,hz,q⟩:=h;cases rx;cases ry;obtain⟨z,its,n,r,hl,e⟩:=I.lstM hH;obtain⟨z2,its2,n2,r2,hl2,e2⟩:=I.lstM hB;refine PySem.P.add_list e e2 ?_ (by rw[bj,bj];lia);have ea:its.toArray++its2.toArray=(its++its2).toArray:=by simp
 rw[ea];exact{.ref _,_,I.lnew (t':=s.toks) (r.append r2) (by rw[bq];omega),rfl,q _ I.fresh}
end
end L2
namespace Att
open PySem PySem.W PySem.Calls PyProof.Rows
theorem JV{P:ec}{h:au}:∀(ns:List Int) (vs:List aa),WellAll P h vs (ns.map WData.int)->e7 vs ns:=by
 intro ns
 induction ns with
 |nil=>intro vs w;rw[aK]at w;cases w;exact .nil
 |cons n ns ih=>
  intro vs w;rw[av]at w
  cases w with
  |cons a b=>cases a;exact .cons _ _ (ih _ b)
theorem qc4{l:OpenLaw}{n:Nat}(hn:l.most=some n){P:ec}{h:au}{args:List WData}{vals:List aa}
  (hpre:l.row.toRowW.claim.pre args=true) (hwl:WellAll P h vals args) :
  ∃a vs ns,vals=[bm a]/\args=[WData.list (ns.map WData.int)]/\h.get? a=some { cls:=.type "list",data:=.seq vs.toArray }/\e7 vs ns/\ns.length<=n:=by
 have hsh:WShape.hasAll [] args [.list .int]=true:=(pre_splitW hpre).1;have hc:l.pre.holds [] { args:=args }=true:=(pre_splitW hpre).2;obtain⟨d,r,rfl,h1,h2⟩:=hasAllW_cons hsh;cases hasAllW_nil h2;obtain⟨xs,rfl,h3⟩:=hasW_list h1;obtain⟨ns,rfl⟩:=items_int h3
 have hlen:ns.length<=n:=by
  unfold OpenLaw.pre at hc
  have h4:(WTm.not (.lt (.lit (.int (n:Int))) (.len (.arg 0)))).holds [] { args:=[.list (ns.map .int)] }=true:=by have h4:=(holds_andW hc).1;rw[hn]at h4;exact h4
  have h5:=condW_of h4 (w_not (w_lt w_lit (w_len_list (w_arg rfl))));rw[aD]at h5;refine Nat.le_of_not_lt λq=>?_;have q':(n:Int) < ((ns.length:Nat):Int):=by omega
  first
   | (rw[decide_eq_true q']at h5;exact absurd h5 (2:))
   | (simp at h5;lia)
 cases hwl with
 |cons w1 w2=>
  cases w2
  cases w1 with
  |list ho hall=>exact{_,_,ns,rfl,rfl,ho,JV ns _ hall,hlen}
def qc5(l:OpenLaw)(args:List WData):l.row.toRowW.claim.post args (.bool true) args=true:=
 postW_of (r:=l.row.toRowW) (X:=(true == true))
  (show WShape.has [] (.bool true) .bool=true by first|rfl|decide|simp[WShape.has,WShape.arms,WShape.armsAll])
  (show(WTm.eq .res (.lit (.bool true))).value [] { args:=args,res:=some (.bool true),after:=args }=some (.bool (true == true)) from w_eq_bool (w_res rfl) w_lit) rfl
def qaq{l:OpenLaw}{n:Nat}{q:aE}{loose:List Str}{XP:(Str->Option aa)->au->Prop}{YP:aB->au->Prop}{d:DefRec}
  (hn:l.most=some n) (hdf:d.params.defaults=[])
  (call:∀(w:aB) (s₀ s₁:ag) (mg mb:PR) (fa:ad) (o:Obj) (pm cd doc:aa) (a:ad) (vs:List aa) (ns:List Int),
   Ground q loose [] XP w s₀ mg mb s₁.heap->YP w s₁.heap->
   s₁.heap.get? fa=some o->o.data=.func (docDef d.name d.params d.body d.scope pm cd doc)->s₁.heap.CodeRec cd d.name->mg d.name=some (.ref fa)->
   s₁.heap.get? a=some { cls:=.type "list",data:=.seq vs.toArray }->e7 vs ns->ns.length<=n->s₁.gens=#[]->
   de (al l.prog w) e8 (.call (.ref fa) ⟨[.ref a],[]⟩) (λr s'=>r=.ok (.ret (.bool true))/\OldK s₁.heap s'.heap/\s'.os=s₁.os/\dX s'.gens) s₁) :
  WalkO q loose XP YP l.row.toRowW d [] (λf vs=>PySem.call f vs):=by
 intro w s₀ s₁ mg mb G Y fa o pm cd doc dV kV ho hd hcd hD hmg hg args vals as hpre hlay hrd hwl hlo;obtain rfl:dV=.none:=Dflts.none hD hdf;obtain rfl:kV=.none:=Dflts.noKw hD;obtain⟨a,vs,ns,rfl,rfl,hobj,hints,hlen⟩:=qc4 hn hpre hwl;refine enter_call (d9 (call w s₀ s₁ mg mb fa o pm cd doc a vs ns G Y ho (fd_plain hd) hcd hmg hobj hints hlen hg) λr s' hq=>?_);obtain⟨rfl,h2,h3,h4⟩:=hq;exact{.inl {.bool true,.bool true,[],rfl,λ_=>rfl,.bool true,qc5 l _,λ_=>{List.Pairwise.nil,λ_ hm=>(nomatch hm)}},h2,h3,h4}
end Att
namespace L2
open PySem PySem.Spec PyProof.Rows
theorem qc6{vs:List aa}{ns:List Int}(h:e7 vs ns):qu (ns.map V.int) vs:=by
 induction h with
 |nil=>exact .nil
 |cons n t h ih=>exact .cons ⟨t,rfl⟩ ih
def qnu(H:Hp):Prop:=∀b,H b=none\/∃o xs,H b=some (.frz o (.lst xs))
theorem qfi{P:aE}{w:aB}{K:Frag}{mg mb:PR}{CX:CXT}{k:Nat}{fa a:ad}{fd:bO}{x:Str}{sp:Sp}{s₁:ag}{vs:List aa}{ns:List Int}
  (KX:K.In s₁.heap) (hns:s₁.heap.Ns aV mg) (hb:s₁.heap.Ns builtinsNs mb) (hbb:∀x:Str,x≠"__name__"->mb x=fK x) (hlim:s₁.heap.NoLimit) (hg:s₁.gens=#[])
  (ha:s₁.heap.get? a=some { cls:=.type "list",data:=.seq vs.toArray }) (hi:e7 vs ns) (hl:ns.length<=sizeLine) (hr:Room k e8)
  (F:∀base:au,K.In base->base.Ns aV mg->FnOk P w K mg base CX k fa fd [x] sp) (hbind:∀(s:ag) (u:aa),e6 s fd ⟨[u],[]⟩ [(x,u)])
  (hsp:∀H:Hp,qnu H->SqL K H a (ns.map V.int)->sp [.ref a] H (λv _=>v=.bl true) λ_ _ _=>False)
  (hCX:∀H e s',CX [] H s₁ (λ_ _ _=>False) e s'->False) :
  de (al P w) e8 (.call (.ref fa) ⟨[.ref a],[]⟩) (λr s'=>r=.ok (.ret (.bool true))/\OldK s₁.heap s'.heap/\s'.os=s₁.os/\dX s'.gens) s₁:=by
 have rv:=qc6 hi;have lenV:=hi.length
 have core:∀H:Hp,qnu H->SqL K H a (ns.map V.int)->HOk P w H s₁.heap->(∀b,H b≠none->b=a)->(H a≠none->K.lookup a=none)->
   de (al P w) e8 (.call (.ref fa) ⟨[.ref a],[]⟩) (λr s'=>r=.ok (.ret (.bool true))/\OldK s₁.heap s'.heap/\s'.os=s₁.os/\dX s'.gens) s₁:=by
  intro H hO hS hok hA hK;have base_of:∀{b:ad} {o:Obj},s₁.heap.get? b=some o->H b=none->(qeX s₁.heap H).get? b=some o:=λe n=>qeY e n
  have noA:∀{b:ad} {o:Obj} {es:Array DictEntry} {ep:Nat},s₁.heap.get? b=some o->o.data=.dict es ep->H b=none:=λ{b o es ep} e d=>by
   cases q:H b with
   |none=>rfl
   |some u=>have e':b=a:=hA b (by rw[q];simp);subst e';rw[ha]at e;cases e;have d':Data.seq vs.toArray _=Data.dict es ep:=d;cases d'
  have nsK:∀{b:ad} {m:PR},s₁.heap.Ns b m->(qeX s₁.heap H).Ns b m:=λ{b m} ⟨o,es,ep,e,d,r⟩=>{o,es,ep,base_of e (noA e d),d,r}
  have hKb:K.In (qeX s₁.heap H):=λb o e=>base_of (KX b o e) (by
   cases q:H b with
   |none=>rfl
   |some u=>have e':b=a:=hA b (by rw[q];simp);subst e';rw[hK (by rw[q];simp)]at e;cases e)
  have hM:Mod K mg (qeX s₁.heap H):={hKb,nsK hns,{mb,nsK hb,hbb},let ⟨mc,h1,h2⟩:=hlim;⟨mc,nsK h1,h2⟩};have e0:Env0 P w K mg (qeX s₁.heap H) e8 [] s₁ H:={rfl,hM,λb o e=>qhv e,f7 (qcK _ _),trivial,λb hb=>absurd (show b∈([]:List ad) from hb) (5:),hok,.of_eq hg};refine d9 ((F _ hKb (nsK hns)).run e8 [] s₁ H ⟨[.ref a],[]⟩ [.ref a] [.ref a] _ _ hr e0 (hbind s₁ (.ref a)) %[rfl|0] (hsp H hO hS)) λr s' h=>?_
  cases r with
  |error e=>exact(hCX H e s' h).elim
  |ok fl=>
   cases fl with
   |next=>exact ao h
   |brk=>exact ao h
   |cont=>exact ao h
   |ret u=>
    obtain⟨v,H',os,bare,un,hok',r',q⟩:=h;have q':v=.bl true:=q;subst q';obtain rfl:u=gW true:=r';refine{rfl,OldK.of_keep λb o e=>?_,os,bare}
    cases q:H b with
    |none=>exact un.keep b o e q (by intro z;exact absurd (show b∈([]:List ad) from z) (5:)) (5:)
    |some u=>
     rcases hO b with z|⟨ob,xs,z⟩
     ·rw[q]at z;cases z
     ·have z2:=un.frzs b ob _ z;obtain⟨e1,_⟩:=hok b _ z;obtain⟨e2,_⟩:=hok' b _ z2;rw[e]at e1;cases e1;exact e2
 cases hk:K.lookup a with
 |some o=>have e:=KX a o hk;rw[ha]at e;cases e;refine core (λ_=>none) (λ_=>.inl rfl) (.inr ⟨_,vs.toArray,_,hk,rfl,rfl,rfl,by rw[bj,lenV];exact hl,(-rv:)⟩) (λb u z=>by have z':(none:Option HO)=some u:=z;cases z') (λb z=>absurd rfl z) λz=>absurd rfl z
 |none=>
  refine core (λb=>if b=a then some (.frz { cls:=.type "list",data:=.seq vs.toArray } (.lst (ns.map V.int))) else none) (λb=>?_) (.inl (.inr ⟨{ cls:=.type "list",data:=.seq vs.toArray },if_pos rfl⟩)) (λb u z=>?_) (λb z=>?_) λ_=>hk
  ·by_cases hb:b=a
   ·exact .inr ⟨_,_,if_pos hb⟩
   ·exact .inl (if_neg hb)
  ·by_cases hb:b=a
   ·have z':=(if_pos hb).symm.trans z;cases z';subst hb;exact{ha,by rw[aD];exact hl,vs,_,rv,ha}
   ·have z':=(if_neg hb).symm.trans z;cases z'
  ·by_cases hb:b=a
   ·exact hb
   ·exact absurd (if_neg hb) z
def qhT{l:PySem.W.OpenLaw}{n k:Nat}{q:aE}{loose:List Str}{XP:(Str->Option aa)->au->Prop}{YP:aB->au->Prop}{d:DefRec}{K:ec->Frag}{CX:aB->CXT}{sp:aB->Sp}{x:Str}
  (hn:l.most=some n) (hn2:n<=sizeLine) (hdf:d.params.defaults=[]) (hr:Room k e8)
  (hY:∀(w:aB) (h:au),YP w h->(K w.params).In h)
  (F:∀(w:aB) (mg:PR) (fa:ad) (h:au),(K w.params).In h->h.Ns aV mg->mg d.name=some (.ref fa)->
   ∃fd:bO,(∀(s:ag) (u:aa),e6 s fd ⟨[u],[]⟩ [(x,u)])/\
    ∀base:au,(K w.params).In base->base.Ns aV mg->FnOk l.prog w (K w.params) mg base (CX w) k fa fd [x] (sp w))
  (hsp:∀(w:aB) (H:Hp) (a:ad) (ns:List Int),ns.length<=n->qnu H->SqL (K w.params) H a (ns.map V.int)->sp w [.ref a] H (λv _=>v=.bl true) λ_ _ _=>False)
  (hCX:∀(w:aB) (H:Hp) (s:ag) (e:aa) (s':ag),CX w [] H s (λ_ _ _=>False) e s'->False) :
  PySem.W.WalkO q loose XP YP l.row.toRowW d [] (λf vs=>PySem.call f vs):=by
 refine Att.qaq hn hdf λw s₀ s₁ mg mb fa o pm cd doc a vs ns G Y ho hd hcd hmg hobj hints hlen hg=>?_;have KX:=hY w _ Y;obtain⟨fd,hb,hF⟩:=F w mg fa _ KX G.T.g hmg;exact qfi KX G.T.g G.T.b G.T.builtins G.T.nolimit hg hobj hints (bz hlen hn2) hr hF hb (λH hO hS=>hsp w H a ns hlen hO hS) λH e s'=>hCX w H s₁ e s'
def qW(s:aC):Arguments:=match s with
 |.FunctionDef _ a _ _ _ _ _ _ _ _=>a
 |_=>{ posonlyargs:=[],args:=[],vararg:=none,kwonlyargs:=[],kw_defaults:=[],kwarg:=none,defaults:=[] }
def qA(s:aC):List aC:=match s with
 |.FunctionDef _ _ b _ _ _ _ _ _ _=>b
 |_=>[]
def qh(s:aC):bi:=match s with
 |.FunctionDef _ _ _ _ _ _ sc _ _ _=>sc
 |_=>{ kind:=.function,names:=[],isGenerator:=false,isCoroutine:=false }
abbrev CX0:CXT:=λ_ _ _ _ _ _=>False
abbrev E0:XK:=λ_ _ _=>False
def qar{X:Cx}:jv CX0 X E0:=λ_ _ _ _ _ _ _ h=>h.elim
structure Fun(K:Frag)(x qual:Str)(st:aC)(f:ad)(fd:bO):Prop where
 ex:∃(oc:aa) (od:Option ad) (kV doc pm:aa) (an:Option ad) (cdv ct:aa) (osl:Array (Option aa)),
  fd=cu x qual (qW st) (qA st) (qh st) .none kV doc pm an cdv ct/\K.lookup f=some ⟨oc,od,.func fd,osl⟩/\gU K cdv qual=true
 kp:dz K (.ref f)=true
section
variable{P:aE}{w:aB}{K:Frag}{mg:PR}{base:au}
def Fun.ok{x qual:Str}{st:aC}{f:ad}{fd:bO}{N ps:List Str}{k:Nat}{sp:Sp}(F:Fun K x qual st f fd)(S:FnScope N ps (qh st))(len:∀vs H Q E,sp vs H Q E->vs.length=ps.length)
  (hbody:∀(cdv:aa) (A:aH) (outer:List Env) (s:ag) (H:Hp) (vs:List V) (Q:VK) (E:XK),Room k (A.deeper (dw qual (qh st) s.heap.objs.size f cdv))->sp vs H Q E->
   ∃t,PSs (qfd CX0 P w K mg base N qual (qh st) f cdv A outer s H E).nox (qA st) t/\t { nx:=λ_ H'=>Q .non H',rt:=Q } (start N vs) H):FnOk P w K mg base CX0 (k+1) f fd ps sp:=by
 obtain⟨oc,od,kV,doc,pm,an,cdv,ct,osl,rfl,lk,hcd⟩:=F.ex;refine qj1 lk hcd S len λA outer s H vs Q E hr hsp=>?_;obtain⟨t,h,q⟩:=hbody cdv A outer s H vs Q E hr hsp;exact⟨t,h.nox,q⟩
def Fun.binds{x qual:Str}{st:aC}{f:ad}{fd:bO}{ps:List Str}(F:Fun K x qual st f fd)
  (h:∀(kV doc pm:aa) (an:Option ad) (cdv ct:aa) (us:List aa),us.length=ps.length->eE (cu x qual (qW st) (qA st) (qh st) .none kV doc pm an cdv ct) ⟨us,[]⟩=pure (ps.zip us)):zp K fd ps []:=by
 obtain⟨oc,od,kV,doc,pm,an,cdv,ct,osl,rfl,lk,hcd⟩:=F.ex;exact .all (h kV doc pm an cdv ct)
def qgH{x qual:Str}{st:aC}{f:ad}{oc:aa}{od an:Option ad}{osl:Array (Option aa)}{kV doc pm cdv ct:aa}(l:K.lookup f=some ⟨oc,od,.func (cu x qual (qW st) (qA st) (qh st) .none kV doc pm an cdv ct),osl⟩)
  (c:gU K cdv qual=true) (k:dz K (.ref f)=true):Fun K x qual st f (cu x qual (qW st) (qA st) (qh st) .none kV doc pm an cdv ct):={⟨oc,od,kV,doc,pm,an,cdv,ct,osl,rfl,l,c⟩,k}
end
def Zk{n:Nat}(h:n<=1000):n < sizeLine:=kn h (2:)
section
variable{X:Cx}
def pv(i:Nat){x:Str}{pos:Pos}(hN:X.N[i]?=some x:=by rfl)(hv:Vis X.env.scope x:=by first|exact Or.inl rfl|exact Or.inr (Or.inl rfl)|exact Or.inr (Or.inr rfl))(hd:(x == ("__debug__" : Str))=false:=by decide)
  (hcd:(x == ("__classdict__" : Str))=false:=by decide):PE X (.Name x pos) (qmV i):=qcL hN hv hd hcd
end
def qo(H H':Hp):Prop:=∀b o,H b=some o->H' b=some o
def qo.seq{K:Frag}{H H':Hp}{a:ad}{xs:List V}(e:qo H H')(h:SqL K H a xs):SqL K H' a xs:=by
 rcases h with (h|⟨o,h⟩)|h
 ·exact .inl (.inl (e _ _ h))
 ·exact .inl (.inr ⟨o,e _ _ h⟩)
 ·exact .inr h
end L2
set_option maxHeartbeats 4000000
namespace DG
open PySem
def qhU:aC->List aC
 |.ClassDef _ _ _ b _ _ _ _ _ _ _=>b
 |_=>[]
end DG
namespace HD
open PySem PySem.W
def JW(tb:String->Option Builtin)(p:aE)(w:aB)(n₀:Nat)(ann:Option aa):Nat->fT->Thread->Option fT
 |0,_,_=>none
 | n+1,s,t=>match through t with
  |true=>some s
  |false=>match stepOk n₀ ann t with
   |false=>none
   |true=>match stepT (denote tb) p w s t with
    | some (s',t')=>JW tb p w n₀ ann n s' t'
    |none=>none
theorem Zl{tb:String->Option Builtin}{p:aE}{w:aB}{n₀:Nat}{ann:Option aa}:∀{n:Nat} {s s':fT} {t:Thread},JW tb p w n₀ ann n s t=some s'->topRun tb p w n₀ ann n s.abs t=some s'.abs
 |0,_,_,_,h=>by cases h
 | n+1,s,s',t,h=>by
  unfold JW at h;unfold topRun
  cases ht:through t with
  |true=>rw[ht]at h;cases h;rfl
  |false=>
   rw[ht]at h
   cases hk:stepOk n₀ ann t with
   |false=>rw[hk]at h;cases h
   |true=>
    rw[hk]at h
    cases hs:stepT (denote tb) p w s t with
    |none=>rw[hs]at h;cases h
    |some r=>obtain⟨s₂,t₂⟩:=r;rw[hs]at h;dsimp only;rw[stepT_spec hs];exact Zl h
def ofL:List Obj->Nat->BT->BT
 |[],_,t=>t
 | o::r,n,t=>ofL r (n+1) (t.ins n o)
def qhV(P:ec)(os:OsState):fT:={ofL (bX P).objs.toList 0 .nil,(bX P).objs.toList.length,(bX P).life,eN [],gH,gI,os}
def qc7(P:ec)(os:OsState):(qhV P os).abs=⟨bX P,eN [],gH,gI,os⟩:=(4:)
def qhW{α:Type}(p q:aE)(loose:List Str)(Xt:ag->Bool)(Yf:ag->α)(g0:Bool)(Hv:au)(s:ag):=
 (staticsOk (lm p.main.body) Hv s.heap&&namesBound p s.heap&&gensDone s&&laidKept Hv s.heap,openSeen q loose (lm p.main.body) Xt g0 s,Yf s)
def qhX{p q:aE}{loose:List Str}{Xt:ag->Bool}{α:Type}{Yf:ag->α}{Ya:aB->α}{N:Nat}{g0:Bool}{m₀:Nat}{ann:Option aa}
  (open_:∀w:aB,(fencedOpening gJ p w N).map (λs=>(s.heap,s.gens,s.drawn,s.toks))=some (bX w.params,eN [],gH,gI))
  (size:∀w:aB,((bX w.params).isNs aV&&(eN []:Array fL).size == 0,(bX w.params).objs.size,(bX w.params).nsMap aV "__annotations__")=(true,m₀,ann))
  (h:∀w os,(JW gJ p w m₀ ann N (qhV w.params os) (topStub p)).map (λs=>qhW p q loose Xt Yf g0 (bX w.params) s.abs)=some (true,openGood q loose,Ya w)):LeftO p q loose Xt Yf Ya N g0:=λw=>by
 obtain⟨⟨h0,gs,d,k,os⟩,e,e'⟩:=bF.mp (open_ w);obtain⟨rfl,rfl,rfl,rfl⟩:h0=bX w.params/\gs=eN []/\d=gH/\k=gI:=(-e':)
 obtain⟨z1,z2,z3⟩:_/\_/\_:=by simpa only[Prod.mk.injEq] using size w
 obtain⟨s₁,r,l⟩:=bF.mp (h w os);have r':=Zl r;rw[qc7]at r';obtain⟨l1,l2,l3⟩:_/\_/\_:=by simpa only[qhW,Prod.mk.injEq] using l
 have t:topFrom gJ p w N ⟨bX w.params,eN [],gH,gI,os⟩=some s₁.abs:=by unfold topFrom;dsimp only;rw[z1,z2,z3,r'];show(match staticsOk (lm p.main.body) (bX w.params) s₁.abs.heap&&namesBound p s₁.abs.heap&&gensDone s₁.abs&&laidKept (bX w.params) s₁.abs.heap with |true=>_ |false=>_)=_;rw[l1]
 unfold openEnds;rw[e];show(topFrom gJ p w N _).map _=_;rw[t];exact congrArg some (Prod.ext l2 l3)
def dE(P:ec)(k:Str)(t:Tok)(v:aa):DictEntry:={PyData.keyHash P k,.str k t,v}
def oFn(d:Option ad)(st:aC)(name qual:Str)(dV kV doc pm:aa)(an:Option ad)(cd ct:aa):Obj:={.type "function",d,.func (fnOf name qual (L2.qW st) (L2.qA st) (L2.qh st) dV kV doc pm an cd ct),#[]}
def oC(n:Str)(t1:Tok)(q:Str)(t2 t3:Tok)(l ar:Int)(a b:ad)(x y:aa)(c:ad)(u:Int)(v:Tok):Obj:={.type "code",none,.fields #[.str n t1,.str q t2,.str "/claim/cut.py" t3,.int l 0,.int ar 0,.int 0 0,.int 0 0,.int 3 0,.ref a,.bool true,.int 181 0,.ref b,.none,x,y,.ref c,.int u 0,.int l 0,.str "/claim/cut.py" v],#[]}
def oG(st:aC)(n m:Str)(t:Tok)(a:ad):Obj:=oFn none st n n .none .none .none (.str m t) none (.ref a) .none
def oB(n:Str)(t:Tok)(l ar:Int)(a:ad)(v:Nat):Obj:=oC n t n (t+1) (t+2) l ar a (a+1) (.ref (a+2)) (.ref (a+3)) (a+4) v (v+1)
def co(a:ad)(o:Obj)(r:Frag):Frag:=(a,o)::r
def fB(st:aC)(m:Str)(mt:Tok)(a b:ad)(n:Str)(t:Tok)(l ar:Int)(u:Nat)(r:Frag):Frag:=(a,oB n t l ar (a - 5) u)::(b,oG st n m mt a)::r
def qc8(w:aB):((bX w.params).isNs aV&&(eN []:Array fL).size == 0,(bX w.params).objs.size,(bX w.params).nsMap aV "__annotations__")=(true,11,some (.ref 6)):=(4:)
end HD
namespace TS
open PySem PyProof.Rows
def gal:Bool->af->Array af->Nat->Nat->Nat->StateT aj Sem (Option Nat):=sortPriv% PySem.Builtin.gallop
def mlo:Array af->Array af->StateT aj Sem (Array af):=sortPriv% PySem.Builtin.mergeLo
def mhi:Array af->Array af->StateT aj Sem (Array af):=sortPriv% PySem.Builtin.mergeHi
def byd(left:Bool)(key:af)(arr:Array af)(p:Nat):StateT aj Sem (Option Bool):=do
 let x<-aO arr p
 if left then lt' x key else return (<-lt' key x).map (!·)
def qfj(left:Bool)(key:af)(arr:Array af)(base n:Nat)(lw0 up0:Nat):StateT aj Sem (Option Nat):=do
  let mut lw:=lw0
  let mut up:=up0
  for _ in [0:n] do
   if lw≥up then break
   let mid:=lw+(up - lw) / 2
   let some mo<-byd left key arr (base+mid)|return none
   if mo then lw:=mid+1 else up:=mid
  return some up
def gup(left:Bool)(key:af)(arr:Array af)(base n hint:Nat):StateT aj Sem (Option Nat):=do
   let mut la:=0
   let mut of:=1
   for _ in [0:n] do
    if of≥n - hint then break
    let some mo<-byd left key arr (base+(hint+of))|return none
    if !mo then break
    la:=of
    of:=2 * of+1
   qfj left key arr base n (hint+la+1) (hint+min of (n - hint))
def gdn(left:Bool)(key:af)(arr:Array af)(base n hint:Nat):StateT aj Sem (Option Nat):=do
   let mut la:=0
   let mut of:=1
   for _ in [0:n] do
    if of≥hint+1 then break
    let some mo<-byd left key arr (base+(hint - of))|return none
    if mo then break
    la:=of
    of:=2 * of+1
   qfj left key arr base n (hint+1 - min of (hint+1)) (hint - la)
def qj8(left:Bool)(key:af)(arr:Array af)(base n hint:Nat):gal left key arr base n hint=(do
  let some rt<-byd left key arr (base+hint)|return none
  if rt then gup left key arr base n hint else gdn left key arr base n hint):=rfl
section
variable{M:cH}{A:aH}{E:PQ}{s:ag}{O:aU}{kf:af->O.α}{U:cc}{G:af->Prop}
def Jp(M:cH)(A:aH)(E:PQ)(s:ag)(O:aU)(kf:af->O.α)(U:cc)(G:af->Prop):Prop:=
 ∀x y,G x->G y->∀(st:aj) (Q:Option Bool->aj->Prop),kindOf st=U->Q (some (O.blt (kf x) (kf y))) st->wpS M A E s (lt' x y) Q st
def pby(O:aU)(kf:af->O.α)(left:Bool)(key x:af):Bool:=if left then O.blt (kf x) (kf key) else !(O.blt (kf key) (kf x))
def qq{arr:Array af}{p:Nat}{x:af}{st:aj}{Q:af->aj->Prop}(e:arr[p]?=some x)(h:Q x st):wpS M A E s (aO arr p) Q st:=by rw[elem'_eq,e];exact ay h
theorem qa7(L:Jp M A E s O kf U G){left:Bool}{key:af}{arr:Array af}{p:Nat}{x:af}{st:aj}{Q:Option Bool->aj->Prop}(hk:kindOf st=U)(hG:G key)(e:arr[p]?=some x)(hx:G x)
  (h:Q (some (pby O kf left key x)) st):wpS M A E s (byd left key arr p) Q st:=by
 unfold byd;refine am (qq e ?_);unfold pby at h
 cases left with
 |true=>simp![if_true]at h ⊢;exact L x key hx hG st Q hk h
 |false=>simp![a7,if_false]at h ⊢;exact am (L key x hG hx st _ hk (ay h))
variable{left:Bool}{key:af}{arr:Array af}{base n hint:Nat}{st:aj}{P:Nat->Bool}
def qa8(L:Jp M A E s O kf U G){Q:Option Nat->aj->Prop}(hk:kindOf st=U)(hG:G key)(hA:∀i,i < n->∃x,arr[base+i]?=some x/\G x/\pby O kf left key x=P i)
  (mono:∀i j,i<=j->j < n->P j=true->P i=true) {lw up:Nat} (h1:lw<=up) (h2:up<=n) (hl:∀i,i < lw->P i=true) (hu:∀i,up<=i->i < n->P i=false)
  (h:∀k,k<=n->(∀i,i < k->P i=true)->(∀i,k<=i->i < n->P i=false)->Q (some k) st):wpS M A E s (qfj left key arr base n lw up) Q st:=by
 unfold qfj;dsimp only
 refine am (ce (bY (I:=λx c st'=>st'=st/\∃l u,c=(none,l,u)/\l<=u/\u<=n/\u - l<=n - x/\(∀i,i < l->P i=true)/\(∀i,u<=i->i < n->P i=false))
  (Q:=λc st'=>st'=st/\∃u,c=(none,u,u)/\u<=n/\(∀i,i < u->P i=true)/\(∀i,u<=i->i < n->P i=false)) ?step ?fin ⟨rfl,lw,up,rfl,h1,h2,by lia,hl,hu⟩) ?post)
 case post=>rintro c st' ⟨rfl,u,rfl,a,b,d⟩;exact ay (h u a b d)
 case fin=>
  rintro c st' ⟨rfl,l,u,rfl,a,b,d,e,f⟩
  have:l=u:=by lia
  subst this;exact⟨rfl,l,rfl,b,e,f⟩
 case step=>
  rintro x c st' _ hx ⟨rfl,l,u,rfl,a,b,d,e,f⟩;dsimp only
  by_cases hge:l≥u
  ·rw[if_pos hge]
   have:l=u:=by lia
   subst this;exact ay ⟨rfl,l,rfl,b,e,f⟩
  ·rw[if_neg hge];obtain⟨z,z1,z2,z3⟩:=hA (l+(u - l) / 2) (1:);refine am (qa7 L hk hG z1 z2 ?_);rw[z3]
   cases hp:P (l+(u - l) / 2) with
   |true=>simp![if_true];refine ay ⟨rfl,_,_,rfl,by lia,b,by omega,λi hi=>mono i _ (1:) (1:) hp,f⟩
   |false=>
    simp![a7,if_false];refine ay ⟨rfl,_,_,rfl,by lia,by lia,by omega,e,λi hi hn=>?_⟩
    cases q:P i with
    |false=>rfl
    |true=>rw[mono _ i hi hn q]at hp;cases hp
theorem qj9(L:Jp M A E s O kf U G){Q:Option Nat->aj->Prop}(hk:kindOf st=U)(hG:G key)(hA:∀i,i < n->∃x,arr[base+i]?=some x/\G x/\pby O kf left key x=P i)
  (mono:∀i j,i<=j->j < n->P j=true->P i=true) (hh:hint < n)
  (h:∀k,k<=n->(∀i,i < k->P i=true)->(∀i,k<=i->i < n->P i=false)->Q (some k) st):wpS M A E s (gal left key arr base n hint) Q st:=by
 have monoF:∀i j,i<=j->j < n->P i=false->P j=false:=λi j a b c=>by
  cases q:P j with
  |false=>rfl
  |true=>rw[mono i j a b q]at c;cases c
 rw[qj8];obtain⟨z,z1,z2,z3⟩:=hA hint hh;refine am (qa7 L hk hG z1 z2 ?_);rw[z3]
 cases hp:P hint with
 |true=>
  simp![if_true];unfold gup;dsimp only
  refine am (ce (bY (I:=λx c st'=>st'=st/\∃l o,c=(none,l,o)/\l < o/\x < o/\hint+l < n/\P (hint+l)=true)
   (Q:=λc st'=>st'=st/\∃l o,c=(none,l,o)/\l < o/\hint+l < n/\P (hint+l)=true/\(n - hint<=o\/(hint+o < n/\P (hint+o)=false))) ?step ?fin ⟨rfl,0,1,rfl,by lia,by lia,by omega,hp⟩) ?post)
  case fin=>rintro c st' ⟨rfl,l,o,rfl,a,b,d,e⟩;exact{rfl,l,o,rfl,a,d,e,.inl (1:)}
  case post=>
   rintro c st' ⟨rfl,l,o,rfl,a,d,e,f⟩;dsimp only;refine qa8 L hk hG hA mono (by omega) (by omega) (λi hi=>mono i _ (1:) d e) (λi hi hn=>?_) h;rcases f with f|⟨f,g⟩
   ·omega
   ·exact monoF _ i (1:) hn g
  case step=>
   rintro x c st' _ hx ⟨rfl,l,o,rfl,a,b,d,e⟩;dsimp only
   by_cases hge:o≥n - hint
   ·rw[if_pos hge];exact ay ⟨rfl,l,o,rfl,a,d,e,.inl hge⟩
   ·rw[if_neg hge];obtain⟨y,y1,y2,y3⟩:=hA (hint+o) (1:);refine am (qa7 L hk hG y1 y2 ?_);rw[y3]
    cases hq:P (hint+o) with
    |false=>simp![Bool.not_false,if_true];exact ay ⟨rfl,l,o,rfl,a,d,e,.inr ⟨by lia,hq⟩⟩
    |true=>simp![fm,a7,if_false];exact ay ⟨rfl,o,2 * o+1,rfl,by lia,by lia,by lia,hq⟩
 |false=>
  simp![a7,if_false];unfold gdn;dsimp only
  refine am (ce (bY (I:=λx c st'=>st'=st/\∃l o,c=(none,l,o)/\l < o/\x < o/\l<=hint/\P (hint - l)=false)
   (Q:=λc st'=>st'=st/\∃l o,c=(none,l,o)/\l < o/\l<=hint/\P (hint - l)=false/\(hint+1<=o\/(o<=hint/\P (hint - o)=true))) ?step ?fin ⟨rfl,0,1,rfl,by lia,by lia,by lia,hp⟩) ?post)
  case fin=>rintro c st' ⟨rfl,l,o,rfl,a,b,d,e⟩;exact{rfl,l,o,rfl,a,d,e,.inl (1:)}
  case post=>
   rintro c st' ⟨rfl,l,o,rfl,a,d,e,f⟩;dsimp only;refine qa8 L hk hG hA mono (by omega) (by omega) (λi hi=>?_) (λi hi hn=>monoF _ i hi hn e) h;rcases f with f|⟨f,g⟩
   ·omega
   ·exact mono i _ (by omega) (by omega) g
  case step=>
   rintro x c st' _ hx ⟨rfl,l,o,rfl,a,b,d,e⟩;dsimp only
   by_cases hge:o≥hint+1
   ·rw[if_pos hge];exact ay ⟨rfl,l,o,rfl,a,d,e,.inl hge⟩
   ·rw[if_neg hge];obtain⟨y,y1,y2,y3⟩:=hA (hint - o) (by omega);refine am (qa7 L hk hG y1 y2 ?_);rw[y3]
    cases hq:P (hint - o) with
    |true=>simp![if_true];exact ay ⟨rfl,l,o,rfl,a,d,e,.inr ⟨by lia,hq⟩⟩
    |false=>simp![a7,if_false];exact ay ⟨rfl,o,2 * o+1,rfl,by lia,by lia,by lia,hq⟩
end
section
variable{O:aU}{kf:af->O.α}
def le(O:aU)(kf:af->O.α)(x y:af):Prop:=O.kle (kf x) (kf y)
def qy{x y z:af}(h1:le O kf x y)(h2:le O kf y z):le O kf x z:=fo h1 h2
def le_of_lt{x y:af}(h:O.blt (kf x) (kf y)=true):le O kf x y:=f9 h
def zf{x y:af}(h:O.blt (kf x) (kf y)=false):le O kf y x:=h
def Srt(O:aU)(kf:af->O.α)(a:Array af)(lo hi:Nat):Prop:=∀(i j:Nat) (x y:af),lo<=i->i<=j->j < hi->a[i]?=some x->a[j]?=some y->le O kf x y
def jf{a:Array af}{i:Nat}{y:af}:y∈a.toList.drop i↔∃t:Nat,i<=t/\a[t]?=some y:=by
 rw[List.mem_drop_iff_getElem];constructor
 ·rintro⟨t,ht,rfl⟩;refine{i+t,by lia,?_};have h2:i+t < a.size:=by have:=a.length_toList;lia
  rw[dq h2];simp
 ·rintro⟨t,ht,e⟩;obtain⟨h2,rfl⟩:=bP.mp e;refine{t - i,by simp;lia,?_}
  have:i+(t - i)=t:=by lia
  simp[this]
def Zm{a:Array af}{i:Nat}(h:a.size<=i):a.toList.drop i=[]:=kq (-h:)
def j0(a:Array af)(i:Nat):(a.extract i a.size).toList=a.toList.drop i:=by rw[fq,gc];rw[gf];simp
def Qa(a:Array af)(i k:Nat):(a.extract i (i+k)).toList++a.toList.drop (i+k)=a.toList.drop i:=by
 rw[fq,gc]
 have:i+k - i=k:=by lia
 rw[this,<-List.drop_drop];exact g8 k _
def qas{a:Array af}{i k:Nat}{x:af}(h:x∈(a.extract i (i+k)).toList):∃t,t < k/\a[i+t]?=some x:=by
 obtain⟨t,ht,e⟩:=gg.mp h;have h1:t < (a.extract i (i+k)).size:=by rw[<-bp];exact ht
 have h2:(a.extract i (i+k))[t]'h1=x:=(-e:)
 rw[Array.getElem_extract]at h2;refine{t,?_,?_}
 ·rw[g9]at h1;omega
 ·rw[<-h2];exact dq _
def Srt.pw{a:Array af}(h:Srt O kf a 0 a.size):a.toList.Pairwise (le O kf):=by
 rw[ft];intro i j hi hj hij;have hj':j < a.size:=(-hj:)
 have hi':i < a.size:=(-hi:)
 exact h i j _ _ (1:) (1:) hj' (by simp[hi']) (by simp[hj'])
def Srt.of{a:Array af}(h:a.toList.Pairwise (le O kf)):Srt O kf a 0 a.size:=by
 rw[ft]at h;intro i j x y _ hij hj e1 e2;obtain⟨h1,rfl⟩:=bP.mp e1;obtain⟨h2,rfl⟩:=bP.mp e2
 by_cases e:i=j
 ·subst e;exact dt _
 ·exact h i j (-h1:) (-h2:) (1:)
structure MI(O:aU)(kf:af->O.α)(a b o:Array af)(i j:Nat):Prop where
 perm:(o.toList++(a.toList.drop i++b.toList.drop j)).Perm (a.toList++b.toList)
 srt:o.toList.Pairwise (le O kf)
 low:∀x∈o.toList,∀y∈a.toList.drop i++b.toList.drop j,le O kf x y
def Mrg(O:aU)(kf:af->O.α)(a b r:Array af):Prop:=r.toList.Perm (a.toList++b.toList)/\r.toList.Pairwise (le O kf)
variable{a b o:Array af}{i j:Nat}
def Zn{o c ra rb all:List af}(perm:(o++(c++(ra++rb))).Perm all)(srt:o.Pairwise (le O kf))(low:∀x∈o,∀y∈c++(ra++rb),le O kf x y)(sc:c.Pairwise (le O kf))(hc:∀x∈c,∀y∈ra++rb,le O kf x y) :
  ((o++c)++(ra++rb)).Perm all/\(o++c).Pairwise (le O kf)/\∀x∈o++c,∀y∈ra++rb,le O kf x y:=by
 refine{by rw[aT];exact perm,bQ.mpr {srt,sc,λx hx y hy=>low x hx y (bC _ hy)},λx hx y hy=>?_};rcases aW.mp hx with h|h
 ·exact low x h y (aX _ hy)
 ·exact hc x h y hy
def MI.blockA(h:MI O kf a b o i j)(sa:Srt O kf a 0 a.size){k:Nat}(hc:∀t x,t < k->a[i+t]?=some x->∀y∈b.toList.drop j,le O kf x y):MI O kf a b (o++a.extract i (i+k)) (i+k) j:=by
 have e:=Qa a i k
 have:=Zn (all:=a.toList++b.toList) (o:=o.toList) (c:=(a.extract i (i+k)).toList) (ra:=a.toList.drop (i+k)) (rb:=b.toList.drop j) (by rw[<-aT (a.extract i (i+k)).toList,e];exact h.perm) h.srt (by rw[<-aT (a.extract i (i+k)).toList,e];exact h.low)
  ((sa.pw.sublist (eO i _)).sublist (by rw[<-e];exact l5 _ _)) (λx hx y hy=>by
   obtain⟨t,ht,ex⟩:=qas hx;rcases aW.mp hy with q|q
   ·obtain⟨u,hu,ey⟩:=jf.mp q;have hlt:u < a.size:=(bP.mp ey).1;exact sa _ _ _ _ (bd _) (1:) hlt ex ey
   ·exact hc t x ht ex y q)
 exact{by simpa using this.1,(-this.2.1:),(-this.2.2:)}
def MI.blockB(h:MI O kf a b o i j)(sb:Srt O kf b 0 b.size){k:Nat}(hc:∀t x,t < k->b[j+t]?=some x->∀y∈a.toList.drop i,le O kf x y):MI O kf a b (o++b.extract j (j+k)) i (j+k):=by
 have e:=Qa b j k
 have p1:(o.toList++((b.extract j (j+k)).toList++(a.toList.drop i++b.toList.drop (j+k)))).Perm (a.toList++b.toList):=by refine List.Perm.trans (gV _ ?_) h.perm;rw[<-e,<-aT,<-aT];exact lF _ l6
 have:=Zn (all:=a.toList++b.toList) (o:=o.toList) (c:=(b.extract j (j+k)).toList) (ra:=a.toList.drop i) (rb:=b.toList.drop (j+k)) p1 h.srt (λx hx y hy=>h.low x hx y (by
   rw[<-e];rcases aW.mp hy with q|q
   ·exact aX _ (bC _ q)
   ·rcases aW.mp q with q|q
    ·exact bC _ q
    ·exact aX _ (aX _ q)))
  ((sb.pw.sublist (eO j _)).sublist (by rw[<-e];exact l5 _ _)) (λx hx y hy=>by
   obtain⟨t,ht,ex⟩:=qas hx;rcases aW.mp hy with q|q
   ·exact hc t x ht ex y q
   ·obtain⟨u,hu,ey⟩:=jf.mp q;have hlt:u < b.size:=(bP.mp ey).1;exact sb _ _ _ _ (bd _) (1:) hlt ex ey)
 exact{by simpa using this.1,(-this.2.1:),(-this.2.2:)}
def qat{a:Array af}{i:Nat}{x:af}(e:a[i]?=some x):a.extract i (i+1)=#[x]:=by
 obtain⟨h,rfl⟩:=bP.mp e;apply Array.ext
 ·simp;lia
 ·intro t h1 h2
  have:t=0:=by simp at h2;omega
  subst this;simp
def MI.pushA(h:MI O kf a b o i j)(sa:Srt O kf a 0 a.size){x:af}(e:a[i]?=some x)(hc:∀y∈b.toList.drop j,le O kf x y):MI O kf a b (o.push x) (i+1) j:=by
 have:=h.blockA sa (k:=1) (λt y ht ey z hz=>by
  have:t=0:=by lia
  subst this;rw[hE,e]at ey;cases ey;exact hc z hz)
 rw[qat e]at this;exact this
def MI.pushB(h:MI O kf a b o i j)(sb:Srt O kf b 0 b.size){x:af}(e:b[j]?=some x)(hc:∀y∈a.toList.drop i,le O kf x y):MI O kf a b (o.push x) i (j+1):=by
 have:=h.blockB sb (k:=1) (λt y ht ey z hz=>by
  have:t=0:=by lia
  subst this;rw[hE,e]at ey;cases ey;exact hc z hz)
 rw[qat e]at this;exact this
def MI.fin(h:MI O kf a b o i j)(sa:Srt O kf a 0 a.size)(sb:Srt O kf b 0 b.size)(z:a.size<=i\/b.size<=j):Mrg O kf a b (o++a.extract i a.size++b.extract j b.size):=by
 have e:(o++a.extract i a.size++b.extract j b.size).toList=o.toList++(a.toList.drop i++b.toList.drop j):=by rw[c9,c9,j0,j0,aT]
 refine{by rw[e];exact h.perm,?_};rw[e];refine bQ.mpr ⟨h.srt,?_,h.low⟩;rcases z with z|z
 ·rw[Zm z];exact sb.pw.sublist (eO j _)
 ·rw[Zm z,dD];exact sa.pw.sublist (eO i _)
def MI.lst(h:MI O kf a b o i j)(sa:Srt O kf a 0 a.size)(sb:Srt O kf b 0 b.size)(z:∀y∈b.toList.drop j,∀x∈a.toList.drop i,le O kf y x):Mrg O kf a b (o++b.extract j b.size++a.extract i a.size):=by
 have e:(o++b.extract j b.size++a.extract i a.size).toList=o.toList++(b.toList.drop j++a.toList.drop i):=by rw[c9,c9,j0,j0,aT]
 refine{by rw[e];exact List.Perm.trans (gV _ l6) h.perm,?_};rw[e]
 refine bQ.mpr ⟨h.srt,?_,λx hx y hy=>h.low x hx y (by
  rcases aW.mp hy with q|q
  ·exact aX _ q
  ·exact bC _ q)⟩
 exact bQ.mpr ⟨sb.pw.sublist (eO j _),sa.pw.sublist (eO i _),z⟩
end
section
variable{M:cH}{A:aH}{E:PQ}{s:ag}{O:aU}{kf:af->O.α}{U:cc}{G:af->Prop}
def yZ(L:Jp M A E s O kf U G){left:Bool}{key:af}{arr:Array af}{base n hint:Nat}{st:aj}{Q:Option Nat->aj->Prop}(hk:kindOf st=U)(hG:G key)(hA:∀x∈arr.toList,G x)
  (hs:Srt O kf arr base (base+n)) (hn:base+n<=arr.size) (hh:hint < n)
  (h:∀k,k<=n->(∀t x,t < k->arr[base+t]?=some x->pby O kf left key x=true)->(∀t x,k<=t->t < n->arr[base+t]?=some x->pby O kf left key x=false)->Q (some k) st):wpS M A E s (gal left key arr base n hint) Q st:=by
 have at':∀i,i < n->arr[base+i]?=some (arr.getD (base+i) (Value.none,Value.none)):=λi hi=>by
  have:base+i < arr.size:=by lia
  rw[dq this];simp[this]
 refine qj9 L (P:=λi=>pby O kf left key (arr.getD (base+i) (Value.none,Value.none))) hk hG (λi hi=>{_,at' i hi,hA _ ?_,rfl}) (λi j hij hj hp=>?_) hh (λk hk1 h1 h2=>h k hk1 (λt x ht ex=>?_) (λt x ht htn ex=>?_))
 ·obtain⟨h1,h2⟩:=bP.mp (at' i hi);rw[<-h2];simp
 ·have hle:=hs (base+i) (base+j) _ _ (1:) (1:) (1:) (at' i (1:)) (at' j hj);unfold pby at hp ⊢
  cases left with
  |true=>simp![if_true]at hp ⊢;exact KeyOrd.klt_of_kle_of_klt hle hp
  |false=>simp![a7,if_false,da]at hp ⊢;exact fo hle hp
 ·have:=h1 t ht
  rw[at' t (1:)]at ex;cases ex;exact this
 ·have:=h2 t ht htn
  rw[at' t (by omega)]at ex;cases ex;exact this
end
abbrev C6:=Option (Array af)×Array af×Nat×Nat×Nat×Nat
abbrev C7:=Option (Array af)×Array af×Nat×Nat×Nat×Nat×Nat
def jJ(st:aj)(g:Nat):aj:=eP (kindOf st) (ah st) (aM st) g (cM st)
def lo1(a b:Array af)(mg:Nat)(o:Array af)(i j:Nat):StateT aj Sem C6:=
 forIn [0:a.size+b.size] ((none,o,i,j,0,0):C6) λ_ c=>do
  let x<-aO b c.2.2.2.1
  let y<-aO a c.2.2.1
  let r<-lt' x y
  match r with
  |some bw=>
   if bw=true then do
    let z<-aO b c.2.2.2.1
    if (c.2.2.2.1+1 == b.size)=true then pure (.done (some (c.2.1.push z++a.extract c.2.2.1 a.size++b.extract (c.2.2.2.1+1) b.size),c.2.1.push z,c.2.2.1,c.2.2.2.1+1,0,c.2.2.2.2.2+1))
    else if c.2.2.2.2.2+1≥mg then pure (.done (none,c.2.1.push z,c.2.2.1,c.2.2.2.1+1,0,c.2.2.2.2.2+1))
    else pure (.yield (none,c.2.1.push z,c.2.2.1,c.2.2.2.1+1,0,c.2.2.2.2.2+1))
   else do
    let z<-aO a c.2.2.1
    if (c.2.2.1+1+1 == a.size)=true then pure (.done (some (c.2.1.push z++b.extract c.2.2.2.1 b.size++a.extract (c.2.2.1+1) a.size),c.2.1.push z,c.2.2.1+1,c.2.2.2.1,c.2.2.2.2.1+1,0))
    else if c.2.2.2.2.1+1≥mg then pure (.done (none,c.2.1.push z,c.2.2.1+1,c.2.2.2.1,c.2.2.2.2.1+1,0))
    else pure (.yield (none,c.2.1.push z,c.2.2.1+1,c.2.2.2.1,c.2.2.2.2.1+1,0))
  |_=>pure (.done (some (c.2.1++a.extract c.2.2.1 a.size++b.extract c.2.2.2.1 b.size),c.2))
def qmZ(a b o:Array af)(i j mg ac bc:Nat):StateT aj Sem (ForInStep C7):=do
 let z<-aO a i
 if (i+1+1 == a.size)=true then pure (.done (some (o.push z++b.extract j b.size++a.extract (i+1) a.size),o.push z,i+1,j,mg,ac,bc))
 else if (decide (ac < 7)&&decide (bc < 7))=true then pure (.done (none,o.push z,i+1,j,mg,ac,bc))
 else pure (.yield (none,o.push z,i+1,j,mg,ac,bc))
def qjs(a b o:Array af)(i j mg ac bc:Nat):StateT aj Sem (ForInStep C7):=do
 let z<-aO b j
 if (j+1 == b.size)=true then pure (.done (some (o.push z++a.extract i a.size++b.extract (j+1) b.size),o.push z,i,j+1,mg,ac,bc))
 else do
  let y<-aO a i
  let r<-gal true y b (j+1) (b.size - (j+1)) 0
  match r with
  |some k=>
   if k > 0 then
    if (j+1+k == b.size)=true then pure (.done (some (o.push z++b.extract (j+1) (j+1+k)++a.extract i a.size++b.extract (j+1+k) b.size),o.push z++b.extract (j+1) (j+1+k),i,j+1+k,mg,ac,k))
    else qmZ a b (o.push z++b.extract (j+1) (j+1+k)) i (j+1+k) mg ac k
   else qmZ a b (o.push z) i (j+1) mg ac k
  |_=>pure (.done (some (o.push z++a.extract i a.size++b.extract (j+1) b.size),o.push z,i,j+1,mg,ac,bc))
def qjt(a b o:Array af)(i j mg ac bc:Nat):StateT aj Sem (ForInStep C7):=do
 modify λst=>jJ st mg
 let y<-aO b j
 let r<-gal false y a i (a.size - i) 0
 match r with
 |some k=>
  if k > 0 then
   if (i+k+1 == a.size)=true then pure (.done (some (o++a.extract i (i+k)++b.extract j b.size++a.extract (i+k) a.size),o++a.extract i (i+k),i+k,j,mg,k,bc))
   else if (i+k == a.size)=true then pure (.done (some (o++a.extract i (i+k)++a.extract (i+k) a.size++b.extract j b.size),o++a.extract i (i+k),i+k,j,mg,k,bc))
   else qjs a b (o++a.extract i (i+k)) (i+k) j mg k bc
  else qjs a b o i j mg k bc
 |_=>pure (.done (some (o++a.extract i a.size++b.extract j b.size),o,i,j,mg,ac,bc))
def lo2(a b:Array af)(mg:Nat)(o:Array af)(i j ac bc:Nat):StateT aj Sem C7:=
 forIn [0:a.size+b.size] ((none,o,i,j,mg,ac,bc):C7) λ_ c=>
  if c.2.2.2.2.1 > 1 then qjt a b c.2.1 c.2.2.1 c.2.2.2.1 (c.2.2.2.2.1 - 1) c.2.2.2.2.2.1 c.2.2.2.2.2.2
  else qjt a b c.2.1 c.2.2.1 c.2.2.2.1 c.2.2.2.2.1 c.2.2.2.2.2.1 c.2.2.2.2.2.2
abbrev C5:=Option (Array af)×Array af×Nat×Nat×Nat
def qhY(a b:Array af):mlo a b=(do
 rule "list.sort.merge-lo"
 let tot:=a.size+b.size
 let fin (o:Array af) (i j:Nat):=o++a.extract i a.size++b.extract j b.size
 let lst (o:Array af) (i j:Nat):=o++b.extract j b.size++a.extract i a.size
 let mut o:Array af:=#[<-aO b 0]
 let mut i:=0
 let mut j:=1
 if j == b.size then return fin o i j
 if i+1 == a.size then return lst o i j
 let mut mg:=dN (<-get)
 for _ in [0:tot] do
  let mut ac:=0
  let mut bc:=0
  for _ in [0:tot] do
   let some bw<-lt' (<-aO b j) (<-aO a i)|return fin o i j
   if bw then
    o:=o.push (<-aO b j)
    j:=j+1
    bc:=bc+1
    ac:=0
    if j == b.size then return fin o i j
    if bc≥mg then break
   else
    o:=o.push (<-aO a i)
    i:=i+1
    ac:=ac+1
    bc:=0
    if i+1 == a.size then return lst o i j
    if ac≥mg then break
  rule "list.sort.gallop"
  mg:=mg+1
  for _ in [0:tot] do
   if mg > 1 then mg:=mg - 1
   modify λst=>eP (kindOf st) (ah st) (aM st) mg (cM st)
   let some k<-gal false (<-aO b j) a i (a.size - i) 0|return fin o i j
   ac:=k
   if k > 0 then
    o:=o++a.extract i (i+k)
    i:=i+k
    if i+1 == a.size then return lst o i j
    if i == a.size then return fin o i j
   o:=o.push (<-aO b j)
   j:=j+1
   if j == b.size then return fin o i j
   let some k<-gal true (<-aO a i) b j (b.size - j) 0|return fin o i j
   bc:=k
   if k > 0 then
    o:=o++b.extract j (j+k)
    j:=j+k
    if j == b.size then return fin o i j
   o:=o.push (<-aO a i)
   i:=i+1
   if i+1 == a.size then return lst o i j
   if ac < 7&&bc < 7 then break
  mg:=mg+1
  modify λst=>eP (kindOf st) (ah st) (aM st) mg (cM st)
 fU "internal:list.sort.merge-bound"):=rfl
def qka(a b:Array af):mlo a b=(do
 rule "list.sort.merge-lo"
 let x<-aO b 0
 if (1 == b.size)=true then pure (#[x]++a.extract 0 a.size++b.extract 1 b.size)
 else if (0+1 == a.size)=true then pure (#[x]++b.extract 1 b.size++a.extract 0 a.size)
 else do
  let st<-get
  let c<-forIn [0:a.size+b.size] ((none,#[x],0,1,dN st):C5) λ_ c=>do
   let d<-lo1 a b c.2.2.2.2 c.2.1 c.2.2.1 c.2.2.2.1
   match d.1 with
   |some r=>pure (.done (some r,d.2.1,d.2.2.1,d.2.2.2.1,c.2.2.2.2))
   |none=>do
    rule "list.sort.gallop"
    let f<-lo2 a b (c.2.2.2.2+1) d.2.1 d.2.2.1 d.2.2.2.1 d.2.2.2.2.1 d.2.2.2.2.2
    match f.1 with
    |some r=>pure (.done (some r,f.2.1,f.2.2.1,f.2.2.2.1,f.2.2.2.2.1))
    |none=>do
     modify λst=>jJ st (f.2.2.2.2.1+1)
     pure (.yield (none,f.2.1,f.2.2.1,f.2.2.2.1,f.2.2.2.2.1+1))
  match c.1 with
  |some r=>pure r
  |none=>fU "internal:list.sort.merge-bound"):=by
 rw[qhY];refine congrArg (λz=>_ >>= z) (funext λ_=>?_);show(aO b 0 >>= _:StateT aj Sem (Array af))=_;refine congrArg (λz=>_ >>= z) (funext λx=>?_);show(ite _ _ (ite _ _ (get >>= _)):StateT aj Sem (Array af))=ite _ _ (ite _ _ (get >>= _));refine congrArg (ite _ _) (congrArg (ite _ _) (congrArg (λz=>get >>= z) (funext λst=>?_)));show(forIn _ _ _ >>= _:StateT aj Sem (Array af))=forIn _ _ _ >>= _
 refine congr (congrArg cD ?_) (funext λc=>by
  obtain⟨c1,c2⟩:=c
  cases c1 with
  |some r=>rfl
  |none=>rfl)
 refine congrArg (forIn _ _) (funext λ_=>funext λc=>?_);show(forIn _ _ _ >>= _:StateT aj Sem (ForInStep C5))=lo1 _ _ _ _ _ _ >>= _;refine congr (congrArg cD ?_) (funext λd=>?_)
 ·delta lo1
  refine congrArg (forIn _ _) (funext λ_=>funext λc=>?_);rfl
 ·obtain⟨d1,d2,d3,d4,d5,d6⟩:=d
  cases d1 with
  |some r=>rfl
  |none=>
   refine congrArg (λz=>_ >>= z) (funext λ_=>?_);show(forIn _ _ _ >>= _:StateT aj Sem (ForInStep C5))=lo2 _ _ _ _ _ _ _ _ >>= _;refine congr (congrArg cD ?_) (funext λf=>?_)
   ·delta lo2
    refine congrArg (forIn _ _) (funext λ_=>funext λc=>?_);show(ite _ _ _:StateT aj Sem (ForInStep C7))=ite _ _ _;refine congr (congrArg (ite _) ?_) ?_
    all_goals
     delta qjt
     refine congrArg (λz=>_ >>= z) (funext λ_=>?_);refine congrArg (λz=>_ >>= z) (funext λy=>?_);refine congrArg (λz=>_ >>= z) (funext λr=>?_)
     cases r with
     |none=>exact rfl
     |some k=>
      show(ite _ _ _:StateT aj Sem (ForInStep C7))=ite _ _ _;refine congr (congrArg (ite _) ?_) ?_
      ·show(ite _ _ (ite _ _ _):StateT aj Sem (ForInStep C7))=ite _ _ (ite _ _ _);refine congrArg (ite _ _) (congrArg (ite _ _) ?_)
       delta qjs
       refine congrArg (λz=>_ >>= z) (funext λz=>?_);show(ite _ _ _:StateT aj Sem (ForInStep C7))=ite _ _ _;refine congrArg (ite _ _) ?_;refine congrArg (λz=>_ >>= z) (funext λy=>?_);refine congrArg (λz=>_ >>= z) (funext λr=>?_)
       cases r with
       |none=>exact rfl
       |some k=>exact rfl
      ·delta qjs
       refine congrArg (λz=>_ >>= z) (funext λz=>?_);show(ite _ _ _:StateT aj Sem (ForInStep C7))=ite _ _ _;refine congrArg (ite _ _) ?_;refine congrArg (λz=>_ >>= z) (funext λy=>?_);refine congrArg (λz=>_ >>= z) (funext λr=>?_)
       cases r with
       |none=>exact rfl
       |some k=>exact rfl
   ·obtain⟨f1,f2⟩:=f
    cases f1 with
    |some r=>rfl
    |none=>rfl
section
variable{M:cH}{A:aH}{E:PQ}{s:ag}{O:aU}{kf:af->O.α}{U:cc}{G:af->Prop}{a b:Array af}
structure Two(O:aU)(kf:af->O.α)(G:af->Prop)(a b:Array af):Prop where
 ga:∀x∈a.toList,G x
 gb:∀x∈b.toList,G x
 sa:Srt O kf a 0 a.size
 sb:Srt O kf b 0 b.size
 pa:0 < a.size
 pb:0 < b.size
 first:∀x y,b[0]?=some y->x∈a.toList->le O kf y x
 last:∀x y,a[a.size - 1]?=some x->y∈b.toList->le O kf y x
def qQ{a:Array af}{i:Nat}(h:i < a.size):∃x,a[i]?=some x/\x∈a.toList:={a[i],dq h,by simp}
def JX{a:Array af}{i:Nat}{x:af}(h:x∈a.toList.drop i):x∈a.toList:=List.mem_of_mem_drop h
def Two.lastOne(T:Two O kf G a b){i j:Nat}(h:i+1=a.size):∀y∈b.toList.drop j,∀x∈a.toList.drop i,le O kf y x:=λy hy x hx=>by
 obtain⟨t,ht,e⟩:=jf.mp hx
 have:t < a.size:=(bP.mp e).1
 have e2:t=a.size - 1:=by lia
 subst e2;exact T.last x y e (JX hy)
def Two.leA(T:Two O kf G a b){i:Nat}{x:af}(e:a[i]?=some x):∀y∈a.toList.drop i,le O kf x y:=λy hy=>by obtain⟨t,ht,e'⟩:=jf.mp hy;exact T.sa i t x y (bd _) ht (bP.mp e').1 e e'
def Two.leB(T:Two O kf G a b){j:Nat}{x:af}(e:b[j]?=some x):∀y∈b.toList.drop j,le O kf x y:=λy hy=>by obtain⟨t,ht,e'⟩:=jf.mp hy;exact T.sb j t x y (bd _) ht (bP.mp e').1 e e'
def qnv(O:aU)(kf:af->O.α)(a b:Array af)(n:Nat)(c:Option (Array af))(o:Array af)(i j:Nat):Prop:=
 (∃r,c=some r/\Mrg O kf a b r)\/(c=none/\MI O kf a b o i j/\i+1 < a.size/\j < b.size/\n<=i+j)
def qkb(L:Jp M A E s O kf U G)(T:Two O kf G a b){mg i j:Nat}{o:Array af}{st:aj}{Q:C6->aj->Prop}(hk:kindOf st=U)(hI:MI O kf a b o i j)(hi:i+1 < a.size)(hj:j < b.size)
  (h:∀c:C6,qnv O kf a b (i+j+1) c.1 c.2.1 c.2.2.1 c.2.2.2.1->Q c st):wpS M A E s (lo1 a b mg o i j) Q st:=by
 unfold lo1;refine bY (I:=λx c st'=>st'=st/\∃o' i' j' ac bc,c=(none,o',i',j',ac,bc)/\MI O kf a b o' i' j'/\i'+1 < a.size/\j' < b.size/\i+j+x<=i'+j') ?step ?fin ⟨rfl,o,i,j,0,0,rfl,hI,hi,hj,by lia⟩
 case fin=>rintro c st' ⟨rfl,o',i',j',ac,bc,rfl,h1,h2,h3,h4⟩;exact h _ (.inr ⟨rfl,h1,h2,h3,by dsimp only;lia⟩)
 case step=>
  rintro x c st' _ hx ⟨rfl,o',i',j',ac,bc,rfl,h1,h2,h3,h4⟩;dsimp only;obtain⟨y,ey,my⟩:=qQ h3;obtain⟨z,ez,mz⟩:=qQ (show i' < a.size by lia);refine am (qq ey (am (qq ez (am (L y z (T.gb y my) (T.ga z mz) _ _ hk ?_)))))
  cases hb:O.blt (kf y) (kf z) with
  |true=>
   simp![if_true];refine am (qq ey ?_);have h5:=h1.pushB T.sb ey (λw hw=>qy (le_of_lt hb) (T.leA ez w hw))
   by_cases hfin:j'+1=b.size
   ·rw[if_pos (-hfin:)];exact ay (h _ (.inl ⟨_,rfl,h5.fin T.sa T.sb (.inr (1:))⟩))
   ·rw[if_neg (-hfin:)]
    by_cases hg:bc+1≥mg
    ·rw[if_pos hg];exact ay (h _ (.inr ⟨rfl,h5,h2,by dsimp only;lia,by dsimp only;lia⟩))
    ·rw[if_neg hg];exact ay ⟨rfl,_,_,_,_,_,rfl,h5,h2,by lia,by lia⟩
  |false=>
   simp![a7,if_false];refine am (qq ez ?_);have h5:=h1.pushA T.sa ez (λw hw=>qy (zf hb) (T.leB ey w hw))
   by_cases hfin:i'+1+1=a.size
   ·rw[if_pos (-hfin:)];exact ay (h _ (.inl ⟨_,rfl,h5.lst T.sa T.sb (T.lastOne hfin)⟩))
   ·rw[if_neg (-hfin:)]
    by_cases hg:ac+1≥mg
    ·rw[if_pos hg];exact ay (h _ (.inr ⟨rfl,h5,by dsimp only;lia,h3,by dsimp only;lia⟩))
    ·rw[if_neg hg];exact ay ⟨rfl,_,_,_,_,_,rfl,h5,by lia,h3,by lia⟩
def qhZ(O:aU)(kf:af->O.α)(a b:Array af)(n:Nat)(r:ForInStep C7):Prop:=match r with
 |.done c=>qnv O kf a b n c.1 c.2.1 c.2.2.1 c.2.2.2.1
 |.yield c=>c.1=none/\MI O kf a b c.2.1 c.2.2.1 c.2.2.2.1/\c.2.2.1+1 < a.size/\c.2.2.2.1 < b.size/\n<=c.2.2.1+c.2.2.2.1
def qc9(T:Two O kf G a b){mg i j ac bc n:Nat}{o:Array af}{z:af}{st:aj}{Q:ForInStep C7->aj->Prop}(hI:MI O kf a b o i j)(hi:i+1 < a.size)(hj:j < b.size)(ez:a[i]?=some z)
  (hz:∀y∈b.toList.drop j,le O kf z y) (hn:n<=i+j) (h:∀r,qhZ O kf a b n r->Q r st):wpS M A E s (qmZ a b o i j mg ac bc) Q st:=by
 unfold qmZ;refine am (qq ez ?_);have h5:=hI.pushA T.sa ez hz
 by_cases hfin:i+1+1=a.size
 ·rw[if_pos (-hfin:)];exact ay (h _ (.inl ⟨_,rfl,h5.lst T.sa T.sb (T.lastOne hfin)⟩))
 ·rw[if_neg (-hfin:)]
  by_cases hg:(decide (ac < 7)&&decide (bc < 7))=true
  ·rw[if_pos hg];exact ay (h _ (.inr ⟨rfl,h5,by dsimp only;lia,hj,by dsimp only;lia⟩))
  ·rw[if_neg hg];exact ay (h _ ⟨rfl,h5,by dsimp only;lia,hj,by dsimp only;lia⟩)
def qda(L:Jp M A E s O kf U G)(T:Two O kf G a b){mg i j ac bc n:Nat}{o:Array af}{y:af}{st:aj}{Q:ForInStep C7->aj->Prop}(hk:kindOf st=U)(hI:MI O kf a b o i j)(hi:i+1 < a.size)(hj:j < b.size)(ey:b[j]?=some y)
  (hy:∀x∈a.toList.drop i,le O kf y x) (hn:n<=i+j) (h:∀r,qhZ O kf a b n r->Q r st):wpS M A E s (qjs a b o i j mg ac bc) Q st:=by
 unfold qjs;refine am (qq ey ?_);have h5:=hI.pushB T.sb ey hy
 by_cases hfin:j+1=b.size
 ·rw[if_pos (-hfin:)];exact ay (h _ (.inl ⟨_,rfl,h5.fin T.sa T.sb (.inr (1:))⟩))
 ·rw[if_neg (-hfin:)];obtain⟨z,ez,mz⟩:=qQ (show i < a.size by lia);refine am (qq ez (am (yZ L hk (T.ga z mz) T.gb (λi' j' x y h1 h2 h3=>T.sb i' j' x y (bd _) h2 (by omega)) (by omega) (1:) λk hk1 hb1 hb2=>?_)));dsimp only
  have rest:∀w∈b.toList.drop (j+1+k),le O kf z w:=λw hw=>by
   obtain⟨t,ht,e⟩:=jf.mp hw;have hlt:t < b.size:=(bP.mp e).1
   have:=hb2 (t - (j+1)) w (by omega) (by omega) (by rw[show j+1+(t - (j+1))=t by lia];exact e)
   unfold pby at this;simp![if_true]at this;exact zf this
  by_cases hk0:k > 0
  ·rw[if_pos hk0]
   have h6:=h5.blockB T.sb (k:=k) (λt x ht ex w hw=>by
    have:=hb1 t x ht ex
    unfold pby at this;simp![if_true]at this;exact qy (le_of_lt this) (T.leA ez w hw))
   by_cases hf2:j+1+k=b.size
   ·rw[if_pos (-hf2:)];exact ay (h _ (.inl ⟨_,rfl,h6.fin T.sa T.sb (.inr (1:))⟩))
   ·rw[if_neg (-hf2:)];exact qc9 T h6 hi (by omega) ez rest (1:) h
  ·rw[if_neg hk0]
   have:k=0:=by lia
   subst this;exact qc9 T h5 hi (1:) ez rest (1:) h
def qh0(L:Jp M A E s O kf U G)(T:Two O kf G a b){mg i j ac bc n:Nat}{o:Array af}{st:aj}{Q:ForInStep C7->aj->Prop}(hk:kindOf st=U)(hI:MI O kf a b o i j)(hi:i+1 < a.size)(hj:j < b.size)
  (hn:n<=i+j) (h:∀r,qhZ O kf a b n r->Q r (jJ st mg)):wpS M A E s (qjt a b o i j mg ac bc) Q st:=by
 unfold qjt;refine am (cP ?_);obtain⟨y,ey,my⟩:=qQ hj;have hk':kindOf (jJ st mg)=U:=hk;refine am (qq ey (am (yZ L hk' (T.gb y my) T.ga (λi' j' x y h1 h2 h3=>T.sa i' j' x y (bd _) h2 (1:)) (1:) (1:) λk hk1 ha1 ha2=>?_)));dsimp only
 have rest:∀w∈a.toList.drop (i+k),le O kf y w:=λw hw=>by
  obtain⟨t,ht,e⟩:=jf.mp hw;have hlt:t < a.size:=(bP.mp e).1
  have:=ha2 (t - i) w (1:) (1:) (by rw[show i+(t - i)=t by lia];exact e)
  unfold pby at this;simp![a7,if_false,kr]at this;exact le_of_lt this
 by_cases hk0:k > 0
 ·rw[if_pos hk0]
  have h6:=hI.blockA T.sa (k:=k) (λt x ht ex w hw=>by
   have:=ha1 t x ht ex
   unfold pby at this;simp![a7,if_false,da]at this;exact qy (zf this) (T.leB ey w hw))
  by_cases hf1:i+k+1=a.size
  ·rw[if_pos (-hf1:)];exact ay (h _ (.inl ⟨_,rfl,h6.lst T.sa T.sb (T.lastOne hf1)⟩))
  ·rw[if_neg (-hf1:)]
   by_cases hf2:i+k=a.size
   ·rw[if_pos (-hf2:)];exact ay (h _ (.inl ⟨_,rfl,h6.fin T.sa T.sb (.inl (1:))⟩))
   ·rw[if_neg (-hf2:)];exact qda L T hk' h6 (1:) hj ey rest (1:) h
 ·rw[if_neg hk0]
  have:k=0:=by lia
  subst this;exact qda L T hk' hI hi hj ey rest hn h
def qkc(L:Jp M A E s O kf U G)(T:Two O kf G a b){mg i j ac bc:Nat}{o:Array af}{st:aj}{Q:C7->aj->Prop}(hk:kindOf st=U)(hI:MI O kf a b o i j)(hi:i+1 < a.size)(hj:j < b.size)
  (h:∀(c:C7) g,qnv O kf a b (i+j) c.1 c.2.1 c.2.2.1 c.2.2.2.1->Q c (jJ st g)):wpS M A E s (lo2 a b mg o i j ac bc) Q st:=by
 unfold lo2;refine bY (I:=λx c st'=>(∃g,st'=jJ st g)/\∃o' i' j' mg ac bc,c=(none,o',i',j',mg,ac,bc)/\MI O kf a b o' i' j'/\i'+1 < a.size/\j' < b.size/\i+j<=i'+j') ?step ?fin ⟨⟨dN st,rfl⟩,o,i,j,mg,ac,bc,rfl,hI,hi,hj,by lia⟩
 case fin=>rintro c st' ⟨⟨g,rfl⟩,o',i',j',mg,ac,bc,rfl,h1,h2,h3,h4⟩;exact h _ g (.inr ⟨rfl,h1,h2,h3,h4⟩)
 case step=>
  rintro x c st' _ hx ⟨⟨g,rfl⟩,o',i',j',mg',ac,bc,rfl,h1,h2,h3,h4⟩
  have go:∀m,wpS M A E s (qjt a b o' i' j' m ac bc) (λr st'=>match r with
    | .done c'=>Q c' st'
    | .yield c'=>(∃g,st'=jJ st g)/\∃o' i' j' mg ac bc,c'=(none,o',i',j',mg,ac,bc)/\MI O kf a b o' i' j'/\i'+1 < a.size/\j' < b.size/\i+j<=i'+j') (jJ st g):=λm=>by
   refine qh0 L T (n:=i+j) hk h1 h2 h3 h4 λr hr=>?_
   cases r with
   | done c'=>exact h _ m hr
   | yield c'=>obtain⟨c1,c2,c3,c4,c5,c6,c7⟩:=c';obtain⟨e,r1,r2,r3,r4⟩:=hr;have e:c1=none:=e;subst e;exact{⟨m,rfl⟩,_,_,_,_,_,_,rfl,r1,r2,r3,r4}
  dsimp only
  by_cases hg:mg' > 1
  ·rw[if_pos hg];exact ce (go _) (λr st' hh=>by cases r<;>exact hh)
  ·rw[if_neg hg];exact ce (go _) (λr st' hh=>by cases r<;>exact hh)
def qkd(L:Jp M A E s O kf U G)(T:Two O kf G a b){st:aj}{Q:Array af->aj->Prop}(hk:kindOf st=U)(h:∀r g,Mrg O kf a b r->Q r (jJ st g)):wpS M A E s (mlo a b) Q st:=by
 rw[qka];refine am (eF (dg ⟨rfl,?_⟩));obtain⟨y,ey,my⟩:=qQ T.pb;refine am (qq ey ?_);have h0:MI O kf a b #[] 0 0:={by simp,by simp,by simp};have h1:MI O kf a b #[y] 0 1:=h0.pushB T.sb ey (λx hx=>T.first x y ey (JX hx));have hst:st=jJ st (dN st):=rfl
 by_cases hf1:1=b.size
 ·rw[if_pos (-hf1:)];exact ay (by rw[hst];exact h _ _ (h1.fin T.sa T.sb (.inr (1:))))
 ·rw[if_neg (-hf1:)]
  by_cases hf2:0+1=a.size
  ·rw[if_pos (-hf2:)];exact ay (by rw[hst];exact h _ _ (h1.lst T.sa T.sb (T.lastOne hf2)))
  ·rw[if_neg (-hf2:)];have hpa:=T.pa;have hpb:=T.pb;refine am (cQ ?_)
   refine am (ce (bY (I:=λx c st'=>(∃g,st'=jJ st g)/\∃o' i' j' mg,c=(none,o',i',j',mg)/\MI O kf a b o' i' j'/\i'+1 < a.size/\j' < b.size/\x+1<=i'+j')
    (Q:=λc st'=>(∃g,st'=jJ st g)/\∃r,c.1=some r/\Mrg O kf a b r) ?step ?fin ⟨⟨_,hst⟩,_,0,1,_,rfl,h1,by lia,by lia,by lia⟩) ?post)
   case fin=>
    rintro c st' ⟨_,o',i',j',mg,rfl,r1,r2,r3,r4⟩;exfalso
    lia
   case post=>rintro c st' ⟨⟨g,rfl⟩,r,e,hr⟩;obtain⟨c1,c2⟩:=c;have e:c1=some r:=e;subst e;exact ay (h _ _ hr)
   case step=>
    rintro x c st' _ hx ⟨⟨g,rfl⟩,o',i',j',mg,rfl,r1,r2,r3,r4⟩;dsimp only;refine am (qkb L T (st:=jJ st g) hk r1 r2 r3 λc hc=>?_);obtain⟨c1,c2,c3,c4,c5,c6⟩:=c;rcases hc with ⟨r,e,hr⟩|⟨e,q1,q2,q3,q4⟩
    ·have e:c1=some r:=e;subst e;exact ay ⟨⟨g,rfl⟩,r,rfl,hr⟩
    ·have e:c1=none:=e;subst e;dsimp only at q1 q2 q3 q4 ⊢;refine am (eF (dg ⟨rfl,?_⟩));refine am (qkc L T (st:=jJ st g) hk q1 q2 q3 λd g' hd=>?_);obtain⟨d1,d2,d3,d4,d5,d6,d7⟩:=d;rcases hd with ⟨r,e,hr⟩|⟨e,p1,p2,p3,p4⟩
     ·have e:d1=some r:=e;subst e;exact ay ⟨⟨g',rfl⟩,r,rfl,hr⟩
     ·have e:d1=none:=e;subst e;dsimp only at p1 p2 p3 p4 ⊢;exact am (cP (ay ⟨⟨_,rfl⟩,_,_,_,_,rfl,p1,p2,p3,by lia⟩))
end
abbrev D6:=Option (Array af)×Nat×Nat×Array af×Nat×Nat
abbrev D7:=Option (Array af)×Nat×Nat×Array af×Nat×Nat×Nat
abbrev D5:=Option (Array af)×Nat×Nat×Array af×Nat
def hi1(a b:Array af)(mg:Nat)(p q:Nat)(o:Array af):StateT aj Sem D6:=
 forIn [0:a.size+b.size] ((none,p,q,o,0,0):D6) λ_ c=>do
  let x<-aO b (c.2.2.1 - 1)
  let y<-aO a (c.2.1 - 1)
  let r<-lt' x y
  match r with
  |some aw=>
   if aw=true then do
    let z<-aO a (c.2.1 - 1)
    if (c.2.1 - 1 == 0)=true then pure (.done (some (a.extract 0 (c.2.1 - 1)++b.extract 0 c.2.2.1++(c.2.2.2.1.push z).reverse),c.2.1 - 1,c.2.2.1,c.2.2.2.1.push z,c.2.2.2.2.1+1,0))
    else if c.2.2.2.2.1+1≥mg then pure (.done (none,c.2.1 - 1,c.2.2.1,c.2.2.2.1.push z,c.2.2.2.2.1+1,0))
    else pure (.yield (none,c.2.1 - 1,c.2.2.1,c.2.2.2.1.push z,c.2.2.2.2.1+1,0))
   else do
    let z<-aO b (c.2.2.1 - 1)
    if (c.2.2.1 - 1 == 1)=true then pure (.done (some (b.extract 0 (c.2.2.1 - 1)++a.extract 0 c.2.1++(c.2.2.2.1.push z).reverse),c.2.1,c.2.2.1 - 1,c.2.2.2.1.push z,0,c.2.2.2.2.2+1))
    else if c.2.2.2.2.2+1≥mg then pure (.done (none,c.2.1,c.2.2.1 - 1,c.2.2.2.1.push z,0,c.2.2.2.2.2+1))
    else pure (.yield (none,c.2.1,c.2.2.1 - 1,c.2.2.2.1.push z,0,c.2.2.2.2.2+1))
  |_=>pure (.done (some (a.extract 0 c.2.1++b.extract 0 c.2.2.1++c.2.2.2.1.reverse),c.2))
def qm0(a b:Array af)(p q:Nat)(o:Array af)(mg ac bc:Nat):StateT aj Sem (ForInStep D7):=do
 let z<-aO a (p - 1)
 if (p - 1 == 0)=true then pure (.done (some (a.extract 0 (p - 1)++b.extract 0 q++(o.push z).reverse),p - 1,q,o.push z,mg,ac,bc))
 else if (decide (ac < 7)&&decide (bc < 7))=true then pure (.done (none,p - 1,q,o.push z,mg,ac,bc))
 else pure (.yield (none,p - 1,q,o.push z,mg,ac,bc))
def qju(a b:Array af)(p q:Nat)(o:Array af)(mg ac bc:Nat):StateT aj Sem (ForInStep D7):=do
 let z<-aO b (q - 1)
 if (q - 1 == 1)=true then pure (.done (some (b.extract 0 (q - 1)++a.extract 0 p++(o.push z).reverse),p,q - 1,o.push z,mg,ac,bc))
 else do
  let y<-aO a (p - 1)
  let r<-gal true y b 0 (q - 1) (q - 1 - 1)
  match r with
  |some u=>
   if q - 1 - u > 0 then
    if (u == 1)=true then pure (.done (some (b.extract 0 u++a.extract 0 p++(o.push z++(b.extract u (q - 1)).reverse).reverse),p,u,o.push z++(b.extract u (q - 1)).reverse,mg,ac,q - 1 - u))
    else if (u == 0)=true then pure (.done (some (a.extract 0 p++b.extract 0 u++(o.push z++(b.extract u (q - 1)).reverse).reverse),p,u,o.push z++(b.extract u (q - 1)).reverse,mg,ac,q - 1 - u))
    else qm0 a b p u (o.push z++(b.extract u (q - 1)).reverse) mg ac (q - 1 - u)
   else qm0 a b p (q - 1) (o.push z) mg ac (q - 1 - u)
  |_=>pure (.done (some (a.extract 0 p++b.extract 0 (q - 1)++(o.push z).reverse),p,q - 1,o.push z,mg,ac,bc))
def qjv(a b:Array af)(p q:Nat)(o:Array af)(mg ac bc:Nat):StateT aj Sem (ForInStep D7):=do
 modify λst=>jJ st mg
 let y<-aO b (q - 1)
 let r<-gal false y a 0 p (p - 1)
 match r with
 |some u=>
  if p - u > 0 then
   if (u == 0)=true then pure (.done (some (a.extract 0 u++b.extract 0 q++(o++(a.extract u p).reverse).reverse),u,q,o++(a.extract u p).reverse,mg,p - u,bc))
   else qju a b u q (o++(a.extract u p).reverse) mg (p - u) bc
  else qju a b p q o mg (p - u) bc
 |_=>pure (.done (some (a.extract 0 p++b.extract 0 q++o.reverse),p,q,o,mg,ac,bc))
def hi2(a b:Array af)(mg p q:Nat)(o:Array af)(ac bc:Nat):StateT aj Sem D7:=
 forIn [0:a.size+b.size] ((none,p,q,o,mg,ac,bc):D7) λ_ c=>
  if c.2.2.2.2.1 > 1 then qjv a b c.2.1 c.2.2.1 c.2.2.2.1 (c.2.2.2.2.1 - 1) c.2.2.2.2.2.1 c.2.2.2.2.2.2
  else qjv a b c.2.1 c.2.2.1 c.2.2.2.1 c.2.2.2.2.1 c.2.2.2.2.2.1 c.2.2.2.2.2.2
def qh1(a b:Array af):mhi a b=(do
 rule "list.sort.merge-hi"
 let tot:=a.size+b.size
 let fin (o:Array af) (p q:Nat):=a.extract 0 p++b.extract 0 q++o.reverse
 let fst (o:Array af) (p q:Nat):=b.extract 0 q++a.extract 0 p++o.reverse
 let mut p:=a.size - 1
 let mut q:=b.size
 let mut o:Array af:=#[<-aO a p]
 if p == 0 then return fin o p q
 if q == 1 then return fst o p q
 let mut mg:=dN (<-get)
 for _ in [0:tot] do
  let mut ac:=0
  let mut bc:=0
  for _ in [0:tot] do
   let some aw<-lt' (<-aO b (q - 1)) (<-aO a (p - 1))|return fin o p q
   if aw then
    p:=p - 1
    o:=o.push (<-aO a p)
    ac:=ac+1
    bc:=0
    if p == 0 then return fin o p q
    if ac≥mg then break
   else
    q:=q - 1
    o:=o.push (<-aO b q)
    bc:=bc+1
    ac:=0
    if q == 1 then return fst o p q
    if bc≥mg then break
  rule "list.sort.gallop"
  mg:=mg+1
  for _ in [0:tot] do
   if mg > 1 then mg:=mg - 1
   modify λst=>jJ st mg
   let some u<-gal false (<-aO b (q - 1)) a 0 p (p - 1)|return fin o p q
   let k:=p - u
   ac:=k
   if k > 0 then
    o:=o++(a.extract u p).reverse
    p:=u
    if p == 0 then return fin o p q
   q:=q - 1
   o:=o.push (<-aO b q)
   if q == 1 then return fst o p q
   let some u<-gal true (<-aO a (p - 1)) b 0 q (q - 1)|return fin o p q
   let k:=q - u
   bc:=k
   if k > 0 then
    o:=o++(b.extract u q).reverse
    q:=u
    if q == 1 then return fst o p q
    if q == 0 then return fin o p q
   p:=p - 1
   o:=o.push (<-aO a p)
   if p == 0 then return fin o p q
   if ac < 7&&bc < 7 then break
  mg:=mg+1
  modify λst=>jJ st mg
 fU "internal:list.sort.merge-bound"):=rfl
def qke(a b:Array af):mhi a b=(do
 rule "list.sort.merge-hi"
 let x<-aO a (a.size - 1)
 if (a.size - 1 == 0)=true then pure (a.extract 0 (a.size - 1)++b.extract 0 b.size ++ #[x].reverse)
 else if (b.size == 1)=true then pure (b.extract 0 b.size++a.extract 0 (a.size - 1) ++ #[x].reverse)
 else do
  let st<-get
  let c<-forIn [0:a.size+b.size] ((none,a.size - 1,b.size,#[x],dN st):D5) λ_ c=>do
   let d<-hi1 a b c.2.2.2.2 c.2.1 c.2.2.1 c.2.2.2.1
   match d.1 with
   |some r=>pure (.done (some r,d.2.1,d.2.2.1,d.2.2.2.1,c.2.2.2.2))
   |none=>do
    rule "list.sort.gallop"
    let f<-hi2 a b (c.2.2.2.2+1) d.2.1 d.2.2.1 d.2.2.2.1 d.2.2.2.2.1 d.2.2.2.2.2
    match f.1 with
    |some r=>pure (.done (some r,f.2.1,f.2.2.1,f.2.2.2.1,f.2.2.2.2.1))
    |none=>do
     modify λst=>jJ st (f.2.2.2.2.1+1)
     pure (.yield (none,f.2.1,f.2.2.1,f.2.2.2.1,f.2.2.2.2.1+1))
  match c.1 with
  |some r=>pure r
  |none=>fU "internal:list.sort.merge-bound"):=by
 rw[qh1];refine congrArg (λz=>_ >>= z) (funext λ_=>?_);show(aO a (a.size - 1) >>= _:StateT aj Sem (Array af))=_;refine congrArg (λz=>_ >>= z) (funext λx=>?_);show(ite _ _ (ite _ _ (get >>= _)):StateT aj Sem (Array af))=ite _ _ (ite _ _ (get >>= _));refine congrArg (ite _ _) (congrArg (ite _ _) (congrArg (λz=>get >>= z) (funext λst=>?_)));show(forIn _ _ _ >>= _:StateT aj Sem (Array af))=forIn _ _ _ >>= _
 refine congr (congrArg cD ?_) (funext λc=>by
  obtain⟨c1,c2⟩:=c
  cases c1 with
  |some r=>rfl
  |none=>rfl)
 refine congrArg (forIn _ _) (funext λ_=>funext λc=>?_);show(forIn _ _ _ >>= _:StateT aj Sem (ForInStep D5))=hi1 _ _ _ _ _ _ >>= _;refine congr (congrArg cD ?_) (funext λd=>?_)
 ·delta hi1
  refine congrArg (forIn _ _) (funext λ_=>funext λc=>?_);refine congrArg (λz=>_ >>= z) (funext λ_=>?_);refine congrArg (λz=>_ >>= z) (funext λ_=>?_);refine congrArg (λz=>_ >>= z) (funext λr=>?_)
  cases r with
  |none=>exact rfl
  |some r=>exact rfl
 ·obtain⟨d1,d2,d3,d4,d5,d6⟩:=d
  cases d1 with
  |some r=>rfl
  |none=>
   refine congrArg (λz=>_ >>= z) (funext λ_=>?_);show(forIn _ _ _ >>= _:StateT aj Sem (ForInStep D5))=hi2 _ _ _ _ _ _ _ _ >>= _;refine congr (congrArg cD ?_) (funext λf=>?_)
   ·delta hi2
    refine congrArg (forIn _ _) (funext λ_=>funext λc=>?_);show(ite _ _ _:StateT aj Sem (ForInStep D7))=ite _ _ _;refine congr (congrArg (ite _) ?_) ?_
    all_goals
     delta qjv
     refine congrArg (λz=>_ >>= z) (funext λ_=>?_);refine congrArg (λz=>_ >>= z) (funext λy=>?_);refine congrArg (λz=>_ >>= z) (funext λr=>?_)
     cases r with
     |none=>exact rfl
     |some k=>
      show(ite _ _ _:StateT aj Sem (ForInStep D7))=ite _ _ _;refine congr (congrArg (ite _) ?_) ?_
      ·show(ite _ _ _:StateT aj Sem (ForInStep D7))=ite _ _ _;refine congrArg (ite _ _) ?_
       delta qju
       refine congrArg (λz=>_ >>= z) (funext λz=>?_);show(ite _ _ _:StateT aj Sem (ForInStep D7))=ite _ _ _;refine congrArg (ite _ _) ?_;refine congrArg (λz=>_ >>= z) (funext λy=>?_);refine congrArg (λz=>_ >>= z) (funext λr=>?_)
       cases r with
       |none=>exact rfl
       |some k=>exact rfl
      ·delta qju
       refine congrArg (λz=>_ >>= z) (funext λz=>?_);show(ite _ _ _:StateT aj Sem (ForInStep D7))=ite _ _ _;refine congrArg (ite _ _) ?_;refine congrArg (λz=>_ >>= z) (funext λy=>?_);refine congrArg (λz=>_ >>= z) (funext λr=>?_)
       cases r with
       |none=>exact rfl
       |some k=>exact rfl
   ·obtain⟨f1,f2⟩:=f
    cases f1 with
    |some r=>rfl
    |none=>rfl
section
variable{O:aU}{kf:af->O.α}{G:af->Prop}{a b o:Array af}{p q:Nat}
def jg{a:Array af}{p:Nat}{y:af}:y∈a.toList.take p↔∃t:Nat,t < p/\a[t]?=some y:=by
 rw[l7];constructor
 ·rintro⟨t,ht,rfl⟩;have h2:t < a.size:=by have:=a.length_toList;lia
  exact{t,by lia,by rw[dq h2];simp}
 ·rintro⟨t,ht,e⟩;obtain⟨h2,rfl⟩:=bP.mp e;exact{t,by simp;lia,by simp}
def jh(a:Array af)(p:Nat):(a.extract 0 p).toList=a.toList.take p:=by rw[fq,gc];simp
def qa9(a:Array af){u p:Nat}(h:u<=p):a.toList.take u++(a.extract u p).toList=a.toList.take p:=by
 rw[fq,gc];have e:p=u+(p - u):=by lia
 conv=>rhs;rw[e,List.take_add]
def zK{a:Array af}{u p:Nat}{x:af}(h:x∈(a.extract u p).toList):∃t,u<=t/\t < p/\a[t]?=some x:=by
 by_cases hup:u<=p
 ·have e:p=u+(p - u):=by lia
  rw[e]at h;obtain⟨t,ht,ex⟩:=qas h;exact{u+t,by lia,by lia,ex}
 ·rw[fq,gc,show p - u=0 by lia]at h;simp at h
structure HI(O:aU)(kf:af->O.α)(a b o:Array af)(p q:Nat):Prop where
 perm:(a.toList.take p++(b.toList.take q++o.toList.reverse)).Perm (a.toList++b.toList)
 srt:o.toList.Pairwise (λx y=>le O kf y x)
 hi:∀x∈o.toList,∀y∈a.toList.take p++b.toList.take q,le O kf y x
def HI.blockA(h:HI O kf a b o p q)(sa:Srt O kf a 0 a.size)(hp:p<=a.size){u:Nat}(hu:u<=p)(hc:∀t x,u<=t->t < p->a[t]?=some x->∀y∈b.toList.take q,le O kf y x):HI O kf a b (o++(a.extract u p).reverse) u q:=by
 have e:=qa9 a hu;refine{?_,?_,λx hx y hy=>?_}
 ·have e2:(o++(a.extract u p).reverse).toList.reverse=(a.extract u p).toList++o.toList.reverse:=by simp
  rw[e2];refine List.Perm.trans ?_ h.perm;rw[<-e,aT];exact gV _ (l8 _ _ _)
 ·rw[c9,fu];refine bQ.mpr ⟨h.srt,?_,λx hx y hy=>h.hi x hx y (bC _ (by rw[<-e];exact aX _ (eQ.mp hy)))⟩;rw[gh];exact(sa.pw.sublist (eu p _)).sublist (by rw[<-e];exact l9 _ _)
 ·rw[c9,fu]at hx;rcases aW.mp hx with hx|hx
  ·refine h.hi x hx y ?_;rcases aW.mp hy with hy|hy
   ·exact bC _ (by rw[<-e];exact bC _ hy)
   ·exact aX _ hy
  ·obtain⟨t,t1,t2,et⟩:=zK (eQ.mp hx);rcases aW.mp hy with hy|hy
   ·obtain⟨w,w1,ew⟩:=jg.mp hy;exact sa w t y x (bd _) (1:) (1:) ew et
   ·exact hc t x t1 t2 et y hy
def HI.blockB(h:HI O kf a b o p q)(sb:Srt O kf b 0 b.size)(hq:q<=b.size){u:Nat}(hu:u<=q)(hc:∀t x,u<=t->t < q->b[t]?=some x->∀y∈a.toList.take p,le O kf y x):HI O kf a b (o++(b.extract u q).reverse) p u:=by
 have e:=qa9 b hu;refine{?_,?_,λx hx y hy=>?_}
 ·have e2:(o++(b.extract u q).reverse).toList.reverse=(b.extract u q).toList++o.toList.reverse:=by simp
  rw[e2]
  have:=h.perm
  rw[<-e,aT]at this;exact this
 ·rw[c9,fu];refine bQ.mpr ⟨h.srt,?_,λx hx y hy=>h.hi x hx y (aX _ (by rw[<-e];exact aX _ (eQ.mp hy)))⟩;rw[gh];exact(sb.pw.sublist (eu q _)).sublist (by rw[<-e];exact l9 _ _)
 ·rw[c9,fu]at hx;rcases aW.mp hx with hx|hx
  ·refine h.hi x hx y ?_;rcases aW.mp hy with hy|hy
   ·exact bC _ hy
   ·exact aX _ (by rw[<-e];exact bC _ hy)
  ·obtain⟨t,t1,t2,et⟩:=zK (eQ.mp hx);rcases aW.mp hy with hy|hy
   ·exact hc t x t1 t2 et y hy
   ·obtain⟨w,w1,ew⟩:=jg.mp hy;exact sb w t y x (bd _) (1:) (1:) ew et
def qdb{a:Array af}{p:Nat}{x:af}(h:0 < p)(e:a[p - 1]?=some x):(a.extract (p - 1) p).reverse=#[x]:=by
 have:=qat e
 rw[show p - 1+1=p by lia]at this;rw[this];rfl
def HI.pushA(h:HI O kf a b o p q)(sa:Srt O kf a 0 a.size)(hp:p<=a.size)(h0:0 < p){x:af}(e:a[p - 1]?=some x)(hc:∀y∈b.toList.take q,le O kf y x):HI O kf a b (o.push x) (p - 1) q:=by
 have:=h.blockA sa hp (u:=p - 1) (1:) (λt y h1 h2 ey z hz=>by
  have:t=p - 1:=by lia
  subst this;rw[e]at ey;cases ey;exact hc z hz)
 rw[qdb h0 e]at this;exact this
def HI.pushB(h:HI O kf a b o p q)(sb:Srt O kf b 0 b.size)(hq:q<=b.size)(h0:0 < q){x:af}(e:b[q - 1]?=some x)(hc:∀y∈a.toList.take p,le O kf y x):HI O kf a b (o.push x) p (q - 1):=by
 have:=h.blockB sb hq (u:=q - 1) (1:) (λt y h1 h2 ey z hz=>by
  have:t=q - 1:=by lia
  subst this;rw[e]at ey;cases ey;exact hc z hz)
 rw[qdb h0 e]at this;exact this
def HI.fin(h:HI O kf a b o p q)(sa:Srt O kf a 0 a.size)(sb:Srt O kf b 0 b.size)(z:p=0\/q=0):Mrg O kf a b (a.extract 0 p++b.extract 0 q++o.reverse):=by
 have e:(a.extract 0 p++b.extract 0 q++o.reverse).toList=a.toList.take p++(b.toList.take q++o.toList.reverse):=by rw[c9,c9,jh,jh,fu,aT]
 refine{by rw[e];exact h.perm,?_};rw[e,<-aT];refine bQ.mpr ⟨?_,by rw[gh];exact h.srt,λx hx y hy=>h.hi y (eQ.mp hy) x hx⟩;rcases z with z|z
 ·subst z
  simpa using sb.pw.sublist (eu q _)
 ·subst z
  simpa using sa.pw.sublist (eu p _)
def HI.fst(h:HI O kf a b o p q)(sa:Srt O kf a 0 a.size)(sb:Srt O kf b 0 b.size)(z:∀y∈b.toList.take q,∀x∈a.toList.take p,le O kf y x):Mrg O kf a b (b.extract 0 q++a.extract 0 p++o.reverse):=by
 have e:(b.extract 0 q++a.extract 0 p++o.reverse).toList=b.toList.take q++(a.toList.take p++o.toList.reverse):=by rw[c9,c9,jh,jh,fu,aT]
 refine{by rw[e];exact List.Perm.trans (l8 _ _ _) h.perm,?_};rw[e,<-aT];refine bQ.mpr ⟨bQ.mpr ⟨sb.pw.sublist (eu q _),sa.pw.sublist (eu p _),z⟩,by rw[gh];exact h.srt,λx hx y hy=>h.hi y (eQ.mp hy) x ?_⟩;rcases aW.mp hx with hx|hx
 ·exact aX _ hx
 ·exact bC _ hx
def Two.firstOne(T:Two O kf G a b){p q:Nat}(h:q=1):∀y∈b.toList.take q,∀x∈a.toList.take p,le O kf y x:=λy hy x hx=>by
 obtain⟨t,ht,e⟩:=jg.mp hy
 have:t=0:=by lia
 subst this;exact T.first x y e (gi hx)
def Two.geA(T:Two O kf G a b){p:Nat}{x:af}(e:a[p - 1]?=some x):∀y∈a.toList.take p,le O kf y x:=λy hy=>by obtain⟨t,ht,e'⟩:=jg.mp hy;exact T.sa t (p - 1) y x (bd _) (1:) (bP.mp e).1 e' e
def Two.geB(T:Two O kf G a b){q:Nat}{x:af}(e:b[q - 1]?=some x):∀y∈b.toList.take q,le O kf y x:=λy hy=>by obtain⟨t,ht,e'⟩:=jg.mp hy;exact T.sb t (q - 1) y x (bd _) (1:) (bP.mp e).1 e' e
end
section
variable{M:cH}{A:aH}{E:PQ}{s:ag}{O:aU}{kf:af->O.α}{U:cc}{G:af->Prop}{a b:Array af}
def qnw(O:aU)(kf:af->O.α)(a b:Array af)(n:Nat)(c:Option (Array af))(p q:Nat)(o:Array af):Prop:=
 (∃r,c=some r/\Mrg O kf a b r)\/(c=none/\HI O kf a b o p q/\0 < p/\p<=a.size/\1 < q/\q<=b.size/\p+q<=n)
def qkf(L:Jp M A E s O kf U G)(T:Two O kf G a b){mg p q n:Nat}{o:Array af}{st:aj}{Q:D6->aj->Prop}(hk:kindOf st=U)(hI:HI O kf a b o p q)(hp:0 < p)(hpa:p<=a.size)(hq:1 < q)(hqb:q<=b.size)(hn:p+q<=n+1)
  (h:∀c:D6,qnw O kf a b n c.1 c.2.1 c.2.2.1 c.2.2.2.1->Q c st):wpS M A E s (hi1 a b mg p q o) Q st:=by
 unfold hi1;refine bY (I:=λx c st'=>st'=st/\∃p' q' o' ac bc,c=(none,p',q',o',ac,bc)/\HI O kf a b o' p' q'/\0 < p'/\p'<=a.size/\1 < q'/\q'<=b.size/\p'+q'+x<=n+1) ?step ?fin ⟨rfl,p,q,o,0,0,rfl,hI,hp,hpa,hq,hqb,by lia⟩
 case fin=>rintro c st' ⟨rfl,p',q',o',ac,bc,rfl,h1,h2,h3,h4,h5,h6⟩;exact h _ (.inr ⟨rfl,h1,h2,h3,h4,h5,by dsimp only;lia⟩)
 case step=>
  rintro x c st' _ hx ⟨rfl,p',q',o',ac,bc,rfl,h1,h2,h3,h4,h5,h6⟩;dsimp only;obtain⟨y,ey,my⟩:=qQ (show q' - 1 < b.size by lia);obtain⟨z,ez,mz⟩:=qQ (show p' - 1 < a.size by lia);refine am (qq ey (am (qq ez (am (L y z (T.gb y my) (T.ga z mz) _ _ hk ?_)))))
  cases hb:O.blt (kf y) (kf z) with
  |true=>
   simp![if_true];refine am (qq ez ?_);have h7:=h1.pushA T.sa h3 h2 ez (λw hw=>qy (T.geB ey w hw) (le_of_lt hb))
   by_cases hfin:p' - 1=0
   ·rw[if_pos (-hfin:)];exact ay (h _ (.inl ⟨_,rfl,h7.fin T.sa T.sb (.inl hfin)⟩))
   ·rw[if_neg (-hfin:)]
    by_cases hg:ac+1≥mg
    ·rw[if_pos hg];exact ay (h _ (.inr ⟨rfl,h7,by dsimp only;lia,by dsimp only;lia,h4,h5,by dsimp only;lia⟩))
    ·rw[if_neg hg];exact ay ⟨rfl,_,_,_,_,_,rfl,h7,by lia,by lia,h4,h5,by lia⟩
  |false=>
   simp![a7,if_false];refine am (qq ey ?_);have h7:=h1.pushB T.sb h5 (1:) ey (λw hw=>qy (T.geA ez w hw) (zf hb))
   by_cases hfin:q' - 1=1
   ·rw[if_pos (-hfin:)];exact ay (h _ (.inl ⟨_,rfl,h7.fst T.sa T.sb (T.firstOne hfin)⟩))
   ·rw[if_neg (-hfin:)]
    by_cases hg:bc+1≥mg
    ·rw[if_pos hg];exact ay (h _ (.inr ⟨rfl,h7,h2,h3,by dsimp only;lia,by dsimp only;lia,by dsimp only;lia⟩))
    ·rw[if_neg hg];exact ay ⟨rfl,_,_,_,_,_,rfl,h7,h2,h3,by lia,by lia,by lia⟩
def qh2(O:aU)(kf:af->O.α)(a b:Array af)(n:Nat)(r:ForInStep D7):Prop:=match r with
 |.done c=>qnw O kf a b n c.1 c.2.1 c.2.2.1 c.2.2.2.1
 |.yield c=>c.1=none/\HI O kf a b c.2.2.2.1 c.2.1 c.2.2.1/\0 < c.2.1/\c.2.1<=a.size/\1 < c.2.2.1/\c.2.2.1<=b.size/\c.2.1+c.2.2.1<=n
def qdc(T:Two O kf G a b){mg p q ac bc n:Nat}{o:Array af}{z:af}{st:aj}{Q:ForInStep D7->aj->Prop}(hI:HI O kf a b o p q)(hp:0 < p)(hpa:p<=a.size)(hq:1 < q)(hqb:q<=b.size)(hn:p+q<=n)(ez:a[p - 1]?=some z)
  (hz:∀y∈b.toList.take q,le O kf y z) (h:∀r,qh2 O kf a b n r->Q r st):wpS M A E s (qm0 a b p q o mg ac bc) Q st:=by
 unfold qm0;refine am (qq ez ?_);have h7:=hI.pushA T.sa hpa hp ez hz
 by_cases hfin:p - 1=0
 ·rw[if_pos (-hfin:)];exact ay (h _ (.inl ⟨_,rfl,h7.fin T.sa T.sb (.inl hfin)⟩))
 ·rw[if_neg (-hfin:)]
  by_cases hg:(decide (ac < 7)&&decide (bc < 7))=true
  ·rw[if_pos hg];exact ay (h _ (.inr ⟨rfl,h7,by dsimp only;lia,by dsimp only;lia,hq,hqb,by dsimp only;lia⟩))
  ·rw[if_neg hg];exact ay (h _ ⟨rfl,h7,by dsimp only;lia,by dsimp only;lia,hq,hqb,by dsimp only;lia⟩)
def qdd(L:Jp M A E s O kf U G)(T:Two O kf G a b){mg p q ac bc n:Nat}{o:Array af}{y:af}{st:aj}{Q:ForInStep D7->aj->Prop}(hk:kindOf st=U)(hI:HI O kf a b o p q)(hp:0 < p)(hpa:p<=a.size)(hq:1 < q)(hqb:q<=b.size)(hn:p+q<=n)
  (ey:b[q - 1]?=some y) (hy:∀x∈a.toList.take p,le O kf x y) (h:∀r,qh2 O kf a b n r->Q r st):wpS M A E s (qju a b p q o mg ac bc) Q st:=by
 unfold qju;refine am (qq ey ?_);have h7:=hI.pushB T.sb hqb (1:) ey hy
 by_cases hfin:q - 1=1
 ·rw[if_pos (-hfin:)];exact ay (h _ (.inl ⟨_,rfl,h7.fst T.sa T.sb (T.firstOne hfin)⟩))
 ·rw[if_neg (-hfin:)];obtain⟨z,ez,mz⟩:=qQ (show p - 1 < a.size by lia);refine am (qq ez (am (yZ L hk (T.ga z mz) T.gb (λi' j' x y h1 h2 h3=>T.sb i' j' x y (bd _) h2 (1:)) (1:) (1:) λu hu1 hb1 hb2=>?_)));dsimp only
  have rest:∀w∈b.toList.take u,le O kf w z:=λw hw=>by
   obtain⟨t,ht,e⟩:=jg.mp hw
   have:=hb1 t w ht (by rw[eA];exact e)
   unfold pby at this;simp![if_true]at this;exact le_of_lt this
  by_cases hk0:q - 1 - u > 0
  ·rw[if_pos hk0]
   have h8:=h7.blockB T.sb (1:) (u:=u) (1:) (λt x t1 t2 ex w hw=>by
    have:=hb2 t x t1 (1:) (by rw[eA];exact ex)
    unfold pby at this;simp![if_true]at this;exact qy (T.geA ez w hw) (zf this))
   by_cases hf1:u=1
   ·rw[if_pos (-hf1:)];exact ay (h _ (.inl ⟨_,rfl,h8.fst T.sa T.sb (T.firstOne hf1)⟩))
   ·rw[if_neg (-hf1:)]
    by_cases hf2:u=0
    ·rw[if_pos (-hf2:)];exact ay (h _ (.inl ⟨_,rfl,h8.fin T.sa T.sb (.inr hf2)⟩))
    ·rw[if_neg (-hf2:)];exact qdc T h8 hp hpa (1:) (1:) (1:) ez rest h
  ·rw[if_neg hk0]
   have:u=q - 1:=by lia
   subst this;exact qdc T h7 hp hpa (1:) (1:) (1:) ez rest h
def qh3(L:Jp M A E s O kf U G)(T:Two O kf G a b){mg p q ac bc n:Nat}{o:Array af}{st:aj}{Q:ForInStep D7->aj->Prop}(hk:kindOf st=U)(hI:HI O kf a b o p q)(hp:0 < p)(hpa:p<=a.size)(hq:1 < q)(hqb:q<=b.size)(hn:p+q<=n)
  (h:∀r,qh2 O kf a b n r->Q r (jJ st mg)):wpS M A E s (qjv a b p q o mg ac bc) Q st:=by
 unfold qjv;refine am (cP ?_);obtain⟨y,ey,my⟩:=qQ (show q - 1 < b.size by lia);have hk':kindOf (jJ st mg)=U:=hk;refine am (qq ey (am (yZ L hk' (T.gb y my) T.ga (λi' j' x y h1 h2 h3=>T.sa i' j' x y (bd _) h2 (1:)) (1:) (1:) λu hu1 ha1 ha2=>?_)));dsimp only
 have rest:∀w∈a.toList.take u,le O kf w y:=λw hw=>by
  obtain⟨t,ht,e⟩:=jg.mp hw
  have:=ha1 t w ht (by rw[eA];exact e)
  unfold pby at this;simp![a7,if_false,da]at this;exact zf this
 by_cases hk0:p - u > 0
 ·rw[if_pos hk0]
  have h8:=hI.blockA T.sa hpa (u:=u) (1:) (λt x t1 t2 ex w hw=>by
   have:=ha2 t x t1 (1:) (by rw[eA];exact ex)
   unfold pby at this;simp![a7,if_false,kr]at this;exact qy (T.geB ey w hw) (le_of_lt this))
  by_cases hf1:u=0
  ·rw[if_pos (-hf1:)];exact ay (h _ (.inl ⟨_,rfl,h8.fin T.sa T.sb (.inl hf1)⟩))
  ·rw[if_neg (-hf1:)];exact qdd L T hk' h8 (1:) (1:) hq hqb (1:) ey rest h
 ·rw[if_neg hk0]
  have:u=p:=by lia
  subst this;exact qdd L T hk' hI hp hpa hq hqb hn ey rest h
def qkg(L:Jp M A E s O kf U G)(T:Two O kf G a b){mg p q ac bc n:Nat}{o:Array af}{st:aj}{Q:D7->aj->Prop}(hk:kindOf st=U)(hI:HI O kf a b o p q)(hp:0 < p)(hpa:p<=a.size)(hq:1 < q)(hqb:q<=b.size)(hn:p+q<=n)
  (h:∀(c:D7) g,qnw O kf a b n c.1 c.2.1 c.2.2.1 c.2.2.2.1->Q c (jJ st g)):wpS M A E s (hi2 a b mg p q o ac bc) Q st:=by
 unfold hi2;refine bY (I:=λx c st'=>(∃g,st'=jJ st g)/\∃p' q' o' mg ac bc,c=(none,p',q',o',mg,ac,bc)/\HI O kf a b o' p' q'/\0 < p'/\p'<=a.size/\1 < q'/\q'<=b.size/\p'+q'<=n) ?step ?fin ⟨⟨dN st,rfl⟩,p,q,o,mg,ac,bc,rfl,hI,hp,hpa,hq,hqb,hn⟩
 case fin=>rintro c st' ⟨⟨g,rfl⟩,p',q',o',mg,ac,bc,rfl,h1,h2,h3,h4,h5,h6⟩;exact h _ g (.inr ⟨rfl,h1,h2,h3,h4,h5,h6⟩)
 case step=>
  rintro x c st' _ hx ⟨⟨g,rfl⟩,p',q',o',mg',ac,bc,rfl,h1,h2,h3,h4,h5,h6⟩
  have go:∀m,wpS M A E s (qjv a b p' q' o' m ac bc) (λr st'=>match r with
    | .done c'=>Q c' st'
    | .yield c'=>(∃g,st'=jJ st g)/\∃p' q' o' mg ac bc,c'=(none,p',q',o',mg,ac,bc)/\HI O kf a b o' p' q'/\0 < p'/\p'<=a.size/\1 < q'/\q'<=b.size/\p'+q'<=n) (jJ st g):=λm=>by
   refine qh3 L T (n:=n) hk h1 h2 h3 h4 h5 h6 λr hr=>?_
   cases r with
   | done c'=>exact h _ m hr
   | yield c'=>obtain⟨c1,c2,c3,c4,c5,c6,c7⟩:=c';obtain⟨e,r1,r2,r3,r4,r5,r6⟩:=hr;have e:c1=none:=e;subst e;exact{⟨m,rfl⟩,_,_,_,_,_,_,rfl,r1,r2,r3,r4,r5,r6}
  dsimp only
  by_cases hg:mg' > 1
  ·rw[if_pos hg];exact ce (go _) (λr st' hh=>by cases r<;>exact hh)
  ·rw[if_neg hg];exact ce (go _) (λr st' hh=>by cases r<;>exact hh)
def qkh(L:Jp M A E s O kf U G)(T:Two O kf G a b){st:aj}{Q:Array af->aj->Prop}(hk:kindOf st=U)(h:∀r g,Mrg O kf a b r->Q r (jJ st g)):wpS M A E s (mhi a b) Q st:=by
 rw[qke];refine am (eF (dg ⟨rfl,?_⟩));have hpa:=T.pa;have hpb:=T.pb;obtain⟨y,ey,my⟩:=qQ (show a.size - 1 < a.size by lia);refine am (qq ey ?_);have h0:HI O kf a b #[] a.size b.size:={by rw[<-bp,<-bp,gj,gj];simp,by simp,by simp};have h1:HI O kf a b #[y] (a.size - 1) b.size:=h0.pushA T.sa (az _) hpa ey (λx hx=>T.last y x ey (gi hx));have hst:st=jJ st (dN st):=rfl
 by_cases hf1:a.size - 1=0
 ·rw[if_pos (-hf1:)];exact ay (by rw[hst];exact h _ _ (h1.fin T.sa T.sb (.inl hf1)))
 ·rw[if_neg (-hf1:)]
  by_cases hf2:b.size=1
  ·rw[if_pos (-hf2:)];exact ay (by rw[hst];exact h _ _ (h1.fst T.sa T.sb (T.firstOne hf2)))
  ·rw[if_neg (-hf2:)];refine am (cQ ?_)
   refine am (ce (bY (I:=λx c st'=>(∃g,st'=jJ st g)/\∃p' q' o' mg,c=(none,p',q',o',mg)/\HI O kf a b o' p' q'/\0 < p'/\p'<=a.size/\1 < q'/\q'<=b.size/\p'+q'+x+1<=a.size+b.size)
    (Q:=λc st'=>(∃g,st'=jJ st g)/\∃r,c.1=some r/\Mrg O kf a b r) ?step ?fin ⟨⟨_,hst⟩,_,_,_,_,rfl,h1,by lia,by lia,by lia,by lia,by lia⟩) ?post)
   case fin=>
    rintro c st' ⟨_,o',i',j',mg,rfl,r1,r2,r3,r4,r5,r6⟩;exfalso
    lia
   case post=>rintro c st' ⟨⟨g,rfl⟩,r,e,hr⟩;obtain⟨c1,c2⟩:=c;have e:c1=some r:=e;subst e;exact ay (h _ _ hr)
   case step=>
    rintro x c st' _ hx ⟨⟨g,rfl⟩,p',q',o',mg,rfl,r1,r2,r3,r4,r5,r6⟩;dsimp only;refine am (qkf L T (st:=jJ st g) (n:=p'+q' - 1) hk r1 r2 r3 r4 r5 (1:) λc hc=>?_);obtain⟨c1,c2,c3,c4,c5,c6⟩:=c;rcases hc with ⟨r,e,hr⟩|⟨e,q1,q2,q3,q4,q5,q6⟩
    ·have e:c1=some r:=e;subst e;exact ay ⟨⟨g,rfl⟩,r,rfl,hr⟩
    ·have e:c1=none:=e;subst e;dsimp only at q1 q2 q3 q4 q5 q6 ⊢;refine am (eF (dg ⟨rfl,?_⟩));refine am (qkg L T (st:=jJ st g) (n:=p'+q' - 1) hk q1 q2 q3 q4 q5 q6 λd g' hd=>?_);obtain⟨d1,d2,d3,d4,d5,d6,d7⟩:=d;rcases hd with ⟨r,e,hr⟩|⟨e,p1,p2,p3,p4,p5,p6⟩
     ·have e:d1=some r:=e;subst e;exact ay ⟨⟨g',rfl⟩,r,rfl,hr⟩
     ·have e:d1=none:=e;subst e;dsimp only at p1 p2 p3 p4 p5 p6 ⊢;exact am (cP (ay ⟨⟨_,rfl⟩,_,_,_,_,rfl,p1,p2,p3,p4,p5,by lia⟩))
end
section
variable{O:aU}{kf:af->O.α}
def KA(O:aU)(kf:af->O.α)(xs:Array af)(i:Nat):O.α:=kf (xs[i]?.getD (Value.none,Value.none))
def Inc(O:aU)(kf:af->O.α)(xs:Array af)(lo hi:Nat):Prop:=∀i j,lo<=i->i<=j->j < hi->O.kle (KA O kf xs i) (KA O kf xs j)
def Dec(O:aU)(kf:af->O.α)(xs:Array af)(lo hi:Nat):Prop:=∀i j,lo<=i->i<=j->j < hi->O.kle (KA O kf xs j) (KA O kf xs i)
def yu{xs ys:Array af}{i j:Nat}(h:xs[i]?=ys[j]?):KA O kf xs i=KA O kf ys j:=by unfold KA;rw[h]
def qfk{xs:Array af}{i:Nat}{x:af}(h:xs[i]?=some x):KA O kf xs i=kf x:=by unfold KA;rw[h];rfl
def Inc.srt{xs:Array af}{lo hi:Nat}(h:Inc O kf xs lo hi):Srt O kf xs lo hi:=λi j x y h1 h2 h3 e1 e2=>by
 have:=h i j h1 h2 h3
 rw[qfk e1,qfk e2]at this;exact this
def JY{xs:Array af}{i j:Nat}(hj:j<=xs.size)(k:Nat):KA O kf (mirror xs i j ((j - i) / 2)) k=if i<=k/\k < j then KA O kf xs (i+j - 1 - k) else KA O kf xs k:=by
 have e:=getElem?_mirror_all (i:=i) hj k
 by_cases h:i<=k/\k < j
 ·rw[if_pos h]at e ⊢;exact yu e
 ·rw[if_neg h]at e ⊢;exact yu e
def zg{xs:Array af}{i j:Nat}(hj:j<=xs.size)(heq:∀k,i<=k->k < j->KA O kf xs k=KA O kf xs (j - 1))(k:Nat):KA O kf (mirror xs i j ((j - i) / 2)) k=KA O kf xs k:=by
 rw[JY hj];split
 ·rw[heq _ (1:) (1:),heq k (1:) (1:)]
 ·rfl
def Zo{xs:Array af}{src d:Nat}(hs:src < xs.size)(hd:d<=src)(k:Nat) :
  KA O kf (bubble xs src d) k=if k=src - d then KA O kf xs src else if src - d < k/\k<=src then KA O kf xs (k - 1) else KA O kf xs k:=by
 have e:=getElem?_bubble hs d hd k
 by_cases h1:k=src - d
 ·rw[if_pos h1]at e ⊢;exact yu e
 ·rw[if_neg h1]at e ⊢
  by_cases h2:src - d < k/\k<=src
  ·rw[if_pos h2]at e ⊢;exact yu e
  ·rw[if_neg h2]at e ⊢;exact yu e
structure Re(lo:Nat)(xs ys:Array af):Prop where
 perm:ys.Perm xs
 keep:∀k,k < lo->ys[k]?=xs[k]?
def Re.refl(lo:Nat)(xs:Array af):Re lo xs xs:={Array.Perm.refl _,λ_ _=>rfl}
def Re.trans{lo:Nat}{xs ys zs:Array af}(a:Re lo xs ys)(b:Re lo ys zs):Re lo xs zs:={b.perm.trans a.perm,λk h=>(b.keep k h).trans (a.keep k h)}
def Re.size{lo:Nat}{xs ys:Array af}(a:Re lo xs ys):ys.size=xs.size:=a.perm.size_eq
def Re.mirror{lo i j:Nat}{xs:Array af}(hi:lo<=i)(hj:j<=xs.size):Re lo xs (mirror xs i j ((j - i) / 2)):={mirror_perm _ _ _ _,λk h=>by rw[getElem?_mirror_all hj k,if_neg (1:)]}
def Re.bubble{lo src d:Nat}{xs:Array af}(hs:src < xs.size)(hd:lo+d<=src):Re lo xs (bubble xs src d):={bubble_perm _ _ _,λk h=>by rw[getElem?_bubble hs d (1:),if_neg (1:),if_neg (1:)]}
def Re.mem{lo:Nat}{xs ys:Array af}(a:Re lo xs ys){G:af->Prop}(h:∀x∈xs.toList,G x):∀x∈ys.toList,G x:=λx hx=>h x ((gk.mp a.perm).mem_iff.mp hx)
end
abbrev ASt:=Option (Option Nat)×Nat
abbrev BSt:=Option (Option Nat)×Nat×Nat
def asc(lo a nrem:Nat):StateT aj Sem ASt:=
 forIn [a:nrem] ((none,a):ASt) λ_ c=>do
  let r<-ltAt' (lo+c.2) (lo+c.2 - 1)
  match r with
  |some sm=>if sm=true then pure (.done (none,c.2)) else pure (.yield (none,c.2+1))
  |_=>pure (.done (some none,c.2))
def dsc(lo a nrem:Nat):StateT aj Sem BSt:=
 forIn [a:nrem] ((none,a,0):BSt) λ_ c=>do
  let r<-ltAt' (lo+c.2.1) (lo+c.2.1 - 1)
  match r with
  |some sm=>
   if sm=true then
    if c.2.2 > 0 then do
     gK (lo+c.2.1 - (c.2.2+1)) (lo+c.2.1)
     pure (.yield (none,c.2.1+1,0))
    else pure (.yield (none,c.2.1+1,0))
   else do
    let r<-ltAt' (lo+c.2.1 - 1) (lo+c.2.1)
    match r with
    |some lg=>if lg=true then pure (.done (none,c.2.1,c.2.2)) else pure (.yield (none,c.2.1+1,c.2.2+1))
    |_=>pure (.done (some none,c.2.1,c.2.2))
  |_=>pure (.done (some none,c.2.1,c.2.2))
def tl3(lo n nrem:Nat):StateT aj Sem (Option Nat):=do
 gK lo (lo+n)
 let c<-asc lo n nrem
 match c.1 with
 |some r=>pure r
 |none=>pure (some c.2)
def dpt(lo n nrem:Nat):StateT aj Sem (Option Nat):=do
 rule "list.sort.descending-run"
 let c<-dsc lo (n+1) nrem
 match c.1 with
 |some r=>pure r
 |none=>if c.2.2 > 0 then do gK (lo+c.2.1 - (c.2.2+1)) (lo+c.2.1);tl3 lo c.2.1 nrem else tl3 lo c.2.1 nrem
theorem qnx(lo nrem:Nat):countRun' lo nrem=(do
 let c<-asc lo 1 nrem
 match c.1 with
 |some r=>pure r
 |none=>
  if (c.2 == nrem)=true then pure (some c.2)
  else if c.2 > 1 then do
   let r<-ltAt' lo (lo+c.2 - 1)
   match r with
   |some rs=>if rs=true then pure (some c.2) else do gK lo (lo+c.2);dpt lo c.2 nrem
   |_=>pure none
  else dpt lo c.2 nrem):=by
 rw[countRun'_eq];show(forIn _ _ _ >>= _:StateT aj Sem (Option Nat))=asc lo 1 nrem >>= _;refine congr (congrArg cD ?_) (funext λc=>?_)
 ·delta asc
  refine congrArg (forIn _ _) (funext λ_=>funext λc=>?_);refine congrArg (λz=>_ >>= z) (funext λr=>?_)
  cases r with
  |none=>exact rfl
  |some sm=>exact rfl
 ·obtain⟨c1,c2⟩:=c
  cases c1 with
  |some r=>rfl
  |none=>
   show(ite _ _ (ite _ _ _):StateT aj Sem (Option Nat))=ite _ _ (ite _ _ _);refine congrArg (ite _ _) ?_;refine congr (congrArg (ite _) ?_) ?_
   ·refine congrArg (λz=>_ >>= z) (funext λr=>?_)
    cases r with
    |none=>exact rfl
    |some rs=>
     show(ite _ _ _:StateT aj Sem (Option Nat))=ite _ _ _;refine congrArg (ite _ _) ?_;refine congrArg (λz=>_ >>= z) (funext λ_=>?_)
     delta dpt
     refine congrArg (λz=>_ >>= z) (funext λ_=>?_);show(forIn _ _ _ >>= _:StateT aj Sem (Option Nat))=dsc lo (c2+1) nrem >>= _;refine congr (congrArg cD ?_) (funext λd=>?_)
     ·delta dsc
      refine congrArg (forIn _ _) (funext λ_=>funext λc=>?_);refine congrArg (λz=>_ >>= z) (funext λr=>?_)
      cases r with
      |none=>exact rfl
      |some sm=>
       show(ite _ _ _:StateT aj Sem (ForInStep BSt))=ite _ _ _;refine congr (congrArg (ite _) ?_) ?_
       ·exact rfl
       ·refine congrArg (λz=>_ >>= z) (funext λr=>?_)
        cases r with
        |none=>exact rfl
        |some lg=>exact rfl
     ·obtain⟨d1,d2,d3⟩:=d
      cases d1 with
      |some r=>exact rfl
      |none=>
       show(ite _ _ _:StateT aj Sem (Option Nat))=ite _ _ _;refine congr (congrArg (ite _) ?_) ?_
       ·refine congrArg (λz=>_ >>= z) (funext λ_=>?_)
        delta tl3
        refine congrArg (λz=>_ >>= z) (funext λ_=>?_);show(forIn _ _ _ >>= _:StateT aj Sem (Option Nat))=asc lo d2 nrem >>= _;refine congr (congrArg cD ?_) (funext λe=>?_)
        ·delta asc
         refine congrArg (forIn _ _) (funext λ_=>funext λc=>?_);refine congrArg (λz=>_ >>= z) (funext λr=>?_)
         cases r with
         |none=>exact rfl
         |some sm=>exact rfl
        ·obtain⟨e1,e2⟩:=e
         cases e1 with
         |some r=>exact rfl
         |none=>exact rfl
       ·delta tl3
        refine congrArg (λz=>_ >>= z) (funext λ_=>?_);show(forIn _ _ _ >>= _:StateT aj Sem (Option Nat))=asc lo d2 nrem >>= _;refine congr (congrArg cD ?_) (funext λe=>?_)
        ·delta asc
         refine congrArg (forIn _ _) (funext λ_=>funext λc=>?_);refine congrArg (λz=>_ >>= z) (funext λr=>?_)
         cases r with
         |none=>exact rfl
         |some sm=>exact rfl
        ·obtain⟨e1,e2⟩:=e
         cases e1 with
         |some r=>exact rfl
         |none=>exact rfl
   ·show _=dpt lo c2 nrem
    delta dpt
    refine congrArg (λz=>_ >>= z) (funext λ_=>?_);show(forIn _ _ _ >>= _:StateT aj Sem (Option Nat))=dsc lo (c2+1) nrem >>= _;refine congr (congrArg cD ?_) (funext λd=>?_)
    ·delta dsc
     refine congrArg (forIn _ _) (funext λ_=>funext λc=>?_);refine congrArg (λz=>_ >>= z) (funext λr=>?_)
     cases r with
     |none=>exact rfl
     |some sm=>
      show(ite _ _ _:StateT aj Sem (ForInStep BSt))=ite _ _ _;refine congr (congrArg (ite _) ?_) ?_
      ·exact rfl
      ·refine congrArg (λz=>_ >>= z) (funext λr=>?_)
       cases r with
       |none=>exact rfl
       |some lg=>exact rfl
    ·obtain⟨d1,d2,d3⟩:=d
     cases d1 with
     |some r=>exact rfl
     |none=>
      show(ite _ _ _:StateT aj Sem (Option Nat))=ite _ _ _;refine congr (congrArg (ite _) ?_) ?_
      ·refine congrArg (λz=>_ >>= z) (funext λ_=>?_)
       delta tl3
       refine congrArg (λz=>_ >>= z) (funext λ_=>?_);show(forIn _ _ _ >>= _:StateT aj Sem (Option Nat))=asc lo d2 nrem >>= _;refine congr (congrArg cD ?_) (funext λe=>?_)
       ·delta asc
        refine congrArg (forIn _ _) (funext λ_=>funext λc=>?_);refine congrArg (λz=>_ >>= z) (funext λr=>?_)
        cases r with
        |none=>exact rfl
        |some sm=>exact rfl
       ·obtain⟨e1,e2⟩:=e
        cases e1 with
        |some r=>exact rfl
        |none=>exact rfl
      ·delta tl3
       refine congrArg (λz=>_ >>= z) (funext λ_=>?_);show(forIn _ _ _ >>= _:StateT aj Sem (Option Nat))=asc lo d2 nrem >>= _;refine congr (congrArg cD ?_) (funext λe=>?_)
       ·delta asc
        refine congrArg (forIn _ _) (funext λ_=>funext λc=>?_);refine congrArg (λz=>_ >>= z) (funext λr=>?_)
        cases r with
        |none=>exact rfl
        |some sm=>exact rfl
       ·obtain⟨e1,e2⟩:=e
        cases e1 with
        |some r=>exact rfl
        |none=>exact rfl
section
variable{M:cH}{A:aH}{E:PQ}{s:ag}{O:aU}{kf:af->O.α}{U:cc}{G:af->Prop}
def JZ(L:Jp M A E s O kf U G){st:aj}{i j:Nat}{Q:Option Bool->aj->Prop}(hk:kindOf st=U)(hG:∀x∈(ah st).toList,G x)(hi:i < (ah st).size)(hj:j < (ah st).size)
  (h:Q (some (O.blt (KA O kf (ah st) i) (KA O kf (ah st) j))) st):wpS M A E s (ltAt' i j) Q st:=by
 rw[ltAt'_eq];refine am (cQ ?_);obtain⟨x,ex,mx⟩:=qQ hi;obtain⟨y,ey,my⟩:=qQ hj;rw[qfk ex,qfk ey]at h;exact am (qq ex (am (qq ey (L x y (hG x mx) (hG y my) st Q hk h))))
def qba{i j:Nat}{st:aj}{Q:Unit->aj->Prop}(h:Q () (aY st (mirror (ah st) i j ((j - i) / 2)))):wpS M A E s (gK i j) Q st:=by rw[reverseSlice'_eq];exact cP h
def qgI(L:Jp M A E s O kf U G){st:aj}{lo a nrem:Nat}{Q:ASt->aj->Prop}(hk:kindOf st=U)(hG:∀x∈(ah st).toList,G x)(hn:lo+nrem<=(ah st).size)(ha:1<=a)(han:a<=nrem)
  (hs:Inc O kf (ah st) lo (lo+a))
  (h:∀n,a<=n->n<=nrem->Inc O kf (ah st) lo (lo+n)->(n=nrem\/O.klt (KA O kf (ah st) (lo+n)) (KA O kf (ah st) (lo+n - 1)))->Q (none,n) st):wpS M A E s (asc lo a nrem) Q st:=by
 unfold asc;refine bY (I:=λx c st'=>st'=st/\c=(none,x)/\Inc O kf (ah st) lo (lo+x)) ?step ?fin ⟨rfl,rfl,hs⟩
 case fin=>rintro c st' ⟨rfl,rfl,hs'⟩;rw[show max a nrem=nrem by lia]at hs' ⊢;exact h nrem han (az _) hs' (.inl rfl)
 case step=>
  rintro x c st' hax hxn ⟨rfl,rfl,hs'⟩;dsimp only;refine am (JZ L hk hG (1:) (1:) ?_)
  cases hb:O.blt (KA O kf (ah st') (lo+x)) (KA O kf (ah st') (lo+x - 1)) with
  |true=>simp![if_true];exact ay (h x hax (1:) hs' (.inr hb))
  |false=>
   simp![a7,if_false];refine ay ⟨rfl,rfl,λi j h1 h2 h3=>?_⟩
   by_cases hjx:j < lo+x
   ·exact hs' i j h1 h2 hjx
   ·have:j=lo+x:=by lia
    subst this
    by_cases e:i=lo+x
    ·subst e;exact dt _
    ·exact fo (hs' i (lo+x - 1) h1 (1:) (1:)) hb
def qcc(O:aU)(kf:af->O.α)(lo nrem:Nat)(st:aj)(Q:Option Nat->aj->Prop):Prop:=
 ∀m xs,Re lo (ah st) xs->1<=m->m<=nrem->Inc O kf xs lo (lo+m)->Q (some m) (aY st xs)
def qcc.step{lo nrem:Nat}{st:aj}{Q:Option Nat->aj->Prop}{xs:Array af}(h:qcc O kf lo nrem st Q)(r:Re lo (ah st) xs):qcc O kf lo nrem (aY st xs) Q:=
 λm ys r' h1 h2 h3=>h m ys (r.trans r') h1 h2 h3
def qgJ(L:Jp M A E s O kf U G){st:aj}{lo n nrem:Nat}{Q:Option Nat->aj->Prop}(hk:kindOf st=U)(hG:∀x∈(ah st).toList,G x)(hn:lo+nrem<=(ah st).size)(h1:1<=n)(hnn:n<=nrem)
  (hs:Dec O kf (ah st) lo (lo+n)) (h:qcc O kf lo nrem st Q):wpS M A E s (tl3 lo n nrem) Q st:=by
 unfold tl3;refine am (qba ?_);have r:Re lo (ah st) (mirror (ah st) lo (lo+n) ((lo+n - lo) / 2)):=Re.mirror (az _) (1:);refine am (qgI L (st:=aY st (mirror (ah st) lo (lo+n) ((lo+n - lo) / 2))) hk (r.mem hG) (by have:=r.size;show lo+nrem<=(mirror (ah st) lo (lo+n) ((lo+n - lo) / 2)).size;lia) h1 hnn ?_ λm hm1 hm2 hs2 _=>ay (h m _ r (1:) hm2 hs2));intro i j h2 h3 h4;show O.kle (KA O kf (mirror (ah st) lo (lo+n) ((lo+n - lo) / 2)) i) (KA O kf (mirror (ah st) lo (lo+n) ((lo+n - lo) / 2)) j);rw[JY (1:),JY (1:),if_pos (1:),if_pos (1:)];exact hs _ _ (1:) (1:) (1:)
def qki(L:Jp M A E s O kf U G){st:aj}{lo n nrem:Nat}{Q:BSt->aj->Prop}(hk:kindOf st=U)(hG:∀x∈(ah st).toList,G x)(hn:lo+nrem<=(ah st).size)(h1:1<=n)(hnn:n<=nrem)
  (hs:Dec O kf (ah st) lo (lo+n))
  (h:∀m ne xs,Re lo (ah st) xs->n<=m->m<=nrem->Dec O kf xs lo (lo+m)->ne+1<=m->(∀i,lo+m - (ne+1)<=i->i < lo+m->KA O kf xs i=KA O kf xs (lo+m - 1))->Q (none,m,ne) (aY st xs)):wpS M A E s (dsc lo n nrem) Q st:=by
 unfold dsc
 refine bY (I:=λx c st'=>∃ne xs,c=(none,x,ne)/\st'=aY st xs/\Re lo (ah st) xs/\Dec O kf xs lo (lo+x)/\ne+1<=x/\(∀i,lo+x - (ne+1)<=i->i < lo+x->KA O kf xs i=KA O kf xs (lo+x - 1))) ?step ?fin
  ⟨0,ah st,rfl,rfl,Re.refl _ _,hs,by lia,λi a b=>by congr 1;lia⟩
 case fin=>rintro c st' ⟨ne,xs,rfl,rfl,r,hs',hq,he⟩;rw[show max n nrem=nrem by lia]at hs' hq he ⊢;exact h nrem ne xs r hnn (az _) hs' hq he
 case step=>
  rintro x c st' hax hxn ⟨ne,xs,rfl,rfl,r,hs',hq,he⟩;dsimp only;have hsz:xs.size=(ah st).size:=r.size;refine am (JZ L (st:=aY st xs) hk (r.mem hG) (by show lo+x < xs.size;lia) (by show lo+x - 1 < xs.size;lia) ?_);show wpS M A E s _ _ _
  cases hb:O.blt (KA O kf (ah (aY st xs)) (lo+x)) (KA O kf (ah (aY st xs)) (lo+x - 1)) with
  |true=>
   have hb:O.blt (KA O kf xs (lo+x)) (KA O kf xs (lo+x - 1))=true:=hb;simp![if_true]
   have step1:∀ys:Array af,(∀k,KA O kf ys k=KA O kf xs k)->Dec O kf ys lo (lo+(x+1)):=by
    intro ys hy i j a b d;rw[hy,hy]
    by_cases hjx:j < lo+x
    ·exact hs' i j a b hjx
    ·have:j=lo+x:=by lia
     subst this
     by_cases e:i=lo+x
     ·subst e;exact dt _
     ·exact fo (f9 hb) (hs' i (lo+x - 1) a (1:) (1:))
   by_cases hneq:ne > 0
   ·rw[if_pos hneq];refine am (qba (ay ⟨0,_,rfl,rfl,r.trans (Re.mirror (xs:=xs) (1:) (1:)),step1 _ (zg (xs:=xs) (1:) he),by lia,λi a b=>by congr 1;lia⟩))
   ·rw[if_neg hneq];exact ay ⟨0,xs,rfl,rfl,r,step1 _ (λ_=>rfl),by lia,λi a b=>by congr 1;lia⟩
  |false=>
   have hb:O.blt (KA O kf xs (lo+x)) (KA O kf xs (lo+x - 1))=false:=hb;simp![a7,if_false];refine am (JZ L (st:=aY st xs) hk (r.mem hG) (by show lo+x - 1 < xs.size;lia) (by show lo+x < xs.size;lia) ?_)
   cases hc:O.blt (KA O kf (ah (aY st xs)) (lo+x - 1)) (KA O kf (ah (aY st xs)) (lo+x)) with
   |true=>simp![if_true];exact ay (h x ne xs r hax (1:) hs' hq he)
   |false=>
    have hc:O.blt (KA O kf xs (lo+x - 1)) (KA O kf xs (lo+x))=false:=hc;simp![a7,if_false];have heqx:KA O kf xs (lo+x)=KA O kf xs (lo+x - 1):=KeyOrd.kle_antisymm hc hb;refine ay ⟨ne+1,xs,rfl,rfl,r,λi j a b d=>?_,by lia,λi a b=>?_⟩
    ·by_cases hjx:j < lo+x
     ·exact hs' i j a b hjx
     ·have:j=lo+x:=by lia
      subst this
      by_cases e:i=lo+x
      ·subst e;exact dt _
      ·rw[heqx];exact hs' i (lo+x - 1) a (1:) (1:)
    ·rw[show lo+(x+1) - 1=lo+x by lia]
     by_cases e:i=lo+x
     ·rw[e]
     ·rw[heqx];exact he i (1:) (1:)
def qgK(L:Jp M A E s O kf U G){st:aj}{lo n nrem:Nat}{Q:Option Nat->aj->Prop}(hk:kindOf st=U)(hG:∀x∈(ah st).toList,G x)(hn:lo+nrem<=(ah st).size)(hnn:n+1<=nrem)
  (hs:Dec O kf (ah st) lo (lo+(n+1))) (h:qcc O kf lo nrem st Q):wpS M A E s (dpt lo n nrem) Q st:=by
 unfold dpt;refine am (eF (dg ⟨rfl,?_⟩));refine am (qki L hk hG hn (1:) hnn hs λm ne xs r h1 h2 h3 h4 h5=>?_);dsimp only;have hsz:xs.size=(ah st).size:=r.size
 by_cases hneq:ne > 0
 ·rw[if_pos hneq];have r2:Re lo xs (mirror xs (lo+m - (ne+1)) (lo+m) ((lo+m - (lo+m - (ne+1))) / 2)):=Re.mirror (1:) (1:);refine am (qba (qgJ L hk (r2.mem (r.mem hG)) (by have:=r2.size;show lo+nrem<=(mirror xs (lo+m - (ne+1)) (lo+m) ((lo+m - (lo+m - (ne+1))) / 2)).size;lia) (1:) h2 ?_ ((h.step r).step r2)));intro i j a b d;show O.kle (KA O kf (mirror xs _ _ _) j) (KA O kf (mirror xs _ _ _) i);rw[zg (1:) h5,zg (1:) h5];exact h3 i j a b d
 ·rw[if_neg hneq];exact qgJ L (st:=aY st xs) hk (r.mem hG) (by show lo+nrem<=xs.size;lia) (1:) h2 h3 (h.step r)
def qny(L:Jp M A E s O kf U G){st:aj}{lo nrem:Nat}{Q:Option Nat->aj->Prop}(hk:kindOf st=U)(hG:∀x∈(ah st).toList,G x)(hn:lo+nrem<=(ah st).size)(h1:1<=nrem)
  (h:qcc O kf lo nrem st Q):wpS M A E s (countRun' lo nrem) Q st:=by
 rw[qnx];refine am (qgI L hk hG hn (az 1) h1 (λi j a b d=>by have:i=j:=(1:);subst this;exact dt _) λn hn1 hn2 hsn hor=>?_);dsimp only
 by_cases hnn:n=nrem
 ·rw[if_pos (-hnn:)];exact ay (h n _ (Re.refl _ _) hn1 hn2 hsn)
 ·rw[if_neg (-hnn:)];have hlt:=hor.resolve_left hnn
  by_cases hgt:n > 1
  ·rw[if_pos hgt];refine am (JZ L hk hG (1:) (1:) ?_)
   cases hr:O.blt (KA O kf (ah st) lo) (KA O kf (ah st) (lo+n - 1)) with
   |true=>simp![if_true];exact ay (h n _ (Re.refl _ _) hn1 hn2 hsn)
   |false=>
    simp![a7,if_false]
    have hall:∀k,lo<=k->k < lo+n->KA O kf (ah st) k=KA O kf (ah st) (lo+n - 1):=by intro k a b;exact KeyOrd.kle_antisymm (hsn k (lo+n - 1) a (1:) (1:)) (fo hr (hsn lo k (az _) a b))
    have r:Re lo (ah st) (mirror (ah st) lo (lo+n) ((lo+n - lo) / 2)):=Re.mirror (az _) (1:);refine am (qba (qgK L hk (r.mem hG) (by have:=r.size;show lo+nrem<=(mirror (ah st) lo (lo+n) ((lo+n - lo) / 2)).size;lia) (1:) ?_ (h.step r)));intro i j a b d;show O.kle (KA O kf (mirror (ah st) _ _ _) j) (KA O kf (mirror (ah st) _ _ _) i);rw[zg (1:) hall,zg (1:) hall]
    by_cases hjn:j < lo+n
    ·rw[hall i (1:) (1:),hall j (1:) hjn];exact dt _
    ·have:j=lo+n:=by lia
     subst this
     by_cases e:i=lo+n
     ·subst e;exact dt _
     ·rw[hall i (1:) (1:)];exact f9 hlt
  ·rw[if_neg hgt]
   have:n=1:=by lia
   subst this;refine qgK L hk hG hn (1:) ?_ h;intro i j a b d
   by_cases e:i=j
   ·subst e;exact dt _
   ·have e1:i=lo:=by lia
    have e2:j=lo+1:=by lia
    subst e1 e2;exact f9 (-hlt:)
def qkj{l u k x:Nat}(h:¬ l≥u)(b:u<=k)(d:u - l<=k - x):l<=(l+u) / 2/\(l+u) / 2 < u/\(l+u) / 2 < k/\(l+u) / 2 - l<=k - (x+1)/\u - ((l+u) / 2+1)<=k - (x+1):=by
 have h1:l<=(l+u) / 2:=by omega
 have h2:(l+u) / 2 < u:=by omega
 exact{h1,h2,bn h2 b,Nat.le_sub_one_of_lt (bn (Nat.sub_lt_sub_right h1 h2) d),Nat.sub_le_sub_right (bz (Nat.sub_le_sub_left h1 u) d) 1}
def qde{lo k n s:Nat}(h:k < n)(hn:lo+n<=s):lo+k < s:=bn (kx h lo) hn
def qcd{lo t l:Nat}(h1:lo<=t)(h2:t < lo+l):t - lo < l:=by lia
def qh4{lo t l:Nat}(h1:lo+l<=t):l<=t - lo:=by lia
def qkk(L:Jp M A E s O kf U G){st:aj}{lo n ok:Nat}{Q:Bool->aj->Prop}(hk:kindOf st=U)(hG:∀x∈(ah st).toList,G x)(hn:lo+n<=(ah st).size)(hok:ok<=n)(hs:Inc O kf (ah st) lo (lo+ok))
  (h:∀xs,Re lo (ah st) xs->Inc O kf xs lo (lo+n)->Q true (aY st xs)):wpS M A E s (binarySort' lo n ok) Q st:=by
 rw[binarySort'_eq]
 refine am (ce (bY (I:=λk c st'=>c=(none,())/\∃xs,st'=aY st xs/\Re lo (ah st) xs/\Inc O kf xs lo (lo+min k n))
  (Q:=λc st'=>c=(none,())/\∃xs,st'=aY st xs/\Re lo (ah st) xs/\Inc O kf xs lo (lo+n)) ?step ?fin ?init) ?post)
 case post=>rintro c st' ⟨rfl,xs,rfl,r,hs'⟩;exact ay (h xs r hs')
 case init=>
  refine{rfl,ah st,rfl,Re.refl _ _,λi j a b d=>?_}
  by_cases h1:ok=0
  ·have:i=j:=by lia
   subst this;exact dt _
  ·exact hs i j a b (1:)
 case fin=>
  rintro c st' ⟨hc,xs,rfl,r,hs'⟩;refine{hc,xs,rfl,r,?_}
  rwa[show min (max (max ok 1) n) n=n by lia]at hs'
 case step=>
  rintro k c st' hak hkn ⟨rfl,xs,rfl,r,hs'⟩;rw[eR (Nat.le_of_lt hkn)]at hs';have hsz:xs.size=(ah st).size:=r.size
  refine am (ce (bY (I:=λx c st''=>st''=aY st xs/\∃l u,c=(none,l,u)/\l<=u/\u<=k/\u - l<=k - x/\
    (∀i,i < l->O.kle (KA O kf xs (lo+i)) (KA O kf xs (lo+k)))/\(∀i,u<=i->i < k->O.klt (KA O kf xs (lo+k)) (KA O kf xs (lo+i))))
   (Q:=λc st''=>st''=aY st xs/\∃l u,c=(none,l,u)/\l<=k/\
    (∀i,i < l->O.kle (KA O kf xs (lo+i)) (KA O kf xs (lo+k)))/\(∀i,l<=i->i < k->O.klt (KA O kf xs (lo+k)) (KA O kf xs (lo+i)))) ?istep ?ifin ?iinit) ?ipost)
  case iinit=>exact{rfl,0,k,rfl,bd _,az _,az _,λi hi=>absurd hi (Nat.not_lt_zero i),λi h1 h2=>absurd h2 (Nat.not_lt.mpr h1)}
  case ifin=>
   rintro c st'' ⟨rfl,l,u,rfl,a,b,d,e,f⟩
   have:l=u:=by lia
   subst this;exact⟨rfl,l,l,rfl,b,e,f⟩
  case istep=>
   rintro x c st'' _ hxk ⟨rfl,l,u,rfl,a,b,d,e,f⟩;dsimp only
   by_cases hge:l≥u
   ·rw[if_pos hge];obtain rfl:l=u:=Nat.le_antisymm a hge;exact ay ⟨rfl,l,l,rfl,b,e,f⟩
   ·rw[if_neg hge];obtain⟨m1,m2,m3,m4,m5⟩:=qkj hge b d;have hns:lo+n<=xs.size:=by rw[hsz];exact hn
    refine am (JZ L (st:=aY st xs) hk (r.mem hG) (qde hkn hns) (qde (hJ m3 hkn) hns) ?_)
    cases hb:O.blt (KA O kf (ah (aY st xs)) (lo+k)) (KA O kf (ah (aY st xs)) (lo+(l+u) / 2)) with
    |true=>have hb:O.blt (KA O kf xs (lo+k)) (KA O kf xs (lo+(l+u) / 2))=true:=hb;simp![if_true];refine ay ⟨rfl,l,(l+u) / 2,rfl,m1,Nat.le_of_lt m3,m4,e,λi h1 h2=>?_⟩;exact KeyOrd.klt_of_klt_of_kle hb (hs' _ _ (cG _ _) (hU h1 lo) (kx h2 lo))
    |false=>have hb:O.blt (KA O kf xs (lo+k)) (KA O kf xs (lo+(l+u) / 2))=false:=hb;simp![a7,if_false];refine ay ⟨rfl,(l+u) / 2+1,u,rfl,m2,b,m5,λi h1=>?_,f⟩;exact fo (hs' (lo+i) (lo+(l+u) / 2) (cG _ _) (hU (Nat.le_of_lt_succ h1) lo) (kx m3 lo)) (show O.kle _ _ from hb)
  case ipost=>
   rintro c st'' ⟨rfl,l,u,rfl,hlk,hlo,hhi⟩;show wpS _ _ _ _ (do moveDown' (lo+k) (lo+l);pure (gm (none,()))) _ _;rw[moveDown'_eq];have hks:lo+k < xs.size:=qde hkn (by rw[hsz];exact hn);refine am (cP (ay ⟨rfl,_,rfl,r.trans (Re.bubble hks (d:=lo+k - (lo+l)) (by rw[Nat.add_sub_add_left];exact hU (Nat.sub_le _ _) _)),?_⟩));rw[eR hkn];intro i j a b d;show O.kle (KA O kf (bubble xs (lo+k) (lo+k - (lo+l))) i) (KA O kf (bubble xs (lo+k) (lo+k - (lo+l))) j);have dl:lo+k - (lo+l)<=lo+k:=Nat.sub_le _ _;rw[Zo hks dl,Zo hks dl,Nat.sub_sub_self (hU hlk lo)];clear dl
   have lo':∀t,lo<=t->t < lo+l->O.kle (KA O kf xs t) (KA O kf xs (lo+k)):=λt h1 h2=>by
    have:=hlo (t - lo) (qcd h1 h2)
    rwa[fC h1]at this
   have hi':∀t,lo+l<=t->t < lo+k->O.klt (KA O kf xs (lo+k)) (KA O kf xs t):=λt h1 h2=>by
    have:=hhi (t - lo) (qh4 h1) (qcd (bz (cG lo l) h1) h2)
    rwa[fC (bz (cG lo l) h1)]at this
   clear hlo hhi hks hsz hn hkn hak hok hs hG hk r
   repeat' split
   all_goals first
    | (exfalso;lia)
    | exact dt _
    | exact lo' _ (1:) (1:)
    | exact f9 (hi' _ (1:) (1:))
    | exact hs' _ _ (1:) (1:) (1:)
end
abbrev Pd:=Nat×Nat×Nat
def wrt(a:Array af)(sa:Nat)(l:List (af×Nat)):Array af:=l.foldl (λa (p,j)=>a.setIfInBounds (sa+j) p) a
theorem qbb(sa:Nat):∀(l:List (af×Nat)) (a:Array af),(wrt a sa l).size=a.size
 |[],a=>rfl
 | (p,j)::r,a=>by show(wrt (a.setIfInBounds (sa+j) p) sa r).size=a.size;rw[qbb sa r,ma]
theorem qau(sa:Nat):∀(l:List af) (n:Nat) (a:Array af) (k:Nat),sa+n+l.length<=a.size->(wrt a sa (l.zipIdx n))[k]?=if sa+n<=k/\k < sa+n+l.length then l[k - (sa+n)]? else a[k]?
 |[],n,a,k,_=>by rw[if_neg (5:)];rfl
 | p::r,n,a,k,h=>by
  show(wrt (a.setIfInBounds (sa+n) p) sa (r.zipIdx (n+1)))[k]?=_;have h':sa+(n+1)+r.length<=a.size:=by simp at h;lia
  rw[qau sa r (n+1) _ k (by rw[ma];exact h')]
  by_cases h1:sa+(n+1)<=k/\k < sa+(n+1)+r.length
  ·rw[if_pos h1,if_pos (by simp;lia)];rw[show k - (sa+n)=(k - (sa+(n+1)))+1 by lia];simp
  ·rw[if_neg h1]
   by_cases h2:k=sa+n
   ·subst h2;rw[if_pos (5:)];simp at h;simp[show sa+n < a.size by lia]
   ·rw[if_neg (by simp;lia)];rw[Array.getElem?_setIfInBounds_ne (1:)]
def mga:Nat->StateT aj Sem Bool:=mergeAt'
def mst(st:aj)(xs:Array af)(p:Array Pd)(g:Nat):aj:=eP (kindOf st) xs p g (cM st)
theorem qkl(i:Nat):mga i=(do
 let s<-get
 match (aM s)[i]?,(aM s)[i+1]? with
 |some (sa,na,pw),some (sb,nb,_)=>do
  set (mst s (ah s) (((aM s).setIfInBounds i (sa,na+nb,pw)).eraseIdxIfInBounds (i+1)) (dN s))
  let y<-aO (ah s) sb
  let r<-gal false y (ah s) sa na 0
  match r with
  |some k=>
   if (na - k == 0)=true then pure true
   else do
    let z<-aO (ah s) (sa+k+(na - k) - 1)
    let r<-gal true z (ah s) sb nb (nb - 1)
    match r with
    |some nb=>
     if (nb == 0)=true then pure true
     else do
      let m<-if na - k<=nb then mlo ((ah s).extract (sa+k) sb) ((ah s).extract sb (sb+nb)) else mhi ((ah s).extract (sa+k) sb) ((ah s).extract sb (sb+nb))
      modify λs=>aY s (wrt (ah s) (sa+k) m.toList.zipIdx)
      let s<-get
      pure (cM s).isNone
    |_=>pure false
  |_=>pure false
 |_,_=>fU "internal:list.sort.pending"):=by
 show(get >>= _:StateT aj Sem Bool)=_;refine congrArg (λz=>get >>= z) (funext λs=>?_)
 cases e1:(aM s)[i]? with
 |none=>rfl
 |some v=>
  obtain⟨sa,na,pw⟩:=v
  cases e2:(aM s)[i+1]? with
  |none=>rfl
  |some u=>
   obtain⟨sb,nb,pw2⟩:=u;refine congrArg (λz=>_ >>= z) (funext λ_=>?_);refine congrArg (λz=>_ >>= z) (funext λy=>?_);refine congrArg (λz=>_ >>= z) (funext λr=>?_)
   cases r with
   |none=>rfl
   |some k=>
    show(ite _ _ _:StateT aj Sem Bool)=ite _ _ _;refine congrArg (ite _ _) ?_;refine congrArg (λz=>_ >>= z) (funext λz=>?_);refine congrArg (λz=>_ >>= z) (funext λr=>?_)
    cases r with
    |none=>rfl
    |some k=>rfl
section
variable{O:aU}{kf:af->O.α}{G:af->Prop}
structure Ord(O:aU)(kf:af->O.α)(lo hi:Nat)(xs ys:Array af):Prop where
 perm:ys.Perm xs
 keep:∀k,(k < lo\/hi<=k)->ys[k]?=xs[k]?
 srt:Srt O kf ys lo hi
def qav{a:Array af}{u p i:Nat}(hp:p<=a.size)(hi:i < p - u):(a.extract u p)[i]?=a[u+i]?:=by rw[Array.getElem?_extract];rw[if_pos (1:)]
def qdf{a:Array af}{u p:Nat}(hp:p<=a.size)(h:Srt O kf a u p):Srt O kf (a.extract u p) 0 (a.extract u p).size:=λi j x y _ hij hj e1 e2=>by
 have hs:(a.extract u p).size=p - u:=by rw[g9];lia
 rw[qav hp (1:)]at e1 e2;exact h _ _ x y (1:) (1:) (by omega) e1 e2
def Ord.merged{xs m:Array af}{sa sb e:Nat}(h1:sa<=sb)(h2:sb<=e)(h3:e<=xs.size)(M:Mrg O kf (xs.extract sa sb) (xs.extract sb e) m):Ord O kf sa e xs (wrt xs sa m.toList.zipIdx):=by
 have hms:m.size=e - sa:=by
  have:=M.1.length_eq
  simp at this
  lia
 have get:∀k,(wrt xs sa m.toList.zipIdx)[k]?=if sa<=k/\k < e then m[k - sa]? else xs[k]?:=λk=>by
  have:=qau sa m.toList 0 xs k (by rw[bp];lia)
  rw[this,bp,hms]
  by_cases hc:sa<=k/\k < e
  ·rw[if_pos hc,if_pos (1:)];simp
  ·rw[if_neg hc,if_neg (1:)]
 have hsz:(wrt xs sa m.toList.zipIdx).size=xs.size:=qbb _ _ _;refine{?_,λk hk=>by rw[get,if_neg (1:)],λi j x y a b c e1 e2=>?_}
 ·have e1:(wrt xs sa m.toList.zipIdx).toList=xs.toList.take sa++(m.toList++xs.toList.drop e):=by
   apply List.ext_getElem?;intro k;have hl1:(xs.toList.take sa).length=sa:=by simp;lia
   have:(wrt xs sa m.toList.zipIdx).toList[k]?=(wrt xs sa m.toList.zipIdx)[k]?:=by simp
   rw[this,get]
   by_cases c1:k < sa
   ·rw[if_neg (1:),dm (1:),lY c1];simp
   ·rw[cZ (1:),hl1]
    by_cases c2:k < e
    ·rw[if_pos (1:),dm (by rw[bp];lia)];simp
    ·rw[if_neg (1:),cZ (by rw[bp];lia),bp,hms,List.getElem?_drop];rw[show e+(k - sa - (e - sa))=k by lia];simp
  have e2:xs.toList=xs.toList.take sa++((xs.extract sa sb).toList++(xs.extract sb e).toList++xs.toList.drop e):=by have a1:=Qa xs sa (sb - sa);have a2:=Qa xs sb (e - sb);rw[show sa+(sb - sa)=sb by lia]at a1;rw[show sb+(e - sb)=e by lia]at a2;rw[aT,a2,a1,g8]
  rw[gk,e1]
  conv=>rhs;rw[e2]
  exact gV _ (lF _ M.1)
 ·rw[get,if_pos (1:)]at e1 e2;exact(Srt.of M.2) _ _ x y (bd _) (1:) (1:) e1 e2
end
section
variable{M:cH}{A:aH}{E:PQ}{s:ag}{O:aU}{kf:af->O.α}{U:cc}{G:af->Prop}
def qkm(L:Jp M A E s O kf U G){st:aj}{i sa na pw sb nb pw2:Nat}{Q:Bool->aj->Prop}(hk:kindOf st=U)(hf:cM st=none)(hG:∀x∈(ah st).toList,G x)
  (e1:(aM st)[i]?=some (sa,na,pw)) (e2:(aM st)[i+1]?=some (sb,nb,pw2)) (hsb:sb=sa+na) (pa:0 < na) (pb:0 < nb) (hsz:sb+nb<=(ah st).size)
  (s1:Srt O kf (ah st) sa sb) (s2:Srt O kf (ah st) sb (sb+nb))
  (h:∀xs g,Ord O kf sa (sb+nb) (ah st) xs->Q true (mst st xs (((aM st).setIfInBounds i (sa,na+nb,pw)).eraseIdxIfInBounds (i+1)) g)):wpS M A E s (mga i) Q st:=by
 rw[qkl];refine am (cQ ?_);rw[e1,e2];dsimp only;generalize hst1:mst st (ah st) (((aM st).setIfInBounds i (sa,na+nb,pw)).eraseIdxIfInBounds (i+1)) (dN st)=st1
 have setS:∀{Q':Unit->aj->Prop},Q' () st1->wpS M A E s (set st1:StateT aj Sem PUnit) Q' st:=λhq=>by unfold wpS;rw[StateT.run_set];exact ax ⟨rfl,hq⟩
 refine am (setS ?_);have hk1:kindOf st1=U:=by rw[<-hst1];exact hk
 subst hsb;obtain⟨y,ey,my⟩:=qQ (show sa+na < (ah st).size by lia);refine am (qq ey (am (yZ L hk1 (hG y my) hG (λi' j' x y a b c=>s1 i' j' x y a b c) (1:) (by omega) λk k1 ka kb=>?_)));dsimp only
 have ka':∀t x,sa<=t->t < sa+k->(ah st)[t]?=some x->le O kf x y:=λt x a b ex=>by
  have:=ka (t - sa) x (qcd a b) (by rw[fC a];exact ex)
  unfold pby at this;simp![a7,if_false,da]at this;exact zf this
 have kb':∀t x,sa+k<=t->t < sa+na->(ah st)[t]?=some x->le O kf y x:=λt x a b ex=>by
  have a':=bz (cG sa k) a
  have:=kb (t - sa) x (qh4 a) (qcd a' b) (by rw[fC a'];exact ex)
  unfold pby at this;simp![a7,if_false,kr]at this;exact le_of_lt this
 have yb:∀t x,sa+na<=t->t < sa+na+nb->(ah st)[t]?=some x->le O kf y x:=λt x a b ex=>s2 (sa+na) t y x (az _) a b ey ex
 by_cases hna:na - k=0
 ·rw[if_pos (-hna:)];refine ay ?_;rw[<-hst1];refine h _ _ ⟨Array.Perm.refl _,λ_ _=>rfl,λi' j' x z a b c f1 f2=>?_⟩
  by_cases hi:i' < sa+na
  ·by_cases hj:j' < sa+na
   ·exact s1 i' j' x z a b hj f1 f2
   ·exact qy (ka' i' x a (1:) f1) (yb j' z (1:) (by omega) f2)
  ·exact s2 i' j' x z (1:) b (by omega) f1 f2
 ·rw[if_neg (-hna:)];obtain⟨z,ez,mz⟩:=qQ (show sa+k+(na - k) - 1 < (ah st).size by omega);have ez':(ah st)[sa+na - 1]?=some z:=by rw[show sa+na - 1=sa+k+(na - k) - 1 by lia];exact ez
  refine am (qq ez (am (yZ L hk1 (hG z mz) hG (λi' j' x y a b c=>s2 i' j' x y a b c) (by omega) (by omega) λu u1 ua ub=>?_)));dsimp only
  have ua':∀t x,sa+na<=t->t < sa+na+u->(ah st)[t]?=some x->le O kf x z:=λt x a b ex=>by
   have:=ua (t - (sa+na)) x (qcd a b) (by rw[fC a];exact ex)
   unfold pby at this;simp![if_true]at this;exact le_of_lt this
  have ub':∀t x,sa+na+u<=t->t < sa+na+nb->(ah st)[t]?=some x->le O kf z x:=λt x a b ex=>by
   have a':=bz (cG (sa+na) u) a
   have:=ub (t - (sa+na)) x (qh4 a) (qcd a' b) (by rw[fC a'];exact ex)
   unfold pby at this;simp![if_true]at this;exact zf this
  have za:∀t x,sa<=t->t < sa+na->(ah st)[t]?=some x->le O kf x z:=λt x a b ex=>s1 t (sa+na - 1) x z a (1:) (by omega) ex ez'
  by_cases hu:u=0
  ·rw[if_pos (-hu:)];refine ay ?_;rw[<-hst1];refine h _ _ ⟨Array.Perm.refl _,λ_ _=>rfl,λi' j' x w a b c f1 f2=>?_⟩
   by_cases hi:i' < sa+na
   ·by_cases hj:j' < sa+na
    ·exact s1 i' j' x w a b hj f1 f2
    ·exact qy (za i' x a hi f1) (ub' j' w (1:) (by omega) f2)
   ·exact s2 i' j' x w (1:) b (by omega) f1 f2
  ·rw[if_neg (-hu:)];have sxa:((ah st).extract (sa+k) (sa+na)).size=na - k:=by rw[g9];lia
   have sxb:((ah st).extract (sa+na) (sa+na+u)).size=u:=by rw[g9];lia
   have T:Two O kf G ((ah st).extract (sa+k) (sa+na)) ((ah st).extract (sa+na) (sa+na+u)):=by
    refine{λx hx=>?_,λx hx=>?_,qdf (1:) (λi' j' x y a b c=>s1 i' j' x y (1:) b c),qdf (1:) (λi' j' x y a b c=>s2 i' j' x y a b (1:)),by lia,by lia,λx w ew hx=>?_,λx w ex hw=>?_}
    ·obtain⟨t,_,_,et⟩:=zK hx;exact hG x (by obtain⟨h1,h2⟩:=bP.mp et;rw[<-h2];simp)
    ·obtain⟨t,_,_,et⟩:=zK hx;exact hG x (by obtain⟨h1,h2⟩:=bP.mp et;rw[<-h2];simp)
    ·rw[qav (1:) (1:),hE,ey]at ew;cases ew;obtain⟨t,t1,t2,et⟩:=zK hx;exact kb' t x t1 t2 et
    ·rw[sxa,qav (1:) (1:),show sa+k+(na - k - 1)=sa+na - 1 by lia,ez']at ex;cases ex;obtain⟨t,t1,t2,et⟩:=zK hw;exact ua' t w t1 t2 et
   have post:∀m g,Mrg O kf ((ah st).extract (sa+k) (sa+na)) ((ah st).extract (sa+na) (sa+na+u)) m->
     wpS M A E s (do modify λs=>aY s (wrt (ah s) (sa+k) m.toList.zipIdx);let s<-get;pure (cM s).isNone) Q (jJ st1 g):=λm g hm=>by
    refine am (cP (am (cQ (ay ?_))));have o1:=Ord.merged (xs:=ah st) (1:) (1:) (1:) hm
    have e3:aY (jJ st1 g) (wrt (ah (jJ st1 g)) (sa+k) m.toList.zipIdx)=mst st (wrt (ah st) (sa+k) m.toList.zipIdx) (((aM st).setIfInBounds i (sa,na+nb,pw)).eraseIdxIfInBounds (i+1)) g:=by rw[<-hst1];rfl
    have e4:(cM (aY (jJ st1 g) (wrt (ah (jJ st1 g)) (sa+k) m.toList.zipIdx))).isNone=true:=by rw[e3];show(cM st).isNone=true;rw[hf];rfl
    rw[e4,e3];refine h _ g ⟨o1.perm,λt ht=>o1.keep t (1:),λi' j' x w a b c f1 f2=>?_⟩
    have mid:∀t x,sa+k<=t->t < sa+na+u->(wrt (ah st) (sa+k) m.toList.zipIdx)[t]?=some x->∃r,sa+k<=r/\r < sa+na+u/\(ah st)[r]?=some x:=λt x a b ex=>by
     have hmem:x∈m.toList:=by
      have hms:m.size=na - k+u:=by
       have:=hm.1.length_eq
       simp at this
       lia
      have:=qau (sa+k) m.toList 0 (ah st) t (by rw[bp];lia)
      rw[if_pos (by rw[bp];lia)]at this;rw[this]at ex;exact dn ex
     rcases aW.mp (hm.1.mem_iff.mp hmem) with q|q
     ·obtain⟨r,r1,r2,er⟩:=zK q;exact{r,r1,by lia,er}
     ·obtain⟨r,r1,r2,er⟩:=zK q;exact{r,by lia,r2,er}
    by_cases hi1:i' < sa+k
    ·rw[o1.keep i' (.inl hi1)]at f1;have hx:=ka' i' x a hi1 f1
     by_cases hj1:j' < sa+k
     ·rw[o1.keep j' (.inl hj1)]at f2;exact s1 i' j' x w a b (1:) f1 f2
     ·by_cases hj2:j' < sa+na+u
      ·obtain⟨r,r1,r2,er⟩:=mid j' w (1:) hj2 f2
       by_cases hr:r < sa+na
       ·exact s1 i' r x w a (1:) hr f1 er
       ·exact qy hx (yb r w (1:) (1:) er)
      ·rw[o1.keep j' (.inr (1:))]at f2;exact qy hx (yb j' w (1:) (by omega) f2)
    ·by_cases hi2:i' < sa+na+u
     ·by_cases hj2:j' < sa+na+u
      ·exact o1.srt i' j' x w (1:) b hj2 f1 f2
      ·rw[o1.keep j' (.inr (1:))]at f2;obtain⟨r,r1,r2,er⟩:=mid i' x (1:) hi2 f1
       by_cases hr:r < sa+na
       ·exact qy (za r x (1:) hr er) (ub' j' w (1:) (by omega) f2)
       ·exact s2 r j' x w (1:) (1:) (by omega) er f2
     ·rw[o1.keep i' (.inr (1:))]at f1;rw[o1.keep j' (.inr (1:))]at f2;exact s2 i' j' x w (1:) b (by omega) f1 f2
   by_cases hle:na - k<=u
   ·rw[if_pos hle];exact am (qkd L T hk1 post)
   ·rw[if_neg hle];exact am (qkh L T hk1 post)
end
section
variable{O:aU}{kf:af->O.α}{G:af->Prop}
def yr(O:aU)(kf:af->O.α)(xs:Array af):List Pd->Nat->Nat->Prop
 |[],a,b=>a=b
 | (s,n,_)::r,a,b=>s=a/\0 < n/\Srt O kf xs s (s+n)/\yr O kf xs r (s+n) b
theorem yr.le{xs:Array af}:∀{p:List Pd} {a b:Nat},yr O kf xs p a b->a+p.length<=b
 |[],a,b,h=>f7 h
 | (s,n,w)::r,a,b,h=>by
  obtain⟨rfl,h1,_,h2⟩:=h
  have:=yr.le h2
  simp
  lia
theorem yr.app{xs:Array af}:∀{p q:List Pd} {a c:Nat},yr O kf xs (p++q) a c↔∃b,yr O kf xs p a b/\yr O kf xs q b c
 |[],q,a,c=>{λh=>⟨a,rfl,h⟩,λ⟨b,h1,h2⟩=>by have h1:a=b:=h1;rw[h1];exact h2}
 | (s,n,w)::r,q,a,c=>by
  constructor
  ·rintro⟨h1,h2,h3,h4⟩;obtain⟨b,h5,h6⟩:=yr.app.mp h4;exact{b,⟨h1,h2,h3,h5⟩,h6}
  ·rintro⟨b,⟨h1,h2,h3,h5⟩,h6⟩;exact{h1,h2,h3,yr.app.mpr ⟨b,h5,h6⟩}
def Srt.congr{xs ys:Array af}{lo hi:Nat}(h:Srt O kf xs lo hi)(k:∀t,lo<=t->t < hi->ys[t]?=xs[t]?):Srt O kf ys lo hi:=λi j x y a b c e1 e2=>by rw[k i a (1:)]at e1;rw[k j (1:) c]at e2;exact h i j x y a b c e1 e2
theorem yr.congr{xs ys:Array af}:∀{p:List Pd} {a b:Nat},yr O kf xs p a b->(∀t,a<=t->t < b->ys[t]?=xs[t]?)->yr O kf ys p a b
 |[],a,b,h,_=>h
 | (s,n,w)::r,a,b,h,k=>by
  obtain⟨rfl,h1,h2,h3⟩:=h
  have:=yr.le h3
  exact{rfl,h1,h2.congr λt c d=>k t c (1:),yr.congr h3 λt c d=>k t (1:) d}
def qkn{p:Array Pd}{i:Nat}(h:i+1 < p.size):∃pre x y post,p.toList=pre++x::y::post/\pre.length=i/\p[i]?=some x/\p[i+1]?=some y:=by
 have h1:i < p.toList.length:=by rw[bp];lia
 have h2:i+1 < p.toList.length:=by rw[bp];lia
 refine{p.toList.take i,p.toList[i],p.toList[i+1],p.toList.drop (i+2),?_,by simp;lia,by simp[show i < p.size by lia],by simp[h]}
 conv=>lhs;rw[<-g8 i p.toList]
 rw[fD h1,fD h2]
def YF{p:Array Pd}{pre post:List Pd}{x y v:Pd}(e:p.toList=pre++x::y::post):((p.setIfInBounds pre.length v).eraseIdxIfInBounds (pre.length+1)).toList=pre++v::post:=by rw[Array.toList_eraseIdxIfInBounds,Array.toList_setIfInBounds,e];rw[me _ _ (az _),Nat.sub_self,List.set_cons_zero,List.eraseIdx_append_of_length_le (1:)];simp
structure Good(O:aU)(kf:af->O.α)(U:cc)(a0:Array af)(lo:Nat)(st:aj):Prop where
 kind:kindOf st=U
 ok:cM st=none
 perm:(ah st).Perm a0
 runs:yr O kf (ah st) (aM st).toList 0 lo
theorem yr.same{xs:Array af}:∀{p q:List Pd} {a b:Nat},p.map (λv=>(v.1,v.2.1))=q.map (λv=>(v.1,v.2.1))->yr O kf xs p a b->yr O kf xs q a b
 |[],[],_,_,_,h=>h
 | [],_::_,_,_,e,_=>by simp at e
 | _::_,[],_,_,e,_=>by simp at e
 | (s,n,w)::r,(s',n',w')::r',a,b,e,h=>by simp at e;obtain⟨⟨rfl,rfl⟩,e⟩:=e;obtain⟨h1,h2,h3,h4⟩:=h;exact{h1,h2,h3,yr.same (-e:) h4}
def Good.push{U:cc}{a0:Array af}{lo n:Nat}{st:aj}(g:Good O kf U a0 lo st)(hs:Srt O kf (ah st) lo (lo+n))(hn:1<=n):Good O kf U a0 (lo+n) (setPending st ((aM st).push (lo,n,0))):=
 ⟨g.kind,g.ok,g.perm,by show yr O kf (ah st) ((aM st).push (lo,n,0)).toList 0 (lo+n);rw[ky];exact yr.app.mpr ⟨lo,g.runs,rfl,hn,hs,rfl⟩⟩
def Good.pow{U:cc}{a0:Array af}{lo:Nat}{st:aj}(g:Good O kf U a0 lo st)(pw:Nat):Good O kf U a0 lo (setPending st ((aM st).modify ((aM st).size - 1) λx=>(x.1,x.2.1,pw))):=
 ⟨g.kind,g.ok,g.perm,by
  show yr O kf (ah st) ((aM st).modify ((aM st).size - 1) λx=>(x.1,x.2.1,pw)).toList 0 lo;refine yr.same ?_ g.runs;rw[Array.toList_modify];apply List.ext_getElem?;intro k;rw[bE,bE,List.getElem?_modify]
  cases (aM st).toList[k]? with
  |none=>simp
  |some v=>simp;split<;>exact⟨rfl,rfl⟩⟩
def Good.mem{U:cc}{a0:Array af}{lo:Nat}{st:aj}(g:Good O kf U a0 lo st)(h:∀x∈a0.toList,G x):∀x∈(ah st).toList,G x:=λx hx=>h x ((gk.mp g.perm).mem_iff.mp hx)
def Good.size{U:cc}{a0:Array af}{lo:Nat}{st:aj}(g:Good O kf U a0 lo st):(ah st).size=a0.size:=g.perm.size_eq
end
section
variable{M:cH}{A:aH}{E:PQ}{s:ag}{O:aU}{kf:af->O.α}{U:cc}{G:af->Prop}{a0:Array af}
def qdg(L:Jp M A E s O kf U G)(h0:∀x∈a0.toList,G x){st:aj}{lo i:Nat}{Q:Bool->aj->Prop}(g:Good O kf U a0 lo st)(hlo:lo<=a0.size)(hi:i+1 < (aM st).size)
  (h:∀st',Good O kf U a0 lo st'->(aM st').size+1=(aM st).size->(∀k,lo<=k->(ah st')[k]?=(ah st)[k]?)->Q true st'):wpS M A E s (mergeAt' i) Q st:=by
 obtain⟨pre,⟨sa,na,pw⟩,⟨sb,nb,pw2⟩,post,e,rfl,e1,e2⟩:=qkn hi;have hr:=g.runs;rw[e]at hr;obtain⟨b,r1,rfl,pa,s1,r2,pb,s2,r3⟩:=yr.app.mp hr;have l3:=yr.le r3;have hz:=g.size;refine qkm L g.kind g.ok (g.mem h0) e1 e2 r2 pa pb (1:) (by rw[r2];exact s1) (by rw[r2]at s2 ⊢;exact s2) λxs gl o=>h _ ⟨g.kind,g.ok,o.perm.trans g.perm,?_⟩ ?_ (λk hk=>o.keep k (.inr (1:)))
 ·show yr O kf xs _ 0 lo;show yr O kf xs (((aM st).setIfInBounds pre.length (sa,na+nb,pw)).eraseIdxIfInBounds (pre.length+1)).toList 0 lo;rw[YF e];subst r2;refine yr.app.mpr ⟨sa,r1.congr λt a b=>o.keep t (.inl b),rfl,by lia,?_,?_⟩
  ·have:=o.srt
   rwa[Nat.add_assoc]at this
  ·rw[<-Nat.add_assoc];exact r3.congr λt a b=>o.keep t (.inr a)
 ·show(((aM st).setIfInBounds pre.length (sa,na+nb,pw)).eraseIdxIfInBounds (pre.length+1)).size+1=(aM st).size;rw[<-bp,YF e,<-bp,e];simp
  lia
def qh5(L:Jp M A E s O kf U G)(h0:∀x∈a0.toList,G x){st:aj}{Q:Unit->aj->Prop}(hk:kindOf st=U)(hf:cM st=none)(ha:ah st=a0)(hp:aM st=#[])
  (h:∀st',(ah st').Perm a0->cM st'=none->Srt O kf (ah st') 0 a0.size->Q () st'):wpS M A E s sortRuns' Q st:=by
 rw[sortRuns'_eq];refine am (cQ ?_);dsimp only;rw[ha];have g0:Good O kf U a0 0 st:={hk,hf,by rw[ha],by rw[hp];rfl}
 refine am (ce (bY
  (I:=λx c st'=>∃lo,c=(none,lo)/\lo<=a0.size/\x<=lo/\Good O kf U a0 lo st')
  (Q:=λc st'=>c=(none,a0.size)/\Good O kf U a0 a0.size st') ?step ?fin ⟨0,rfl,bd _,bd _,g0⟩) ?post)
 case fin=>
  rintro c st' ⟨lo,rfl,h1,h2,g⟩
  have:lo=a0.size:=by lia
  subst this;exact⟨rfl,g⟩
 case step=>
  rintro x c st' _ hx ⟨lo,rfl,h1,h2,g⟩;dsimp only
  by_cases hge:lo≥a0.size
  ·rw[if_pos hge]
   have:lo=a0.size:=by lia
   subst this;exact ay ⟨rfl,g⟩
  ·rw[if_neg hge];have hz:=g.size;refine am (qny L g.kind (g.mem h0) (1:) (1:) λm xs r m1 m2 im=>?_);dsimp only;have g1:Good O kf U a0 lo (aY st' xs):={g.kind,g.ok,r.perm.trans g.perm,g.runs.congr λt _ b=>r.keep t b};have hz1:xs.size=a0.size:=r.size.trans hz
   by_cases hm:m < ee a0.size a0.size 0
   ·rw[if_pos hm];refine am (eF (dg ⟨rfl,?_⟩));refine am (qkk L (st:=aY st' xs) g.kind (g1.mem h0) (by show _<=xs.size;lia) (1:) im λys r2 im2=>?_);simp![fm,a7,if_false];have g2:Good O kf U a0 lo (aY (aY st' xs) ys):={g.kind,g.ok,r2.perm.trans g1.perm,g1.runs.congr λt _ b=>r2.keep t b};have s2:Srt O kf ys lo (lo+(min (a0.size - lo) (ee a0.size a0.size 0))):=im2.srt;have n1:1<=(min (a0.size - lo) (ee a0.size a0.size 0)):=by lia
    have n2:lo+(min (a0.size - lo) (ee a0.size a0.size 0))<=a0.size:=by lia
    refine am (cQ ?_)
    cases hb:(aM (aY (aY st' xs) ys)).back? with
    |none=>dsimp only;exact am (cP (ay ⟨lo+(min (a0.size - lo) (ee a0.size a0.size 0)),rfl,n2,by lia,g2.push s2 n1⟩))
    |some v=>
     obtain⟨v1,v2,v3⟩:=v;dsimp only
     refine am (ce (bY (I:=λ_ c st3=>c=(none,())/\Good O kf U a0 lo st3/\Srt O kf (ah st3) lo (lo+(min (a0.size - lo) (ee a0.size a0.size 0))))
      (Q:=λc st3=>c=(none,())/\Good O kf U a0 lo st3/\Srt O kf (ah st3) lo (lo+(min (a0.size - lo) (ee a0.size a0.size 0)))) ?_ (λ_ _ hh=>hh) ⟨rfl,g2,s2⟩) ?_)
     ·rintro y c st3 _ _ ⟨rfl,g3,s3⟩;refine am (cQ ?_)
      by_cases hp:(aM st3).size > 1
      ·rw[if_pos hp]
       cases hv:(aM st3)[(aM st3).size - 2]? with
       |none=>
        exfalso
        have:=mf.mp hv
        lia
       |some u=>
        obtain⟨u1,u2,u3⟩:=u;dsimp only
        by_cases ho:u3<=power' a0.size (2 * v1+v2) (2 * v1+v2+v2+(min (a0.size - lo) (ee a0.size a0.size 0))) a0.size
        ·rw[if_pos ho];exact ay ⟨rfl,g3,s3⟩
        ·rw[if_neg ho];refine am (qdg L h0 g3 h1 (1:) λst4 g4 _ k4=>?_);simp![fm,a7,if_false];exact ay ⟨rfl,g4,s3.congr λt a _=>k4 t a⟩
      ·rw[if_neg hp];exact ay ⟨rfl,g3,s3⟩
     ·rintro c st3 ⟨rfl,g3,s3⟩;dsimp only;exact am (cP (am (cP (ay ⟨lo+(min (a0.size - lo) (ee a0.size a0.size 0)),rfl,n2,by lia,(g3.pow _).push s3 n1⟩))))
   ·rw[if_neg hm];have g2:=g1;have s2:Srt O kf xs lo (lo+m):=im.srt;have n1:1<=m:=m1;have n2:lo+m<=a0.size:=by lia
    refine am (cQ ?_)
    cases hb:(aM (aY st' xs)).back? with
    |none=>dsimp only;exact am (cP (ay ⟨lo+m,rfl,n2,by lia,g2.push s2 n1⟩))
    |some v=>
     obtain⟨v1,v2,v3⟩:=v;dsimp only
     refine am (ce (bY (I:=λ_ c st3=>c=(none,())/\Good O kf U a0 lo st3/\Srt O kf (ah st3) lo (lo+m))
      (Q:=λc st3=>c=(none,())/\Good O kf U a0 lo st3/\Srt O kf (ah st3) lo (lo+m)) ?_ (λ_ _ hh=>hh) ⟨rfl,g2,s2⟩) ?_)
     ·rintro y c st3 _ _ ⟨rfl,g3,s3⟩;refine am (cQ ?_)
      by_cases hp:(aM st3).size > 1
      ·rw[if_pos hp]
       cases hv:(aM st3)[(aM st3).size - 2]? with
       |none=>
        exfalso
        have:=mf.mp hv
        lia
       |some u=>
        obtain⟨u1,u2,u3⟩:=u;dsimp only
        by_cases ho:u3<=power' a0.size (2 * v1+v2) (2 * v1+v2+v2+m) a0.size
        ·rw[if_pos ho];exact ay ⟨rfl,g3,s3⟩
        ·rw[if_neg ho];refine am (qdg L h0 g3 h1 (1:) λst4 g4 _ k4=>?_);simp![fm,a7,if_false];exact ay ⟨rfl,g4,s3.congr λt a _=>k4 t a⟩
      ·rw[if_neg hp];exact ay ⟨rfl,g3,s3⟩
     ·rintro c st3 ⟨rfl,g3,s3⟩;dsimp only;exact am (cP (am (cP (ay ⟨lo+m,rfl,n2,by lia,(g3.pow _).push s3 n1⟩))))
 case post=>
  rintro c st1 ⟨rfl,g1⟩;dsimp only
  refine am (ce (bY (I:=λx c st2=>c=(none,())/\Good O kf U a0 a0.size st2/\((aM st2).size<=1\/(aM st2).size+x<=a0.size))
   (Q:=λc st2=>c=(none,())/\Good O kf U a0 a0.size st2/\(aM st2).size<=1) ?_ ?_ ⟨rfl,g1,.inr ?_⟩) ?_)
  ·rintro x c st2 _ hx ⟨rfl,g2,hz⟩;refine am (cQ ?_)
   by_cases hp:(aM st2).size<=1
   ·rw[if_pos hp];exact ay ⟨rfl,g2,hp⟩
   ·rw[if_neg hp]
    have go:∀i,i+1 < (aM st2).size->wpS M A E s (mergeAt' i) (λr st3=>r=true/\Good O kf U a0 a0.size st3/\(aM st3).size+(x+1)<=a0.size) st2:=λi hi=>qdg L h0 g2 (az _) hi λst3 g3 e3 _=>{rfl,g3,by lia}
    refine am (ce (go _ ?_) λr st3 hr=>?_)
    ·have hite:∀(c:Prop) [Decidable c],(if c then (aM st2).size - 2 - 1 else (aM st2).size - 2)+1 < (aM st2).size:=λc _=>by split<;>lia
     exact hite _
    ·obtain⟨rfl,g3,e3⟩:=hr;simp![fm,a7,if_false];exact ay ⟨rfl,g3,.inr e3⟩
  ·rintro c st2 ⟨rfl,g2,hz⟩;exact{rfl,g2,by lia}
  ·have:=yr.le g1.runs
   rw[bp]at this
   lia
  ·rintro c st2 ⟨rfl,g2,hz⟩;dsimp only;refine ay (h st2 g2.perm g2.ok ?_);have hr:=g2.runs;have hl:(aM st2).toList.length<=1:=by rw[bp];exact hz
   match hq:(aM st2).toList,hl,hr with
   |[],_,hr=>
    have hr:0=a0.size:=hr;intro i j x y _ _ hj
    lia
   |[(u1,u2,u3)],_,hr=>obtain⟨rfl,_,sr,e⟩:=hr;have e:0+u2=a0.size:=e;rw[<-e];exact sr
end
section
variable{prog:aE}{w:aB}{A:aH}{E:PQ}{s:ag}{O:aU}{kf:af->O.α}{U:cc}
def qdh(s s1:ag):Prop:=∀b o,s.heap.get? b=some o->s1.heap.get? b=some o
structure Sorts(prog:aE)(w:aB)(s:ag)(vs:List aa)(O:aU)(kf:af->O.α)(U:cc):Prop where
 kind:2<=vs.length->∀(A:aH) (E:PQ) (s1:ag) (Q:cc->ag->Prop),qdh s s1->Q U s1->ak (al prog w) A (keyKind' vs.toArray) Q E s1
 lt:∀(A:aH) (E:PQ) (s1:ag),qdh s s1->Jp (al prog w) A E s1 O kf U (λx=>x∈(bM vs).toList)
def qdi{s0:ag}{a:ad}{vs:List aa}{n:Nat}{P:PySem.Fin->ag->Prop}(S:Sorts prog w s0 vs O kf U)(ho:s.heap.get? a=some (bZ "list" vs.toArray n))(hsz:vs.length<=sizeLine)
  (hg:∀b o,s0.heap.get? b=some o->s.heap.get? b=some o/\b≠a)
  (h:∀st':aj,(ah st').Perm (bM vs)->Srt O kf (ah st') 0 (bM vs).size->P (.done (.ret .none)) { s with heap:=iA s.heap a vs ((ah st').map (·.2)) }) :
  ak (al prog w) A (Builtin.«list.sort» ⟨[.ref a],[]⟩) P E s:=by
 rw[list_sort_plain];have ha:a < s.heap.objs.size:=aN ho;have hv:vs.toArray.size=vs.length:=by simp
 refine ai (listItems_at ho rfl (ai (lq ho rfl ?_ (by rw[hv];exact hsz) (bd _))));obtain⟨n1,ho1⟩:∃n1,(s.heap.update a (cg λ_=>#[])).get? a=some (bZ "list" #[] n1):={_,get?_update_seq ho (λ_=>#[])};refine ai (seqEpoch_at ho1 rfl (ai (wpAny_newTuple ?_ (-hsz:))));refine ai (lr (cK ?_) (bd _));generalize hh:(((s.heap.update a (cg λ_=>#[])).push (bZ "tuple" vs.toArray 0)).push (bZ "list" #[] 0))=h6
 have ho6:h6.get? a=some (bZ "list" #[] n1):=by rw[<-hh];exact aP _ (aP _ ho1)
 have grown:qdh s0 { s with heap:=h6 }:=λb o e=>by obtain⟨e1,ne⟩:=hg b o e;show h6.get? b=some o;rw[<-hh];exact aP _ (aP _ (by rw[Heap.get?_update_ne _ _ _ _ ne];exact e1))
 have fin:∀st':aj,(ah st').Perm (bM vs)->Srt O kf (ah st') 0 (bM vs).size->P (.done (.ret .none)) { s with heap:=h6.update a (cg λ_=>(ah st').map (·.2)) }:=λst' a1 a2=>by
  have:=h st' a1 a2
  unfold iA at this;rw[hh]at this;exact this
 have small:∀st':aj,(ah st').Perm (bM vs)->((ah st').map (·.2)).size<=sizeLine+1:=λst' hp=>by
  rw[Array.size_map,hp.size_eq,pairsOf_size]
  lia
 show ak (al prog w) A _ P E { s with heap:=h6 };dsimp only
 by_cases h2:vs.toArray.size < 2
 ·rw[if_pos h2,if_pos h2];refine ai (ax ?_);rw[StateT.run_pure];refine ai (ax ?_);dsimp only;refine ai (seqEpoch_at ho6 rfl ?_);refine ai (lq ho6 rfl ?_ (bd _) (small (eP general' (vs.toArray.zip vs.toArray) #[] 7 none) (Array.Perm.refl _)));simp![bne_self_eq_false,a7,if_false];refine ax (fin (eP general' (vs.toArray.zip vs.toArray) #[] 7 none) (Array.Perm.refl _) ?_);intro i j x y _ b c d e
  have:i=j:=by rw[pairsOf_size]at c;lia
  subst this;rw[d]at e;cases e;exact dt _
 ·rw[if_neg h2,if_neg h2];refine ai (S.kind (1:) A E _ _ grown ?_)
  refine ai (dY (qh5 (S.lt A E _ grown) (a0:=bM vs) (st:=eP U (vs.toArray.zip vs.toArray) #[] 7 none) (λx hx=>hx) rfl rfl rfl rfl
   (Q:=λ_ st'=>(ah st').Perm (bM vs)/\cM st'=none/\Srt O kf (ah st') 0 (bM vs).size) λst' a1 a2 a3=>⟨a1,a2,a3⟩) ?_ λ_ _ e=>e)
  rintro⟨⟨⟩,st'⟩ s' ⟨rfl,hp,hf,hs⟩;dsimp only;refine ai (seqEpoch_at ho6 rfl (ai (lq ho6 rfl ?_ (bd _) (small st' hp))));rw[hf];simp![bne_self_eq_false,a7,if_false];exact ax (fin st' hp hs)
def qce{l:ad}{vs:List aa}{Q:PQ}(S:Sorts prog w s vs O kf U)(hl:s.heap.IsList l vs.toArray)(hsz:vs.length<=sizeLine)
  (h:∀st':aj,(ah st').Perm (bM vs)->Srt O kf (ah st') 0 (bM vs).size->Q (.ref (s.heap.objs.size+1)) { s with heap:=sortedAll s.heap vs ((ah st').map (·.2)) }) :
  ak (al prog w) A (call (.builtin "sorted") [.ref l]) Q E s:=by
 refine mh kind_sorted plain_sorted entry_sorted (args_sorted1 _) ?_;unfold Builtin.«sorted»;refine ai (m:=checkCount "sorted" 1 1 _) (ax (ai (collect_list hl ?_ hsz)));refine ai (lr ?_ hsz);have hz:((s.heap.push (bZ "list" #[] 0)).update s.heap.objs.size (cg (· ++ vs.toArray))).objs.size=s.heap.objs.size+1:=by rw[Heap.size_update,size_push']
 show ak _ _ _ _ _ { s with heap:=((s.heap.push (bZ "list" #[] 0)).update s.heap.objs.size (cg (· ++ vs.toArray))).push (bZ "list" vs.toArray 0) };rw[hz];generalize hh:((s.heap.push (bZ "list" #[] 0)).update s.heap.objs.size (cg (· ++ vs.toArray))).push (bZ "list" vs.toArray 0)=h6
 have hoL:h6.get? (s.heap.objs.size+1)=some (bZ "list" vs.toArray 0):=by rw[<-hh,<-hz];exact bg _ rfl
 have old:∀b o,s.heap.get? b=some o->h6.get? b=some o/\b≠s.heap.objs.size+1:=λb o e=>by have hlt:b < s.heap.objs.size:=aN e;refine{?_,aZ (kC hlt)};rw[<-hh];refine aP _ ?_;rw[Heap.get?_update_ne _ _ _ _ (aZ hlt)];exact aP _ e
 have hr:∀st':aj,(ah st').Perm (bM vs)->Srt O kf (ah st') 0 (bM vs).size->Q (.ref (s.heap.objs.size+1)) { s with heap:=iA h6 (s.heap.objs.size+1) vs ((ah st').map (·.2)) }:=λst' a1 a2=>by
  have:=h st' a1 a2
  unfold sortedAll at this;rw[hh]at this;exact this
 refine ai (cK (eG slot_list_sort ⟨_,hoL,rfl⟩ entry_list_sort (qdi S hoL hsz old λst' a1 a2=>{_,rfl,?_}) (args_list_sort _)));exact ax ⟨_,rfl,hr st' a1 a2⟩
end
def pO:aU where
 α:=Int×Int
 blt p q:=decide (p.1 < q.1)||(decide (p.1=q.1)&&decide (p.2 < q.2))
 irrefl a:=by simp
 trans a b c h1 h2:=by
  simp at h1 h2 ⊢
  lia
 negTrans a b c h:=by
  simp at h ⊢
  lia
 total a b h1 h2:=by
  obtain⟨a1,a2⟩:=a;obtain⟨b1,b2⟩:=b;simp at h1 h2;have e1:a1=b1:=by lia
  subst e1;have e2:a2=b2:=by lia
  rw[e2]
def nOf:aa->Int
 |.int n _=>n
 |_=>0
def j8(h:au)(v:aa):Int×Int:=match v with
 |.ref a=>match h.get? a with
  |some o=>match o.data with
   |.seq xs _=>(nOf (xs.getD 0 .none),nOf (xs.getD 1 .none))
   |_=>(0,0)
  |none=>(0,0)
 |_=>(0,0)
def qbc(h:au)(v:aa)(p:Int×Int):Prop:=∃a t u,v=.ref a/\IsTup h a #[.int p.1 t,.int p.2 u]
def qbc.pair{h:au}{v:aa}{p:Int×Int}(e:qbc h v p):j8 h v=p:=by obtain⟨a,t,u,rfl,o,ho,hc,n,hd⟩:=e;unfold j8;simp![ho,hd];rfl
def qbc.grow{s s1:ag}{v:aa}{p:Int×Int}(e:qbc s.heap v p)(g:qdh s s1):qbc s1.heap v p:=by obtain⟨a,t,u,rfl,o,ho,hc,n,hd⟩:=e;exact{a,t,u,rfl,o,g a o ho,hc,n,hd}
section
variable{prog:aE}{w:aB}{A:aH}{E:PQ}{s:ag}
def qko{x y:aa}{p q:Int×Int}{Q:Bool->ag->Prop}(hx:qbc s.heap x p)(hy:qbc s.heap y q)(h:Q (pO.blt p q) s):ak (al prog w) A (keyLt' (tuples' true) x y) Q E s:=by
 obtain⟨a,t,u,rfl,o,ho,hc,n,hd⟩:=hx;obtain⟨b,t',u',rfl,o',ho',hc',n',hd'⟩:=hy;refine PySem.W.kat_lt ho hd ho' hd' ?_;show PySem.W.KatLex prog w A true _ Q [(.int p.1 t,.int q.1 t'),(.int p.2 u,.int q.2 u')] 0 s;refine PySem.W.kat_cons (k6 ?_)
 by_cases e1:p.1=q.1
 ·rw[show(p.1 == q.1)=true by simpa using e1];refine PySem.W.kat_yes (PySem.W.kat_cons (k6 ?_))
  by_cases e2:p.2=q.2
  ·rw[show(p.2 == q.2)=true by simpa using e2];refine PySem.W.kat_yes (PySem.W.kat_nil ?_)
   have:pO.blt p q=false:=by unfold pO;simp[e1,e2]
   rw[this]at h;exact h
  ·rw[show(p.2 == q.2)=false by simpa using e2];refine PySem.W.kat_no (PySem.W.kat_one _ _ (lt_int ?_))
   have:pO.blt p q=decide (p.2 < q.2):=by unfold pO;simp[e1]
   rw[this]at h;exact h
 ·rw[show(p.1 == q.1)=false by simpa using e1];refine PySem.W.kat_no ?_
  have:pO.blt p q=decide (p.1 < q.1):=by unfold pO;simp[e1]
  rw[this]at h;exact oneLt_int h
theorem qh6{vs:List aa}{ps:List (Int×Int)}(h:bb (qbc s.heap) vs ps):∃fs,PySem.W.KatTups s.heap vs fs/\fs.length=vs.length/\∀v∈fs,∃n t,v=Value.int n t:=by
 induction h with
 |nil=>exact{[],trivial,rfl,λ_ h=>by cases h}
 |cons r rs ih=>
  obtain⟨a,t,u,rfl,o,ho,hc,n,hd⟩:=r;obtain⟨fs,h1,h2,h3⟩:=ih;refine{_::fs,PySem.W.KatTups.cons ho hc hd rfl h1,by simp[h2],λv hv=>?_};rcases aF.mp hv with rfl|hv
  ·exact{_,_,rfl}
  ·exact h3 v hv
def yv{vs:List aa}{x:af}(h:x∈(bM vs).toList):x.1=x.2/\x.1∈vs:=by rw[lu]at h;exact gL h
theorem Paired.at_mem{α M:Type}{R:α->M->Prop}{l:List α}{m:List M}(h:bb R l m):∀a∈l,∃b∈m,R a b:=by
 induction h with
 |nil=>intro a h;cases h
 |cons r rs ih=>
  intro a h;rcases aF.mp h with rfl|h
  ·exact{_,b5,r}
  ·obtain⟨b,hb,q⟩:=ih a h;exact{b,bI _ hb,q}
theorem Paired.grow2{s s1:ag}(g:qdh s s1):∀{vs:List aa} {ps:List (Int×Int)},bb (qbc s.heap) vs ps->bb (qbc s1.heap) vs ps
 |_,_,.nil=>.nil
 |_,_,.cons r rs=>.cons (r.grow g) (Paired.grow2 g rs)
def qdj{vs:List aa}{ps:List (Int×Int)}(h:bb (qbc s.heap) vs ps):Sorts prog w s vs pO (λx=>j8 s.heap x.1) (tuples' true) where
 kind:=λh2 A E s1 Q g q=>by obtain⟨fs,t1,t2,t3⟩:=qh6 (Paired.grow2 g h);refine PySem.W.kat_kind t1 (1:) (T:=dk "int") (λv hv=>?_) rfl q;obtain⟨n,t,rfl⟩:=t3 v hv;exact .now
 lt:=λA E s1 g x y hx hy st Q hk q=>by obtain⟨p,_,hp⟩:=Paired.at_mem h _ (yv hx).2;obtain⟨p',_,hp'⟩:=Paired.at_mem h _ (yv hy).2;have q:Q (some (pO.blt (j8 s.heap x.1) (j8 s.heap y.1))) st:=q;rw[hp.pair,hp'.pair]at q;rw[lt'_eq];refine am (cQ ?_);rw[hk];refine am (eF (fV (qko (hp.grow g) (hp'.grow g) ⟨rfl,?_⟩)));exact ay q
end
theorem Paired.perm{α M:Type}{R:α->M->Prop}{us us':List M}(p:us'.Perm us):∀{xs:List α},bb R xs us->∃xs',xs'.Perm xs/\bb R xs' us':=by
 induction p with
 |nil=>exactλ{xs} h=>{xs,List.Perm.refl _,h}
 |cons x _ ih=>
  intro xs h
  cases h with
  |cons r rs=>obtain⟨xs',h1,h2⟩:=ih rs;exact{_::xs',h1.cons _,.cons r h2}
 |swap x y l=>
  intro xs h
  cases h with
  |cons r rs=>
   cases rs with
   | cons r' rs=>exact{_::_::_,List.Perm.swap ..,.cons r' (.cons r rs)}
 |trans _ _ ih1 ih2=>intro xs h;obtain⟨x1,h1,h2⟩:=ih2 h;obtain⟨x2,h3,h4⟩:=ih1 h2;exact{x2,h3.trans h1,h4}
end TS
namespace L2
open PySem PySem.Spec PyProof.Rows
def P2(K:Frag)(H:Hp)(v:V)(p:Int×Int):Prop:=∃a,v=.ref a/\H a=some (.tup [.int p.1,.int p.2])
def qdk(p q:Int×Int):Prop:=p.1 < q.1\/(p.1=q.1/\p.2<=q.2)
section
variable{X:Cx}
def P2.raw{pins:PP}{Z:St}{H:Hp}{s:ag}{v:V}{u:aa}{p:Int×Int}(I:Inv X pins Z H s)(h:P2 X.K H v p)(r:qK v u):TS.qbc s.heap u p:=by obtain⟨a,rfl,hq⟩:=h;obtain rfl:u=bm a:=r;obtain⟨its,rv,pl,_⟩:=I.tuple (SqT.of hq);obtain⟨u1,u2,rfl,⟨t1,rfl⟩,⟨t2,rfl⟩⟩:=Q8 rv;exact⟨a,t1,t2,rfl,pl⟩
def Zp:qO X (.builtin "sorted") (λvs H Q=>∃p xs ps,vs=[.ref p]/\SqL X.K H p xs/\bb (P2 X.K H) xs ps/\
  ∀l ys qs,H l=none->bb (P2 X.K H) ys qs->ys.Perm xs->qs.Perm ps->qs.Pairwise qdk->Q (.ref l) (upd H l (.lst ys))):=by
 intro pins s Z H xs us Q I r h;obtain⟨p,xs,ps,rfl,hq,hp,q⟩:=h;obtain⟨u,rfl,rx⟩:=yt r;cases rx;obtain⟨its,rv,pl,hz⟩:=I.list hq;have hlen:=rv.length
 have three:∀{xs:List V} {its:List aa} {ps:List (Int×Int)},qu xs its->bb (P2 X.K H) xs ps->bb (λ(z:V×(Int×Int)) u=>qK z.1 u/\P2 X.K H z.1 z.2/\TS.qbc s.heap u z.2) (xs.zip ps) its/\bb (TS.qbc s.heap) its ps/\xs.length=ps.length:=by
  intro xs its ps a b
  induction a generalizing ps with
  |nil=>cases b;exact{.nil,.nil,rfl}
  |cons r rs ih=>
   cases b with
   |cons b bs=>obtain⟨i1,i2,i3⟩:=ih bs;have t:=P2.raw I b r;exact{.cons ⟨r,b,t⟩ i1,.cons t i2,by simp[i3]}
 obtain⟨t1,t2,t3⟩:=three rv hp;refine TS.qce (TS.qdj t2) pl.isList (1:) λst' pm sr=>?_
 have hl:(ah st').toList.Perm (its.zip its):=by
  have:=gk.mp pm
  rwa[lu]at this
 have hout:((ah st').map (·.2)).toList.Perm its:=by
  rw[hV]
  have:=hl.map (·.2)
  rwa[kD (az _)]at this
 obtain⟨zs,z1,z2⟩:=TS.Paired.perm hout t1
 have hys:(zs.map (·.1)).Perm xs:=by
  have:=z1.map (·.1)
  rwa[List.map_fst_zip (1:)]at this
 have hqs:(zs.map (·.2)).Perm ps:=by
  have:=z1.map (·.2)
  rwa[kD (1:)]at this
 have hv:qu (zs.map (·.1)) ((ah st').map (·.2)).toList:=by
  clear z1 hys hqs;generalize ((ah st').map (·.2)).toList=ol at z2
  induction z2 with
  |nil=>exact .nil
  |cons r _ ih=>exact .cons r.1 ih
 have hP:bb (P2 X.K H) (zs.map (·.1)) (zs.map (·.2)):=by
  clear z1 hys hqs hv;generalize ((ah st').map (·.2)).toList=ol at z2
  induction z2 with
  |nil=>exact .nil
  |cons r _ ih=>exact .cons r.2.1 ih
 have hkeys:((ah st').map (·.2)).toList.map (TS.j8 s.heap)=zs.map (·.2):=by
  clear z1 hys hqs hv hP;generalize ((ah st').map (·.2)).toList=ol at z2
  induction z2 with
  |nil=>rfl
  |cons r _ ih=>rw[av,av,ih,r.2.2.pair]
 have hsrt:(zs.map (·.2)).Pairwise qdk:=by
  rw[<-hkeys,hV,hZ];have h0:(ah st').size=(bM its).size:=pm.size_eq;rw[<-h0]at sr
  have:=sr.pw
  refine ie.mpr ?_;refine iX (λ{a b} ha hb hab=>?_) this;have ea:=(gL (hl.mem_iff.mp ha)).1;have eb:=(gL (hl.mem_iff.mp hb)).1;have hab:TS.pO.blt (TS.j8 s.heap b.1) (TS.j8 s.heap a.1)=false:=hab;rw[ea,eb]at hab;unfold TS.pO at hab;simp at hab;show qdk (TS.j8 s.heap a.2) (TS.j8 s.heap b.2);unfold qdk
  lia
 obtain⟨e,he⟩:=sortedAll_at s.heap its ((ah st').map (·.2));have hz2:(zs.map (·.1)).length<=sizeLine:=by rw[hys.length_eq];exact hz
 refine{.ref (s.heap.objs.size+1),_,I.laid (t':=s.toks) (λb o eb=>sortedAll_old eb) (fh _) (show qH X.prog X.w _ _ _ (.lst (zs.map (·.1))) from{hz2,_,e,hv,?_}),rfl,q _ _ _ (I.hok.fresh (fh _)) hP hys hqs hsrt};rw[kE];exact he
end
def zq(env:Env)(ns:List (Str×ci))(acc:List (Str×ad)):List (Str×ad):=ns.foldl (λcs x=>if x.2 == .free then (x.1,(env.cells.lookup x.1).getD 0)::cs else cs) acc
theorem qgL{env:Env}:∀(ns:List (Str×ci)) (acc:List (Str×ad)),(∀x∈ns,x.2=.free->∃c,env.cells.lookup x.1=some c)->
  (forIn ns acc λ(x:Str×ci) (cs:List (Str×ad))=>(match x with |(name,kind)=>if kind == .free then (do let c<-cellOf env name;pure (gm ((name,c)::cs)):Sem (ForInStep (List (Str×ad)))) else pure (gm cs)))=(pure (zq env ns acc):Sem (List (Str×ad)))
 |[],acc,_=>by rw[List.forIn_nil];rfl
 | (n,k)::r,acc,h=>by
  rw[List.forIn_cons];have hr:=qgL (env:=env) r
  by_cases hk:k=.free
  ·subst hk;obtain⟨c,hc⟩:=h (n,.free) b5 rfl;have e1:cellOf env n=pure c:=by unfold cellOf;rw[hc]
   simp![beq_self_eq_true,if_true,e1,pure_bind];rw[hr _ λx hx=>h x (bI _ hx)];unfold zq;simp[hc]
  ·have hb:(k == b6)=false:=(-hk:)
   simp![hb,a7,if_false,pure_bind];rw[hr _ λx hx=>h x (bI _ hx)];unfold zq;rw[List.foldl_cons];simp![hb,a7,if_false]
def qgM{env:Env}{scope:bi}(h:∀x∈scope.names,x.2=.free->∃c,env.cells.lookup x.1=some c):closureFor scope env=pure (zq env scope.names []):=by
 unfold closureFor
 have:=qgL scope.names [] h
 simp![bind_pure_comp]at this;simp![bind_pure_comp,id_map',this];rfl
theorem qdl{env:Env}:∀(ns:List (Str×ci)) (acc:List (Str×ad)),(∀x∈ns,x.2=.free->∃c,env.cells.lookup x.1=some c)->(∀x c,acc.lookup x=some c->env.cells.lookup x=some c)->
  ∀x c,(zq env ns acc).lookup x=some c->env.cells.lookup x=some c
 |[],_,_,h=>h
 | (n,k)::r,acc,hf,h=>by
  have ih:=qdl (env:=env) r (if k == .free then (n,(env.cells.lookup n).getD 0)::acc else acc) (λx hx=>hf x (bI _ hx)) (λx c e=>by
   by_cases hk:k=.free
   ·subst hk;simp![beq_self_eq_true,if_true]at e;obtain⟨c',hc⟩:=hf (n,.free) b5 rfl;rw[bh]at e
    by_cases hx:x=n
    ·subst hx;simp[hc]at e;rw[hc,e]
    ·rw[show(x == n)=false by simpa using hx]at e;exact h x c e
   ·rw[show(k == b6)=false by simpa using hk]at e;exact h x c e)
  exact ih
def yw{env:Env}{ns:List (Str×ci)}(h:∀x∈ns,x.2=.free->∃c,env.cells.lookup x.1=some c):∀x c,(zq env ns []).lookup x=some c->env.cells.lookup x=some c:=qdl ns [] h λ_ _ e=>by cases e
theorem Qb{env:Env}:∀(ns:List (Str×ci)) (acc:List (Str×ad)) (x:Str) (c:ad),acc.lookup x=some c->∃c,(zq env ns acc).lookup x=some c
 |[],_,_,c,h=>⟨c,h⟩
 | (n,k)::r,acc,x,c,h=>by
  show∃c,(zq env r (if k == .free then (n,(env.cells.lookup n).getD 0)::acc else acc)).lookup x=some c
  by_cases hk:k=.free
  ·subst hk;simp![beq_self_eq_true,if_true]
   by_cases hx:x=n
   ·subst hx;exact Qb r _ x ((env.cells.lookup x).getD 0) (by rw[bh];simp)
   ·exact Qb r _ x c (by rw[bh,show(x == n)=false by simpa using hx];exact h)
  ·rw[show(k == b6)=false by simpa using hk];exact Qb r _ x c h
theorem qaw{env:Env}:∀(ns:List (Str×ci)) (acc:List (Str×ad)) (x:Str),(x,b6)∈ns->∃c,(zq env ns acc).lookup x=some c
 | (n,k)::r,acc,x,h=>by
  show∃c,(zq env r (if k == .free then (n,(env.cells.lookup n).getD 0)::acc else acc)).lookup x=some c;rcases aF.mp h with e|h
  ·injection e with e1 e2;subst e1 e2;simp![beq_self_eq_true,if_true];exact Qb r _ x ((env.cells.lookup x).getD 0) (by rw[bh];simp)
  ·exact qaw r _ x h
theorem Jy{env:Env}:∀{names:List (Str×ci)} {x:Str},names.lookup x=some .free->
  (names.map λ(n,k)=>if (k == b6&&env.scope.kind == .function&&env.kindOf n == some .cell) then (n,fE) else (n,k)).lookup x=some .cell\/
  (names.map λ(n,k)=>if (k == b6&&env.scope.kind == .function&&env.kindOf n == some .cell) then (n,fE) else (n,k)).lookup x=some .free
 |[],_,h=>by simp at h
 | (n,k)::r,x,h=>by
  simp![av]
  by_cases hx:x=n
  ·subst hx;simp[bh]at h;subst h
   by_cases hc:(b6 == b6&&env.scope.kind == .function&&env.kindOf x == some .cell)=true
   ·rw[if_pos hc];left;simp[bh]
   ·rw[if_neg hc];right;simp[bh]
  ·have hb:(x == n)=false:=(-hx:)
   rw[bh,hb]at h;have ih:=Jy (env:=env) h
   by_cases hc:(k == b6&&env.scope.kind == .function&&env.kindOf n == some .cell)=true
   ·rw[if_pos hc];simp![bh,hb];exact ih
   ·rw[if_neg hc];simp![bh,hb];exact ih
theorem qdm{env:Env}:∀{names:List (Str×ci)} {x:Str} {k':ci},(names.map λ(n,k)=>if (k == b6&&env.scope.kind == .function&&env.kindOf n == some .cell) then (n,fE) else (n,k)).lookup x=some k'->
  k'=.cell\/k'=.free->(x,b6)∈names\/(x,fE)∈names
 |[],_,_,h,_=>by simp at h
 | (n,k)::r,x,k',h,hk=>by
  simp![av]at h
  by_cases hx:x=n
  ·subst hx
   by_cases hc:(k == b6&&env.scope.kind == .function&&env.kindOf x == some .cell)=true
   ·have:k=.free:=by simp at hc;exact hc.1.1
    subst this;exact .inl b5
   ·rw[if_neg hc]at h;simp[bh]at h;subst h;rcases hk with rfl|rfl
    ·exact .inr b5
    ·exact .inl b5
  ·have hb:(x == n)=false:=(-hx:)
   have ih:=qdm (env:=env) (names:=r) (x:=x) (k':=k') (by
    by_cases hc:(k == b6&&env.scope.kind == .function&&env.kindOf n == some .cell)=true
    ·rw[if_pos hc]at h;simp![bh,hb]at h;exact h
    ·rw[if_neg hc]at h;simp![bh,hb]at h;exact h) hk
   exact ih.imp (bI _) (bI _)
def blk(X:Cx)(N:List Str)(scope:bi)(cl:List (Str×ad))(C:ad)(fp:List ad)(s2:ag)(H2:Hp):Cx:=
 { X with N:=N,s₀:=s2,Hv:=H2,env:=compEnvC scope cl C X.env,outer:=X.stack,stack:=X.stack,ex:=fp,fn:=λ_=>false,pn:=[],xe:=λ_ _=>False }
structure BlkScope(X:Cx)(own:List Str)(fr:List Nat)(scope:bi):Prop where
 kind:scope.kind=.function
 nocell:∀x∈scope.names,x.2≠.cell
 names:∀x∈scope.names,x.2=.local->scope.names.lookup x.1=some .local
 free:∀x∈scope.names,x.2=.free->X.env.kindOf x.1=some .cell\/X.env.kindOf x.1=some .free
 look:∀i∈fr,scope.names.lookup (X.N.getD i "")=some .free
def Jc(X:Cx)(own:List Str)(fr:List Nat):List Str:=own++fr.map λi=>X.N.getD i ""
def Yv(own:List Str)(fr:List Nat)(Z:St):St:=(own.map λ_=>none)++fr.map λi=>(Z[i]?).join
section
variable{X:Cx}{pins:PP}{Z:St}{H:Hp}{s:ag}{own:List Str}{fr:List Nat}{scope:bi}
abbrev qcF(its:List aa)(n:Nat):Obj:={ cls:=.type "list",data:=.seq its.toArray n }
def qkp{C:ad}{fp:List ad}(B:BlkScope X own fr scope)(I:Inv X pins Z H s)(hf:∀b∈fp,qb2 X pins H b)(hfo:∀b∈fp,b < s.heap.objs.size)(hC:s.heap.objs.size<=C) :
  (blk X (Jc X own fr) scope (zq X.env scope.names []) C fp s H).Ok where
 mod:=I.ok.mod
 kind:=B.kind
 glob:=I.ok.glob
 blt:=I.ok.blt
 above:=hC
 inj:=λx y c h1 h2=>I.ok.inj x y c (yw (λz hz e=>I.ok.has _ (B.free z hz e)) x c h1) (yw (λz hz e=>I.ok.has _ (B.free z hz e)) y c h2)
 has:=λx h=>by
  have h':(x,b6)∈scope.names\/(x,fE)∈scope.names:=by
   rcases h with h|h
   ·exact qdm (env:=X.env) h (.inl rfl)
   ·exact qdm (env:=X.env) h (.inr rfl)
  rcases h' with h'|h'
  ·exact qaw _ _ _ h'
  ·exact absurd rfl (B.nocell _ h')
 cab:=λx c h=>nomatch h
 hd:=I.ok.hd
 frames:=I.ok.frames
 stk:=.inl rfl
 exf:=λb hb=>{aZ (bn (hfo b hb) hC),λx c e=>(hf b hb).2.2.2.2.1 x c (yw (λz hz e=>I.ok.has _ (B.free z hz e)) x c e)}
 bs:=I.bs
 bsz:=bz I.ok.bsz I.sz
 noex:=λb o e hb=>by
  rcases (hf b hb).2.2.2.1 with z|z
  ·exact I.ok.noex b o e z
  ·exact absurd (bn (aN (I.ok.bs b o e).1) z) (ej _)
 exfs:=λb hb z=>by
  rcases aF.mp (I.stkSub b z) with e|e
  ·exact(hf b hb).2.1 e
  ·exact(hf b hb).2.2.1 e
 funs:=I.stack
 frf:=I.stkFree
def qdn{C D:ad}{fp:List ad}{h4:au}{tk:Nat}{n:Nat}(B:BlkScope X own fr scope)(I:Inv X pins Z H s)(hf:∀b∈fp,qb2 X pins H b)(hfo:∀b∈fp,b < s.heap.objs.size)(hC:s.heap.objs.size<=C)(hD:s.heap.objs.size<=D)(hDC:D≠C)
  (k:∀b o,s.heap.get? b=some o->h4.get? b=some o) (hn:h4.Ns C λ_=>none) (hl:h4.get? D=some (qcF [] n)) :
  Inv (blk X (Jc X own fr) scope (zq X.env scope.names []) C fp s H) [(D,qcF [] n)] (Yv own fr Z) H { s with heap:=h4,toks:=tk }:=by
 have sub:=yw (env:=X.env) (ns:=scope.names) (λz hz e=>I.ok.has _ (B.free z hz e));refine{qkp B I hf hfo hC,rfl,I.bare,Un.kept k,{_,hn,λi x v h1 h2 h3=>?_},λx c e=>?_,I.hok.fresh hC,λx c e=>I.freeC x c (sub x c e),λp hp=>?_,I.hok.kept k,?_}
 ·have h1:(Jc X own fr)[i]?=some x:=h1;unfold Jc at h1;unfold Yv at h2
  by_cases hi:i < own.length
  ·rw[dm (-hi:),bE]at h2
   cases q:own[i]? with
   |none=>rw[q]at h2;cases h2
   |some a=>rw[q]at h2;cases h2
  ·rw[cZ (-hi:),bE]at h2;rw[cZ (-hi:),bE]at h1;rw[aD]at h2
   cases q:fr[i - own.length]? with
   |none=>rw[q]at h2;cases h2
   |some j=>
    rw[q]at h1 h2;have h1:X.N.getD j "" = x:=Option.some.inj h1;have h2:(Z[j]?).join=some v:=Option.some.inj h2
    have h2':Z[j]?=some (some v):=by
     cases w:Z[j]? with
     |none=>rw[w]at h2;cases h2
     |some y=>rw[w]at h2;cases y with
      |none=>cases h2
      |some y=>cases h2;rfl
    have hjl:j < X.N.length:=by rw[<-I.len];exact(bJ.mp h2').1
    have hN:X.N[j]?=some x:=by rw[<-h1,bK hjl];simp[hjl]
    have hfree:scope.names.lookup x=some .free:=by rw[<-h1];exact B.look j (dn q)
    have hk:=B.free (x,.free) (cY hfree) rfl;obtain⟨m,_,hloc⟩:=I.loc
    obtain⟨u,r,l⟩:=hloc j x v hN h2' (by
     rcases hk with z|z
     ·exact .inr (.inl z)
     ·exact .inr (.inr z))
    refine{u,r,.inr {?_,?_}}
    ·exact Jy (env:=X.env) hfree
    ·rcases l with ⟨l,_⟩|⟨_,c,hc,o,ho,hd⟩
     ·have hk:X.env.kindOf x=some .cell\/X.env.kindOf x=some .free:=hk;rw[l]at hk;rcases hk with z|z<;>cases z
     ·obtain⟨c',hc'⟩:=qaw (env:=X.env) scope.names [] x (cY hfree)
      have:=sub x c' hc'
      rw[hc]at this;cases this;exact{c,hc',o,k _ _ ho,hd}
 ·obtain⟨v,o,ho,hd⟩:=I.cell x c (sub x c e);exact{v,o,k _ _ ho,hd}
 ·have hp:p∈[(D,qcF [] n)]:=by simpa [blk] using hp
  cases bo.mp hp;refine{hl,I.hok.fresh hD,hDC,λz=>?_,λv e=>by cases e};rcases aF.mp (I.stkSub D z) with e|e
  ·exact aZ (bn I.lt hD) e.symm
  ·exact I.nofs hD e
 ·show(Yv own fr Z).length=(Jc X own fr).length;unfold Yv Jc;simp
end
def PIf(X:Cx)(ifs:List ae)(t:TT):Prop:=
 ∀(pins:PP) (s:ag) (Z:St) (H:Hp) (Q:Bool->Hp->Prop),Inv X pins Z H s->t Z H Q->
  ak (al X.prog X.w) X.A (forIn ifs true λc r=>if r=true then do let ok<-isTrue c X.env (eval c X.env);pure (gm ok) else pure (gm r)) (TP X pins Z Q) X.xe s
def qpe:TT:=λ_ H Q=>Q true H
section
variable{X:Cx}{pins:PP}{Z:St}{H:Hp}{s:ag}{own:List Str}{fr:List Nat}{scope:bi}
def qh7:PIf X [] qpe:=λ_ _ _ H _ I h=>wpAny_tests_nil ⟨H,I,h⟩
def qh8{c:ae}{t:TT}(h:PT X c t):PIf X [c] t:=λpins s Z H Q I hw=>wpAny_tests_one (h pins s Z H Q I hw)
def Zq(J:It)(g:TG)(tc:TT)(te:TE)(fin:List V->Hp->Prop)(W:Nat->Nat->List V->St->Hp->Prop):Prop:=
 ∀i m ys Z' H',W i m ys Z' H'->(J.stop i H'/\fin ys H')\/
  (J.go i H'/\ys.length < sizeLine/\∃N:List V->St->Hp->Prop,(∀ys' Z2 H2,N ys' Z2 H2->∃m',m' < m/\W (i+1) m' ys' Z2 H2)/\
   ∀x H2,J.yld i H' x H2->g x Z' H2 λZ2 H3=>tc Z2 H3 λb H4=>if b=true then te Z2 H4 λy H5=>N (ys++[y]) Z2 H5 else N ys Z2 H4)
def qh9(own:List Str)(fr:List Nat)(wi:TI)(g:TG)(tc:TT)(te:TE):TE:=λZ H Q=>wi Z H λJ H1=>∃W:Nat->Nat->List V->St->Hp->Prop,(∃m,W 0 m [] (Yv own fr Z) H1)/\Zq J g tc te (λys H'=>∀l,H' l=none->Q (.ref l) (upd H' l (.lst ys))) W
def qia{N:List Str}{cl:List (Str×ad)}{C l:ad}{fp:List ad}{s4:ag}{H':Hp}{Z':St}{its:List aa}{k:Nat}{ys:List V}(I:Inv X pins Z H s)(hf:∀b∈fp,qb2 X pins H b)(hl:s.heap.objs.size<=l)
  (I4:Inv (blk X N scope cl C fp s H) [(l,qcF its k)] Z' H' s4) (rv:qu ys its) (hz:ys.length<=sizeLine):Inv X pins Z (upd H' l (.lst ys)) s4:=by
 have base:Un (frs X.stack) fp H H' s.heap s4.heap:=I4.base;have pin:=I4.pin (l,qcF its k) (aX _ b5);have nl:∀b o,s.heap.get? b=some o->b≠l:=λb o e=>aZ (bn (aN e) hl);have nh:∀b u,H' b=some u->b≠l:=λb u e=>qV e pin.2.1;refine I.call' (ch:=fp) I4.os ⟨base.keep,base.slot,λb o e n hx=>?_,base.there,λb xs e=>?_,λb o u e=>?_,λb ps e=>?_⟩ (λb u e=>?_) I4.bare (λb hb=>{(hf b hb).2.2.2.1,(hf b hb).2.1,(hf b hb).2.2.2.2.1,(hf b hb).2.2.2.2.2})
 ·rw[qd (nl b o e)];exact base.free b o e n hx
 ·have:=base.tups b xs e
  rw[qd (nh b _ this)];exact this
 ·have:=base.frzs b o u e
  rw[qd (nh b _ this)];exact this
 ·obtain⟨more,this⟩:=base.tbls b ps e;exact{more,by rw[qd (nh b _ this)];exact this}
 ·by_cases hb:b=l
  ·subst hb;rw[qf]at e;cases e;exact⟨hz,its,k,rv,pin.1⟩
  ·rw[qd hb]at e;exact(I4.hok b u e).stay (λc v _ q=>q) (λc q=>by rw[qd (nh c _ q)];exact q) λc xs q=>by rw[qd (nh c _ q)];exact q
def Zr{elt iter tg:ae}{ifs:List ae}{pos:Pos}{g:TG}{tc:TT}{te:TE}{it:ad}{fp:List ad}{tn:Nat->au->Prop}{J:It}{fin:List V->Hp->Prop}{W:Nat->Nat->List V->St->Hp->Prop}{m0:Nat}
  {RR:aa->ad->Result->ag->Prop} {E:PQ} (hc:X.calm=true) (B:BlkScope X own fr scope)
  (hg:∀cl C fp s2 H2,PG (blk X (Jc X own fr) scope cl C fp s2 H2) tg g) (ht:∀cl C fp s2 H2,PIf (blk X (Jc X own fr) scope cl C fp s2 H2) ifs tc) (he:∀cl C fp s2 H2,PE (blk X (Jc X own fr) scope cl C fp s2 H2) elt te)
  (I:Inv X pins Z H s) (T:Turn X.prog X.w X.K tg J fp it tn) (st0:tn 0 s.heap) (hf:∀b∈fp,qb2 X pins H b) (w0:W 0 m0 [] (Yv own fr Z) H) (hW:Zq J g tc te fin W)
  (post:∀(l C:ad) (s4:ag) (ys:List V) (H':Hp) (m:PR),s.heap.objs.size<=C->H' C=none->H' l=none->l≠C->s4.heap.Ns C m->Inv X pins Z (upd H' l (.lst ys)) s4->fin ys H'->RR (.ref l) C (.ok .next) s4) :
  ak (al X.prog X.w) X.A (newList []) (λacc s₃=>ak (al X.prog X.w) X.A (newFunctionEnv scope X.env.globals (zq X.env scope.names []) [] X.env.qual none .none (some X.env)) (λcenv s₄=>de (al X.prog X.w) X.A (.compStart (.ListComp elt [⟨tg,iter,ifs,0⟩] scope pos) 0 (.ref it) acc { cenv with scope:=relabel scope X.env }) (RR acc cenv.locals) s₄) E s₃) E s:=by
 have hfo:∀b∈fp,b < s.heap.objs.size:=λb hb=>by obtain⟨o,e,_⟩:=T.obj _ _ st0 b hb;exact aN e
 refine gM (wpAny_newFunctionEnv B.nocell (by intro y hy;simp at hy) (λh1 hns hsb=>?_) B.kind);dsimp only at hns hsb ⊢;generalize hH2:s.heap.push { cls:=.type "list",dict:=none,data:=.seq ([]:List aa).toArray }=h2 at hns hsb ⊢;have hC:h2.objs.size=s.heap.objs.size+1:=by rw[<-hH2,eo]
 have hDC:s.heap.objs.size≠h2.objs.size:=by rw[hC];exact aZ (f8 _)
 have hCle:s.heap.objs.size<=h2.objs.size:=by rw[hC];exact fh _
 have old:∀b o,s.heap.get? b=some o->h1.get? b=some o:=λb o e=>hsb.extBut b o (by rw[hC];exact aZ (kC (aN e))) (aP _ (hH2▸aP _ e));have hacc:h1.get? s.heap.objs.size=some (qcF [] 0):=hsb.extBut _ _ hDC (aP _ (hH2▸bg _ rfl));have hns':h1.Ns h2.objs.size λ_=>none:=hns;have I0:=qdn (tk:=s.toks+([]:List (Str×aa)).length) B I hf hfo hCle (az _) hDC old hns' hacc;have st1:tn 0 h1:=T.keep _ _ _ st0 λb hb o e=>old b o e
 have loop:de (al X.prog X.w) X.A (.compLoop (.ListComp elt [⟨tg,iter,ifs,0⟩] scope pos) 0 (.ref it) (.ref s.heap.objs.size) (compEnvC scope (zq X.env scope.names []) h2.objs.size X.env))
   (RR (.ref s.heap.objs.size) h2.objs.size) { s with heap:=h1,toks:=s.toks+([]:List (Str×aa)).length }:=by
  generalize hl:s.heap.objs.size=l at *;generalize hCC:h2.objs.size=C at *
  have stat:∀{H':Hp} {o:Obj},(∀b∈fp,H' b=none)->∀b∈fp,qb2 (blk X (Jc X own fr) scope (zq X.env scope.names []) C fp s H) [(l,o)] H' b:=λ{H' o} hn b hb=>by
   refine{hn b hb,λe=>?_,λz=>?_,.inl hb,λx c e z=>?_,λp hp z=>?_}
   ·exact aZ (bn (hfo b hb) hCle) e
   ·rcases aF.mp (I.stkSub b z) with e|e
    ·exact(hf b hb).2.1 e
    ·exact(hf b hb).2.2.1 e
   ·exact(hf b hb).2.2.2.2.1 x c (yw (λz hz e=>I.ok.has _ (B.free z hz e)) x c e) z
   ·have hp:p∈[(l,o)]:=by simpa [blk] using hp
    cases bo.mp hp;exact aZ (hfo b hb) z.symm
  refine codeAny_loop rfl (λn s'=>∃i ys Z' H' its k,Inv (blk X (Jc X own fr) scope (zq X.env scope.names []) C fp s H) [(l,qcF its k)] Z' H' s'/\qu ys its/\ys.length<=sizeLine/\tn i s'.heap/\(∀b∈fp,H' b=none)/\W i n ys Z' H')
   (λn s3 hI=>?_) m0 ⟨0,[],Yv own fr Z,H,[],0,I0,.nil,bd _,st1,λb hb=>(hf b hb).1,w0⟩
  show ak _ X.A ((compTurn (.ListComp elt [⟨tg,iter,ifs,0⟩] scope pos) 0 (.ref it) (.ref l) (compEnvC scope (zq X.env scope.names []) C X.env)).onRaise (λx=>do noteFrame x (compEnvC scope (zq X.env scope.names []) C X.env);theTreesLotGoes x)) _ _ s3;refine wpAny_noted ?_;rw[compTurn_list];obtain⟨i,ys,Z3,H3,its,k,I3,rv,hz,st3,fr3,w3⟩:=hI;refine ai (k7 (ai ?_));rcases hW i n ys Z3 H3 w3 with ⟨stop,qn⟩|⟨go,hlt,N,hN,step⟩
  ·refine thn (T.done (blk X (Jc X own fr) scope (zq X.env scope.names []) C fp s H) rfl rfl rfl hc i _ s3 Z3 H3 _ I3 (stat fr3) st3 stop) λr s4 hq1=>?_;obtain⟨hr,I4⟩:=hq1;subst hr;obtain⟨m,hm,_⟩:=I4.loc;exact ax (post l C s4 ys H3 m hCle I4.free (I4.pin (l,qcF its k) (aX _ b5)).2.1 hDC hm (qia I hf (f7 hl) I4 rv hz) qn)
  ·refine thn (T.item (blk X (Jc X own fr) scope (zq X.env scope.names []) C fp s H) rfl rfl rfl hc i _ s3 Z3 H3 _ I3 (stat fr3) st3 go) λr s4 hq1=>?_;obtain⟨u,hr,h4⟩:=hq1;subst hr;refine ai (thn h4 λ_ s5 hq1=>?_);obtain⟨x,H5,I5,r5,y5,st5,fr5⟩:=hq1;have I5':=I5.pinned (stat fr5) (T.obj _ _ st5);refine ai (dY (hg _ _ _ _ _ _ s5 Z3 H5 x u _ I5' r5 (step x H5 y5)) (λ_ s6 hz40=>?_) λ_ _ z=>z.elim);obtain⟨Z6,H6,I6,q6⟩:=hz40;refine ai (dY (ht _ _ _ _ _ _ s6 Z6 H6 _ I6 q6) (λb s7 hz41=>?_) λ_ _ z=>z.elim);obtain⟨H7,I7,q7⟩:=hz41
   have back:∀{Z8:St} {H8:Hp} {s8:ag},Inv (blk X (Jc X own fr) scope (zq X.env scope.names []) C fp s H) ([(l,qcF its k)]++Q6 fp s5.heap) Z8 H8 s8->(∀b∈fp,∀o,s5.heap.get? b=some o->s8.heap.get? b=some o)/\∀b∈fp,H8 b=none:=λI8=>by refine{λb hb o e=>(I8.pin (b,o) (aX _ (aX _ (jZ hb e)))).1,λb hb=>?_};obtain⟨o,e,_⟩:=T.obj _ _ st5 b hb;exact(I8.pin (b,o) (aX _ (aX _ (jZ hb e)))).2.1
   cases b with
   |false=>obtain⟨k1,k2⟩:=back I7;simp![a7,if_false]at q7 ⊢;obtain⟨m',hm',w7⟩:=hN _ _ _ q7;exact ax ⟨rfl,m',hm',i+1,ys,Z6,H7,its,k,I7.unpinned,rv,hz,T.keep _ _ _ st5 k1,k2,w7⟩
   |true=>
    simp![if_true]at q7 ⊢;refine ai (ai (dY (he _ _ _ _ _ _ s7 Z6 H7 _ I7 q7) (λw s8 hz42=>?_) λ_ _ z=>z.elim));obtain⟨y,H8,I8,r8,q8⟩:=hz42;obtain⟨k1,k2⟩:=back I8;obtain⟨m',hm',w8⟩:=hN _ _ _ q8;have pin:=I8.pin (l,qcF its k) (aX _ (bC _ b5));have hil:its.length=ys.length:=rv.length.symm;refine ai (append_at pin.1 (λh9 hs9 hD9=>?_) (by rw[bj,hil];exact hz));have new:h9.get? l=some (qcF (its++[w]) (k+1)):=by rw[hD9,List.push_toArray]
    have Ia:Inv (blk X (Jc X own fr) scope (zq X.env scope.names []) C fp s H) [] Z6 H8 s8:=I8.pins_of (λp hp=>nomatch hp)
    have Ib:Inv (blk X (Jc X own fr) scope (zq X.env scope.names []) C fp s H) [] Z6 H8 { s8 with heap:=h9 }:=Ia.turned (t':=s8.toks) (λb o hb e=>hs9.extBut b o hb e) pin.2.1 pin.2.2.1 (.inr (f7 hl)) (λx c e z=>by
     obtain⟨v,o,ho,hd⟩:=I8.cell x c e;rw[z,pin.1]at ho;cases ho
     cases hd) (λp hp=>by
      have hp:p∈([]:PP):=by simpa [blk] using hp
      cases hp)
    have Ic:Inv (blk X (Jc X own fr) scope (zq X.env scope.names []) C fp s H) [(l,qcF (its++[w]) (k+1))] Z6 H8 { s8 with heap:=h9 }:=Ib.pins_of λp hp=>by cases bo.mp hp;exact{new,pin.2.1,pin.2.2.1,pin.2.2.2.1,λv e=>by cases e}
    refine ax (ax ⟨rfl,m',hm',i+1,ys++[y],Z6,H8,its++[w],k+1,Ic,rv.append %[r8|0],by rw[bq];exact hlt,T.keep _ _ _ st5 λb hb o e=>?_,k2,w8⟩);exact hs9.extBut b o (aZ (hfo b hb)) (k1 b hb o e)
 exact codeAny_compStart_list loop (T.self _ 0 _ _ _ st1 loop)
def Inv.letgo{s2 s4:ag}{H2 H4:Hp}{C:ad}{h':au}(I2:Inv X pins Z H2 s2){Z4:St}(I4:Inv X pins Z4 H4 s4)(hC:s2.heap.objs.size<=C)(hn:H4 C=none)(hs:dP C s4.heap h'):Inv X pins Z4 H4 { s4 with heap:=h' }:=by obtain⟨f0,f1,_,f3,f4,f5⟩:=I2.fpOk hC hn;exact I4.turned (t':=s4.toks) (λb o hb e=>hs.extBut b o hb e) f0 f1 f3 f4 f5
def qib{elt iter tg:ae}{ifs:List ae}{pos:Pos}{g:TG}{tc:TT}{te:TE}{wi:TI}(own:List Str)(fr:List Nat)(hc:X.calm=true)(B:BlkScope X own fr scope)(hi:PI X tg iter wi)
  (hg:∀cl C fp s2 H2,PG (blk X (Jc X own fr) scope cl C fp s2 H2) tg g) (ht:∀cl C fp s2 H2,PIf (blk X (Jc X own fr) scope cl C fp s2 H2) ifs tc) (he:∀cl C fp s2 H2,PE (blk X (Jc X own fr) scope cl C fp s2 H2) elt te)
  (hs:∀x,iz iter X.env x=pure x:=by intro _;rfl):PE X (.ListComp elt [⟨tg,iter,ifs,0⟩] scope pos) (qh9 own fr wi g tc te):=by
 intro pins s Z H Q I h;rw[eval_ListComp];refine mN (use:=none) rfl hs (qgM λz hz e=>I.ok.has _ (B.free z hz e)) B.kind B.names ?_;refine thn (hi pins s Z H _ I h) λv s1 h1=>thn h1 λitv s2 h2=>?_;obtain⟨it,fp,tn,J,H2,e,I2,T,st2,f2,W,⟨m0,w0⟩,hW⟩:=h2;subst e;refine Zr hc B hg ht he I2 T st2 f2 w0 hW λl C s4 ys H' m hC nC nl hlC hm I4 fin=>?_;exact{m,hm,λh' hs'=>{.ref l,_,I2.letgo I4 hC (by rw[qd (cj hlC)];exact nC) hs',rfl,fin l nl}}
def qic{elt iter tg:ae}{ifs:List ae}{pos pos' cpos:Pos}{g:TG}{tc:TT}{te:TE}{wi:TI}{i:Nat}{x:Str}(own:List Str)(fr:List Nat)(hN:X.N.Nodup)(hxi:X.N[i]?=some x)(hx:X.env.scope.names.lookup x=some .local)(hc:X.calm=true)(B:BlkScope X own fr scope)(hi:PI X tg iter wi)
  (hg:∀cl C fp s2 H2,PG (blk X (Jc X own fr) scope cl C fp s2 H2) tg g) (ht:∀cl C fp s2 H2,PIf (blk X (Jc X own fr) scope cl C fp s2 H2) ifs tc) (he:∀cl C fp s2 H2,PE (blk X (Jc X own fr) scope cl C fp s2 H2) elt te)
  (hsw:fM (.ListComp elt [⟨tg,iter,ifs,0⟩] scope cpos) (some (.Name x pos')) pos.line X.env=pure true:=by rfl)
  (hs:∀x,iz iter X.env x=pure x:=by intro _;rfl):PS X (.Assign [.Name x pos'] (.ListComp elt [⟨tg,iter,ifs,0⟩] scope cpos) pos) (qng (qh9 own fr wi g tc te) (qe0 i)):=by
 intro pins s Z H D I h;rw[exec_Assign_Name_used _ _ _ _ hsw];refine ai (k7 (ai ?_));show ak _ X.A (do let _<-comprehension (.ListComp elt [⟨tg,iter,ifs,0⟩] scope cpos) scope X.env _ (newList []) false (eval iter X.env) (some (d8 (.Name x pos') X.env))) _ _ s;refine ai (dY (mN (use:=some (d8 (.Name x pos') X.env)) (Q:=λ_ s'=>SP X pins D .next s') rfl hs (qgM λz hz e=>I.ok.has _ (B.free z hz e)) B.kind B.names ?_) (λ_ s' hq=>ax (ax hq)) λ_ _ e=>e);refine thn (hi pins s Z H _ I h) λv s1 h1=>thn h1 λitv s2 h2=>?_;obtain⟨it,fp,tn,J,H2,e,I2,T,st2,f2,W,⟨m0,w0⟩,hW⟩:=h2;subst e;refine Zr (RR:=λacc C=>compPost (al X.prog X.w) X.A X.xe (some (d8 (.Name x pos') X.env)) (λ_ s'=>SP X pins D .next s') acc C) hc B hg ht he I2 T st2 f2 w0 hW λl C s4 ys H' m hC nC nl hlC hm I4 fin=>?_;show ak _ X.A (d8 (.Name x pos') X.env (.ref l)) _ _ s4;refine wpAny_assign_Name (Q3 I4 hN hxi (.inl hx) (v:=.ref l) rfl (λs5 I5 hsb=>?_) (.inr hx));obtain⟨a,sb,ha⟩:=hsb
 have hCa:C≠a:=by
  rcases ha with rfl|ha
  ·exact fg (bn I2.lt hC)
  ·obtain⟨v,q⟩:=I2.cell x a ha;exact fg (bn q.lt hC)
 exact{m,hm.sameBut sb hCa,λh' hs'=>{_,_,I2.letgo I5 hC (by rw[qd (cj hlC)];exact nC) hs',fin l nl}}
end
mutual
def DV(K:Frag)(H:Hp):ed->V->Prop
 |.none,v=>v=.non
 |.bool b,v=>v=.bl b
 |.int i,v=>v=.int i
 |.str x,v=>v=.str x
 |.list ds,v=>∃a xs,v=.ref a/\SqL K H a xs/\DVs K H ds xs
 |.tuple ds,v=>∃a xs,v=.ref a/\SqT K H a xs/\DVs K H ds xs
 |.dict _,_=>False
def DVs(K:Frag)(H:Hp):List ed->List V->Prop
 |[],xs=>xs=[]
 | d::ds,xs=>∃x r,xs=x::r/\DV K H d x/\DVs K H ds r
end
section
variable{X:Cx}{pins:PP}{Z:St}{H:Hp}{s:ag}
mutual
theorem DV.reads(I:Inv X pins Z H s):∀{d:ed} {v:V} {u:aa},DV X.K H d v->qK v u->∃as,Reads s.heap u d as
 |.none,v,u,h,r=>by
  have h:v=.non:=by simpa [DV] using h
  subst h;cases r;exact{_,Reads.none}
 |.bool b,v,u,h,r=>by
  have h:v=.bl b:=by simpa [DV] using h
  subst h;cases r;exact{_,Reads.bool b}
 |.int i,v,u,h,r=>by
  have h:v=.int i:=by simpa [DV] using h
  subst h;obtain⟨t,rfl⟩:=r;exact{_,Reads.int i t}
 |.str x,v,u,h,r=>by
  have h:v=.str x:=by simpa [DV] using h
  subst h;obtain⟨t,rfl⟩:=r;exact{_,Reads.str x t}
 |.list ds,v,u,h,r=>by
  have h:∃a xs,v=.ref a/\SqL X.K H a xs/\DVs X.K H ds xs:=by simpa [DV] using h
  obtain⟨a,xs,rfl,hq,hd⟩:=h;cases r;obtain⟨its,rv,pl,_⟩:=I.list hq;obtain⟨as,ra⟩:=DVs.reads I hd rv;obtain⟨o,ho,hc,n,hdd⟩:=pl.isList;exact{_,reads_list_at ho hc hdd (-ra:)}
 |.tuple ds,v,u,h,r=>by
  have h:∃a xs,v=.ref a/\SqT X.K H a xs/\DVs X.K H ds xs:=by simpa [DV] using h
  obtain⟨a,xs,rfl,hq,hd⟩:=h;cases r;obtain⟨its,rv,pl,_⟩:=I.tuple hq;obtain⟨as,ra⟩:=DVs.reads I hd rv;obtain⟨o,ho,hc,n,hdd⟩:=pl;exact{_,reads_tuple_at ho hc hdd (-ra:)}
 |.dict _,v,u,h,r=>by simp[DV]at h
theorem DVs.reads(I:Inv X pins Z H s):∀{ds:List ed} {vs:List V} {us:List aa},DVs X.K H ds vs->qu vs us->∃as,ReadsAll s.heap us ds as
 |[],vs,us,h,r=>by
  have h:vs=[]:=by simpa [DVs] using h
  subst h;cases r;exact{_,ReadsAll.nil}
 | d::ds,vs,us,h,r=>by
  have h:∃x r,vs=x::r/\DV X.K H d x/\DVs X.K H ds r:=by simpa [DVs] using h
  obtain⟨x,rr,rfl,h1,h2⟩:=h
  cases r with
  |cons r1 r2=>obtain⟨as,ra⟩:=DV.reads I h1 r1;obtain⟨bs,rb⟩:=DVs.reads I h2 r2;exact{_,ReadsAll.cons ra rb}
end
def qpf(K:Frag):R2:=λx y H Q=>∃d e,DV K H d x/\DV K H e y/\br d=true/\br e=true/\Q (.bl (b7 d e)) H
def qpg(K:Frag):R2:=λx y H Q=>∃d e,DV K H d x/\DV K H e y/\br d=true/\br e=true/\Q (.bl (!PyData.eqv d e)) H
def qkq(hu:X.A.units+64 < cLine):OpR X (bv .Eq) (qpf X.K):=by intro pins s Z H x y v u Q I rx ry h;obtain⟨d,e,hd,he,sd,se,q⟩:=h;obtain⟨as,ra⟩:=DV.reads I hd rx;obtain⟨bs,rb⟩:=DV.reads I he ry;exact eq_dataH ra rb sd se hu ⟨.bl _,H,I,rfl,q⟩
def qkr(hu:X.A.units+64 < cLine):OpR X (bv .NotEq) (qpg X.K):=by intro pins s Z H x y v u Q I rx ry h;obtain⟨d,e,hd,he,sd,se,q⟩:=h;obtain⟨as,ra⟩:=DV.reads I hd rx;obtain⟨bs,rb⟩:=DV.reads I he ry;exact ne_dataH ra rb sd se hu ⟨.bl _,H,I,rfl,q⟩
def qfl:qO X (.builtin "isinstance") (λvs H Q=>∃x n t b,vs=[x,.ty n]/\TyOf X.K H x t/\di X.K t (.type n)=some b/\Q (.bl b) H):=by intro pins s Z H xs us Q I r h;obtain⟨x,n,t,b,rfl,ty,e,q⟩:=h;obtain⟨u,w,rfl,rx,rn⟩:=Q8 r;cases rn;exact Zb I rx ty e λtk=>{.bl b,H,I.tok tk,rfl,q}
def qph(te:TE)(tl th:TO)(ts:TE)(K:Frag):TE:=λZ H Q=>te Z H λx H1=>tl Z H1 λl H2=>th Z H2 λu H3=>ts Z H3 λz H4=>∃a xs st ys,x=.ref a/\SqL K H4 a xs/\z=.int st/\st≠0/\ys.length<=xs.length/\(∀its:List aa,qu xs its->qu ys (fQ its.toArray l u (some st)).toList)/\∀p,H4 p=none->Q (.ref p) (upd H4 p (.lst ys))
def qdo{e st:ae}{te ts:TE}{lo hi:Option ae}{tl th:TO}{pos p2:Pos}(he:PE X e te)(hl:PO X lo tl)(hu:PO X hi th)(hst:PE X st ts):PE X (.Subscript e (.Slice lo hi (some st) p2) pos) (qph te tl th ts X.K):=by intro pins s Z H Q I h;refine Subscript_ (thn (he pins s Z H _ I h) λv s1 hq1=>?_);obtain⟨x,H1,I1,r1,q1⟩:=hq1;refine wpAny_Slice (thn (hl pins s1 Z H1 _ I1 q1) λvl s2 hz43=>?_);obtain⟨l,H2,I2,pl,q2⟩:=hz43;refine thn (hu pins s2 Z H2 _ I2 q2) λvu s3 hq1=>?_;obtain⟨u,H3,I3,pu,q3⟩:=hq1;rw[evalPart_some];refine thn (hst pins s3 Z H3 _ I3 q3) λvs s4 hq1=>?_;obtain⟨z,H4,I4,r4,q4⟩:=hq1;obtain⟨a,xs,k,ys,rfl,hq,rfl,h0,hle,hys,q⟩:=q4;cases r1;obtain⟨t,rfl⟩:=r4;have I5:Inv X pins Z H4 { s4 with heap:=s4.heap.push { cls:=.type "slice",data:=.fields #[vl,vu,.int k t] } }:=I4.kept (t':=s4.toks) λb ob q=>aP _ q;obtain⟨its,rv,ht,hz⟩:=I5.list hq;have hlen:=rv.length;show ak (al X.prog X.w) X.A (ld e (.Slice lo hi (some st) p2) (.ref a) (.ref s4.heap.objs.size)) (EP X pins Z Q) X.xe { s4 with heap:=s4.heap.push { cls:=.type "slice",data:=.fields #[vl,vu,.int k t] } };refine tail_any ht.isList.typeIs ll.lookup ?_ rfl;refine mM ht.isList (Heap.IsSliceOf.new ..) pl pu (.int k t) (λe=>h0 (Option.some.inj e)) ?_ (by rw[bj];lia);have hv:=hys its rv;generalize hP:fQ its.toArray l u (some k)=P at hv ⊢;refine{.ref _,_,I5.laid (t':=s4.toks) (o:=.lst ys) (λb ob q=>aP _ q) (az _) ?_,rfl,q _ (I5.hok.fresh (az _))};exact{by lia,P.toList,0,hv,by rw[kE];exact bg _ rfl}
end
section
variable{X:Cx}
theorem YG:∀{ns:List Int} {its:List aa},qu (ns.map V.int) its->∃xs:List (Int×Tok),its=xs.map (λp=>Value.int p.1 p.2)/\ns=xs.map (·.1)
 |[],_,.nil=>{[],rfl,rfl}
 | n::ns,_,.cons r t=>by obtain⟨xs,rfl,rfl⟩:=YG t;obtain⟨k,rfl⟩:=r;exact{(n,k)::xs,rfl,rfl}
def qdp(hc:X.calm=true):qO X (.builtin "sum") (λvs H Q=>∃(p:ad) (ns:List Int),vs=[.ref p]/\SqL X.K H p (ns.map V.int)/\Q (.int ns.sum) H):=by
 intro pins s Z H xs us Q I r h;obtain⟨p,ns,rfl,hq,q⟩:=h;obtain⟨u,rfl,rx⟩:=yt r;cases rx;obtain⟨its,rv,pl,hz⟩:=I.list hq;obtain⟨zs,rfl,rfl⟩:=YG rv
 have hl:s.heap.IsList p (intItems zs.toArray):=by
  have e:(zs.map λp=>Value.int p.1 p.2).toArray=intItems zs.toArray:=by simp[intItems]
  rw[<-e];exact pl.isList
 refine sum_intListG (I.ok.hd hc) hl λh' tk t' hk=>?_;refine{.int _,H,I.kept (t':=tk) hk,{t',?_},q};rw[preSum_eq,gf (5:)]
def Qc(xs:List V)(lo hi st:Option Int):List V:=
 (fW (bT lo hi st xs.length).1 (bT lo hi st xs.length).2.1 (bT lo hi st xs.length).2.2).filterMap (xs[·]?)
theorem J0{xs:List V}{lo hi st:Option Int}:∀its:List aa,qu xs its->qu (Qc xs lo hi st) (fQ its.toArray lo hi st).toList:=λits r=>by
 unfold Qc fQ;rw[bj,r.length];generalize fW _ _ _=l
 induction l with
 |nil=>exact .nil
 |cons i l ih=>
  cases h:xs[i]? with
  |none=>
   have:=r.none_of h
   simpa [cx,h,this] using ih
  |some x=>
   obtain⟨u,hu,ru⟩:=r.get h;have ih':qu (l.filterMap (xs[·]?)) (l.filterMap (its[·]?)):=(-ih:)
   have:qu (x::l.filterMap (xs[·]?)) (u::l.filterMap (its[·]?)):=.cons ru ih'
   simpa [cx,h,hu] using this
def qfm(xs:List V)(lo hi st:Option Int):(Qc xs lo hi st).length<=xs.length:=by
 have h:=J0 (xs:=xs) (lo:=lo) (hi:=hi) (st:=st)
 have e:qu (cz xs.length V.non) (cz xs.length Value.none):=by
  generalize xs.length=n
  induction n with
  |zero=>exact .nil
  |succ n ih=>exact .cons rfl ih
 have h2:=J0 (lo:=lo) (hi:=hi) (st:=st) _ e;have h3:=h2.length;have h4:=slicePick_size_le (cz xs.length Value.none).toArray lo hi st;have h5:(cz xs.length Value.none).toArray.size=xs.length:=by simp
 rw[h5]at h4
 have e1:(Qc (cz xs.length V.non) lo hi st).length=(Qc xs lo hi st).length:=by
  unfold Qc;rw[kh];generalize fW _ _ _=l
  induction l with
  |nil=>rfl
  |cons i l ih=>
   by_cases hi:i < xs.length
   ·simp[cx,hi,ih]
   ·simp[cx,hi,ih]
 rw[<-e1,h3];exact h4
end
section
variable{U:Type}[DecidableEq U]
def qdq(kvs:List (U×V))(k:U):Option V:=(kvs.find? λkv=>decide (kv.1=k)).map (·.2)
def Qd{p:U×V}{r:List (U×V)}{k:U}(e:p.1=k):qdq (p::r) k=some p.2:=by simp[qdq,dG,e]
def Qe{p:U×V}{r:List (U×V)}{k:U}(e:¬ p.1=k):qdq (p::r) k=qdq r k:=by simp[qdq,dG,e]
theorem qaZ.getD{o:Option V}{u:Option aa}{d:V}{d':aa}(r:qaZ o u)(rd:qK d d'):qK (o.getD d) (u.getD d'):=by
 cases o with
 |none=>cases u with
  |none=>exact rd
  |some _=>exact(show False from r).elim
 |some _=>cases u with
  |none=>exact(show False from r).elim
  |some _=>exact r
theorem KV.val{kvs:List (U×V)}{vs:List (U×aa)}(r:KV kvs vs)(k:U):qaZ (qdq kvs k) (fX vs k):=by
 unfold KV at r
 induction r with
 |nil=>exact aJ
 |@cons p q ps qs h t ih=>
  obtain⟨h1,h2⟩:=h
  by_cases e:p.1=k
  ·have e':q.1=k:=h1.symm.trans e;have b:fX (q::qs) k=some q.2:=by simp[fX,dG,e']
   rw[Qd e,b];exact h2
  ·have e':¬ q.1=k:=λz=>e (h1.trans z);have b:fX (q::qs) k=fX qs k:=by simp[fX,dG,e']
   rw[Qe e,b];exact ih
theorem KV.keys{kvs:List (U×V)}{vs:List (U×aa)}(r:KV kvs vs):kvs.map (·.1)=vs.map (·.1):=by
 unfold KV at r
 induction r with
 |nil=>rfl
 |cons h t ih=>rw[av,av,ih,h.1]
def KV.length{kvs:List (U×V)}{vs:List (U×aa)}(r:KV kvs vs):kvs.length=vs.length:=Paired.length r
end
theorem qid{P:aE}{w:aB}{k:Key}{u:aa}(r:qK (kV k) u):(qt P w).is k u=true:=by
 cases k with
 |inl i=>obtain⟨t,e⟩:=(show∃t,u=Value.int i t from r);subst e;exact qam P w i t
 |inr x=>obtain⟨t,e⟩:=(show∃t,u=Value.str x t from r);subst e;exact qan P w x t
theorem Zs{P:aE}{w:aB}:∀{ks:List Key} {us:List aa},qu (ks.map kV) us->ItemsAre (qt P w) ks us
 |[],_,r=>by rw[aK]at r;cases r;exact .nil
 | k::ks,_,r=>by
  rw[av]at r
  cases r with
  |cons h t=>exact .cons (qid h) (Zs t)
noncomputable abbrev KT(H:Hp):List (List Key×V)->List (List Key×ad×aa)->Prop:=bb λp q=>p.1=q.1/\H q.2.1=some (.tup (p.1.map kV))/\qK p.2 q.2.2
theorem KT.val{H:Hp}{kvs:List (List Key×V)}{xs:List (List Key×ad×aa)}(r:KT H kvs xs)(k:List Key):qaZ (qdq kvs k) ((atKey xs k).map (·.2)):=by
 induction r with
 |nil=>exact aJ
 |@cons p q ps qs h t ih=>
  obtain⟨h1,_,h2⟩:=h
  by_cases e:p.1=k
  ·have e':q.1=k:=h1.symm.trans e;have b:atKey (q::qs) k=some q.2:=by simp[atKey,dG,e']
   rw[Qd e,b];exact h2
  ·have e':¬ q.1=k:=λz=>e (h1.trans z);have b:atKey (q::qs) k=atKey qs k:=by simp[atKey,dG,e']
   rw[Qe e,b];exact ih
section
variable{P:aE}{w:aB}{H:Hp}{h:au}{a:ad}
def qks{u:HO}(ok:HOk P w H h)(e:Rd H a u):qH P w H h a u:=e.ok ok
def qkt{kvs:List (Key×V)}(ok:HOk P w H h)(e:Rd H a (.dK kvs)):kvs.length<=sizeLine/\(a == eD)=false/\∃vs,KV kvs vs/\h.DictOf (qt P w) a vs:=
 show qH P w H h a (.dK kvs) from qks ok e
def qgN{ks:List Key}(ok:HOk P w H h)(e:H a=some (.tup (ks.map kV))):(gE (qt P w)).is h ks a:=by obtain⟨_,its,r,o,h1,h2,n,h3⟩:=(show qH P w H h a (.tup (ks.map kV)) from ok a _ e);exact{o,its.toArray,n,h1,h2,h3,by simpa using Zs r}
def qku{kvs:List (List Key×V)}(ok:HOk P w H h)(e:Rd H a (.dT kvs)):kvs.length<=sizeLine/\(a == eD)=false/\
  ∃xs,KT H kvs xs/\h.DictOfH (gE (qt P w)) a xs:=by
 obtain⟨z,y,xs,r,o,es,ep,h1,h2,h3,h4,h5⟩:=(show qH P w H h a (.dT kvs) from qks ok e);refine{z,y,xs,r,o,es,ep,h1,h2,h3,h4,λx hx=>?_,h5}
 have all:∀{l:List (List Key×V)} {m:List (List Key×ad×aa)},KT H l m->∀x∈m,(gE (qt P w)).is h x.1 x.2.1:=by
  intro l m q
  induction q with
  |nil=>intro x hx;exact nomatch hx
  |@cons p q ps qs hq t ih=>
   intro x hx;rcases aF.mp hx with e|hx
   ·subst e;exact qgN ok (by rw[<-hq.1];exact hq.2.1)
   ·exact ih x hx
 exact all r x hx
end
def qkv(H:Hp)(a:ad)(y:V)(r:Option V):Prop:=
 (∃kvs k,Rd H a (.dK kvs)/\y=kV k/\r=qdq kvs k)\/∃kvs k b,Rd H a (.dT kvs)/\y=.ref b/\H b=some (.tup (k.map kV))/\r=qdq kvs k
def qkv.k{H:Hp}{a:ad}{kvs:List (Key×V)}{k:Key}(e:H a=some (.dK kvs)):qkv H a (kV k) (qdq kvs k):=.inl ⟨kvs,k,.inl e,rfl,rfl⟩
section
variable{X:Cx}{pins:PP}{Z:St}{H:Hp}{s:ag}{a:ad}{y v:V}{u r:aa}{o:Option V}{A:aH}{E:PQ}
def Inv.big(I:Inv X pins Z H s):eD < s.heap.objs.size:=by have h:aV < s.heap.objs.size:=(I.mod.glob.keeps I.bk).lt;exact hJ (2:) h
def qkw{P:aE}{w:aB}{H':Hp}{h':au}{kvs:List (Key×V)}{vs:List (Key×aa)}(z:kvs.length<=sizeLine)(hd:(a == eD)=false)(rel:KV kvs vs)(dd:h'.DictOf (qt P w) a vs) :
  qH P w H' h' a (.dK kvs):=⟨z,hd,vs,rel,dd⟩
end
structure M2(X:Cx)(o:ae)(m:Str)(apos:Pos)(e f:ae)(cpos:Pos):Prop where
 base:fO o m X.env (eval o X.env)=eval o X.env
 few:((bu cpos (aI [e,f] X.env)).all (λx=>!x.1)&&(dJ cpos (dM [] X.env)).all (λx=>x.1.isSome)
  && decide (([e,f]:List ae).length+([]:List df).length+(if ([]:List df).isEmpty then 0 else 1) < 30))=true
 line:(apos.endLine == cpos.line)=true
 trees:bu cpos (aI [e,f] X.env)=[(false,eval e X.env),(false,eval f X.env)]
def IsD(H:Hp)(a:ad):Prop:=(∃kvs,Rd H a (.dK kvs))\/∃kvs,Rd H a (.dT kvs)
def qkx{X:Cx}{pins:PP}{Z:St}{H:Hp}{s:ag}{a:ad}(I:Inv X pins Z H s)(d:IsD H a) :
  s.TypeIs (.ref a) "dict"/\(∀b,bm a=.ref b->∃ob,s.heap.get? b=some ob/\ob.dict=none)/\(a == eD)=false:=by
 rcases d with ⟨kvs,e⟩|⟨kvs,e⟩
 ·obtain⟨_,hd,vs,_,dd⟩:=qkt I.hok e;refine{dd.typeIs,λb q=>?_,hd};cases q;obtain⟨ob,_,_,h1,h2,_⟩:=dd;exact⟨ob,h1,h2.2.1⟩
 ·obtain⟨_,hd,xs,_,dd⟩:=qku I.hok e;refine{dd.typeIs,λb q=>?_,hd};cases q;obtain⟨ob,_,_,h1,h2,_⟩:=dd;exact⟨ob,h1,h2.2.1⟩
section
variable{X:Cx}{pins:PP}{Z:St}{H:Hp}{s:ag}{a:ad}{y d:V}{u r:aa}{o:Option V}{A:aH}{E:PQ}
def qky{Q:PQ}(hu:A.units+1 < cLine)(I:Inv X pins Z H s)(g:qkv H a y o)(ry:qK y u)(rd:qK d r)(h:∀w' s',Inv X pins Z H s'->qK (o.getD d) w'->Q w' s') :
  ak (al X.prog X.w) A (call (.builtin "dict.get") [.ref a,u,r]) Q E s:=by
 rcases g with ⟨kvs,k,e,ey,l⟩|⟨kvs,k,b,e,ey,eb,l⟩
 ·subst ey;obtain⟨z,hd,vs,rel,dd⟩:=qkt I.hok e;refine call_meetsIn iY dd.typeIs lG (lH _ _ _) (meets_dict_get_default (qt X.prog X.w) a (qid ry) hd r) ⟨_,dd.mapOf,h _ _ (I.tok _) ?_⟩;rw[l];exact(rel.val k).getD rd
 ·subst ey
  cases (show u=bm b from ry)
  obtain⟨z,hd,xs,rel,dd⟩:=qku I.hok e;refine call_meetsIn iY dd.typeIs lG (lH _ _ _) (meetsH_dict_get_default (gE (qt X.prog X.w)) a b hd r) ⟨tupleKind_room_in1 hu,k,xs,qgN I.hok eb,dd,h _ _ (I.tok _) ?_⟩;rw[l];exact(rel.val k).getD rd
end
def qkz(td ty tx:TE):TE:=λZ H Q=>td Z H λx H1=>∃a,x=.ref a/\IsD H1 a/\ty Z H1 λy H2=>tx Z H2 λz H3=>∃o,qkv H3 a y o/\Q (o.getD z) H3
section
variable{X:Cx}{o e f:ae}{apos cpos:Pos}{td ty tx:TE}
def qfn(hu:X.A.units+1 < cLine)(ho:PE X o td)(he:PE X e ty)(hf:PE X f tx)(m:M2 X o "get" apos e f cpos):PE X (.Call (.Attribute o "get" apos) [e,f] [] cpos) (qkz td ty tx):=by intro pins s Z H Q I h;refine wpAny_Call_method m.base m.few m.line PySem.F.plainAttrs_dict iY PySem.F.type_dict_get (thn (ho pins s Z H _ I h) λu s1 hq1=>?_);obtain⟨x,H1,I1,rx,a,ex,d,q1⟩:=hq1;subst ex;obtain rfl:u=bm a:=rx;obtain⟨t1,t2,_⟩:=qkx I1 d;refine{t1,t2,?_};rw[m.trees];refine lZ rfl (Calls.evalArgs_plain (kg (thn (he pins s1 Z H1 _ I1 q1) λiv s2 hz55=>?_)));obtain⟨y,H2,I2,ry,q2⟩:=hz55;refine kg (thn (hf pins s2 Z H2 _ I2 q2) λfv s3 hz56=>?_);obtain⟨z,H3,I3,rz,ov,g,q3⟩:=hz56;refine Calls.spliced_nil ?_;exact qky hu I3 g ry rz λw' s4 I4 rw'=>{_,H3,I4,rw',q3}
end
def Jz(osc:bi)(N:List Str)(fr:List Nat)(sc:bi):Bool:=
 sc.kind == .function&&(sc.names.all λx=>x.2 != .cell&&(x.2 != .local||sc.names.lookup x.1 == some .local)&&(x.2 != .free||(osc.names.lookup x.1 == some .cell||osc.names.lookup x.1 == some .free)))&&fr.all λi=>sc.names.lookup (N.getD i "") == some .free
def qo.upd{H:Hp}{a:ad}{o:HO}(h:H a=none):qo H (upd H a o):=λb u e=>by rw[qd (qV e h)];exact e
end L2
namespace TS
open PySem PyProof.Rows
def iO:aU where
 α:=Int
 blt p q:=decide (p < q)
 irrefl a:=by simp
 trans a b c h1 h2:=by
  simp at h1 h2 ⊢
  lia
 negTrans a b c h:=by
  simp at h ⊢
  lia
 total a b h1 h2:=by
  simp at h1 h2
  lia
theorem Qf:∀{ns:List Int} {vs:List aa},L2.qu (ns.map L2.V.int) vs->e7 vs ns
 |[],_,.nil=>.nil
 | n::ns,_,.cons r t=>by obtain⟨k,rfl⟩:=r;exact .cons _ _ (Qf t)
theorem JA:∀{ns:List Int} {vs:List aa},L2.qu (ns.map L2.V.int) vs->∀v∈vs,∃n t,v=Value.int n t
 |[],_,.nil,_,h=>nomatch h
 | n::ns,_,.cons r rs,v,h=>by
  rcases aF.mp h with rfl|h
  ·obtain⟨k,rfl⟩:=r;exact⟨n,k,rfl⟩
  ·exact JA rs v h
theorem qbd:∀{ns:List Int} {vs:List aa},L2.qu (ns.map L2.V.int) vs->vs.map nOf=ns
 |[],_,.nil=>rfl
 | n::ns,_,.cons r rs=>by obtain⟨k,rfl⟩:=r;rw[av,qbd rs];rfl
theorem J1:∀{vs:List aa},(∀v∈vs,∃n t,v=Value.int n t)->L2.qu ((vs.map nOf).map L2.V.int) vs
 |[],_=>.nil
 | v::vs,h=>by obtain⟨n,t,rfl⟩:=h v b5;exact .cons ⟨t,rfl⟩ (J1 λu hu=>h u (bI _ hu))
section
variable{prog:aE}{w:aB}{A:aH}{E:PQ}{s:ag}
def qcf{vs:List aa}{ns:List Int}(h:L2.qu (ns.map L2.V.int) vs):Sorts prog w s vs iO (λx=>nOf x.1) oneType' where
 kind:=λh2 A E s1 Q g q=>by rw[ksk_kind (keys:=vs.toArray) (kz:=ns) (Qf h) (-h2:)];exact ax q
 lt:=λA E s1 g x y hx hy st Q hk q=>by obtain⟨n,t,e1⟩:=JA h _ (yv hx).2;obtain⟨m,u,e2⟩:=JA h _ (yv hy).2;have q:Q (some (iO.blt (nOf x.1) (nOf y.1))) st:=q;rw[lt'_eq];refine am (cQ ?_);rw[hk];rw[e1,e2]at q ⊢;rw[keyLt'_oneType];refine am (eF (fV (oneLt_int ⟨rfl,?_⟩)));exact ay q
def qfo{vs:List aa}{ns:List Int}(h:L2.qu (ns.map L2.V.int) vs){st':aj}(pm:(ah st').Perm (bM vs))(sr:Srt iO (λx=>nOf x.1) (ah st') 0 (bM vs).size) :
  ∃ms:List Int,L2.qu (ms.map L2.V.int) ((ah st').map (·.2)).toList/\ms.Perm ns/\ms.Pairwise (·<=·):=by
 have hl:(ah st').toList.Perm (vs.zip vs):=by
  have:=gk.mp pm
  rwa[lu]at this
 have hout:((ah st').map (·.2)).toList.Perm vs:=by
  rw[hV]
  have:=hl.map (·.2)
  rwa[kD (az _)]at this
 refine{((ah st').map (·.2)).toList.map nOf,J1 λv hv=>JA h v (hout.mem_iff.mp hv),?_,?_}
 ·have:=hout.map nOf
  rwa[qbd h]at this
 ·rw[hV,hZ];have h0:(ah st').size=(bM vs).size:=pm.size_eq;rw[<-h0]at sr
  have:=sr.pw
  refine ie.mpr ?_;refine iX (λ{a b} ha hb hab=>?_) this;have ea:=(gL (hl.mem_iff.mp ha)).1;have eb:=(gL (hl.mem_iff.mp hb)).1;have hab:iO.blt (nOf b.1) (nOf a.1)=false:=hab;rw[ea,eb]at hab;unfold iO at hab;simp at hab;exact hab
def qcg{v:aa}{Q:PQ}
  (hc:∀A':aH,A'.handled=A.handled->ak (al prog w) A' (collect v) (λvs s1=>∃ns,L2.qu (ns.map L2.V.int) vs/\vs.length<=sizeLine/\
   ∀(h2:au) (ms:List Int) (ws:Array aa) (e:Nat),L2.qu (ms.map L2.V.int) ws.toList->ms.Perm ns->ms.Pairwise (·<=·)->(∀b o,s1.heap.get? b=some o->h2.get? b=some o)->h2.get? s1.heap.objs.size=some (bZ "list" ws e)->Q (.ref s1.heap.objs.size) { s1 with heap:=h2 }) (λ_ _=>False) s) :
  ak (al prog w) A (call (.builtin "sorted") [v]) Q E s:=by
 refine mh kind_sorted plain_sorted entry_sorted (args_sorted1 _) ?_;unfold Builtin.«sorted»;refine ai (m:=checkCount "sorted" 1 1 _) (ax (ai ?_));refine dY (hc _ rfl) (λvs s1 h=>?_) (λ_ _ h=>h.elim);obtain⟨ns,hv,hsz,h⟩:=h;refine ai (lr ?_ hsz);show ak _ _ _ _ _ { s1 with heap:=s1.heap.push (bZ "list" vs.toArray 0) };have hoL:(s1.heap.push (bZ "list" vs.toArray 0)).get? s1.heap.objs.size=some (bZ "list" vs.toArray 0):=bg _ rfl
 have old:∀b o,s1.heap.get? b=some o->(s1.heap.push (bZ "list" vs.toArray 0)).get? b=some o/\b≠s1.heap.objs.size:=λb o e=>{aP _ e,aZ (aN e)}
 have S:Sorts prog w s1 vs iO (λx=>nOf x.1) oneType':=qcf hv
 have fin:∀st':aj,(ah st').Perm (bM vs)->Srt iO (λx=>nOf x.1) (ah st') 0 (bM vs).size->Q (.ref s1.heap.objs.size) { s1 with heap:=iA (s1.heap.push (bZ "list" vs.toArray 0)) s1.heap.objs.size vs ((ah st').map (·.2)) }:=λst' pm sr=>by obtain⟨ms,h1,h2,h3⟩:=qfo hv pm sr;obtain⟨e,he⟩:=sortedHeap_at (out:=(ah st').map (·.2)) hoL;refine h _ ms _ e h1 h2 h3 (λb o eb=>?_) he;have hlt:=aN eb;rw[sortedHeap_old (aZ hlt) (by rw[size_push'];exact kC hlt)];exact aP _ eb
 refine ai (cK (eG slot_list_sort ⟨_,hoL,rfl⟩ entry_list_sort (qdi S hoL hsz old λst' a1 a2=>{_,rfl,?_}) (args_list_sort _)));exact ax ⟨_,rfl,fin st' a1 a2⟩
end
end TS
namespace L2
open PySem PySem.Spec PyProof.Rows PySem.W
theorem qfp{P:aE}{w:aB}{H:Hp}{h:au}{a:ad}{o:HO}(x:qH P w H h a o):∃ob,h.get? a=some ob:=by
 cases o with
 |lst xs=>obtain⟨z,its,n,r,e⟩:=x;exact{_,e}
 |tup xs=>obtain⟨z,its,r,ob,e,c⟩:=x;exact{_,e}
 |dK kvs=>obtain⟨z,y,vs,r,ob,es,ep,e,c⟩:=x;exact{_,e}
 |dT kvs=>obtain⟨z,y,xs,r,ob,es,ep,e,c⟩:=x;exact{_,e}
 |set S n=>obtain⟨ob,es,ep,t,e,c⟩:=x;exact{_,e}
 |ins C dx fs=>obtain⟨d,z,ne,e,_⟩:=x;exact{_,e}
 |own y=>obtain⟨ob,e⟩:=x;exact{_,e}
 |xd fs=>obtain⟨mA,⟨od,es,ep,e,c⟩,r⟩:=x;exact{_,e}
 |rng lo hi=>obtain⟨t,u,v,e⟩:=x;exact{_,e}
 |frz ob u=>obtain⟨e,q⟩:=x;exact{_,e}
 |tbl ps=>exact{_,x}
 |met f y=>exact{_,x}
 |ext φ=>obtain⟨p,⟨o,e⟩,st⟩:=x;exact{_,e}
section
variable{X:Cx}{pins:PP}{Z:St}{H:Hp}{s:ag}
variable{x T':ad}{oT:Option ad}{oe:Obj}{vs:Array aa}{h':au}
theorem Inv.newH{x:ad}(I:Inv X pins Z H s)(h:s.heap.get? x=none):H x=none:=by
 cases e:H x with
 |none=>rfl
 |some u=>obtain⟨o,q⟩:=qfp (I.hok x u e);rw[h]at q;cases q
end
def Its(x:Str):It:={λi _=>i < x.cps.size,λi H v H'=>H'=H/\∃c,x.cps[i]?=some c/\v=.str {#[c]},λi _=>i=x.cps.size}
def qfq{P:aE}{w:aB}{K:Frag}{tg:ae}{x:Str}{t:Tok}{it:ad}{T:String}(hT:T = "str_ascii_iterator"\/T = "str_iterator")(W:∀A':aH,A'.handled=none->Walks P w A' it [it] [it] x.cps.size (SignAt x) (λi h=>h.IsStrIter it T x t i)) :
  Turn P w K tg (Its x) [it] it (λi h=>h.IsStrIter it T x t i) where
 mem:=by simp
 obj:=λi h st b hb=>by
  have e:b=it:=(-hb:)
  subst e;obtain⟨o,e,c,d⟩:=st;exact{o,e,λv z=>by rw[d]at z;cases z}
 keep:=λi h h' st k=>let ⟨o,e,r⟩:=st;⟨o,k it (5:) o e,r⟩
 item:=by intro X hP hw hK hc i pins s Z H E I hf st hg;subst hP hw hK;obtain⟨f0,f1,f2,f3,f4,f5⟩:=hf it (5:);refine(W X.A (I.ok.hd hc)).item i s _ _ hg st λv h' tk hv st' kk=>?_;obtain⟨c,u,hcx,rfl⟩:=hv;have I1:Inv X pins Z H { s with heap:=h',toks:=tk }:=I.turned (λb o hb e=>kk b o (-hb:) e) f0 f1 f3 f4 f5;obtain⟨o,e1,e2,e3⟩:=id st';refine{_,rfl,qcO (s:={ s with heap:=h',toks:=tk }) e1 e2 e3 (by rcases hT with z|z<;>(rw[z];decide)) ⟨.str ⟨#[c]⟩,H,I1,⟨u,rfl⟩,⟨rfl,c,hcx,rfl⟩,st',λb hb=>(hf b hb).1⟩}
 done:=by intro X hP hw hK hc i pins s Z H E I hf st hg;subst hP hw hK;obtain rfl:i=x.cps.size:=hg;obtain⟨f0,f1,f2,f3,f4,f5⟩:=hf it (5:);exact(W X.A (I.ok.hd hc)).done s _ _ st λh' tk kk=>{rfl,I.turned (λb o hb e=>kk b o (-hb:) e) f0 f1 f3 f4 f5}
 self:=λA i s Q E st h=>by
  rcases hT with z|z
  ·subst z;exact wpAny_pyIter_striter_ascii st h
  ·subst z;exact wpAny_pyIter_striter_wide st h
structure ClsFn(K:Frag)(C:ad)(m:Str)(f:ad):Prop where
 reads:readsIn K C (.type "type")=true
 sp:specialIn K (.ref C) "__getattribute__" = some (some (.builtin "type.__getattribute__"))
 at_:findCls K (.ref C) (.type "type") m=some (.val (.ref f))
 kp:keepIn K (.ref f)=true
section
variable{X:Cx}{CX:CXT}{k:Nat}{f C:ad}{fd:bO}{ps:List Str}{sp:Sp}{dvs:List V}{ds:List aa}{E:XK}{x m:Str}{p pos apos:Pos}{e:ae}{es:List ae}{t:TA}
def qbe{pl:Sem Bool}(hC:ClsFn X.K C m f)(F:FnOk X.prog X.w X.K X.mg X.base CX k f fd ps sp)(hr:Room k X.A)(hg:Gl X x)(hm:X.mg x=some (.ref C))(hb:zp X.K fd ps ds)(hd:qu dvs ds)(hx:jv CX X E)(ha:PA X (e::es) t)
  (hdb:(x == ("__debug__" : Str))=false:=by decide) (hst:aI (e::es) X.env=(false,eval e X.env)::aI es X.env:=by rfl) (hpl:(bu pos (aI es X.env)).any (·.1)=false:=by rfl)
  (ht:eval (.Call (.Attribute (.Name x p) m apos) (e::es) [] pos) X.env=(do
   let ov<-eval (.Name x p) X.env
   dZ apos.atName
   let (f,first)<-cJ [ov] (fN ov m pl)
   callWith pos f first (bu pos (aI (e::es) X.env)) (dJ pos (dM [] X.env))):=by rfl) :
  PE X (.Call (.Attribute (.Name x p) m apos) (e::es) [] pos) (qe9 sp dvs E t):=by
 intro pins s Z H Q I h;refine iV (pl:=pl) (yV I hg hm ?_ hdb) ht;refine method_cls I.kIn hC.sp (cls_value I.kIn hC.reads hC.at_ rfl ?_);have I1:=I.tok (s.toks+1);refine gR (first:=[]) (h₀:=X.base) I.ok.mod.kin hC.kp (thn (ha pos pins _ Z H _ I1 h) λus s2 z=>?_) hst hpl;obtain⟨vs,H2,I2,r,q⟩:=z;exact{I2.kIn,Zc F hr hb hd hx I2 r q}
end
def Itz(K:Frag)(a b:ad):It:=
 ⟨λi H=>∃xs ys x y,SqL K H a xs/\SqL K H b ys/\xs[i]?=some x/\ys[i]?=some y,
  λi H v H'=>∃T x y,v=.ref T/\H T=none/\H'=upd H T (.tup [x,y])/\∀xs ys,SqL K H a xs->SqL K H b ys->xs[i]?=some x/\ys[i]?=some y,
  λi H=>∃xs ys,SqL K H a xs/\SqL K H b ys/\(xs.length<=i\/ys.length<=i)⟩
def ZSt(z TI TO i1 i2 a b:ad)(i:Nat)(h:au):Prop:=IsZip h z TI TO .none/\IsPair h TI (.ref i1) (.ref i2)/\(∃u v,IsPair h TO u v)/\h.IsListIter i1 a i/\h.IsListIter i2 b i
def Inv.turnedAll{X:Cx}{pins:PP}{Z:St}{H:Hp}{s:ag}{h':au}{t':Nat}{ch:List ad}(I:Inv X pins Z H s)(k:∀b o,b∉ch->s.heap.get? b=some o->h'.get? b=some o)(hf:∀b∈ch,qb2 X pins H b):Inv X pins Z H { s with heap:=h',toks:=t' }:=by
 have nch:∀{b:ad} {u:HO},H b=some u->b∉ch:=λ{b u} e z=>by rw[(hf b z).1]at e;cases e
 refine I.step (g':=s.gens) (d':=s.drawn) (ch:=ch) (λb hb=>?_) (λb o _ _ hc e _=>k b o hc e) (λb o _ _ hc e _=>{o.slots,k b o hc e}) (λ_ _ _ _ n=>n) (λb o hc e=>{o,k b o hc e}) (λ_ _ e=>e) (λ_ _ _ e=>e) (λb ps e=>{#[],by rw[e];simp}) (λm hm=>?_) (λb u e=>?_) I.bare
 ·obtain⟨f0,f1,f2,f3,f4,f5⟩:=hf b hb;exact⟨f3,f1,f4,f5⟩
 ·obtain⟨o,es,ep,ho,r⟩:=hm;exact{o,es,ep,k _ o (λz=>(hf _ z).2.1 rfl) ho,r}
 ·refine(I.hok b u e).stay (λc v hc q=>k c v ?_ q) (λ_ q=>q) λ_ _ q=>q;rcases hc with z|z
  ·rw[z];exact nch e
  ·exact nch z
def Inv.turnedNew{X:Cx}{pins:PP}{Z:St}{H:Hp}{s:ag}{h':au}{t':Nat}{ch:List ad}{T:ad}{ob:HO}(I:Inv X pins Z H s)(k:∀b o,b∉ch->s.heap.get? b=some o->h'.get? b=some o)(hf:∀b∈ch,qb2 X pins H b)
  (hT:s.heap.get? T=none) (new:qH X.prog X.w (upd H T ob) h' T ob):Inv X pins Z (upd H T ob) { s with heap:=h',toks:=t' }:=by
 have hH:H T=none:=I.newH hT;have nch:∀{b:ad} {u:HO},H b=some u->b∉ch:=λ{b u} e z=>by rw[(hf b z).1]at e;cases e
 have nT:∀{b:ad} {u:HO},H b=some u->b≠T:=λ{b u} e z=>by rw[z,hH]at e;cases e
 have up:∀{b:ad} {u:HO},H b=some u->upd H T ob b=some u:=λ{b u} e=>by rw[qd (nT e)];exact e
 refine I.step (g':=s.gens) (d':=s.drawn) (ch:=ch) (λb hb=>?_) (λb o _ _ hc e _=>k b o hc e) (λb o _ _ hc e _=>{o.slots,k b o hc e}) (λb o _ e n=>?_) (λb o hc e=>{o,k b o hc e}) (λ_ _ e=>up e) (λ_ _ _ e=>up e) (λb ps e=>{#[],by rw[up e];simp}) (λm hm=>?_) (λb u e=>?_) I.bare
 ·obtain⟨f0,f1,f2,f3,f4,f5⟩:=hf b hb;exact⟨f3,f1,f4,f5⟩
 ·rw[qd (λz=>by rw[z,hT]at e;cases e)];exact n
 ·obtain⟨o,es,ep,ho,r⟩:=hm;exact{o,es,ep,k _ o (λz=>(hf _ z).2.1 rfl) ho,r}
 ·by_cases hb:b=T
  ·subst hb;rw[qf]at e;cases e;exact new
  ·rw[qd hb]at e;refine(I.hok b u e).stay (λc v hc q=>k c v ?_ q) (λ_ q=>up q) λ_ _ q=>up q;rcases hc with z|z
   ·rw[z];exact nch e
   ·exact nch z
def qfr{P:aE}{w:aB}{K:Frag}{elts:List ae}{kk:Nat}{pos:Pos}{z TI TO i1 i2 a b:ad}(D:ZipApart z TI TO i1 i2 a b) :
  Turn P w K (.Tuple elts kk pos) (Itz K a b) [z,TI,TO,i1,i2] z (ZSt z TI TO i1 i2 a b) where
 mem:=by simp
 obj:=λi h st c hc=>by
  obtain⟨s1,s2,⟨u,v,s3⟩,⟨o4,s4,_,d4⟩,⟨o5,s5,_,d5⟩⟩:=st;simp at hc;rcases hc with rfl|rfl|rfl|rfl|rfl
  ·exact{_,s1,λv q=>by cases q}
  ·exact{_,s2,λv q=>by cases q}
  ·exact{_,s3,λv q=>by cases q}
  ·exact{_,s4,λv q=>by rw[d4]at q;cases q}
  ·exact{_,s5,λv q=>by rw[d5]at q;cases q}
 keep:=λi h h' st k=>by obtain⟨s1,s2,⟨u,v,s3⟩,s4,s5⟩:=st;exact{k z (5:) _ s1,k TI (5:) _ s2,{u,v,k TO (5:) _ s3},s4.at λo e=>k i1 (5:) o e,s5.at λo e=>k i2 (5:) o e}
 item:=by
  intro X hP hw hK hc i pins s Z H E I hf st hg;subst hP hw hK;obtain⟨xs,ys,x,y,qa,qb,hx,hy⟩:=hg;obtain⟨s1,s2,⟨u,v,s3⟩,s4,s5⟩:=st;obtain⟨ia,ra,pa,za⟩:=I.list qa;obtain⟨ib,rb,pb,zb⟩:=I.list qb;obtain⟨ux,ex,rx⟩:=ra.get hx;obtain⟨uy,ey,ry⟩:=rb.get hy;refine wpAny_pyNext_zip_item D s1 s2 s3 s4 s5 pa.isList pb.isList (x:=ux) (y:=uy) (-ex:) (-ey:) λh' a1 a2 a3 a4 a5 a6 kp=>?_;refine{_,rfl,wpAny_letOwnedTupleGo_zip (s:={ s with heap:=h' }) a1 λh2 b1 b2=>?_};have two:(2:Nat)<=sizeLine:=Nat.le_of_lt (Zk (2:))
  have kp2:∀c o,c∉[z,TI,TO,i1,i2]->s.heap.get? c=some o->h2.get? c=some o:=λc o hc e=>by simp at hc;exact b2.extBut c o hc.1 (kp c o hc.1 hc.2.2.1 hc.2.2.2.1 hc.2.2.2.2 e)
  have I1:Inv X pins Z H { s with heap:=h2 }:=I.turnedAll (t':=s.toks) kp2 hf
  have hnew:s.heap.get? s.heap.objs.size=none:=by
   cases q:s.heap.get? s.heap.objs.size with
   |none=>rfl
   |some o=>exact absurd (aN q) (ej _)
  have hH:H s.heap.objs.size=none:=I.hok.fresh (az _);have hTz:s.heap.objs.size≠z:=fg (aN s1);have hT2:IsPair h2 s.heap.objs.size ux uy:=b2.extBut _ _ hTz a5;have hf2:=hf;have I2:Inv X pins Z (upd H s.heap.objs.size (.tup [x,y])) { s with heap:=h2 }:=I.turnedNew (t':=s.toks) kp2 hf hnew ⟨two,[ux,uy],.cons rx %[ry|0],_,hT2,rfl,0,rfl⟩;refine{.ref s.heap.objs.size,_,I2,rfl,{_,x,y,rfl,hH,rfl,λxs' ys' h1 h2=>?_},?_,λc hc=>?_}
  ·rw[I.list_inj h1 qa,I.list_inj h2 qb];exact⟨hx,hy⟩
  ·exact{b1,b2.extBut _ _ D.TIz (kp TI _ D.TIz D.TITO D.TIi1 D.TIi2 s2),{_,_,b2.extBut _ _ D.TOz a2},a3.extBut b2.extBut D.i1z,a4.extBut b2.extBut D.i2z}
  ·have hc0:=(hf c hc).1;rw[qd]
   ·exact hc0
   ·intro q
    have e:∃o,s.heap.get? c=some o:=by
     simp at hc;rcases hc with rfl|rfl|rfl|rfl|rfl
     ·exact{_,s1}
     ·exact{_,s2}
     ·exact{_,s3}
     ·obtain⟨o,e,_⟩:=s4;exact⟨o,e⟩
     ·obtain⟨o,e,_⟩:=s5;exact⟨o,e⟩
    obtain⟨o,e⟩:=e;rw[q,hnew]at e;cases e
 done:=by intro X hP hw hK hc i pins s Z H E I hf st hg;subst hP hw hK;obtain⟨xs,ys,qa,qb,hend⟩:=hg;obtain⟨s1,s2,⟨u,v,s3⟩,s4,s5⟩:=st;obtain⟨ia,ra,pa,za⟩:=I.list qa;obtain⟨ib,rb,pb,zb⟩:=I.list qb;have la:=ra.length;have lb:=rb.length;refine wpAny_pyNext_zip_end (I.ok.hd hc) D s1 s2 s3 s4 s5 pa.isList pb.isList (by simp;lia) λh' kp=>{rfl,I.turnedAll (t':=s.toks) (λc o hc e=>?_) hf};simp at hc;exact kp c o hc.1 hc.2.2.1 hc.2.2.2.1 hc.2.2.2.2 e
 self:=λA i s Q E st h=>wpAny_pyIter_zip st.1 h
def qpi(K:Frag)(ta:TA):TI:=λZ H R=>ta Z H λvs H1=>∃a b,vs=[.ref a,.ref b]/\(∃xs,SqL K H1 a xs)/\(∃ys,SqL K H1 b ys)/\R (Itz K a b) H1
section
variable{X:Cx}
def qkA{ea eb:ae}{elts:List ae}{kk:Nat}{tpos p pos:Pos}{ta:TA}(hg:Gl X "zip")(hm:X.mg "zip" = none)(ha:PA X [ea,eb] ta)(hs:aI [ea,eb] X.env=[(false,eval ea X.env),(false,eval eb X.env)]:=by rfl)(hs2:aI [eb] X.env=[(false,eval eb X.env)]:=by rfl) :
  PI X (.Tuple elts kk tpos) (.Call (.Name "zip" p) [ea,eb] [] pos) (qpi X.K ta):=by
 intro pins s Z H R I h;refine Call_ (Ja I hg hm boot_zip (fc (thn (ha pos pins s Z H _ I h) λus s1 z=>?_) (by rw[hs,hs2]) (by rw[hs2];rfl)));obtain⟨vs,H1,I1,r1,a,b,rfl,⟨xs,qa⟩,⟨ys,qb⟩,q⟩:=z;obtain⟨u,v,rfl,ru,rv⟩:=Q8 r1;cases ru;cases rv;obtain⟨ia,ra,pa,za⟩:=I1.list qa;obtain⟨ib,rb,pb,zb⟩:=I1.list qb;have la:a < s1.heap.objs.size:=by obtain⟨_,e,_⟩:=pa.isList;exact aN e
 have lb:b < s1.heap.objs.size:=by obtain⟨_,e,_⟩:=pb.isList;exact aN e
 refine call_zip_2 pa.isList pb.isList λh' z1 z2 z3 z4 z5 z6 kp=>wpAny_pyIter_zip z1 ?_
 have D:ZipApart (s1.heap.objs.size+4) (s1.heap.objs.size+2) (s1.heap.objs.size+3) s1.heap.objs.size (s1.heap.objs.size+1) a b:=by constructor<;>(first|exact aZ (bn la (cG _ _))|exact aZ (bn lb (cG _ _))|exact aZ la|exact aZ lb|exact aZ (1:)|exact fg (1:))
 refine{s1.heap.objs.size+4,[s1.heap.objs.size+4,s1.heap.objs.size+2,s1.heap.objs.size+3,s1.heap.objs.size,s1.heap.objs.size+1],_,_,H1,rfl,I1.kept (t':=s1.toks) kp,qfr D,{z1,z2,{_,_,z3},z4,z5},λc hc=>?_,q}
 have:s1.heap.objs.size<=c:=by
  simp at hc;rcases hc with rfl|rfl|rfl|rfl|rfl
  ·exact cG _ _
  ·exact cG _ _
  ·exact cG _ _
  ·exact az _
  ·exact cG _ _
 exact I1.fpOk this (I1.hok.fresh this)
end
open PyProof
section
variable{X:Cx}
theorem qkB:SlR X (λx lo hi H Q=>∃z,x=.str z/\z.length<=sizeLine/\Q (.str (Txt.slice z lo hi)) H):=by
 intro pins s Z H x v vl vu lo hi sl Q I rx hs pl pu h;obtain⟨z,rfl,hz,q⟩:=h;obtain⟨t,rfl⟩:=rx;refine{"str",_,F.slot_str_getitem.lookup,typeIs_str _ _ _,?_};obtain⟨o,e1,e2,e3⟩:=hs
 cases pl with
 |none=>
  cases pu with
  |none=>exact iB (l:=none) (u:=none) (st:=none) ⟨o,e1,e2,e3⟩ rfl (iC ⟨bz (ig z _ _) hz,λt' k=>{.str _,H,I.tok k,⟨t',rfl⟩,q}⟩)
  |int j uj=>exact iB (l:=none) (u:=some (j,uj)) (st:=none) ⟨o,e1,e2,e3⟩ rfl (iC ⟨bz (ig z _ _) hz,λt' k=>{.str _,H,I.tok k,⟨t',rfl⟩,q}⟩)
 |int i ui=>
  cases pu with
  |none=>exact iB (l:=some (i,ui)) (u:=none) (st:=none) ⟨o,e1,e2,e3⟩ rfl (iC ⟨bz (ig z _ _) hz,λt' k=>{.str _,H,I.tok k,⟨t',rfl⟩,q}⟩)
  |int j uj=>exact iB (l:=some (i,ui)) (u:=some (j,uj)) (st:=none) ⟨o,e1,e2,e3⟩ rfl (iC ⟨bz (ig z _ _) hz,λt' k=>{.str _,H,I.tok k,⟨t',rfl⟩,q}⟩)
end
def Ite(K:Frag)(a:ad):It:=
 ⟨λi H=>∃xs x,SqL K H a xs/\xs[i]?=some x,
  λi H v H'=>∃T x,v=.ref T/\H T=none/\H'=upd H T (.tup [.int i,x])/\∀xs,SqL K H a xs->xs[i]?=some x,
  λi H=>∃xs,SqL K H a xs/\xs.length<=i⟩
def ESt(e it a:ad)(i:Nat)(h:au):Prop:=(∃old,IsEnum h e it ((i:Nat):Int) old)/\h.IsListIter it a i
def qdr{P:aE}{w:aB}{K:Frag}{elts:List ae}{kk:Nat}{pos:Pos}{e it a:ad}(hne:e≠it) :
  Turn P w K (.Tuple elts kk pos) (Ite K a) [e,it] e (ESt e it a) where
 mem:=by simp
 obj:=λi h st c hc=>by
  obtain⟨⟨old,s1⟩,⟨o4,s4,_,d4⟩⟩:=st;simp at hc;rcases hc with rfl|rfl
  ·exact{_,s1,λv q=>by cases q}
  ·exact{_,s4,λv q=>by rw[d4]at q;cases q}
 keep:=λi h h' st k=>by obtain⟨⟨old,s1⟩,s4⟩:=st;exact{{old,k e (5:) _ s1},s4.at λo e=>k it (5:) o e}
 item:=by
  intro X hP hw hK hc i pins s Z H E I hf st hg;subst hP hw hK;obtain⟨xs,x,qa,hx⟩:=hg;obtain⟨⟨old,s1⟩,s4⟩:=st;obtain⟨ia,ra,pa,za⟩:=I.list qa;obtain⟨ux,ex,rx⟩:=ra.get hx;refine wpAny_pyNext_enum_item s1 s4 pa.isList (x:=ux) (-ex:) hne λh' a1 a2 a3 a4 kp=>?_;refine{_,rfl,wpAny_letOwnedTupleGo_enum (s:={ s with heap:=h',toks:=s.toks+1 }) a1 λh2 b1 b2=>?_};have two:(2:Nat)<=sizeLine:=Nat.le_of_lt (Zk (2:))
  have kp2:∀c o,c∉[e,it]->s.heap.get? c=some o->h2.get? c=some o:=λc o hc q=>by simp at hc;exact b2.extBut c o hc.1 (kp c o hc.1 hc.2 q)
  have hnew:s.heap.get? s.heap.objs.size=none:=by
   cases q:s.heap.get? s.heap.objs.size with
   |none=>rfl
   |some o=>exact absurd (aN q) (ej _)
  have hH:H s.heap.objs.size=none:=I.hok.fresh (az _);have hTe:s.heap.objs.size≠e:=fg (aN s1);have hT2:IsPair h2 s.heap.objs.size (.int i s.toks) ux:=b2.extBut _ _ hTe a3;have I2:Inv X pins Z (upd H s.heap.objs.size (.tup [.int i,x])) { s with heap:=h2,toks:=s.toks+1 }:=I.turnedNew (t':=s.toks+1) kp2 hf hnew ⟨two,[.int i s.toks,ux],.cons ⟨_,rfl⟩ %[rx|0],_,hT2,rfl,0,rfl⟩;refine{.ref s.heap.objs.size,_,I2,rfl,{_,x,rfl,hH,rfl,λxs' h1=>?_},?_,λc hc=>?_}
  ·rw[I.list_inj h1 qa];exact hx
  ·have e1:((i+1:Nat):Int)=(i:Int)+1:=by lia
   refine{{ux,?_},a2.extBut b2.extBut (cj hne)};rw[e1];exact b1
  ·have hc0:=(hf c hc).1;rw[qd]
   ·exact hc0
   ·intro q
    have e:∃o,s.heap.get? c=some o:=by
     simp at hc;rcases hc with rfl|rfl
     ·exact{_,s1}
     ·obtain⟨o,e,_⟩:=s4;exact⟨o,e⟩
    obtain⟨o,e⟩:=e;rw[q,hnew]at e;cases e
 done:=by intro X hP hw hK hc i pins s Z H E I hf st hg;subst hP hw hK;obtain⟨xs,qa,hend⟩:=hg;obtain⟨⟨old,s1⟩,s4⟩:=st;obtain⟨ia,ra,pa,za⟩:=I.list qa;have la:=ra.length;refine wpAny_pyNext_enum_end (I.ok.hd hc) s1 s4 pa.isList (by simp;lia) λh' kp=>{rfl,I.turnedAll (t':=s.toks) (λc o hc e=>?_) hf};simp at hc;exact kp c o hc.2 e
 self:=λA i s Q E st h=>by obtain⟨⟨old,s1⟩,_⟩:=st;exact wpAny_pyIter_enum s1 h
def qnz(K:Frag)(ta:TA):TI:=λZ H R=>ta Z H λvs H1=>∃a,vs=[.ref a]/\(∃xs,SqL K H1 a xs)/\R (Ite K a) H1
section
variable{X:Cx}
def qie{ea:ae}{elts:List ae}{kk:Nat}{tpos p pos:Pos}{ta:TA}(hg:Gl X "enumerate")(hm:X.mg "enumerate" = none)(ha:PA X [ea] ta)(hs:aI [ea] X.env=[(false,eval ea X.env)]:=by rfl) :
  PI X (.Tuple elts kk tpos) (.Call (.Name "enumerate" p) [ea] [] pos) (qnz X.K ta):=by
 intro pins s Z H R I h;refine Call_ (Ja I hg hm boot_enumerate (fc (thn (ha pos pins s Z H _ I h) λus s1 z=>?_) hs rfl));obtain⟨vs,H1,I1,r1,a,rfl,⟨xs,qa⟩,q⟩:=z;obtain⟨u,rfl,ru⟩:=yt r1;cases ru;obtain⟨ia,ra,pa,za⟩:=I1.list qa;refine call_enumerate_list pa.isList λh' z1 z2 z3 kp=>wpAny_pyIter_enum z1 ?_;refine{s1.heap.objs.size+1,[s1.heap.objs.size+1,s1.heap.objs.size],_,_,H1,rfl,I1.kept (t':=s1.toks) kp,qdr (Nat.succ_ne_self _),{{_,z1},z2},λc hc=>?_,q}
 have:s1.heap.objs.size<=c:=by
  simp at hc;rcases hc with rfl|rfl
  ·exact cG _ _
  ·exact az _
 exact I1.fpOk this (I1.hok.fresh this)
end
def Itv(K:Frag)(a:ad)(xs:List V):It:=
 ⟨λi H=>SqL K H a xs/\i < xs.length,λi H x H'=>H'=H/\xs[xs.length - 1 - i]?=some x,λi H=>SqL K H a xs/\xs.length=i⟩
def qfs{P:aE}{w:aB}{K:Frag}{tg:ae}(a it:ad)(xs:List V):Turn P w K tg (Itv K a xs) [it] it (λi h=>h.IsRevIter it a ((xs.length:Int) - 1 - i)) where
 mem:=by simp
 obj:=λi h st b hb=>by
  have e:b=it:=(-hb:)
  subst e;obtain⟨o,e,c,d⟩:=st;exact{o,e,λv z=>by rw[d]at z;cases z}
 keep:=λi h h' st k=>st.at λo e=>k it (5:) o e
 item:=by
  intro X hP hw hK hc i pins s Z H E I hf st hg;subst hP hw hK;obtain⟨hq,hi⟩:=hg;obtain⟨its,rv,p,hz⟩:=I.list hq;have hx:xs[xs.length - 1 - i]?=some xs[xs.length - 1 - i]:=bK (by omega);obtain⟨u,hu,ru⟩:=rv.get hx;obtain⟨f0,f1,f2,f3,f4,f5⟩:=hf it (5:);have e1:(xs.length:Int) - 1 - i=((xs.length - 1 - i:Nat):Int):=by omega
  rw[e1]at st;refine wpAny_pyNext_rev_item st p.isList (x:=u) (-hu:) λh' st' sb=>?_;have I1:Inv X pins Z H { s with heap:=h' }:=I.turned (t':=s.toks) (λb o hb e=>(sb.2 b hb).trans e) f0 f1 f3 f4 f5;have e2:((xs.length - 1 - i:Nat):Int) - 1=(xs.length:Int) - 1 - ((i+1:Nat):Int):=by lia
  rw[e2]at st';obtain⟨o,e,c,d⟩:=id st';exact{u,rfl,qcO (s:={ s with heap:=h' }) e c d (2:) ⟨_,H,I1,ru,⟨rfl,hx⟩,st',λb hb=>(hf b hb).1⟩}
 done:=by
  intro X hP hw hK hc i pins s Z H E I hf st hg;subst hP hw hK;obtain⟨hq,hi⟩:=hg;obtain⟨f0,f1,f2,f3,f4,f5⟩:=hf it (5:);have e1:(xs.length:Int) - 1 - i = -1:=by lia
  rw[e1]at st;exact wpAny_pyNext_rev_end (I.ok.hd hc) st λh' eb=>{rfl,I.turned (t':=s.toks) (λb o hb e=>eb b o hb e) f0 f1 f3 f4 f5}
 self:=λ_ _ _ _ _ st h=>wpAny_pyIter_revIter st h
def qpj(K:Frag)(ta:TA):TI:=λZ H R=>ta Z H λvs H1=>∃a xs,vs=[.ref a]/\SqL K H1 a xs/\R (Itv K a xs) H1
section
variable{X:Cx}
def qkC{ea tg:ae}{p pos:Pos}{ta:TA}(hg:Gl X "reversed")(hm:X.mg "reversed" = none)(ha:PA X [ea] ta)(hs:aI [ea] X.env=[(false,eval ea X.env)]:=by rfl) :
  PI X tg (.Call (.Name "reversed" p) [ea] [] pos) (qpj X.K ta):=by
 intro pins s Z H R I h;refine Call_ (Ja I hg hm boot_reversed (fc (thn (ha pos pins s Z H _ I h) λus s1 z=>?_) hs rfl));obtain⟨vs,H1,I1,r1,a,xs,rfl,qa,q⟩:=z;obtain⟨u,rfl,ru⟩:=yt r1;cases ru;obtain⟨ia,ra,pa,za⟩:=I1.list qa;have la:=ra.length;refine call_reversed_list pa.isList ?_;refine wpAny_pyIter_revIter ⟨_,bg _ rfl,rfl,rfl⟩ ?_;refine{s1.heap.objs.size,[s1.heap.objs.size],_,_,H1,rfl,I1.kept (t':=s1.toks) λb o e=>aP _ e,qfs a _ xs,{_,bg _ rfl,rfl,?_},λb hb=>?_,q}
 ·show Data.fields #[.ref a,bH ((ia.toArray.size:Int) - 1)]=_
  have:(ia.toArray.size:Int) - 1=(xs.length:Int) - 1 - ((0:Nat):Int):=by simp;lia
  rw[this]
 ·have e:b=s1.heap.objs.size:=(-hb:)
  subst e;exact I1.fpOk (az _) (I1.hok.fresh (az _))
end
def rsz(lo hi c:Int):Nat:=if lo < hi then ((hi - lo - 1) / c+1).toNat else 0
section
variable{prog:aE}{w:aB}{A:aH}{E:PQ}{s:ag}
def Zt:typeLookup (.type "list") "keys" = pure none:=am_miss_of_fast (4:)
def qkD{a:ad}{o:Obj}{xs:Array aa}{k:Nat}{Q:Option aa->ag->Prop}(hx:s.heap.get? a=some o)(hc:o.cls=.type "list")(hdat:o.data=.seq xs k)(hd:o.dict=none)(hA:A.handled=none)
  (h:∀h' tk,(∀b ob,s.heap.get? b=some ob->h'.get? b=some ob)->Q none { s with heap:=h',toks:=tk }):ak (al prog w) A (getAttr? (.ref a) "keys") Q E s:=by
 obtain⟨c,dct,dat,sl⟩:=o;simp only at hc hdat hd;subst hc hdat hd;obtain⟨hp,g,d,tk,os⟩:=s;have hT:∀tk',(⟨hp,g,d,tk',os⟩:ag).TypeIs (.ref a) "list":=λ_=>{_,hx,rfl};have f1:=sub_AttributeError;have f3:=iZ.lookup;have f4:=iZ.bind (.ref a);have f5:=am_list_getattr_none;unfold getAttr? getAttrBy? getAttrBy
 repeat (any_goals (first|assumption|exact hT _|((with_reducible show ak _ _ (call (Value.builtin "list.__getattribute__") _ _) _ _ _);refine call_meets iZ (hT _) am_entry_list_getattribute (PySem.F.args_list_getattribute_2 _ _) (meets_getattribute_miss_list a xs k sl _ _ Zt (3:)) ⟨hx,hA,λh' tk' e hx'=>?_⟩)|wp_step))
 obtain⟨t',u',he⟩:=hx'.there;show ak _ _ (getattributeRaised _ _ _ _ _ _ _) _ _ _;unfold getattributeRaised
 repeat (any_goals (first|assumption|wp_step))
 exact h _ _ hx'.keeps
def qbf:entryFor table "dict.update.loop" = some Builtin.«dict.update.loop»:=entryFor_of_tree (4:)
def JB:plainId "dict.update.loop" = true:=(3:)
def qif(prog:aE)(w:aB)(h:au)(items:Array aa)(ps:List (Key×aa)):Prop:=items.size=ps.length/\∀(i:Nat) (kv:Key×aa),ps[i]?=some kv->∃(b:ad) (ku:aa),items[i]?=some (.ref b)/\h.IsTuple b #[ku,kv.2]/\(qt prog w).is kv.1 ku=true
theorem qkE{h0:au}{D I l:ad}{items:Array aa}{ps:List (Key×aa)}{R:Result->ag->Prop}(hD:h0.get? D=none)(hI:h0.get? I=none)(hne:D≠I)(hl:h0.IsList l items)(hps:qif prog w h0 items ps)(hz:ps.length<=sizeLine)(hh:A.handled=none) :
  ∀(k i:Nat) (t:Tok) (s:ag),ps.length - i=k->i<=ps.length->(∀b o,h0.get? b=some o->s.heap.get? b=some o)->s.heap.IsListIter I l i->s.heap.DictOf (qt prog w) D (merged [] (ps.take i))->
   (∀h' tk,(∀b o,h0.get? b=some o->h'.get? b=some o)->h'.DictOf (qt prog w) D (merged [] ps)->R (.ok (.ret .none)) { s with heap:=h',toks:=tk })->
   de (al prog w) A (.builtin "dict.update.loop" ⟨[.ref D,.ref I,.int i t,.none],[]⟩) R s:=by
 have old:∀{b:ad} {o:Obj},h0.get? b=some o->b≠D/\b≠I:=λ{b o} e=>{λz=>(by rw[z,hD]at e;cases e),λz=>(by rw[z,hI]at e;cases e)};intro k
 induction k with
 |zero=>
  intro i t s hk hi ho it dd hR;have hin:i=ps.length:=by lia
  subst hin;refine eH qbf ?_;rw[eS JB _];show ak _ A.in1 (cn (.ref I) >>= _) _ _ s;have hl':s.heap.IsList l items:=hl.at λo e=>ho _ _ e;refine ai (mK (-hh:) it hl' (by simp[hps.1]) λh' eb=>?_);rw[gj]at dd;show ak _ A.in1 (Builtin.Dict.addKeywords D [] >>= _) _ _ _;refine ai (ax (ax (hR h' s.toks (λb o e=>eb b o (old e).2 (ho b o e)) ?_)));obtain⟨o,es,ep,h1,r⟩:=dd;exact{o,es,ep,eb D o hne h1,r}
 |succ k ih=>
  intro i t s hk hi ho it dd hR;have hlt:i < ps.length:=by lia
  obtain⟨kv,hkv⟩:∃kv,ps[i]?=some kv:={ps[i],bK _};obtain⟨b,ku,h1,h2,h3⟩:=hps.2 i kv hkv;have hl':s.heap.IsList l items:=hl.at λo e=>ho _ _ e;refine eH qbf ?_;rw[eS JB _];show ak _ A.in1 (cn (.ref I) >>= _) _ _ s;refine ai (mJ it hl' h1 λh' it' sb=>?_);have ho':∀b o,h0.get? b=some o->h'.get? b=some o:=λb o e=>(sb.2 b (old e).2).trans (ho b o e)
  have dd':h'.DictOf (qt prog w) D (merged [] (ps.take i)):=by obtain⟨o,es,ep,q,r⟩:=dd;exact{o,es,ep,(sb.2 D hne).trans q,r}
  obtain⟨ot,q1,q2,n,q3⟩:=h2;have hT:ii { s with heap:=h' } (.ref b) "tuple":={ot,ho' _ _ q1,q2};show ak _ A.in1 (cJ [bm b] _ >>= _) _ _ _;refine ai (cK (ai (wpAny_tryCatch ?_)));unfold Builtin.Dict.pairItems;refine ai (iD hT ?_);rw[if_pos (2:)];refine ai (lx (ho' _ _ q1) q3 (ax ?_));show ak _ A.in1 (cJ [ku,kv.2] (dictSet D ku kv.2)) _ _ _;unfold dictSet;refine cK (cK (ai ((qt prog w).pyHash (k:=kv.1) h3 ?_)))
  have hmx:(merged [] (ps.take i)).length<=sizeLine:=by
   have e1:=merged_length_le ([]:List (Key×aa)) (ps.take i);have e2:(ps.take i).length<=ps.length:=by rw[gZ];lia
   simp![kF]at e1
   lia
  refine wpAny_dictSetHashed_pairs (s:={ s with heap:=h',toks:=s.toks+1 }) (hsz:=hmx) h3 dd' λh'' dd'' sb'=>?_;refine ax ⟨e9 JB _,ih (i+1) _ _ (by omega) hlt (λb o e=>(sb'.2 b (old e).1).trans (ho' b o e)) ?_ ?_ hR⟩
  ·obtain⟨o,z,r⟩:=it';exact{o,(sb'.2 I (cj hne)).trans z,r}
  ·rw[merged_take_succ [] ps i kv hkv];exact dd''
def qch{l:ad}{ol:Obj}{items:Array aa}{n:Nat}{ps:List (Key×aa)}{Q:PQ}(hh:A.handled=none)(hx:s.heap.get? l=some ol)(hc:ol.cls=.type "list")(hdat:ol.data=.seq items n)(hd:ol.dict=none)(hps:qif prog w s.heap items ps)(hz:ps.length<=sizeLine)
  (h:∀h' tk,(∀b o,s.heap.get? b=some o->h'.get? b=some o)->h'.DictOf (qt prog w) s.heap.objs.size (merged [] ps)->Q (.ref s.heap.objs.size) { s with heap:=h',toks:=tk }) :
  ak (al prog w) A (call (.type "dict") [.ref l]) Q E s:=by
 refine callType_codes (Q₁:=λobj s₁=>obj=.ref s.heap.objs.size/\s₁={ s with heap:=s.heap.push { cls:=.type "dict",data:=.dict #[] } }) PySem.F.kt_called_dict (PySem.F.kt_typeCall_dict_1 _) PySem.F.entry_dict_init (kt_code_dict_new _ ⟨rfl,rfl⟩) ?_;rintro obj s₁ ⟨rfl,rfl⟩;have hnew:(s.heap.push { cls:=.type "dict",data:=.dict #[] }).DictOf (qt prog w) s.heap.objs.size []:=Heap.DictOf.new s.heap;have hx':(s.heap.push { cls:=.type "dict",data:=.dict #[] }).get? l=some ol:=aP _ hx;have hT:ii { s with heap:=s.heap.push { cls:=.type "dict",data:=.dict #[] } } (.ref l) "list":=⟨ol,hx',hc⟩;refine{hnew.typeIs,PySem.F.args_dict_init_2 _ _,?_};unfold Builtin.«dict.__init__»;refine ai ?_;unfold Builtin.Dict.selfAndRest;refine ai (wpAny_notOrdered_dict hnew.typeIs ?_);show ak _ _ (pure (s.heap.objs.size,[bm l])) _ _ _;refine ax ?_;show ak _ _ (lI "dict.__init__" s.heap.objs.size (.ref l) [] .none) _ _ _;unfold lI;refine ai (iD hT ?_);rw[if_pos (2:)];refine ai (qkD hx' hc hdat hd (-hh:) λh1 tk1 k1=>?_);rw[if_pos (by rfl)];refine ai (dg ?_);have hl1:h1.IsList l items:={ol,k1 _ _ hx',hc,n,hdat};refine ai (ly hl1 ?_);have k0:∀b o,s.heap.get? b=some o->(h1.push { cls:=.type "list_iterator",data:=.fields #[.ref l,.int 0 0] }).get? b=some o:=λb o e=>aP _ (k1 b o (aP _ e));obtain⟨od,es,ep,hod,rd⟩:=hnew;have hlt:s.heap.objs.size < h1.objs.size:=aN (k1 _ _ hod);have hDI:s.heap.objs.size≠h1.objs.size:=aZ hlt;refine ax ⟨e9 JB _,?_⟩;refine qkE (h0:=s.heap) (l:=l) (items:=items) (ps:=ps) (i8 (az _)) (i8 (Nat.le_of_lt hlt)) hDI ⟨ol,hx,hc,n,hdat⟩ hps hz (-hh:) _ 0 _ _ rfl (bd _) k0 ?_ ?_ λh' tk ko dd=>?_
 ·exact{_,bg _ rfl,rfl,rfl}
 ·exact{od,es,ep,aP _ (k1 _ _ hod),rd}
 ·exact{rfl,h h' tk ko dd}
end
section
variable{X:Cx}
def kvV(kv:Str×Int):Key×V:=(.inr kv.1,.int kv.2)
theorem qkF{P:aE}{w:aB}{H:Hp}{h:au}(ok:HOk P w H h){xs:List V}{kvs:List (Str×Int)}{its:List aa}(hp:bb (λx (kv:Str×Int)=>∃b,x=V.ref b/\H b=some (.tup [.str kv.1,.int kv.2])) xs kvs)(hv:qu xs its) :
  ∃ps:List (Key×aa),KV (kvs.map kvV) ps/\bb (λu (kv:Key×aa)=>∃b ku,u=bm b/\h.IsTuple b #[ku,kv.2]/\(qt P w).is kv.1 ku=true) its ps:=by
 induction hp generalizing its with
 |nil=>cases hv;exact{[],.nil,.nil}
 |@cons _ kv _ _ hx hr ih=>
  cases hv with
  |cons rx rr=>
  obtain⟨ps,h1,h2⟩:=ih rr;obtain⟨b,rfl,hb⟩:=hx;obtain⟨_,its,rv,tp⟩:=(show qH P w H h b (.tup [.str kv.1,.int kv.2]) from ok b _ hb);obtain⟨u,v,rfl,ru,rv⟩:=Q8 rv;exact{(.inr kv.1,v)::ps,.cons ⟨rfl,rv⟩ h1,.cons {b,u,rx,tp,qid (k:=.inr kv.1) ru} h2}
theorem Paired.ix{α M:Type}{R:α->M->Prop}:∀{l:List α} {m:List M} {i:Nat} {b:M},bb R l m->m[i]?=some b->∃a,l[i]?=some a/\R a b
 |_,_,_,_,.nil,e=>by simp at e
 |_,_,0,_,.cons h t,e=>by simp at e;subst e;exact{_,rfl,h}
 | _,_,i+1,_,.cons h t,e=>by obtain⟨a,e1,e2⟩:=Paired.ix (i:=i) t (-e:);exact{a,(-e1:),e2}
def qci(hc:X.calm=true):qO X (.type "dict") (λvs H Q=>∃(p:ad) (xs:List V) (kvs:List (Str×Int)),vs=[.ref p]/\SqL X.K H p xs/\bb (λx (kv:Str×Int)=>∃b,x=V.ref b/\H b=some (.tup [.str kv.1,.int kv.2])) xs kvs/\(kvs.map (·.1)).Nodup/\∀q,H q=none->Q (.ref q) (upd H q (.dK (kvs.map kvV)))):=by
 intro pins s Z H xs us Q I r h;obtain⟨p,xs,kvs,rfl,hq,hp,nd,q⟩:=h;obtain⟨u,rfl,rx⟩:=yt r;cases rx;obtain⟨its,rv,⟨ol,n,g1,g2,g3,g4⟩,hz⟩:=I.list hq;obtain⟨ps,h1,h2⟩:=qkF I.hok hp rv;have e1:=h1.length;have e2:=h2.length;have e3:=rv.length;rw[aD]at e1
 have hps:qif X.prog X.w s.heap its.toArray ps:={by simpa using e2,λi kv e=>by obtain⟨u,z1,b,ku,z2,z3,z4⟩:=Paired.ix h2 e;exact{b,ku,by rw[<-z2];simpa using z1,z3,z4}}
 refine qch (I.ok.hd hc) g1 g2 g4 g3 hps (1:) λh' tk ko dd=>?_
 have nk:(ps.map (·.1)).Nodup:=by
  rw[<-h1.keys,hZ]
  have:((λx:Key×V=>x.1) ∘ kvV)=(dC:Str->Key) ∘ (λkv:Str×Int=>kv.1):=rfl
  rw[this,<-hZ];exact nd.map (f:=(dC:Str->Key)) (λa b=>by simp)
 rw[merged_nil_of_nodup ps nk]at dd;refine{.ref _,_,I.laid (a:=s.heap.objs.size) (o:=.dK (kvs.map kvV)) (t':=tk) ko (az _) (qkw (by rw[aD];lia) (beq_eq_false_iff_ne.mpr (cj (aZ I.big))) h1 dd),rfl,q _ (I.hok.fresh (az _))}
def qds:qO X (.type "range") (λvs H Q=>∃i j:Int,vs=[.int i,.int j]/\∀q,H q=none->Q (.ref q) (upd H q (.rng i j))):=by intro pins s Z H xs us Q I r h;obtain⟨i,j,rfl,q⟩:=h;obtain⟨u,v,rfl,⟨t,rfl⟩,⟨t',rfl⟩⟩:=Q8 r;exact call_range_2 ⟨.ref _,_,I.laid (a:=s.heap.objs.size) (o:=.rng i j) (t':=_) (λ_ _ e=>aP _ e) (az _) ⟨_,_,_,bg _ rfl⟩,rfl,q _ (I.hok.fresh (az _))⟩
def rgV(i:Int)(n:Nat):List V:=(cw n).map λk:Nat=>V.int (i+k)
def qcj(hc:X.calm=true):qO X (.type "list") (λvs H Q=>∃(p:ad) (i j:Int),vs=[.ref p]/\H p=some (.rng i j)/\(-(2 ^ 62)<=i/\i < 2 ^ 62/\-(2 ^ 62)<=j/\j < 2 ^ 62)/\(j - i).toNat<=10000/\∀l,H l=none->Q (.ref l) (upd H l (.lst (rgV i (j - i).toNat)))):=by
 intro pins s Z H xs us Q I r h;obtain⟨p,i,j,rfl,hp,⟨b1,b2,b3,b4⟩,hn,q⟩:=h;obtain⟨u,rfl,rx⟩:=yt r;cases rx;obtain⟨t,u,v,ho⟩:=(show qH X.prog X.w H s.heap p (.rng i j) from I.hok p _ hp);refine call_list_range (n:=(j - i).toNat) (I.ok.hd hc) ho (small_one b1 b2 b3 b4) (by rw[rangeSize_one];split<;>lia) (bz hn (2:)) λh' tk acc' c' ko hl it=>?_;have hz:10000<=sizeLine:=(3:)
 refine{.ref _,_,I.laid (a:=s.heap.objs.size) (o:=.lst (rgV i (j - i).toNat)) (t':=tk) ko (az _) {by unfold rgV;rw[aD,kG];lia,acc'.toList,c',?_,(-hl:)},rfl,q _ (I.hok.fresh (az _))}
 have key:∀(n:Nat) (l:List aa) (k:Nat),l.length=n->(∀(m:Nat) (v:aa),l[m]?=some v->∃t,v=.int (i+((k+m:Nat):Int)) t)->qu ((List.range' k n).map λk:Nat=>V.int (i+k)) l:=by
  intro n
  induction n with
  |zero=>intro l k h _;rw[dH.mp h];exact .nil
  |succ n ih=>
   intro l k h hv
   cases l with
   |nil=>cases h
   |cons x l=>rw[kH,av];refine .cons (by obtain⟨t,e⟩:=hv 0 x rfl;exact{t,by rw[e];rfl}) (ih l (k+1) (-h:) λm v e=>?_);obtain⟨t,e'⟩:=hv (m+1) v (-e:);exact{t,by rw[e',show k+1+m=k+(m+1) by lia]}
 unfold rgV;rw[kI];refine key _ _ 0 (-it.1:) λm v e=>?_;obtain⟨t,e'⟩:=it.2 m v (-e:);exact{t,by rw[e',eA,Int.mul_one]}
end
end L2
namespace TW
open PySem PyProof.Rows
def Ri(xs:Array Nat):Prop:=xs.toList.Pairwise (· < ·)
def qig{xs:Array Nat}(h:Ri xs){i j:Nat}(hij:i < j)(hj:j < xs.size):xs[i]'(1:) < xs[j]:=by
 have:=ft.mp h i j (by simp;lia) (-hj:) hij
 simpa using this
def qkG{xs:Array Nat}(h:Ri xs){i j:Nat}(hij:i<=j)(hj:j < xs.size):xs[i]'(1:)<=xs[j]:=by
 rcases Nat.lt_or_ge i j with z|z
 ·exact Nat.le_of_lt (qig h z hj)
 ·obtain rfl:i=j:=by lia
  exact az _
theorem qih{xs:Array Nat}(h:Ri xs)(j:Nat):∀(f lo hi:Nat),lo<=hi->hi<=xs.size->hi - lo<=f->(∀(i:Nat) (hi:i < xs.size),i < lo->xs[i] < j)->(∀(i:Nat) (hx:i < xs.size),hi<=i->j<=xs[i])->
  SetTable.below.go xs j f lo hi<=xs.size/\(∀(i:Nat) (hx:i < xs.size),i < SetTable.below.go xs j f lo hi->xs[i] < j)/\∀(i:Nat) (hx:i < xs.size),SetTable.below.go xs j f lo hi<=i->j<=xs[i]
 |0,lo,hi,h1,h2,h3,a,b=>by
  rw[SetTable.below.go];obtain rfl:lo=hi:=by lia
  exact{h2,λi hx z=>a i hx z,b}
 | f+1,lo,hi,h1,h2,h3,a,b=>by
  rw[SetTable.below.go]
  by_cases hl:lo < hi
  ·rw[if_pos hl];have hm:(lo+hi) / 2 < xs.size:=by lia
   have e:xs.getD ((lo+hi) / 2) j=xs[(lo+hi) / 2]:=by simp[Array.getD,hm]
   dsimp only;rw[e]
   by_cases hc:xs[(lo+hi) / 2] < j
   ·rw[if_pos hc];refine qih h j f _ _ (1:) h2 (by omega) (λi hx z=>?_) b;exact kn (qkG h (1:) hm) hc
   ·rw[if_neg hc];refine qih h j f _ _ (1:) (1:) (by omega) a (λi hx z=>?_);exact bz (Nat.not_lt.mp hc) (qkG h z hx)
  ·rw[if_neg hl];obtain rfl:lo=hi:=by lia
   exact{h2,λi hx z=>a i hx z,b}
def Qg{xs:Array Nat}(h:Ri xs)(j:Nat):bV xs j<=xs.size/\(∀(i:Nat) (hx:i < xs.size),i < bV xs j->xs[i] < j)/\∀(i:Nat) (hx:i < xs.size),bV xs j<=i->j<=xs[i]:=
 qih h j xs.size 0 xs.size (bd _) (az _) (1:) (λi _ z=>by lia) λi hx z=>by lia
def qck{xs:Array Nat}(h:Ri xs){k:Nat}(hk:k < xs.size):bV xs (xs[k]+1)=k+1:=by
 obtain⟨h1,h2,h3⟩:=Qg h (xs[k]+1);rcases Nat.lt_trichotomy (bV xs (xs[k]+1)) (k+1) with z|z|z
 ·have:=h3 k hk (1:)
  lia
 ·exact z
 ·have:=h2 (k+1) (1:) z
  have:=qig h (f8 k) (1:)
  lia
def qcl(xs:Array Nat)(h:Ri xs):bV xs 0=0:=by
 obtain⟨h1,h2,h3⟩:=Qg h 0;rcases Nat.eq_zero_or_pos (bV xs 0) with z|z
 ·exact z
 ·have:=h2 0 (1:) z
  lia
def qdt{xs:Array Nat}(h:Ri xs)(j:Nat)(hn:¬ xs[bV xs j]?=some j):Ri (kJ xs (bV xs j) j):=by
 obtain⟨h1,h2,h3⟩:=Qg h j;generalize bV xs j=p at h1 h2 h3 hn
 have e:(kJ xs p j).toList=xs.toList.take p++j::xs.toList.drop p:=by unfold kJ;simp[fq,List.extract_eq_drop_take];rw[gf (5:)]
 unfold Ri;rw[e,bQ]
 have hd:∀b∈xs.toList.drop p,j < b:=λb hb=>by
  obtain⟨i,hi,rfl⟩:=gg.mp hb;have hi':p+i < xs.size:=by simp at hi;lia
  have e1:(xs.toList.drop p)[i]=xs[p+i]:=by simp
  rw[e1];have hge:=h3 (p+i) hi' (1:);rcases Nat.eq_zero_or_pos i with z|z
  ·subst z
   have:xs[p]≠j:=λz=>hn (by rw[dq (by omega)];exact congrArg some z)
   have h4:=h3 p (by omega) (az _);show j < xs[p+0];simp![hE]
   lia
  ·have h4:=h3 p (1:) (az _);have h5:=qig h (i:=p) (j:=p+i) (1:) hi'
   lia
 have ht:∀a∈xs.toList.take p,a < j:=λa ha=>by
  obtain⟨i,hi,rfl⟩:=gg.mp ha;simp at hi
  have:=h2 i (1:) (1:)
  simpa using this
 refine{h.sublist (eu _ _),bG.mpr {hd,h.sublist (eO _ _)},λa ha b hb=>?_}
 have:=ht a ha
 rcases aF.mp hb with rfl|hb
 ·exact this
 ·have:=hd b hb
  lia
def qft(n:Nat):Ri (Array.range n):=by unfold Ri;rw[Array.toList_range];exact mi
def Rt(led:Bool)(t:cr):Prop:=Ri t.place/\t.dummies=#[]/\t.led=led
variable{led:Bool}{t:cr}
def JC(h:Rt led t)(n:Nat):Rt led (t.standIn n):={qft n,rfl,h.2.2}
def qfu:Rt led (.fresh 0 0 led):=⟨List.Pairwise.nil,rfl,rfl⟩
def qfv(h:Rt led t):Rt led { t with plain:=false }:=h
def qbg(j:Nat):SetTable.has #[] j=false:=by unfold SetTable.has;simp
theorem qbh(h:Rt led t)(g:Nat->Int)(hh:Int):∀(f:Nat) (p:SetTable.Probe) (j:Nat) (d:Option Nat),p.dummy=none->SetTable.probe.go t g hh f p=some (.empty j d)->d=none/\¬ t.place[bV t.place j]?=some j
 |0,p,j,d,h0,e=>by rw[SetTable.probe.go]at e;cases e
 | f+1,p,j,d,h0,e=>by
  have adv:∀q:SetTable.Probe,q.dummy=none->(t.advance q).dummy=none:=λq hq=>by
   unfold SetTable.advance;split
   ·exact hq
   ·exact hq
  rw[SetTable.probe.go]at e
  cases hs:t.slot p.j with
  |empty=>rw[hs]at e;dsimp only at e;cases e;refine{h0,λz=>?_};unfold SetTable.slot at hs;dsimp only at hs;rw[if_pos (-z:)]at hs;cases hs
  |dummy=>
   unfold SetTable.slot at hs;dsimp only at hs;rw[h.2.1,qbg]at hs
   split at hs<;>simp at hs
  |live i=>
   rw[hs]at e;dsimp only at e
   split at e
   ·cases e
   ·exact qbh h g hh f _ j d (adv _ h0) e
theorem qii(h:Rt led t){hh:Int}{j:Nat}{b:Bool}(e:t.freeSlot hh=some (j,b)):¬ t.place[bV t.place j]?=some j:=by
 unfold SetTable.freeSlot at e
 cases hp:t.probe (λ_=>hh+1) hh (t.probeStart hh) with
 |none=>rw[hp]at e;cases e
 |some m=>
  rw[hp]at e
  cases m with
  |candidate=>cases e
  | empty j' d=>obtain⟨rfl,h2⟩:=qbh h _ hh _ _ j' d rfl (show SetTable.probe.go t _ hh _ _=_ from hp);cases e;exact h2
def qnA(h:Rt led t)(n:Nat):Rt led (t.orStandIn n):=by
 unfold SetTable.orStandIn;split
 ·exact h
 ·exact JC h n
def qkH(h:Rt led t){j:Nat}(hj:¬ t.place[bV t.place j]?=some j):Rt led (t.put j).1:=by unfold SetTable.put;refine{qdt h.1 j hj,?_,h.2.2};dsimp only;rw[h.2.1,qbg];rfl
theorem qkI(h:Rt led t)(es:Array (Int×aa))(hh:Int)(x:aa):Rt led (layNew t es hh x).2.1:=by
 unfold layNew
 cases e:t.freeSlot hh with
 |none=>exact JC h _
 |some p=>obtain⟨j,b⟩:=p;exact qnA (qkH h (qii h e)) _
theorem qij{m f mv:Nat}{pl:Bool}{hs:Array Int}{p:cr×Array Nat}(e:SetTable.laid m f mv led pl hs=some p):Rt led p.1:=by
 unfold SetTable.laid at e
 cases ho:SetTable.layClean m hs with
 |none=>rw[ho]at e;cases e
 |some ow=>rw[ho]at e;cases e;refine{?_,rfl,rfl};unfold Ri;show List.Pairwise _ (eT _ _).toArray.toList;rw[List.toList_toArray,ie];refine List.Pairwise.filterMap _ (R:=(· < ·)) (λa a' haa b hb b' hb'=>?_) mi;obtain⟨_,_,rfl⟩:=bF.mp hb;obtain⟨_,_,rfl⟩:=bF.mp hb';exact haa
theorem qfw(h:Rt led t)(es:Array (Int×aa))(n:Nat):Rt led (fY t es n).2.1:=by
 unfold fY
 cases e:t.relaid (es.map (·.1)) n with
 |none=>exact JC h _
 |some p=>
  dsimp only;split
  ·unfold SetTable.relaid at e;rw[h.2.2]at e;exact qij e
  ·exact JC h _
open PySem.Spec
section
variable{prog:aE}{w:aB}{A:aH}{E:PQ}{s:ag}{led:Bool}
def Zu(prog:aE)(w:aB)(led:Bool)(h:au)(a:ad)(S:Int->Bool)(n:Nat):Prop:=
 ∃o es ep t,h.get? a=some o/\o.ExactSet/\o.data=.set es ep t/\ElemsOf (b8 prog w) es.toList/\(∀k,S k=true↔∃e∈es.toList,(b8 prog w).is k e.2=true)/\es.size < ef/\t.fits es.size=true/\es.size=n/\Rt led t
def Zu.to{h h':au}{a:ad}{S:Int->Bool}{n:Nat}(x:Zu prog w led h a S n)(k:∀o,h.get? a=some o->h'.get? a=some o):Zu prog w led h' a S n:=by obtain⟨o,es,ep,t,ho,r⟩:=x;exact{o,es,ep,t,k o ho,r}
def Zu.say{h:au}{a:ad}{S S':Int->Bool}{n n':Nat}(x:Zu prog w led h a S n)(e:∀k,S k=S' k)(en:n=n'):Zu prog w led h a S' n':=by obtain rfl:S=S':=funext e;subst en;exact x
def qkJ{h:au}{a:ad}{o:Obj}{es:Array (Int×aa)}{ep:Nat}{t:cr}(ho:h.get? a=some o)(hx:o.ExactSet)(hd:o.data=.set es ep t){es':Array (Int×aa)}{t':cr}{S':Int->Bool}
  (hel:ElemsOf (b8 prog w) es'.toList) (hm:∀k,S' k=true↔∃e∈es'.toList,(b8 prog w).is k e.2=true) (hb:es'.size < ef) (hf:t'.fits es'.size=true) (hr:Rt led t') :
  (h.update a (Obj.putSet es' t')).get? a=some { o with data:=.set es' (ep+1) t' }/\Zu prog w led (h.update a (Obj.putSet es' t')) a S' es'.size:=by
 obtain⟨h1,_⟩:=SetOf_store (knd:=b8 prog w) ho hx hd hel hm hb hf;exact{h1,_,es',ep+1,t',h1,hx,rfl,hel,hm,hb,hf,rfl,hr}
def qgO{g:Bool->Sem Unit}(hg:∀(b:Bool) (s1:ag) (Q':Unit->ag->Prop),Q' () s1->ak (al prog w) A (g b) Q' E s1){a:ad}{o:Obj}{es:Array (Int×aa)}{ep:Nat}{t:cr}
  (ho:s.heap.get? a=some o) (hx:o.ExactSet) (hd:o.data=.set es ep t) {es1:Array (Int×aa)} {t2:cr} {S':Int->Bool} (hel:ElemsOf (b8 prog w) es1.toList)
  (hm:∀k',S' k'=true↔∃e∈es1.toList,(b8 prog w).is k' e.2=true) (hb:es1.size < ef) (hf:t2.fits es1.size=true) (hr:Rt led t2) {wasDummy:Bool} {R:Option Bool->ag->Prop}
  (h:∀h',dP a s.heap h'->Zu prog w led h' a S' es1.size->R (some true) { s with heap:=h' }) :
  ak (al prog w) A (do
    storeSet a es1 t2
    if (!wasDummy&&t2.tooFull)=true then do
      g (fY t2 es1 (eU es1.size)).2.2
      storeSet a (fY t2 es1 (eU es1.size)).1 (fY t2 es1 (eU es1.size)).2.1
      pure (some true)
     else pure (some true)) R E s:=by
 refine ai (wpAny_storeSet_of ho hd ?_ (gN hb));obtain⟨o1,S1⟩:=qkJ (prog:=prog) (w:=w) ho hx hd hel hm hb hf hr;have k1:=eI s.heap a (Obj.putSet es1 t2);split
 ·have hp:=relayAll_perm t2 es1 (eU es1.size);have hf2:=relayAll_fits t2 es1 (eU es1.size);have hr2:=qfw hr es1 (eU es1.size);generalize fY t2 es1 (eU es1.size)=Rl at hp hf2 hr2 ⊢;obtain⟨es2,t3,g2⟩:=Rl;dsimp only at hp hf2 hr2 ⊢;have hz:es2.size=es1.size:=by rw[<-bp,hp.length_eq,bp]
  refine ai (hg _ _ _ (ai (wpAny_storeSet_of o1 rfl ?_ (gN (by rw[hz];exact hb)))));obtain⟨_,S2⟩:=qkJ (prog:=prog) (w:=w) (S':=S') o1 hx rfl (hel.perm hp) (λk'=>(hm k').trans ⟨λ⟨e,he,q⟩=>{e,hp.mem_iff.mpr he,q},λ⟨e,he,q⟩=>{e,hp.mem_iff.mp he,q}⟩) (by rw[hz];exact hb) hf2 hr2;exact ax (h _ (k1.trans (eI _ a _)) (S2.say (λ_=>rfl) hz))
 ·exact ax (h _ k1 S1)
theorem qnB{a:ad}{S:Int->Bool}{n:Nat}{k:Int}{x:aa}{Q:Bool->ag->Prop}(hk:(b8 prog w).is k x=true)(hsc:x.scannable=true)(hS:Zu prog w led s.heap a S n)(hroom:n+1 < ef)
  (h:∀h' b,dP a s.heap h'->Zu prog w led h' a (λk'=>S k'||decide (k'=k)) (if S k then n else n+1)->Q b { s with heap:=h' }) :
  ak (al prog w) A (setAddHashed a x ((b8 prog w).hash k)) Q E s:=by
 obtain⟨o,es,ep,t,ho,hx,hd,hel,hm,hb,hf,hn,hr⟩:=hS;unfold setAddHashed setAddHashedIn;refine cK (ai (dy ho hd hf ?_));dsimp only;rw[byScan_of hsc hb hel];simp![↓reduceIte];unfold setAddByScan;refine ai (ai (dg (ai (wpAny_setScan_of hk ho hd hf hel ?_))))
 cases hi:List.findIdx? (λe=>(b8 prog w).is k e.2) es.toList with
 |some j=>
  dsimp only;obtain⟨hj,hp,_⟩:=List.findIdx?_eq_some_iff_getElem.mp hi;have hSk:S k=true:=(hm k).mpr ⟨es.toList[j],kK hj,hp⟩;refine ax (ax ?_)
  have q:=h s.heap false (Heap.SameBut.refl a s.heap) ⟨o,es,ep,t,ho,hx,hd,hel,λk'=>by rw[eB,decide_eq_true_eq,<-hm k'];exact{λz=>z.elim id (λe=>e▸hSk),.inl},hb,hf,by rw[hSk];exact hn,hr⟩
  exact q
 |none=>
  dsimp only
  have hSk:S k=false:=by
   cases z:S k with
   |false=>rfl
   |true=>
    obtain⟨e,he,hp⟩:=(hm k).mp z
    have:=List.findIdx?_eq_none_iff.mp hi e he
    rw[hp]at this;cases this
  have hp:=layNew_perm t es ((b8 prog w).hash k) x;have hf1:=layNew_fits t es ((b8 prog w).hash k) x;have hr1:=qkI hr es ((b8 prog w).hash k) x;generalize layNew t es ((b8 prog w).hash k) x=L at hp hf1 hr1 ⊢;obtain⟨es1,t1,wd,gv⟩:=L;dsimp only at hp hf1 hr1 ⊢;rw[ky]at hp;have z1:es1.size=n+1:=by rw[<-bp,hp.length_eq,bq,bp,hn];rfl
  have gw:∀(b:Bool) (s1:ag) (Q':Unit->ag->Prop),Q' () s1->ak (al prog w) A (match b with |true=>rule "set.scan.the-table-gave-way" |false=>pure ()) Q' E s1:=λb s1 Q' hq=>by
   cases b
   ·exact ax hq
   ·exact dg hq
  have fin:∀h',dP a s.heap h'->Zu prog w led h' a (λk'=>S k'||decide (k'=k)) es1.size->Q true { s with heap:=h' }:=λh' k1 S1=>h h' true k1 (S1.say (λ_=>rfl) (by rw[hSk];exact z1))
  have hel1:=(hel.push hk hsc).perm hp;have hm1:=mem_push_iff hk hm hp;refine ai (gw _ _ _ ?_);split
  ·refine ai ?_;rw[hashByValue_scannable 8 hsc];refine ax (qgO (led:=led) (λb s1 Q' hq=>?_) ho hx hd hel1 hm1 (1:) ?_ ?_ ?_)
   ·cases b
    ·exact ax hq
    ·exact dg hq
   ·split
    ·exact hf1
    ·exact SetTable.fits_plain_off hf1
   ·split
    ·exact hr1
    ·exact qfv hr1
   ·intro h' k1 S1;dsimp only;exact ax (fin h' k1 S1)
  ·refine ai (ax ?_);simp![↓reduceIte];refine qgO (led:=led) (λb s1 Q' hq=>?_) ho hx hd hel1 hm1 (1:) hf1 hr1 ?_
   ·cases b
    ·exact ax hq
    ·exact dg hq
   ·intro h' k1 S1;dsimp only;exact ax (fin h' k1 S1)
end
section
variable{prog:aE}{w:aB}{A:aH}{R:Result->ag->Prop}{I:ad}{fp wr:List ad}{G:Array fL->Array fL->Prop}{n:Nat}{P:Nat->aa->Prop}{St:Nat->ag->Prop}{led:Bool}
theorem qkK(W:WalksS prog w A.in1 I fp wr G n P St)(S:ad)(hSf:S∉fp)(val:Nat->Int)(hv:∀i v,P i v->∃t,v=.int (val i) t)(hb:n+1 < ef):∀(k i:Nat) (s:ag),n - i=k->i<=n->St i s->
  Zu prog w led s.heap S (λk'=>(cU val i).any (· == k')) (cU val i).length->
  (∀s',Moved (S::wr) G s s'->Zu prog w led s'.heap S (λk'=>(cU val n).any (· == k')) (cU val n).length->R (.ok (.ret .none)) s')->
  de (al prog w) A (.builtin "set.update.loop" ⟨[.ref S,.ref I],[]⟩) R s:=by
 have hSw:S∉wr:=λh=>hSf (W.sub _ h);have sub:∀b∈wr,b∈S::wr:=λb hb=>bI _ hb;intro k
 induction k with
 |zero=>
  intro i s hk hi st hS hR;obtain rfl:i=n:=by lia
  refine eH mj ?_;rw[eS kL _];show ak _ A.in1 (cn (.ref I) >>= _) _ _ s;refine ai (W.done s _ _ st λs' hm=>?_);show ak _ A.in1 (ret Value.none) _ _ s';exact ax (hR s' (hm.mono sub) (hS.to λo e=>hm.heap S _ hSw e))
 |succ k ih=>
  intro i s hk hi st hS hR;refine eH mj ?_;rw[eS kL _];show ak _ A.in1 (cn (.ref I) >>= _) _ _ s;refine ai (W.item i s _ _ (1:) st λv s' hP st' hm=>?_);obtain⟨t,rfl⟩:=hv i v hP;have hS':=hS.to (h':=s'.heap) λo e=>hm.heap S _ hSw e;show ak _ A.in1 (cJ [Value.int (val i) t] (setAdd S (.int (val i) t)) >>= _) _ _ s';refine ai (cK ?_);unfold setAdd;refine cK (ai ((b8 prog w).pyHash (k:=val i) (intKind_is _ _ _ _) ?_))
  have:=firstMet_length_le val i
  refine qnB (s:={ s' with toks:=s'.toks+1 }) (intKind_is _ _ _ _) rfl hS' (1:) λh' b sb S2=>?_;have S3:Zu prog w led h' S (λk'=>(cU val (i+1)).any (· == k')) (cU val (i+1)).length:=S2.say (λk'=>by rw[lA,step_any]) (by rw[lA,step_length]);refine ax ⟨e9 kL _,ih (i+1) _ (by omega) (1:) (W.frame _ s' _ _ st' (fh _) λb hb o e=>?_) S3 λs2 m2 z=>?_⟩
  ·rw[sb.2 b (λq:b=S=>hSf (by rw[<-q];exact hb))];exact e
  ·refine hR s2 (Moved.trans W.gtrans ((hm.mono sub).then_heap (fh _) λb o hb e=>?_) m2) z;rw[sb.2 b (λq:b=S=>hb (by rw[q];exact b5))];exact e
end
section
variable{prog:aE}{w:aB}{A:aH}{E:PQ}{s:ag}
abbrev byT(w:aB):Bool:=w.params.followText "set-order"
abbrev qfx(w:aB):Obj:={ cls:=.type "set",dict:=none,data:=.set #[] 0 (.fresh 0 0 (!byT w)) }
def qnC(a:aa){Q1:PQ}(h:Q1 (.ref s.heap.objs.size) { s with heap:=s.heap.push (qfx w) }) :
  de (al prog w) A (.call (.builtin "set.__new__") ⟨[.type "set",a],[]⟩) (wants Q1 E) s:=by
 refine codeAny_of_tree ?_;show ak _ A.in1 (do checkBuiltinCall "set.__new__" ⟨[.type "set",a],[]⟩;again (.builtin "set.__new__" ⟨[.type "set",a],[]⟩)) _ _ s;refine ai (wpAny_of_eq (PySem.F.newCall_set_1 a) (ax ⟨e9 lJ _,eH PySem.F.entry_set_new ?_⟩));rw[eS lJ _];unfold Builtin.«set.__new__» Builtin.Frozenset.newClass;have hsub:=sub_set_self;obtain⟨hp,g,d,tk,os⟩:=s;dsimp only
 wp_walk
 refine lB (ax ?_);dsimp only;simp![newObj];exact ai (wpAny_alloc (ax (ax h)))
set_option maxHeartbeats 8000000 in
theorem qnD{l:ad}{items:Array aa}{ns:List Int}{Q:PQ}(hh:A.handled=none)(hl:s.heap.IsList l items)(hi:e7 items.toList ns)(hb:items.size+1 < ef)
  (h:∀(h':au) (tk:Nat),Zu prog w (!byT w) h' s.heap.objs.size (λk'=>(cU (λi=>ns.getD i 0) items.size).any (· == k')) (cU (λi=>ns.getD i 0) items.size).length->
   (∀b o,b < s.heap.objs.size->s.heap.get? b=some o->h'.get? b=some o)->Q (.ref s.heap.objs.size) { s with heap:=h',toks:=tk }) :
  ak (al prog w) A (call (.type "set") [.ref l]) Q E s:=by
 obtain⟨c,tl,hmro⟩:=ei.mro;have hmade:=ei.made;have hsub:=ei.sub;refine wpAny_call (codeAny_of_tree ?_);show ak _ _ (callAny (.type "set") _) _ _ _;refine ax ⟨Code.quiet_builtin _ (3:),eH PySem.F.entry_type_call ?_⟩;rw[Around.under_plain (weight_type_call_type "set" [.ref l] []) rfl];have h1:=ei.notType;have h2:=ei.canCreate;have hct:=PySem.F.typeCall_set_1 (.ref l)
 repeat (any_goals (first|assumption|wp_step))
 refine d9 (qnC (.ref l) (E:=E) (Q1:=λob s1=>ob=.ref s.heap.objs.size/\s1={ s with heap:=s.heap.push (qfx w) }) ⟨rfl,rfl⟩) λr s1 hr=>?_
 cases r with
 |error e=>exact hr
 |ok fl=>
  cases fl with
  |next=>exact ao hr
  |brk=>exact ao hr
  |cont=>exact ao hr
  |ret ob=>
   obtain⟨rfl,rfl⟩:=hr;have hS:(s.heap.push (qfx w)).get? s.heap.objs.size=some (qfx w):=bg _ rfl;have hT:ii { s with heap:=s.heap.push (qfx w) } (.ref s.heap.objs.size) "set":={_,hS,rfl};have hli:=ei.init.lookup;have hbi:=ei.init.bind (.ref s.heap.objs.size)
   repeat (any_goals (first|assumption|wp_step))
   refine d9 (codeAny_call_builtin (R:=wants (λr s2=>r=.none/\∃h' tk,s2={ s with heap:=h',toks:=tk }/\
     Zu prog w (!byT w) h' s.heap.objs.size (λk'=>(cU (λi=>ns.getD i 0) items.size).any (· == k')) (cU (λi=>ns.getD i 0) items.size).length/\
     (∀b o,b < s.heap.objs.size->s.heap.get? b=some o->h'.get? b=some o)) E) ei.init.plain PySem.F.entry_set_init (check_set_init_1 hT ?_)) λr2 s2 hr2=>?_
   ·obtain⟨ol,hol,hcl,nl,hdl⟩:=hl;obtain⟨oc,od,oda,osl⟩:=ol;simp only at hcl hdl;subst hcl hdl;have hol':(s.heap.push (qfx w)).get? l=some { cls:=.type "list",dict:=od,data:=.seq items nl,slots:=osl }:=aP _ hol;have hsls:=PySem.F.sub_list_set;have hslf:=PySem.F.sub_list_frozenset;have hne:(dk "list" == dk "dict")=false:=by decide
    have hl1:(s.heap.push (qfx w)).IsList l items:={_,hol',rfl,nl,rfl};unfold Builtin.«set.__init__» noKeywords Builtin.Frozenset.updateFrom;generalize hPI:pyIter=PI
    wp_walk
    subst hPI;refine ly hl1 (ai (wpAny_runValue ?_));have lt:l < s.heap.objs.size:=aN hol;have hh3:A.in1.in1.in1.handled=none:=by simp[hh]
    have neI:l≠(s.heap.push (qfx w)).objs.size:=by rw[eo];lia
    have hSf:s.heap.objs.size∉[(s.heap.push (qfx w)).objs.size,l]:=by rw[eo];simp![aF,eC,or_false,not_or];exact{by lia,by lia}
    refine qkK (led:=!byT w) ((Walks.list hh3 _ l neI items).toS) s.heap.objs.size hSf (λi=>ns.getD i 0) (λi v hv=>IntsAre.int_at hi i v (by rw[ml];exact hv)) hb (items.size - 0) 0 _ (1:) (bd _)
     ⟨⟨_,bg _ rfl,rfl,rfl⟩,(hl1.push _)⟩ ?S0 ?R0
    case S0=>exact{_,#[],0,.fresh 0 0 (!byT w),aP _ hS,⟨rfl,rfl,rfl⟩,rfl,λe he=>by simp at he,λk=>by simp[cU],by decide,rfl,rfl,qfu}
    case R0=>intro s' hm S';obtain⟨h',g',d',tk',os'⟩:=s';obtain rfl:g'=s.gens:=hm.gens;obtain rfl:d'=s.drawn:=hm.drawn;obtain rfl:os'=s.os:=hm.os;show ak _ _ _ _ _ _;refine ax ?_;show ak _ _ (ret Value.none) _ _ _;refine ax ⟨rfl,h',tk',rfl,S',λb o hb e=>hm.heap b o ?_ (aP _ (aP _ e))⟩;simp![aF,eC,or_false,not_or];exact{by lia,by rw[eo];lia}
   ·cases r2 with
    |error e=>exact hr2
    |ok f2=>
     cases f2 with
     |next=>exact ao hr2
     |brk=>exact ao hr2
     |cont=>exact ao hr2
     |ret r=>
      obtain⟨rfl,h',tk,rfl,S',hk'⟩:=hr2
      repeat (any_goals (first|assumption|wp_step))
      exact h _ _ S' hk'
end
def zO:Slot "set_iterator" "__next__" "set_iterator.__next__":=
 .of (owner:="set_iterator") (n:="__next__") (by rw[typeLookup_type,mO];kernel_rfl) (3:) (3:) (3:) (by first|exact .inl (3:)|exact .inr (3:)) (by rw[lC];kernel_rfl)
def JD:entryFor table "set_iterator.__next__" = some Builtin.«set_iterator.__next__»:=entryFor_of_tree (4:)
def Qh(a:aa):argsOk "set_iterator.__next__" ⟨[a],[]⟩:=by
 unfold argsOk;rw[signature?_of (id:="set_iterator.__next__") (n:="__next__".toList.reverse) (o:="set_iterator".toList.reverse) (rows:=mq) (4:) (4:)]
 kernel_rfl
def qdu:Slot "set_iterator" "__iter__" "set_iterator.__iter__":=
 .of (owner:="set_iterator") (n:="__iter__") (by rw[typeLookup_type,mO];kernel_rfl) (3:) (3:) (3:) (by first|exact .inl (3:)|exact .inr (3:)) (by rw[lC];kernel_rfl)
def qfy:entryFor table "set_iterator.__iter__" = some Builtin.«dict_keyiterator.__iter__»:=entryFor_alias (id':="dict_keyiterator.__iter__") (4:) rfl (3:) (4:)
def qik(a:aa):argsOk "set_iterator.__iter__" ⟨[a],[]⟩:=by
 unfold argsOk;rw[signature?_of (id:="set_iterator.__iter__") (n:="__iter__".toList.reverse) (o:="set_iterator".toList.reverse) (rows:=mq) (4:) (4:)]
 kernel_rfl
def qfz:entryFor table "set.__iter__" = some Builtin.«frozenset.__iter__»:=entryFor_alias (id':="frozenset.__iter__") (4:) rfl (3:) (4:)
theorem Qi{α:Type}:∀{l:List α} {i:Nat} (h:i < l.length),(l[i]::l.eraseIdx i).Perm l
 | x::l,0,h=>.refl _
 | x::l,i+1,h=>(List.Perm.swap x (l[i]'(-h:)) _).trans ((Qi (l:=l) (i:=i) (-h:)).cons x)
theorem qdv{α:Type}(f:Nat->Nat):∀(n k:Nat) (l:List α) (o:Array α),l.length=n->(pickOrder.go f n k l o).toList.Perm (o.toList++l)
 |0,k,l,o,h=>by cases dH.mp h;rw[pickOrder.go];simp
 | n+1,k,l,o,h=>by rw[pickOrder.go];have hi:f k % l.length < l.length:=Nat.mod_lt _ (1:);rw[bK hi];dsimp only;refine(qdv f n (k+1) _ _ (by rw[mr hi];lia)).trans ?_;rw[ky,aT];exact(Qi hi).append_left _
def Zv{α:Type}(f:Nat->Nat)(xs:Array α):(fb f xs).toList.Perm xs.toList:=by
 unfold fb
 simpa using qdv f xs.size 0 xs.toList #[] (5:)
section
variable{M:cH}{A:aH}{E:PQ}
def qil{src:Source}{n:Nat}{s:ag}{Q:Nat->ag->Prop}(hn:n≠0)(h:∀i dr,i < n->Q i { s with drawn:=dr }):ak M A (choose src n) Q E s:=λL p _=>by show Sem.wp M L (.choose src n .pure) _ _ p s;rw[Sem.wp_choose];exact{hn,h _ _ (Nat.mod_lt _ (Nat.pos_of_ne_zero hn))}
theorem Zw:∀(n:Nat) (xs:List Nat) (s:ag) (Q:List Nat->ag->Prop),xs.length=n->(∀ys dr,ys.Perm xs->Q ys { s with drawn:=dr })->ak M A (drawOrder n xs) Q E s
 |0,xs,s,Q,h,q=>by cases dH.mp h;rw[drawOrder];exact ax (q [] s.drawn .nil)
 | n+1,[],s,Q,h,q=>by cases h
 | n+1,x::xs,s,Q,h,q=>by
  rw[drawOrder]
  case x_2=>simp
  refine ai (qil (5:) λi dr hi=>?_);rw[bK hi];dsimp only;refine ai (Zw n _ _ _ (by rw[mr hi];simp at h;simp;omega) λys dr2 hp=>?_);refine ax (q _ dr2 ?_);exact(hp.cons _).trans (Qi hi)
end
def SIt(h:au)(it a:ad)(f:aa)(i n ep:Nat):Prop:=∃o,h.get? it=some o/\o.cls=.type "set_iterator"/\o.data=.fields #[f,.int i 0,.ref a,.int n 0,.int ep 0]
def SIt.ty{s:ag}{it a:ad}{f:aa}{i n ep:Nat}(x:SIt s.heap it a f i n ep):s.TypeIs (.ref it) "set_iterator":=by obtain⟨o,h1,h2,_⟩:=x;exact⟨o,h1,h2⟩
def SIt.to{h h':au}{it a:ad}{f:aa}{i n ep:Nat}(x:SIt h it a f i n ep)(k:∀o,h.get? it=some o->h'.get? it=some o):SIt h' it a f i n ep:=by obtain⟨o,h1,r⟩:=x;exact{o,k o h1,r}
section
variable{prog:aE}{w:aB}{A:aH}{E:PQ}{s:ag}{it a:ad}{f:aa}{i n ep:Nat}
def Qj{Q:PQ}(x:SIt s.heap it a f i n ep)(h:Q (.ref it) s):ak (al prog w) A (pyIter (.ref it)) Q E s:=by refine wpAny_pyIter_slot x.ty qdu (eG qdu x.ty qfy ?_ (qik _));show ak _ _ (ret (.ref it)) _ _ s;exact ax ⟨_,rfl,"set_iterator",_,x.ty,zO.lookup,h⟩
def Qk{h:au}{j:Nat}{v f':aa}{i':Nat}{ox:Obj}(hox:h.get? it=some ox)(hcx:ox.cls=.type "set_iterator"){vs:Array aa}(hdx:ox.data=.fields vs)(e:vs.setIfInBounds j v=#[f',.int i' 0,.ref a,.int n 0,.int ep 0]) :
  SIt (h.update it (Obj.mapFields (·.setIfInBounds j v))) it a f' i' n ep:=
 ⟨_,g6 _ hox (Obj.isFreed_of_fields (Obj.data_mapFields hdx _)),(Obj.cls_mapFields ..).trans hcx,by rw[Obj.data_mapFields hdx,e]⟩
def qbi{o:Obj}{es:Array (Int×aa)}{t:cr}{k:Nat}{Q:Option aa->ag->Prop}{y:aa}{k':Nat}(x:SIt s.heap it a (.int k 0) i n ep)(ho:s.heap.get? a=some o)(hd:o.data=.set es ep t)(hf:t.fits es.size=true)(hn:es.size=n)
  (hs:∀(A':aH) (E':PQ) (Q':Option (aa×Nat)->ag->Prop),Q' (some (y,k')) s->ak (al prog w) A' (fZ a k i ep) Q' E' s)
  (q:∀h',dP it s.heap h'->SIt h' it a (.int k' 0) (i+1) n ep->Q (some y) { s with heap:=h' }):ak (al prog w) A (cn (.ref it)) Q E s:=by
 obtain⟨ox,hox,hcx,hdx⟩:=id x;unfold cn;refine ai (fV (iE (name:=gn "__next__") x.ty zO (eG zO x.ty JD ?_ (Qh _))));unfold Builtin.«set_iterator.__next__»;refine ai (ax (ai (iG hox hdx ?_)));dsimp only;refine ai (ai (dy ho hd hf (ax ?_)));dsimp only;rw[if_neg (by rw[hn];simp)];refine ai (hs _ _ _ ?_);dsimp only;refine ai (gO hox hdx (5:) ?_);have x1:=Qk (h:=s.heap) (it:=it) (a:=a) (n:=n) (ep:=ep) (f':=.int k' 0) (i':=i) (j:=0) (v:=bH k') hox hcx hdx (by simp[bH]);obtain⟨o1,h1,c1,d1⟩:=id x1;refine ai (gO h1 d1 (5:) ?_);have x2:=Qk (it:=it) (a:=a) (n:=n) (ep:=ep) (f':=.int k' 0) (i':=i+1) (j:=1) (v:=bH ((i:Int)+1)) h1 c1 d1 (by simp[bH]);exact ax ⟨_,rfl,ax (q _ ((eI ..).trans (eI ..)) x2)⟩
def qbj{Q:Option aa->ag->Prop}(hh:A.handled=none){j:Nat}{v:aa}{ox:Obj}{vs:Array aa}(hox:s.heap.get? it=some ox)(hdx:ox.data=.fields vs)(hj:j < vs.size)
  (q:∀h',Heap.ExtBut it s.heap h'->Q none { s with heap:=h' }) :
  ak (al prog w) A.in1 (do setField (bm it) j v;let e<-newExc (dk "StopIteration") [];raiseNew e)
   (λfin s'=>∃v,fin=PySem.Fin.done (Flow.ret v)/\ak (al prog w) A (pure (some v)) Q E s') (λe s'=>ak (al prog w) A (do let b<-isInstance e (dk "StopIteration");if b=true then pure none else throw e) Q E s') s:=by
 refine ai (gO hox hdx hj (ai ?_));simp![newExc,newTuple];refine ai (gM ?_ (by size_fits));refine ai (m:=firstArgMember _ _) (wpAny_of_eq (a:=Value.none) (by first|rfl|(simp![firstArgMember];rfl)) ?_);refine gM ?_ (by size_fits);simp![raiseNew];refine ai (wpAny_handled ?_);rw[show A.in1.handled=none from hh];refine ai (ax (wpAny_throw ?_));refine ai (wpAny_isInstance (T:="StopIteration") (b:=true) ⟨_,bg _ rfl,rfl⟩ isSubtype_stop ?_);exact ax (q _ (((eI ..).extBut.push _).push _))
def qdw{o:Obj}{es:Array (Int×aa)}{t:cr}{k:Nat}{Q:Option aa->ag->Prop}(hh:A.handled=none)(x:SIt s.heap it a (.int k 0) i n ep)(ho:s.heap.get? a=some o)(hd:o.data=.set es ep t)(hf:t.fits es.size=true)(hn:es.size=n)
  (hs:∀(A':aH) (E':PQ) (Q':Option (aa×Nat)->ag->Prop),Q' none s->ak (al prog w) A' (fZ a k i ep) Q' E' s)
  (q:∀h',Heap.ExtBut it s.heap h'->Q none { s with heap:=h' }):ak (al prog w) A (cn (.ref it)) Q E s:=by
 obtain⟨ox,hox,hcx,hdx⟩:=id x;unfold cn;refine ai (fV (iE (name:=gn "__next__") x.ty zO (eG zO x.ty JD ?_ (Qh _))));unfold Builtin.«set_iterator.__next__»;refine ai (ax (ai (iG hox hdx ?_)));dsimp only;refine ai (ai (dy ho hd hf (ax ?_)));dsimp only;rw[if_neg (by rw[hn];simp)];refine ai (hs _ _ _ ?_);exact qbj hh hox hdx (5:) q
def qfA{o ot:Obj}{es:Array (Int×aa)}{t:cr}{T:ad}{ps:List Nat}{p:Nat}{c:Nat}{Q:Option aa->ag->Prop}{y:Int×aa}(x:SIt s.heap it a (.ref T) i n ep)(ho:s.heap.get? a=some o)(hd:o.data=.set es ep t)(hf:t.fits es.size=true)(hn:es.size=n)
  (hT:s.heap.get? T=some ot) (hdT:ot.data=.seq (ps.map λj:Nat=>bH j).toArray c) (hp:ps[i]?=some p) (hy:es[p]?=some y)
  (q:∀h',dP it s.heap h'->SIt h' it a (.ref T) (i+1) n ep->Q (some y.2) { s with heap:=h' }):ak (al prog w) A (cn (.ref it)) Q E s:=by
 obtain⟨ox,hox,hcx,hdx⟩:=id x;unfold cn;refine ai (fV (iE (name:=gn "__next__") x.ty zO (eG zO x.ty JD ?_ (Qh _))));unfold Builtin.«set_iterator.__next__»;refine ai (ax (ai (iG hox hdx ?_)));dsimp only;refine ai (ai (dy ho hd hf (ax ?_)));dsimp only;rw[if_neg (by rw[hn];simp)];refine ai (lx hT hdT ?_);dsimp only
 have e:(ps.map λj:Nat=>bH j).toArray[(i:Int).toNat]?=some (Value.int p 0):=by rw[dF,mw,bE,hp];rfl
 rw[e];dsimp only;refine ai ?_;unfold setNextDrawn;refine ai (dy ho hd hf ?_);dsimp only;rw[if_neg (5:)];rw[dF,hy];refine ax ?_;refine ai (gO hox hdx (5:) ?_);have x2:=Qk (it:=it) (a:=a) (n:=n) (ep:=ep) (f':=.ref T) (i':=i+1) (j:=1) (v:=bH ((i:Int)+1)) hox hcx hdx (by simp[bH]);exact ax ⟨_,rfl,ax (q _ (eI ..) x2)⟩
def qdx{o ot:Obj}{es:Array (Int×aa)}{t:cr}{T:ad}{ps:List Nat}{c:Nat}{Q:Option aa->ag->Prop}(hh:A.handled=none)(x:SIt s.heap it a (.ref T) i n ep)(ho:s.heap.get? a=some o)(hd:o.data=.set es ep t)(hf:t.fits es.size=true)(hn:es.size=n)
  (hT:s.heap.get? T=some ot) (hdT:ot.data=.seq (ps.map λj:Nat=>bH j).toArray c) (hp:ps[i]?=none)
  (q:∀h',Heap.ExtBut it s.heap h'->Q none { s with heap:=h' }):ak (al prog w) A (cn (.ref it)) Q E s:=by
 obtain⟨ox,hox,hcx,hdx⟩:=id x;unfold cn;refine ai (fV (iE (name:=gn "__next__") x.ty zO (eG zO x.ty JD ?_ (Qh _))));unfold Builtin.«set_iterator.__next__»;refine ai (ax (ai (iG hox hdx ?_)));dsimp only;refine ai (ai (dy ho hd hf (ax ?_)));dsimp only;rw[if_neg (by rw[hn];simp)];refine ai (lx hT hdT ?_);dsimp only
 have e:(ps.map λj:Nat=>bH j).toArray[(i:Int).toNat]?=none:=by rw[dF,mw,bE,hp];rfl
 rw[e];dsimp only;refine ai (gO hox hdx (5:) ?_);have x2:=Qk (it:=it) (a:=a) (n:=n) (ep:=ep) (f':=.int 0 0) (i':=i) (j:=0) (v:=bH 0) hox hcx hdx (by simp[bH]);obtain⟨o1,h1,c1,d1⟩:=id x2;exact qbj (s:={ s with heap:=_ }) hh h1 d1 (5:) λh' eb=>q h' λb ob hb e=>eb b ob hb ((eI ..).extBut b ob hb e)
end
section
variable{prog:aE}{w:aB}{A:aH}{E:PQ}{s:ag}{a:ad}{o:Obj}{es:Array (Int×aa)}{ep:Nat}{t:cr}
def Ql{Q:Bool->ag->Prop}(h:Q (byT w) s):ak (al prog w) A setsByText Q E s:=by unfold setsByText;exact ai (lB (ax h))
def qgP{k i:Nat}{Q:Option (aa×Nat)->ag->Prop}(ho:s.heap.get? a=some o)(hd:o.data=.set es ep t)(hf:t.fits es.size=true)(hb:byT w=true)
  (q:Q (((fb (w.params.setOrder a ep) es)[i]?).map λe=>(e.2,k)) s):ak (al prog w) A (fZ a k i ep) Q E s:=by
 unfold fZ;refine ai (dy ho hd hf (ai (Ql ?_)));rw[hb];simp![↓reduceIte];rw[if_neg (5:)];refine ai ?_;unfold setWalk;refine ai (dy ho hd hf (ai (Ql ?_)));rw[hb];simp![↓reduceIte];exact ai (lB (ax (ax q)))
def qgQ{k i:Nat}{Q:Option (aa×Nat)->ag->Prop}(ho:s.heap.get? a=some o)(hd:o.data=.set es ep t)(hf:t.fits es.size=true)(hb:byT w=false)(hp:t.plain=true\/es.size<=1)(hl:t.led=true)
  (q:Q (match es[bV t.place k]?,t.place[bV t.place k]? with |some (_,x),some j=>some (x,j+1) |_,_=>none) s):ak (al prog w) A (fZ a k i ep) Q E s:=by
 unfold fZ;refine ai (dy ho hd hf (ai (Ql ?_)));rw[hb];simp![a7,↓reduceIte];split
 ·rename_i h;have h:(!t.plain&&decide (es.size > 1))=true:=h;exfalso;simp![aG,da,decide_eq_true_eq]at h;rcases hp with z|z
  ·rw[z]at h;cases h.1
  ·lia
 ·refine ai (m:=(if (!t.led&&!es.isEmpty)=true then fU "set:maker-not-led" else pure ())) ?_;rw[hl];exact ax (ax q)
def WK(prog:aE)(w:aB)(it a:ad)(fp:List ad)(vs:List aa)(St:Nat->au->Prop):Prop:=∀A:aH,A.handled=none->Walks prog w A it fp [it] vs.length (λi v=>vs[i]?=some v) St
def qim(it:ad)(hne:a≠it)(hd:o.data=.set es ep t)(hf:t.fits es.size=true)(hb:byT w=true) :
  WK prog w it a [it,a] ((fb (w.params.setOrder a ep) es).toList.map (·.2)) (λi h=>SIt h it a (.int (0:Nat) 0) i es.size ep/\h.get? a=some o):=λA hh=>by
 have hsz:(fb (w.params.setOrder a ep) es).size=es.size:=by
  have:=(Zv (w.params.setOrder a ep) es).length_eq
  simpa using this
 refine{λb hb=>by simp at hb;simp[hb],λi h h' st k=>{st.1.to λo e=>k it (5:) o e,k a (5:) _ st.2},λi s Q E hi st q=>?_,λs Q E st q=>?_,λi s Q E st q=>Qj st.1 q}
 ·have hi':i < (fb (w.params.setOrder a ep) es).size:=(-hi:)
  refine qbi (y:=(fb (w.params.setOrder a ep) es)[i].2) (k':=0) st.1 st.2 hd hf rfl (λA' E' Q' q'=>qgP st.2 hd hf hb ?_) λh' sb x=>q _ h' s.toks ?_ ⟨x,sb.extBut a _ hne st.2⟩ λb ob hb e=>sb.extBut b ob (λz=>hb (by simp[z])) e
  ·rw[dq hi'];exact q'
  ·simp[hi']
 ·refine qdw hh st.1 st.2 hd hf rfl (λA' E' Q' q'=>qgP st.2 hd hf hb ?_) λh' eb=>q h' s.toks λb ob hb e=>eb b ob (λz=>hb (by simp[z])) e;rw[mC (5:)];exact q'
def slP(t:cr)(i:Nat):Nat:=match i with
 |0=>0
 | j+1=>t.place.getD j 0+1
def qfB(it:ad)(hne:a≠it)(hd:o.data=.set es ep t)(hf:t.fits es.size=true)(hb:byT w=false)(hp:t.plain=true\/es.size<=1)(hr:Rt true t) :
  WK prog w it a [it,a] (es.toList.map (·.2)) (λi h=>SIt h it a (.int (slP t i) 0) i es.size ep/\h.get? a=some o):=λA hh=>by
 have hz:t.place.size=es.size:=by simp![SetTable.fits,aG,beq_iff_eq]at hf;exact hf.1
 have bl:∀i,i<=es.size->bV t.place (slP t i)=i:=λi hi=>by
  cases i with
  |zero=>exact qcl _ hr.1
  |succ j=>
   have hj:j < t.place.size:=by lia
   show bV t.place (t.place.getD j 0+1)=j+1;rw[show t.place.getD j 0=t.place[j] by simp[Array.getD,hj]];exact qck hr.1 hj
 refine{λb hb=>by simp at hb;simp[hb],λi h h' st k=>{st.1.to λo e=>k it (5:) o e,k a (5:) _ st.2},λi s Q E hi st q=>?_,λs Q E st q=>?_,λi s Q E st q=>Qj st.1 q}
 ·have hi':i < es.size:=(-hi:)
  refine qbi (y:=es[i].2) (k':=slP t (i+1)) st.1 st.2 hd hf rfl (λA' E' Q' q'=>qgQ st.2 hd hf hb hp hr.2.2 ?_) λh' sb x=>q _ h' s.toks ?_ ⟨x,sb.extBut a _ hne st.2⟩ λb ob hb e=>sb.extBut b ob (λz=>hb (by simp[z])) e
  ·rw[bl i (1:),dq hi',dq (1:)]
   have:slP t (i+1)=t.place[i]'(1:)+1:=by show t.place.getD i 0+1=_;rw[show t.place.getD i 0=t.place[i]'(1:) by simp[Array.getD,show i < t.place.size by lia]]
   rw[this]at q';exact q'
  ·simp[hi']
 ·have e:(es.toList.map (·.2)).length=es.size:=by simp
  rw[e]at st;refine qdw hh st.1 st.2 hd hf rfl (λA' E' Q' q'=>qgQ st.2 hd hf hb hp hr.2.2 ?_) λh' eb=>q h' s.toks λb ob hb e=>eb b ob (λz=>hb (by simp[z])) e;rw[bl _ (az _),mC (az _)];exact q'
def qin(it T:ad)(hne:a≠it)(hnT:T≠it){ot:Obj}{ps:List Nat}(hd:o.data=.set es ep t)(hf:t.fits es.size=true)(hdT:ot.data=.seq (ps.map λj:Nat=>bH j).toArray 0)(hp:ps.Perm (cw es.size)) :
  WK prog w it a [it,a,T] (ps.map λp=>(es.getD p default).2) (λi h=>SIt h it a (.ref T) i es.size ep/\h.get? a=some o/\h.get? T=some ot):=λA hh=>by
 have hl:ps.length=es.size:=by simpa using hp.length_eq
 refine{λb hb=>by simp at hb;simp[hb],λi h h' st k=>{st.1.to λo e=>k it (5:) o e,k a (5:) _ st.2.1,k T (5:) _ st.2.2},λi s Q E hi st q=>?_,λs Q E st q=>?_,λi s Q E st q=>Qj st.1 q}
 ·have hi':i < ps.length:=(-hi:)
  have hpi:ps[i] < es.size:=by
   have:=hp.mem_iff.mp (kK hi')
   simpa using this
  refine qfA (p:=ps[i]) (y:=es[ps[i]]) st.1 st.2.1 hd hf rfl st.2.2 hdT (bK hi') (dq hpi) λh' sb x=>q _ h' s.toks ?_ ⟨x,sb.extBut a _ hne st.2.1,sb.extBut T _ hnT st.2.2⟩ λb ob hb e=>sb.extBut b ob (λz=>hb (by simp[z])) e;simp[hi',Array.getD,hpi]
 ·have e:(ps.map λp=>(es.getD p default).2).length=ps.length:=by simp
  rw[e]at st;exact qdx hh st.1 st.2.1 hd hf rfl st.2.2 hdT (List.getElem?_eq_none (az _)) λh' eb=>q h' s.toks λb ob hb e=>eb b ob (λz=>hb (by simp[z])) e
def qfC{ps:List Nat}(hp:ps.Perm (cw es.size)):(ps.map λp=>(es.getD p default).2).Perm (es.toList.map (·.2)):=by
 refine(hp.map _).trans (List.Perm.of_eq ?_);refine kM (5:) λi h1 h2=>?_
 have:i < es.size:=(-h1:)
 simp[Array.getD,this]
def qfD{Q:PQ}(ho:s.heap.get? a=some o)(hx:o.ExactSet)(hd:o.data=.set es ep t)(hf:t.fits es.size=true)(hr:Rt (!byT w) t)(hb:es.size < ef)
  (q:∀(it:ad) (h':au) (dr:Drawn) (fp:List ad) (vs:List aa) (St:Nat->au->Prop),vs.Perm (es.toList.map (·.2))->WK prog w it a fp vs St->St 0 h'->(∀b o,s.heap.get? b=some o->h'.get? b=some o)->s.heap.objs.size<=it->(∀b∈fp,b=a\/s.heap.objs.size<=b)->Q (.ref it) { s with heap:=h',drawn:=dr }) :
  ak (al prog w) A (pyIter (.ref a)) Q E s:=by
 have hT:s.TypeIs (.ref a) "set":=⟨o,ho,hx.1⟩
 have ne:∀{b:ad},s.heap.objs.size<=b->a≠b:=λ{b} h z=>by
  have:=aN ho
  lia
 refine wpAny_pyIter_slot hT lK (eG lK hT qfz ?_ (PySem.F.args_set_iter_1 _));unfold Builtin.«frozenset.__iter__»;refine ai (m:=Builtin.Frozenset.slot0 "__iter__" _) (ax ?_);refine ai ?_;unfold Builtin.Frozenset.sizeOf;refine ai (ai (dy ho hd hf (ax (ax ?_))))
 have fin:∀(s2:ag) (fv:aa) (dr:Drawn) (h2:au),s2={ s with heap:=h2,drawn:=dr }->h2.get? a=some o->
   (Q (.ref h2.objs.size) { s with heap:=h2.push { cls:=.type "set_iterator",data:=.fields #[fv,.int 0 0,.ref a,.int es.size 0,.int ep 0] },drawn:=dr })->
   ak (al prog w) A.in1 (do let e<-setEpoch a;let v<-newFields "set_iterator" [fv,bH 0,.ref a,bH es.size,bH e];ret v)
    (λfin s'=>∃v,fin=PySem.Fin.done (Flow.ret v)/\∃T' r,s'.TypeIs v T'/\typeLookup (.type T') "__next__" = pure (some r)/\Q v s') E s2:=by
  intro s2 fv dr h2 e2 ho2 q2;subst e2;refine ai (wpAny_setEpoch_of (s:={ s with heap:=h2,drawn:=dr }) ho2 hd hf (ai (gM (ax ⟨_,rfl,"set_iterator",_,⟨_,bg _ rfl,rfl⟩,zO.lookup,q2⟩))))
 refine ai ?_;unfold setDrawn;refine ai (dy ho hd hf (ai (Ql (ax ?_))));dsimp only;have lo:∀(h2:au) (x:Obj) (b:ad) (ob:Obj),h2.get? b=some ob->(h2.push x).get? b=some ob:=λh2 x b ob e=>aP _ e;split
 ·rename_i hc;have hc:(!byT w&&(!t.plain&&decide (es.size > 1)))=true:=hc;refine ai (Zw es.size (cw es.size) s _ (5:) λps dr hp=>?_)
  have hz:(eT (λj:Nat=>bH (j:Int)) ps).length<=sizeLine:=by
   have:=hp.length_eq
   simp at this ⊢;rw[this];exact gN hb
  refine ai (wpAny_newTuple ?_ hz);refine fin _ _ dr _ rfl (lo _ _ _ _ ho) ?_;have s1:(s.heap.push { cls:=.type "tuple",data:=.seq (eT (λj:Nat=>bH (j:Int)) ps).toArray }).objs.size=s.heap.objs.size+1:=eo ..;refine q _ _ dr [_,a,s.heap.objs.size] _ _ (qfC hp) (qin (ot:={ cls:=.type "tuple",data:=.seq (eT (λj:Nat=>bH (j:Int)) ps).toArray }) _ s.heap.objs.size (ne (1:)) (1:) hd hf rfl hp) ⟨⟨_,bg _ rfl,rfl,rfl⟩,lo _ _ _ _ (lo _ _ _ _ ho),lo _ _ _ _ (bg _ rfl)⟩ (λb ob e=>lo _ _ _ _ (lo _ _ _ _ e)) (1:) λb hb=>?_;simp![aF,eC,or_false]at hb;rcases hb with rfl|rfl|rfl
  ·exact .inr (1:)
  ·exact .inl rfl
  ·exact .inr (az _)
 ·rename_i hc;have hc:¬ (!byT w&&(!t.plain&&decide (es.size > 1)))=true:=hc;refine ai (ax ?_);refine fin s _ s.drawn s.heap rfl ho ?_
  have two:∀b∈[s.heap.objs.size,a],b=a\/s.heap.objs.size<=b:=λb hb=>by
   simp![aF,eC,or_false]at hb;rcases hb with rfl|rfl
   ·exact .inr (az _)
   ·exact .inl rfl
  cases hT:byT w with
  |true=>exact q _ _ s.drawn [_,a] _ _ ((Zv _ es).map _) (qim _ (ne (az _)) hd hf hT) ⟨⟨_,bg _ rfl,rfl,rfl⟩,lo _ _ _ _ ho⟩ (λb ob e=>lo _ _ _ _ e) (az _) two
  |false=>
   rw[hT]at hc hr;refine q _ _ s.drawn [_,a] _ _ (.refl _) (qfB _ (ne (az _)) hd hf hT ?_ hr) ⟨⟨_,bg _ rfl,rfl,rfl⟩,lo _ _ _ _ ho⟩ (λb ob e=>lo _ _ _ _ e) (az _) two;simp![Bool.not_false,Bool.true_and,aG,da,decide_eq_true_eq,not_and]at hc
   cases hp:t.plain with
   |true=>exact .inl rfl
   |false=>exact .inr (by have:=hc hp;lia)
end
open PySem.W
section
variable{prog:aE}{w:aB}{A:aH}{E:PQ}{s:ag}{a:ad}{o:Obj}{es:Array (Int×aa)}{ep:Nat}{t:cr}
def qkL{Q:Bool->ag->Prop}(hT:s.TypeIs (.ref a) "set")(h:Q false s):ak (al prog w) A (lL (.ref a)) Q E s:=by
 unfold lL;refine ai (wpAny_specialOf hT PySem.F.slot_set_len.lookup ?_);generalize hid:("set.__len__" : String)=id0
 wp_delta
 rw[show splitId id0=some ("set","__len__") from by subst hid;decide+kernel];subst hid;refine ai (wpAny_isInstance (T:="set") (b:=true) hT (by rw[lC];kernel_rfl) ?_);refine lD (λhab=>absurd hab (2:)) (λ_=>?_);refine lD (λ_=>?_) (λhab=>absurd (3:) hab);exact ai (iD hT (ax h))
def qcm{vs:List aa}{acc:Array aa}(h:ItemsOf (λi v=>vs[i]?=some v) acc vs.length):acc.toList=vs:=by
 refine kM (-h.1:) λi h1 h2=>?_;have h1':i < acc.size:=(-h1:)
 have this:vs[i]?=some acc[i]:=h.2 i acc[i] (dq h1');rw[bK h2]at this
 simpa using (Option.some.inj this).symm
def qnE{R:List aa->ag->Prop}(hh:A.handled=none)(ho:s.heap.get? a=some o)(hx:o.ExactSet)(hd:o.data=.set es ep t)(hf:t.fits es.size=true)(hr:Rt (!byT w) t)(hb:es.size < ef)
  (q:∀(h':au) (tk:Nat) (dr:Drawn) (vs:List aa),vs.Perm (es.toList.map (·.2))->(∀b o,s.heap.get? b=some o->h'.get? b=some o)->R vs { s with heap:=h',toks:=tk,drawn:=dr }) :
  ak (al prog w) A (collect (.ref a)) R E s:=by
 unfold collect;refine ai (wpAny_runValue (eH entry_proto_collect' ?_));rw[eS PySem.F.plain_proto_collect _];show ak _ A.in1 (newList [] >>= λl=>again (.builtin "list.__iadd__" ⟨[l,.ref a],[]⟩)) _ _ s;refine ai (gM (ax ⟨e9 lM _,eH entry_list_iadd' ?_⟩));rw[eS lM _];show ak _ A.in1 (lN (.ref s.heap.objs.size) (.ref a) (.ref s.heap.objs.size)) _ _ _;generalize hl:({ cls:=.type "list",data:=.seq ([]:List aa).toArray }:Obj)=l0;have hS1:(s.heap.push l0).get? s.heap.objs.size=some { cls:=.type "list",data:=.seq #[] }:=by subst hl;exact bg _ rfl
 have ho1:(s.heap.push l0).get? a=some o:=aP _ ho;have old1:∀b ob,s.heap.get? b=some ob->(s.heap.push l0).get? b=some ob/\b≠s.heap.objs.size:=λb ob e=>{aP _ e,aZ (aN e)};have hT1:ii { s with heap:=s.heap.push l0 } (.ref a) "set":=⟨o,ho1,hx.1⟩;have sz1:(s.heap.push l0).objs.size=s.heap.objs.size+1:=eo ..;have hSa:s.heap.objs.size≠a:=λz=>(old1 a o ho).2 z.symm;generalize s.heap.push l0=g1 at hS1 ho1 old1 hT1 sz1;unfold lN;refine ai (iD (T:="set") hT1 ?_);have e1:lO (.ref s.heap.objs.size) (.ref a)=false:=by simp[lO,hSa]
 simp![e1,show(dk "set" == dk "list")=false by decide,show(dk "set" == dk "tuple")=false by decide,ki,a7,if_false];refine ai (qfD ho1 hx hd hf hr hb λit g2 dr fp vs St hp W st old2 nit nfp=>?_);have hS2:=old2 _ _ hS1
 have hSf:s.heap.objs.size∉fp:=λz=>by
  rcases nfp _ z with e|e
  ·exact hSa e
  ·dsimp only at e;lia
 have hn:vs.length<=sizeLine:=by
  have:=hp.length_eq
  simp at this;rw[this];exact gN hb
 have key:∀(h:au) (c1 tk:Nat),St 0 h->(∀b o,b≠s.heap.objs.size->s.heap.get? b=some o->h.get? b=some o)->h.get? s.heap.objs.size=some { cls:=.type "list",data:=.seq #[] c1 }->
   de (al prog w) A (.builtin "list.extend.loop" ⟨[.ref s.heap.objs.size,.ref it,.ref s.heap.objs.size],[]⟩) (λq' s'=>∃(h':au) (tk:Nat) (acc':Array aa) (c':Nat),q'=.ok (.ret (.ref s.heap.objs.size))/\s'={ s with heap:=h',toks:=tk,drawn:=dr }/\
    (∀b o,s.heap.get? b=some o->h'.get? b=some o)/\h'.get? s.heap.objs.size=some { cls:=.type "list",dict:=none,data:=.seq acc' c',slots:=#[] }/\acc'.toList=vs) { s with heap:=h,toks:=tk,drawn:=dr }:=by
  intro h c1 tk st' hk hS';refine codeAny_extend_loopS (W A.in1 hh).toS hn s.heap.objs.size hSf _ vs.length 0 _ #[] c1 rfl (bd _) st' hS' (ItemsOf.nil _) λs' acc' c' hm hS3 hacc=>?_;rw[Moved.eq_with hm];refine{s'.heap,s'.toks,acc',c',rfl,rfl,λb ob e=>hm.heap b ob (λz=>?_) (hk b ob (old1 b ob e).2 e),hS3,qcm hacc};have lt:=aN e;dsimp only at nit;rcases aF.mp z with z|z
  ·lia
  ·have:=bo.mp z
   lia
 refine ai (cK (qkL ⟨o,old2 _ _ ho1,hx.1⟩ ?_))
 refine lD (λ_=>?_) (λ_=>ax ⟨e9 lP _,d9 (key g2 0 s.toks st (λb ob _ e=>old2 b ob (old1 b ob e).1) hS2) λr s' hq=>by
   obtain⟨h',tk',acc',c',rfl,rfl,hk',hS',hv⟩:=hq;show ak _ A (load s.heap.objs.size >>= _) _ _ _;refine ai (wpAny_load hS' (ax ?_))
   have:=q h' tk' dr vs hp hk'
   rw[<-hv]at this;exact this⟩)
 refine ai (dg (ai ?_));show ak _ _ (updateSeq s.heap.objs.size (·.push .none) >>= λ_=>updateSeq s.heap.objs.size (·.pop)) _ _ _;refine ai (wpAny_updateSeq hS2 rfl ?_);have hS3:=g6 (cg (·.push Value.none)) hS2 rfl;refine wpAny_updateSeq (hz:=by seq_fits) hS3 rfl ?_;have hS4:=g6 (cg (·.pop)) hS3 rfl;have oth:∀b ob,b≠s.heap.objs.size->g2.get? b=some ob->((g2.update s.heap.objs.size (cg (·.push Value.none))).update s.heap.objs.size (cg (·.pop))).get? b=some ob:=λb ob hb e=>(g7 _ _ (cj hb)).trans ((g7 _ _ (cj hb)).trans e)
 exact ax ⟨e9 lP _,d9 (key _ _ s.toks ((W A.in1 hh).frame 0 _ _ st λb hb ob e=>oth b ob (λz=>hSf (z▸hb)) e) (λb ob hb e=>oth b ob hb (old2 b ob (old1 b ob e).1)) hS4) λr s' hq=>by
   obtain⟨h',tk',acc',c',rfl,rfl,hk',hS',hv⟩:=hq;show ak _ A (load s.heap.objs.size >>= _) _ _ _;refine ai (wpAny_load hS' (ax ?_))
   have:=q h' tk' dr vs hp hk'
   rw[<-hv]at this;exact this⟩
end
theorem Qm(val:Nat->Int):∀i,(cU val i).Nodup
 |0=>List.nodup_nil
 | i+1=>by
  rw[lA];unfold step_dedup;split
  ·exact Qm val i
  ·rename_i h;rw[kN];refine{Qm val i,by simp,λa ha b hb e=>h ?_};rw[bo.mp hb]at e;rw[ij];exact{a,ha,by simp[e]}
def qkM(ns:List Int)(k:Int):k∈cU (λi=>ns.getD i 0) ns.length↔k∈ns:=by
 have e:(cw ns.length).map (λi=>ns.getD i 0)=ns:=kM (5:) λi h1 h2=>by simp[h2]
 have h:=firstMet_any (λi=>ns.getD i 0) ns.length k;rw[e]at h;have a:∀l:List Int,l.any (· == k)=true↔k∈l:=λl=>by rw[ij];simp
 rw[<-a,h,a]
def qio{xs ys:List Int}(hy:ys.Nodup)(hm:∀k,k∈ys->k∈xs)(hl:xs.length=ys.length):xs.Perm ys:=by
 have:∀(ys xs:List Int),ys.Nodup->(∀k,k∈ys->k∈xs)->xs.length=ys.length->xs.Perm ys:=by
  intro ys
  induction ys with
  |nil=>intro xs _ _ hl;cases dH.mp hl;exact .refl _
  |cons y ys ih=>
   intro xs hn hm hl;have hy:y∈xs:=hm y (5:);have hp:xs.Perm (y::xs.erase y):=List.perm_cons_erase hy;rw[fj]at hn;refine hp.trans ((ih (xs.erase y) hn.2 (λk hk=>?_) ?_).cons y)
   ·have:=(hp.mem_iff (a:=k)).mp (hm k (by simp[hk]))
    rcases aF.mp this with z|z
    ·subst z;exact absurd hk hn.1
    ·exact z
   ·have:=hp.length_eq
    simp at this hl
    lia
 exact this ys xs hy hm hl
end TW
namespace L2
open PySem PySem.Spec PyProof.Rows TW
def qkN(P:aE)(w:aB)(a:ad)(ms:List Int):HO:=.ext λh=>Zu P w (!byT w) h a (λk=>ms.any (· == k)) ms.length
section
variable{X:Cx}{pins:PP}{Z:St}{H:Hp}{s:ag}
def Inv.drew(I:Inv X pins Z H s)(d:Drawn):Inv X pins Z H { s with drawn:=d }:=⟨I.ok,I.os,I.bare,I.base,I.loc,I.cell,I.free,I.freeC,I.pin,I.hok,I.len⟩
def qax(hc:X.calm=true):qO X (.type "set") (λvs H Q=>∃p,∃ns:List Int,vs=[.ref p]/\SqL X.K H p (ns.map V.int)/\ns.length < 4000/\∀a,∀ms:List Int,H a=none->ms.Nodup->(∀k,k∈ms↔k∈ns)->Q (.ref a) (upd H a (qkN X.prog X.w a ms))):=by
 intro pins s Z H xs us Q I r h;obtain⟨p,ns,rfl,hq,hl,q⟩:=h;obtain⟨u,rfl,rx⟩:=yt r;cases rx;obtain⟨its,rv,pl,hz⟩:=I.list hq;have hn:its.length=ns.length:=by have:=rv.length;simp at this;exact this.symm
 have hsz:its.toArray.size=ns.length:=by simp[hn]
 refine qnD (I.ok.hd hc) pl.isList (by simpa using TS.Qf rv) (by rw[hsz];unfold ef;lia) λh' tk S hk=>?_;rw[hsz]at S;have k0:∀b o,s.heap.get? b=some o->h'.get? b=some o:=λb o e=>hk b o (aN e) e;obtain⟨o,es,ep,t,ho,r⟩:=id S;refine{.ref s.heap.objs.size,_,I.laid (t':=tk) k0 (az _) (show qH X.prog X.w _ _ _ (qkN X.prog X.w s.heap.objs.size _) from{S,⟨o,ho⟩,λh1 h2 z k=>z.to k}),rfl,q _ _ (I.hok.fresh (az _)) (Qm _ _) (qkM ns)}
def Zx(hc:X.calm=true):qO X (.builtin "sorted") (λvs H Q=>∃a ms,vs=[.ref a]/\H a=some (qkN X.prog X.w a ms)/\ms.Nodup/\∀l (qs:List Int),H l=none->qs.Perm ms->qs.Pairwise (·<=·)->Q (.ref l) (upd H l (.lst (qs.map V.int)))):=by
 intro pins s Z H xs us Q I r h;obtain⟨a,ms,rfl,ha,hn,q⟩:=h;obtain⟨u,rfl,rx⟩:=yt r;cases rx;obtain⟨S,_⟩:=(show qH X.prog X.w H s.heap a (qkN X.prog X.w a ms) from I.hok a _ ha);obtain⟨o,es,ep,t,ho,hx,hd,hel,hm,hb,hf,hz,hr⟩:=S
 have hv:∀v∈es.toList.map (·.2),∃n t,v=Value.int n t:=λv hv=>by obtain⟨e,he,rfl⟩:=dU.mp hv;obtain⟨⟨k,hk,_⟩,_⟩:=hel e he;obtain⟨t,ht⟩:=i6 hk;exact⟨k,t,ht⟩
 have hsz:ms.length<=sizeLine:=by rw[<-hz];exact gN hb
 have km:((es.toList.map (·.2)).map TS.nOf).Perm ms:=by refine qio hn (λk hk=>?_) (by simp[hz]);obtain⟨e,he,h1⟩:=(hm k).mp (by rw[ij];exact{k,hk,by simp});obtain⟨t,ht⟩:=i6 h1;refine dU.mpr ⟨e.2,dU.mpr ⟨e,he,rfl⟩,?_⟩;rw[ht];rfl
 refine TS.qcg λA' hA=>qnE (hA.trans (I.ok.hd hc)) ho hx hd hf hr hb λh' tk dr vs hp hk=>?_;have hv2:∀v∈vs,∃n t,v=Value.int n t:=λv z=>hv v (hp.mem_iff.mp z);have hp2:(vs.map TS.nOf).Perm ms:=(hp.map _).trans km;refine{vs.map TS.nOf,TS.J1 hv2,by have:=hp2.length_eq;simp at this;lia,λh2 qs ws e h1 hpq hs old he=>?_}
 have hz2:(qs.map V.int).length<=sizeLine:=by
  have:=(hpq.trans hp2).length_eq
  simp
  lia
 have I2:Inv X pins Z H { s with heap:=h',toks:=tk,drawn:=dr }:=(I.kept (t':=tk) hk).drew dr;refine{.ref h'.objs.size,_,I2.laid (t':=tk) (λb o eb=>old b o eb) (az _) (show qH X.prog X.w _ _ _ (.lst (qs.map V.int)) from{hz2,_,e,h1,?_}),rfl,q _ _ (I2.hok.fresh (az _)) (hpq.trans hp2) hs};rw[kE];exact he
end
end L2
namespace DE
open PySem L2
inductive D where
 | non|bl (b:Bool)|int (n:Int)|str (s:Str)|lst (l:List D)|tup (l:List D)|ins (c:Str) (ns:List Str) (l:List D)|exc (C:ad) (ns:List Str) (l:List D)|dct (ks:List Str) (l:List D)
 deriving Inhabited
abbrev KC:=Str->Option ad
def kvX(ks:List Str)(xs:List V):List (Key×V):=(ks.zip xs).map λp=>(dC p.1,p.2)
mutual
def Rep(U:KC)(G:Hp):D->V->Prop
 |.non,v=>v=.non
 |.bl b,v=>v=.bl b
 |.int n,v=>v=.int n
 |.str s,v=>v=.str s
 |.lst ds,v=>∃a xs,v=.ref a/\G a=some (.lst xs)/\ql U G ds xs
 |.tup ds,v=>∃a xs,v=.ref a/\G a=some (.tup xs)/\ql U G ds xs
 |.ins c ns ds,v=>∃p dx C xs,U c=some C/\v=.ref p/\G p=some (.ins C dx (ns.zip xs))/\xs.length=ns.length/\ql U G ds xs
 |.exc _ _ _,_=>False
 |.dct ks ds,v=>∃p xs,v=.ref p/\G p=some (.dK (kvX ks xs))/\xs.length=ks.length/\ql U G ds xs
def ql(U:KC)(G:Hp):List D->List V->Prop
 |[],xs=>xs=[]
 | d::ds,xs=>∃x r,xs=x::r/\Rep U G d x/\ql U G ds r
end
mutual
theorem Rep.same{U:KC}{G G':Hp}(e:qo G G'):∀{d:D} {v:V},Rep U G d v->Rep U G' d v
 |.non,v,h=>by simp![Rep]at h ⊢;exact h
 |.bl b,v,h=>by simp![Rep]at h ⊢;exact h
 |.int i,v,h=>by simp![Rep]at h ⊢;exact h
 |.str x,v,h=>by simp![Rep]at h ⊢;exact h
 |.lst ds,v,h=>by simp![Rep]at h ⊢;obtain⟨a,xs,rfl,h1,h2⟩:=h;exact{a,xs,rfl,e _ _ h1,ql.same e h2}
 |.tup ds,v,h=>by simp![Rep]at h ⊢;obtain⟨a,xs,rfl,h1,h2⟩:=h;exact{a,xs,rfl,e _ _ h1,ql.same e h2}
 |.ins c ns ds,v,h=>by simp![Rep]at h ⊢;obtain⟨p,dx,C,xs,hc,rfl,h1,hl,h2⟩:=h;exact{p,dx,C,xs,hc,rfl,e _ _ h1,hl,ql.same e h2}
 |.exc _ _ _,v,h=>by simp![Rep]at h
 |.dct ks ds,v,h=>by simp![Rep]at h ⊢;obtain⟨p,xs,rfl,h1,hl,h2⟩:=h;exact{p,xs,rfl,e _ _ h1,hl,ql.same e h2}
theorem ql.same{U:KC}{G G':Hp}(e:qo G G'):∀{ds:List D} {vs:List V},ql U G ds vs->ql U G' ds vs
 |[],vs,h=>by simp![ql]at h ⊢;exact h
 | d::ds,vs,h=>by simp![ql]at h ⊢;obtain⟨x,r,rfl,h1,h2⟩:=h;exact{x,r,rfl,Rep.same e h1,ql.same e h2}
end
section
variable{U:KC}{G G':Hp}
def ql.nil:ql U G [] []:=by simp![ql]
def ql.cons{d:D}{ds:List D}{v:V}{vs:List V}(h:Rep U G d v)(t:ql U G ds vs):ql U G (d::ds) (v::vs):=by simp![ql];exact⟨v,vs,rfl,h,t⟩
theorem ql.len:∀{ds:List D} {vs:List V},ql U G ds vs->ds.length=vs.length
 |[],vs,h=>by simp![ql]at h;subst h;rfl
 | d::ds,vs,h=>by simp![ql]at h;obtain⟨x,r,rfl,h1,h2⟩:=h;simp[ql.len h2]
theorem ql.app:∀{ds es:List D} {vs us:List V},ql U G ds vs->ql U G es us->ql U G (ds++es) (vs++us)
 | [],es,vs,us,h,h'=>by simp![ql]at h;subst h;exact h'
 | d::ds,es,vs,us,h,h'=>by simp![ql]at h;obtain⟨x,r,rfl,h1,h2⟩:=h;exact ql.cons h1 (ql.app h2 h')
def ql.snoc{ds:List D}{vs:List V}{d:D}{v:V}(h:ql U G ds vs)(h':Rep U G d v):ql U G (ds++[d]) (vs++[v]):=h.app %[h'|0]
theorem ql.drop:∀(n:Nat) {ds:List D} {vs:List V},ql U G ds vs->ql U G (ds.drop n) (vs.drop n)
 |0,_,_,h=>h
 | n+1,[],vs,h=>by simp![ql]at h;subst h;exact .nil
 | n+1,d::ds,vs,h=>by simp![ql]at h;obtain⟨x,r,rfl,h1,h2⟩:=h;exact ql.drop n h2
theorem ql.take:∀(n:Nat) {ds:List D} {vs:List V},ql U G ds vs->ql U G (ds.take n) (vs.take n)
 |0,_,_,h=>(-ql.nil:)
 | n+1,[],vs,h=>by simp![ql]at h;subst h;exact .nil
 | n+1,d::ds,vs,h=>by simp![ql]at h;obtain⟨x,r,rfl,h1,h2⟩:=h;exact ql.cons h1 (ql.take n h2)
theorem ql.atD:∀{ds:List D} {vs:List V} {i:Nat} {d:D},ql U G ds vs->ds[i]?=some d->∃v,vs[i]?=some v/\Rep U G d v
 |[],vs,i,d,h,e=>by simp at e
 | d::ds,vs,0,d',h,e=>by simp![ql]at h;obtain⟨x,r,rfl,h1,h2⟩:=h;simp at e;subst e;exact⟨x,rfl,h1⟩
 | d::ds,vs,i+1,d',h,e=>by simp![ql]at h;obtain⟨x,r,rfl,h1,h2⟩:=h;obtain⟨v',e1,e2⟩:=ql.atD (i:=i) h2 (-e:);exact{v',(-e1:),e2}
theorem ql.set:∀{ds:List D} {vs:List V} (i:Nat) {d:D} {v:V},ql U G ds vs->Rep U G d v->ql U G (ds.set i d) (vs.set i v)
 | [],vs,i,d,v,h,h'=>by simp![ql]at h;subst h;exact .nil
 | d::ds,vs,0,d',v,h,h'=>by simp![ql]at h;obtain⟨x,r,rfl,h1,h2⟩:=h;exact ql.cons h' h2
 | d::ds,vs,i+1,d',v,h,h'=>by simp![ql]at h;obtain⟨x,r,rfl,h1,h2⟩:=h;exact ql.cons h1 (ql.set i h2 h')
end
inductive Sl where
 | no|val (d:D)|own (l:List D)|bor (l:List D)|scr (l:List D)
abbrev Env:=List Sl
def SlR(U:KC)(K:Frag)(G H Hv:Hp):Sl->Option (Option V)->Prop
 |.no,_=>True
 |.val d,o=>∃v,o=some (some v)/\Rep U G d v
 |.own ds,o=>∃a xs,o=some (some (.ref a))/\H a=some (.lst xs)/\Hv a=none/\G a=none/\ql U G ds xs
 |.bor ds,o=>∃a xs,o=some (some (.ref a))/\Hv a=some (.lst xs)/\ql U G ds xs
 |.scr ds,o=>∃a xs,o=some (some (.ref a))/\SqL K Hv a xs/\ql U G ds xs
def qcn(N:Env)(Z:St)(a:ad):Prop:=∃(i:Nat) (l:List D),N[i]?=some (.own l)/\Z[i]?=some (some (.ref a))
structure ER(U:KC)(K:Frag)(Gv Hv G H:Hp)(N:Env)(Z:St):Prop where
 len:N.length=Z.length
 sub:qo G H
 base:qo Hv H
 g0:qo Gv G
 fresh:∀a o,G a=some o->(∃o',Gv a=some o')\/Hv a=none
 sl:∀(i:Nat) (s:Sl),N[i]?=some s->SlR U K G H Hv s Z[i]?
 ap:∀(i j:Nat) (a:ad) (l m:List D),N[i]?=some (.own l)->N[j]?=some (.own m)->Z[i]?=some (some (.ref a))->Z[j]?=some (some (.ref a))->i=j
structure Po(U:KC)(K:Frag)(Gv Hv:Hp)(Z:St)(G H:Hp)(N:Env)(G' H':Hp)(N':Env):Prop where
 er:ER U K Gv Hv G' H' N' Z
 hs:qo H H'
 gs:qo G G'
 new:∀a o,G' a=some o->(∃o',G a=some o')\/H a=none\/qcn N Z a
 fz:∀(i:Nat) (l:List D),N'[i]?=some (.own l)->N[i]?=some (.own l)
theorem qo.none{H H':Hp}(e:qo H H'){a:ad}(h:H' a=none):H a=none:=by
 cases q:H a with
 |none=>rfl
 |some o=>rw[e a o q]at h;cases h
section
variable{U:KC}{K:Frag}{Gv Hv G H G' H' G'' H'':Hp}{N N' N'':Env}{Z:St}
def Po.refl(h:ER U K Gv Hv G H N Z):Po U K Gv Hv Z G H N G H N:={h,λ_ _ e=>e,λ_ _ e=>e,λ_ o e=>.inl ⟨o,e⟩,λ_ _ e=>e}
def Po.trans(a:Po U K Gv Hv Z G H N G' H' N')(b:Po U K Gv Hv Z G' H' N' G'' H'' N''):Po U K Gv Hv Z G H N G'' H'' N'':=
 ⟨b.er,λc o e=>b.hs c o (a.hs c o e),λc o e=>b.gs c o (a.gs c o e),λc o e=>by
  rcases b.new c o e with ⟨o',z⟩|z|⟨i,l,z1,z2⟩
  ·exact a.new c o' z
  ·exact .inr (.inl (qo.none a.hs z))
  ·exact .inr (.inr ⟨i,l,a.fz i l z1,z2⟩),λi l e=>a.fz i l (b.fz i l e)⟩
theorem SlR.grow(hs:qo H H')(gs:qo G G')(nw:∀a xs,H a=some (.lst xs)->Hv a=none->G a=none->G' a=none){s:Sl}{o:Option (Option V)}(h:SlR U K G H Hv s o):SlR U K G' H' Hv s o:=by
 cases s with
 |no=>trivial
 |val d=>obtain⟨v,e,r⟩:=h;exact{v,e,r.same gs}
 |own ds=>obtain⟨a,xs,e,h1,h2,h3,h4⟩:=h;exact{a,xs,e,hs _ _ h1,h2,nw a xs h1 h2 h3,h4.same gs}
 |bor ds=>obtain⟨a,xs,e,h1,h4⟩:=h;exact{a,xs,e,h1,h4.same gs}
 |scr ds=>obtain⟨a,xs,e,h1,h4⟩:=h;exact{a,xs,e,h1,h4.same gs}
def Po.more(h:ER U K Gv Hv G H N Z)(hs:qo H H')(gs:qo G G')(sub:qo G' H')(new:∀a o,G' a=some o->(∃o',G a=some o')\/H a=none):Po U K Gv Hv Z G H N G' H' N:=by
 refine{{h.len,sub,λb o e=>hs b o (h.base b o e),λb o e=>gs b o (h.g0 b o e),λa o e=>?_,λi s e=>(h.sl i s e).grow hs gs λa xs h1 h2 h3=>?_,h.ap},hs,gs,λa o e=>?_,λ_ _ e=>e}
 ·rcases new a o e with ⟨o',z⟩|z
  ·exact h.fresh a o' z
  ·exact .inr (qo.none h.base z)
 ·cases q:G' a with
  |none=>rfl
  |some o=>
   rcases new a o q with ⟨o',z⟩|z
   ·rw[h3]at z;cases z
   ·rw[h1]at z;cases z
 ·rcases new a o e with z|z
  ·exact .inl z
  ·exact .inr (.inl z)
def Po.room(h:ER U K Gv Hv G H N Z)(hs:qo H H'):Po U K Gv Hv Z G H N G H' N:=
 Po.more h hs (λ_ _ e=>e) (λb o e=>hs b o (h.sub b o e)) λ_ o e=>.inl ⟨o,e⟩
def Po.lay(h:ER U K Gv Hv G H N Z){a:ad}{o:HO}(ha:H a=none):Po U K Gv Hv Z G H N (upd G a o) (upd H a o) N:=by
 have ga:G a=none:=qo.none h.sub ha;refine Po.more h (qo.upd ha) (qo.upd ga) (λb u e=>?_) λb u e=>?_
 ·by_cases hb:b=a
  ·subst hb;rw[qf]at e ⊢;exact e
  ·rw[qd hb]at e ⊢;exact h.sub b u e
 ·by_cases hb:b=a
  ·subst hb;exact .inr ha
  ·rw[qd hb]at e;exact .inl ⟨u,e⟩
end
inductive Rv where
 | val (d:D)|tmp (l:List D)|cell (l:List D)|scr (l:List D)
def RvR(U:KC)(K:Frag)(Hv Hb G H:Hp)(N:Env)(Z:St):Rv->V->Prop
 |.val d,v=>Rep U G d v
 |.tmp ds,v=>∃a xs,v=.ref a/\H a=some (.lst xs)/\Hb a=none/\Hv a=none/\G a=none/\¬ qcn N Z a/\ql U G ds xs
 |.cell ds,v=>∃a xs,v=.ref a/\H a=some (.lst xs)/\ql U G ds xs
 |.scr ds,v=>∃a xs,v=.ref a/\SqL K H a xs/\ql U G ds xs
section
variable{U:KC}{K:Frag}{Gv Hv Hb G H G' H':Hp}{N N':Env}{Z:St}
theorem RvR.keep{r:Rv}{v:V}(h:RvR U K Hv Hb G H N Z r v)(p:Po U K Gv Hv Z G H N G' H' N'):RvR U K Hv Hb G' H' N' Z r v:=by
 cases r with
 |val d=>exact Rep.same p.gs h
 |tmp ds=>
  obtain⟨a,xs,rfl,h1,h2,h3,h4,h5,h6⟩:=h;refine{a,xs,rfl,p.hs _ _ h1,h2,h3,?_,λ⟨i,l,z1,z2⟩=>h5 {i,l,p.fz i l z1,z2},h6.same p.gs}
  cases q:G' a with
  |none=>rfl
  |some o=>
   rcases p.new a o q with ⟨o',z⟩|z|z
   ·rw[h4]at z;cases z
   ·rw[h1]at z;cases z
   ·exact absurd z h5
 |cell ds=>obtain⟨a,xs,rfl,h1,h6⟩:=h;exact{a,xs,rfl,p.hs _ _ h1,h6.same p.gs}
 |scr ds=>obtain⟨a,xs,rfl,h1,h6⟩:=h;exact{a,xs,rfl,p.hs.seq h1,h6.same p.gs}
theorem RvR.back{Hc:Hp}{r:Rv}{v:V}(h:RvR U K Hv Hc G H N Z r v)(e:qo Hb Hc):RvR U K Hv Hb G H N Z r v:=by
 cases r with
 |val d=>exact h
 |tmp ds=>obtain⟨a,xs,rfl,h1,h2,h3,h4,h5,h6⟩:=h;exact{a,xs,rfl,h1,qo.none e h2,h3,h4,h5,h6}
 |cell ds=>exact h
 |scr ds=>exact h
def Rv.list?:Rv->Option (List D)
 |.val (.lst l)=>some l
 |.tmp l=>some l
 |.cell l=>some l
 |.scr l=>some l
 |_=>none
def Rv.plain?:Rv->Option (List D)
 |.val (.lst l)=>some l
 |.tmp l=>some l
 |.cell l=>some l
 |_=>none
theorem RvR.plain(er:ER U K Gv Hv G H N Z){r:Rv}{v:V}{l:List D}(h:RvR U K Hv Hb G H N Z r v)(e:r.plain?=some l):∃a xs,v=.ref a/\H a=some (.lst xs)/\ql U G l xs:=by
 cases r with
 |val d=>
  cases d<;>simp![Rv.plain?]at e<;>try (cases e)
  simp![RvR,Rep]at h;obtain⟨a,xs,rfl,h1,h2⟩:=h;exact{a,xs,rfl,er.sub _ _ h1,h2}
 |tmp ds=>simp![Rv.plain?]at e;cases e;obtain⟨a,xs,rfl,h1,_,_,_,_,h6⟩:=h;exact⟨a,xs,rfl,h1,h6⟩
 |cell ds=>simp![Rv.plain?]at e;cases e;exact h
 |scr ds=>simp![Rv.plain?]at e;cases e
theorem RvR.list(er:ER U K Gv Hv G H N Z){r:Rv}{v:V}{l:List D}(h:RvR U K Hv Hb G H N Z r v)(e:r.list?=some l):∃a xs,v=.ref a/\SqL K H a xs/\ql U G l xs:=by
 cases r with
 |scr ds=>simp![Rv.list?]at e;cases e;exact h
 |val d=>
  have e':(Rv.val d).plain?=some l:=by cases d<;>simp![Rv.list?]at e<;>first|(cases e;rfl)|cases e
  obtain⟨a,xs,h1,h2,h3⟩:=h.plain er e';exact{a,xs,h1,SqL.of h2,h3}
 |tmp ds=>obtain⟨a,xs,h1,h2,h3⟩:=h.plain er (l:=l) e;exact{a,xs,h1,SqL.of h2,h3}
 |cell ds=>obtain⟨a,xs,h1,h2,h3⟩:=h.plain er (l:=l) e;exact{a,xs,h1,SqL.of h2,h3}
def Po.freeze{a:ad}{xs:List V}{G1 H1:Hp}{N1:Env}(p:Po U K Gv Hv Z G H N G1 H1 N1)(h1:H1 a=some (.lst xs))(h2:H a=none)(h3:Hv a=none)(h4:G1 a=none)(h5:¬ qcn N1 Z a):Po U K Gv Hv Z G H N (upd G1 a (.lst xs)) H1 N1:=by
 have gs:qo G1 (upd G1 a (.lst xs)):=qo.upd h4;have er:=p.er;refine{{er.len,λb u e=>?_,er.base,λb o e=>gs b o (er.g0 b o e),λb o e=>?_,λi s e=>?_,er.ap},p.hs,λb o e=>gs b o (p.gs b o e),λb o e=>?_,p.fz}
 ·by_cases hb:b=a
  ·subst hb;rw[qf]at e;cases e;exact h1
  ·rw[qd hb]at e;exact er.sub b u e
 ·by_cases hb:b=a
  ·subst hb;exact .inr h3
  ·rw[qd hb]at e;exact er.fresh b o e
 ·have q:=er.sl i s e
  cases s with
  |no=>trivial
  |val d=>obtain⟨v,z,r⟩:=q;exact{v,z,r.same gs}
  |own ds=>obtain⟨b,ys,z,q1,q2,q3,q4⟩:=q;have hb:b≠a:=λw=>h5 ⟨i,ds,e,by rw[<-w];exact z⟩;exact{b,ys,z,q1,q2,by rw[qd hb];exact q3,q4.same gs}
  |bor ds=>obtain⟨b,ys,z,q1,q4⟩:=q;exact{b,ys,z,q1,q4.same gs}
  |scr ds=>obtain⟨b,ys,z,q1,q4⟩:=q;exact{b,ys,z,q1,q4.same gs}
 ·by_cases hb:b=a
  ·subst hb;exact .inr (.inl h2)
  ·rw[qd hb]at e;exact p.new b o e
def ER.froze{i:Nat}{l:List D}(h:ER U K Gv Hv G H N Z)(e:N[i]?=some (.own l)):∃a xs,Z[i]?=some (some (.ref a))/\Po U K Gv Hv Z G H N (upd G a (.lst xs)) H (N.set i (.val (.lst l)))/\Rep U (upd G a (.lst xs)) (.lst l) (.ref a):=by
 obtain⟨a,xs,z,h1,h2,h3,h4⟩:=h.sl i _ e;have gs:qo G (upd G a (.lst xs)):=qo.upd h3;have hi:i < N.length:=(bJ.mp e).1;have rp:Rep U (upd G a (.lst xs)) (.lst l) (.ref a):=by simp![Rep];exact{a,xs,rfl,qf,h4.same gs}
 refine{a,xs,z,{{by rw[eL];exact h.len,λb u q=>?_,h.base,λb o q=>gs b o (h.g0 b o q),λb o q=>?_,λj s q=>?_,λj k b m n q1 q2=>?_},λ_ _ q=>q,gs,λb o q=>?_,λj m q=>?_},rp}
 ·by_cases hb:b=a
  ·subst hb;rw[qf]at q;cases q;exact h1
  ·rw[qd hb]at q;exact h.sub b u q
 ·by_cases hb:b=a
  ·subst hb;exact .inr h2
  ·rw[qd hb]at q;exact h.fresh b o q
 ·by_cases hj:i=j
  ·subst hj;rw[cy hi]at q;cases q;exact{_,z,rp}
  ·rw[bU hj]at q;have w:=h.sl j s q
   cases s with
   |no=>trivial
   |val d=>obtain⟨v,z,r⟩:=w;exact{v,z,r.same gs}
   |own ds=>obtain⟨b,ys,z',q1,q2,q3,q4⟩:=w;have hb:b≠a:=λu=>hj (h.ap i j a l ds e q z (by rw[<-u];exact z'));exact{b,ys,z',q1,q2,by rw[qd hb];exact q3,q4.same gs}
   |bor ds=>obtain⟨b,ys,z,q1,q4⟩:=w;exact{b,ys,z,q1,q4.same gs}
   |scr ds=>obtain⟨b,ys,z,q1,q4⟩:=w;exact{b,ys,z,q1,q4.same gs}
 ·have f:∀{j:Nat} {m:List D},(N.set i (.val (.lst l)))[j]?=some (.own m)->N[j]?=some (.own m):=λ{j m} q=>by
   by_cases hj:i=j
   ·subst hj;rw[cy hi]at q;cases q
   ·rw[bU hj]at q;exact q
  exact h.ap j k b m n (f q1) (f q2)
 ·by_cases hb:b=a
  ·subst hb;exact .inr (.inr ⟨i,l,e,z⟩)
  ·rw[qd hb]at q;exact .inl ⟨o,q⟩
 ·by_cases hj:i=j
  ·subst hj;rw[cy hi]at q;cases q
  ·rw[bU hj]at q;exact q
def ER.setVal{i:Nat}{d:D}{v:V}(h:ER U K Gv Hv G H N Z)(r:Rep U G d v):ER U K Gv Hv G H (N.set i (.val d)) (Z.set i (some v)):=by
 refine{by rw[eL,eL];exact h.len,h.sub,h.base,h.g0,h.fresh,λj s q=>?_,λj k b m n q1 q2 q3 q4=>?_}
 ·by_cases hj:i=j
  ·subst hj;have hi:i < N.length:=by simpa using (bJ.mp q).1
   rw[cy hi]at q;cases q;exact{v,by rw[cy (by rw[<-h.len];exact hi)],r}
  ·rw[bU hj]at q ⊢;exact h.sl j s q
 ·have f:∀{j:Nat} {m:List D},(N.set i (.val d))[j]?=some (.own m)->i≠j/\N[j]?=some (.own m):=λ{j m} q=>by
   by_cases hj:i=j
   ·subst hj;have hi:i < N.length:=by simpa using (bJ.mp q).1
    rw[cy hi]at q;cases q
   ·rw[bU hj]at q;exact⟨hj,q⟩
  obtain⟨n1,e1⟩:=f q1;obtain⟨n2,e2⟩:=f q2;rw[bU n1]at q3;rw[bU n2]at q4;exact h.ap j k b m n e1 e2 q3 q4
def ER.setOwn{i:Nat}{l:List D}{a:ad}{xs:List V}(h:ER U K Gv Hv G H N Z)(h1:H a=some (.lst xs))(h2:Hv a=none)(h3:G a=none)(h4:¬ qcn N Z a)(r:ql U G l xs):ER U K Gv Hv G H (N.set i (.own l)) (Z.set i (some (.ref a))):=by
 have f:∀{j:Nat} {m:List D},(N.set i (.own l))[j]?=some (.own m)->i≠j->N[j]?=some (.own m):=λ{j m} q hj=>by rw[bU hj]at q;exact q
 refine{by rw[eL,eL];exact h.len,h.sub,h.base,h.g0,h.fresh,λj s q=>?_,λj k b m n q1 q2 q3 q4=>?_}
 ·by_cases hj:i=j
  ·subst hj;have hi:i < N.length:=by simpa using (bJ.mp q).1
   rw[cy hi]at q;cases q;exact{a,xs,by rw[cy (by rw[<-h.len];exact hi)],h1,h2,h3,r}
  ·rw[bU hj]at q ⊢;exact h.sl j s q
 ·by_cases hj:i=j
  ·by_cases hk:i=k
   ·lia
   ·subst hj;have hi:i < Z.length:=by simpa using (bJ.mp q3).1
    rw[cy hi]at q3;rw[bU hk]at q4;cases q3;exact absurd ⟨k,n,f q2 hk,q4⟩ h4
  ·by_cases hk:i=k
   ·subst hk;have hi:i < Z.length:=by simpa using (bJ.mp q4).1
    rw[cy hi]at q4;rw[bU hj]at q3;cases q4;exact absurd ⟨j,m,f q1 hj,q3⟩ h4
   ·rw[bU hj]at q3;rw[bU hk]at q4;exact h.ap j k b m n (f q1 hj) (f q2 hk) q3 q4
def ER.write{i:Nat}{l m:List D}{a:ad}{ys:List V}(h:ER U K Gv Hv G H N Z)(e:N[i]?=some (.own l))(z:Z[i]?=some (some (.ref a)))(r:ql U G m ys):ER U K Gv Hv G (upd H a (.lst ys)) (N.set i (.own m)) Z:=by
 obtain⟨a',xs,z',h1,h2,h3,h4⟩:=h.sl i _ e;have ea:a'=a:=by rw[z']at z;injection z with z;injection z with z;injection z
 subst ea;have hi:i < N.length:=(bJ.mp e).1;refine{by rw[eL];exact h.len,λb u q=>?_,λb u q=>?_,h.g0,h.fresh,λj s q=>?_,λj k b m' n q1 q2=>?_}
 ·have hb:b≠a':=λw=>by rw[w,h3]at q;cases q
  rw[qd hb];exact h.sub b u q
 ·have hb:b≠a':=λw=>by rw[w,h2]at q;cases q
  rw[qd hb];exact h.base b u q
 ·by_cases hj:i=j
  ·subst hj;rw[cy hi]at q;cases q;exact⟨a',ys,z',qf,h2,h3,r⟩
  ·rw[bU hj]at q;have w:=h.sl j s q
   cases s with
   |no=>trivial
   |val d=>exact w
   |own ds=>obtain⟨b,zs,z2,q1,q2,q3,q4⟩:=w;have hb:b≠a':=λu=>hj (h.ap i j a' l ds e q z' (by rw[<-u];exact z2));exact{b,zs,z2,by rw[qd hb];exact q1,q2,q3,q4}
   |bor ds=>exact w
   |scr ds=>exact w
 ·have f:∀{j:Nat} {n:List D},(N.set i (.own m))[j]?=some (.own n)->∃n',N[j]?=some (.own n'):=λ{j n} q=>by
   by_cases hj:i=j
   ·subst hj;exact⟨l,e⟩
   ·rw[bU hj]at q;exact⟨n,q⟩
  obtain⟨_,e1⟩:=f q1;obtain⟨_,e2⟩:=f q2;exact h.ap j k b _ _ e1 e2
end
inductive Sk where
 | lst|tup|str
def qfE(s:Str):List D:=s.cps.toList.map λc=>D.str ⟨#[c]⟩
inductive R(α:Type) where
 | ok (a:α)|exc (c:ad) (l:List (Str×D))|no
def R.th{α M:Type}:R α->(α->R M)->R M
 |.ok a,f=>f a
 |.exc c l,_=>.exc c l
 |.no,_=>.no
def noX{α:Type}:R α->R α
 |.ok a=>.ok a
 |_=>.no
def R.of{α:Type}:Option α->R α
 |some a=>.ok a
 |none=>.no
mutual
def toP:D->Option ed
 |.non=>some .none
 |.bl b=>some (.bool b)
 |.int n=>some (.int n)
 |.str s=>some (.str s)
 |.lst l=>(qcG l).map .list
 |.tup l=>(qcG l).map .tuple
 |.ins ..=>none
 |.exc ..=>none
 |.dct ..=>none
def qcG:List D->Option (List ed)
 |[]=>some []
 | d::l=>(toP d).bind λp=>(qcG l).map (p :: ·)
end
def Rv.data:Rv->D
 |.val d=>d
 |.tmp l=>.lst l
 |.cell l=>.lst l
 |.scr l=>.lst l
inductive Ar where
 | val (d:D)|bor (l:List D)|scr (l:List D)
structure Xs where
 xa:Str->ad:=λ_=>0
 xn:Str->Option (List Str):=λ_=>none
 xs:ad->Str->Option Bool:=λ_ _=>none
 xg:ad->Str->Bool:=λ_ _=>false
 xt:List Str:=[]
structure Cs extends Xs where
 tab:List Str
 fld:Str->Str->Bool
 mt:Str->Str->Option Str
 sub:Str->Str->Option Bool
def Cs.non:Cs:={ tab:=[],fld:=λ_ _=>false,mt:=λ_ _=>none,sub:=λ_ _=>none }
structure Ct where
 N:List Str
 sc:bi
 tab:List Str
 gl:Str->Option D
 cl:Str->List Ar->R Rv
 cs:Cs
 nw:Str->List Ar->R Rv
 z:Bool:=false
 x:Bool:=true
def qcH:List Str->Str->Option Nat
 |[],_=>none
 | y::r,x=>if y=x then some 0 else (qcH r x).map (· + 1)
def qkO(sc:bi)(x:Str):Bool:=match sc.names.lookup x with
 |some .local=>true
 |some .cell=>true
 |some .free=>true
 |_=>false
def qkP(sc:bi)(x:Str):Bool:=match sc.names.lookup x with
 |some .local=>true
 |some .cell=>true
 |_=>false
def glB(sc:bi)(x:Str):Bool:=sc.names.lookup x == some .globalImplicit
def zU(x:Str):Bool:=!(x == ("__debug__" : Str))&&!(x == ("__classdict__" : Str))&&!(x == ("__name__" : Str))
def oif{α:Type}(c:Bool)(a:Option α):Option α:=match c with
 |true=>a
 |false=>none
def qeT(L:Ct)(x:Str):Option Nat:=oif (zU x&&qkO L.sc x) (qcH L.N x)
def isF(L:Ct)(it:ae):Option Nat:=none
def slC(N:Env)(i:Nat):R (List D):=match N[i]? with
 |some (.own l)=>.ok l
 |some (.val (.lst l))=>.ok l
 |some (.val (.tup l))=>.ok l
 |_=>.no
def Rv.int?:Rv->Option Int
 |.val (.int i)=>some i
 |_=>none
def Rv.str?:Rv->Option Str
 |.val (.str i)=>some i
 |_=>none
def Rv.bl?:Rv->Option Bool
 |.val (.bl i)=>some i
 |_=>none
def Rv.tup?:Rv->Option (List D)
 |.val (.tup i)=>some i
 |_=>none
def Zy(i j:Int):Bool:=(decide (-(2 ^ 64) < i)&&decide (i < 2 ^ 64))||(decide (-(2 ^ 64) < j)&&decide (j < 2 ^ 64))
def int2(x y:Rv)(f:Int->Int->R Rv):R Rv:=match x.int?,y.int? with
 |some i,some j=>f i j
 |_,_=>.no
def qnF(x y:Rv):R Rv:=match x.int?,y.int? with
 |some i,some j=>.ok (.val (.int (i+j)))
 |_,_=>match x.str?,y.str? with
  |some a,some b=>if a.length+b.length<=sizeLine then .ok (.val (.str (a++b))) else .no
  |_,_=>match x.plain?,y.plain? with
   |some l,some m=>if l.length+m.length<=sizeLine then .ok (.tmp (l++m)) else .no
   |_,_=>.no
def qnG(x y:Rv):R Rv:=match x.int?,y.int? with
 |some i,some j=>if Zy i j=true then .ok (.val (.int (i * j))) else .no
 |_,_=>.no
def qak(op:cq)(x y:Rv):R Rv:=match op with
 |.Add=>qnF x y
 |.Sub=>int2 x y λi j=>.ok (.val (.int (i - j)))
 |.Mult=>qnG x y
 |.FloorDiv=>int2 x y λi j=>if 0 < j/\j < 1073741824 then .ok (.val (.int (i / j))) else if j < 0/\-1073741824 < j then .ok (.val (.int (i.fdiv j))) else .no
 |.Mod=>int2 x y λi j=>if 0 < j then .ok (.val (.int (i % j))) else if j < 0 then .ok (.val (.int (i.fmod j))) else .no
 |.Pow=>int2 x y λi j=>if 0<=j/\j<=1000000/\i.natAbs < 2 ^ 64 then .ok (.val (.int (i ^ j.toNat))) else .no
 |_=>.no
def eqD(x y:D):Option Bool:=match toP x,toP y with
 |some p,some q=>if br p&&br q then some (b7 p q) else none
 |_,_=>none
def Jq:D->Bool
 |.non=>true
 |.bl _=>true
 |.int _=>true
 |.str _=>true
 |_=>false
def seqD(r:Rv):Option (List D):=match r.tup? with
 |some l=>some l
 |none=>r.list?
def flV:D->V
 |.bl b=>.bl b
 |.int n=>.int n
 |.str s=>.str s
 |_=>.non
def inD(x:D)(l:List D):Option Bool:=if (Jq x&&l.all Jq)=true then some (inV (flV x) (l.map flV)) else none
def qjw(x y:Rv)(f:Int->Int->Bool):Option Bool:=match x.int?,y.int? with
 |some i,some j=>some (f i j)
 |_,_=>none
def Rv.non?:Rv->Bool
 |.val .non=>true
 |_=>false
def qjx(a b:Str):Bool:=!(iJ b a 0 b.length 1).isEmpty
def qeU(x y:Rv):Option Bool:=match x.str?,y.str? with
 |some a,some b=>some (qjx a b)
 |_,_=>(seqD y).bind (inD x.data)
def Qn:List D->Option (List Int)
 |[]=>some []
 | .int i::l=>(Qn l).map (i :: ·)
 |_=>none
def ltD(x y:Rv):Option Bool:=qjw x y λi j=>decide (i < j)
def Jr(op:aR)(x y:Rv):Option Bool:=match op with
 |.Eq=>eqD x.data y.data
 |.NotEq=>(eqD x.data y.data).map (!·)
 |.Lt=>ltD x y
 |.LtE=>qjw x y λi j=>decide (i<=j)
 |.Gt=>qjw x y λi j=>decide (j < i)
 |.GtE=>qjw x y λi j=>decide (j<=i)
 |.Is=>if y.non? then some x.non? else none
 |.IsNot=>if y.non? then some (!x.non?) else none
 |.In=>qeU x y
 |.NotIn=>(qeU x y).map (!·)
def qpk(x y:Rv):R Rv:=.no
def idxD(x y:Rv):R Rv:=match y.int? with
 |some i=>(match x.str? with
  |some z=>if z.length<=sizeLine then (match atI z.cps.toList i with |some c=>.ok (.val (.str ⟨#[c]⟩)) |none=>.no) else .no
  |none=>match seqD x with
   |some l=>(match atI l i with |some d=>.ok (.val d) |none=>.no)
   |none=>.no)
 |none=>qpk x y
def Qo(l:List D)(lo hi:Option Int):List D:=(l.drop (HT.sIx l.length 0 lo)).take (HT.sIx l.length l.length hi - HT.sIx l.length 0 lo)
def sliceD(r:Rv)(lo hi:Option Int):R Rv:=match r.str? with
 |some z=>if z.length<=sizeLine then .ok (.val (.str (Txt.slice z lo hi))) else .no
 |none=>(R.of r.list?).th λl=>.ok (.tmp (Qo l lo hi))
def truthD(r:Rv):Option Bool:=match r with
 |.val .non=>some false
 |.val (.bl b)=>some b
 |.val (.int i)=>some (i != 0)
 |.val (.str s)=>if s.length<=sizeLine then some ((s.length:Int) != 0) else none
 |r=>(seqD r).map λl=>!l.isEmpty
def qfF(cs:Cs)(r:Rv)(t:Str):Option Bool:=match r with
 |.val (.ins c _ _)=>cs.sub c t
 |_=>none
def qoo(cs:Cs)(C:ad):List Str->Option Bool
 |[]=>some false
 | t::l=>(cs.xs C t).bind λb=>(qoo cs C l).map (b || ·)
def qpl(cs:Cs)(r:Rv)(ts:List Str):Option Bool:=match r with
 |.val (.exc C _ _)=>qoo cs C ts
 |_=>none
def qdy(cs:Cs)(r:Rv)(x:Str):Option D:=match r with
 |.val (.ins c ns ds)=>if cs.fld c x then (ns.zip ds).lookup x else none
 |_=>none
def mtD(cs:Cs)(r:Rv)(x:Str):Option Str:=match r with
 |.val (.ins c ns _)=>if ns.contains x then none else cs.mt c x
 |_=>none
def ixM(r:Rv)(as:List Ar):R Rv:=.no
def qpm(x a:Str)(as:List Ar):R Rv:=.no
def bmD(x:Str)(r:Rv)(as:List Ar):R Rv:=match r with
 |.val (.str a)=>qpm x a as
 |r=>if x = "index" then ixM r as else .no
def qpn:D->Option Str
 |.int n=>if n.natAbs.log2 < 1920 then some (gn (toString n)) else none
 |.str z=>if z.length<=3000 then some z else none
 |_=>none
def qop(acc:Str):List D->Option Str
 |[]=>some acc
 | d::l=>(qpn d).bind λy=>if (acc++y).length<=sizeLine then qop (acc++y) l else none
def yx:ae->Bool
 |.Constant (.str _) _ _=>true
 |.Name ..=>true
 |.Subscript ..=>true
 |_=>false
def lenD(r:Rv):R Rv:=match r.str? with
 |some s=>if s.length<=sizeLine then .ok (.val (.int s.length)) else .no
 |none=>match seqD r with
  |some l=>.ok (.val (.int l.length))
  |none=>.no
def listD(r:Rv):R Rv:=match seqD r with
 |some l=>.ok (.tmp l)
 |none=>.no
def qpo(r:Rv):R Rv:=.no
def intD(r:Rv):R Rv:=match r.int? with
 |some i=>.ok (.val (.int i))
 |none=>match r.bl? with
  |some b=>.ok (.val (.int (if b then 1 else 0)))
  |none=>qpo r
def prD:D->Option (Int×Int)
 |.tup [.int a,.int b]=>some (a,b)
 |_=>none
theorem qpp(d:D):(prD d).elim True λp=>d=.tup [.int p.1,.int p.2]:=by
 cases d with
 |tup l=>cases l with
  |nil=>exact aJ
  |cons a l=>cases a with
   |int x=>cases l with
    |nil=>exact aJ
    |cons b l=>cases b with
     |int y=>cases l with
      |nil=>exact rfl
      |cons _ _=>exact aJ
     |_=>exact aJ
   |_=>exact aJ
 |_=>exact aJ
def qkQ{d:D}{p:Int×Int}(h:prD d=some p):d=.tup [.int p.1,.int p.2]:=by have b:=qpp d;rw[h]at b;exact b
def qgR:List D->Option (List (Int×Int))
 |[]=>some []
 | d::l=>match prD d,qgR l with
  |some p,some ps=>some (p::ps)
  |_,_=>none
def pD(p:Int×Int):D:=.tup [.int p.1,.int p.2]
def QY(p q:Int×Int):Bool:=decide (p.1 < q.1)||(decide (p.1=q.1)&&decide (p.2<=q.2))
def yy(ps:List (Int×Int)):List (Int×Int):=ps.mergeSort QY
def Qp(r:Rv):R Rv:=match r.list? with
 |some l=>(match qgR l with |some ps=>if ps.length < 4000 then .ok (.tmp ((yy ps).map pD)) else .no |none=>.no)
 |none=>.no
def ddI:List Int->List Int
 |[]=>[]
 | a::l=>if a∈l then ddI l else a::ddI l
theorem Zz(k:Int):∀l:List Int,k∈ddI l↔k∈l
 |[]=>.rfl
 | a::l=>by
  rw[ddI];split
  ·rename_i h;rw[Zz k l,aF];exact{.inr,λz=>z.elim (λe=>e▸h) id}
  ·rw[aF,aF,Zz k l]
theorem JE:∀l:List Int,(ddI l).Nodup
 |[]=>List.nodup_nil
 | a::l=>by
  rw[ddI];split
  ·exact JE l
  ·rename_i h;exact fj.mpr ⟨λz=>h ((Zz a l).mp z),JE l⟩
def sdI(ns:List Int):List Int:=(ddI ns).mergeSort λa b=>decide (a<=b)
def qkR(r:Rv):R Rv:=match r.list? with
 |some l=>(match Qn l with |some ns=>if ns.length < 4000 then .ok (.tmp ((sdI ns).map D.int)) else .no |none=>.no)
 |none=>.no
def qm1(r:Rv):R Rv:=match r.list? with
 |some l=>(match Qn l with |some ns=>.ok (.val (.int ns.sum)) |none=>.no)
 |none=>.no
def revB:Option ae->Option ae->ae->Bool
 |none,none,.UnaryOp .USub (.Constant (.int 1) _ _) _=>true
 |_,_,_=>false
def Yw(xs:List D)(lo hi:Option Int)(n:Int):List D:=(fW (bT lo hi (some n) xs.length).1 (bT lo hi (some n) xs.length).2.1 (bT lo hi (some n) xs.length).2.2).filterMap (xs[·]?)
def inV:ae->Option Int
 |.Constant (.int n) _ _=>some n
 |_=>none
theorem qpq(e:ae):(inV e).elim True λn=>∃j p,e=.Constant (.int n) j p:=by
 cases e with
 |Constant c j p=>cases c with
  |int n=>exact⟨j,p,rfl⟩
  |_=>exact aJ
 |_=>exact aJ
def qgS{e:ae}{n:Int}(h:inV e=some n):∃j p,e=.Constant (.int n) j p:=by have b:=qpq e;rw[h]at b;exact b
def stN(e:ae):Option Int:=(inV e).bind λn=>if 2<=n then some n else none
def qw:ae->Bool
 |.Starred ..=>true
 |_=>false
def strD(r:Rv):R Rv:=.no
def tupD(r:Rv):R Rv:=.no
def qoq(r:Rv):R Rv:=.no
def qor(r:Rv):R Rv:=.no
def kvD:D->Option (Str×Int)
 |.tup [.str s,.int n]=>some (s,n)
 |_=>none
theorem qpr(d:D):(kvD d).elim True λp=>d=.tup [.str p.1,.int p.2]:=by
 cases d with
 |tup l=>cases l with
  |nil=>exact aJ
  |cons a l=>cases a with
   |str x=>cases l with
    |nil=>exact aJ
    |cons b l=>cases b with
     |int y=>cases l with
      |nil=>exact rfl
      |cons _ _=>exact aJ
     |_=>exact aJ
   |_=>exact aJ
 |_=>exact aJ
def qkS{d:D}{p:Str×Int}(h:kvD d=some p):d=.tup [.str p.1,.int p.2]:=by have b:=qpr d;rw[h]at b;exact b
def qeV:List D->Option (List (Str×Int))
 |[]=>some []
 | d::l=>match kvD d,qeV l with
  |some p,some ps=>some (p::ps)
  |_,_=>none
def qip(kvs:List (Str×Int))(k:Str):Option Int:=(kvs.find? λkv=>decide (kv.1=k)).map (·.2)
def qay(n:Int)(x y:Rv):R Rv:=match x.list?,y.str? with
 |some l,some k=>(match qeV l with |some kvs=>if (kvs.map (·.1)).Nodup then .ok (.val (.int ((qip kvs k).getD n))) else .no |none=>.no)
 |_,_=>.no
def caV:ae->Option (Str×List ae)
 |.Call (.Name f _) as [] _=>some (f,as)
 |_=>none
theorem qps(e:ae):(caV e).elim True λt=>∃p q,e=.Call (.Name t.1 p) t.2 [] q:=by
 cases e with
 |Call f as ks q=>cases f with
  |Name f p=>cases ks with
   |nil=>exact⟨p,q,rfl⟩
   |cons _ _=>exact aJ
  |_=>exact aJ
 |_=>exact aJ
def Qq{α:Type}{o:Option α}{P:α->Prop}{a:α}(b:o.elim True P)(h:o=some a):P a:=by rw[h]at b;exact b
def qdz{e:ae}{t:Str×List ae}(h:caV e=some t):∃p q,e=.Call (.Name t.1 p) t.2 [] q:=by have b:=qps e;rw[h]at b;exact b
def one?{α:Type}:List α->Option α
 |[a]=>some a
 |_=>none
def two?{α:Type}:List α->Option (α×α)
 |[a,b]=>some (a,b)
 |_=>none
theorem qos{α:Type}(l:List α):(one? l).elim True λa=>l=[a]:=by
 cases l with
 |nil=>exact aJ
 |cons a l=>cases l with
  |nil=>exact rfl
  |cons _ _=>exact aJ
theorem qot{α:Type}(l:List α):(two? l).elim True λp=>l=[p.1,p.2]:=by
 cases l with
 |nil=>exact aJ
 |cons a l=>cases l with
  |nil=>exact aJ
  |cons b l=>cases l with
   |nil=>exact rfl
   |cons _ _=>exact aJ
def dgE(L:Ct)(o:ae)(x:Str)(es:List ae)(b:Bool):Option (ae×ae×Int):=(caV o).bind λt=>(one? t.2).bind λa=>(two? es).bind λq=>(inV q.2).bind λn=>if t.1 = "dict"/\x = "get"/\b=true/\glB L.sc "dict" = true/\qw a=false/\qw q.1=false then some (a,q.1,n) else none
def maxD(x y:Rv):R Rv:=int2 x y λi j=>.ok (.val (.int (if j > i then j else i)))
def minD(x y:Rv):R Rv:=int2 x y λi j=>.ok (.val (.int (if j < i then j else i)))
def ZB:ae->Bool
 |.Set ..=>false
 |_=>true
def zv:ae->Option (List Str)
 |.Name x _=>some [x]
 |.Tuple es _ _=>es.foldr (λe r=>match e,r with |.Name x _,some l=>some (x::l) |_,_=>none) (some [])
 |_=>none
def qfG:ae->Bool
 |.Tuple ..=>true
 |_=>false
def qeW:Sl->Sl
 |.own l=>.bor l
 |s=>s
def YH(N:List Str)(sc:bi):List Nat:=(cw N.length).filter λi=>sc.names.lookup (N.getD i "") == some .free
def J2(l:List D):List D:=(cw l.length).zipWith (λ(i:Nat) d=>D.tup [.int i,d]) l
def YI(l m:List D):List D:=List.zipWith (λa b=>D.tup [a,b]) l m
def zw(lo hi:Int):List D:=(cw (hi - lo).toNat).map λi:Nat=>D.int (lo+i)
def qiq(lo hi c:Int):List D:=(cw (rsz lo hi c)).map λi:Nat=>D.int (lo+i * c)
def rgB(i j c:Int):Bool:=decide (-(2 ^ 60)<=i)&&decide (i < 2 ^ 60)&&decide (-(2 ^ 60)<=j)&&decide (j < 2 ^ 60)&&decide (0 < c)&&decide (c < 2 ^ 30)
def rg3(x y z:Rv):R (List D):=match x.int?,y.int?,z.int? with
 |some i,some j,some c=>if rgB i j c=true then .ok (qiq i j c) else .no
 |_,_,_=>.no
def ZC(i:Int):Bool:=decide (-(2 ^ 62)<=i)&&decide (i < 2 ^ 62)
def lrE(L:Ct)(f:Str)(a:ae):Option (ae×ae):=(caV a).bind λt=>(two? t.2).bind λq=>if f = "list"/\t.1 = "range"/\glB L.sc "range" = true/\qw q.1=false/\qw q.2=false then some q else none
def ssE(L:Ct)(f:Str)(a:ae):Option ae:=(caV a).bind λt=>(one? t.2).bind λx=>if f = "sorted"/\t.1 = "set"/\glB L.sc "set" = true/\qw x=false then some x else none
def lrD(x y:Rv):R Rv:=match x.int?,y.int? with
 |some i,some j=>if ZC i=true/\ZC j=true/\(j - i).toNat<=10000 then .ok (.tmp (zw i j)) else .no
 |_,_=>.no
def irE(L:Ct)(op:aR)(b:ae):Option ae:=none
def qpt(x y:Rv):R Rv:=match x.int?,y.int? with
 |some i,some j=>.ok (.val (.bl (!decide (0<=i/\i < j))))
 |_,_=>.no
def qR(i:Int):Bool:=decide (-(2 ^ 62)<=i)&&decide (i < 2 ^ 62)
mutual
def nfD:D->Bool
 |.lst l=>(l.isEmpty||!(l.all Jq))&&qgT l
 |.tup l=>qgT l
 |.ins _ _ l=>qgT l
 |.exc _ _ l=>qgT l
 |.dct _ l=>qgT l
 |_=>true
def qgT:List D->Bool
 |[]=>true
 | d::l=>nfD d&&qgT l
end
def nfA:Ar->Bool
 |.val d=>nfD d
 |.bor l=>qgT l
 |.scr l=>qgT l
def qpu(as:List Ar)(r:Rv):Rv:=match r with
 |.val (.lst l)=>if as.all nfA&&!l.isEmpty&&l.all Jq then .tmp l else r
 |_=>r
def qdA(asg:D->Env->R Env)(test:Env->R (Bool×Env))(elt:Env->R (D×Env)):List D->Env->List D->R (List D)
 |[],_,acc=>.ok acc
 | d::ds,N,acc=>(asg d N).th λN1=>(test N1).th λbt=>if bt.1 then (elt bt.2).th λx=>if acc.length < sizeLine then qdA asg test elt ds x.2 (acc++[x.1]) else .no else qdA asg test elt ds bt.2 acc
inductive Fl where
 | next (N:Env)|ret (r:Rv)
def yi:ae->Bool
 |.ListComp ..=>false
 |.SetComp ..=>false
 |.DictComp ..=>false
 |_=>true
def qdB:ae->Bool
 |.Tuple ..=>false
 |_=>true
def Qr:ae->Bool
 |.Slice ..=>false
 |_=>true
def qm2(step:D->Env->R Fl):List D->Env->R Fl
 |[],N=>.ok (.next N)
 | d::ds,N=>(step d N).th λf=>match f with
  |.next N1=>qm2 step ds N1
  |.ret r=>.ok (.ret r)
def whL(test:Env->R (Bool×Env))(body:Env->R Fl):Nat->Env->R Fl
 |0,_=>.no
 | n+1,N=>(test N).th λb=>if b.1 then (body b.2).th λf=>(match f with
  |.next N1=>whL test body n N1
  |.ret r=>.ok (.ret r)) else .ok (.next b.2)
inductive B1 where
 | len|list|int|srt|sum|all|str|tup|any|sst
inductive B2 where
 | max|min|get (n:Int)|rng|inr
inductive Ty where
 | int|bool|str|list|tuple
inductive Tg where
 | one (i:Nat)|many (l:List Nat)
structure Cl where
 f:Str->List Ar->R Rv
 cs:Cs
 nw:Str->List Ar->R Rv
 x:Bool:=true
instance:CoeFun Cl (λ_=>Str->List Ar->R Rv):=⟨Cl.f⟩
mutual
inductive E where
 | var (i:Nat)|con (d:D)|bin (op:cq) (a b:E)|neg (a:E)|not (a:E)|one (a:E)|and (a b:E)|or (a b:E)|cmp (op:aR) (a b:E)|ite (c:T) (a b:E)
 | idx (a i:E)|sli (a:E) (lo hi:O)|rvs (a:E)|stp (n:Int) (a:E) (lo hi:O)|lst (l:Es)|tup (l:Es)|call (f:Str) (l:Es)|calF (f:Str) (l:Es)|calN (f:Str) (l:Es)|b1 (f:B1) (a:E)|b2 (f:B2) (a b:E)|isi (t:Ty) (a:E)|isc (t:Str) (a:E)|isn (ts:List Str) (a:E)|fld (a:E) (x:Str)|met (a:E) (x:Str) (l:Es)|new (f:Str) (l:Es)|fst (l:Es)|dct (ks:List Str) (l:Es)|comp (x:E) (src:I) (tg:Tg) (c:F) (n:Nat) (fr:List Nat)
inductive Es where
 | nil|cons (a:E) (l:Es)
inductive T where
 | not (a:T)|one (a:T)|and (a b:T)|or (a b:T)|cmp (op:aR) (a b:E)|chn (op op':aR) (a b c:E)|val (a:E)
inductive O where
 | none|some (a:E)
inductive F where
 | yes|test (c:T)
inductive I where
 | nam (i:Nat)|seq (a:E)|rng (a:E)|rng2 (a b:E)|rng3 (a b c:E)|enum (a:E)|zip (a b:E)|rev (a:E)
end
def slR(N:Env)(i:Nat):R Rv:=match N[i]? with
 |some (.val d)=>.ok (.val d)
 |some (.own l)=>.ok (.cell l)
 |some (.bor l)=>.ok (.cell l)
 |some (.scr l)=>.ok (.scr l)
 |_=>.no
def slE(N:Env)(i:Nat):R (D×Env):=match N[i]? with
 |some (.val d)=>.ok (d,N)
 |some (.own l)=>.ok (.lst l,N.set i (.val (.lst l)))
 |_=>.no
def slL(N:Env)(i:Nat):R ((Sk×List D)×Env):=match N[i]? with
 |some (.val (.lst l))=>.ok ((.lst,l),N)
 |some (.val (.tup l))=>.ok ((.tup,l),N)
 |some (.val (.str z))=>.ok ((.str,qfE z),N)
 |some (.own l)=>.ok ((.lst,l),N.set i (.val (.lst l)))
 |some (.bor l)=>.ok ((.lst,l),N)
 |some (.scr l)=>.ok ((.lst,l),N)
 |_=>.no
def slX(N:Env)(i:Nat):R Rv:=match N[i]? with
 |some (.val d)=>.ok (.val d)
 |some (.own l)=>.ok (.tmp l)
 |_=>.no
def B1.go:B1->Rv->R Rv
 |.len=>lenD
 |.list=>listD
 |.int=>intD
 |.srt=>Qp
 |.sum=>qm1
 |.all=>qoq
 |.str=>strD
 |.tup=>tupD
 |.any=>qor
 |.sst=>qkR
def B2.go:B2->Rv->Rv->R Rv
 |.max=>maxD
 |.min=>minD
 |.get n=>qay n
 |.rng=>lrD
 |.inr=>qpt
def Ty.of:Ty->D->Option Bool
 |_,.ins ..=>none
 |_,.exc ..=>none
 |_,.dct ..=>none
 |.int,.int _=>some true
 |.int,.bl _=>some true
 |.bool,.bl _=>some true
 |.str,.str _=>some true
 |.list,.lst _=>some true
 |.tuple,.tup _=>some true
 |_,_=>some false
def Ty.go(t:Ty):Rv->Option Bool
 |.scr _=>none
 |r=>t.of r.data
def Qs:List Nat->List D->Env->R Env
 |[],[],N=>.ok N
 | i::l,d::ds,N=>Qs l ds (N.set i (.val d))
 |_,_,_=>.no
def Tg.go:Tg->D->Env->R Env
 |.one i,d,N=>.ok (N.set i (.val d))
 |.many l,.tup ds,N=>Qs l ds N
 |_,_,_=>.no
def toAr:Rv->Ar
 |.val d=>.val d
 |.tmp l=>.val (.lst l)
 |.cell l=>.bor l
 |.scr l=>.scr l
def qal(n:Nat)(fr:List Nat)(N:Env):Env:=cz n Sl.no++fr.map λi=>qeW (N.getD i .no)
def qm3(x:Rv×Env):R (D×Env):=match x.1 with
 |.val d=>.ok (d,x.2)
 |.tmp l=>.ok (.lst l,x.2)
 |_=>.no
def qm4(x:Rv×Env):R ((Sk×List D)×Env):=match x.1 with
 |.val (.lst l)=>.ok ((.lst,l),x.2)
 |.val (.tup l)=>.ok ((.tup,l),x.2)
 |.val (.str z)=>.ok ((.str,qfE z),x.2)
 |.tmp l=>.ok ((.lst,l),x.2)
 |_=>.no
def jG(e:E)(r:Env->R (Rv×Env))(N:Env):R (D×Env):=match e with
 |.var i=>slE N i
 |.con d=>.ok (d,N)
 |_=>(r N).th qm3
def yz(e:E)(r:Env->R (Rv×Env))(N:Env):R ((Sk×List D)×Env):=match e with
 |.var i=>slL N i
 |_=>(r N).th qm4
mutual
def iR(cl:Cl):E->Env->R (Rv×Env)
 |.var i,N=>(slR N i).th λr=>.ok (r,N)
 |.con d,N=>.ok (.val d,N)
 |.bin op a b,N=>(iR cl a N).th λx=>(iR cl b x.2).th λy=>(qak op x.1 y.1).th λr=>.ok (r,y.2)
 |.neg a,N=>(iR cl a N).th λx=>match x.1 with
  |.val (.int i)=>.ok (.val (.int (-i)),x.2)
  |_=>.no
 |.not a,N=>(iR cl a N).th λx=>match x.1 with
  |.val (.bl b)=>.ok (.val (.bl (!b)),x.2)
  |_=>.no
 |.one a,N=>iR cl a N
 |.and a b,N=>(iR cl a N).th λx=>match x.1 with
  |.val (.bl true)=>iR cl b x.2
  |.val (.bl false)=>.ok (.val (.bl false),x.2)
  |_=>.no
 |.or a b,N=>(iR cl a N).th λx=>match x.1 with
  |.val (.bl false)=>iR cl b x.2
  |.val (.bl true)=>.ok (.val (.bl true),x.2)
  |_=>.no
 |.cmp op a b,N=>(iR cl a N).th λx=>(iR cl b x.2).th λy=>(R.of (Jr op x.1 y.1)).th λr=>.ok (.val (.bl r),y.2)
 |.ite c a b,N=>(iT cl c N).th λt=>if t.1 then iR cl a t.2 else iR cl b t.2
 |.idx a i,N=>(iR cl a N).th λx=>(iR cl i x.2).th λy=>(idxD x.1 y.1).th λr=>.ok (r,y.2)
 |.sli a lo hi,N=>(iR cl a N).th λx=>(iO cl lo x.2).th λl=>(iO cl hi l.2).th λh=>(sliceD x.1 l.1 h.1).th λr=>.ok (r,h.2)
 |.stp n a lo hi,N=>(iR cl a N).th λx=>(iO cl lo x.2).th λl=>(iO cl hi l.2).th λh=>(R.of x.1.list?).th λd=>.ok (.tmp (Yw d l.1 h.1 n),h.2)
 |.rvs a,N=>(iR cl a N).th λx=>(R.of x.1.list?).th λl=>.ok (.tmp l.reverse,x.2)
 |.lst l,N=>(iEs cl l N).th λx=>if x.1.length<=sizeLine then .ok (.tmp x.1,x.2) else .no
 |.tup l,N=>(iEs cl l N).th λx=>if x.1.length<=sizeLine then .ok (.val (.tup x.1),x.2) else .no
 |.call f l,N=>(iAs cl l N).th λx=>(cl f x.1).th λr=>.ok (r,x.2)
 |.calF f l,N=>(iEs cl l N).th λx=>(cl f (x.1.map .val)).th λr=>.ok (r,x.2)
 |.calN f l,N=>(iAs cl l N).th λx=>(noX (cl f x.1)).th λr=>.ok (qpu x.1 r,x.2)
 |.b1 f a,N=>(iR cl a N).th λx=>(f.go x.1).th λr=>.ok (r,x.2)
 |.b2 f a b,N=>(iR cl a N).th λx=>(noX (iR cl b x.2)).th λy=>(f.go x.1 y.1).th λr=>.ok (r,y.2)
 |.isi t a,N=>(iR cl a N).th λx=>(R.of (t.go x.1)).th λb=>.ok (.val (.bl b),x.2)
 |.isc t a,N=>(noX (iR cl a N)).th λx=>(R.of (qfF cl.cs x.1 t)).th λb=>.ok (.val (.bl b),x.2)
 |.isn ts a,N=>(noX (iR cl a N)).th λx=>(R.of (qpl cl.cs x.1 ts)).th λb=>.ok (.val (.bl b),x.2)
 |.fld a x,N=>(noX (iR cl a N)).th λy=>(R.of (qdy cl.cs y.1 x)).th λd=>.ok (.val d,y.2)
 |.met a x l,N=>(noX (iR cl a N)).th λy=>match mtD cl.cs y.1 x with
  |some f=>(iAs cl l y.2).th λz=>(cl f (toAr y.1::z.1)).th λr=>.ok (r,z.2)
  |none=>(noX (iAs cl l y.2)).th λz=>(noX (bmD x y.1 z.1)).th λr=>.ok (r,z.2)
 |.new f l,N=>(noX (iAs cl l N)).th λx=>(cl.nw f x.1).th λr=>.ok (r,x.2)
 |.fst l,N=>(noX (iEs cl l N)).th λx=>(R.of (qop Str.empty x.1)).th λz=>.ok (.val (.str z),x.2)
 |.dct ks l,N=>(iEs cl l N).th λx=>.ok (.val (.dct ks x.1),x.2)
 |.comp e src tg c n fr,N=>(iI cl src N).th λx=>if x.1.length<=sizeLine then (noX (qdA tg.go (λN1=>iF cl c N1) (jG e (iR cl e)) x.1 (qal n fr x.2) [])).th λl=>.ok (.tmp l,x.2) else .no
def iT(cl:Cl):T->Env->R (Bool×Env)
 |.not a,N=>(iT cl a N).th λt=>.ok (!t.1,t.2)
 |.one a,N=>iT cl a N
 |.and a b,N=>(iT cl a N).th λt=>if t.1 then iT cl b t.2 else .ok (false,t.2)
 |.or a b,N=>(iT cl a N).th λt=>if t.1 then .ok (true,t.2) else iT cl b t.2
 |.cmp op a b,N=>(iR cl a N).th λx=>(iR cl b x.2).th λy=>(R.of (Jr op x.1 y.1)).th λr=>.ok (r,y.2)
 | .chn op op' a b c,N=>(iR cl a N).th λx=>(iR cl b x.2).th λy=>(R.of (Jr op x.1 y.1)).th λr=>if r=true then (iR cl c y.2).th λz=>(R.of (Jr op' y.1 z.1)).th λr'=>.ok (r',z.2) else .ok (false,y.2)
 |.val a,N=>(iR cl a N).th λx=>(R.of (truthD x.1)).th λb=>.ok (b,x.2)
def iEs(cl:Cl):Es->Env->R (List D×Env)
 |.nil,N=>.ok ([],N)
 |.cons e l,N=>(jG e (iR cl e) N).th λx=>(iEs cl l x.2).th λy=>.ok (x.1::y.1,y.2)
def iAs(cl:Cl):Es->Env->R (List Ar×Env)
 |.nil,N=>.ok ([],N)
 |.cons e l,N=>(iR cl e N).th λx=>(iAs cl l x.2).th λy=>.ok (toAr x.1::y.1,y.2)
def iO(cl:Cl):O->Env->R (Option Int×Env)
 |.none,N=>.ok (none,N)
 |.some e,N=>(iR cl e N).th λx=>match x.1 with
  |.val (.int i)=>.ok (some i,x.2)
  |_=>.no
def iF(cl:Cl):F->Env->R (Bool×Env)
 |.yes,N=>.ok (true,N)
 |.test c,N=>iT cl c N
def iI(cl:Cl):I->Env->R (List D×Env)
 |.nam i,N=>(slC N i).th λl=>.ok (l,N)
 |.seq a,N=>(yz a (iR cl a) N).th λx=>.ok (x.1.2,x.2)
 |.rng a,N=>(iR cl a N).th λx=>(match x.1.int? with
  |some n=>if qR n=true then .ok (zw 0 n,x.2) else .no
  |none=>.no)
 |.rng3 a b c,N=>(iR cl a N).th λx=>(iR cl b x.2).th λy=>(iR cl c y.2).th λz=>(rg3 x.1 y.1 z.1).th λl=>.ok (l,z.2)
 |.rng2 a b,N=>(iR cl a N).th λx=>(iR cl b x.2).th λy=>(match x.1.int?,y.1.int? with
  |some i,some j=>if qR i=true/\qR j=true then .ok (zw i j,y.2) else .no
  |_,_=>.no)
 |.enum a,N=>(yz a (iR cl a) N).th λx=>match x.1.1 with |.lst=>.ok (J2 x.1.2,x.2) |_=>.no
 |.rev a,N=>(yz a (iR cl a) N).th λx=>match x.1.1 with |.lst=>.ok (x.1.2.reverse,x.2) |_=>.no
 |.zip a b,N=>(yz a (iR cl a) N).th λx=>(yz b (iR cl b) x.2).th λy=>match x.1.1,y.1.1 with |.lst,.lst=>.ok (YI x.1.2 y.1.2,y.2) |_,_=>.no
end
mutual
inductive S where
 | pass|expr (e:E)|app (i:Nat) (e:E)|ext (i:Nat) (e:E)|clr (i:Nat)|ret (e:E)|retN|set (i:Nat) (e:E)|setT (tg:Tg) (e:E)|setI (i:Nat) (x e:E)|ite (c:T) (a b:Ss)|for_ (tg:Tg) (src:I) (b:Ss)|whl (c:T) (b:Ss)|rai (n:Str) (l:Es)|try_ (b:Ss) (hs:List (Str×Nat×Nat))|stuck
inductive Ss where
 | nil|cons (s:S) (l:Ss)
end
def zt(N:Env)(i:Nat):Option (List D):=match N[i]? with
 |some (.own l)=>some l
 |_=>none
def qfH(e:E)(r:Env->R (Rv×Env))(N:Env):R Rv:=match e with
 |.var i=>slX N i
 |.con d=>.ok (.val d)
 |_=>(r N).th λx=>match x.1 with
  |.val d=>.ok (.val d)
  |.tmp l=>.ok (.tmp l)
  |_=>.no
def qco(e:E)(r:Env->R (Rv×Env))(N:Env):R (Sl×Env):=match e with
 |.var i=>(slE N i).th λr=>.ok (.val r.1,r.2)
 |.con d=>.ok (.val d,N)
 |_=>(r N).th λx=>match x.1 with
  |.val d=>.ok (.val d,x.2)
  |.tmp l=>.ok (.own l,x.2)
  |_=>.no
def mkX(b:Bool)(cs:Cs)(n:Str)(ds:List D):R Fl:=.no
def qgU(cs:Cs)(n:Nat)(C:ad)(l:List (Str×D)):List (Str×Nat×Nat)->R Fl
 |[]=>.no
 | h::hs=>match cs.xs C h.1 with
  |some true=>.ok (.next ((cz n Sl.no).set h.2.2 (.val (.exc C (l.map (·.1)) (l.map (·.2))))))
  |some false=>qgU cs n C l hs
  |none=>.no
mutual
def iS(cl:Cl)(w:Nat):S->Env->R Fl
 |.pass,N=>.ok (.next N)
 |.expr e,N=>(iR cl e N).th λx=>.ok (.next x.2)
 |.app i e,N=>(match zt N i with
  |none=>.no
  |some _=>(jG e (iR cl e) N).th λy=>(match zt y.2 i with
   |some l=>if l.length < sizeLine then .ok (.next (y.2.set i (.own (l++[y.1])))) else .no
   |none=>.no))
 |.ext i e,N=>(match zt N i with
  |none=>.no
  |some _=>(iR cl e N).th λy=>(match zt y.2 i,y.1.plain? with
   |some l,some n=>if l.length+n.length<=sizeLine then .ok (.next (y.2.set i (.own (l++n)))) else .no
   |_,_=>.no))
 |.clr i,N=>(match zt N i with
  |some _=>.ok (.next (N.set i (.own [])))
  |none=>.no)
 |.ret e,N=>(qfH e (iR cl e) N).th λr=>.ok (.ret r)
 |.retN,N=>.ok (.ret (.val .non))
 |.set i e,N=>(qco e (iR cl e) N).th λs=>.ok (.next (s.2.set i s.1))
 |.setT tg e,N=>(jG e (iR cl e) N).th λx=>(tg.go x.1 x.2).th λN1=>.ok (.next N1)
 |.setI i x e,N=>(jG e (iR cl e) N).th λy=>(match zt y.2 i with
  |none=>.no
  |some _=>(iR cl x y.2).th λz=>(match zt z.2 i,z.1.int? with
   |some l,some n=>(match ixN l.length n with
    |some k=>.ok (.next (z.2.set i (.own (l.set k y.1))))
    |none=>.no)
   |_,_=>.no))
 |.ite c a b,N=>(iT cl c N).th λt=>if t.1 then iSs cl w a t.2 else iSs cl w b t.2
 |.for_ tg src b,N=>(iI cl src N).th λx=>qm2 (λd N1=>(tg.go d N1).th λN2=>iSs cl w b N2) x.1 x.2
 |.whl c b,N=>whL (λN1=>iT cl c N1) (λN1=>iSs cl w b N1) w N
 |.rai n l,N=>(noX (iEs cl l N)).th λx=>mkX cl.x cl.cs n x.1
 |.try_ b hs,N=>match iSs cl w b N with
  |.exc C l=>qgU cl.cs N.length C l hs
  |r=>r
 |.stuck,_=>.no
def iSs(cl:Cl)(w:Nat):Ss->Env->R Fl
 |.nil,N=>.ok (.next N)
 |.cons s l,N=>(iS cl w s N).th λf=>match f with
  |.next N1=>iSs cl w l N1
  |.ret r=>.ok (.ret r)
end
def o2{α M γ:Type}(a:Option α)(b:Option M)(f:α->M->γ):Option γ:=match a,b with
 |some x,some y=>some (f x y)
 |_,_=>none
theorem qj{α M γ:Type}{a:Option α}{b:Option M}{f:α->M->γ}{z:γ}(h:o2 a b f=some z):∃x y,a=some x/\b=some y/\f x y=z:=by
 cases a with
 |none=>cases h
 |some x=>
  cases b with
  |none=>cases h
  |some y=>exact{x,y,rfl,rfl,Option.some.inj h}
def JF{α:Type}{c:Prop}[Decidable c]{a:Option α}{z:α}(h:(if c then a else none)=some z):c/\a=some z:=by
 by_cases hc:c
 ·rw[if_pos hc]at h;exact⟨hc,h⟩
 ·rw[if_neg hc]at h;cases h
theorem qk{α:Type}{c:Bool}{a:Option α}{z:α}(h:oif c a=some z):c=true/\a=some z:=by
 cases c with
 |true=>exact⟨rfl,h⟩
 |false=>cases h
def Ct.k(L:Ct):Cl:=⟨L.cl,L.cs,L.nw,L.x⟩
def cC(L:Ct)(it:ae)(r:Option I):Option I:=match isF L it with
 |some i=>some (.nam i)
 |none=>r
def qaz(L:Ct)(x:Str):Option E:=oif (zU x) (match qcH L.N x with
 |some i=>oif (qkO L.sc x) (some (.var i))
 |none=>oif (glB L.sc x) ((L.gl x).map .con))
def qgV:Const->Option E
 |.none=>some (.con .non)
 |.bool b=>some (.con (.bl b))
 |.int i=>some (.con (.int i))
 |.str s=>some (.con (.str s))
 |_=>none
def qm5(t:Str):Option Ty:=if t = "int" then some .int else if t = "bool" then some .bool else if t = "str" then some .str else if t = "list" then some .list else if t = "tuple" then some .tuple else none
def qnH(f:Str):Option B1:=if f = "len" then some .len else if f = "list" then some .list else if f = "int" then some .int else if f = "sorted" then some .srt else if f = "sum" then some .sum else if f = "all" then some .all else if f = "str" then some .str else if f = "tuple" then some .tup else if f = "any" then some .any else none
def qnI(f:Str):Option B2:=if f = "max" then some .max else if f = "min" then some .min else none
def qir(L:Ct)(x:Str):Option Nat:=oif (qkP L.sc x&&zU x) (qcH L.N x)
def qfI(L:Ct):List Str->Option (List Nat)
 |[]=>some []
 | x::l=>o2 (qir L x) (qfI L l) (· :: ·)
def cTg(L:Ct)(tg:ae):Option Tg:=match tg with
 |.Name x _=>(qir L x).map .one
 |.Tuple es j p=>oif (!es.any qw) (match zv (.Tuple es j p) with
  |some xs=>(qfI L xs).map .many
  |none=>none)
 |_=>none
def Qt:E->Option E
 |.var _=>none
 |e=>some e
def cFs(g:ae->Option E):List ae->Option Es
 |[]=>some .nil
 | .Constant (.str z) _ _::l=>(cFs g l).map (.cons (.con (.str z)))
 | .FormattedValue e i none _::l=>oif (decide (i = -1)) (o2 (g e) (cFs g l) .cons)
 |_=>none
def cVs(g:ae->Option E):List ae->Option Es
 |[]=>some .nil
 | e::l=>o2 (g e) (cVs g l) .cons
def cNm(L:Ct):List ae->Option (List Str)
 |[]=>some []
 | .Name t _::l=>oif (zU t&&glB L.sc t&&decide (t≠"ValueError")) ((cNm L l).map (t :: ·))
 |_=>none
mutual
def cE:Nat->Ct->ae->Option E
 |0,_,_=>none
 | m+1,L,e=>match e with
  |.Name x _=>qaz L x
  |.Constant c _ _=>qgV c
  |.BinOp a op b _=>o2 (cE m L a) (cE m L b) (E.bin op)
  |.UnaryOp .USub a _=>(cE m L a).map .neg
  |.UnaryOp .Not a _=>(cE m L a).map .not
  |.BoolOp _ [a] _=>(cE m L a).map .one
  | .BoolOp .And (a::b::l) p=>o2 (cE m L a) (cE m L (.BoolOp .And (b::l) p)) .and
  | .BoolOp .Or (a::b::l) p=>none
  |.Compare a [op] [b] _=>oif (!behindInMarks op b) (o2 (cE m L a) (cE m L b) (E.cmp op))
  |.IfExp c a b _=>o2 (cT m L c) (o2 (cE m L a) (cE m L b) c8) λc p=>.ite c p.1 p.2
  |.Subscript a (.Slice lo hi none _) _=>o2 (cE m L a) (o2 (cO m L lo) (cO m L hi) c8) λa p=>.sli a p.1 p.2
  |.Subscript a (.Slice lo hi (some st) _) _=>(stN st).bind λn=>o2 (cE m L a) (o2 (cO m L lo) (cO m L hi) c8) λa p=>.stp n a p.1 p.2
  |.Subscript a i _=>o2 (cE m L a) (cE m L i) .idx
  |.List es _=>(cEs m L es).map .lst
  |.Tuple es _ _=>(cEs m L es).map .tup
  |.Call (.Name f p) es [] _=>oif (zU f&&glB L.sc f&&(qcH L.N f).isNone) (
    if f = "isinstance" then (match es with
     |[a,b]=>(match b with
      |.Name t _=>oif (zU t&&glB L.sc t&&(qcH L.N t).isNone&&!qw a) (match qm5 t with |some y=>(cE m L a).map (.isi y) |none=>(cE m L a).map (.isc t))
      |_=>none)
     |_=>none)
    else if L.tab.contains f=true then (cAs m L es).map (.call f)
    else if L.cs.tab.contains f=true then (cAs m L es).map (.new f)
    else match es with
     |[a]=>(match lrE L f a with
      |some t=>o2 (cE m L t.1) (cE m L t.2) (.b2 .rng)
      |none=>(match ssE L f a with
       |some t=>(cE m L t).map (.b1 .sst)
       |none=>oif (!qw a) (o2 (qnH f) (cE m L a) .b1)))
     |[a,b]=>oif (!(qw a||qw b)) (o2 (qnI f) (o2 (cE m L a) (cE m L b) c8) λf p=>.b2 f p.1 p.2)
     |_=>none)
  |.Attribute o x _=>oif (yx o) ((cE m L o).map λa=>.fld a x)
  |.Call (.Attribute o x ap) es [] q=>if (yx o&&(ap.endLine == q.line)&&decide (es.length < 30))=true then (o2 (cE m L o) (cAs m L es) λa l=>.met a x l)
   else match dgE L o x es (ap.endLine == q.line) with
    |some t=>o2 (cE m L t.1) (cE m L t.2.1) (.b2 (.get t.2.2))
    |none=>none
  |.ListComp elt [g] sc _=>oif (decide (g.is_async=0)) (match zv g.target with
   |some own=>oif (Jz L.sc L.N (YH L.N sc) sc&&decide (own++(YH L.N sc).map λi=>L.N.getD i "").Nodup&&ZB g.iter)
     (o2 (o2 (cC L g.iter (cI m L (qfG g.target) g.iter)) (cTg { L with N:=own++(YH L.N sc).map λi=>L.N.getD i "",sc:=sc } g.target) c8)
      (o2 (cF m { L with N:=own++(YH L.N sc).map λi=>L.N.getD i "",sc:=sc } g.ifs) (cX m { L with N:=own++(YH L.N sc).map λi=>L.N.getD i "",sc:=sc } elt) c8)
      λp q=>.comp q.2 p.1 p.2 q.1 own.length (YH L.N sc))
   |none=>none)
  |_=>none
def cX:Nat->Ct->ae->Option E
 |0,_,_=>none
 | m+1,L,e=>match e with
  |.Name x _=>qaz L x
  |e=>(cE m L e).bind Qt
def cT:Nat->Ct->ae->Option T
 |0,_,_=>none
 | m+1,L,e=>match e with
  |.UnaryOp .Not a _=>(cT m L a).map .not
  |.BoolOp _ [a] _=>(cT m L a).map .one
  | .BoolOp .And (a::b::l) p=>o2 (cT m L a) (cT m L (.BoolOp .And (b::l) p)) .and
  | .BoolOp .Or (a::b::l) p=>o2 (cT m L a) (cT m L (.BoolOp .Or (b::l) p)) .or
  |.BoolOp _ [] _=>none
  |.IfExp ..=>none
  |.Compare a [op] [b] _=>(match irE L op b with
   |some t=>o2 (cE m L a) (cE m L t) (λx y=>.val (.b2 .inr x y))
   |none=>oif (!behindInMarks op b) (o2 (cE m L a) (cE m L b) (T.cmp op)))
  | .Compare a [op,op'] [b,c] _=>oif (!lastMarks [op,op'] [b,c]) (o2 (cE m L a) (o2 (cE m L b) (cE m L c) c8) λa p=>.chn op op' a p.1 p.2)
  |.Compare ..=>none
  |e=>(cE m L e).map .val
def cEs:Nat->Ct->List ae->Option Es
 |0,_,_=>none
 | m+1,L,es=>match es with
  |[]=>some .nil
  | e::l=>oif (!qw e) (o2 (cX m L e) (cEs m L l) .cons)
def cAs:Nat->Ct->List ae->Option Es
 |0,_,_=>none
 | m+1,L,es=>match es with
  |[]=>some .nil
  | e::l=>oif (!qw e) (o2 (cE m L e) (cAs m L l) .cons)
def cO:Nat->Ct->Option ae->Option O
 |0,_,_=>none
 | m+1,L,o=>match o with
  |none=>some .none
  |some e=>(cE m L e).map .some
def cF:Nat->Ct->List ae->Option F
 |0,_,_=>none
 | m+1,L,es=>match es with
  |[]=>some .yes
  |[c]=>(cT m L c).map .test
  |_=>none
def cL:Nat->Ct->ae->Option E
 |0,_,_=>none
 | m+1,L,e=>match e with
  |.Name x _=>(qeT L x).map .var
  |e=>(cE m L e).bind Qt
def cI:Nat->Ct->Bool->ae->Option I
 |0,_,_,_=>none
 | m+1,L,tb,e=>match e with
  |.Call (.Name f p) es [] q=>if f = "range" || f = "enumerate" || f = "zip" || f = "reversed" then oif (zU f&&glB L.sc f&&(qcH L.N f).isNone) (match es with
    |[a]=>oif (!qw a) (if f = "range" then (cE m L a).map .rng else if f = "enumerate" then oif tb ((cL m L a).map .enum) else if f = "reversed" then (cL m L a).map .rev else none)
    |[a,b]=>oif (!(qw a||qw b)) (if f = "range" then o2 (cE m L a) (cE m L b) .rng2 else if f = "zip" then oif tb (o2 (cL m L a) (cL m L b) .zip) else none)
    |_=>none)
   else (cL m L (.Call (.Name f p) es [] q)).map .seq
  |e=>(cL m L e).map .seq
end
def cV(m:Nat)(L:Ct)(e:ae):Option E:=match e with
 |.Name x _=>qaz L x
 |e=>(cE m L e).bind Qt
def map_some{α M:Type}{o:Option α}{f:α->M}{z:M}(h:o.map f=some z):∃x,o=some x/\f x=z:=bF.mp h
noncomputable abbrev VE:=(Str×Pos) ⊕ (ae×List ae×List df×Pos) ⊕ (ae×Str×Pos) ⊕ (List ae×Pos) ⊕ (ae×Int×Option ae×Pos) ⊕ (Const×Nat×Pos)
def vE:ae->Option VE
 |.Name x p=>some (.inl (x,p))
 |.Call f l k p=>some (.inr (.inl (f,l,k,p)))
 |.Attribute o a p=>some (.inr (.inr (.inl (o,a,p))))
 |.JoinedStr l p=>some (.inr (.inr (.inr (.inl (l,p)))))
 |.FormattedValue e i f p=>some (.inr (.inr (.inr (.inr (.inl (e,i,f,p))))))
 |.Constant c k p=>some (.inr (.inr (.inr (.inr (.inr (c,k,p))))))
 |_=>none
theorem qL{α M:Type}{x:Option α}{f:α->Option M}{b:M}(h:x.bind f=some b):∃a,x=some a/\f a=some b:=by
 cases x with
 |none=>cases h
 |some a=>exact⟨a,rfl,h⟩
def nmE(e:ae):Option Str:=(vE e).bind (·.elim (λt=>some t.1) λ_=>none)
def caE(e:ae):Option (ae×List ae×List df×Pos):=(vE e).bind (·.elim (λ_=>none) (·.elim some λ_=>none))
def cN(x:ae):Option (Str×ae×List ae):=(caE x).bind λt=>(nmE t.1).bind λn=>match t.2.1 with
 | e::es=>oif t.2.2.1.isEmpty (some (n,e,es))
 |[]=>none
def xnB(L:Ct)(f:Str):Bool:=zU f&&glB L.sc f
mutual
def cS:Nat->Ct->aC->Option S
 |0,_,_=>none
 | m+1,L,st=>match st with
  |.Pass _=>some .pass
  |.Expr e _=>(match e with
   |.Call (.Attribute (.Name x _) meth ap) [a] [] cp=>oif (ap.endLine == cp.line&&!qw a) (
     if meth = "append" then o2 (qeT L x) (cX m L a) .app
     else if meth = "extend" then o2 (qeT L x) (cE m L a) .ext
     else none)
   |.Call (.Attribute (.Name x _) meth ap) [] [] cp=>none
   |e=>oif (yi e) ((cE m L e).map .expr))
  |.Return (some e) _=>(cV m L e).map .ret
  |.Return none _=>some .retN
  |.Assign [tg] e _=>(match tg with
   |.Name x _=>o2 (qir L x) (cV m L e) .set
   |.Tuple es j p=>oif (yi e&&qdB e) (o2 (cTg L (.Tuple es j p)) (cX m L e) .setT)
   |.Subscript (.Name x _) i _=>oif (yi e&&Qr i) (o2 (qeT L x) (o2 (cE m L i) (cX m L e) c8) λx p=>.setI x p.1 p.2)
   |_=>none)
  |.If c a b _=>o2 (cT m L c) (o2 (cSs m L a) (cSs m L b) c8) λc p=>.ite c p.1 p.2
  |.For tg it body [] _=>oif (!L.z&&ZB it) (o2 (o2 (cTg L tg) (cI m L (qfG tg) it) c8) (cSs m L body) λp b=>.for_ p.1 p.2 b)
  |.While c body [] _=>oif (!L.z) (o2 (cT m L c) (cSs m L body) .whl)
  |.Raise ex ca _=>some (match ex.bind cN,ca with
   |some t,none=>if (!L.z&&xnB L t.1)=true then (match cEs m L (t.2.1::t.2.2) with |some l=>.rai t.1 l |none=>.stuck) else .stuck
   |_,_=>.stuck)
  |_=>none
def cSs:Nat->Ct->List aC->Option Ss
 |0,_,_=>none
 | m+1,L,l=>match l with
  |[]=>some .nil
  | st::l=>o2 (cS m L st) (cSs m L l) .cons
end
def qpv:E->Bool
 |.var _=>true
 |_=>false
def qkT(e:E):(Qt e).elim True λz=>e=z/\qpv z=false:=by cases e<;>first|exact aJ|exact⟨rfl,rfl⟩
def zV{e z:E}(h:Qt e=some z):e=z/\∀i,z≠.var i:=by have b:=qkT e;rw[h]at b;exact{b.1,λi q=>by rw[q]at b;cases b.2}
def qis{z:E}(h:∀i,z≠.var i)(cl:Cl)(N:Env):jG z (iR cl z) N=(iR cl z N).th qm3:=by cases z<;>first|rfl|exact absurd rfl (h _)
def qit{z:E}(h:∀i,z≠.var i)(cl:Cl)(N:Env):yz z (iR cl z) N=(iR cl z N).th qm4:=by cases z<;>first|rfl|exact absurd rfl (h _)
def qiu{z:E}(h:∀i,z≠.var i)(cl:Cl)(N:Env):qfH z (iR cl z) N=(iR cl z N).th λx=>match x.1 with
  |.val d=>.ok (.val d)
  |.tmp l=>.ok (.tmp l)
  |_=>.no:=by
 cases z<;>first|rfl|exact absurd rfl (h _)
def qiv{z:E}(h:∀i,z≠.var i)(cl:Cl)(N:Env):qco z (iR cl z) N=(iR cl z N).th λx=>match x.1 with
  |.val d=>.ok (.val d,x.2)
  |.tmp l=>.ok (.own l,x.2)
  |_=>.no:=by
 cases z<;>first|rfl|exact absurd rfl (h _)
abbrev XW:=ad->List (Str×D)->Prop
def X0:XW:=λ_ _=>False
def Wx{α:Type}(Ξ:XW)(x:R α)(f:α->Prop):Prop:=match x with
 |.ok a=>f a
 |.exc c l=>Ξ c l
 |.no=>False
section
variable{α M:Type}{Ξ Ξ':XW}
def Wx.th{x:R α}{g:α->R M}{f:M->Prop}(h:Wx Ξ (x.th g) f):Wx Ξ x λa=>Wx Ξ (g a) f:=by cases x<;>exact h
def Wx.ht{x:R α}{g:α->R M}{f:M->Prop}(h:Wx Ξ x λa=>Wx Ξ (g a) f):Wx Ξ (x.th g) f:=by cases x<;>exact h
theorem Wx.mono{x:R α}{f g:α->Prop}(h:Wx Ξ x f)(i:∀a,f a->g a):Wx Ξ x g:=by
 cases x with
 |ok a=>exact i a h
 |exc c l=>exact h
 |no=>exact h
theorem Wx.mono2{x:R α}{f g:α->Prop}(h:Wx Ξ x f)(j:∀c l,Ξ c l->Ξ' c l)(i:∀a,f a->g a):Wx Ξ' x g:=by
 cases x with
 |ok a=>exact i a h
 |exc c l=>exact j c l h
 |no=>exact h
theorem Wx.of{x:Option α}{f:α->Prop}(h:Wx Ξ (R.of x) f):∃a,x=some a/\f a:=by
 cases x with
 |none=>exact h.elim
 |some a=>exact⟨a,rfl,h⟩
def Wx.iff{c:Prop}[Decidable c]{x:R α}{f:α->Prop}(h:Wx Ξ (if c then x else .no) f):c/\Wx Ξ x f:=by
 by_cases hc:c
 ·rw[if_pos hc]at h;exact⟨hc,h⟩
 ·rw[if_neg hc]at h;exact h.elim
theorem Wx.nox{x:R α}{f:α->Prop}(h:Wx Ξ (noX x) f):Wx Ξ' x f:=by
 cases x with
 |ok a=>exact h
 |exc c l=>exact h.elim
 |no=>exact h
end
def qpw(U:KC)(G:Hp)(od:Option ad)(l:List (Str×D)):Prop:=False
def XP(U:KC)(Gv Hv:Hp)(ε:XK):XW:=λC l=>∀od G' H',qo Hv H'->qo Gv G'->qo G' H'->(∀a o,G' a=some o->(∃o',Gv a=some o')\/Hv a=none)->qpw U G' od l->ε (.ref C) od H'
section
variable(U:KC)(K:Frag)(ε:XK)(Gv Hv:Hp)
def tR(f:Env->R (Rv×Env)):TE:=λZ H Q=>∃N G,ER U K Gv Hv G H N Z/\Wx (XP U Gv Hv ε) (f N) λx=>∀v G' H',Po U K Gv Hv Z G H N G' H' x.2->RvR U K Hv H G' H' x.2 Z x.1 v->Q v H'
def tE(f:Env->R (D×Env)):TE:=λZ H Q=>∃N G,ER U K Gv Hv G H N Z/\Wx (XP U Gv Hv ε) (f N) λx=>∀v G' H',Po U K Gv Hv Z G H N G' H' x.2->Rep U G' x.1 v->Q v H'
def tT(f:Env->R (Bool×Env)):TT:=λZ H Q=>∃N G,ER U K Gv Hv G H N Z/\Wx (XP U Gv Hv ε) (f N) λx=>∀G' H',Po U K Gv Hv Z G H N G' H' x.2->Q x.1 H'
def tEs(f:Env->R (List D×Env)):TA:=λZ H Q=>∃N G,ER U K Gv Hv G H N Z/\Wx (XP U Gv Hv ε) (f N) λx=>∀vs G' H',Po U K Gv Hv Z G H N G' H' x.2->ql U G' x.1 vs->Q vs H'
def ArR(G H:Hp):Ar->V->Prop
 |.val d,v=>Rep U G d v
 |.bor ds,v=>∃a xs,v=.ref a/\H a=some (.lst xs)/\ql U G ds xs
 |.scr ds,v=>∃a xs,v=.ref a/\SqL K H a xs/\ql U G ds xs
def JG(G H:Hp):List Ar->List V->Prop
 |[],vs=>vs=[]
 | a::l,vs=>∃v r,vs=v::r/\ArR U K G H a v/\JG G H l r
def tAs(f:Env->R (List Ar×Env)):TA:=λZ H Q=>∃N G,ER U K Gv Hv G H N Z/\Wx (XP U Gv Hv ε) (f N) λx=>∀vs G' H',Po U K Gv Hv Z G H N G' H' x.2->JG U K G' H' x.1 vs->Q vs H'
def tO(f:Env->R (Option Int×Env)):TO:=λZ H Q=>∃N G,ER U K Gv Hv G H N Z/\Wx (XP U Gv Hv ε) (f N) λx=>∀G' H',Po U K Gv Hv Z G H N G' H' x.2->Q x.1 H'
def SrR(G:Hp)(s:Sk×List D)(v:V):Prop:=match s.1 with
 |.str=>∃x,v=.str x/\s.2=qfE x
 |.tup=>∃a xs,v=.ref a/\ql U G s.2 xs/\G a=some (.tup xs)
 |.lst=>∃a xs,v=.ref a/\ql U G s.2 xs/\(G a=some (.lst xs)\/SqL K Hv a xs)
def tL(f:Env->R ((Sk×List D)×Env)):TE:=λZ H Q=>∃N G,ER U K Gv Hv G H N Z/\Wx (XP U Gv Hv ε) (f N) λx=>∀v G' H',Po U K Gv Hv Z G H N G' H' x.2->SrR U K Hv G' x.1 v->Q v H'
def ItR(G₁:Hp)(J:It)(l:List D):Prop:=∀(i:Nat) (G H:Hp),qo G₁ G->qo Hv H->qo G H->
 (∀d,l[i]?=some d->J.go i H/\∀x H',J.yld i H x H'->∃G',qo H H'/\qo G G'/\qo G' H'/\(∀a o,G' a=some o->(∃o',G a=some o')\/H a=none)/\Rep U G' d x)/\(l.length=i->J.stop i H)
def tI(f:Env->R (List D×Env)):TI:=λZ H Q=>∃N G,ER U K Gv Hv G H N Z/\Wx (XP U Gv Hv ε) (f N) λx=>∀J G' H',Po U K Gv Hv Z G H N G' H' x.2->ItR U Hv G' J x.1->Q J H'
def ReR(G' H' H:Hp):Rv->V->Prop
 |.val d,v=>Rep U G' d v
 |.tmp ds,v=>∃a xs,v=.ref a/\H' a=some (.lst xs)/\H a=none/\G' a=none/\ql U G' ds xs
 |_,_=>False
def spF(cl:Str->List Ar->R Rv)(f:Str):Sp:=λvs H Q E=>∃G args,qo G H/\JG U K G H args vs/\
 Wx (XP U G H E) (cl f args) λr=>∀v G' H',qo H H'->qo G G'->qo G' H'->(∀a o,G' a=some o->(∃o',G a=some o')\/H a=none)->ReR U G' H' H r v->Q v H'
end
def qdC:List Str:=["len","list","tuple","int","bool","str","max","min","isinstance","range","enumerate","zip","sorted","sum","reversed","all","any","dict","set"]
structure Gd(U:KC)(K:Frag)(ε:XK)(k:Nat)(X:Cx)(L:Ct):Prop where
 ps:jv CX0 X ε
 hN:X.N=L.N
 vis:∀x,qkO L.sc x=true->Vis X.env.scope x
 loc:∀x,qkP L.sc x=true->L2.Loc X.env.scope x/\(X.fn x=true\/X.env.scope.names.lookup x=some .local)
 glo:∀x,glB L.sc x=true->Gl X x
 cf:∀x,(L.sc.names.lookup x=some .cell\/L.sc.names.lookup x=some .free)->X.env.kindOf x=some .cell\/X.env.kindOf x=some .free
 nd:L.N.Nodup
 calm:X.calm=true
 hK:X.K=K
 room:Room k X.A
 fns:∀f,L.tab.contains f=true->∃fa fd ps,FnOk X.prog X.w X.K X.mg X.base CX0 k fa fd ps (spF U K L.cl f)/\X.mg f=some (.ref fa)/\dz X.K (.ref fa)=true/\zp X.K fd ps []
 blt:∀f∈qdC,X.mg f=none
 gl:∀x d,L.gl x=some d->∃v u,X.mg x=some u/\qK v u/\∀G,Rep U G d v
 cls:∀c C,U c=some C->Cls X.K C
 flds:∀c x C,L.cs.fld c x=true->U c=some C->ze X.K C x
 mts:∀c x f,L.cs.mt c x=some f->∃C fa fd ps,U c=some C/\Meth X.K C x fa/\FnOk X.prog X.w X.K X.mg X.base CX0 k fa fd ps (spF U K L.cl f)/\zp X.K fd ps []
 mks:∀f,L.cs.tab.contains f=true->(∀args,L.nw f args=.no)\/∃C fa fd ps sp,Mk X.K C fa/\FnOk X.prog X.w X.K X.mg X.base CX0 (k - 1) fa fd ps sp/\X.mg f=some (.ref C)/\zp X.K fd ps []/\0 < k/\
  ∀vs H Q E,spF U K L.nw f vs H Q E->∀x dx,H x=none->H dx=none->dx≠x->sp (.ref x::vs) (upd (upd H dx (.own x)) x (.ins C dx [])) (λv H2=>v=.non/\Q (.ref x) H2) E
 subs:∀c t b,L.cs.sub c t=some b->∃C T,U c=some C/\(∀H p dx fs,H p=some (HO.ins C dx fs)->TyOf X.K H (.ref p) (.ref C))/\X.mg t=some (.ref T)/\di X.K (.ref C) (.ref T)=some b
def PE.imp{X:Cx}{e:ae}{t t':TE}(h:PE X e t')(i:∀Z H Q,t Z H Q->t' Z H Q):PE X e t:=λpins s Z H Q I hw=>h pins s Z H Q I (i Z H Q hw)
def PT.imp{X:Cx}{e:ae}{t t':TT}(h:PT X e t')(i:∀Z H Q,t Z H Q->t' Z H Q):PT X e t:=λpins s Z H Q I hw=>h pins s Z H Q I (i Z H Q hw)
def PA.imp{X:Cx}{es:List ae}{t t':TA}(h:PA X es t')(i:∀Z H Q,t Z H Q->t' Z H Q):PA X es t:=λpos pins s Z H Q I hw=>h pos pins s Z H Q I (i Z H Q hw)
def PO.imp{X:Cx}{o:Option ae}{t t':TO}(h:PO X o t')(i:∀Z H Q,t Z H Q->t' Z H Q):PO X o t:=λpins s Z H Q I hw=>h pins s Z H Q I (i Z H Q hw)
def PIf.imp{X:Cx}{es:List ae}{t t':TT}(h:PIf X es t')(i:∀Z H Q,t Z H Q->t' Z H Q):PIf X es t:=λpins s Z H Q I hw=>h pins s Z H Q I (i Z H Q hw)
def PI.imp{X:Cx}{tg e:ae}{t t':TI}(h:PI X tg e t')(i:∀Z H Q,t Z H Q->t' Z H Q):PI X tg e t:=λpins s Z H Q I hw=>h pins s Z H Q I (i Z H Q hw)
theorem Qu:∀{N:List Str} {x:Str} {i:Nat},qcH N x=some i->N[i]?=some x
 |[],x,i,h=>by cases h
 | y::r,x,i,h=>by
  unfold qcH at h
  by_cases e:y=x
  ·rw[if_pos e]at h;cases h;rw[e];rfl
  ·rw[if_neg e]at h
   cases q:qcH r x with
   |none=>rw[q]at h;cases h
   |some j=>rw[q]at h;cases h;show(y::r)[j+1]?=some x;rw[kP];exact Qu q
def jK{x:Str}(h:zU x=true):(x == ("__debug__" : Str))=false/\(x == ("__classdict__" : Str))=false/\x≠"__name__":=by unfold zU at h;simp![aG,da]at h;refine{h.1.1,h.1.2,λz=>?_};rw[z]at h;exact absurd h.2 (2:)
def qgW{sc:bi}{x:Str}(h:qkO sc x=true):Vis sc x:=by
 unfold qkO at h;unfold Vis
 split at h
 ·rename_i e;exact .inl e
 ·rename_i e;exact .inr (.inl e)
 ·rename_i e;exact .inr (.inr e)
 ·cases h
def qdD{sc:bi}{x:Str}(h:qkP sc x=true):L2.Loc sc x:=by
 unfold qkP at h;unfold L2.Loc
 split at h
 ·rename_i e;exact .inl e
 ·rename_i e;exact .inr e
 ·cases h
def qe{e:ae}{es:List ae}{env:PySem.Env}(h:qw e=false):aI (e::es) env=(false,eval e env)::aI es env:=by cases e<;>first|rfl|(simp[qw]at h)
section
variable{U:KC}{ε:XK}{K:Frag}{Gv Hv:Hp}{k:Nat}{X:Cx}{L:Ct}
def ER.notOwn{G H:Hp}{N:Env}{Z:St}(er:ER U K Gv Hv G H N Z){a:ad}(h:H a=none):¬ qcn N Z a:=λ⟨i,l,e,z⟩=>by obtain⟨b,xs,z',h1,_⟩:=er.sl i _ e;rw[z]at z';injection z' with z';injection z' with z';injection z' with z';rw[<-z',h]at h1;cases h1
def ER.newList{G H:Hp}{N:Env}{Z:St}(er:ER U K Gv Hv G H N Z){a:ad}{xs:List V}{l:List D}(h:H a=none)(r:ql U G l xs) :
  Po U K Gv Hv Z G H N G (upd H a (.lst xs)) N/\RvR U K Hv H G (upd H a (.lst xs)) N Z (.tmp l) (.ref a):=
 ⟨Po.room er (qo.upd h),a,xs,rfl,qf,h,qo.none er.base h,qo.none er.sub h,er.notOwn h,r⟩
def qbk(gd:Gd U K ε k X L){x:Str}{i:Nat}(h:qeT L x=some i)(pos:Pos):PE X (.Name x pos) (qmV i):=by unfold qeT at h;obtain⟨hc,h⟩:=qk h;rw[aG]at hc;obtain⟨n1,n2,n3⟩:=jK hc.1;exact qcL (i:=i) (by rw[gd.hN];exact Qu h) (gd.vis x hc.2) n1 n2
theorem Qv(gd:Gd U K ε k X L){x:Str}{z:E}(h:qaz L x=some z)(pos:Pos):(∃i,z=.var i/\PE X (.Name x pos) (qmV i))\/∃d v,z=.con d/\(∀G,Rep U G d v)/\PE X (.Name x pos) (tC v):=by
 unfold qaz at h;obtain⟨hok,h⟩:=qk h;obtain⟨n1,n2,n3⟩:=jK hok
 cases hi:qcH L.N x with
 |some i=>rw[hi]at h;obtain⟨hv,h⟩:=qk h;cases h;exact .inl ⟨i,rfl,qcL (i:=i) (by rw[gd.hN];exact Qu hi) (gd.vis x hv) n1 n2⟩
 |none=>rw[hi]at h;obtain⟨hg,h⟩:=qk h;obtain⟨d,hd,rfl⟩:=map_some h;obtain⟨v,u,e1,e2,e3⟩:=gd.gl x d hd;exact .inr ⟨d,v,rfl,e3,Y5 (gd.glo x hg) e1 e2 n1⟩
def qfJ(gd:Gd U K ε k X L){x:Str}{z:E}(h:qaz L x=some z)(pos:Pos):PE X (.Name x pos) (tR U K ε Gv Hv (iR L.k z)):=by
 rcases Qv gd h pos with ⟨i,rfl,P⟩|⟨d,v,rfl,e3,P⟩
 ·refine PE.imp P λZ H Q hq1=>?_;obtain⟨N,G,er,h⟩:=hq1;have h:=Wx.th (x:=slR N i) h;unfold slR at h
  cases q:N[i]? with
  |none=>rw[q]at h;exact h.elim
  |some s=>
   rw[q]at h;have w:=er.sl i s q
   cases s with
   |no=>exact h.elim
   |val d=>obtain⟨v,z,r⟩:=w;exact{v,z,h v G H (Po.refl er) r}
   |own l=>obtain⟨a,xs,z,r1,r2,r3,r4⟩:=w;exact{_,z,h _ G H (Po.refl er) ⟨a,xs,rfl,r1,r4⟩}
   |bor l=>obtain⟨a,xs,z,r1,r4⟩:=w;exact{_,z,h _ G H (Po.refl er) {a,xs,rfl,er.base _ _ r1,r4}}
   |scr l=>obtain⟨a,xs,z,r1,r4⟩:=w;exact{_,z,h _ G H (Po.refl er) {a,xs,rfl,er.base.seq r1,r4}}
 ·refine PE.imp P λZ H Q hz68=>?_;obtain⟨N,G,er,h⟩:=hz68;exact h v G H (Po.refl er) (e3 G)
def qbl(gd:Gd U K ε k X L){x:Str}{z:E}(h:qaz L x=some z)(pos:Pos):PE X (.Name x pos) (tE U K ε Gv Hv (jG z (iR L.k z))):=by
 rcases Qv gd h pos with ⟨i,rfl,P⟩|⟨d,v,rfl,e3,P⟩
 ·refine PE.imp P λZ H Q hq1=>?_;obtain⟨N,G,er,h⟩:=hq1;have h:Wx _ (slE N i) _:=h;unfold slE at h
  cases q:N[i]? with
  |none=>rw[q]at h;exact h.elim
  |some s=>
   rw[q]at h;have w:=er.sl i s q
   cases s with
   |val d=>obtain⟨v,z,r⟩:=w;exact{v,z,h v G H (Po.refl er) r}
   |own l=>obtain⟨a,xs,z,p,r⟩:=er.froze q;exact{_,z,h _ _ H p r}
   |_=>exact h.elim
 ·refine PE.imp P λZ H Q hz69=>?_;obtain⟨N,G,er,h⟩:=hz69;exact h v G H (Po.refl er) (e3 G)
end
section
variable{U:KC}{ε:XK}{Ξ:XW}{K:Frag}{Gv Hv Hb Hc G H:Hp}{N:Env}{Z:St}{r s:Rv}{x y:V}
theorem RvR.int{i:Int}(h:RvR U K Hv Hb G H N Z r x)(e:r.int?=some i):x=.int i:=by
 cases r with
 |val d=>cases d<;>simp![Rv.int?]at e<;>first|(cases e;simpa only[RvR,Rep] using h)|cases e
 |_=>cases e
theorem RvR.str{i:Str}(h:RvR U K Hv Hb G H N Z r x)(e:r.str?=some i):x=.str i:=by
 cases r with
 |val d=>cases d<;>simp![Rv.str?]at e<;>first|(cases e;simpa only[RvR,Rep] using h)|cases e
 |_=>cases e
theorem RvR.bl{i:Bool}(h:RvR U K Hv Hb G H N Z r x)(e:r.bl?=some i):x=.bl i:=by
 cases r with
 |val d=>cases d<;>simp![Rv.bl?]at e<;>first|(cases e;simpa only[RvR,Rep] using h)|cases e
 |_=>cases e
theorem RvR.tup{l:List D}(h:RvR U K Hv Hb G H N Z r x)(e:r.tup?=some l):∃a xs,x=.ref a/\G a=some (.tup xs)/\ql U G l xs:=by
 cases r with
 |val d=>cases d<;>simp![Rv.tup?]at e<;>first|(cases e;simpa only[RvR,Rep] using h)|cases e
 |_=>cases e
theorem RvR.seq(er:ER U K Gv Hv G H N Z){l:List D}(h:RvR U K Hv Hb G H N Z r x)(e:seqD r=some l):∃a xs,x=.ref a/\(SqL K H a xs\/SqT K H a xs)/\ql U G l xs:=by
 unfold seqD at e
 cases q:r.tup? with
 | some l'=>rw[q]at e;cases e;obtain⟨a,xs,e1,e2,e3⟩:=h.tup q;exact{a,xs,e1,.inr (SqT.of (er.sub _ _ e2)),e3}
 |none=>rw[q]at e;obtain⟨a,xs,e1,e2,e3⟩:=h.list er e;exact{a,xs,e1,.inl e2,e3}
theorem RvR.non(h:RvR U K Hv Hb G H N Z r x):decide (x=.non)=r.non?:=by
 cases r with
 |val d=>
  cases d<;>simp![RvR,Rep]at h<;>simp![Rv.non?]
  ·subst h;rfl
  ·subst h;rfl
  ·subst h;rfl
  ·subst h;rfl
  ·obtain⟨a,xs,rfl,_⟩:=h;rfl
  ·obtain⟨a,xs,rfl,_⟩:=h;rfl
  ·obtain⟨p,dx,C,xs,_,rfl,_⟩:=h;rfl
  ·obtain⟨p,xs,rfl,_⟩:=h;rfl
 |tmp l=>obtain⟨a,xs,rfl,_⟩:=h;rfl
 |cell l=>obtain⟨a,xs,rfl,_⟩:=h;rfl
 |scr l=>obtain⟨a,xs,rfl,_⟩:=h;rfl
mutual
theorem Rep.dv(sub:qo G H):∀{d:D} {v:V} {p:ed},Rep U G d v->toP d=some p->DV K H p v
 |.non,v,p,h,e=>by simp![toP]at e;cases e;simp![Rep]at h;simp![DV];exact h
 |.bl b,v,p,h,e=>by simp![toP]at e;cases e;simp![Rep]at h;simp![DV];exact h
 |.int b,v,p,h,e=>by simp![toP]at e;cases e;simp![Rep]at h;simp![DV];exact h
 |.str b,v,p,h,e=>by simp![toP]at e;cases e;simp![Rep]at h;simp![DV];exact h
 |.lst l,v,p,h,e=>by simp![toP]at e;obtain⟨ps,e1,rfl⟩:=bF.mp e;simp![Rep]at h;obtain⟨a,xs,rfl,h1,h2⟩:=h;simp![DV];exact{a,xs,rfl,SqL.of (sub _ _ h1),ql.dvs sub h2 e1}
 |.tup l,v,p,h,e=>by simp![toP]at e;obtain⟨ps,e1,rfl⟩:=bF.mp e;simp![Rep]at h;obtain⟨a,xs,rfl,h1,h2⟩:=h;simp![DV];exact{a,xs,rfl,SqT.of (sub _ _ h1),ql.dvs sub h2 e1}
 |.ins c ns l,v,p,h,e=>by simp![toP]at e;cases e
 |.exc c ns l,v,p,h,e=>by simp![toP]at e;cases e
 |.dct ns l,v,p,h,e=>by simp![toP]at e;cases e
theorem ql.dvs(sub:qo G H):∀{ds:List D} {vs:List V} {ps:List ed},ql U G ds vs->qcG ds=some ps->DVs K H ps vs
 |[],vs,ps,h,e=>by simp![qcG]at e;cases e;simp![ql]at h;simp![DVs];exact h
 | d::ds,vs,ps,h,e=>by simp![qcG]at e;obtain⟨p,e1,e2⟩:=dW.mp e;obtain⟨qs,e3,rfl⟩:=bF.mp e2;simp![ql]at h;obtain⟨x,r,rfl,h1,h2⟩:=h;simp![DVs];exact{x,r,rfl,Rep.dv sub h1 e1,ql.dvs sub h2 e3}
end
theorem RvR.dv(er:ER U K Gv Hv G H N Z){p:ed}(h:RvR U K Hv Hb G H N Z r x)(e:toP r.data=some p):DV K H p x:=by
 have lst:∀{l:List D} {a:ad} {xs:List V},SqL K H a xs->ql U G l xs->toP (.lst l)=some p->DV K H p (.ref a):=λ{l a xs} hq hr e=>by simp![toP]at e;obtain⟨ps,e1,rfl⟩:=bF.mp e;simp![DV];exact{a,xs,rfl,hq,ql.dvs er.sub hr e1}
 cases r with
 |val d=>exact Rep.dv er.sub h e
 |tmp l=>obtain⟨a,xs,rfl,h1,_,_,_,_,h6⟩:=h;exact lst (SqL.of h1) h6 e
 |cell l=>obtain⟨a,xs,rfl,h1,h6⟩:=h;exact lst (SqL.of h1) h6 e
 |scr l=>obtain⟨a,xs,rfl,h1,h6⟩:=h;exact lst h1 h6 e
def qbm{d:D}{v:V}(h:Rep U G d v)(f:Jq d=true):v=flV d/\JT v=true:=by
 cases d<;>simp![Jq]at f<;>try (exact absurd f (2:))
 all_goals (simp![Rep]at h;subst h;exact⟨rfl,rfl⟩)
theorem ZD:∀{l:List D} {vs:List V},ql U G l vs->l.all Jq=true->vs=l.map flV/\vs.all JT=true
 |[],vs,h,f=>by simp![ql]at h;subst h;exact⟨rfl,rfl⟩
 | d::l,vs,h,f=>by simp![ql]at h;obtain⟨x,r,rfl,h1,h2⟩:=h;simp![fk,aG]at f;obtain⟨e1,e2⟩:=qbm h1 f.1;obtain⟨e3,e4⟩:=ZD h2 f.2;subst e1 e3;exact{rfl,by simp![fk,e2,e4,kQ]}
theorem qiw(h:RvR U K Hv Hb G H N Z r x)(f:Jq r.data=true):x=flV r.data/\JT x=true:=by
 cases r with
 |val d=>exact qbm h f
 |_=>simp![Rv.data,Jq]at f;exact absurd f (2:)
theorem qaA{f:Int->Int->R Rv}{F:Rv->Prop}(h:Wx Ξ (int2 r s f) F):∃i j,r.int?=some i/\s.int?=some j/\Wx Ξ (f i j) F:=by
 unfold int2 at h
 cases e1:r.int? with
 |none=>rw[e1]at h;exact h.elim
 |some i=>
  cases e2:s.int? with
  |none=>rw[e1,e2]at h;exact h.elim
  |some j=>rw[e1,e2]at h;exact⟨i,j,rfl,rfl,h⟩
def qfK{l:List D}{xs:List V}{i:Int}{d:D}(h:ql U G l xs)(e:atI l i=some d):∃v,atI xs i=some v/\Rep U G d v:=by unfold atI at e ⊢;rw[<-h.len];obtain⟨j,e1,e2⟩:=dW.mp e;obtain⟨v,e3,e4⟩:=h.atD e2;exact{v,by rw[e1];exact e3,e4}
def qfL{l:List D}{xs:List V}{lo hi:Option Int}(h:ql U G l xs):ql U G (Qo l lo hi) (qjr xs lo hi):=by unfold Qo qjr;rw[h.len];exact(h.drop _).take _
end
section
variable(U:KC)(K:Frag)(Ξ:XW)(Gv Hv:Hp)
def qm6(op:cq):R2:=λx y H Q=>∃(N:Env) (Z:St) (G Hb Hc:Hp) (r s:Rv),ER U K Gv Hv G H N Z/\RvR U K Hv Hb G H N Z r x/\RvR U K Hv Hc G H N Z s y/\
 Wx Ξ (qak op r s) λz=>∀v G' H',Po U K Gv Hv Z G H N G' H' N->RvR U K Hv H G' H' N Z z v->Q v H'
def qnJ(op:aR):R2:=λx y H Q=>∃(N:Env) (Z:St) (G Hb Hc:Hp) (r s:Rv) (b:Bool),ER U K Gv Hv G H N Z/\RvR U K Hv Hb G H N Z r x/\RvR U K Hv Hc G H N Z s y/\Jr op r s=some b/\Q (.bl b) H
def qpx:R2:=λx y H Q=>∃(N:Env) (Z:St) (G Hb Hc:Hp) (r s:Rv),ER U K Gv Hv G H N Z/\RvR U K Hv Hb G H N Z r x/\RvR U K Hv Hc G H N Z s y/\
 Wx Ξ (idxD r s) λz=>∀v G' H',Po U K Gv Hv Z G H N G' H' N->RvR U K Hv H G' H' N Z z v->Q v H'
def qpy:V->Option Int->Option Int->Hp->VK->Prop:=λx lo hi H Q=>∃(N:Env) (Z:St) (G Hb:Hp) (r:Rv),ER U K Gv Hv G H N Z/\RvR U K Hv Hb G H N Z r x/\
 Wx Ξ (sliceD r lo hi) λz=>∀v G' H',Po U K Gv Hv Z G H N G' H' N->RvR U K Hv H G' H' N Z z v->Q v H'
def rC1(f:Rv->R Rv):List V->Hp->VK->Prop:=λxs H Q=>∃(N:Env) (Z:St) (G Hb:Hp) (r:Rv) (x:V),xs=[x]/\ER U K Gv Hv G H N Z/\RvR U K Hv Hb G H N Z r x/\
 Wx Ξ (f r) λz=>∀v G' H',Po U K Gv Hv Z G H N G' H' N->RvR U K Hv H G' H' N Z z v->Q v H'
def rC2(f:Rv->Rv->R Rv):List V->Hp->VK->Prop:=λxs H Q=>∃(N:Env) (Z:St) (G Hb Hc:Hp) (r s:Rv) (x y:V),xs=[x,y]/\ER U K Gv Hv G H N Z/\RvR U K Hv Hb G H N Z r x/\RvR U K Hv Hc G H N Z s y/\
 Wx Ξ (f r s) λz=>∀v G' H',Po U K Gv Hv Z G H N G' H' N->RvR U K Hv H G' H' N Z z v->Q v H'
end
section
variable{U:KC}{ε:XK}{Ξ:XW}{K:Frag}{Gv Hv:Hp}{k:Nat}{X:Cx}{L:Ct}
def Qw(op:cq){f:Int->Int->R Rv}{C:Int->Int->Prop}{g:Int->Int->Int}(hop:OpR X (b9 op) (rI C λi j=>.int (g i j)))(hf:∀r s,qak op r s=int2 r s f)(hw:∀i j F,Wx Ξ (f i j) F->C i j/\F (.val (.int (g i j)))) :
  OpR X (b9 op) (qm6 U K Ξ Gv Hv op):=by
 rintro pins st Z' H x y v u Q I rx ry ⟨N,Z,G,Hb,Hc,r,s,er,h1,h2,h⟩;rw[hf]at h;obtain⟨i,j,e1,e2,h⟩:=qaA h;obtain⟨hc,h⟩:=hw i j _ h;exact hop pins st Z' H x y v u Q I rx ry ⟨i,j,h1.int e1,h2.int e2,hc,h _ G H (Po.refl er) (by simp![RvR,Rep])⟩
def qnK{f:aa->aa->Sem aa}{g:Int->Int->V}(h:OpR X f (rI0 g)):OpR X f (rI (λ_ _=>True) g):=λpins st Z' H x y v u Q I rx ry ⟨i,j,e1,e2,_,q⟩=>h pins st Z' H x y v u Q I rx ry ⟨i,j,e1,e2,q⟩
theorem qkU:OpR X (b9 .Add) (qm6 U K Ξ Gv Hv .Add):=by
 rintro pins st Z' H x y v u Q I rx ry ⟨N,Z,G,Hb,Hc,r,s,er,h1,h2,h⟩;have h:Wx Ξ (qnF r s) _:=h;unfold qnF at h
 have cat:Wx Ξ (match r.plain?,s.plain? with
   |some l,some m=>if l.length+m.length<=sizeLine then R.ok (Rv.tmp (l++m)) else .no
   |_,_=>.no) (λz=>∀v G' H',Po U K Gv Hv Z G H N G' H' N->RvR U K Hv H G' H' N Z z v->Q v H')->ak (al X.prog X.w) X.A (b9 .Add v u) (EP X pins Z' Q) X.xe st:=λh=>by
  cases e1:r.plain? with
  |none=>rw[e1]at h;exact h.elim
  |some l=>
   cases e2:s.plain? with
   |none=>rw[e1,e2]at h;exact h.elim
   |some m=>rw[e1,e2]at h;obtain⟨hz,h⟩:=Wx.iff h;obtain⟨a,xs,q1,q2,q3⟩:=h1.plain er e1;obtain⟨b,ys,p1,p2,p3⟩:=h2.plain er e2;refine qj7 pins st Z' H x y v u Q I rx ry ⟨a,b,xs,ys,q1,p1,q2,p2,by rw[<-q3.len,<-p3.len];exact hz,λp hp=>?_⟩;obtain⟨z1,z2⟩:=er.newList hp (q3.app p3);exact h _ _ _ z1 z2
 have txt:Wx Ξ (match r.str?,s.str? with
   |some a,some b=>if a.length+b.length<=sizeLine then R.ok (Rv.val (.str (a++b))) else .no
   |_,_=>match r.plain?,s.plain? with
    |some l,some m=>if l.length+m.length<=sizeLine then R.ok (Rv.tmp (l++m)) else .no
    |_,_=>.no) (λz=>∀v G' H',Po U K Gv Hv Z G H N G' H' N->RvR U K Hv H G' H' N Z z v->Q v H')->ak (al X.prog X.w) X.A (b9 .Add v u) (EP X pins Z' Q) X.xe st:=λh=>by
  cases e1:r.str? with
  |none=>rw[e1]at h;exact cat h
  |some l=>
   cases e2:s.str? with
   |none=>rw[e1,e2]at h;exact cat h
   |some m=>rw[e1,e2]at h;obtain⟨hz,h⟩:=Wx.iff h;exact qb6 pins st Z' H x y v u Q I rx ry ⟨l,m,h1.str e1,h2.str e2,hz,h _ G H (Po.refl er) (by simp![RvR,Rep])⟩
 cases e1:r.int? with
 |none=>rw[e1]at h;exact txt h
 |some i=>
  cases e2:s.int? with
  |none=>rw[e1,e2]at h;exact txt h
  |some j=>rw[e1,e2]at h;exact qjP pins st Z' H x y v u Q I rx ry ⟨i,j,h1.int e1,h2.int e2,h _ G H (Po.refl er) (by simp![RvR,Rep])⟩
def qix{i j:Int}(h:Zy i j=true):qmX i j:=by unfold Zy at h;simp![eB,aG,decide_eq_true_eq]at h;exact h
theorem qkV:OpR X (b9 .Mult) (qm6 U K Ξ Gv Hv .Mult):=by
 rintro pins st Z' H x y v u Q I rx ry ⟨N,Z,G,Hb,Hc,r,s,er,h1,h2,h⟩;have h:Wx Ξ (qnG r s) _:=h;unfold qnG at h
 cases e2:s.int? with
 |none=>cases e1:r.int?<;>rw[e1,e2]at h<;>exact h.elim
 |some j=>
  cases e1:r.int? with
  |some i=>rw[e1,e2]at h;obtain⟨hm,h⟩:=Wx.iff h;exact qjR pins st Z' H x y v u Q I rx ry ⟨i,j,h1.int e1,h2.int e2,qix hm,h _ G H (Po.refl er) (by simp![RvR,Rep])⟩
  |none=>rw[e1,e2]at h;exact h.elim
theorem qkW(op:cq):OpR X (b9 op) (qm6 U K Ξ Gv Hv op):=by
 cases op with
 |Add=>exact qkU
 |Sub=>exact Qw .Sub (qnK qjQ) (λ_ _=>rfl) λi j F h=>⟨trivial,h⟩
 |Mult=>exact qkV
 |FloorDiv=>
  refine Qw .FloorDiv qe3 (λ_ _=>rfl) λi j F h=>?_
  by_cases hp:0 < j/\j < 1073741824
  ·rw[if_pos hp]at h;rw[mD i (1:)];exact{{by lia,by omega},h}
  ·rw[if_neg hp]at h;obtain⟨hc,h⟩:=Wx.iff h;exact{{by lia,by omega},h}
 |Mod=>
  refine Qw .Mod qhB (λ_ _=>rfl) λi j F h=>?_
  by_cases hp:0 < j
  ·rw[if_pos hp]at h;rw[mE i (1:)];exact{by lia,h}
  ·rw[if_neg hp]at h;obtain⟨hc,h⟩:=Wx.iff h;exact{by lia,h}
 |Pow=>exact Qw .Pow qjS (λ_ _=>rfl) λi j F h=>{(Wx.iff h).1,(Wx.iff h).2}
 |_=>exactλ_ _ _ _ _ _ _ _ _ _ _ _ h=>eV h λ_ h=>eV h λ_ h=>eV h λ_ h=>eV h λ_ h=>eV h λ_ h=>eV h λ_ h=>eV h λ_ h=>h.2.2.2.elim
theorem Qx(op:aR){g:Int->Int->Bool}(hop:OpR X (bv op) (rI0 λi j=>.bl (g i j)))(hf:∀r s,Jr op r s=qjw r s g):OpR X (bv op) (qnJ U K Gv Hv op):=by
 rintro pins st Z' H x y v u Q I rx ry ⟨N,Z,G,Hb,Hc,r,s,b,er,h1,h2,h,q⟩;rw[hf]at h;unfold qjw at h
 cases e1:r.int? with
 |none=>rw[e1]at h;cases h
 |some i=>
  cases e2:s.int? with
  |none=>rw[e1,e2]at h;cases h
  |some j=>rw[e1,e2]at h;cases h;exact hop pins st Z' H x y v u Q I rx ry ⟨i,j,h1.int e1,h2.int e2,q⟩
theorem qgX{x y:D}{b:Bool}(h:eqD x y=some b):∃p q,toP x=some p/\toP y=some q/\br p=true/\br q=true/\b=b7 p q:=by
 unfold eqD at h
 cases e1:toP x with
 |none=>rw[e1]at h;cases h
 |some p=>
  cases e2:toP y with
  |none=>rw[e1,e2]at h;cases h
  |some q=>
   rw[e1,e2]at h;dsimp only at h
   by_cases hs:(br p&&br q)=true
   ·rw[if_pos hs]at h;cases h;rw[aG]at hs;exact⟨p,q,rfl,rfl,hs.1,hs.2,rfl⟩
   ·rw[if_neg hs]at h;cases h
theorem qgY(gd:Gd U K ε k X L)(neg:Bool)(op:aR)(hs:OpR X (bv op) (λx y H Q=>∃i j,x=.str i/\y=.str j/\Q (.bl (if neg then !qjx i j else qjx i j)) H))(hl:OpR X (bv op) (rIn X.K neg))
  (hf:∀r s,Jr op r s=(qeU r s).map λb=>if neg then !b else b):OpR X (bv op) (qnJ U K Gv Hv op):=by
 rintro pins st Z' H x y v u Q I rx ry ⟨N,Z,G,Hb,Hc,r,s,b,er,h1,h2,h,q⟩;rw[hf]at h;obtain⟨b',hb',rfl⟩:=bF.mp h
 replace h:=hb'
 unfold qeU at h
 have sq:(seqD s).bind (inD r.data)=some b'->ak (al X.prog X.w) X.A (bv op v u) (EP X pins Z' Q) X.xe st:=λh=>by
  obtain⟨l,e1,e2⟩:=dW.mp h;unfold inD at e2
  by_cases hc:(Jq r.data&&l.all Jq)=true
  ·rw[if_pos hc]at e2;cases e2;rw[aG]at hc;obtain⟨a,xs,p1,p2,p3⟩:=h2.seq er e1;obtain⟨f1,f2⟩:=qiw h1 hc.1;obtain⟨f3,f4⟩:=ZD p3 hc.2;refine hl pins st Z' H x y v u Q I rx ry ⟨a,xs,p1,by rw[gd.hK];exact p2,f2,f4,?_⟩;rw[f1,f3];exact q
  ·rw[if_neg hc]at e2;cases e2
 cases e1:r.str? with
 |none=>rw[e1]at h;exact sq h
 |some i=>
  cases e2:s.str? with
  |none=>rw[e1,e2]at h;exact sq h
  |some j=>rw[e1,e2]at h;cases h;exact hs pins st Z' H x y v u Q I rx ry ⟨i,j,h1.str e1,h2.str e2,q⟩
theorem qaB{G:Hp}:∀{l:List D} {xs:List V} {ns:List Int},ql U G l xs->Qn l=some ns->xs=ns.map V.int
 |[],xs,ns,r,h=>by simp![ql]at r;subst r;cases h;rfl
 | d::l,xs,ns,r,h=>by
  simp![ql]at r;obtain⟨x,us,rfl,r1,r2⟩:=r
  cases d with
  |int i=>unfold Qn at h;obtain⟨ms,e1,rfl⟩:=bF.mp h;simp![Rep]at r1;rw[r1,qaB r2 e1];rfl
  |_=>cases h
theorem qbn(gd:Gd U K ε k X L)(op:aR):OpR X (bv op) (qnJ U K Gv Hv op):=by
 have hu:X.A.units+64 < cLine:=by have:=gd.room.un;lia
 cases op with
 |Eq=>rintro pins st Z' H x y v u Q I rx ry ⟨N,Z,G,Hb,Hc,r,s,b,er,h1,h2,h,q⟩;obtain⟨p,p',e1,e2,e3,e4,rfl⟩:=qgX h;exact qkq hu pins st Z' H x y v u Q I rx ry ⟨p,p',by rw[gd.hK];exact h1.dv er e1,by rw[gd.hK];exact h2.dv er e2,e3,e4,q⟩
 |NotEq=>rintro pins st Z' H x y v u Q I rx ry ⟨N,Z,G,Hb,Hc,r,s,b,er,h1,h2,h,q⟩;obtain⟨b',h',rfl⟩:=bF.mp h;obtain⟨p,p',e1,e2,e3,e4,rfl⟩:=qgX h';exact qkr hu pins st Z' H x y v u Q I rx ry ⟨p,p',by rw[gd.hK];exact h1.dv er e1,by rw[gd.hK];exact h2.dv er e2,e3,e4,q⟩
 |Lt=>exact Qx .Lt qnn λ_ _=>rfl
 |LtE=>exact Qx .LtE qno λ_ _=>rfl
 |Gt=>exact Qx .Gt qnp λ_ _=>rfl
 |GtE=>exact Qx .GtE qnq λ_ _=>rfl
 |Is=>
  rintro pins st Z' H x y v u Q I rx ry ⟨N,Z,G,Hb,Hc,r,s,b,er,h1,h2,h,q⟩;have h:(if s.non?=true then some r.non? else none)=some b:=h
  by_cases hn:s.non?=true
  ·rw[if_pos hn]at h;cases h;refine qjU pins st Z' H x y v u Q I rx ry ⟨of_decide_eq_true (h2.non.trans hn),?_⟩;rw[h1.non];exact q
  ·rw[if_neg hn]at h;cases h
 |IsNot=>
  rintro pins st Z' H x y v u Q I rx ry ⟨N,Z,G,Hb,Hc,r,s,b,er,h1,h2,h,q⟩;have h:(if s.non?=true then some (!r.non?) else none)=some b:=h
  by_cases hn:s.non?=true
  ·rw[if_pos hn]at h;cases h;refine qhC pins st Z' H x y v u Q I rx ry ⟨of_decide_eq_true (h2.non.trans hn),?_⟩;rw[h1.non];exact q
  ·rw[if_neg hn]at h;cases h
 |In=>exact qgY gd false .In qcT qc1 λr s=>by show qeU r s=_;cases qeU r s<;>rfl
 |NotIn=>exact qgY gd true .NotIn Q7 Zi λr s=>rfl
theorem qbo{G:Hp}{x:Str}{d:D}:∀{ns:List Str} {ds:List D} {xs:List V},ql U G ds xs->(ns.zip ds).lookup x=some d->∃v,(ns.zip xs).lookup x=some v/\Rep U G d v
 |[],_,_,_,h=>by simp at h
 | n::ns,[],_,_,h=>by simp at h
 | n::ns,e::ds,xs,r,h=>by
  simp![ql]at r;obtain⟨v,us,rfl,r1,r2⟩:=r;rw[ik,bh]at h
  cases hx:(x == n) with
  |true=>rw[hx]at h;cases h;exact{v,by rw[ik,bh,hx],r1}
  |false=>rw[hx]at h;obtain⟨u,z1,z2⟩:=qbo r2 h;exact{u,by rw[ik,bh,hx];exact z1,z2}
theorem qkX(gd:Gd U K ε k X L):IxR X (qpx U K Ξ Gv Hv):=by
 rintro value slice pins st Z' H x y v u Q I rx ry ⟨N,Z,G,Hb,Hc,r,s,er,h1,h2,h⟩ hs;unfold idxD at h
 cases e1:s.int? with
 |none=>rw[e1]at h;exact ao h
 |some i=>
  rw[e1]at h;dsimp only at h
  cases e2:r.str? with
  |some z=>
   rw[e2]at h;dsimp only at h;obtain⟨hz,h⟩:=Wx.iff h
   cases e3:atI z.cps.toList i with
   |none=>rw[e3]at h;exact h.elim
   |some c=>rw[e3]at h;exact qj3 value slice pins st Z' H x y v u Q I rx ry ⟨z,i,c,h1.str e2,h2.int e1,hz,e3,h _ G H (Po.refl er) (by simp![RvR,Rep])⟩ hs
  |none=>
   rw[e2]at h;dsimp only at h
   cases e3:seqD r with
   |none=>rw[e3]at h;exact h.elim
   |some l=>
    rw[e3]at h;dsimp only at h
    cases e4:atI l i with
    |none=>rw[e4]at h;exact h.elim
    |some d=>
     rw[e4]at h;obtain⟨a,xs,p1,p2,p3⟩:=h1.seq er e3;obtain⟨w,p4,p5⟩:=qfK p3 e4;rcases p2 with p2|p2
     ·exact qhP value slice pins st Z' H x y v u Q I rx ry ⟨a,xs,i,w,p1,h2.int e1,by rw[gd.hK];exact p2,p4,h w G H (Po.refl er) p5⟩ hs
     ·exact qj2 value slice pins st Z' H x y v u Q I rx ry ⟨a,xs,i,w,p1,h2.int e1,by rw[gd.hK];exact p2,p4,h w G H (Po.refl er) p5⟩ hs
theorem qkY(gd:Gd U K ε k X L):L2.SlR X (qpy U K Ξ Gv Hv):=by
 rintro pins st Z' H x v vl vu lo hi sl Q I rx hs pl pu ⟨N,Z,G,Hb,r,er,h1,h⟩;unfold sliceD at h
 cases e2:r.str? with
 |some z=>rw[e2]at h;dsimp only at h;obtain⟨hz,h⟩:=Wx.iff h;exact qkB pins st Z' H x v vl vu lo hi sl Q I rx hs pl pu ⟨z,h1.str e2,hz,h _ G H (Po.refl er) (by simp![RvR,Rep])⟩
 |none=>rw[e2]at h;dsimp only at h;obtain⟨l,e1,h⟩:=Wx.of (Wx.th h);obtain⟨a,xs,p1,p2,p3⟩:=h1.list er e1;refine qhQ pins st Z' H x v vl vu lo hi sl Q I rx hs pl pu ⟨a,xs,p1,by rw[gd.hK];exact p2,λp hp=>?_⟩;obtain⟨z1,z2⟩:=er.newList hp (qfL (lo:=lo) (hi:=hi) p3);exact h _ _ _ z1 z2
theorem qkZ(gd:Gd U K ε k X L):qO X (.builtin "len") (rC1 U K Ξ Gv Hv lenD):=by
 rintro pins st Z' H xs us Q I rs ⟨N,Z,G,Hb,r,x,hx,er,h1,h⟩;unfold lenD at h
 cases e2:r.str? with
 |some z=>rw[e2]at h;dsimp only at h;obtain⟨hz,h⟩:=Wx.iff h;exact Zj pins st Z' H xs us Q I rs ⟨z,by rw[hx,h1.str e2],hz,h _ G H (Po.refl er) (by simp![RvR,Rep])⟩
 |none=>
  rw[e2]at h;dsimp only at h
  cases e3:seqD r with
  |none=>rw[e3]at h;exact h.elim
  |some l=>rw[e3]at h;obtain⟨a,ys,p1,p2,p3⟩:=h1.seq er e3;refine Jb pins st Z' H xs us Q I rs ⟨a,ys,by rw[hx,p1],by rw[gd.hK];exact p2,?_⟩;rw[<-p3.len];exact h _ G H (Po.refl er) (by simp![RvR,Rep])
theorem qiy(gd:Gd U K ε k X L):qO X (.type "list") (rC1 U K Ξ Gv Hv listD):=by
 rintro pins st Z' H xs us Q I rs ⟨N,Z,G,Hb,r,x,hx,er,h1,h⟩;unfold listD at h
 cases e3:seqD r with
 |none=>rw[e3]at h;exact h.elim
 |some l=>rw[e3]at h;obtain⟨a,ys,p1,p2,p3⟩:=h1.seq er e3;refine jI pins st Z' H xs us Q I rs ⟨a,ys,by rw[hx,p1],by rw[gd.hK];exact p2,λp hp=>?_⟩;obtain⟨z1,z2⟩:=er.newList hp p3;exact h _ _ _ z1 z2
def qcp(a b c:Int×Int)(h1:QY a b=true)(h2:QY b c=true):QY a c=true:=by
 simp![QY,eB,aG,decide_eq_true_eq]at *
 lia
def qcq(a b:Int×Int):(QY a b||QY b a)=true:=by
 simp![QY,eB,aG,decide_eq_true_eq]at *
 lia
def qfM{ps qs:List (Int×Int)}(p:qs.Perm ps)(s:qs.Pairwise qdk):yy ps=qs:=by
 have s1:(yy ps).Pairwise λa b=>QY a b=true:=il qcp qcq ps
 have s2:qs.Pairwise λa b=>QY a b=true:=s.imp λ{a b} h=>by simp![QY,eB,aG,decide_eq_true_eq];exact h
 refine lQ (λa b _ _ h1 h2=>?_) s1 s2 ((fF ps QY).trans p.symm);simp![QY,eB,aG,decide_eq_true_eq]at h1 h2;exact Prod.ext (1:) (1:)
theorem qbp{G:Hp}:∀{l:List D} {xs:List V} {ps:List (Int×Int)},ql U G l xs->qgR l=some ps->bb (λx (p:Int×Int)=>∃a,x=V.ref a/\G a=some (.tup [.int p.1,.int p.2])) xs ps
 |[],xs,ps,r,h=>by simp![ql]at r;subst r;cases h;exact .nil
 | d::l,xs,ps,r,h=>by
  simp![ql]at r;obtain⟨x,us,rfl,r1,r2⟩:=r;unfold qgR at h
  cases e1:prD d with
  |none=>rw[e1]at h;cases h
  |some p=>
   cases e2:qgR l with
   |none=>rw[e1,e2]at h;cases h
   |some qs=>
    rw[e1,e2]at h;cases h;refine .cons ?_ (qbp r2 e2)
    cases qkQ e1
    simp![Rep,ql]at r1;obtain⟨a,ys,rfl,h1,x1,z1,rfl,rfl,x2,z2,rfl,rfl,rfl⟩:=r1;exact⟨a,rfl,h1⟩
theorem Paired.memL{α M:Type}{R:α->M->Prop}:∀{l:List α} {m:List M},bb R l m->∀a∈l,∃b,R a b
 |_,_,.nil,a,h=>by cases h
 |_,_,.cons r rs,a,h=>by
  cases h with
  |head=>exact{_,r}
  |tail _ h=>exact Paired.memL rs a h
theorem qcr{G H:Hp}(sub:qo G H){xs:List V}(f:∀x∈xs,∃p:Int×Int,∃a,x=V.ref a/\G a=some (.tup [.int p.1,.int p.2])){ys:List V}{qs:List (Int×Int)}(hm:∀y∈ys,y∈xs)(h:bb (P2 K H) ys qs):ql U G (qs.map pD) ys:=by
 induction h with
 |nil=>exact .nil
 |cons r rs ih=>refine .cons ?_ (ih λz hz=>hm z (bI _ hz));obtain⟨p,a,rfl,ga⟩:=f _ (hm _ (b5 ..));obtain⟨b,eb,hb⟩:=r;cases eb;rw[sub _ _ ga]at hb;rw[hb]at ga;simp![pD,Rep,ql];exact{a,_,rfl,ga,_,_,rfl,rfl,_,_,rfl,rfl,rfl}
theorem qdE(gd:Gd U K ε k X L):qO X (.builtin "sorted") (rC1 U K Ξ Gv Hv Qp):=by
 rintro pins st Z' H xs us Q I rs ⟨N,Z,G,Hb,r,x,hx,er,h1,h⟩;unfold Qp at h
 cases e3:r.list? with
 |none=>rw[e3]at h;exact h.elim
 |some l=>
  rw[e3]at h;dsimp only at h
  cases e4:qgR l with
  |none=>rw[e4]at h;exact h.elim
  |some ps=>
   rw[e4]at h;dsimp only at h;obtain⟨h64,h⟩:=Wx.iff h;obtain⟨a,ys,p1,p2,p3⟩:=h1.list er e3;have pr:=qbp p3 e4
   have pr2:bb (P2 X.K H) ys ps:=by
    have:∀{ys:List V} {ps:List (Int×Int)},bb (λx (p:Int×Int)=>∃a,x=V.ref a/\G a=some (.tup [.int p.1,.int p.2])) ys ps->bb (P2 X.K H) ys ps:=by
     intro ys ps q
     induction q with
     |nil=>exact .nil
     |cons r rs ih=>obtain⟨a,e,ga⟩:=r;exact .cons ⟨a,e,er.sub _ _ ga⟩ ih
    exact this pr
   refine Zp pins st Z' H xs us Q I rs ⟨a,ys,ps,by rw[hx,p1],by rw[gd.hK];exact p2,pr2,λp zs qs hp z1 z2 z3 z4=>?_⟩;have e5:yy ps=qs:=qfM z3 z4
   have rr:ql U G ((yy ps).map pD) zs:=by rw[e5];refine qcr (K:=X.K) er.sub (λx hx=>?_) (λy hy=>z2.mem_iff.mp hy) z1;obtain⟨p,hp⟩:=Paired.memL pr x hx;exact⟨p,hp⟩
   obtain⟨w1,w2⟩:=er.newList hp rr;exact h _ _ _ w1 w2
theorem qk0(gd:Gd U K ε k X L):qO X (.builtin "sum") (rC1 U K Ξ Gv Hv qm1):=by
 rintro pins st Z' H xs us Q I rs ⟨N,Z,G,Hb,r,x,hx,er,h1,h⟩;unfold qm1 at h
 cases e3:r.list? with
 |none=>rw[e3]at h;exact h.elim
 |some l=>
  rw[e3]at h;dsimp only at h
  cases e4:Qn l with
  |none=>rw[e4]at h;exact h.elim
  |some ns=>rw[e4]at h;obtain⟨a,ys,p1,p2,p3⟩:=h1.list er e3;rw[qaB p3 e4]at p2;exact qdp gd.calm pins st Z' H xs us Q I rs ⟨a,ns,by rw[hx,p1],by rw[gd.hK];exact p2,h _ G H (Po.refl er) (by simp![RvR,Rep])⟩
def qk1(gd:Gd U K ε k X L):qO X (.builtin "all") (rC1 U K Ξ Gv Hv qoq):=by rintro pins st Z' H xs us Q I rs ⟨N,Z,G,Hb,r,x,hx,er,h1,h⟩;exact h.elim
def qk2(gd:Gd U K ε k X L):qO X (.builtin "any") (rC1 U K Ξ Gv Hv qor):=by rintro pins st Z' H xs us Q I rs ⟨N,Z,G,Hb,r,x,hx,er,h1,h⟩;exact h.elim
def qk3:qO X (.type "str") (rC1 U K Ξ Gv Hv strD):=by rintro pins st Z' H xs us Q I rs ⟨N,Z,G,Hb,r,x,hx,er,h1,h⟩;exact ao h
def qfN(gd:Gd U K ε k X L):qO X (.type "tuple") (rC1 U K Ξ Gv Hv tupD):=by rintro pins st Z' H xs us Q I rs ⟨N,Z,G,Hb,r,x,hx,er,h1,h⟩;exact ao h
theorem qbq{G:Hp}:∀{l:List D} {xs:List V} {ps:List (Str×Int)},ql U G l xs->qeV l=some ps->bb (λx (p:Str×Int)=>∃a,x=V.ref a/\G a=some (.tup [.str p.1,.int p.2])) xs ps
 |[],xs,ps,r,h=>by simp![ql]at r;subst r;cases h;exact .nil
 | d::l,xs,ps,r,h=>by
  simp![ql]at r;obtain⟨x,us,rfl,r1,r2⟩:=r;unfold qeV at h
  cases e1:kvD d with
  |none=>rw[e1]at h;cases h
  |some p=>
   cases e2:qeV l with
   |none=>rw[e1,e2]at h;cases h
   |some qs=>
    rw[e1,e2]at h;cases h;refine .cons ?_ (qbq r2 e2)
    cases qkS e1
    simp![Rep,ql]at r1;obtain⟨a,ys,rfl,h1,x1,z1,rfl,rfl,x2,z2,rfl,rfl,rfl⟩:=r1;exact⟨a,rfl,h1⟩
theorem qfO{n:Int}{x y r:Rv}(h:qay n x y=.ok r):∃l kvs k,x.list?=some l/\qeV l=some kvs/\(kvs.map (·.1)).Nodup/\y.str?=some k/\r=.val (.int ((qip kvs k).getD n)):=by
 unfold qay at h
 cases e1:x.list? with
 |none=>rw[e1]at h;cases h
 |some l=>
  cases e2:y.str? with
  |none=>rw[e1,e2]at h;cases h
  |some k=>
   rw[e1,e2]at h;dsimp only at h
   cases e3:qeV l with
   |none=>rw[e3]at h;cases h
   |some kvs=>
    rw[e3]at h;dsimp only at h
    split at h
    ·rename_i nd;cases h;exact⟨l,kvs,k,rfl,e3,nd,rfl,rfl⟩
    ·cases h
theorem qdF(k:Str):∀kvs:List (Str×Int),qdq (kvs.map kvV) (.inr k)=(qip kvs k).map V.int
 |[]=>rfl
 | kv::l=>by
  have ih:=qdF k l;unfold qip at ih ⊢
  by_cases e:kv.1=k
  ·rw[av,Qd (show(kvV kv).1=.inr k by rw[<-e];rfl),dG,show decide (kv.1=k)=true from decide_eq_true e];rfl
  ·rw[av,Qe (show ¬ (kvV kv).1=.inr k fromλz=>e (by cases z;rfl)),dG,show decide (kv.1=k)=false from decide_eq_false e];exact ih
theorem qk4:qO X (.type "int") (rC1 U K Ξ Gv Hv intD):=by
 rintro pins st Z' H xs us Q I rs ⟨N,Z,G,Hb,r,x,hx,er,h1,h⟩;unfold intD at h
 cases e3:r.int? with
 |some i=>rw[e3]at h;exact Q9 pins st Z' H xs us Q I rs (.inl ⟨i,by rw[hx,h1.int e3],h _ G H (Po.refl er) (by simp![RvR,Rep])⟩)
 |none=>
  rw[e3]at h;dsimp only at h
  cases e4:r.bl? with
  |none=>rw[e4]at h;exact ao h
  |some b=>rw[e4]at h;exact Q9 pins st Z' H xs us Q I rs (.inr ⟨b,by rw[hx,h1.bl e4],h _ G H (Po.refl er) (by simp![RvR,Rep])⟩)
def qk5(gd:Gd U K ε k X L):qO X (.builtin "max") (rC2 U K Ξ Gv Hv maxD):=by rintro pins st Z' H xs us Q I rs ⟨N,Z,G,Hb,Hc,r,s,x,y,hx,er,h1,h2,h⟩;obtain⟨i,j,e1,e2,h⟩:=qaA h;exact qcU gd.calm pins st Z' H xs us Q I rs ⟨i,j,by rw[hx,h1.int e1,h2.int e2],h _ G H (Po.refl er) (by simp![RvR,Rep])⟩
def qk6(gd:Gd U K ε k X L):qO X (.builtin "min") (rC2 U K Ξ Gv Hv minD):=by rintro pins st Z' H xs us Q I rs ⟨N,Z,G,Hb,Hc,r,s,x,y,hx,er,h1,h2,h⟩;obtain⟨i,j,e1,e2,h⟩:=qaA h;exact qcV gd.calm pins st Z' H xs us Q I rs ⟨i,j,by rw[hx,h1.int e1,h2.int e2],h _ G H (Po.refl er) (by simp![RvR,Rep])⟩
theorem qfP(gd:Gd U K ε k X L){G H Hb:Hp}{N:Env}{Z:St}{r:Rv}{x:V}{b:Bool}(er:ER U K Gv Hv G H N Z)(h:RvR U K Hv Hb G H N Z r x)(e:truthD r=some b):qmY X.K x H b:=by
 have sq:∀{r:Rv},RvR U K Hv Hb G H N Z r x->(seqD r).map (λl=>!l.isEmpty)=some b->qmY X.K x H b:=λ{r} h e=>by
  obtain⟨l,e1,rfl⟩:=bF.mp e;obtain⟨a,xs,rfl,p2,p3⟩:=h.seq er e1
  have hl:(!l.isEmpty) = !xs.isEmpty:=by
   have:=p3.len
   cases l<;>cases xs<;>simp_all
  rw[hl,gd.hK];rcases p2 with p2|p2
  ·exact .inl ⟨xs,p2,rfl⟩
  ·exact .inr (.inl ⟨xs,p2,rfl⟩)
 cases r with
 |val d=>
  cases d with
  |non=>simp![RvR,Rep]at h;subst h;simp![truthD]at e;cases e;exact rfl
  |bl c=>simp![RvR,Rep]at h;subst h;simp![truthD]at e;cases e;exact rfl
  |int c=>simp![RvR,Rep]at h;subst h;simp![truthD]at e;cases e;exact rfl
  |str c=>
   simp![RvR,Rep]at h;subst h;simp![truthD]at e
   by_cases hz:c.length<=sizeLine
   ·rw[if_pos hz]at e;cases e;exact⟨hz,rfl⟩
   ·rw[if_neg hz]at e;cases e
  |lst l=>exact sq h e
  |tup l=>exact sq h e
  |ins c ns l=>exact sq h e
  |exc c ns l=>exact sq h e
  |dct ns l=>exact sq h e
 |tmp l=>exact sq h e
 |cell l=>exact sq h e
 |scr l=>exact sq h e
end
open PySem.Spec PyProof.Rows
structure All(U:KC)(K:Frag)(ε:XK)(k:Nat)(X:Cx)(L:Ct)(m:Nat):Prop where
 r:∀Gv Hv e x,cE m L e=some x->PE X e (tR U K ε Gv Hv (iR L.k x))
 e:∀Gv Hv e x,cX m L e=some x->PE X e (tE U K ε Gv Hv (jG x (iR L.k x)))
 t:∀Gv Hv e x,cT m L e=some x->PT X e (tT U K ε Gv Hv (iT L.k x))
 es:∀Gv Hv e x,cEs m L e=some x->PA X e (tEs U K ε Gv Hv (iEs L.k x))
 as:∀Gv Hv e x,cAs m L e=some x->PA X e (tAs U K ε Gv Hv (iAs L.k x))
 o:∀Gv Hv e x,cO m L e=some x->PO X e (tO U K ε Gv Hv (iO L.k x))
 f:∀Gv Hv e x,cF m L e=some x->PIf X e (tT U K ε Gv Hv (iF L.k x))
 l:∀Gv Hv e x,cL m L e=some x->PE X e (tL U K ε Gv Hv (yz x (iR L.k x)))
 i:∀Gv Hv tg e x,cI m L (qfG tg) e=some x->PI X tg e (tI U K ε Gv Hv (iI L.k x))
section
variable{U:KC}{ε:XK}{K:Frag}{Gv Hv:Hp}{k m:Nat}{X:Cx}{L:Ct}{x:E}
def qpz:All U K ε k X L 0:={ r:=(λ_ _ _ _ h=>nomatch h),e:=(λ_ _ _ _ h=>nomatch h),t:=(λ_ _ _ _ h=>nomatch h),es:=(λ_ _ _ _ h=>nomatch h),as:=(λ_ _ _ _ h=>nomatch h),o:=(λ_ _ _ _ h=>nomatch h),f:=(λ_ _ _ _ h=>nomatch h),l:=(λ_ _ _ _ h=>nomatch h),i:=(λ_ _ _ _ _ h=>nomatch h) }
theorem qbr(c:Const)(j:Nat)(pos:Pos)(h:qgV c=some x):PE X (.Constant c j pos) (tR U K ε Gv Hv (iR L.k x)):=by
 cases c with
 |none=>cases h;exact PE.imp qjD λZ H Q ⟨N,G,er,h⟩=>h _ G H (Po.refl er) (by simp![RvR,Rep])
 |bool b=>cases h;exact PE.imp qm9 λZ H Q ⟨N,G,er,h⟩=>h _ G H (Po.refl er) (by simp![RvR,Rep])
 |int b=>cases h;exact PE.imp Q4 λZ H Q ⟨N,G,er,h⟩=>h _ G H (Po.refl er) (by simp![RvR,Rep])
 |str b=>cases h;exact PE.imp qjE λZ H Q ⟨N,G,er,h⟩=>h _ G H (Po.refl er) (by simp![RvR,Rep])
 |_=>cases h
def qfQ(A:All U K ε k X L m)(a b:ae)(op:cq)(pos:Pos)(h:cE (m+1) L (.BinOp a op b pos)=some x):PE X (.BinOp a op b pos) (tR U K ε Gv Hv (iR L.k x)):=by obtain⟨a',b',h1,h2,rfl⟩:=qj h;refine PE.imp (qnk (qkW (Ξ:=XP U Gv Hv ε) (U:=U) (K:=K) (Gv:=Gv) (Hv:=Hv) op) (A.r Gv Hv _ _ h1) (A.r Gv Hv _ _ h2)) λZ H Q hq1=>?_;obtain⟨N,G,er,h⟩:=hq1;refine{N,G,er,Wx.mono (Wx.th (x:=iR L.k a' N) h) λx h v G1 H1 p1 r1=>{x.2,G1,p1.er,Wx.mono (Wx.th (x:=iR L.k b' x.2) h) λy h w G2 H2 p2 r2=>?_}};exact{y.2,Z,G2,H,H1,x.1,y.1,p2.er,r1.keep p2,r2,Wx.mono (Wx.th h) λz h u G3 H3 p3 r3=>h u G3 H3 (p1.trans (p2.trans p3)) (r3.back (p1.trans p2).hs)}
theorem qk7(A:All U K ε k X L m)(a:ae)(pos:Pos)(h:cE (m+1) L (.UnaryOp .USub a pos)=some x):PE X (.UnaryOp .USub a pos) (tR U K ε Gv Hv (iR L.k x)):=by
 obtain⟨a',h1,rfl⟩:=map_some h;refine PE.imp (qnl qjT (A.r Gv Hv _ _ h1)) λZ H Q hq1=>?_;obtain⟨N,G,er,h⟩:=hq1;refine{N,G,er,Wx.mono (Wx.th (x:=iR L.k a' N) h) λx h v G1 H1 p1 r1=>?_};obtain⟨rv,N1⟩:=x
 cases rv with
 |val d=>
  cases d with
  |int i=>exact{i,by simpa only[RvR,Rep] using r1,h _ G1 H1 p1 (by simp![RvR,Rep])}
  |_=>exact ao h
 |_=>exact ao h
theorem qiz(A:All U K ε k X L m)(a:ae)(pos:Pos)(h:cE (m+1) L (.UnaryOp .Not a pos)=some x):PE X (.UnaryOp .Not a pos) (tR U K ε Gv Hv (iR L.k x)):=by
 obtain⟨a',h1,rfl⟩:=map_some h;refine PE.imp (qjI (A.r Gv Hv _ _ h1)) λZ H Q hq1=>?_;obtain⟨N,G,er,h⟩:=hq1;refine{N,G,er,Wx.mono (Wx.th (x:=iR L.k a' N) h) λx h v G1 H1 p1 r1=>?_};obtain⟨rv,N1⟩:=x
 cases rv with
 |val d=>
  cases d with
  |bl i=>exact{i,by simpa only[RvR,Rep] using r1,h _ G1 H1 p1 (by simp![RvR,Rep])}
  |_=>exact ao h
 |_=>exact ao h
def qiA(gd:Gd U K ε k X L)(A:All U K ε k X L m)(a b:ae)(op:aR)(pos:Pos)(h:cE (m+1) L (.Compare a [op] [b] pos)=some x):PE X (.Compare a [op] [b] pos) (tR U K ε Gv Hv (iR L.k x)):=by obtain⟨hm,h⟩:=qk h;obtain⟨a',b',h1,h2,rfl⟩:=qj h;refine PE.imp (qhD (qbn (Gv:=Gv) (Hv:=Hv) gd op) (A.r Gv Hv _ _ h1) (A.r Gv Hv _ _ h2) (-hm:)) λZ H Q hq1=>?_;obtain⟨N,G,er,h⟩:=hq1;refine{N,G,er,Wx.mono (Wx.th (x:=iR L.k a' N) h) λx h v G1 H1 p1 r1=>{x.2,G1,p1.er,Wx.mono (Wx.th (x:=iR L.k b' x.2) h) λy h w G2 H2 p2 r2=>?_}};obtain⟨c,e,h⟩:=Wx.of (Wx.th h);exact{y.2,Z,G2,H,H1,x.1,y.1,c,p2.er,r1.keep p2,r2,e,h _ G2 H2 (p1.trans p2) (by simp![RvR,Rep])}
def qiB(gd:Gd U K ε k X L)(A:All U K ε k X L m)(a b:ae)(op:aR)(pos:Pos){x:T}(h:cT (m+1) L (.Compare a [op] [b] pos)=some x):PT X (.Compare a [op] [b] pos) (tT U K ε Gv Hv (iT L.k x)):=by obtain⟨hm,h⟩:=qk h;obtain⟨a',b',h1,h2,rfl⟩:=qj h;refine PT.imp (qhE (qbn (Gv:=Gv) (Hv:=Hv) gd op) (A.r Gv Hv _ _ h1) (A.r Gv Hv _ _ h2) (-hm:)) λZ H Q hq1=>?_;obtain⟨N,G,er,h⟩:=hq1;refine{N,G,er,Wx.mono (Wx.th (x:=iR L.k a' N) h) λx h v G1 H1 p1 r1=>{x.2,G1,p1.er,Wx.mono (Wx.th (x:=iR L.k b' x.2) h) λy h w G2 H2 p2 r2=>?_}};obtain⟨c,e,h⟩:=Wx.of (Wx.th h);exact{y.2,Z,G2,H,H1,x.1,y.1,c,p2.er,r1.keep p2,r2,e,c,rfl,h G2 H2 (p1.trans p2)}
theorem qdG(gd:Gd U K ε k X L)(A:All U K ε k X L m)(a b c:ae)(op op':aR)(pos:Pos){x:T}(h:cT (m+1) L (.Compare a [op,op'] [b,c] pos)=some x):PT X (.Compare a [op,op'] [b,c] pos) (tT U K ε Gv Hv (iT L.k x)):=by
 obtain⟨hm,h⟩:=qk h;obtain⟨a',q,h1,h2,rfl⟩:=qj h;obtain⟨b',c',h3,h4,rfl⟩:=qj h2;refine PT.imp (qe4 (qbn (Gv:=Gv) (Hv:=Hv) gd op) (qbn (Gv:=Gv) (Hv:=Hv) gd op') (A.r Gv Hv _ _ h1) (A.r Gv Hv _ _ h3) (A.r Gv Hv _ _ h4) (-hm:)) λZ H Q hq1=>?_;obtain⟨N,G,er,h⟩:=hq1;refine{N,G,er,Wx.mono (Wx.th (x:=iR L.k a' N) h) λx h v G1 H1 p1 r1=>{x.2,G1,p1.er,Wx.mono (Wx.th (x:=iR L.k b' x.2) h) λy h w G2 H2 p2 r2=>?_}};obtain⟨c1,e,h⟩:=Wx.of (Wx.th h);refine{y.2,Z,G2,H,H1,x.1,y.1,c1,p2.er,r1.keep p2,r2,e,c1,rfl,?_}
 cases c1 with
 |true=>rw[if_pos rfl]at h ⊢;refine{y.2,G2,p2.er,Wx.mono (Wx.th (x:=iR L.k c' y.2) h) λz h w' G3 H3 p3 r3=>?_};obtain⟨c2,e2,h⟩:=Wx.of (Wx.th h);exact{z.2,Z,G3,H1,H2,y.1,z.1,c2,p3.er,r2.keep p3,r3,e2,c2,rfl,h G3 H3 (p1.trans (p2.trans p3))}
 |false=>rw[if_neg (5:)]at h ⊢;exact{false,rfl,h G2 H2 (p1.trans p2)}
theorem qk8(A:All U K ε k X L m)(a b:ae)(l:List ae)(pos:Pos)(h:cE (m+1) L (.BoolOp .And (a::b::l) pos)=some x):PE X (.BoolOp .And (a::b::l) pos) (tR U K ε Gv Hv (iR L.k x)):=by
 obtain⟨a',b',h1,h2,rfl⟩:=qj h;refine PE.imp (qjH (A.r Gv Hv _ _ h1) (A.r Gv Hv _ _ h2)) λZ H Q hq1=>?_;obtain⟨N,G,er,h⟩:=hq1;refine{N,G,er,Wx.mono (Wx.th (x:=iR L.k a' N) h) λx h v G1 H1 p1 r1=>?_};obtain⟨rv,N1⟩:=x
 cases rv with
 |val d=>
  cases d with
  |bl c=>
   refine{c,by simpa only[RvR,Rep] using r1,?_}
   cases c with
   |true=>rw[if_pos rfl];exact{N1,G1,p1.er,Wx.mono h λy h w G2 H2 p2 r2=>h w G2 H2 (p1.trans p2) (r2.back p1.hs)}
   |false=>rw[if_neg (λz=>by cases z)];exact h _ G1 H1 p1 (by simp![RvR,Rep])
  |_=>exact ao h
 |_=>exact ao h
theorem qk9(A:All U K ε k X L m)(c a b:ae)(pos:Pos)(h:cE (m+1) L (.IfExp c a b pos)=some x):PE X (.IfExp c a b pos) (tR U K ε Gv Hv (iR L.k x)):=by
 obtain⟨c',q,h1,h2,rfl⟩:=qj h;obtain⟨a',b',h3,h4,rfl⟩:=qj h2;refine PE.imp (qeZ (A.t Gv Hv _ _ h1) (A.r Gv Hv _ _ h3) (A.r Gv Hv _ _ h4)) λZ H Q hq1=>?_;obtain⟨N,G,er,h⟩:=hq1;refine{N,G,er,Wx.mono (Wx.th (x:=iT L.k c' N) h) λx h G1 H1 p1=>?_};obtain⟨d,N1⟩:=x
 cases d with
 |true=>rw[if_pos rfl];exact{N1,G1,p1.er,Wx.mono h λy h w G2 H2 p2 r2=>h w G2 H2 (p1.trans p2) (r2.back p1.hs)}
 |false=>rw[if_neg (λz=>by cases z)];exact{N1,G1,p1.er,Wx.mono h λy h w G2 H2 p2 r2=>h w G2 H2 (p1.trans p2) (r2.back p1.hs)}
def qcs{b:ae}(h:∀lo hi st p,b≠.Slice lo hi st p):qc0 b:=λo i=>by cases b<;>first|rfl|exact absurd rfl (h _ _ _ _)
theorem qdH{G:Hp}{l:List D}{xs:List V}(r:ql U G l xs)(lo hi:Option Int)(n:Int):ql U G (Yw l lo hi n) (Qc xs lo hi (some n)):=by
 unfold Yw Qc;rw[r.len];generalize fW _ _ _=is
 induction is with
 |nil=>exact .nil
 |cons i is ih=>
  cases h:l[i]? with
  |none=>
   have h2:xs[i]?=none:=by rw[gX]at h ⊢;rw[<-r.len];exact h
   rw[cx,cx,h,h2];exact ih
  |some d=>obtain⟨v,h2,r2⟩:=r.atD h;rw[cx,cx,h,h2];exact .cons r2 ih
def qla{st:ae}{n:Int}(h:stN st=some n):2<=n/\∃j p,st=.Constant (.int n) j p:=by obtain⟨m,h1,h⟩:=qL h;obtain⟨j,p,rfl⟩:=qgS h1;obtain⟨hn,h⟩:=JF h;cases h;exact{hn,_,_,rfl}
def qlb(gd:Gd U K ε k X L)(A:All U K ε k X L m){a:ae}{lo hi:Option ae}{st:ae}(p pos:Pos)(h:((stN st).bind λn=>o2 (cE m L a) (o2 (cO m L lo) (cO m L hi) c8) λa p=>.stp n a p.1 p.2)=some x):PE X (.Subscript a (.Slice lo hi (some st) p) pos) (tR U K ε Gv Hv (iR L.k x)):=by obtain⟨n,hn,h6⟩:=qL h;clear h;obtain⟨h2,j,sp,rfl⟩:=qla hn;obtain⟨a',q,h1,h3,rfl⟩:=qj h6;obtain⟨l',u',h4,h5,rfl⟩:=qj h3;refine PE.imp (qdo (A.r Gv Hv _ _ h1) (A.o Gv Hv _ _ h4) (A.o Gv Hv _ _ h5) Q4) λZ H Q hq1=>?_;obtain⟨N,G,er,h⟩:=hq1;refine{N,G,er,Wx.mono (Wx.th (x:=iR L.k a' N) h) λx h v G1 H1 p1 r1=>{x.2,G1,p1.er,Wx.mono (Wx.th (x:=iO L.k l' x.2) h) λy h G2 H2 p2=>{y.2,G2,p2.er,Wx.mono (Wx.th (x:=iO L.k u' y.2) h) λz h G3 H3 p3=>?_}}};obtain⟨l,e1,h⟩:=Wx.of (Wx.th h);obtain⟨b,xs,rfl,q1,q2⟩:=((r1.keep p2).keep p3).list p3.er e1;refine{b,xs,n,Qc xs y.1 z.1 (some n),rfl,by rw[gd.hK];exact q1,rfl,by lia,qfm _ _ _ _,J0,λc hc=>?_};obtain⟨w1,w2⟩:=p3.er.newList hc (qdH q2 y.1 z.1 n);exact h _ _ _ (p1.trans (p2.trans (p3.trans w1))) (w2.back (p1.trans (p2.trans p3)).hs)
theorem qlc(gd:Gd U K ε k X L)(A:All U K ε k X L m)(a b:ae)(pos:Pos)(h:cE (m+1) L (.Subscript a b pos)=some x):PE X (.Subscript a b pos) (tR U K ε Gv Hv (iR L.k x)):=by
 have gen:(∀lo hi st p,b≠.Slice lo hi st p)->o2 (cE m L a) (cE m L b) .idx=some x->PE X (.Subscript a b pos) (tR U K ε Gv Hv (iR L.k x)):=λhb h=>by obtain⟨a',b',h1,h2,rfl⟩:=qj h;refine PE.imp (qns (qkX (Ξ:=XP U Gv Hv ε) (Gv:=Gv) (Hv:=Hv) gd) (A.r Gv Hv _ _ h1) (A.r Gv Hv _ _ h2) (qcs hb)) λZ H Q hq1=>?_;obtain⟨N,G,er,h⟩:=hq1;refine{N,G,er,Wx.mono (Wx.th (x:=iR L.k a' N) h) λx h v G1 H1 p1 r1=>{x.2,G1,p1.er,Wx.mono (Wx.th (x:=iR L.k b' x.2) h) λy h w G2 H2 p2 r2=>?_}};exact{y.2,Z,G2,H,H1,x.1,y.1,p2.er,r1.keep p2,r2,Wx.mono (Wx.th h) λz h u G3 H3 p3 r3=>h u G3 H3 (p1.trans (p2.trans p3)) (r3.back (p1.trans p2).hs)}
 cases b with
 |Slice lo hi st p=>
  cases st with
  |some st=>exact qlb gd A p pos h
  |none=>obtain⟨a',q,h1,h2,rfl⟩:=qj h;obtain⟨l',u',h3,h4,rfl⟩:=qj h2;refine PE.imp (qfe (qkY (Ξ:=XP U Gv Hv ε) (Gv:=Gv) (Hv:=Hv) gd) (A.r Gv Hv _ _ h1) (A.o Gv Hv _ _ h3) (A.o Gv Hv _ _ h4)) λZ H Q hq1=>?_;obtain⟨N,G,er,h⟩:=hq1;refine{N,G,er,Wx.mono (Wx.th (x:=iR L.k a' N) h) λx h v G1 H1 p1 r1=>{x.2,G1,p1.er,Wx.mono (Wx.th (x:=iO L.k l' x.2) h) λy h G2 H2 p2=>{y.2,G2,p2.er,Wx.mono (Wx.th (x:=iO L.k u' y.2) h) λz h G3 H3 p3=>?_}}};exact{z.2,Z,G3,H,x.1,p3.er,(r1.keep p2).keep p3,Wx.mono (Wx.th h) λu h w G4 H4 p4 r4=>h w G4 H4 (p1.trans (p2.trans (p3.trans p4))) (r4.back (p1.trans (p2.trans p3)).hs)}
 |_=>exact gen (λ_ _ _ _ z=>by cases z) h
def qld(A:All U K ε k X L m)(es:List ae)(pos:Pos)(h:cE (m+1) L (.List es pos)=some x):PE X (.List es pos) (tR U K ε Gv Hv (iR L.k x)):=by obtain⟨l,h1,rfl⟩:=map_some h;refine PE.imp (qj0 (A.es Gv Hv _ _ h1)) λZ H Q hq1=>?_;obtain⟨N,G,er,h⟩:=hq1;refine{N,G,er,Wx.mono (Wx.th (x:=iEs L.k l N) h) λx h vs G1 H1 p1 r1=>?_};obtain⟨hz,h⟩:=Wx.iff h;refine{by rw[<-r1.len];exact hz,λp hp=>?_};obtain⟨z1,z2⟩:=p1.er.newList hp r1;exact h _ _ _ (p1.trans z1) (z2.back p1.hs)
def qle(A:All U K ε k X L m)(es:List ae)(j:Nat)(pos:Pos)(h:cE (m+1) L (.Tuple es j pos)=some x):PE X (.Tuple es j pos) (tR U K ε Gv Hv (iR L.k x)):=by obtain⟨l,h1,rfl⟩:=map_some h;refine PE.imp (qjZ (A.es Gv Hv _ _ h1)) λZ H Q hq1=>?_;obtain⟨N,G,er,h⟩:=hq1;refine{N,G,er,Wx.mono (Wx.th (x:=iEs L.k l N) h) λx h vs G1 H1 p1 r1=>?_};obtain⟨hz,h⟩:=Wx.iff h;refine{by rw[<-r1.len];exact hz,λp hp=>?_};have z1:=Po.lay (o:=.tup vs) p1.er hp;refine h _ _ _ (p1.trans z1) ?_;simp![RvR,Rep];exact{p,vs,rfl,qf,r1.same z1.gs}
theorem qpA(gd:Gd U K ε k X L)(A:All U K ε k X L m)(e:ae)(x:E)(h:cX (m+1) L e=some x):PE X e (tE U K ε Gv Hv (jG x (iR L.k x))):=by
 have gen:(cE m L e).bind Qt=some x->PE X e (tE U K ε Gv Hv (jG x (iR L.k x))):=λh=>by
  obtain⟨y,h1,h2⟩:=dW.mp h;obtain⟨rfl,hv⟩:=zV h2;refine PE.imp (A.r Gv Hv _ _ h1) λZ H Q hq1=>?_;obtain⟨N,G,er,h⟩:=hq1;rw[qis hv]at h;refine{N,G,er,Wx.mono (Wx.th h) λx h v G1 H1 p1 r1=>?_};obtain⟨rv,N1⟩:=x
  cases rv with
  |val d=>exact h v G1 H1 p1 r1
  |tmp l=>obtain⟨a,xs,rfl,h1,h2,h3,h4,h5,h6⟩:=r1;have p2:=p1.freeze h1 h2 h3 h4 h5;refine h _ _ H1 p2 ?_;simp![Rep];exact{a,xs,rfl,qf,h6.same (qo.upd h4)}
  |_=>exact ao h
 cases e with
 |Name x pos=>exact qbl gd h pos
 |_=>exact gen h
theorem qnL(A:All U K ε k X L m):∀es x,cEs (m+1) L es=some x->PA X es (tEs U K ε Gv Hv (iEs L.k x))
 |[],_,h=>by cases h;exact PA.imp qv λZ H Q ⟨N,G,er,h⟩=>h [] G H (Po.refl er) .nil
 | e::l,_,h=>by obtain⟨hs,h⟩:=qk h;obtain⟨a',l',h1,h2,rfl⟩:=qj h;refine PA.imp (qi (A.e Gv Hv _ _ h1) (A.es Gv Hv _ _ h2) (qe (-hs:))) λZ H Q hq1=>?_;obtain⟨N,G,er,h⟩:=hq1;refine{N,G,er,Wx.mono (Wx.th (x:=jG a' (iR L.k a') N) h) λx h v G1 H1 p1 r1=>{x.2,G1,p1.er,Wx.mono (Wx.th (x:=iEs L.k l' x.2) h) λy h vs G2 H2 p2 r2=>?_}};exact h _ G2 H2 (p1.trans p2) (.cons (r1.same p2.gs) r2)
theorem qnM(A:All U K ε k X L m):∀es x,cAs (m+1) L es=some x->PA X es (tAs U K ε Gv Hv (iAs L.k x))
 |[],_,h=>by cases h;exact PA.imp qv λZ H Q ⟨N,G,er,h⟩=>h [] G H (Po.refl er) rfl
 | e::l,_,h=>by
  obtain⟨hs,h⟩:=qk h;obtain⟨a',l',h1,h2,rfl⟩:=qj h;refine PA.imp (qi (A.r Gv Hv _ _ h1) (A.as Gv Hv _ _ h2) (qe (-hs:))) λZ H Q hq1=>?_;obtain⟨N,G,er,h⟩:=hq1;refine{N,G,er,Wx.mono (Wx.th (x:=iR L.k a' N) h) λx h v G1 H1 p1 r1=>?_};have h:=Wx.th (x:=iAs L.k l' x.2) h;obtain⟨rv,N1⟩:=x
  cases rv with
  |val d=>exact{N1,G1,p1.er,Wx.mono h λy h vs G2 H2 p2 r2=>h _ G2 H2 (p1.trans p2) {v,vs,rfl,Rep.same p2.gs r1,r2}}
  |tmp ds=>obtain⟨a,xs,rfl,h1,h2,h3,h4,h5,h6⟩:=r1;have p1':=p1.freeze h1 h2 h3 h4 h5;refine{N1,_,p1'.er,Wx.mono h λy h vs G2 H2 p2 r2=>h _ G2 H2 (p1'.trans p2) {_,vs,rfl,?_,r2}};show Rep U G2 (.lst ds) (.ref a);simp![Rep];exact{a,xs,rfl,p2.gs _ _ qf,(h6.same (qo.upd h4)).same p2.gs}
  |cell ds=>obtain⟨a,xs,rfl,h1,h6⟩:=r1;exact{N1,G1,p1.er,Wx.mono h λy h vs G2 H2 p2 r2=>h _ G2 H2 (p1.trans p2) {_,vs,rfl,{a,xs,rfl,p2.hs _ _ h1,h6.same p2.gs},r2}}
  |scr ds=>obtain⟨a,xs,rfl,h1,h6⟩:=r1;exact{N1,G1,p1.er,Wx.mono h λy h vs G2 H2 p2 r2=>h _ G2 H2 (p1.trans p2) {_,vs,rfl,{a,xs,rfl,p2.hs.seq h1,h6.same p2.gs},r2}}
theorem qpB(A:All U K ε k X L m):∀o x,cO (m+1) L o=some x->PO X o (tO U K ε Gv Hv (iO L.k x))
 |none,_,h=>by cases h;exact PO.imp qhN λZ H Q ⟨N,G,er,h⟩=>h G H (Po.refl er)
 |some e,_,h=>by
  obtain⟨a',h1,rfl⟩:=map_some h;refine PO.imp (qhO (A.r Gv Hv _ _ h1)) λZ H Q hq1=>?_;obtain⟨N,G,er,h⟩:=hq1;refine{N,G,er,Wx.mono (Wx.th (x:=iR L.k a' N) h) λx h v G1 H1 p1 r1=>?_};obtain⟨rv,N1⟩:=x
  cases rv with
  |val d=>
   cases d with
   |int i=>exact{i,by simpa only[RvR,Rep] using r1,h G1 H1 p1}
   |_=>exact ao h
  |_=>exact ao h
theorem qpC(A:All U K ε k X L m):∀es x,cF (m+1) L es=some x->PIf X es (tT U K ε Gv Hv (iF L.k x))
 |[],_,h=>by cases h;exact PIf.imp qh7 λZ H Q ⟨N,G,er,h⟩=>h G H (Po.refl er)
 |[c],_,h=>by obtain⟨a',h1,rfl⟩:=map_some h;exact qh8 (A.t Gv Hv _ _ h1)
 | _::_::_,_,h=>by cases h
def qgZ:ae->Bool
 |.UnaryOp .Not _ _=>false
 |.BoolOp ..=>false
 |.IfExp ..=>false
 |.Compare ..=>false
 |_=>true
theorem qdI{e:ae}(h:qgZ e=true)(env:PySem.Env):∀whole,isTrue e env whole=(do let v<-whole;dZ e.pos;cJ [v] (truthy v)):=by
 intro whole
 cases e with
 |UnaryOp op a pos=>cases op<;>first|rfl|cases h
 |BoolOp=>cases h
 |IfExp=>cases h
 |Compare=>cases h
 |_=>rfl
theorem qpD(gd:Gd U K ε k X L)(A:All U K ε k X L m)(e:ae)(x:T)(h:cT (m+1) L e=some x):PT X e (tT U K ε Gv Hv (iT L.k x)):=by
 have gen:qgZ e=true->(cE m L e).map .val=some x->PT X e (tT U K ε Gv Hv (iT L.k x)):=λhp h=>by obtain⟨a',h1,rfl⟩:=map_some h;refine PT.imp (qe5 (A.r Gv Hv _ _ h1) (qdI hp X.env)) λZ H Q hq1=>?_;obtain⟨N,G,er,h⟩:=hq1;refine{N,G,er,Wx.mono (Wx.th (x:=iR L.k a' N) h) λx h v G1 H1 p1 r1=>?_};obtain⟨b,e1,h⟩:=Wx.of (Wx.th h);exact{b,qfP gd p1.er r1 e1,h G1 H1 p1}
 cases e with
 |UnaryOp op a pos=>
  cases op with
  |Not=>obtain⟨a',h1,rfl⟩:=map_some h;refine PT.imp (Q5 (A.t Gv Hv _ _ h1)) λZ H Q hq1=>?_;obtain⟨N,G,er,h⟩:=hq1;exact{N,G,er,Wx.mono (Wx.th (x:=iT L.k a' N) h) λx h G1 H1 p1=>h G1 H1 p1}
  |_=>exact gen rfl h
 |BoolOp op vs pos=>
  cases vs with
  |nil=>cases op<;>cases h
  |cons a vs=>
   cases vs with
   |nil=>
    cases op with
    |And=>obtain⟨a',h1,rfl⟩:=map_some h;exact PT.imp (PW.pt (qhw (A.t Gv Hv _ _ h1))) λZ H Q h=>h
    |Or=>obtain⟨a',h1,rfl⟩:=map_some h;exact PT.imp (PW.pt (qjF (A.t Gv Hv _ _ h1))) λZ H Q h=>h
   |cons b l=>
    cases op with
    |And=>
     obtain⟨a',b',h1,h2,rfl⟩:=qj h;intro pins s Z H Q I hw;obtain⟨N,G,er,h⟩:=hw;refine isTrue_and (thn (A.t Gv Hv _ _ h1 pins s Z H (λc H1=>if c=true then tT U K ε Gv Hv (iT L.k b') Z H1 Q else Q false H1) I ?_) λc s1 ⟨H1,I1,q1⟩=>?_)
     ·refine{N,G,er,Wx.mono (Wx.th (x:=iT L.k a' N) h) λx h G1 H1 p1=>?_};obtain⟨d,N1⟩:=x
      cases d with
      |true=>rw[if_pos rfl];exact{N1,G1,p1.er,Wx.mono h λy h G2 H2 p2=>h G2 H2 (p1.trans p2)}
      |false=>rw[if_neg (λz=>by cases z)];exact h G1 H1 p1
     ·cases c with
      |true=>exact A.t Gv Hv _ _ h2 pins s1 Z H1 Q I1 q1
      |false=>exact⟨H1,I1,q1⟩
    |Or=>
     obtain⟨a',b',h1,h2,rfl⟩:=qj h;intro pins s Z H Q I hw;obtain⟨N,G,er,h⟩:=hw;refine isTrue_or (thn (A.t Gv Hv _ _ h1 pins s Z H (λc H1=>if c=true then Q true H1 else tT U K ε Gv Hv (iT L.k b') Z H1 Q) I ?_) λc s1 ⟨H1,I1,q1⟩=>?_)
     ·refine{N,G,er,Wx.mono (Wx.th (x:=iT L.k a' N) h) λx h G1 H1 p1=>?_};obtain⟨d,N1⟩:=x
      cases d with
      |false=>rw[if_neg (λz=>by cases z)];exact{N1,G1,p1.er,Wx.mono h λy h G2 H2 p2=>h G2 H2 (p1.trans p2)}
      |true=>rw[if_pos rfl];exact h G1 H1 p1
     ·cases c with
      |true=>exact⟨H1,I1,q1⟩
      |false=>exact A.t Gv Hv _ _ h2 pins s1 Z H1 Q I1 q1
 |IfExp c a b pos=>cases h
 |Compare a ops bs pos=>
  match ops,bs,h with
  |[op],[b],h=>exact qiB gd A a b op pos h
  | [op,op'],[b,c],h=>exact qdG gd A a b c op op' pos h
  |[],[],h=>cases h
  | [],_::_,h=>cases h
  |[_],[],h=>cases h
  | [_],_::_::_,h=>cases h
  |[_,_],[],h=>cases h
  |[_,_],[_],h=>cases h
  | [_,_],_::_::_::_,h=>cases h
  | _::_::_::_,_,h=>cases h
 |_=>exact gen rfl h
end
section
variable{U:KC}{ε:XK}{K:Frag}{Gv Hv:Hp}{k m:Nat}{X:Cx}{L:Ct}
def qlf{tg l:ae}{tl:TE}(hl:PE X l tl):PI X tg l (λZ H R=>tl Z H λx H1=>(∃a,x=.ref a/\(((∃xs,SqL X.K H1 a xs)/\R (Itl X.K a) H1)\/((∃xs,SqT X.K H1 a xs)/\R (Itt X.K a) H1)))\/∃z,x=.str z/\R (Its z) H1):=by
 intro pins s Z H R I h;refine thn (hl pins s Z H _ I h) λv s1 hq1=>?_;obtain⟨x,H1,I1,r1,q1⟩:=hq1;rcases q1 with ⟨a,e,q⟩|⟨x,rfl,q⟩
 ·subst e;cases r1;rcases q with ⟨⟨xs,hq⟩,q⟩|⟨⟨xs,hq⟩,q⟩
  ·obtain⟨its,rv,p,hz⟩:=I1.list hq;refine ly p.isList ?_;refine{s1.heap.objs.size,[s1.heap.objs.size],_,_,H1,rfl,I1.kept (t':=s1.toks) λb o e=>aP _ e,qcP a _,{_,bg _ rfl,rfl,rfl},λb hb=>?_,q};have e:b=s1.heap.objs.size:=(-hb:)
   subst e;exact I1.fpOk (az _) (I1.hok.fresh (az _))
  ·obtain⟨its,rv,p,hz⟩:=I1.tuple hq;refine wpAny_pyIter_tuple (show s1.heap.IsTuple a its.toArray from p) ?_;refine{s1.heap.objs.size,[s1.heap.objs.size],_,_,H1,rfl,I1.kept (t':=s1.toks) λb o e=>aP _ e,qb3 a _,{_,bg _ rfl,rfl,rfl},λb hb=>?_,q};have e:b=s1.heap.objs.size:=(-hb:)
   subst e;exact I1.fpOk (az _) (I1.hok.fresh (az _))
 ·obtain⟨t,rfl⟩:=r1
  have fin:∀(T:String) (o:Obj),(T = "str_ascii_iterator"\/T = "str_iterator")->(∀A':aH,A'.handled=none->Walks X.prog X.w A' s1.heap.objs.size [s1.heap.objs.size] [s1.heap.objs.size] x.cps.size (SignAt x) (λi h=>h.IsStrIter s1.heap.objs.size T x t i))->
    (s1.heap.push o).IsStrIter s1.heap.objs.size T x t 0->PIE X pins Z tg R (.ref s1.heap.objs.size) { s1 with heap:=s1.heap.push o }:=λT o hT W st=>by
   refine{s1.heap.objs.size,[s1.heap.objs.size],_,_,H1,rfl,I1.kept (t':=s1.toks) λb o e=>aP _ e,qfq hT W,st,λb hb=>?_,q};have e:b=s1.heap.objs.size:=(-hb:)
   subst e;exact I1.fpOk (az _) (I1.hok.fresh (az _))
  cases ha:x.cps.all (· < 128)
  ·exact wpAny_pyIter_wide ha (fin _ _ (.inr rfl) (λA' hA=>Walks.strWide hA _ x t) ⟨_,bg _ rfl,rfl,rfl⟩)
  ·exact wpAny_pyIter_ascii ha (fin _ _ (.inl rfl) (λA' hA=>Walks.strAscii hA _ x t) ⟨_,bg _ rfl,rfl,rfl⟩)
theorem qfR(gd:Gd U K ε k X L){x:Str}{i:Nat}(hi:qeT L x=some i)(pos:Pos):PE X (.Name x pos) (tL U K ε Gv Hv (yz (.var i) (iR L.k (.var i)))):=by
 refine PE.imp (qbk gd hi pos) λZ H Q hq1=>?_;obtain⟨N,G,er,h⟩:=hq1;have h:Wx _ (slL N i) _:=h;unfold slL at h
 cases q:N[i]? with
 |none=>rw[q]at h;exact ao h
 |some s=>
  rw[q]at h;have w:=er.sl i s q
  cases s with
  |no=>exact ao h
  |val d=>
   obtain⟨v,z,r⟩:=w
   cases d with
   |lst l=>simp![Rep]at r;obtain⟨a,xs,rfl,r1,r2⟩:=r;exact{_,z,h _ G H (Po.refl er) {a,xs,rfl,r2,.inl r1}}
   |str y=>simp![Rep]at r;subst r;exact{_,z,h _ G H (Po.refl er) ⟨y,rfl,rfl⟩}
   |tup l=>simp![Rep]at r;obtain⟨a,xs,rfl,r1,r2⟩:=r;exact{_,z,h _ G H (Po.refl er) ⟨a,xs,rfl,r2,r1⟩}
   |_=>exact ao h
  |own l=>obtain⟨a,xs,z,p,r⟩:=er.froze q;simp![Rep]at r;obtain⟨a',xs',e,r1,r2⟩:=r;cases e;exact{_,z,h _ _ H p {a,xs',rfl,r2,.inl r1}}
  |bor l=>obtain⟨a,xs,z,r1,r4⟩:=w;exact{_,z,h _ G H (Po.refl er) {a,xs,rfl,r4,.inr (SqL.of r1)}}
  |scr l=>obtain⟨a,xs,z,r1,r4⟩:=w;exact{_,z,h _ G H (Po.refl er) {a,xs,rfl,r4,.inr r1}}
theorem qpE(gd:Gd U K ε k X L)(A:All U K ε k X L m)(e:ae)(x:E)(h:cL (m+1) L e=some x):PE X e (tL U K ε Gv Hv (yz x (iR L.k x))):=by
 have gen:(cE m L e).bind Qt=some x->PE X e (tL U K ε Gv Hv (yz x (iR L.k x))):=λh=>by
  obtain⟨y,h1,h2⟩:=dW.mp h;obtain⟨rfl,hv⟩:=zV h2;refine PE.imp (A.r Gv Hv _ _ h1) λZ H Q hq1=>?_;obtain⟨N,G,er,h⟩:=hq1;rw[qit hv]at h;refine{N,G,er,Wx.mono (Wx.th h) λx h v G1 H1 p1 r1=>?_};obtain⟨rv,N1⟩:=x
  cases rv with
  |val d=>
   cases d with
   |lst l=>simp![RvR,Rep]at r1;obtain⟨a,xs,rfl,q1,q2⟩:=r1;exact h _ G1 H1 p1 ⟨a,xs,rfl,q2,.inl q1⟩
   |str y=>simp![RvR,Rep]at r1;subst r1;exact h _ G1 H1 p1 ⟨y,rfl,rfl⟩
   |tup l=>simp![RvR,Rep]at r1;obtain⟨a,xs,rfl,q1,q2⟩:=r1;exact h _ G1 H1 p1 ⟨a,xs,rfl,q2,q1⟩
   |_=>exact ao h
  |tmp l=>obtain⟨a,xs,rfl,h1,h2,h3,h4,h5,h6⟩:=r1;exact h _ _ H1 (p1.freeze h1 h2 h3 h4 h5) ⟨a,xs,rfl,h6.same (qo.upd h4),.inl qf⟩
  |_=>exact ao h
 cases e with
 |Name x pos=>obtain⟨i,h1,rfl⟩:=map_some h;exact qfR gd h1 pos
 |_=>exact gen h
def qlg{G:Hp}{a:ad}{xs:List V}{l:List D}(h:G a=some (.lst xs)\/SqL K Hv a xs)(r:ql U G l xs):ItR U Hv G (Itl K a) l:=by
 intro i G1 H1 s1 s2 s3;have hq:SqL K H1 a xs:=h.elim (λz=>SqL.of (s3 _ _ (s1 _ _ z))) λz=>s2.seq z;refine{λd e=>?_,λe=>{xs,hq,by rw[<-r.len];lia}};obtain⟨v,e1,e2⟩:=r.atD e;refine{⟨xs,v,hq,e1⟩,λx H' ⟨z1,z2⟩=>{G1,by rw[z1];exactλ_ _ q=>q,λ_ _ q=>q,by rw[z1];exact s3,λ_ o q=>.inl ⟨o,q⟩,?_}}
 have:=z2 xs hq
 rw[e1]at this;cases this;exact e2.same s1
def qlh{G:Hp}{a:ad}{xs:List V}{l:List D}(h:G a=some (.lst xs)\/SqL K Hv a xs)(r:ql U G l xs):ItR U Hv G (Itv K a xs) l.reverse:=by
 intro i G1 H1 s1 s2 s3;have hq:SqL K H1 a xs:=h.elim (λz=>SqL.of (s3 _ _ (s1 _ _ z))) λz=>s2.seq z;have hl:=r.len;refine{λd e=>?_,λe=>{hq,by simp at e;lia}};have hi:i < l.length:=by simpa using (bJ.mp e).1
 rw[List.getElem?_reverse hi]at e;obtain⟨v,e1,e2⟩:=r.atD e;refine{{hq,by lia},λx H' ⟨z1,z2⟩=>{G1,by rw[z1];exactλ_ _ q=>q,λ_ _ q=>q,by rw[z1];exact s3,λ_ o q=>.inl ⟨o,q⟩,?_}};rw[<-hl,e1]at z2;cases z2;exact e2.same s1
def qli{G:Hp}{a:ad}{xs:List V}{l:List D}(h:G a=some (.tup xs))(r:ql U G l xs):ItR U Hv G (Itt K a) l:=by
 intro i G1 H1 s1 s2 s3;have hq:SqT K H1 a xs:=SqT.of (s3 _ _ (s1 _ _ h));refine{λd e=>?_,λe=>{xs,hq,by rw[<-r.len];lia}};obtain⟨v,e1,e2⟩:=r.atD e;refine{⟨xs,v,hq,e1⟩,λx H' ⟨z1,z2⟩=>{G1,by rw[z1];exactλ_ _ q=>q,λ_ _ q=>q,by rw[z1];exact s3,λ_ o q=>.inl ⟨o,q⟩,?_}}
 have:=z2 xs hq
 rw[e1]at this;cases this;exact e2.same s1
def qlj{G:Hp}{x:Str}:ItR U Hv G (Its x) (qfE x):=by
 intro i G1 H1 s1 s2 s3;have hl:(qfE x).length=x.cps.size:=by simp[qfE]
 refine{λd e=>?_,λe=>by rw[<-e,hl];rfl};unfold qfE at e;rw[bE]at e;obtain⟨c,e1,rfl⟩:=bF.mp e;rw[ml]at e1;refine{(bP.mp e1).1,λv H' ⟨z1,c',z2,z3⟩=>{G1,by rw[z1];exactλ_ _ q=>q,λ_ _ q=>q,by rw[z1];exact s3,λ_ o q=>.inl ⟨o,q⟩,?_}};rw[e1]at z2;cases z2;rw[z3];simp![Rep]
def qg0{G:Hp}{lo hi:Int}:ItR U Hv G (Itr lo (hi - lo).toNat) (zw lo hi):=by
 intro i G1 H1 s1 s2 s3;refine{λd e=>?_,λe=>?_}
 ·unfold zw at e;rw[bE]at e;obtain⟨j,e1,rfl⟩:=bF.mp e;obtain⟨h1,h2⟩:=bJ.mp e1;have hi':i < (hi - lo).toNat:=(-h1:)
  have hj:j=i:=by rw[<-h2];simp
  subst hj;refine{hi',λx H' ⟨z1,z2⟩=>{G1,by rw[z1];exactλ_ _ q=>q,λ_ _ q=>q,by rw[z1];exact s3,λ_ o q=>.inl ⟨o,q⟩,?_}};rw[z2];simp![Rep]
 ·have hl:(zw lo hi).length=(hi - lo).toNat:=by simp![zw,aD,kG]
  show(hi - lo).toNat<=i
  lia
def qdJ{G H:Hp}{T:ad}{x y:V}{d e:D}(sub:qo G H)(hT:H T=none)(hx:Rep U G d x)(hy:Rep U G e y) :
  ∃G',qo H (upd H T (.tup [x,y]))/\qo G G'/\qo G' (upd H T (.tup [x,y]))/\(∀a o,G' a=some o->(∃o',G a=some o')\/H a=none)/\Rep U G' (.tup [d,e]) (.ref T):=by
 have gT:G T=none:=qo.none sub hT;have gs:qo G (upd G T (.tup [x,y])):=qo.upd gT;refine{upd G T (.tup [x,y]),qo.upd hT,gs,λb u q=>?_,λb u q=>?_,?_}
 ·by_cases hb:b=T
  ·subst hb;rw[qf]at q ⊢;exact q
  ·rw[qd hb]at q ⊢;exact sub b u q
 ·by_cases hb:b=T
  ·subst hb;exact .inr hT
  ·rw[qd hb]at q;exact .inl ⟨u,q⟩
 ·simp![Rep];exact{T,_,rfl,qf,.cons (hx.same gs) %[hy.same gs|0]}
def qlk{G:Hp}{a:ad}{xs:List V}{l:List D}(h:G a=some (.lst xs)\/SqL K Hv a xs)(r:ql U G l xs):ItR U Hv G (Ite K a) (J2 l):=by
 intro i G1 H1 s1 s2 s3;have hq:SqL K H1 a xs:=h.elim (λz=>SqL.of (s3 _ _ (s1 _ _ z))) λz=>s2.seq z;have hlen:(J2 l).length=l.length:=by simp[J2]
 refine{λd e=>?_,λe=>{xs,hq,by rw[<-r.len];lia}};have hi:i < l.length:=by rw[<-hlen];exact(bJ.mp e).1
 have e0:(J2 l)[i]?=some (.tup [.int i,l[i]]):=by unfold J2;rw[mF];simp[hi]
 rw[e0]at e;cases e;obtain⟨v,e1,e2⟩:=r.atD (bK hi);refine{⟨xs,v,hq,e1⟩,λx H' z=>?_};obtain⟨T,x',rfl,hT,rfl,z2⟩:=z
 have:=z2 xs hq
 rw[e1]at this;cases this;exact qdJ s3 hT (by simp![Rep]) (e2.same s1)
def qll{G:Hp}{a b:ad}{xs ys:List V}{l n:List D}(h:G a=some (.lst xs)\/SqL K Hv a xs)(r:ql U G l xs)(h':G b=some (.lst ys)\/SqL K Hv b ys)(r':ql U G n ys):ItR U Hv G (Itz K a b) (YI l n):=by
 intro i G1 H1 s1 s2 s3;have hq:SqL K H1 a xs:=h.elim (λz=>SqL.of (s3 _ _ (s1 _ _ z))) λz=>s2.seq z;have hq':SqL K H1 b ys:=h'.elim (λz=>SqL.of (s3 _ _ (s1 _ _ z))) λz=>s2.seq z;have hlen:(YI l n).length=min l.length n.length:=by simp[YI]
 have l1:=r.len;have l2:=r'.len;refine{λd e=>?_,λe=>{xs,ys,hq,hq',by lia}};have hi:i < min l.length n.length:=by rw[<-hlen];exact(bJ.mp e).1
 have i1:i < l.length:=by lia
 have i2:i < n.length:=by lia
 have e0:(YI l n)[i]?=some (.tup [l[i],n[i]]):=by unfold YI;rw[mF];simp[i1,i2]
 rw[e0]at e;cases e;obtain⟨v,e1,e2⟩:=r.atD (bK i1);obtain⟨w,e3,e4⟩:=r'.atD (bK i2);refine{⟨xs,ys,v,w,hq,hq',e1,e3⟩,λx H' z=>?_};obtain⟨T,x',y',rfl,hT,rfl,z2⟩:=z;obtain⟨z3,z4⟩:=z2 xs ys hq hq';rw[e1]at z3;rw[e3]at z4;cases z3;cases z4;exact qdJ s3 hT (e2.same s1) (e4.same s1)
def J3{i:Int}(h:qR i=true):-(2 ^ 62)<=i/\i < 2 ^ 62:=by
 unfold qR at h
 simpa [aG] using h
theorem qfS(gd:Gd U K ε k X L)(A:All U K ε k X L m)(tg e:ae)(x:I)(h:(cL m L e).map .seq=some x):PI X tg e (tI U K ε Gv Hv (iI L.k x)):=by
 obtain⟨a',h1,rfl⟩:=map_some h;refine PI.imp (qlf (A.l Gv Hv _ _ h1)) λZ H Q hq1=>?_;obtain⟨N,G,er,h⟩:=hq1;refine{N,G,er,Wx.mono (Wx.th (x:=yz a' (iR L.k a') N) h) λx h v G1 H1 p1 r1=>?_};obtain⟨⟨b,l⟩,N1⟩:=x
 cases b with
 |str=>obtain⟨y,rfl,rfl⟩:=r1;exact .inr ⟨y,rfl,h _ G1 H1 p1 qlj⟩
 |tup=>obtain⟨a,xs,rfl,r2,r3⟩:=r1;exact .inl ⟨a,rfl,.inr ⟨⟨xs,SqT.of (p1.er.sub _ _ r3)⟩,h _ G1 H1 p1 (by rw[gd.hK];exact qli r3 r2)⟩⟩
 |lst=>obtain⟨a,xs,rfl,r2,r3⟩:=r1;refine .inl ⟨a,rfl,.inl ⟨⟨xs,?_⟩,h _ G1 H1 p1 (by rw[gd.hK];exact qlg r3 r2)⟩⟩;rw[gd.hK];exact r3.elim (λz=>SqL.of (p1.er.sub _ _ z)) λz=>p1.er.base.seq z
def qbs{a b:ae}{env:PySem.Env}(h1:qw a=false)(h2:qw b=false):aI [a,b] env=[(false,eval a env),(false,eval b env)]:=by rw[qe h1,qe h2];rfl
def qdK{G H:Hp}{N:Env}{Z:L2.St}{a:ad}{xs:List V}(gd:Gd U K ε k X L)(er:ER U K Gv Hv G H N Z)(r:G a=some (.lst xs)\/SqL K Hv a xs):∃xs,SqL X.K H a xs:=by rw[gd.hK];exact{xs,r.elim (λz=>SqL.of (er.sub _ _ z)) λz=>er.base.seq z}
def qiC(gd:Gd U K ε k X L)(A:All U K ε k X L m)(tg a:ae)(f:Str)(p q:Pos)(x:I)(hg:Gl X f)(h:oif (!qw a) (if f = "range" then (cE m L a).map .rng else if f = "enumerate" then oif (qfG tg) ((cL m L a).map .enum) else if f = "reversed" then (cL m L a).map .rev else none)=some x) :
  PI X tg (.Call (.Name f p) [a] [] q) (tI U K ε Gv Hv (iI L.k x)):=by
 obtain⟨hs,h⟩:=qk h;have hs:qw a=false:=(-hs:)
 by_cases h1:f = "range"
 ·subst h1;rw[if_pos rfl]at h;obtain⟨a',h1,rfl⟩:=map_some h;refine PI.imp (qcQ hg (gd.blt _ (2:)) (qi (A.r Gv Hv _ _ h1) qv (qe hs)) (qe hs)) λZ H Q hq1=>?_;obtain⟨N,G,er,h⟩:=hq1;refine{N,G,er,Wx.mono (Wx.th (x:=iR L.k a' N) h) λx h v G1 H1 p1 r1=>?_}
  cases e1:x.1.int? with
  |none=>rw[e1]at h;exact ao h
  |some n=>
   rw[e1]at h;obtain⟨hz,h⟩:=Wx.iff h;obtain⟨z1,z2⟩:=J3 hz;refine{n,by rw[r1.int e1],z1,z2,h _ G1 H1 p1 ?_}
   have:=qg0 (U:=U) (Hv:=Hv) (G:=G1) (lo:=0) (hi:=n)
   rw[fG]at this;exact this
 rw[if_neg h1]at h
 by_cases h2:f = "enumerate"
 ·subst h2;rw[if_pos rfl]at h;obtain⟨ht,h⟩:=qk h;obtain⟨a',h1,rfl⟩:=map_some h
  cases tg with
  |Tuple es j tp=>
   refine PI.imp (qie hg (gd.blt _ (2:)) (qi (A.l Gv Hv _ _ h1) qv (qe hs)) (qe hs)) λZ H Q hq1=>?_;obtain⟨N,G,er,h⟩:=hq1;refine{N,G,er,Wx.mono (Wx.th (x:=yz a' (iR L.k a') N) h) λx h v G1 H1 p1 r1=>?_};obtain⟨⟨b,l⟩,N1⟩:=x
   cases b with
   |lst=>obtain⟨c,xs,rfl,r2,r3⟩:=r1;exact{c,rfl,qdK gd p1.er r3,h _ G1 H1 p1 (by rw[gd.hK];exact qlk r3 r2)}
   |_=>exact ao h
  |_=>cases ht
 rw[if_neg h2]at h
 by_cases h3:f = "reversed"
 ·subst h3;rw[if_pos rfl]at h;obtain⟨a',h1,rfl⟩:=map_some h;refine PI.imp (qkC hg (gd.blt _ (2:)) (qi (A.l Gv Hv _ _ h1) qv (qe hs)) (qe hs)) λZ H Q hq1=>?_;obtain⟨N,G,er,h⟩:=hq1;refine{N,G,er,Wx.mono (Wx.th (x:=yz a' (iR L.k a') N) h) λx h v G1 H1 p1 r1=>?_};obtain⟨⟨b,l⟩,N1⟩:=x
  cases b with
  |lst=>obtain⟨c,xs,rfl,r2,r3⟩:=r1;refine{c,xs,rfl,?_,h _ G1 H1 p1 (by rw[gd.hK];exact qlh r3 r2)};rw[gd.hK];exact r3.elim (λz=>SqL.of (p1.er.sub _ _ z)) λz=>p1.er.base.seq z
  |_=>exact ao h
 rw[if_neg h3]at h;cases h
def qiD(gd:Gd U K ε k X L)(A:All U K ε k X L m)(tg a b:ae)(f:Str)(p q:Pos)(x:I)(hg:Gl X f)(h:oif (!(qw a||qw b)) (if f = "range" then o2 (cE m L a) (cE m L b) .rng2 else if f = "zip" then oif (qfG tg) (o2 (cL m L a) (cL m L b) .zip) else none)=some x) :
  PI X tg (.Call (.Name f p) [a,b] [] q) (tI U K ε Gv Hv (iI L.k x)):=by
 obtain⟨hs,h⟩:=qk h;have hs:(qw a||qw b)=false:=(-hs:)
 rw[eW]at hs;obtain⟨s1,s2⟩:=hs
 by_cases h1:f = "range"
 ·subst h1;rw[if_pos rfl]at h;obtain⟨a',b',h1,h2,rfl⟩:=qj h;refine PI.imp (qcR hg (gd.blt _ (2:)) (qi (A.r Gv Hv _ _ h1) (qi (A.r Gv Hv _ _ h2) qv (qe s2)) (qe s1)) (qbs s1 s2) (qe s2)) λZ H Q hq1=>?_;obtain⟨N,G,er,h⟩:=hq1;refine{N,G,er,Wx.mono (Wx.th (x:=iR L.k a' N) h) λx h v G1 H1 p1 r1=>{x.2,G1,p1.er,Wx.mono (Wx.th (x:=iR L.k b' x.2) h) λy h w G2 H2 p2 r2=>?_}}
  cases e1:x.1.int? with
  |none=>rw[e1]at h;exact ao h
  |some i=>
   cases e2:y.1.int? with
   |none=>rw[e1,e2]at h;exact ao h
   |some j=>rw[e1,e2]at h;obtain⟨hz,h⟩:=Wx.iff h;obtain⟨z1,z2⟩:=J3 hz.1;obtain⟨z3,z4⟩:=J3 hz.2;exact{i,j,by rw[r1.int e1,r2.int e2],⟨z1,z2,z3,z4⟩,h _ G2 H2 (p1.trans p2) qg0}
 rw[if_neg h1]at h
 by_cases h2:f = "zip"
 ·subst h2;rw[if_pos rfl]at h;obtain⟨ht,h⟩:=qk h;obtain⟨a',b',h1,h2,rfl⟩:=qj h
  cases tg with
  |Tuple es j tp=>
   refine PI.imp (qkA hg (gd.blt _ (2:)) (qi (A.l Gv Hv _ _ h1) (qi (A.l Gv Hv _ _ h2) qv (qe s2)) (qe s1)) (qbs s1 s2) (qe s2)) λZ H Q hq1=>?_;obtain⟨N,G,er,h⟩:=hq1;refine{N,G,er,Wx.mono (Wx.th (x:=yz a' (iR L.k a') N) h) λx h v G1 H1 p1 r1=>{x.2,G1,p1.er,Wx.mono (Wx.th (x:=yz b' (iR L.k b') x.2) h) λy h w G2 H2 p2 r2=>?_}};obtain⟨⟨bx,l⟩,N1⟩:=x;obtain⟨⟨by',n⟩,N2⟩:=y
   cases bx with
   |lst=>
    cases by' with
    |lst=>obtain⟨c,xs,rfl,r3,r4⟩:=r1;obtain⟨d,ys,rfl,r5,r6⟩:=r2;have r4':G2 c=some (.lst xs)\/SqL K Hv c xs:=r4.imp (λz=>p2.gs _ _ z) id;exact{c,d,rfl,qdK gd p2.er r4',qdK gd p2.er r6,h _ G2 H2 (p1.trans p2) (by rw[gd.hK];exact qll r4' (r3.same p2.gs) r6 r5)}
    |_=>exact ao h
   |_=>exact ao h
  |_=>cases ht
 rw[if_neg h2]at h;cases h
theorem qpF(gd:Gd U K ε k X L)(A:All U K ε k X L m)(tg e:ae)(x:I)(h:cI (m+1) L (qfG tg) e=some x):PI X tg e (tI U K ε Gv Hv (iI L.k x)):=by
 cases e with
 |Call fn es kws q=>
  cases fn with
  |Name f p=>
   cases kws with
   |nil=>
    have h:(if (decide (f = "range")||decide (f = "enumerate")||decide (f = "zip")||decide (f = "reversed"))=true then _ else _)=some x:=h
    by_cases hf:(decide (f = "range")||decide (f = "enumerate")||decide (f = "zip")||decide (f = "reversed"))=true
    ·rw[if_pos hf]at h;obtain⟨hn,h⟩:=qk h;simp![aG]at hn;have hg:=gd.glo _ hn.1.2
     match es,h with
     |[a],h=>exact qiC gd A tg a f p q x hg h
     |[a,b],h=>exact qiD gd A tg a b f p q x hg h
     |[_,_,_],h=>cases h
     |[],h=>cases h
     | _::_::_::_::_,h=>cases h
    ·rw[if_neg hf]at h;exact qfS gd A tg _ x h
   |cons kw kws=>exact qfS gd A tg _ x h
  |_=>exact qfS gd A tg _ x h
 |_=>exact qfS gd A tg _ x h
end
section
variable{U:KC}{ε:XK}{K:Frag}{Gv Hv:Hp}{k m:Nat}{X:Cx}{L:Ct}{x:E}
theorem ZE:∀{m:Nat} {es:List ae} {l:Es},cAs m L es=some l->es.any qw=false
 |0,_,_,h=>nomatch h
 | m+1,[],_,_=>rfl
 | m+1,e::es,_,h=>by
  obtain⟨hs,h⟩:=qk h;obtain⟨a,b,_,h2,_⟩:=qj h;rw[eM,ZE h2,ki]
  simpa using hs
def qaC{m:Nat}{l:Es}(h:cAs m L []=some l):l=.nil:=by
 cases m<;>cases h
 rfl
theorem ji{env:PySem.Env}{pos:Pos}:∀{es:List ae},es.any qw=false->(bu pos (aI es env)).any (·.1)=false
 |[],_=>rfl
 | e::l,h=>by simp![eM,eW]at h;rw[qe h.1];show(false||(bu pos (aI l env)).any (·.1))=false;rw[ji h.2];rfl
def XP.call{G H G1 H1:Hp}{N N1:Env}{Z:L2.St}(p:Po U K Gv Hv Z G H N G1 H1 N1):∀c l,XP U Gv Hv ε c l->XP U G1 H1 ε c l:=λc l h od G' H' h1 g1 s n x=>
 h od G' H' (λb o q=>h1 b o (p.er.base b o q)) (λb o q=>g1 b o (p.er.g0 b o q)) s (λa o q=>by
  rcases n a o q with ⟨o',z⟩|z
  ·exact p.er.fresh a o' z
  ·exact .inr (qo.none p.er.base z)) x
theorem ReR.rv{G H G1 H1 G2 H2:Hp}{N N1:Env}{Z:L2.St}{r:Rv}{v:V}(p:Po U K Gv Hv Z G H N G1 H1 N1)(hs:qo H1 H2)(gs:qo G1 G2)(sub:qo G2 H2)(new:∀a o,G2 a=some o->(∃o',G1 a=some o')\/H1 a=none)(h:ReR U G2 H2 H1 r v) :
  Po U K Gv Hv Z G H N G2 H2 N1/\RvR U K Hv H G2 H2 N1 Z r v:=by
 refine{p.trans (Po.more p.er hs gs sub new),?_}
 cases r with
 |val d=>exact h
 |tmp ds=>obtain⟨a,xs,rfl,h1,h2,h3,h4⟩:=h;exact{a,xs,rfl,h1,qo.none p.hs h2,qo.none p.er.base h2,h3,p.er.notOwn h2,h4}
 |cell ds=>exact ao h
 |scr ds=>exact ao h
theorem qfT(gd:Gd U K ε k X L)(A:All U K ε k X L m)(f:Str)(es:List ae)(p q:Pos)(hok:zU f=true)(hgl:glB L.sc f=true)(ht:L.tab.contains f=true)(h:(cAs m L es).map (.call f)=some x):PE X (.Call (.Name f p) es [] q) (tR U K ε Gv Hv (iR L.k x)):=by
 obtain⟨l',h1,rfl⟩:=map_some h;have hs:=ZE h1;obtain⟨fa,fd,ps,F,hm,hk,hb⟩:=gd.fns f ht;obtain⟨n1,n2,n3⟩:=jK hok
 have key:∀Z H Q,tR U K ε Gv Hv (iR L.k (.call f l')) Z H Q->qe9 (spF U K L.cl f) [] ε (tAs U K ε Gv Hv (iAs L.k l')) Z H Q:=λZ H Q ⟨N,G,er,h⟩=>by refine{N,G,er,Wx.mono (Wx.th (x:=iAs L.k l' N) h) λx h vs G1 H1 p1 r1=>?_};show spF U K L.cl f (vs++[]) H1 Q ε;rw[dD];refine{G1,x.1,p1.er.sub,r1,Wx.mono2 (Wx.th h) (XP.call p1) λr h v G2 H2 hs gs sub new rr=>?_};obtain⟨z1,z2⟩:=ReR.rv p1 hs gs sub new rr;exact h v G2 H2 z1 z2
 cases es with
 |nil=>cases qaC h1;refine PE.imp (qfa F gd.room (gd.glo f hgl) hm hk hb .nil gd.ps n1) λZ H Q h=>?_;obtain⟨N,G,er,h⟩:=key Z H Q h;exact h [] G H (Po.refl er) rfl
 |cons e l=>simp![eM,eW]at hs;exact PE.imp (yY F gd.room (gd.glo f hgl) hm hk hb .nil gd.ps (A.as Gv Hv _ _ h1) n1 (qe hs.1) (ji hs.2)) key
def qfU(gd:Gd U K ε k X L)(A:All U K ε k X L m)(f:Str)(a:ae)(p q:Pos)(hgl:glB L.sc f=true)(h:oif (!qw a) (o2 (qnH f) (cE m L a) E.b1)=some x):PE X (.Call (.Name f p) [a] [] q) (tR U K ε Gv Hv (iR L.k x)):=by
 obtain⟨hs,h⟩:=qk h;have s1:qw a=false:=(-hs:)
 obtain⟨y,a',h1,h2,rfl⟩:=qj h
 have key:∀Z H Q,tR U K ε Gv Hv (iR L.k (.b1 y a')) Z H Q->tCB (rC1 U K (XP U Gv Hv ε) Gv Hv y.go) (qe8 (tR U K ε Gv Hv (iR L.k a')) qjq) Z H Q:=λZ H Q ⟨N,G,er,h⟩=>{N,G,er,Wx.mono (Wx.th (x:=iR L.k a' N) h) λx h v G1 H1 p1 r1=>{x.2,Z,G1,H,x.1,v,rfl,p1.er,r1,Wx.mono (Wx.th h) λz h u G2 H2 p2 r2=>h u G2 H2 (p1.trans p2) (r2.back p1.hs)}}
 have pa:=qi (A.r Gv Hv _ _ h2) qv (qe s1);unfold qnH at h1
 split at h1
 ·rename_i e;cases h1;subst e;exact PE.imp (qP (qkZ (Ξ:=XP U Gv Hv ε) (Gv:=Gv) (Hv:=Hv) gd) (gd.glo _ hgl) (gd.blt _ (2:)) PySem.boot_len pa (2:) (2:) (qe s1) rfl) key
 split at h1
 ·rename_i e;cases h1;subst e;exact PE.imp (qE (qiy (Ξ:=XP U Gv Hv ε) (Gv:=Gv) (Hv:=Hv) gd) (gd.glo _ hgl) (gd.blt _ (2:)) f6 pa (2:) (2:) (qe s1) rfl) key
 split at h1
 ·rename_i e;cases h1;subst e;exact PE.imp (qE (qk4 (Ξ:=XP U Gv Hv ε) (U:=U) (K:=K) (Gv:=Gv) (Hv:=Hv)) (gd.glo _ hgl) (gd.blt _ (2:)) lR pa (2:) (2:) (qe s1) rfl) key
 split at h1
 ·rename_i e;cases h1;subst e;exact PE.imp (qP (qdE (Ξ:=XP U Gv Hv ε) (Gv:=Gv) (Hv:=Hv) gd) (gd.glo _ hgl) (gd.blt _ (2:)) lS pa (2:) (2:) (qe s1) rfl) key
 split at h1
 ·rename_i e;cases h1;subst e;exact PE.imp (qP (qk0 (Ξ:=XP U Gv Hv ε) (Gv:=Gv) (Hv:=Hv) gd) (gd.glo _ hgl) (gd.blt _ (2:)) PyProof.Rows.boot_sum pa (2:) (2:) (qe s1) rfl) key
 split at h1
 ·rename_i e;cases h1;subst e;exact PE.imp (qP (qk1 (Ξ:=XP U Gv Hv ε) (Gv:=Gv) (Hv:=Hv) gd) (gd.glo _ hgl) (gd.blt _ (2:)) PyProof.Rows.boot_all pa (2:) (2:) (qe s1) rfl) key
 split at h1
 ·rename_i e;cases h1;subst e;exact PE.imp (qE (qk3 (Ξ:=XP U Gv Hv ε) (U:=U) (K:=K) (Gv:=Gv) (Hv:=Hv)) (gd.glo _ hgl) (gd.blt _ (2:)) lT pa (2:) (2:) (qe s1) rfl) key
 split at h1
 ·rename_i e;cases h1;subst e;exact PE.imp (qE (qfN (Ξ:=XP U Gv Hv ε) (Gv:=Gv) (Hv:=Hv) gd) (gd.glo _ hgl) (gd.blt _ (2:)) i4 pa (2:) (2:) (qe s1) rfl) key
 split at h1
 ·rename_i e;cases h1;subst e;exact PE.imp (qP (qk2 (Ξ:=XP U Gv Hv ε) (Gv:=Gv) (Hv:=Hv) gd) (gd.glo _ hgl) (gd.blt _ (2:)) PyProof.Rows.boot_any pa (2:) (2:) (qe s1) rfl) key
 cases h1
def qlm{f:Str}{a:ae}{t:ae×ae}(h:lrE L f a=some t):f = "list"/\∃p q,a=.Call (.Name "range" p) [t.1,t.2] [] q/\glB L.sc "range" = true/\qw t.1=false/\qw t.2=false:=by obtain⟨t',e,h⟩:=qL h;obtain⟨p,q,ea⟩:=qdz e;obtain⟨r,e2,h⟩:=qL h;have e2:=Qq (qot t'.2) e2;obtain⟨⟨h0,h4,h1,h2,h3⟩,h⟩:=JF h;cases h;exact{h0,p,q,by rw[ea,e2,h4],h1,h2,h3}
def qln{x y r:Rv}(h:lrD x y=.ok r):∃i j,x.int?=some i/\y.int?=some j/\ZC i=true/\ZC j=true/\(j - i).toNat<=10000/\r=.tmp (zw i j):=by
 unfold lrD at h
 split at h
 ·rename_i i j e1 e2
  split at h
  ·rename_i hc;cases h;exact⟨i,j,e1,e2,hc.1,hc.2.1,hc.2.2,rfl⟩
  ·cases h
 ·cases h
theorem qiE(G:Hp)(i:Int)(l:List Nat):ql U G (l.map λk:Nat=>D.int (i+k)) (l.map λk:Nat=>V.int (i+k)):=by
 induction l with
 |nil=>exact .nil
 |cons k l ih=>exact .cons (by simp![Rep]) ih
theorem qnN(gd:Gd U K ε k X L)(A:All U K ε k X L m)(f:Str)(a:ae)(p q:Pos)(hgl:glB L.sc f=true){t:ae×ae}(ht:lrE L f a=some t)(h:o2 (cE m L t.1) (cE m L t.2) (.b2 .rng)=some x):PE X (.Call (.Name f p) [a] [] q) (tR U K ε Gv Hv (iR L.k x)):=by
 obtain⟨a',b',h1,h2,rfl⟩:=qj h;obtain⟨rfl,p',q',rfl,hg,s1,s2⟩:=qlm ht;refine PE.imp (qE (qcj gd.calm) (gd.glo _ hgl) (gd.blt _ (2:)) f6 (qi (qE qds (gd.glo _ hg) (gd.blt _ (2:)) PyProof.Rows.boot_range (qi (A.r Gv Hv _ _ h1) (qi (A.r Gv Hv _ _ h2) qv (qe s2)) (qe s1)) (2:) (2:) (qe s1) (ji (by simp[s2]))) qv rfl) (2:) (2:) rfl rfl) λZ H Q hq1=>?_;obtain⟨N,G,er,h⟩:=hq1;refine{N,G,er,Wx.mono (Wx.th (x:=iR L.k a' N) h) λx h v G1 H1 p1 r1=>{x.2,G1,p1.er,Wx.mono (Wx.nox (Wx.th (x:=noX (iR L.k b' x.2)) h)) λy h w G2 H2 p2 r2=>?_}};have h:=Wx.th (x:=lrD x.1 y.1) h
 cases e3:lrD x.1 y.1 with
 |exc c l=>exact absurd e3 (by unfold lrD;split<;>(try split)<;>exactλz=>by cases z)
 |no=>rw[e3]at h;exact ao h
 |ok r=>
 rw[e3]at h;obtain⟨i,j,z1,z2,z3,z4,z5,rfl⟩:=qln e3;refine{i,j,by rw[(r1.keep p2).int z1,r2.int z2],λd hd=>{d,i,j,rfl,qf,?_,z5,λc hc=>?_}}
 ·unfold ZC at z3 z4;simp![aG,decide_eq_true_eq]at z3 z4;exact⟨z3.1,z3.2,z4.1,z4.2⟩
 ·have p3:=Po.room p2.er (qo.upd (o:=HO.rng i j) hd);have rr:ql U G2 (zw i j) (rgV i (j - i).toNat):=qiE G2 i _;obtain⟨y1,y2⟩:=p3.er.newList hc rr;exact h _ _ _ (p1.trans (p2.trans (p3.trans y1))) (y2.back (p1.trans (p2.trans p3)).hs)
def qlo{f:Str}{a t:ae}(h:ssE L f a=some t):f = "sorted"/\∃p q,a=.Call (.Name "set" p) [t] [] q/\glB L.sc "set" = true/\qw t=false:=by obtain⟨t',e,h⟩:=qL h;obtain⟨p,q,ea⟩:=qdz e;obtain⟨r,e2,h⟩:=qL h;have e2:=Qq (qos t'.2) e2;obtain⟨⟨h0,h4,h1,h2⟩,h⟩:=JF h;cases h;exact{h0,p,q,by rw[ea,e2,h4],h1,h2}
def qlp{ns ms qs:List Int}(hn:ms.Nodup)(hm:∀k,k∈ms↔k∈ns)(hp:qs.Perm ms)(hs:qs.Pairwise (·<=·)):sdI ns=qs:=by
 have h1:(sdI ns).Perm (ddI ns):=fF _ _;have h2:(sdI ns).Pairwise (λa b=>decide (a<=b)=true):=il (λa b c x y=>by simp at *;lia) (λa b=>by simp;lia) _;have h3:(ddI ns).Perm ms:=(List.perm_ext_iff_of_nodup (JE ns) hn).mpr λk=>by rw[Zz,hm]
 exact lQ (le:=λa b:Int=>a<=b) (λa b _ _ x y=>by lia) (h2.imp λh=>(-h:)) hs ((h1.trans h3).trans hp.symm)
theorem qlq(gd:Gd U K ε k X L)(A:All U K ε k X L m)(f:Str)(a:ae)(p q:Pos)(hgl:glB L.sc f=true){t:ae}(ht:ssE L f a=some t)(h:(cE m L t).map (.b1 .sst)=some x):PE X (.Call (.Name f p) [a] [] q) (tR U K ε Gv Hv (iR L.k x)):=by
 obtain⟨a',h1,rfl⟩:=map_some h;obtain⟨rfl,p',q',rfl,hg,s1⟩:=qlo ht;refine PE.imp (qP (Zx gd.calm) (gd.glo _ hgl) (gd.blt _ (2:)) lS (qi (qE (qax gd.calm) (gd.glo _ hg) (gd.blt _ (2:)) PyProof.Rows.boot_set (qi (A.r Gv Hv _ _ h1) qv (qe s1)) (2:) (2:) (qe s1) rfl) qv rfl) (2:) (2:) rfl rfl) λZ H Q hq1=>?_;obtain⟨N,G,er,h⟩:=hq1;refine{N,G,er,Wx.mono (Wx.th (x:=iR L.k a' N) h) λy h v G1 H1 p1 r1=>?_};have h:=Wx.th (x:=qkR y.1) h;unfold qkR at h
 cases e1:y.1.list? with
 |none=>rw[e1]at h;exact ao h
 |some l=>
  rw[e1]at h;dsimp only at h
  cases e2:Qn l with
  |none=>rw[e2]at h;exact ao h
  |some ns=>
   rw[e2]at h;dsimp only at h;obtain⟨hz,h⟩:=Wx.iff h;obtain⟨b,ys,z1,z2,z3⟩:=r1.list p1.er e1;have z4:=qaB z3 e2;subst z1 z4;refine{b,ns,rfl,by rw[gd.hK];exact z2,hz,λsa ms hsa hn hm=>{sa,ms,rfl,qf,hn,λc qs hc hp hs=>?_}};have p2:=Po.room p1.er (qo.upd (o:=qkN X.prog X.w sa ms) hsa)
   have rr:ql U G1 ((sdI ns).map D.int) (qs.map V.int):=by
    rw[qlp hn hm hp hs];clear hp hs
    induction qs with
    |nil=>exact .nil
    |cons k l ih=>exact .cons (by simp![Rep]) ih
   obtain⟨y1,y2⟩:=p2.er.newList hc rr;exact h _ _ _ (p1.trans (p2.trans y1)) (y2.back (p1.trans p2).hs)
def qfV(gd:Gd U K ε k X L)(A:All U K ε k X L m)(f:Str)(a b:ae)(p q:Pos)(hgl:glB L.sc f=true)(h:oif (!(qw a||qw b)) (o2 (qnI f) (o2 (cE m L a) (cE m L b) c8) λf p=>E.b2 f p.1 p.2)=some x):PE X (.Call (.Name f p) [a,b] [] q) (tR U K ε Gv Hv (iR L.k x)):=by
 obtain⟨hs,h⟩:=qk h;have hs:(qw a||qw b)=false:=(-hs:)
 rw[eW]at hs;obtain⟨s1,s2⟩:=hs;obtain⟨y,z,h1,h2,rfl⟩:=qj h;obtain⟨a',b',h3,h4,rfl⟩:=qj h2
 have key:∀Z H Q,tR U K ε Gv Hv (iR L.k (.b2 y a' b')) Z H Q->tCB (rC2 U K (XP U Gv Hv ε) Gv Hv y.go) (qe8 (tR U K ε Gv Hv (iR L.k a')) (qe8 (tR U K ε Gv Hv (iR L.k b')) qjq)) Z H Q:=λZ H Q ⟨N,G,er,h⟩=>{N,G,er,Wx.mono (Wx.th (x:=iR L.k a' N) h) λx h v G1 H1 p1 r1=>{x.2,G1,p1.er,Wx.mono (Wx.nox (Wx.th (x:=noX (iR L.k b' x.2)) h)) λy h w G2 H2 p2 r2=>{y.2,Z,G2,H,H1,x.1,y.1,v,w,rfl,p2.er,r1.keep p2,r2,Wx.mono (Wx.th h) λz h u G3 H3 p3 r3=>h u G3 H3 (p1.trans (p2.trans p3)) (r3.back (p1.trans p2).hs)}}}
 have sa:(bu q (aI [b] X.env)).any (·.1)=false:=ji (by simp[s2]);have pa:=qi (A.r Gv Hv _ _ h3) (qi (A.r Gv Hv _ _ h4) qv (qe s2)) (qe s1);unfold qnI at h1
 split at h1
 ·rename_i e;cases h1;subst e;exact PE.imp (qP (qk5 (Ξ:=XP U Gv Hv ε) (Gv:=Gv) (Hv:=Hv) gd) (gd.glo _ hgl) (gd.blt _ (2:)) PyProof.Rows.boot_max pa (2:) (2:) (qe s1) sa) key
 split at h1
 ·rename_i e;cases h1;subst e;exact PE.imp (qP (qk6 (Ξ:=XP U Gv Hv ε) (Gv:=Gv) (Hv:=Hv) gd) (gd.glo _ hgl) (gd.blt _ (2:)) PyProof.Rows.boot_min pa (2:) (2:) (qe s1) sa) key
 cases h1
def tyN:D->String
 |.non=>"NoneType" |.bl _=>"bool" |.int _=>"int" |.str _=>"str" |.lst _=>"list" |.tup _=>"tuple" |.ins ..=>"object" |.exc ..=>"object" |.dct ..=>"object"
def Ty.nm:Ty->String
 |.int=>"int" |.bool=>"bool" |.str=>"str" |.list=>"list" |.tuple=>"tuple"
theorem qnO{G H Hb:Hp}{N:Env}{Z:L2.St}{r:Rv}{x:V}{t:Ty}{b:Bool}(er:ER U K Gv Hv G H N Z)(h:RvR U K Hv Hb G H N Z r x)(e:t.go r=some b):TyOf K H x (.type (tyN r.data)):=by
 cases r with
 |val d=>
  cases d<;>simp![RvR,Rep]at h
  ·subst h;exact .non
  ·subst h;exact .bl _
  ·subst h;exact .int _
  ·subst h;exact .str _
  ·obtain⟨a,xs,rfl,h1,_⟩:=h;exact .lst (er.sub _ _ h1)
  ·obtain⟨a,xs,rfl,h1,_⟩:=h;exact .tup (er.sub _ _ h1)
  ·cases t<;>cases e
  ·cases t<;>cases e
 |tmp l=>obtain⟨a,xs,rfl,h1,_⟩:=h;exact .lst h1
 |cell l=>obtain⟨a,xs,rfl,h1,_⟩:=h;exact .lst h1
 |scr l=>cases e
theorem qlr{r:Rv}{t:Ty}{b:Bool}(e:t.go r=some b):di K (.type (tyN r.data)) (.type t.nm)=some b:=by
 have main:∀d:D,t.of d=some b->di K (.type (tyN d)) (.type t.nm)=some b:=λd e=>by
  have q:(t.of d).elim True λb=>di K (.type (tyN d)) (.type t.nm)=some b:=by cases t<;>cases d<;>first|exact aJ|rfl
  rw[e]at q;exact q
 cases r with
 |val d=>exact main d e
 |tmp l=>exact main (.lst l) e
 |cell l=>exact main (.lst l) e
 |scr l=>cases e
def qdL{X:Cx}:qO X (.builtin "isinstance") (λvs H Q=>∃x c t cv b,vs=[x,c]/\TyOf X.K H x t/\qK c cv/\(∀u,qK c u->u=cv)/\di X.K t cv=some b/\Q (.bl b) H):=by intro pins s Z H xs us Q I r h;obtain⟨x,c,t,cv,b,rfl,ty,rc,uq,e,q⟩:=h;obtain⟨u,v,rfl,ru,rv⟩:=Q8 r;obtain rfl:v=cv:=uq v rv;exact Zb I ru ty e λtk=>{.bl b,H,I.tok tk,rfl,q}
theorem qls(gd:Gd U K ε k X L)(A:All U K ε k X L m)(a:ae)(t:Str)(p tp q:Pos)(hgl:glB L.sc "isinstance" = true)
  (h:oif (zU t&&glB L.sc t&&(qcH L.N t).isNone&&!qw a) (match qm5 t with |some y=>(cE m L a).map (E.isi y) |none=>(cE m L a).map (.isc t))=some x):PE X (.Call (.Name "isinstance" p) [a,.Name t tp] [] q) (tR U K ε Gv Hv (iR L.k x)):=by
 obtain⟨hc,h⟩:=qk h;simp![aG,da]at hc;obtain⟨⟨⟨c1,c2⟩,c3⟩,s1⟩:=hc
 cases hy:qm5 t with
 |some y=>
  rw[hy]at h;obtain⟨a',h1,rfl⟩:=map_some h
  have hb:PE X (.Name t tp) (tC (.ty y.nm)):=by
   unfold qm5 at hy
   split at hy
   ·rename_i e;cases hy;subst e;exact JN (gd.glo _ c2) (gd.blt _ (2:)) lR rfl
   split at hy
   ·rename_i e;cases hy;subst e;exact JN (gd.glo _ c2) (gd.blt _ (2:)) PyProof.Rows.boot_bool rfl
   split at hy
   ·rename_i e;cases hy;subst e;exact JN (gd.glo _ c2) (gd.blt _ (2:)) lT rfl
   split at hy
   ·rename_i e;cases hy;subst e;exact JN (gd.glo _ c2) (gd.blt _ (2:)) f6 rfl
   split at hy
   ·rename_i e;cases hy;subst e;exact JN (gd.glo _ c2) (gd.blt _ (2:)) i4 rfl
   cases hy
  refine PE.imp (qP qfl (gd.glo _ hgl) (gd.blt _ (2:)) lU (qi (A.r Gv Hv _ _ h1) (qi hb qv rfl) (qe s1)) (2:) (2:) (qe s1) rfl) λZ H Q hq1=>?_;obtain⟨N,G,er,h⟩:=hq1;refine{N,G,er,Wx.mono (Wx.th (x:=iR L.k a' N) h) λx h v G1 H1 p1 r1=>?_};obtain⟨b,e1,h⟩:=Wx.of (Wx.th h);exact{v,y.nm,_,b,rfl,by rw[gd.hK];exact qnO p1.er r1 e1,by rw[gd.hK];exact qlr e1,h _ G1 H1 p1 (by simp![RvR,Rep])}
 |none=>
  rw[hy]at h;obtain⟨a',h1,rfl⟩:=map_some h;rintro pins s Z H Q I ⟨N,G,er,h⟩;have h2:=Wx.th (x:=noX (iR L.k a' N)) h
  cases e1:iR L.k a' N with
  |exc c l=>rw[e1]at h2;exact ao h2
  |no=>rw[e1]at h2;exact ao h2
  |ok x=>
   rw[e1]at h2;obtain⟨b,e2,h3⟩:=Wx.of (Wx.th (x:=R.of (qfF L.cs x.1 t)) h2)
   obtain⟨c,ns,ds,ex,e2⟩:∃c ns ds,x.1=.val (.ins c ns ds)/\L.cs.sub c t=some b:=by
    obtain⟨r,env⟩:=x
    cases r with
    |val d=>
     cases d with
     |ins c ns ds=>exact⟨c,ns,ds,rfl,e2⟩
     |_=>cases e2
    |_=>cases e2
   obtain⟨C,T,hC,hty,hT,kt⟩:=gd.subs c t b e2;refine(qP qdL (gd.glo _ hgl) (gd.blt _ (2:)) lU (qi (A.r Gv Hv _ _ h1) (qi (Y5 (v:=.ref T) (gd.glo _ c2) hT rfl (jK c1).1) qv rfl) (qe s1)) (2:) (2:) (qe s1) rfl) pins s Z H Q I ⟨N,G,er,?_⟩;rw[e1];intro v G1 H1 p1 r1;rw[ex]at r1;simp![RvR,Rep]at r1;obtain⟨p',dx,C',xs,hc',rfl,h4,hl,h5⟩:=r1;rw[hC]at hc';cases hc';exact{.ref p',.ref T,.ref C,.ref T,b,rfl,hty _ _ _ _ (p1.er.sub _ _ h4),rfl,λu hu=>hu,kt,h3 _ G1 H1 p1 (by simp![RvR,Rep])}
def qdM{o:ae}(h:yx o=true)(x:Str)(env:PySem.Env):fO o x env (eval o env)=eval o env:=by cases o<;>first|rfl|(simp[yx]at h)
theorem qiF{cs:Cs}{r:Rv}{x:Str}{d:D}(h:qdy cs r x=some d):∃c ns ds,r=.val (.ins c ns ds)/\cs.fld c x=true/\(ns.zip ds).lookup x=some d:=by
 cases r with
 |val e=>
  cases e with
  |ins c ns ds=>
   have h:(if cs.fld c x=true then (ns.zip ds).lookup x else none)=some d:=h
   by_cases hf:cs.fld c x=true
   ·rw[if_pos hf]at h;exact⟨c,ns,ds,rfl,hf,h⟩
   ·rw[if_neg hf]at h;cases h
  |_=>cases h
 |_=>cases h
theorem qlt{cs:Cs}{r:Rv}{x f:Str}(h:mtD cs r x=some f):∃c ns ds,r=.val (.ins c ns ds)/\ns.contains x=false/\cs.mt c x=some f:=by
 cases r with
 |val e=>
  cases e with
  |ins c ns ds=>
   have h:(if ns.contains x=true then none else cs.mt c x)=some f:=h
   by_cases hf:ns.contains x=true
   ·rw[if_pos hf]at h;cases h
   ·rw[if_neg hf]at h;exact{c,ns,ds,rfl,(-hf:),h}
  |_=>cases h
 |_=>cases h
theorem qbt{x:Str}:∀{ns:List Str} {xs:List V},ns.contains x=false->(ns.zip xs).lookup x=none
 |[],_,_=>by simp
 | n::ns,[],_=>by simp
 | n::ns,v::xs,h=>by simp![kR,eW]at h;rw[ik,bh,h.1];exact qbt h.2
theorem qlu(gd:Gd U K ε k X L)(A:All U K ε k X L m)(o:ae)(y:Str)(pos:Pos)(h:cE (m+1) L (.Attribute o y pos)=some x):PE X (.Attribute o y pos) (tR U K ε Gv Hv (iR L.k x)):=by
 obtain⟨ho,h⟩:=qk h;obtain⟨a',h1,rfl⟩:=map_some h;rintro pins s Z H Q I ⟨N,G,er,h⟩;have h2:=Wx.th (x:=noX (iR L.k a' N)) h
 cases e0:iR L.k a' N with
 |exc c l=>rw[e0]at h2;exact ao h2
 |no=>rw[e0]at h2;exact ao h2
 |ok z=>
  rw[e0]at h2;obtain⟨d,e1,h⟩:=Wx.of (Wx.th (x:=R.of (qdy L.cs z.1 y)) h2);obtain⟨c,ns,ds,e2,e3,e4⟩:=qiF e1
  ·refine qjY (A.r Gv Hv _ _ h1) (qdM ho y X.env) pins s Z H Q I ⟨N,G,er,?_⟩;rw[e0];intro v G1 H1 p1 r1;rw[e2]at r1;simp![RvR,Rep]at r1;obtain⟨p,dx,C,xs,hc,rfl,h1,hl,h2⟩:=r1;obtain⟨u,e5,ru⟩:=qbo h2 e4;exact{p,C,dx,_,u,rfl,p1.er.sub _ _ h1,gd.cls c C hc,gd.flds c y C e3 hc,e5,h u G1 H1 p1 ru}
def ZF{o:ae}{x:Str}{ap q:Pos}{es:List ae}{env:PySem.Env}(ho:yx o=true)(hs:es.any qw=false)(hl:es.length < 30)(hp:(ap.endLine == q.line)=true) :
  eval (.Call (.Attribute o x ap) es [] q) env=(do
   let ov<-eval o env
   dZ ap.atName
   let (f,first)<-cJ [ov] (fN ov x (do return (<-importBound o env).getD true))
   callWith q f first (bu q (aI es env)) (dJ q (dM [] env))):=by
 have hm:methodCallForm (es.length+([]:List df).length) (bu q (aI es env)) (dJ q (dM [] env))=true:=by
  have e:=ji (pos:=q) (env:=env) hs;unfold methodCallForm;simp![aG,decide_eq_true_eq];refine{{?_,rfl},?_}
  ·rw[eX];intro y hy
   have:=List.any_eq_false.mp e y hy
   simpa using this
  ·show es.length+0+0 < 30;omega
 show(do
  let ov<-fO o x env (eval o env)
  dZ ap.atName
  methodCall o x ap q env ov (es.length+([]:List df).length) (bu q (aI es env)) (dJ q (dM [] env)))=_
 rw[qdM ho];unfold methodCall;simp![hm,calleeOf,methodCallPos,if_true,hp,fm,Bool.false_or];rfl
theorem qfW{pins:PP}{s:ag}{Z:L2.St}{H G:Hp}{Q:VK}{N:Env}{y:Rv×Env}{o:ae}{ap q:Pos}{es:List ae}{a':E}{l':Es}(A:All U K ε k X L m)(ho:yx o=true)(hp:(ap.endLine == q.line)=true)(hl:es.length < 30)(h1:cE m L o=some a')(h2:cAs m L es=some l')
  (er:ER U K Gv Hv G H N Z) (e1:iR L.k a' N=.ok y) (h:Wx X0 (iAs L.k l' y.2) (λz=>Wx X0 ((ixM y.1 z.1).th λr=>R.ok (r,z.2)) (λx=>∀v G' H',Po U K Gv Hv Z G H N G' H' x.2->RvR U K Hv H G' H' x.2 Z x.1 v->Q v H'))) (I:Inv X pins Z H s) :
  ak (al X.prog X.w) X.A (eval (.Call (.Attribute o "index" ap) es [] q) X.env) (EP X pins Z Q) X.xe s:=by
 refine ao ?_
 cases e4:iAs L.k l' y.2 with
 |ok z=>rw[e4]at h;exact h
 |exc c l=>rw[e4]at h;exact h
 |no=>rw[e4]at h;exact h
theorem qiG{pins:PP}{s:ag}{Z:L2.St}{H G:Hp}{Q:VK}{N N1:Env}{a nm:Str}{o:ae}{ap q:Pos}{es:List ae}{a':E}{l':Es}(A:All U K ε k X L m)(gd:Gd U K ε k X L)(ho:yx o=true)(hp:(ap.endLine == q.line)=true)(hl:es.length < 30)(h1:cE m L o=some a')(h2:cAs m L es=some l')
  (er:ER U K Gv Hv G H N Z) (e1:iR L.k a' N=.ok (.val (.str a),N1)) (h:Wx X0 (iAs L.k l' N1) (λz=>Wx X0 ((bmD nm (.val (.str a)) z.1).th λr=>R.ok (r,z.2)) (λx=>∀v G' H',Po U K Gv Hv Z G H N G' H' x.2->RvR U K Hv H G' H' x.2 Z x.1 v->Q v H'))) (I:Inv X pins Z H s) :
  ak (al X.prog X.w) X.A (eval (.Call (.Attribute o nm ap) es [] q) X.env) (EP X pins Z Q) X.xe s:=by
 have hs:=ZE h2
 cases e4:iAs L.k l' N1 with
 |exc c l=>rw[e4]at h;exact ao h
 |no=>rw[e4]at h;exact ao h
 |ok z=>
 rw[e4]at h;exact ao h
def qlv{o:ae}{x:Str}{es:List ae}{b:Bool}{t:ae×ae×Int}(h:dgE L o x es b=some t):∃p q i j,o=.Call (.Name "dict" p) [t.1] [] q/\x = "get"/\es=[t.2.1,.Constant (.int t.2.2) i j]/\b=true/\glB L.sc "dict" = true/\qw t.1=false/\qw t.2.1=false:=by obtain⟨t',e,h⟩:=qL h;obtain⟨p,q,ea⟩:=qdz e;obtain⟨a,e2,h⟩:=qL h;have e2:=Qq (qos t'.2) e2;obtain⟨r,e3,h⟩:=qL h;have e3:=Qq (qot es) e3;obtain⟨n,e4,h⟩:=qL h;obtain⟨i,j,e4⟩:=qgS e4;obtain⟨⟨h0,h1,h2,h3,h4,h5⟩,h⟩:=JF h;cases h;exact{p,q,i,j,by rw[ea,e2,h0],h1,by rw[e3,e4],h2,h3,h4,h5}
def qiH(gd:Gd U K ε k X L)(A:All U K ε k X L m)(o:ae)(y:Str)(ap:Pos)(es:List ae)(q:Pos){t:ae×ae×Int}(hd:dgE L o y es (ap.endLine == q.line)=some t)(h:o2 (cE m L t.1) (cE m L t.2.1) (.b2 (.get t.2.2))=some x):PE X (.Call (.Attribute o y ap) es [] q) (tR U K ε Gv Hv (iR L.k x)):=by
  obtain⟨a,e,n⟩:=t;obtain⟨a',b',h1,h2,rfl⟩:=qj h;obtain⟨p',q',i,j,rfl,rfl,rfl,hl,hg,s1,s2⟩:=qlv hd;have hu:X.A.units+1 < cLine:=by have:=gd.room.un;lia
  have st:aI [e,Expr.Constant (.int n) i j] X.env=[(false,eval e X.env),(false,eval (Expr.Constant (.int n) i j) X.env)]:=by rw[qe s2];rfl
  refine PE.imp (qfn hu (qE (qci gd.calm) (gd.glo _ hg) (gd.blt _ (2:)) PyProof.Rows.boot_dict (qi (A.r Gv Hv _ _ h1) qv (qe s1)) (2:) (2:) (qe s1) rfl) (A.r Gv Hv _ _ h2) (qbr (U:=U) (ε:=ε) (K:=K) (Gv:=Gv) (Hv:=Hv) (L:=L) (.int n) i j rfl) ⟨rfl,?_,hl,?_⟩) λZ H Q hq1=>?_
  ·rw[st];rfl
  ·rw[st];rfl
  obtain⟨N,G,er,h⟩:=hq1;refine{N,G,er,Wx.mono (Wx.th (x:=iR L.k a' N) h) λy h v G1 H1 p1 r1=>?_};have h:=Wx.th (x:=noX (iR L.k b' y.2)) h
  cases e2:iR L.k b' y.2 with
  |exc c l=>rw[e2]at h;exact ao h
  |no=>rw[e2]at h;exact ao h
  |ok z=>
  rw[e2]at h;have h:=Wx.th (x:=qay n y.1 z.1) h
  cases e3:qay n y.1 z.1 with
  |exc c l=>exact absurd e3 (by unfold qay;split<;>(try split)<;>(try split)<;>exactλz=>by cases z)
  |no=>rw[e3]at h;exact ao h
  |ok r=>
  rw[e3]at h;obtain⟨l,kvs,k',z1,z3,z4,z2,rfl⟩:=qfO e3;obtain⟨b,xs,rfl,q1,q2⟩:=r1.list p1.er z1;refine{b,xs,kvs,rfl,by rw[gd.hK];exact q1,Paired.mapP (qbq q2 z3) λ_ _ ⟨c,w1,w2⟩=>{c,w1,p1.er.sub _ _ w2},z4,λd hd'=>?_};have p2:=Po.room p1.er (qo.upd (o:=HO.dK (kvs.map kvV)) hd');refine{d,rfl,.inl {_,.inl qf},y.2,G1,p2.er,?_};rw[e2];intro u G3 H3 p3 r3;refine{z.2,G3,p3.er,λw G4 H4 p4 r4=>?_};have hw:w=.int n:=by simpa only[RvR,Rep] using r4
  subst hw;have hu':u=.str k':=r3.str z2;subst hu';refine{_,qkv.k (k:=.inr k') (p4.hs _ _ (p3.hs _ _ qf)),?_};rw[qdF];refine h _ G4 H4 (p1.trans (p2.trans (p3.trans p4))) ?_
  cases qip kvs k'<;>simp![RvR,Rep,Option.map,Option.getD]
theorem qiI(gd:Gd U K ε k X L)(A:All U K ε k X L m)(o:ae)(y:Str)(ap:Pos)(es:List ae)(q:Pos)(h:cE (m+1) L (.Call (.Attribute o y ap) es [] q)=some x):PE X (.Call (.Attribute o y ap) es [] q) (tR U K ε Gv Hv (iR L.k x)):=by
 have h:(if (yx o&&(ap.endLine == q.line)&&decide (es.length < 30))=true then _ else match dgE L o y es (ap.endLine == q.line) with |some t=>_ |none=>none)=_:=h
 by_cases hc:(yx o&&(ap.endLine == q.line)&&decide (es.length < 30))=true
 case neg=>
  rw[if_neg hc]at h
  cases hd:dgE L o y es (ap.endLine == q.line) with
  |none=>rw[hd]at h;cases h
  |some t=>rw[hd]at h;exact qiH gd A o y ap es q hd h
 rw[if_pos hc]at h;obtain⟨a',l',h1,h2,rfl⟩:=qj h;rintro pins s Z H Q I ⟨N,G,er,h⟩;have h:=Wx.th (x:=noX (iR L.k a' N)) h;simp![aG,decide_eq_true_eq]at hc;obtain⟨⟨ho,hp⟩,hl⟩:=hc
 cases e1:iR L.k a' N with
 |exc c l=>rw[e1]at h;exact ao h
 |no=>rw[e1]at h;exact ao h
 |ok w=>
  rw[e1]at h
  have h:Wx _ (match mtD L.cs w.1 y with
   |some f=>(iAs L.k l' w.2).th λz=>(L.cl f (toAr w.1::z.1)).th λr=>R.ok (r,z.2)
   |none=>(noX (iAs L.k l' w.2)).th λz=>(noX (bmD y w.1 z.1)).th λr=>R.ok (r,z.2)) _:=h
  cases e2:mtD L.cs w.1 y with
  |none=>
   rw[e2]at h;have h0:=Wx.nox (Ξ':=X0) (Wx.th (x:=noX (iAs L.k l' w.2)) h);have h:Wx X0 (iAs L.k l' w.2) λz=>Wx X0 ((bmD y w.1 z.1).th λr=>R.ok (r,z.2)) λx=>∀v G' H',Po U K Gv Hv Z G H N G' H' x.2->RvR U K Hv H G' H' x.2 Z x.1 v->Q v H':=Wx.mono h0 λz hz=>Wx.ht (Wx.mono (Wx.nox (Wx.th (x:=noX (bmD y w.1 z.1)) hz)) λr hr=>hr);clear h0;obtain⟨wr,wρ⟩:=w
   by_cases hs:∃a,wr=.val (.str a)
   ·obtain⟨a,rfl⟩:=hs;exact qiG A gd ho hp hl h1 h2 er e1 h I
   ·have hb:∀as,bmD y wr as=if y = "index" then ixM wr as else .no:=by
     cases wr with
     |val d=>
      cases d with
      |str a=>exact absurd ⟨a,rfl⟩ hs
      |_=>intro as;rfl
     |_=>intro as;rfl
    by_cases hx:y = "index"
    ·subst hx;refine qfW A ho hp hl h1 h2 er e1 (Wx.mono h λz hz=>?_) I;rw[hb,if_pos rfl]at hz;exact hz
    ·refine ao ?_
     cases e4:iAs L.k l' wρ with
     |ok z=>rw[e4]at h;have h:Wx _ ((bmD y wr z.1).th _) _:=h;rw[hb,if_neg hx]at h;exact h
     |exc c l=>rw[e4]at h;exact h
     |no=>rw[e4]at h;exact h
  |some f=>
  rw[e2]at h;obtain⟨c,ns,ds,e3,e4,e5⟩:=qlt e2;obtain⟨C,fa,fd,ps,hC,M,F,B⟩:=gd.mts c y f e5;have h:=Wx.th (x:=iAs L.k l' w.2) h;have hs:=ZE h2;have hs0:=hs
  have all:qhI C y (spF U K L.cl f) [] ε (tR U K ε Gv Hv (iR L.k a')) (tAs U K ε Gv Hv (iAs L.k l')) Z H Q:=by
   refine{N,G,er,?_};rw[e1];intro v G1 H1 p1 r1;have r1':=r1;rw[e3]at r1';simp![RvR,Rep]at r1';obtain⟨p',dx,C',xs,hc',rfl,h4,hl,h5⟩:=r1';rw[hC]at hc';cases hc';refine{p',dx,_,rfl,p1.er.sub _ _ h4,qbt e4,w.2,G1,p1.er,Wx.mono h λz h vs G2 H2 p2 r2=>?_};show spF U K L.cl f (V.ref p'::(vs++[])) H2 Q ε;rw[dD];refine{G2,toAr w.1::z.1,p2.er.sub,{_,_,rfl,?_,r2},Wx.mono2 (Wx.th h) (XP.call p2) λr h v G3 H3 hs gs sub new rr=>?_}
   ·rw[e3]at r1 ⊢;exact Rep.same p2.gs r1
   ·obtain⟨z1,z2⟩:=ReR.rv (p1.trans p2) hs gs sub new rr;exact h v G3 H3 z1 z2
  cases es with
  |nil=>cases qaC h2;refine qfb (A.r Gv Hv _ _ h1) (gd.cls c C hC) M F gd.room B .nil gd.ps (ht:=ZF ho hs0 hl hp) pins s Z H Q I ?_;obtain⟨N',G',er',z⟩:=all;refine{N',G',er',Wx.mono z λx z v G1 H1 p1 r1=>?_};obtain⟨a,dx,fs,z1,z2,z3,N2,G2,er2,z⟩:=z v G1 H1 p1 r1;exact{a,dx,fs,z1,z2,z3,z [] G2 H1 (Po.refl er2) rfl}
  |cons e l=>simp![eM,eW]at hs;exact qhK (A.r Gv Hv _ _ h1) (gd.cls c C hC) M F gd.room B .nil gd.ps (A.as Gv Hv _ _ h2) (qe hs.1) (ji hs.2) (ht:=ZF ho hs0 hl hp) pins s Z H Q I all
theorem qiJ(gd:Gd U K ε k X L)(A:All U K ε k X L m)(f:Str)(es:List ae)(p q:Pos)(hok:zU f=true)(hgl:glB L.sc f=true)(ht:L.cs.tab.contains f=true)(h:(cAs m L es).map (.new f)=some x):PE X (.Call (.Name f p) es [] q) (tR U K ε Gv Hv (iR L.k x)):=by
 obtain⟨l',h1,rfl⟩:=map_some h;have hs:=ZE h1;rcases gd.mks f ht with hno|⟨C,fa,fd,ps,sp,M,F,hm,hb,hk,hsp⟩
 ·rintro pins s Z H Q I ⟨N,G,er,h⟩;have h:=Wx.th (x:=noX (iAs L.k l' N)) h
  cases e1:iAs L.k l' N with
  |ok x=>rw[e1]at h;have h:Wx _ ((L.nw f x.1).th _) _:=h;rw[hno]at h;exact ao h
  |exc c l=>rw[e1]at h;exact ao h
  |no=>rw[e1]at h;exact ao h
 obtain⟨n1,n2,n3⟩:=jK hok
 have rm:Room (k - 1+1) X.A:=by rw[show k - 1+1=k by lia];exact gd.room
 have key:∀Z H Q,tR U K ε Gv Hv (iR L.k (.new f l')) Z H Q->qhJ C sp [] ε (tAs U K ε Gv Hv (iAs L.k l')) Z H Q:=λZ H Q ⟨N,G,er,h⟩=>by refine{N,G,er,Wx.mono (Wx.nox (Wx.th (x:=noX (iAs L.k l' N)) h)) λx h vs G1 H1 p1 r1=>?_};show∀x dx,H1 x=none->H1 dx=none->dx≠x->sp (.ref x::(vs++[])) _ _ ε;rw[dD];refine hsp vs H1 Q ε ⟨G1,x.1,p1.er.sub,r1,Wx.mono2 (Wx.th h) (XP.call p1) λr h v G2 H2 hs gs sub new rr=>?_⟩;obtain⟨z1,z2⟩:=ReR.rv p1 hs gs sub new rr;exact h v G2 H2 z1 z2
 cases es with
 |nil=>cases qaC h1;refine PE.imp (qfc M F rm (gd.glo f hgl) hm hb .nil gd.ps n1) λZ H Q h=>?_;obtain⟨N,G,er,h⟩:=key Z H Q h;exact h [] G H (Po.refl er) rfl
 |cons e l=>simp![eM,eW]at hs;exact PE.imp (qhL M F rm (gd.glo f hgl) hm hb .nil gd.ps (A.as Gv Hv _ _ h1) n1 (qe hs.1) (ji hs.2)) key
end
def gT(U:KC)(K:Frag)(Ξ:XW)(t:Tg):TG:=λv Z H Q=>∃(Gv Hv:Hp) (N:Env) (G:Hp) (d:D),ER U K Gv Hv G H N Z/\Rep U G d v/\Wx Ξ (t.go d N) λN'=>∀Z',ER U K Gv Hv G H N' Z'->Q Z' H
def gNs(U:KC)(K:Frag)(Ξ:XW)(l:List Nat):TGs:=λvs Z H Q=>∃(Gv Hv:Hp) (N:Env) (G:Hp) (ds:List D),ER U K Gv Hv G H N Z/\ql U G ds vs/\Wx Ξ (Qs l ds N) λN'=>∀Z',ER U K Gv Hv G H N' Z'->Q Z' H
def PG.imp{X:Cx}{tg:ae}{t t':TG}(h:PG X tg t')(i:∀v Z H Q,t v Z H Q->t' v Z H Q):PG X tg t:=λpins s Z H v u Q I r hw=>h pins s Z H v u Q I r (i v Z H Q hw)
def PGs.imp{X:Cx}{tg:List ae}{t t':TGs}(h:PGs X tg t')(i:∀v Z H Q,t v Z H Q->t' v Z H Q):PGs X tg t:=λpins s Z H v u Q I r hw=>h pins s Z H v u Q I r (i v Z H Q hw)
section
variable{U:KC}{ε:XK}{Ξ:XW}{K:Frag}{Gv Hv:Hp}{k m:Nat}{X:Cx}{L:Ct}{x:E}
def qg1(gd:Gd U K ε k X L){y:Str}{i:Nat}(h:qir L y=some i):L2.Loc X.env.scope y/\(X.fn y=true\/X.env.scope.names.lookup y=some .local)/\X.N.Nodup/\X.N[i]?=some y:=by unfold qir at h;obtain⟨hc,h⟩:=qk h;rw[aG]at hc;obtain⟨l1,l2⟩:=gd.loc y hc.1;exact{l1,l2,by rw[gd.hN];exact gd.nd,by rw[gd.hN];exact Qu h}
def qlw(gd:Gd U K ε k X L){y:Str}{i:Nat}(h:qir L y=some i)(pos:Pos):PG X (.Name y pos) (gT U K Ξ (.one i)):=by obtain⟨l1,l2,l3,l4⟩:=qg1 gd h;refine PG.imp (qhz (i:=i) l3 l4 l1 l2) λv Z H Q hq1=>?_;obtain⟨Gv,Hv,N,G,d,er,r,h⟩:=hq1;exact h _ (er.setVal r)
theorem qbu{e:ae}{es:List ae}{j:Nat}{p:Pos}{xs:List Str}(h:zv (.Tuple (e::es) j p)=some xs):∃x pos r,e=.Name x pos/\xs=x::r/\zv (.Tuple es j p)=some r:=by
 have q0:zv (.Tuple es j p)=(es.foldr (λe r=>match e,r with |.Name x _,some l=>some (x::l) |_,_=>none) (some []):Option (List Str)):=rfl
 cases e with
 |Name x pos=>
  cases q:(es.foldr (λe r=>match e,r with |.Name x _,some l=>some (x::l) |_,_=>none) (some []):Option (List Str)) with
  |none=>have h':(match (Expr.Name x pos:ae),(es.foldr (λe r=>match e,r with |.Name x _,some l=>some (x::l) |_,_=>none) (some []):Option (List Str)) with |.Name x _,some l=>some (x::l) |_,_=>none)=some xs:=h;rw[q]at h';cases h'
  |some l=>have h':(match (Expr.Name x pos:ae),(es.foldr (λe r=>match e,r with |.Name x _,some l=>some (x::l) |_,_=>none) (some []):Option (List Str)) with |.Name x _,some l=>some (x::l) |_,_=>none)=some xs:=h;rw[q]at h';cases h';exact{x,pos,l,rfl,rfl,q0.trans q}
 |_=>cases h
theorem qg2(gd:Gd U K ε k X L){j:Nat}{p:Pos}:∀{es:List ae} {xs:List Str} {l:List Nat},zv (.Tuple es j p)=some xs->qfI L xs=some l->PGs X es (gNs U K Ξ l)
 | [],xs,l,h,h'=>by
  have e:xs=[]:=by unfold zv at h;cases h;rfl
  subst e;cases h';refine PGs.imp qhA λvs Z H Q hq1=>?_;obtain⟨Gv,Hv,N,G,ds,er,r,h⟩:=hq1
  cases ds with
  |nil=>simp![ql]at r;exact{r,h Z er}
  |cons d ds=>exact ao h
 | e::es,xs,l,h,h'=>by
  obtain⟨x,pos,r,rfl,rfl,h0⟩:=qbu h;obtain⟨i,l,h1,h2,rfl⟩:=qj h';refine PGs.imp (qe1 (qlw (Ξ:=Ξ) gd h1 pos) (qg2 gd h0 h2)) λvs Z H Q hq1=>?_;obtain⟨Gv,Hv,N,G,ds,er,rr,h⟩:=hq1
  cases ds with
  |nil=>exact ao h
  |cons d ds=>simp![ql]at rr;obtain⟨v,vr,rfl,r1,r2⟩:=rr;exact{v,vr,rfl,Gv,Hv,N,G,d,er,r1,λZ1 er1=>{Gv,Hv,_,G,ds,er1,r2,h}}
theorem ZG{env:PySem.Env}{j:Nat}{p:Pos}:∀{es:List ae} {xs:List Str} {l:List Nat},zv (.Tuple es j p)=some xs->qfI L xs=some l->(dI es env).length=l.length/\(dI es env).findIdx? (·.1)=none
 | [],xs,l,h,h'=>by unfold zv at h;cases h;cases h';exact⟨rfl,rfl⟩
 | e::es,xs,l,h,h'=>by obtain⟨x,pos,r,rfl,rfl,h0⟩:=qbu h;obtain⟨i,l,h1,h2,rfl⟩:=qj h';obtain⟨h1,h2⟩:=ZG (env:=env) h0 h2;have e:dI (.Name x pos::es) env=(false,d8 (.Name x pos) env)::dI es env:=rfl;rw[e];refine{by simp[h1],?_};rw[List.findIdx?_cons];simp[h2]
theorem ZH{Ξ:XW}:∀{l:List Nat} {ds:List D} {N:Env} {F:Env->Prop},Wx Ξ (Qs l ds N) F->ds.length=l.length
 |[],[],_,_,_=>rfl
 | [],_::_,_,_,h=>ao h
 | _::_,[],_,_,h=>ao h
 | i::l,d::ds,N,F,h=>congrArg (· + 1) (ZH (l:=l) (ds:=ds) (N:=N.set i (.val d)) h)
theorem qfX(gd:Gd U K ε k X L)(tg:ae){t:Tg}(h:cTg L tg=some t):PG X tg (gT U K Ξ t):=by
 cases tg with
 |Name x pos=>obtain⟨i,h1,rfl⟩:=map_some h;exact qlw gd h1 pos
 |Tuple es j p=>
  obtain⟨hs,h⟩:=qk h
  cases hx:zv (.Tuple es j p) with
  |none=>rw[hx]at h;cases h
  |some xs=>
   rw[hx]at h;obtain⟨l,h2,rfl⟩:=map_some h;obtain⟨t1,t2⟩:=ZG (env:=X.env) hx h2;refine PG.imp (qjL (n:=l.length) gd.calm (qg2 (Ξ:=Ξ) gd hx h2) t1 t2) λv Z H Q hq1=>?_;obtain⟨Gv,Hv,N,G,d,er,r,h⟩:=hq1
   cases d with
   |tup ds=>have h:Wx _ (Qs l ds N) _:=h;simp![Rep]at r;obtain⟨a,ys,rfl,r1,r2⟩:=r;exact{a,ys,rfl,SqT.of (er.sub _ _ r1),by rw[<-r2.len];exact ZH h,Gv,Hv,N,G,ds,er,r2,h}
   |_=>exact ao h
 |_=>cases h
theorem qg3{env:PySem.Env}:∀{names:List (Str×ci)} {x:Str},names.lookup x=some .globalImplicit->
  (names.map λ(n,k)=>if (k == b6&&env.scope.kind == .function&&env.kindOf n == some .cell) then (n,fE) else (n,k)).lookup x=some .globalImplicit
 |[],_,h=>by simp at h
 | (n,k)::r,x,h=>by
  simp![av]
  by_cases hx:x=n
  ·subst hx;simp[bh]at h;subst h;rw[if_neg (5:)];simp[bh]
  ·have hb:(x == n)=false:=(-hx:)
   rw[bh,hb]at h;have ih:=qg3 (env:=env) h
   by_cases hc:(k == b6&&env.scope.kind == .function&&env.kindOf n == some .cell)=true
   ·rw[if_pos hc];simp![bh,hb];exact ih
   ·rw[if_neg hc];simp![bh,hb];exact ih
def ZI(gd:Gd U K ε k X L){own:List Str}{fr:List Nat}{sc:bi}(h:Jz L.sc L.N fr sc=true):BlkScope X own fr sc:=by
 unfold Jz at h;simp![aG,eX]at h;obtain⟨⟨hk,hn⟩,hf⟩:=h;refine{by simpa using hk,λx hx=>by simpa using (hn x hx).1.1,λx hx e=>?_,λx hx e=>?_,λi hi=>?_}
 ·have:=(hn x hx).1.2
  simpa [e] using this
 ·have:=(hn x hx).2
  exact gd.cf x.1 (by simpa [e] using this)
 ·rw[gd.hN]
  simpa using hf i hi
def qlx:jv CX0 X E0:=λ_ _ _ _ _ _ _ c=>ao c
def YJ(gd:Gd U K ε k X L){own:List Str}{fr:List Nat}{sc:bi}(B:BlkScope X own fr sc)(hnd:(own++fr.map λi=>L.N.getD i "").Nodup)(cl:List (Str×ad))(C:ad)(fp:List ad)(s2:ag)(H2:Hp) :
  Gd U K E0 k (blk X (Jc X own fr) sc cl C fp s2 H2) { L with N:=own++fr.map λi=>L.N.getD i "",sc:=sc } where
 ps:=qlx
 hN:=by show Jc X own fr=_;unfold Jc;rw[gd.hN]
 vis:=λx h=>by
  have h:=qgW h;rcases h with h|h|h
  ·exact .inl (lookup_relabel_local h)
  ·exact absurd rfl (B.nocell _ (cY h))
  ·rcases Jy (env:=X.env) h with z|z
   ·exact .inr (.inl z)
   ·exact .inr (.inr z)
 loc:=λx h=>by
  have h:=qdD h;rcases h with h|h
  ·have z:(relabel sc X.env).names.lookup x=some .local:=lookup_relabel_local h;exact{.inl z,.inr z}
  ·exact absurd rfl (B.nocell _ (cY h))
 glo:=λx h=>by unfold glB at h;exact qg3 (env:=X.env) (-h:)
 cf:=λx h=>by
  rcases h with h|h
  ·exact absurd rfl (B.nocell _ (cY h))
  ·exact Jy (env:=X.env) h
 nd:=hnd
 calm:=gd.calm
 hK:=gd.hK
 room:=gd.room
 fns:=gd.fns
 blt:=gd.blt
 gl:=gd.gl
 cls:=gd.cls
 flds:=gd.flds
 mts:=gd.mts
 mks:=gd.mks
 subs:=gd.subs
def qly{G H:Hp}{N:Env}{Z:L2.St}(er:ER U K Gv Hv G H N Z)(own:List Str)(fr:List Nat):ER U K G H G H (qal own.length fr N) (Yv own fr Z):=by
 refine{by simp[qal,Yv],er.sub,λ_ _ e=>e,λ_ _ e=>e,λa o e=>.inl ⟨o,e⟩,λi s e=>?_,λi j a l n e1=>?_}
 ·unfold qal at e;unfold Yv
  by_cases hi:i < own.length
  ·rw[dm (-hi:)]at e;obtain rfl:=io (dn e);trivial
  ·rw[cZ (-hi:)]at e ⊢;simp![aD,kh]at e ⊢;rw[bE]at e ⊢;obtain⟨j,e1,rfl⟩:=bF.mp e;rw[e1];show SlR U K G H H (qeW (N.getD j .no)) (some (Z[j]?).join)
   cases q:N[j]? with
   |none=>rw[mG,q];trivial
   |some s=>
    rw[mG,q];have w:=er.sl j s q
    cases s with
    |no=>trivial
    |val d=>obtain⟨v,z,r⟩:=w;exact{v,by rw[z];rfl,r}
    |own l=>obtain⟨a,xs,z,r1,r2,r3,r4⟩:=w;exact{a,xs,by rw[z];rfl,r1,r4}
    |bor l=>obtain⟨a,xs,z,r1,r4⟩:=w;exact{a,xs,by rw[z];rfl,er.base _ _ r1,r4}
    |scr l=>obtain⟨a,xs,z,r1,r4⟩:=w;exact{a,xs,by rw[z];rfl,er.base.seq r1,r4}
 ·exfalso;unfold qal at e1
  by_cases hi:i < own.length
  ·rw[dm (-hi:)]at e1
   cases io (dn e1)
  ·rw[cZ (-hi:),bE]at e1;obtain⟨j,_,z⟩:=bF.mp e1
   cases q:N.getD j .no<;>rw[q]at z<;>cases z
def qaD{it:ae}(h:ZB it=true)(env:PySem.Env):∀x,iz it env x=pure x:=by
 intro x
 cases it<;>first|rfl|(simp[ZB]at h)
def qlz(A:All U K ε k X L m)(e:ae){x:E}(hx:cX m L e=some x):PE X e (λZ H Q=>∃Gv Hv,tE U K ε Gv Hv (jG x (iR L.k x)) Z H Q):=λpins s Z H Q I ⟨Gv,Hv,h⟩=>A.e Gv Hv e x hx pins s Z H Q I h
def qg4(A:All U K ε k X L m)(es:List ae){x:F}(hx:cF m L es=some x):PIf X es (λZ H Q=>∃Gv Hv,tT U K ε Gv Hv (iF L.k x) Z H Q):=λpins s Z H Q I ⟨Gv,Hv,h⟩=>A.f Gv Hv es x hx pins s Z H Q I h
structure CompS(L:Ct)(m:Nat)(elt tg it:ae)(ifs:List ae)(sc:bi)(own:List Str)(el:E)(src:I)(t:Tg)(c:F):Prop where
 chk:Jz L.sc L.N (YH L.N sc) sc=true
 nd:(own++(YH L.N sc).map λi=>L.N.getD i "").Nodup
 fold:ZB it=true
 src:cC L it (cI m L (qfG tg) it)=some src
 tg:cTg { L with N:=own++(YH L.N sc).map λi=>L.N.getD i "",sc:=sc } tg=some t
 c:cF m { L with N:=own++(YH L.N sc).map λi=>L.N.getD i "",sc:=sc } ifs=some c
 el:cX m { L with N:=own++(YH L.N sc).map λi=>L.N.getD i "",sc:=sc } elt=some el
theorem qlA{elt:ae}{gs:List Comprehension}{sc:bi}{pos:Pos}(h:cE (m+1) L (.ListComp elt gs sc pos)=some x):∃tg it ifs own el src t c,gs=[⟨tg,it,ifs,0⟩]/\CompS L m elt tg it ifs sc own el src t c/\x=.comp el src t c own.length (YH L.N sc):=by
 match gs,h with
 |[⟨tg,it,ifs,as⟩],h=>
  obtain⟨ha,h⟩:=qk h;obtain rfl:as=0:=of_decide_eq_true ha;dsimp only at h
  cases hx:zv tg with
  |none=>rw[hx]at h;cases h
  |some own=>rw[hx]at h;obtain⟨hc,h⟩:=qk h;obtain⟨p1,p2,h1,h2,rfl⟩:=qj h;obtain⟨src,t,h3,h4,rfl⟩:=qj h1;obtain⟨c,el,h5,h6,rfl⟩:=qj h2;simp![aG]at hc;exact{tg,it,ifs,own,el,src,t,c,rfl,{hc.1.1,of_decide_eq_true hc.1.2,hc.2,h3,h4,h5,h6},rfl}
 |[],h=>cases h
 | _::_::_,h=>cases h
def tC(U:KC)(K:Frag)(ε:XK)(Gv Hv:Hp)(f:Env->R (List D×Env)):TI:=λZ H Q=>∃N G,ER U K Gv Hv G H N Z/\Wx (XP U Gv Hv ε) (f N) λx=>∀J G' H',Po U K Gv Hv Z G H N G' H' x.2->ItR U H' G' J x.1->Q J H'
def qou(gd:Gd U K ε k X L)(A:All U K ε k X L m)(tg it:ae){src:I}(hs:cC L it (cI m L (qfG tg) it)=some src):PI X tg it (tC U K ε Gv Hv (iI L.k src)):=by rintro pins s Z H Q I ⟨N,G,er,h⟩;have hs:cI m L (qfG tg) it=some src:=hs;exact A.i Gv Hv tg it src hs pins s Z H Q I ⟨N,G,er,Wx.mono h λx h J G' H' p it1=>h J G' H' p λi G2 H2 g hh sub=>it1 i G2 H2 g (λb o e=>hh b o (p.er.base b o e)) sub⟩
def qbv{elt tg it:ae}{ifs:List ae}{sc:bi}{own:List Str}{el:E}{src:I}{t:Tg}{c:F}(S:CompS L m elt tg it ifs sc own el src t c):∀Z H Q,tR U K ε Gv Hv (iR L.k (.comp el src t c own.length (YH L.N sc))) Z H Q->
  qh9 own (YH L.N sc) (tC U K ε Gv Hv (iI L.k src)) (gT U K X0 t) (λZ H Q=>∃Gv Hv,tT U K E0 Gv Hv (iF L.k c) Z H Q) (λZ H Q=>∃Gv Hv,tE U K E0 Gv Hv (jG el (iR L.k el)) Z H Q) Z H Q:=λZ H Q ⟨N,G,er,h⟩=>by
 refine{N,G,er,Wx.mono (Wx.th (x:=iI L.k src N) h) λx h J G1 H1 p1 it1=>?_};obtain⟨hz,h⟩:=Wx.iff h;have h:=Wx.nox (Ξ':=X0) (Wx.th h)
 refine{λi mm ys Z' H'=>mm=x.1.length - i/\i<=x.1.length/\∃Nb Gb ds,ER U K G1 H1 Gb H' Nb Z'/\ql U Gb ds ys/\ds.length<=i/\
   Wx X0 (qdA t.go (λN1=>iF L.k c N1) (jG el (iR L.k el)) (x.1.drop i) Nb ds)
    (λl=>∀v G' H',Po U K Gv Hv Z G H N G' H' x.2->RvR U K Hv H G' H' x.2 Z (.tmp l) v->Q v H'),
  {x.1.length,by simp,bd _,qal own.length (YH L.N sc) x.2,G1,[],qly p1.er own (YH L.N sc),.nil,az _,?_},?_}
 ·rw[gq];exact h
 rintro i mm ys Z' H' ⟨rfl,hi,Nb,Gb,ds,erb,rds,hdl,hw⟩;have it2:=it1 i Gb H' erb.g0 erb.base erb.sub
 by_cases hlt:i < x.1.length
 ·obtain⟨go,yl⟩:=it2.1 x.1[i] (bK hlt);have hyl:=rds.len;refine .inr ⟨go,by lia,_,λys' Z2 H2 w=>{x.1.length - (i+1),by omega,w},λv H2 hy=>?_⟩;obtain⟨G',hs,gs,sub,new,rep⟩:=yl v H2 hy;have p2:=Po.more erb hs gs sub new;rw[fD hlt]at hw;refine{G1,H1,Nb,G',x.1[i],p2.er,rep,Wx.mono (Wx.th hw) λN1 hw Z1 er1=>{G1,H1,N1,G',er1,Wx.mono2 (Wx.th hw) (λ_ _ z=>ao z) λbt hw G2 H3 p3=>?_}};obtain⟨b,N2⟩:=bt
  cases b with
  |true=>rw[if_pos rfl];refine{G1,H1,N2,G2,p3.er,Wx.mono2 (Wx.th hw) (λ_ _ z=>ao z) λy hw w G3 H4 p4 rep4=>{rfl,hlt,y.2,G3,ds++[y.1],p4.er,?_,by simp;omega,(Wx.iff hw).2}};exact(((rds.same gs).same p3.gs).same p4.gs).snoc rep4
  |false=>rw[if_neg (λz=>by cases z)];exact{rfl,hlt,N2,G2,ds,p3.er,(rds.same gs).same p3.gs,by lia,hw}
 ·have e:i=x.1.length:=by lia
  subst e;refine .inl ⟨it2.2 rfl,λp hp=>?_⟩;rw[List.drop_length]at hw;have p2:=p1.trans (Po.more p1.er erb.base erb.g0 erb.sub erb.fresh);obtain⟨z1,z2⟩:=p2.er.newList hp rds;exact hw _ _ _ (p2.trans z1) (z2.back p2.hs)
def qiK(gd:Gd U K ε k X L)(A:All U K ε k X L m)(ih:∀ε' X' L',Gd U K ε' k X' L'->All U K ε' k X' L' m)(elt:ae)(gs:List Comprehension)(sc:bi)(pos:Pos)(h:cE (m+1) L (.ListComp elt gs sc pos)=some x):PE X (.ListComp elt gs sc pos) (tR U K ε Gv Hv (iR L.k x)):=by
 obtain⟨tg,it,ifs,own,el,src,t,c,rfl,S,rfl⟩:=qlA h;have B:BlkScope X own (YH L.N sc) sc:=ZI gd S.chk
 exact PE.imp (qib own (YH L.N sc) gd.calm B (qou (Gv:=Gv) (Hv:=Hv) gd A tg it S.src) (λcl C fp s2 H2=>qfX (YJ gd B S.nd cl C fp s2 H2) tg S.tg) (λcl C fp s2 H2=>qg4 (ih _ _ _ (YJ gd B S.nd cl C fp s2 H2)) ifs S.c)
  (λcl C fp s2 H2=>qlz (ih _ _ _ (YJ gd B S.nd cl C fp s2 H2)) elt S.el) (qaD S.fold X.env)) (qbv S)
theorem qiL(gd:Gd U K ε k X L)(A:All U K ε k X L m)(f:Str)(es:List ae)(p q:Pos)(h:cE (m+1) L (.Call (.Name f p) es [] q)=some x):PE X (.Call (.Name f p) es [] q) (tR U K ε Gv Hv (iR L.k x)):=by
 obtain⟨hn,h⟩:=qk h;simp![aG]at hn;obtain⟨⟨h1,h2⟩,h3⟩:=hn
 by_cases hi:f = "isinstance"
 ·subst hi;rw[if_pos rfl]at h
  match es,h with
  |[a,b],h=>
   cases b with
   |Name t tp=>exact qls gd A a t p tp q h2 h
   |_=>cases h
  |[],h=>cases h
  |[_],h=>cases h
  | _::_::_::_,h=>cases h
 rw[if_neg hi]at h
 by_cases ht:L.tab.contains f=true
 ·rw[if_pos ht]at h;exact qfT gd A f es p q h1 h2 ht h
 rw[if_neg ht]at h
 by_cases hk:L.cs.tab.contains f=true
 ·rw[if_pos hk]at h;exact qiJ gd A f es p q h1 h2 hk h
 rw[if_neg hk]at h
 match es,h with
 |[a],h=>
  have h:(match lrE L f a with |some t=>_ |none=>_)=_:=h
  cases hl:lrE L f a with
  |some t=>rw[hl]at h;exact qnN gd A f a p q h2 hl h
  |none=>
   rw[hl]at h;have h:(match ssE L f a with |some t=>_ |none=>_)=_:=h
   cases hs:ssE L f a with
   |some t=>rw[hs]at h;exact qlq gd A f a p q h2 hs h
   |none=>rw[hs]at h;exact qfU gd A f a p q h2 h
 |[a,b],h=>exact qfV gd A f a b p q h2 h
 |[],h=>cases h
 | _::_::_::_,h=>cases h
theorem qpG(gd:Gd U K ε k X L)(A:All U K ε k X L m)(ih:∀ε' X' L',Gd U K ε' k X' L'->All U K ε' k X' L' m)(e:ae)(x:E)(h:cE (m+1) L e=some x):PE X e (tR U K ε Gv Hv (iR L.k x)):=by
 cases e with
 |Name x pos=>exact qfJ gd h pos
 |Constant c j pos=>exact qbr c j pos h
 |BinOp a op b pos=>exact qfQ A a b op pos h
 |UnaryOp op a pos=>
  cases op with
  |USub=>exact qk7 A a pos h
  |Not=>exact qiz A a pos h
  |_=>cases h
 |BoolOp op vs pos=>
  match vs,h with
  |[],h=>cases op<;>cases h
  |[a],h=>cases op<;>(obtain⟨a',h1,rfl⟩:=map_some h;exact PE.imp (qjG (A.r Gv Hv _ _ h1)) λZ H Q h=>h)
  | a::b::l,h=>
   cases op with
   |And=>exact qk8 A a b l pos h
   |Or=>cases h
 |Compare a ops bs pos=>
  match ops,bs,h with
  |[op],[b],h=>exact qiA gd A a b op pos h
  |[],_,h=>cases h
  |[_],[],h=>cases h
  | [_],_::_::_,h=>cases h
  | _::_::_,_,h=>cases h
 |IfExp c a b pos=>exact qk9 A c a b pos h
 |Subscript a b pos=>exact qlc gd A a b pos h
 |List es pos=>exact qld A es pos h
 |Tuple es j pos=>exact qle A es j pos h
 |Call fn es kws q=>
  cases fn with
  |Name f p=>
   cases kws with
   |nil=>exact qiL gd A f es p q h
   |cons kw kws=>cases h
  |Attribute o x ap=>
   cases kws with
   |nil=>exact qiI gd A o x ap es q h
   |cons kw kws=>cases h
  |_=>cases h
 |Attribute o x pos=>exact qlu gd A o x pos h
 |ListComp elt gens sc pos=>exact qiK gd A ih elt gens sc pos h
 |_=>cases h
theorem all:∀(m:Nat) (ε:XK) (X:Cx) (L:Ct),Gd U K ε k X L->All U K ε k X L m
 |0,_,_,_,_=>qpz
 | m+1,ε,X,L,gd=>
  have A:=all m ε X L gd
  ⟨λGv Hv=>qpG gd A (all m),λGv Hv=>qpA gd A,λGv Hv=>qpD gd A,λGv Hv=>qnL A,λGv Hv=>qnM A,λGv Hv=>qpB A,λGv Hv=>qpC A,λGv Hv=>qpE gd A,λGv Hv=>qpF gd A⟩
end
section
variable(U:KC)(K:Frag)(Gv Hv:Hp)
def FlP(G:Hp)(D:Ends):Fl->Prop
 | .next N'=>∀Z' G' H',ER U K Gv Hv G' H' N' Z'->qo G G'->D.nx Z' H'
 |.ret r=>∀v G' H',qo Hv H'->qo Gv G'->qo G' H'->(∀a o,G' a=some o->(∃o',Gv a=some o')\/Hv a=none)->ReR U G' H' Hv r v->D.rt v H'
def tS(ε:XK)(f:Env->R Fl):TS:=λD Z H=>∃N G,ER U K Gv Hv G H N Z/\Wx (XP U Gv Hv ε) (f N) (FlP U K Gv Hv G D)
end
structure Gs(U:KC)(K:Frag)(ε:XK)(k:Nat)(X:Cx)(L:Ct):Prop extends Gd U K ε k X L where
 own:L.z=false->k9 (al X.prog X.w) X.A X.env X.xe
 ex:X.ex=[]
 stk:X.stack=X.env::X.outer/\X.env.frame=some X.env.locals
 sceq:X.env.scope=L.sc
 fnk:L.sc.kind=.function
def PS.imp{X:Cx}{st:aC}{t t':TS}(h:PS X st t')(i:∀D Z H,t D Z H->t' D Z H):PS X st t:=λpins s Z H D I hw=>h pins s Z H D I (i D Z H hw)
def PSs.imp{X:Cx}{st:List aC}{t t':TS}(h:PSs X st t')(i:∀D Z H,t D Z H->t' D Z H):PSs X st t:=λpins s Z H D I hw=>h pins s Z H D I (i D Z H hw)
def qbw{e:ae}(h:yi e=true)(t:Option ae)(l:Nat)(env:PySem.Env):fM e t l env=pure false:=by cases e<;>first|rfl|(simp[yi]at h)
section
variable{U:KC}{ε:XK}{K:Frag}{Gv Hv:Hp}{k m w:Nat}{X:Cx}{L:Ct}
def jj{N:Env}{i:Nat}{l:List D}(h:zt N i=some l):N[i]?=some (.own l):=by
 unfold zt at h
 split at h
 ·rename_i e;cases h;exact e
 ·cases h
def ER.ownSlot{G H:Hp}{N:Env}{Z:L2.St}{i:Nat}{l:List D}(er:ER U K Gv Hv G H N Z)(e:N[i]?=some (.own l)):∃a xs,Z[i]?=some (some (.ref a))/\H a=some (.lst xs)/\ql U G l xs:=by obtain⟨a,xs,z,h1,h2,h3,h4⟩:=er.sl i _ e;exact⟨a,xs,z,h1,h4⟩
theorem qdN(gd:Gd U K ε k X L)(A:All U K ε k X L m)(x:Str)(a:ae)(xp ap cp p:Pos){i:Nat}{a':E}(hl:(ap.endLine == cp.line)=true)(s1:qw a=false)(hi:qeT L x=some i)(ha:cX m L a=some a') :
  PS X (.Expr (.Call (.Attribute (.Name x xp) "append" ap) [a] [] cp) p) (tS U K Gv Hv ε (iS L.k w (.app i a'))):=by
 have few:((bu cp (aI [a] X.env)).all (λx=>!x.1)&&(dJ cp (dM [] X.env)).all (λx=>x.1.isSome)&&decide (([a]:List ae).length+([]:List df).length+(if ([]:List df).isEmpty then 0 else 1) < 30))=true:=by rw[qe s1];rfl
 refine PS.imp (yW (qj6 lV PySem.F.slot_list_append PySem.F.type_list_append qc2 (qbk gd hi xp) (qi (A.e Gv Hv _ _ ha) qv (qe s1)) rfl few hl (qe s1) rfl) rfl) λD Z H hq1=>?_;obtain⟨N,G,er,h⟩:=hq1;have h:Wx _ (α:=Fl) (match zt N i with |none=>R.no |some _=>(jG a' (iR L.k a') N).th λy=>match zt y.2 i with |some l=>if l.length < sizeLine then .ok (.next (y.2.set i (.own (l++[y.1])))) else .no |none=>.no) _:=h
 cases e1:zt N i with
 |none=>rw[e1]at h;exact ao h
 |some l0=>
  rw[e1]at h;obtain⟨b,xs,z,h1,h2⟩:=er.ownSlot (jj e1);refine{_,z,.inl {rfl,xs,SqL.of h1},N,G,er,Wx.mono (Wx.th h) λy h v G1 H1 p1 r1=>?_}
  cases e2:zt y.2 i with
  |none=>rw[e2]at h;exact ao h
  |some l=>rw[e2]at h;obtain⟨hz,h⟩:=Wx.iff h;obtain⟨b',ys,z',h3,h4⟩:=p1.er.ownSlot (jj e2);rw[z]at z';cases z';refine{b,ys,v,rfl,rfl,h3,by rw[<-h4.len];exact hz,?_};exact h Z G1 _ (p1.er.write (jj e2) z (h4.snoc r1)) p1.gs
theorem qdO(gd:Gd U K ε k X L)(A:All U K ε k X L m)(x:Str)(a:ae)(xp ap cp p:Pos){i:Nat}{a':E}(hl:(ap.endLine == cp.line)=true)(s1:qw a=false)(hi:qeT L x=some i)(ha:cE m L a=some a') :
  PS X (.Expr (.Call (.Attribute (.Name x xp) "extend" ap) [a] [] cp) p) (tS U K Gv Hv ε (iS L.k w (.ext i a'))):=by
 have few:((bu cp (aI [a] X.env)).all (λx=>!x.1)&&(dJ cp (dM [] X.env)).all (λx=>x.1.isSome)&&decide (([a]:List ae).length+([]:List df).length+(if ([]:List df).isEmpty then 0 else 1) < 30))=true:=by rw[qe s1];rfl
 refine PS.imp (yW (qj6 lV PySem.F.slot_list_extend PySem.F.type_list_extend qc3 (qbk gd hi xp) (qi (A.r Gv Hv _ _ ha) qv (qe s1)) rfl few hl (qe s1) rfl) rfl) λD Z H hq1=>?_;obtain⟨N,G,er,h⟩:=hq1;have h:Wx _ (α:=Fl) (match zt N i with |none=>R.no |some _=>(iR L.k a' N).th λy=>match zt y.2 i,y.1.plain? with |some l,some n=>if l.length+n.length<=sizeLine then .ok (.next (y.2.set i (.own (l++n)))) else .no |_,_=>.no) _:=h
 cases e1:zt N i with
 |none=>rw[e1]at h;exact ao h
 |some l0=>
  rw[e1]at h;obtain⟨b,xs,z,h1,h2⟩:=er.ownSlot (jj e1);refine{_,z,.inl {rfl,xs,SqL.of h1},N,G,er,Wx.mono (Wx.th h) λy h v G1 H1 p1 r1=>?_}
  cases e2:zt y.2 i with
  |none=>rw[e2]at h;exact ao h
  |some l=>
   cases e3:y.1.plain? with
   |none=>rw[e2,e3]at h;exact ao h
   |some n=>rw[e2,e3]at h;obtain⟨hz,h⟩:=Wx.iff h;obtain⟨b',ys,z',h3,h4⟩:=p1.er.ownSlot (jj e2);obtain⟨c,zs,rfl,h5,h6⟩:=r1.plain p1.er e3;rw[z]at z';cases z';refine{b,c,ys,zs,rfl,rfl,h3,h5,by rw[<-h4.len,<-h6.len];exact hz,?_};exact h Z G1 _ (p1.er.write (jj e2) z (h4.app h6)) p1.gs
theorem qlB(gd:Gd U K ε k X L)(A:All U K ε k X L m)(e:ae)(p:Pos){z:E}(h:cV m L e=some z):PS X (.Return (some e) p) (tS U K Gv Hv ε (iS L.k w (.ret z))):=by
 have gen:(cE m L e).bind Qt=some z->PS X (.Return (some e) p) (tS U K Gv Hv ε (iS L.k w (.ret z))):=λh=>by
  obtain⟨y,h1,h2⟩:=dW.mp h;obtain⟨rfl,hv⟩:=zV h2;refine PS.imp (qcM (A.r Gv Hv _ _ h1)) λD Z H hq1=>?_;obtain⟨N,G,er,h⟩:=hq1;have h:=Wx.th (x:=qfH y (iR L.k y) N) h;rw[qiu hv]at h;refine{N,G,er,Wx.mono (Wx.th h) λx h v G1 H1 p1 r1=>?_};obtain⟨rv,N1⟩:=x
  cases rv with
  |val d=>exact h v G1 H1 p1.er.base p1.er.g0 p1.er.sub p1.er.fresh r1
  |tmp l=>obtain⟨a,xs,rfl,h1,h2,h3,h4,h5,h6⟩:=r1;exact h _ G1 H1 p1.er.base p1.er.g0 p1.er.sub p1.er.fresh ⟨a,xs,rfl,h1,h3,h4,h6⟩
  |_=>exact ao h
 cases e with
 |Name x pos=>
  rcases Qv gd h pos with ⟨i,rfl,P⟩|⟨d,v,rfl,e3,P⟩
  ·refine PS.imp (qcM P) λD Z H hq1=>?_;obtain⟨N,G,er,h⟩:=hq1;have h:=Wx.th (x:=slX N i) h;unfold slX at h
   cases q:N[i]? with
   |none=>rw[q]at h;exact ao h
   |some s=>
    rw[q]at h;have w:=er.sl i s q
    cases s with
    |val d=>obtain⟨v,z,r⟩:=w;exact{v,z,h v G H er.base er.g0 er.sub er.fresh r}
    |own l=>obtain⟨a,xs,z,r1,r2,r3,r4⟩:=w;exact{_,z,h _ G H er.base er.g0 er.sub er.fresh ⟨a,xs,rfl,r1,r2,r3,r4⟩}
    |_=>exact ao h
  ·refine PS.imp (qcM P) λD Z H hz70=>?_;obtain⟨N,G,er,h⟩:=hz70;exact h v G H er.base er.g0 er.sub er.fresh (e3 G)
 |_=>exact gen h
def AsR(U:KC)(K:Frag)(Hv G H:Hp)(N:Env)(Z:L2.St):Sl->V->Prop
 |.val d,v=>Rep U G d v
 |.own l,v=>∃a xs,v=.ref a/\H a=some (.lst xs)/\Hv a=none/\G a=none/\¬ qcn N Z a/\ql U G l xs
 |_,_=>False
def tA(U:KC)(K:Frag)(ε:XK)(Gv Hv:Hp)(f:Env->R (Sl×Env)):TE:=λZ H Q=>∃N G,ER U K Gv Hv G H N Z/\Wx (XP U Gv Hv ε) (f N) λs=>∀v G' H',Po U K Gv Hv Z G H N G' H' s.2->AsR U K Hv G' H' s.2 Z s.1 v->Q v H'
theorem qiM{G H:Hp}{N:Env}{Z:L2.St}{s:Sl}{v:V}{i:Nat}(er:ER U K Gv Hv G H N Z)(h:AsR U K Hv G H N Z s v):ER U K Gv Hv G H (N.set i s) (Z.set i (some v)):=by
 cases s with
 |val d=>exact er.setVal h
 |own l=>obtain⟨a,xs,rfl,h1,h2,h3,h4,h5⟩:=h;exact er.setOwn h1 h2 h3 h4 h5
 |_=>exact ao h
theorem qov{z:E}(hv:∀i,z≠.var i)(Z:L2.St)(H:Hp)(Q:VK)(h:tA U K ε Gv Hv (qco z (iR L.k z)) Z H Q):tR U K ε Gv Hv (iR L.k z) Z H Q:=by
 obtain⟨N,G,er,h⟩:=h;rw[qiv hv]at h;refine{N,G,er,Wx.mono (Wx.th h) λx h v G1 H1 p1 r1=>?_};obtain⟨rv,N1⟩:=x
 cases rv with
 |val d=>exact h v G1 H1 p1 r1
 |tmp l=>obtain⟨a,xs,rfl,h1,h2,h3,h4,h5,h6⟩:=r1;exact h _ G1 H1 p1 ⟨a,xs,rfl,h1,h3,h4,h5,h6⟩
 |_=>exact ao h
theorem qow(gd:Gd U K ε k X L)(A:All U K ε k X L m)(e:ae){z:E}(h:cV m L e=some z):PE X e (tA U K ε Gv Hv (qco z (iR L.k z))):=by
 have gen:(cE m L e).bind Qt=some z->PE X e (tA U K ε Gv Hv (qco z (iR L.k z))):=λh=>by obtain⟨y,h1,h2⟩:=dW.mp h;obtain⟨rfl,hv⟩:=zV h2;exact PE.imp (A.r Gv Hv _ _ h1) (qov hv)
 cases e with
 |Name x pos=>
  have P:=qbl (Gv:=Gv) (Hv:=Hv) gd h pos;rcases Qv gd h pos with ⟨i,rfl,_⟩|⟨d,v,rfl,_,_⟩
  ·refine PE.imp P λZ H Q hq1=>?_;obtain⟨N,G,er,h⟩:=hq1;exact{N,G,er,Wx.mono (Wx.th (x:=slE N i) h) λy h v G1 H1 p1 r1=>h v G1 H1 p1 r1}
  ·refine PE.imp P λZ H Q hz71=>?_;obtain⟨N,G,er,h⟩:=hz71;exact⟨N,G,er,h⟩
 |_=>exact gen h
theorem qlC(gs:Gs U K ε k X L)(A:All U K ε k X L m)(x:Str)(e:ae)(xp p:Pos){i:Nat}{z:E}(hi:qir L x=some i)(hz:cV m L e=some z):PS X (.Assign [.Name x xp] e p) (tS U K Gv Hv ε (iS L.k w (.set i z))):=by
 have gd:=gs.toGd;obtain⟨l1,l2,hN,hxi⟩:=qg1 gd hi
 have fin:∀(D:Ends) (Z:L2.St) (H:Hp),tS U K Gv Hv ε (iS L.k w (.set i z)) D Z H->tA U K ε Gv Hv (qco z (iR L.k z)) Z H (λy H1=>qe0 i y Z H1 D.nx):=λD Z H ⟨N,G,er,h⟩=>{N,G,er,Wx.mono (Wx.th (x:=qco z (iR L.k z) N) h) λs h v G1 H1 p1 r1=>h _ G1 H1 (qiM p1.er r1) p1.gs}
 by_cases hn:yi e=true
 ·exact PS.imp (qgF (i:=i) hN hxi l1 (qow gd A e hz) (qbw hn _ _ _) l2) fin
 cases e with
 |ListComp elt gens sc cp=>
  have hsw:∀b:Bool,(X.env.blockKind == .function&&X.env.kindOf x == some .local&&xp.line == cp.line&&!(sc.names.any λ(n,k)=>n == x&&(k == .local||k == .cell)))=b->fM (.ListComp elt gens sc cp) (some (.Name x xp)) p.line X.env=pure b:=λb hb=>by rw[<-hb];rfl
  cases hb:(X.env.blockKind == .function&&X.env.kindOf x == some .local&&xp.line == cp.line&&!(sc.names.any λ(n,k)=>n == x&&(k == .local||k == .cell))) with
  |false=>exact PS.imp (qgF (i:=i) hN hxi l1 (qow gd A _ hz) (hsw false hb) l2) fin
  |true=>
   have hloc:X.env.scope.names.lookup x=some .local:=by
    simp![aG]at hb
    have:=hb.1.1.2
    unfold PySem.Env.kindOf at this
    simpa using this
   obtain⟨y,h1,h2⟩:=dW.mp hz;obtain⟨rfl,hv⟩:=zV h2
   cases m with
   |zero=>cases h1
   |succ m=>
    obtain⟨tg,it,ifs,own,el,src,t,c,rfl,S,rfl⟩:=qlA h1;have B:BlkScope X own (YH L.N sc) sc:=ZI gd S.chk
    exact PS.imp (qic (i:=i) own (YH L.N sc) hN hxi hloc gd.calm B (qou (Gv:=Gv) (Hv:=Hv) gd (all m _ X L gd) tg it S.src) (λcl C fp s2 H2=>qfX (YJ gd B S.nd cl C fp s2 H2) tg S.tg) (λcl C fp s2 H2=>qg4 (all m _ _ _ (YJ gd B S.nd cl C fp s2 H2)) ifs S.c)
     (λcl C fp s2 H2=>qlz (all m _ _ _ (YJ gd B S.nd cl C fp s2 H2)) elt S.el) (hsw true hb) (qaD S.fold X.env)) λD Z H h=>qbv S Z H _ (qov hv Z H _ (fin D Z H h))
 |SetComp=>cases m<;>cases hz
 |DictComp=>cases m<;>cases hz
 |_=>exact absurd rfl hn
def qlD{n:Str}{l:Es}(st:aC):PS X st (tS U K Gv Hv ε (iS L.k w (.rai n l))):=λpins s Z H D I hq=>by
 obtain⟨N,G,er,hw⟩:=hq;have hw:Wx (XP U Gv Hv ε) ((noX (iEs L.k l N)).th λx=>(R.no:R Fl)) _:=hw
 cases e:iEs L.k l N<;>(rw[e]at hw;exact ao hw)
structure AllS(U:KC)(K:Frag)(ε:XK)(X:Cx)(L:Ct)(m w:Nat):Prop where
 s:∀Gv Hv st x,cS m L st=some x->PS X st (tS U K Gv Hv ε (iS L.k w x))
 ss:∀Gv Hv l x,cSs m L l=some x->PSs X l (tS U K Gv Hv ε (iSs L.k w x))
theorem FlP.back{G G1:Hp}{D:Ends}{f:Fl}(h:FlP U K Gv Hv G D f)(g:qo G G1):FlP U K Gv Hv G1 D f:=by
 cases f with
 |next N=>exactλZ' G' H' er g'=>h Z' G' H' er λb o e=>g' b o (g b o e)
 |ret r=>exact h
def qfY{e:ae}(h:qdB e=true)(es:List ae)(j:Nat)(p:Pos)(env:PySem.Env):swappedStores [.Tuple es j p] e env=pure none:=by cases e<;>first|rfl|(simp[qdB]at h)
def qdP(gd:Gd U K ε k X L)(A:All U K ε k X L m)(es:List ae)(j:Nat)(tp:Pos)(e:ae)(p:Pos){x:S}(h:cS (m+1) L (.Assign [.Tuple es j tp] e p)=some x):PS X (.Assign [.Tuple es j tp] e p) (tS U K Gv Hv ε (iS L.k w x)):=by obtain⟨hc,h⟩:=qk h;obtain⟨t,a',h1,h2,rfl⟩:=qj h;rw[aG]at hc;refine PS.imp (qgE (A.e Gv Hv _ _ h2) (qfX (Ξ:=XP U Gv Hv ε) gd (.Tuple es j tp) h1) (show k8 [.Tuple es j tp] e p.line X.env=pure false from qbw hc.1 (some (.Tuple es j tp)) p.line X.env) (qfY hc.2 es j tp _) rfl) λD Z H hq1=>?_;obtain⟨N,G,er,h⟩:=hq1;refine{N,G,er,Wx.mono (Wx.th (x:=jG a' (iR L.k a') N) h) λx h v G1 H1 p1 r1=>?_};exact{Gv,Hv,x.2,G1,x.1,p1.er,r1,Wx.mono (Wx.th h) λN1 h Z1 er1=>h Z1 G1 H1 er1 p1.gs}
def qnP(r:Env->R (Rv×Env))(i:Nat)(d:D)(N:Env):R Fl:=match zt N i with
 |none=>.no
 |some _=>(r N).th λz=>match zt z.2 i,z.1.int? with
  |some l,some n=>(match ixN l.length n with
   |some k=>.ok (.next (z.2.set i (.own (l.set k d))))
   |none=>.no)
  |_,_=>.no
def gS(U:KC)(K:Frag)(ε:XK)(Gv Hv:Hp)(r:Env->R (Rv×Env))(i:Nat):TG:=λv Z H Q=>∃(N:Env) (G:Hp) (d:D) (D:Ends),ER U K Gv Hv G H N Z/\Rep U G d v/\Wx (XP U Gv Hv ε) (qnP r i d N) (FlP U K Gv Hv G D)/\∀H',D.nx Z H'->Q Z H'
theorem qnQ(gd:Gd U K ε k X L)(A:All U K ε k X L m)(x:Str)(i:ae)(xp p:Pos)(hs:Qr i=true){j:Nat}{i':E}(hj:qeT L x=some j)(hi:cE m L i=some i'):PG X (.Subscript (.Name x xp) i p) (gS U K ε Gv Hv (iR L.k i') j):=by
 refine PG.imp (qjM (qbk gd hj xp) (A.r Gv Hv _ _ hi) qfg (λv=>by cases i<;>first|rfl |(simp[Qr]at hs))) λv Z H Q hq1=>?_;obtain⟨N,G,d,D,er,r,h,hQ⟩:=hq1;unfold qnP at h
 cases e1:zt N j with
 |none=>rw[e1]at h;exact ao h
 |some l0=>
  rw[e1]at h;obtain⟨b,xs,z,h1,h2⟩:=er.ownSlot (jj e1);refine{_,z,N,G,er,Wx.mono (Wx.th h) λy h u G1 H1 p1 r1=>?_}
  cases e2:zt y.2 j with
  |none=>rw[e2]at h;exact ao h
  |some l=>
   cases e3:y.1.int? with
   |none=>rw[e2,e3]at h;exact ao h
   |some n=>
    rw[e2,e3]at h;dsimp only at h
    cases e4:ixN l.length n with
    |none=>rw[e4]at h;exact ao h
    |some c=>rw[e4]at h;obtain⟨b',ys,z',h3,h4⟩:=p1.er.ownSlot (jj e2);rw[z]at z';cases z';refine{b,ys,n,c,rfl,r1.int e3,h3,by rw[<-h4.len];exact e4,hQ _ ?_};exact h Z G1 _ (p1.er.write (jj e2) z (h4.set c (r.same p1.gs))) p1.gs
def qdQ(gd:Gd U K ε k X L)(A:All U K ε k X L m)(x:Str)(i e:ae)(xp sp p:Pos){y:S}(h:cS (m+1) L (.Assign [.Subscript (.Name x xp) i sp] e p)=some y):PS X (.Assign [.Subscript (.Name x xp) i sp] e p) (tS U K Gv Hv ε (iS L.k w y)):=by obtain⟨hc,h⟩:=qk h;obtain⟨j,q,h1,h2,rfl⟩:=qj h;obtain⟨i',a',h3,h4,rfl⟩:=qj h2;rw[aG]at hc;refine PS.imp (qgE (A.e Gv Hv _ _ h4) (qnQ (Gv:=Gv) (Hv:=Hv) gd A x i xp sp hc.2 h1 h3) (show k8 [.Subscript (.Name x xp) i sp] e p.line X.env=pure false from qbw hc.1 (some (.Subscript (.Name x xp) i sp)) p.line X.env) rfl rfl) λD Z H hq1=>?_;obtain⟨N,G,er,h⟩:=hq1;exact{N,G,er,Wx.mono (Wx.th (x:=jG a' (iR L.k a') N) h) λy h v G1 H1 p1 r1=>{y.2,G1,y.1,D,p1.er,r1,Wx.mono (show Wx _ (qnP (iR L.k i') j y.1 y.2) _ from h) λf hf=>hf.back p1.gs,λ_ h=>h}}
theorem qnR(A:All U K ε k X L m)(S:AllS U K ε X L m w)(c:ae)(a b:List aC)(p:Pos){x:DE.S}(h:cS (m+1) L (.If c a b p)=some x):PS X (.If c a b p) (tS U K Gv Hv ε (iS L.k w x)):=by
 obtain⟨c',q,h1,h2,rfl⟩:=qj h;obtain⟨a',b',h3,h4,rfl⟩:=qj h2;refine PS.imp (qcN (A.t Gv Hv _ _ h1) (S.ss Gv Hv _ _ h3) (S.ss Gv Hv _ _ h4)) λD Z H hq1=>?_;obtain⟨N,G,er,h⟩:=hq1;refine{N,G,er,Wx.mono (Wx.th (x:=iT L.k c' N) h) λt h G1 H1 p1=>?_};obtain⟨d,N1⟩:=t
 cases d with
 |true=>rw[if_pos rfl];exact{N1,G1,p1.er,Wx.mono h λf hf=>hf.back p1.gs}
 |false=>rw[if_neg (λz=>by cases z)];exact{N1,G1,p1.er,Wx.mono h λf hf=>hf.back p1.gs}
def qlE(gs:Gs U K ε k X L)(A:All U K ε k X L m)(S:AllS U K ε X L m w)(tg it:ae)(body:List aC)(p:Pos){x:DE.S}(h:cS (m+1) L (.For tg it body [] p)=some x):PS X (.For tg it body [] p) (tS U K Gv Hv ε (iS L.k w x)):=by
 obtain⟨hf,h⟩:=qk h;rw[aG]at hf;obtain⟨hz,hf⟩:=hf;have hz:L.z=false:=(-hz:)
 obtain⟨q,b',h1,h2,rfl⟩:=qj h;obtain⟨t,src,h3,h4,rfl⟩:=qj h1;refine PS.imp (qjO (gs.own hz) gs.calm (A.i Gv Hv _ _ _ h4) (qfX (Ξ:=XP U Gv Hv ε) gs.toGd tg h3) (S.ss Gv Hv _ _ h2) (qaD hf X.env)) λD Z H hq1=>?_;obtain⟨N,G,er,h⟩:=hq1;refine{N,G,er,Wx.mono (Wx.th (x:=iI L.k src N) h) λx h J G1 H1 p1 it1=>?_}
 refine{λi mm Z' H'=>mm=x.1.length - i/\i<=x.1.length/\∃Nb Gb,ER U K Gv Hv Gb H' Nb Z'/\qo G1 Gb/\Wx (XP U Gv Hv ε) (qm2 (λd N1=>(t.go d N1).th λN2=>iSs L.k w b' N2) (x.1.drop i) Nb) (FlP U K Gv Hv G D),
  {x.1.length,by simp,bd _,x.2,G1,p1.er,λ_ _ e=>e,by rw[gq];exact h},?_}
 rintro i mm Z' H' ⟨rfl,hi,Nb,Gb,erb,g1,hw⟩;have it2:=it1 i Gb H' g1 erb.base erb.sub
 by_cases hlt:i < x.1.length
 ·obtain⟨go,yl⟩:=it2.1 x.1[i] (bK hlt);refine .inr ⟨go,_,λZ2 H2 w=>{x.1.length - (i+1),by omega,w},λv H2 hy=>?_⟩;obtain⟨G',hs,gss,sub,new,rep⟩:=yl v H2 hy;have p2:=Po.more erb hs gss sub new;rw[fD hlt]at hw;refine{Gv,Hv,Nb,G',x.1[i],p2.er,rep,Wx.mono (Wx.th (Wx.th hw)) λN2 hw Z2 er2=>{N2,G',er2,Wx.mono hw λf hf=>?_}}
  cases f with
  |next N3=>exactλZ3 G3 H3 er3 g3=>{rfl,hlt,N3,G3,er3,λb o e=>g3 b o (gss b o (g1 b o e)),hf}
  |ret r=>exact hf
 ·have e:i=x.1.length:=by lia
  subst e;rw[List.drop_length]at hw;exact .inl ⟨it2.2 rfl,hw Z' Gb H' erb λb o e=>g1 b o (p1.gs b o e)⟩
theorem qfZ(gs:Gs U K ε k X L)(A:All U K ε k X L m)(S:AllS U K ε X L m w)(c:ae)(body:List aC)(p:Pos){x:DE.S}(h:cS (m+1) L (.While c body [] p)=some x):PS X (.While c body [] p) (tS U K Gv Hv ε (iS L.k w x)):=by
 obtain⟨hz,h⟩:=qk h;have hz:L.z=false:=(-hz:)
 obtain⟨c',b',h1,h2,rfl⟩:=qj h;refine PS.imp (qe2 (gs.own hz) (A.t Gv Hv _ _ h1) (S.ss Gv Hv _ _ h2)) λD Z H hq1=>?_;obtain⟨N,G,er,h⟩:=hq1;refine{λn Z' H'=>∃Nb Gb,ER U K Gv Hv Gb H' Nb Z'/\qo G Gb/\Wx (XP U Gv Hv ε) (whL (λN1=>iT L.k c' N1) (λN1=>iSs L.k w b' N1) n Nb) (FlP U K Gv Hv G D),{w,N,G,er,λ_ _ e=>e,h},?_};rintro n Z' H' ⟨Nb,Gb,erb,g1,hw⟩
 cases n with
 |zero=>exact ao hw
 |succ n=>
  refine{Nb,Gb,erb,Wx.mono (Wx.th (x:=iT L.k c' Nb) hw) λb hw G2 H2 p2=>?_};obtain⟨d,N2⟩:=b
  cases d with
  |false=>rw[if_neg (λz=>by cases z)];exact hw Z' G2 H2 p2.er λb o e=>p2.gs b o (g1 b o e)
  |true=>
   rw[if_pos rfl];refine{_,λZ3 H3 w=>{n,f8 n,w},N2,G2,p2.er,Wx.mono (Wx.th hw) λf hf=>?_}
   cases f with
   |next N3=>exactλZ3 G3 H3 er3 g3=>{N3,G3,er3,λb o e=>g3 b o (p2.gs b o (g1 b o e)),hf}
   |ret r=>exact hf
theorem qiN(gd:Gd U K ε k X L)(A:All U K ε k X L m)(e:ae)(p:Pos){x:S}(h:cS (m+1) L (.Expr e p)=some x):PS X (.Expr e p) (tS U K Gv Hv ε (iS L.k w x)):=by
 have gen:oif (yi e) ((cE m L e).map .expr)=some x->PS X (.Expr e p) (tS U K Gv Hv ε (iS L.k w x)):=λh=>by obtain⟨hn,h⟩:=qk h;obtain⟨a',h1,rfl⟩:=map_some h;refine PS.imp (yW (A.r Gv Hv _ _ h1) (qbw hn _ _ _)) λD Z H hq1=>?_;obtain⟨N,G,er,h⟩:=hq1;exact{N,G,er,Wx.mono (Wx.th (x:=iR L.k a' N) h) λx h v G1 H1 p1 r1=>h Z G1 H1 p1.er p1.gs}
 cases e with
 |Call fn es kws cp=>
  cases fn with
  |Attribute o meth ap=>
   cases o with
   |Name y yp=>
    cases kws with
    |cons kw kws=>exact match es,h,gen with |[],h,gen=>gen h |[_],h,gen=>gen h|_::_::_,h,gen=>gen h
    |nil=>
     match es,h,gen with
     |[a],h,gen=>
      obtain⟨hc,h⟩:=qk h;rw[aG]at hc;have hs:qw a=false:=(-hc.2:)
      by_cases h1:meth = "append"
      ·subst h1;rw[if_pos rfl]at h;obtain⟨i,a',h2,h3,rfl⟩:=qj h;exact qdN gd A y a yp ap cp p hc.1 hs h2 h3
      rw[if_neg h1]at h
      by_cases h2:meth = "extend"
      ·subst h2;rw[if_pos rfl]at h;obtain⟨i,a',h2,h3,rfl⟩:=qj h;exact qdO gd A y a yp ap cp p hc.1 hs h2 h3
      rw[if_neg h2]at h;cases h
     |[],h,gen=>cases h
     | _::_::_,h,gen=>exact gen h
   |_=>exact gen h
  |_=>exact gen h
 |_=>exact gen h
theorem qpH(gs:Gs U K ε k X L)(A:All U K ε k X L m)(S:AllS U K ε X L m w)(st:aC)(x:DE.S)(h:cS (m+1) L st=some x):PS X st (tS U K Gv Hv ε (iS L.k w x)):=by
 cases st with
 |Pass p=>cases h;exact PS.imp qhx λD Z H ⟨N,G,er,h⟩=>h Z G H er λ_ _ e=>e
 |Raise ex ca p=>
  have stuck:∀{y:DE.S},y=.stuck->PS X (.Raise ex ca p) (tS U K Gv Hv ε (iS L.k w y)):=λ{y} e=>by subst e;refineλpins s Z H D I hz72=>?_;obtain⟨N,G,er,h⟩:=hz72;exact ao h
  replace h:=(Option.some.inj h).symm
  cases e:ex.bind cN with
  |none=>rw[e]at h;exact stuck h
  |some t=>
   rw[e]at h
   cases ca with
   |some _=>exact stuck h
   |none=>
    dsimp only at h
    by_cases hc:(!L.z&&xnB L t.1)=true
    case neg=>rw[if_neg hc]at h;exact stuck h
    rw[if_pos hc]at h;simp![aG,da]at hc
    cases e2:cEs m L (t.2.1::t.2.2) with
    |none=>rw[e2]at h;exact stuck h
    |some l=>rw[e2]at h;subst h;exact qlD _
 |Expr e p=>exact qiN gs.toGd A e p h
 |Return o p=>
  cases o with
  |some e=>obtain⟨y,h1,rfl⟩:=map_some h;exact qlB gs.toGd A e p h1
  |none=>cases h;exact PS.imp qhy λD Z H ⟨N,G,er,h⟩=>h .non G H er.base er.g0 er.sub er.fresh (by simp![ReR,Rep])
 |Assign tgs e p=>
  match tgs,h with
  |[],h=>cases h
  | _::_::_,h=>cases h
  |[tg],h=>
   cases tg with
   |Name x xp=>obtain⟨i,z,h1,h2,rfl⟩:=qj h;exact qlC gs A x e xp p h1 h2
   |Tuple es j tp=>exact qdP gs.toGd A es j tp e p h
   |Subscript o i sp=>
    cases o with
    |Name x xp=>exact qdQ gs.toGd A x i e xp sp p h
    |_=>cases h
   |_=>cases h
 |If c a b p=>exact qnR A S c a b p h
 |For tg it body orelse p=>
  cases orelse with
  |nil=>exact qlE gs A S tg it body p h
  |cons s l=>cases h
 |While c body orelse p=>
  cases orelse with
  |nil=>exact qfZ gs A S c body p h
  |cons s l=>cases h
 |_=>cases h
theorem qnS(S:AllS U K ε X L m w):∀l x,cSs (m+1) L l=some x->PSs X l (tS U K Gv Hv ε (iSs L.k w x))
 |[],_,h=>by cases h;exact PSs.imp JO λD Z H ⟨N,G,er,h⟩=>h Z G H er λ_ _ e=>e
 | st::l,_,h=>by
  obtain⟨s',l',h1,h2,rfl⟩:=qj h;refine PSs.imp (zo (S.s Gv Hv _ _ h1) (S.ss Gv Hv _ _ h2)) λD Z H hq1=>?_;obtain⟨N,G,er,h⟩:=hq1;refine{N,G,er,Wx.mono (Wx.th (x:=iS L.k w s' N) h) λf hf=>?_}
  cases f with
  |next N1=>exactλZ1 G1 H1 er1 g1=>{N1,G1,er1,Wx.mono hf λf hf=>hf.back g1}
  |ret r=>exact hf
theorem qox:∀(m:Nat) (ε:XK) (X:Cx) (L:Ct),Gs U K ε k X L->AllS U K ε X L m w
 |0,_,_,_,_=>{(λ_ _ _ _ h=>nomatch h),(λ_ _ _ _ h=>nomatch h)}
 | m+1,ε,X,L,gs=>
  have S:=qox m ε X L gs
  ⟨λGv Hv=>qpH gs (all m _ X L gs.toGd) S,λGv Hv=>qnS S⟩
end
def Yx(st:aC):List Str:=(qW st).args.map (·.arg)
def fnN(st:aC):List Str:=Yx st++(qh st).names.filterMap λx=>if ((x.2 == .local||x.2 == .cell)&&!(Yx st).contains x.1)=true then some x.1 else none
def y0(st:aC):Bool:=(qh st).kind == .function&&!(qh st).isCoroutine&&!(qh st).isGenerator&&decide (fnN st).Nodup&&(Yx st).all (qkP (qh st))&&(qh st).names.all λy=>y.2 != .free
def toSl:Ar->Sl
 |.val d=>.val d
 |.bor l=>.bor l
 |.scr l=>.scr l
def yj(N:List Str)(args:List Ar):Env:=args.map toSl++cz (N.length - args.length) .no
structure Pg where
 defs:List (Str×aC)
 gl:Str->Option D
 m:Nat
 w:Nat
 meths:List (Str×aC):=[]
 cs:Cs:=Cs.non
 nw:Nat->Str->List Ar->R Rv:=λ_ _ _=>.no
 xx:Xs:={}
def Pg.ct(pg:Pg)(k:Nat)(cl:Str->List Ar->R Rv)(st:aC):Ct:={fnN st,qh st,pg.defs.map (·.1),pg.gl,cl,pg.cs,pg.nw k,false,decide (2<=k)}
def flR:Fl->R Rv
 |.next _=>.ok (.val .non)
 |.ret r=>.ok r
def evF(pg:Pg)(k:Nat)(cl:Str->List Ar->R Rv)(st:aC)(args:List Ar):R Rv:=
 if (y0 st&&args.length == (Yx st).length)=true then (match cSs pg.m (pg.ct k cl st) (qA st) with
  |some b=>(iSs (pg.ct k cl st).k pg.w b (yj (fnN st) args)).th flR
  |none=>.no) else .no
def clK(pg:Pg):Nat->Str->List Ar->R Rv
 |0,_,_=>.no
 | k+1,f,args=>match (pg.defs++pg.meths).lookup f with
  |some st=>evF pg k (clK pg k) st args
  |none=>.no
def FnF(K:Frag)(mg:PR)(f:Str)(st:aC):Prop:=∃fa fd,Fun K f f st fa fd/\mg f=some (.ref fa)/\zp K fd (Yx st) []
inductive AllF(K:Frag)(mg:PR):List (Str×aC)->Prop where
 | nil:AllF K mg []
 | cons {f:Str} {st:aC} {l:List (Str×aC)} (h:FnF K mg f st) (t:AllF K mg l):AllF K mg ((f,st)::l)
theorem AllF.mem{K:Frag}{mg:PR}:∀{l:List (Str×aC)} {f:Str} {st:aC},AllF K mg l->(f,st)∈l->FnF K mg f st
 |_,_,_,.nil,h=>by cases h
 |_,_,_,.cons h t,m=>by
  cases m with
  |head=>exact h
  |tail _ m=>exact t.mem m
def QZ(P:aE)(wd:aB)(U:KC)(K:Frag)(mg:PR)(base:au)(pg:Pg)(k:Nat):Prop:=
 (∀(f:Str) (st:aC),pg.defs.lookup f=some st->∃fa fd,FnOk P wd K mg base CX0 k fa fd (Yx st) (spF U K (clK pg k) f)/\mg f=some (.ref fa)/\dz K (.ref fa)=true/\zp K fd (Yx st) [])/\
 (∀(f:Str) (st:aC),pg.meths.lookup f=some st->pg.defs.lookup f=none->∀nm fa fd,Fun K nm f st fa fd->FnOk P wd K mg base CX0 k fa fd (Yx st) (spF U K (clK pg k) f))
structure PgOk(U:KC)(K:Frag)(mg:PR)(pg:Pg):Prop where
 fn:AllF K mg pg.defs
 blt:∀f∈qdC,mg f=none
 gl:∀x d,pg.gl x=some d->∃v u,mg x=some u/\qK v u/\∀G,Rep U G d v
 cls:∀c C,U c=some C->Cls K C
 flds:∀c x C,pg.cs.fld c x=true->U c=some C->ze K C x
 mts:∀c x f,pg.cs.mt c x=some f->∃C fa fd st nm,U c=some C/\Meth K C x fa/\pg.meths.lookup f=some st/\pg.defs.lookup f=none/\Fun K nm f st fa fd/\zp K fd (Yx st) []
 mks:∀P wd base k,(∀j,j < k->QZ P wd U K mg base pg j)->∀f,pg.cs.tab.contains f=true->(∀args,pg.nw k f args=.no)\/∃C fa fd ps sp,Mk K C fa/\FnOk P wd K mg base CX0 (k - 1) fa fd ps sp/\mg f=some (.ref C)/\zp K fd ps []/\0 < k/\
  ∀vs H Q E,spF U K (pg.nw k) f vs H Q E->∀x dx,H x=none->H dx=none->dx≠x->sp (.ref x::vs) (upd (upd H dx (.own x)) x (.ins C dx [])) (λv H2=>v=.non/\Q (.ref x) H2) E
 subs:∀c t b,pg.cs.sub c t=some b->∃C T,U c=some C/\(∀H p dx fs,H p=some (HO.ins C dx fs)->TyOf K H (.ref p) (.ref C))/\mg t=some (.ref T)/\di K (.ref C) (.ref T)=some b
section
variable{P:aE}{wd:aB}{U:KC}{K:Frag}{mg:PR}{base:au}{pg:Pg}
theorem JG.len{G H:Hp}:∀{args:List Ar} {vs:List V},JG U K G H args vs->args.length=vs.length
 |[],vs,h=>by simp![JG]at h;subst h;rfl
 | a::l,vs,h=>by simp![JG]at h;obtain⟨v,r,rfl,_,h2⟩:=h;simp[JG.len h2]
theorem JG.at{G H:Hp}:∀{args:List Ar} {vs:List V} {i:Nat} {a:Ar},JG U K G H args vs->args[i]?=some a->∃v,vs[i]?=some v/\ArR U K G H a v
 |[],vs,i,a,h,e=>by simp at e
 | b::l,vs,0,a,h,e=>by simp![JG]at h;obtain⟨v,r,rfl,h1,h2⟩:=h;simp at e;subst e;exact⟨v,rfl,h1⟩
 | b::l,vs,i+1,a,h,e=>by simp![JG]at h;obtain⟨v,r,rfl,h1,h2⟩:=h;obtain⟨v',e1,e2⟩:=JG.at (i:=i) h2 (-e:);exact{v',(-e1:),e2}
def qf0{G H:Hp}{args:List Ar}{vs:List V}{N:List Str}(sub:qo G H)(h:JG U K G H args vs):ER U K G H G H (yj N args) (L2.start N vs):=by
 have hl:=h.len;refine{by simp[yj,L2.start,hl],sub,λ_ _ e=>e,λ_ _ e=>e,λa o e=>.inl ⟨o,e⟩,λi s e=>?_,λi j a l n e1=>?_}
 ·unfold yj at e;unfold L2.start
  by_cases hi:i < args.length
  ·rw[dm (-hi:),bE]at e;obtain⟨b,e1,rfl⟩:=bF.mp e;obtain⟨v,e2,e3⟩:=h.at e1;rw[dm (by rw[aD,<-hl];exact hi),bE,e2]
   cases b with
   |val d=>exact⟨v,rfl,e3⟩
   |bor l=>obtain⟨a,xs,rfl,h1,h2⟩:=e3;exact⟨a,xs,rfl,h1,h2⟩
   |scr l=>obtain⟨a,xs,rfl,h1,h2⟩:=e3;exact⟨a,xs,rfl,h1,h2⟩
  ·rw[cZ (-hi:)]at e
   have:s=.no:=by
    have:=dn e
    exact io this
   subst this;trivial
 ·exfalso;unfold yj at e1
  by_cases hi:i < args.length
  ·rw[dm (-hi:),bE]at e1;obtain⟨b,_,z⟩:=bF.mp e1
   cases b<;>cases z
  ·rw[cZ (-hi:)]at e1
   have:=io (dn e1)
   cases this
def YK{st:aC}(h:y0 st=true):FnScope (fnN st) (Yx st) (qh st):=by unfold y0 at h;simp![aG,da,eX]at h;obtain⟨⟨⟨⟨⟨h1,h2⟩,h3⟩,h4⟩,h5⟩,h6⟩:=h;refine{by simpa using h1,h2,h3,of_decide_eq_true h4,by simp[fnN],λx hx=>qdD (h5 x hx),λy hy=>by simpa using h6 y hy}
def JH{k:Nat}{f:Str}{st:aC}{args:List Ar}(h:(pg.defs++pg.meths).lookup f=some st):clK pg (k+1) f args=evF pg k (clK pg k) st args:=by show(match (pg.defs++pg.meths).lookup f with |some st=>_ |none=>R.no)=_;rw[h]
theorem qdR{f:Str}{st:aC}:∀{l m:List (Str×aC)},l.lookup f=some st->(l++m).lookup f=some st
 |[],m,h=>by cases h
 | (g,s)::l,m,h=>by
  rw[bh]at h;rw[bN,bh]
  cases e:(f == g) with
  |true=>rw[e]at h;exact h
  |false=>rw[e]at h;exact qdR h
theorem qg5{f:Str}:∀{l m:List (Str×aC)},l.lookup f=none->(l++m).lookup f=m.lookup f
 |[],m,h=>rfl
 | (g,s)::l,m,h=>by
  rw[bh]at h;rw[bN,bh]
  cases e:(f == g) with
  |true=>rw[e]at h;cases h
  |false=>rw[e]at h;exact qg5 h
theorem ZJ{f:Str}:∀{l:List (Str×aC)},(l.map (·.1)).contains f=true->∃st,l.lookup f=some st
 |[],h=>by simp at h
 | (g,st)::l,h=>by
  by_cases e:f=g
  ·subst e;exact{st,by simp[bh]}
  ·have hb:(f == g)=false:=(-e:)
   obtain⟨s,hs⟩:=ZJ (l:=l) (f:=f) (by simp![av,kR,hb,Bool.false_or]at h;exact h)
   exact{s,by rw[bh,hb];exact hs}
def qnT(ok:PgOk U K mg pg){k:Nat}(ih:∀j,j<=k->QZ P wd U K mg base pg j){f:Str}{st:aC}{fa:ad}{cdv:aa}{A:aH}{outer:List PySem.Env}{s:ag}{H:Hp}{E:XK}(S:FnScope (fnN st) (Yx st) (qh st))(hr:Room k (A.deeper (dw f (qh st) s.heap.objs.size fa cdv))) :
  Gs U K E k (qfd CX0 P wd K mg base (fnN st) f (qh st) fa cdv A outer s H E) (pg.ct k (clK pg k) st):=
 {ps:=λ_ _ _ _ _ _ _ h=>ao h
  hN:=rfl
  vis:=λx h=>qgW h
  loc:=λx h=>{qdD h,.inl rfl}
  glo:=λx h=>by have h:((qh st).names.lookup x == some NameKind.globalImplicit)=true:=h;exact(by simpa using h:(qh st).names.lookup x=some .globalImplicit)
  cf:=λx h=>h
  nd:=S.nd
  calm:=rfl
  hK:=rfl
  room:=hr
  fns:=λg hg=>by obtain⟨st',hl⟩:=ZJ (l:=pg.defs) hg;obtain⟨ga,gd,G1,G2,G3,G4⟩:=(ih k (az k)).1 g st' hl;exact{ga,gd,Yx st',G1,G2,G3,G4}
  blt:=ok.blt
  gl:=ok.gl
  cls:=ok.cls
  flds:=ok.flds
  mts:=λc x f h=>by obtain⟨C,fa,fd,st',nm,m1,m2,m3,m4,m5,m6⟩:=ok.mts c x f h;exact{C,fa,fd,_,m1,m2,(ih k (az k)).2 f st' m3 m4 nm fa fd m5,m6}
  mks:=ok.mks P wd base k λj hj=>ih j (Nat.le_of_lt hj)
  subs:=ok.subs
  own:=λ_=>PassesOwn.leaving
  ex:=rfl
  stk:=⟨rfl,rfl⟩
  sceq:=rfl
  fnk:=S.kind }
def qbx{k:Nat}{fa:ad}{fd:bO}{ps:List Str}{sp sp':Sp}(F:FnOk P wd K mg base CX0 k fa fd ps sp)(h:∀vs H Q E,sp' vs H Q E->sp vs H Q E0):FnOk P wd K mg base CX0 k fa fd ps sp':=
 ⟨λvs H Q E q=>F.len vs H Q E0 (h vs H Q E q),λA outer s H args us vs Q E hr he hb hv hs=>d9 (F.run A outer s H args us vs Q E0 hr he hb hv (h vs H Q E hs)) λr s' q=>by
  cases r with
  |error e=>exact ao q
  |ok fl=>cases fl<;>exact q⟩
def qdS{k:Nat}{st:aC}{args:List Ar}{cl:Str->List Ar->R Rv}{Ξ:XW}{g:Rv->Prop}(z:Wx Ξ (evF pg k cl st args) g):(y0 st=true/\args.length=(Yx st).length)/\
  Wx Ξ (match cSs pg.m (pg.ct k cl st) (qA st) with |some b=>(iSs (pg.ct k cl st).k pg.w b (yj (fnN st) args)).th flR |none=>.no) g:=by
 unfold evF at z;obtain⟨hc,z⟩:=Wx.iff z;simp![aG,beq_iff_eq]at hc;exact⟨hc,z⟩
def Fun.ok0{x qual:Str}{st:aC}{f:ad}{fd:bO}{N ps:List Str}{k:Nat}{sp:Sp}(F:Fun K x qual st f fd)(S:FnScope N ps (qh st))(len:∀vs H Q E,sp vs H Q E->vs.length=ps.length)
  (body:∀(cdv:aa) (A:aH) (outer:List PySem.Env) (s:ag) (H:Hp) (vs:List V) (Q:VK) (E:XK),Room k (A.deeper (dw qual (qh st) s.heap.objs.size f cdv))->sp vs H Q E->
   ∃t,PSs (qfd CX0 P wd K mg base N qual (qh st) f cdv A outer s H E) (qA st) t/\t { nx:=λ_ H'=>Q .non H',rt:=Q } (start N vs) H):FnOk P wd K mg base CX0 (k+1) f fd ps sp:=by
 obtain⟨oc,od,kV,doc,pm,an,cdv,ct,osl,rfl,lk,hcd⟩:=F.ex;exact qj1 lk hcd S len λA outer s H vs Q E hr hsp=>body cdv A outer s H vs Q E hr hsp
def qaE(ok:PgOk U K mg pg){k:Nat}(ih:∀j,j<=k->QZ P wd U K mg base pg j){nm f:Str}{st:aC}{fa:ad}{fd:bO}(F:Fun K nm f st fa fd)(h:(pg.defs++pg.meths).lookup f=some st):FnOk P wd K mg base CX0 (k+1) fa fd (Yx st) (spF U K (clK pg (k+1)) f):=by
 by_cases hc:y0 st=true
 case neg=>
  have no:∀{vs:List V} {H:Hp} {Q:VK} {E:XK},spF U K (clK pg (k+1)) f vs H Q E->False:=λ{vs H Q E} ⟨G,args,_,_,z⟩=>by rw[JH h]at z;exact hc (qdS z).1.1
  exact{λvs H Q E z=>(no z).elim,λA outer s H args us vs Q E _ _ _ _ z=>(no z).elim}
 refine Fun.ok0 F (YK hc) (λvs H Q E z=>?_) (λcdv A outer s H vs Q E hr z=>?_)
 ·obtain⟨G,args,_,ha,z⟩:=z;rw[JH h]at z;rw[<-ha.len];exact(qdS z).1.2
 ·obtain⟨G,args,sub,ha,z⟩:=z;rw[JH h]at z;have z:=(qdS z).2;have gs:Gs U K E k (qfd CX0 P wd K mg base (fnN st) f (qh st) fa cdv A outer s H E) (pg.ct k (clK pg k) st):=qnT ok ih (YK hc) hr
  cases hb:cSs pg.m (pg.ct k (clK pg k) st) (qA st) with
  |none=>rw[hb]at z;exact z.elim
  |some b=>
   rw[hb]at z;refine{_,(qox (w:=pg.w) pg.m _ _ _ gs).ss G H (qA st) b hb,yj (fnN st) args,G,qf0 sub ha,Wx.mono (Wx.th z) λfl hf=>?_}
   cases fl with
   |next N=>exactλZ' G' H' er g'=>hf .non G' H' er.base er.g0 er.sub er.fresh (by simp![ReR,Rep])
   |ret r=>exact hf
theorem qlF(ok:PgOk U K mg pg):∀k j:Nat,j<=k->QZ P wd U K mg base pg j:=by
 have zero:QZ P wd U K mg base pg 0:=by
  refine{λf st h=>?_,λf st h _ nm fa fd F=>{λvs H Q E ⟨G,args,_,_,z⟩=>ao z,λA outer s H args us vs Q E _ _ _ _ ⟨G,args',_,_,z⟩=>ao z}}
  ·obtain⟨fa,fd,F,hm,hb⟩:=ok.fn.mem (cY h);refine{fa,fd,{λvs H Q E hz73=>?_,λA outer s H args us vs Q E _ _ _ _ ⟨G,args',_,_,z⟩=>ao z},hm,F.kp,hb};obtain⟨G,args,_,_,z⟩:=hz73;exact ao z
 intro k
 induction k with
 |zero=>intro j hj;rw[Nat.le_zero.mp hj];exact zero
 |succ k ih=>
  intro j hj;rcases Nat.lt_or_ge j (k+1) with h|h
  ·exact ih j (Nat.le_of_lt_succ h)
  ·obtain rfl:j=k+1:=Nat.le_antisymm hj h;refine{λf st h=>?_,λf st h h0 nm fa fd F=>?_}
   ·obtain⟨fa,fd,F,hm,hb⟩:=ok.fn.mem (cY h);exact{fa,fd,qaE ok ih F (qdR h),hm,F.kp,hb}
   ·exact qaE ok ih F ((qg5 h0).trans h)
theorem ZK(G:Hp):∀ns:List Int,ql U G (ns.map D.int) (ns.map V.int)
 |[]=>.nil
 | n::ns=>.cons (by simp![Rep]) (ZK G ns)
def spL(U:KC)(K:Frag)(pg:Pg)(k:Nat):Sp:=λvs H Q _=>spF U K (clK pg k) "law" vs H Q E0
def qlG{st:aC}{k:Nat}{fa:ad}{fd:bO}(ok:PgOk U K mg pg)(F:Fun K "law" "law" st fa fd)(hl:pg.defs.lookup ("law" : Str)=some st)(hp:Yx st=(["_law_script"]:List Str)) :
  FnOk P wd K mg base CX0 (k+1) fa fd (["_law_script"]:List Str) (spL U K pg (k+1)):=by
 have:=qaE (P:=P) (wd:=wd) (base:=base) ok (qlF ok k) F (qdR hl)
 rw[hp]at this;exact qbx this λ_ _ _ _ z=>z
def qlH{k:Nat}{H:Hp}{a:ad}{ns:List Int}(hq:SqL K H a (ns.map V.int))(h:clK pg k "law" [.scr (ns.map D.int)]=.ok (.val (.bl true))):spL U K pg k [.ref a] H (λv _=>v=.bl true) λ_ _ _=>False:=by
 refine{λ_=>none,[.scr (ns.map D.int)],λ_ _ e=>(by cases e),⟨_,_,rfl,⟨a,_,rfl,hq,ZK _ ns⟩,rfl⟩,?_};rw[h];intro v G' H' _ _ _ _ r
 simpa only[ReR,Rep] using r
end
def qpI(pg:Pg)(k:Nat)(cl:Str->List Ar->R Rv)(st:aC):Option (Nat×Nat×Ss):=oif (y0 st) ((cSs pg.m (pg.ct k cl st) (qA st)).map λb=>((Yx st).length,(fnN st).length,b))
def slN(n:Nat)(args:List Ar):Env:=args.map toSl++cz (n - args.length) .no
def runD(cl:Cl)(w:Nat)(c:Nat×Nat×Ss)(args:List Ar):R Rv:=if args.length=c.1 then (iSs cl w c.2.2 (slN c.2.1 args)).th flR else .no
def Pg.kk(pg:Pg)(k:Nat):Cl:={clK pg k,pg.cs,pg.nw k,decide (2<=k)}
def qm{pg:Pg}{f:Str}{st:aC}{c:Nat×Nat×Ss}(hl:(pg.defs++pg.meths).lookup f=some st)(hc:∀k cl,qpI pg k cl st=some c)(k:Nat)(args:List Ar):clK pg (k+1) f args=runD (pg.kk k) pg.w c args:=by
 obtain⟨h1,h2⟩:=qk (hc k (clK pg k));obtain⟨b,h3,rfl⟩:=map_some h2;rw[JH hl];unfold evF runD
 by_cases hn:args.length=(Yx st).length
 ·rw[if_pos (by rw[h1,hn];simp),if_pos hn];rw[h3];rfl
 ·rw[if_neg (by simp[hn]),if_neg hn]
variable{cl:Cl}{w:Nat}
def th_ok{α M:Type}(a:α)(f:α->R M):(R.ok a).th f=f a:=(rfl)
def of_some{α:Type}(a:α):R.of (some a)=.ok a:=(rfl)
def j5(cl:Cl)(w:Nat)(tg:Tg)(b:Ss)(l:List D)(N:Env):R Fl:=qm2 (λd N1=>(tg.go d N1).th λN2=>iSs cl w b N2) l N
def whD(cl:Cl)(w:Nat)(c:T)(b:Ss)(n:Nat)(N:Env):R Fl:=whL (λN1=>iT cl c N1) (λN1=>iSs cl w b N1) n N
def zi(cl:Cl)(e:E)(tg:Tg)(c:F)(l:List D)(N:Env)(acc:List D):R (List D):=qdA tg.go (λN1=>iF cl c N1) (jG e (iR cl e)) l N acc
def qct(f:Fl)(g:Env->R Fl):R Fl:=match f with
 |.next N1=>g N1
 |.ret r=>.ok (.ret r)
section
variable(cl:Cl)(w:Nat)(N:Env)
def jk(tg:Tg)(b:Ss):j5 cl w tg b [] N=.ok (.next N):=(rfl)
def qdT(tg:Tg)(b:Ss)(d:D)(l:List D):j5 cl w tg b (d::l) N=((tg.go d N).th λN2=>iSs cl w b N2).th λf=>qct f λN1=>j5 cl w tg b l N1:=(rfl)
def qf1(c:T)(b:Ss)(n:Nat):whD cl w c b (n+1) N=(iT cl c N).th λt=>if t.1=true then (iSs cl w b t.2).th λf=>qct f λN1=>whD cl w c b n N1 else .ok (.next t.2):=(rfl)
def qS(e:E)(tg:Tg)(c:F)(acc:List D):zi cl e tg c [] N acc=.ok acc:=(rfl)
def qcu(e:E)(tg:Tg)(c:F)(d:D)(l acc:List D):zi cl e tg c (d::l) N acc=(tg.go d N).th λN1=>(iF cl c N1).th λbt=>if bt.1=true then (jG e (iR cl e) bt.2).th λx=>if acc.length < sizeLine then zi cl e tg c l x.2 (acc++[x.1]) else .no else zi cl e tg c l bt.2 acc:=(rfl)
def qlI(i:Nat)(e:E):iS cl w (.app i e) N=(match zt N i with
  |none=>.no
  |some _=>(jG e (iR cl e) N).th λy=>(match zt y.2 i with
   |some l=>if l.length < sizeLine then .ok (.next (y.2.set i (.own (l++[y.1])))) else .no
   |none=>.no)):=(rfl)
def qlJ(i:Nat)(e:E):iS cl w (.ext i e) N=(match zt N i with
  |none=>.no
  |some _=>(iR cl e N).th λy=>(match zt y.2 i,y.1.plain? with
   |some l,some n=>if l.length+n.length<=sizeLine then .ok (.next (y.2.set i (.own (l++n)))) else .no
   |_,_=>.no)):=(rfl)
def qlK(e:E):iS cl w (.ret e) N=(qfH e (iR cl e) N).th λr=>.ok (.ret r):=(rfl)
def qlL(i:Nat)(e:E):iS cl w (.set i e) N=(qco e (iR cl e) N).th λs=>.ok (.next (s.2.set i s.1)):=(rfl)
def qiO(tg:Tg)(e:E):iS cl w (.setT tg e) N=(jG e (iR cl e) N).th λx=>(tg.go x.1 x.2).th λN1=>.ok (.next N1):=(rfl)
def qiP(i:Nat)(x e:E):iS cl w (.setI i x e) N=(jG e (iR cl e) N).th λy=>(match zt y.2 i with
  |none=>.no
  |some _=>(iR cl x y.2).th λz=>(match zt z.2 i,z.1.int? with
   |some l,some n=>(match ixN l.length n with
    |some k=>.ok (.next (z.2.set i (.own (l.set k y.1))))
    |none=>.no)
   |_,_=>.no)):=(rfl)
def qlM(c:T)(a b:Ss):iS cl w (.ite c a b) N=(iT cl c N).th λt=>if t.1=true then iSs cl w a t.2 else iSs cl w b t.2:=(rfl)
def qlN(tg:Tg)(src:I)(b:Ss):iS cl w (.for_ tg src b) N=(iI cl src N).th λx=>j5 cl w tg b x.1 x.2:=(rfl)
def qf2(s:S)(l:Ss):iSs cl w (.cons s l) N=(iS cl w s N).th λf=>qct f λN1=>iSs cl w l N1:=(rfl)
def qlO(op:cq)(a b:E):iR cl (.bin op a b) N=(iR cl a N).th λx=>(iR cl b x.2).th λy=>(qak op x.1 y.1).th λr=>.ok (r,y.2):=(rfl)
def qlP(a:E):iR cl (.neg a) N=(iR cl a N).th λx=>match x.1 with
  |.val (.int i)=>.ok (.val (.int (-i)),x.2)
  |_=>.no:=(rfl)
def qlQ(a:E):iR cl (.not a) N=(iR cl a N).th λx=>match x.1 with
  |.val (.bl b)=>.ok (.val (.bl (!b)),x.2)
  |_=>.no:=(rfl)
def qlR(a b:E):iR cl (.and a b) N=(iR cl a N).th λx=>match x.1 with
  |.val (.bl true)=>iR cl b x.2
  |.val (.bl false)=>.ok (.val (.bl false),x.2)
  |_=>.no:=(rfl)
def qlS(op:aR)(a b:E):iR cl (.cmp op a b) N=(iR cl a N).th λx=>(iR cl b x.2).th λy=>(R.of (Jr op x.1 y.1)).th λr=>.ok (.val (.bl r),y.2):=(rfl)
def qlT(c:T)(a b:E):iR cl (.ite c a b) N=(iT cl c N).th λt=>if t.1=true then iR cl a t.2 else iR cl b t.2:=(rfl)
def qlU(a i:E):iR cl (.idx a i) N=(iR cl a N).th λx=>(iR cl i x.2).th λy=>(idxD x.1 y.1).th λr=>.ok (r,y.2):=(rfl)
def qlV(n:Int)(a:E)(lo hi:O):iR cl (.stp n a lo hi) N=(iR cl a N).th λx=>(iO cl lo x.2).th λl=>(iO cl hi l.2).th λh=>(R.of x.1.list?).th λd=>.ok (.tmp (Yw d l.1 h.1 n),h.2):=(rfl)
def qlW(a:E)(lo hi:O):iR cl (.sli a lo hi) N=(iR cl a N).th λx=>(iO cl lo x.2).th λl=>(iO cl hi l.2).th λh=>(sliceD x.1 l.1 h.1).th λr=>.ok (r,h.2):=(rfl)
def qlX(l:Es):iR cl (.lst l) N=(iEs cl l N).th λx=>if x.1.length<=sizeLine then .ok (.tmp x.1,x.2) else .no:=(rfl)
def qlY(l:Es):iR cl (.tup l) N=(iEs cl l N).th λx=>if x.1.length<=sizeLine then .ok (.val (.tup x.1),x.2) else .no:=(rfl)
def qiQ(f:Str)(l:Es):iR cl (.call f l) N=(iAs cl l N).th λx=>(cl f x.1).th λr=>.ok (r,x.2):=(rfl)
def qnU(f:B1)(a:E):iR cl (.b1 f a) N=(iR cl a N).th λx=>(f.go x.1).th λr=>.ok (r,x.2):=(rfl)
def qnV(f:B2)(a b:E):iR cl (.b2 f a b) N=(iR cl a N).th λx=>(noX (iR cl b x.2)).th λy=>(f.go x.1 y.1).th λr=>.ok (r,y.2):=(rfl)
def qlZ(t:Ty)(a:E):iR cl (.isi t a) N=(iR cl a N).th λx=>(R.of (t.go x.1)).th λb=>.ok (.val (.bl b),x.2):=(rfl)
def ql0(t:Str)(a:E):iR cl (.isc t a) N=(noX (iR cl a N)).th λx=>(R.of (qfF cl.cs x.1 t)).th λb=>.ok (.val (.bl b),x.2):=(rfl)
def ql1(a:E)(x:Str):iR cl (.fld a x) N=(noX (iR cl a N)).th λy=>(R.of (qdy cl.cs y.1 x)).th λd=>.ok (.val d,y.2):=(rfl)
def goM(cl:Cl)(x:Str)(l:Es)(v:Rv)(N:Env):Option Str->R (Rv×Env)
 |some f=>(iAs cl l N).th λz=>(cl f (toAr v::z.1)).th λr=>.ok (r,z.2)
 |none=>(noX (iAs cl l N)).th λz=>(noX (bmD x v z.1)).th λr=>.ok (r,z.2)
def ql2(a:E)(x:Str)(l:Es):iR cl (.met a x l) N=(noX (iR cl a N)).th λy=>goM cl x l y.1 y.2 (mtD cl.cs y.1 x):=by
 show(noX (iR cl a N)).th _=_
 congr 1
def ql3(f:Str)(l:Es):iR cl (.new f l) N=(noX (iAs cl l N)).th λx=>(cl.nw f x.1).th λr=>.ok (r,x.2):=(rfl)
def qiR(e:E)(src:I)(tg:Tg)(c:F)(n:Nat)(fr:List Nat):iR cl (.comp e src tg c n fr) N=(iI cl src N).th λx=>if x.1.length<=sizeLine then (noX (zi cl e tg c x.1 (qal n fr x.2) [])).th λl=>.ok (.tmp l,x.2) else .no:=(rfl)
def ql4(a:T):iT cl (.not a) N=(iT cl a N).th λt=>.ok (!t.1,t.2):=(rfl)
def ql5(a b:T):iT cl (.and a b) N=(iT cl a N).th λt=>if t.1=true then iT cl b t.2 else .ok (false,t.2):=(rfl)
def qnW(a b:T):iT cl (.or a b) N=(iT cl a N).th λt=>if t.1=true then .ok (true,t.2) else iT cl b t.2:=(rfl)
def ql6(op:aR)(a b:E):iT cl (.cmp op a b) N=(iR cl a N).th λx=>(iR cl b x.2).th λy=>(R.of (Jr op x.1 y.1)).th λr=>.ok (r,y.2):=(rfl)
def ql7(op op':aR)(a b c:E):iT cl (.chn op op' a b c) N=(iR cl a N).th λx=>(iR cl b x.2).th λy=>(R.of (Jr op x.1 y.1)).th λr=>if r=true then (iR cl c y.2).th λz=>(R.of (Jr op' y.1 z.1)).th λr'=>.ok (r',z.2) else .ok (false,y.2):=(rfl)
def ql8(a:E):iT cl (.val a) N=(iR cl a N).th λx=>(R.of (truthD x.1)).th λb=>.ok (b,x.2):=(rfl)
def qf3(e:E)(l:Es):iEs cl (.cons e l) N=(jG e (iR cl e) N).th λx=>(iEs cl l x.2).th λy=>.ok (x.1::y.1,y.2):=(rfl)
def qf4(e:E)(l:Es):iAs cl (.cons e l) N=(iR cl e N).th λx=>(iAs cl l x.2).th λy=>.ok (toAr x.1::y.1,y.2):=(rfl)
def qiS(e:E):iO cl (.some e) N=(iR cl e N).th λx=>match x.1 with
  |.val (.int i)=>.ok (some i,x.2)
  |_=>.no:=(rfl)
def ql9(a:E):iI cl (.seq a) N=(yz a (iR cl a) N).th λx=>.ok (x.1.2,x.2):=(rfl)
def qma(a:E):iI cl (.rng a) N=(iR cl a N).th λx=>(match x.1.int? with
  |some n=>if qR n=true then .ok (zw 0 n,x.2) else .no
  |none=>.no):=(rfl)
def qiT(a:E):iI cl (.enum a) N=(yz a (iR cl a) N).th λx=>match x.1.1 with |.lst=>.ok (J2 x.1.2,x.2) |_=>.no:=(rfl)
def qmb(a:E):iI cl (.rev a) N=(yz a (iR cl a) N).th λx=>match x.1.1 with |.lst=>.ok (x.1.2.reverse,x.2) |_=>.no:=(rfl)
def qmc(a b:E):iI cl (.zip a b) N=(yz a (iR cl a) N).th λx=>(yz b (iR cl b) x.2).th λy=>match x.1.1,y.1.1 with |.lst,.lst=>.ok (YI x.1.2 y.1.2,y.2) |_,_=>.no:=(rfl)
variable(s:Sl)(i:Nat)(d:D)(l:List D)
def slR_s:slR (s::N) (i+1)=slR N i:=(rfl)
def slR_v:slR (.val d::N) 0=.ok (.val d):=(rfl)
def slR_o:slR (.own l::N) 0=.ok (.cell l):=(rfl)
def slR_b:slR (.bor l::N) 0=.ok (.cell l):=(rfl)
def slR_c:slR (.scr l::N) 0=.ok (.scr l):=(rfl)
def slX_s:slX (s::N) (i+1)=slX N i:=(rfl)
def slX_v:slX (.val d::N) 0=.ok (.val d):=(rfl)
def slX_o:slX (.own l::N) 0=.ok (.tmp l):=(rfl)
theorem qnX:slE (s::N) (i+1)=(slE N i).th λx=>.ok (x.1,s::x.2):=by
 show(match N[i]? with |some (.val d)=>_ |some (.own l)=>_ |_=>_)=R.th (match N[i]? with |some (.val d)=>_ |some (.own l)=>_ |_=>_) _
 cases N[i]? with
 |none=>rfl
 |some z=>cases z<;>rfl
theorem qnY:slL (s::N) (i+1)=(slL N i).th λx=>.ok (x.1,s::x.2):=by
 show(match N[i]? with |some (.val (.lst l))=>_ |some (.val (.tup l))=>_ |some (.val (.str z))=>_ |some (.own l)=>_ |some (.bor l)=>_ |some (.scr l)=>_ |_=>_)=R.th (match N[i]? with |some (.val (.lst l))=>_ |some (.val (.tup l))=>_ |some (.val (.str z))=>_ |some (.own l)=>_ |some (.bor l)=>_ |some (.scr l)=>_ |_=>_) _
 cases N[i]? with
 |none=>rfl
 |some z=>
  cases z with
  |val d=>cases d<;>rfl
  |_=>rfl
def ownI_s:zt (s::N) (i+1)=zt N i:=(rfl)
def ownI_o:zt (.own l::N) 0=some l:=(rfl)
end
mutual
def okD:D->Bool
 |.str s=>du s
 |.lst l=>qby l
 |.tup l=>qby l
 |.ins ..=>false
 |.exc ..=>false
 |.dct ..=>false
 |.non=>true
 |.bl _=>true
 |.int _=>true
def qby:List D->Bool
 |[]=>true
 | d::l=>okD d&&qby l
end
mutual
def dpD:D->Nat
 |.lst l=>qaF l+1
 |.tup l=>qaF l+1
 |.str _=>0
 |.ins ..=>0
 |.exc ..=>0
 |.dct ..=>0
 |.non=>0
 |.bl _=>0
 |.int _=>0
def qaF:List D->Nat
 |[]=>0
 | d::l=>max (dpD d) (qaF l)
end
mutual
theorem qg6:∀d:D,okD d=true->∃p,toP d=some p/\p.canLay0=true/\p.depth=dpD d/\b7 p p=true
 |.non,_=>{_,by rw[toP],by rw[db],by rw[PyData.depth,dpD],by rw[b7]}
 |.bl b,_=>{_,by rw[toP],by rw[db],by rw[PyData.depth,dpD],by rw[b7];simp}
 |.int n,_=>{_,by rw[toP],by rw[db],by rw[PyData.depth,dpD],by rw[b7];simp}
 |.str s,h=>{_,by rw[toP],by rw[db];rw[okD]at h;exact h,by rw[PyData.depth,dpD],by rw[b7];simp}
 |.lst l,h=>by rw[okD]at h;obtain⟨p,h1,h2,h3,h4⟩:=qaG l h;exact{.list p,by rw[toP,h1];rfl,by rw[db];exact h2,by rw[PyData.depth,dpD,h3],by rw[b7];exact h4}
 |.tup l,h=>by rw[okD]at h;obtain⟨p,h1,h2,h3,h4⟩:=qaG l h;exact{.tuple p,by rw[toP,h1];rfl,by rw[db];exact h2,by rw[PyData.depth,dpD,h3],by rw[b7];exact h4}
 |.ins ..,h=>by rw[okD]at h;cases h
 |.exc ..,h=>by rw[okD]at h;cases h
 |.dct ..,h=>by rw[okD]at h;cases h
theorem qaG:∀l:List D,qby l=true->∃p,qcG l=some p/\ip p=true/\iq p=qaF l/\gr p p=true
 |[],_=>{[],by rw[qcG],by rw[ip],by rw[iq,qaF],by rw[gr]}
 | d::l,h=>by rw[qby,aG]at h;obtain⟨p,h1,h2,h3,h4⟩:=qg6 d h.1;obtain⟨q,h5,h6,h7,h8⟩:=qaG l h.2;exact{p::q,by rw[qcG,h1,h5];rfl,by rw[ip,h2,h6];rfl,by rw[iq,qaF,h3,h7],by rw[gr,h4,h8];rfl}
end
def qg7{d:D}(h:okD d=true)(hd:dpD d<=64):∃p,toP d=some p/\br p=true/\b7 p p=true:=by obtain⟨p,h1,h2,h3,h4⟩:=qg6 d h;exact{p,h1,by unfold br;rw[h2,h3];simpa using hd,h4}
def JI{d:D}(h:okD d=true)(hd:dpD d<=64):eqD d d=some true:=by obtain⟨p,h1,h2,h3⟩:=qg7 h hd;unfold eqD;rw[h1];dsimp only;rw[h2,h3];rfl
def yk{a b:Str}(ha:du a=true)(hb:du b=true):eqD (.str a) (.str b)=some (a == b):=by unfold eqD;simp![toP];rw[show br (.str a)=true by unfold br;simp[db,PyData.depth,ha],show br (.str b)=true by unfold br;simp[db,PyData.depth,hb]];simp[b7]
def qmd:br .none=true:=by unfold br;simp[db,PyData.depth]
def qme(n:Int):br (.int n)=true:=by unfold br;simp[db,PyData.depth]
def qmf{a:Str}(ha:du a=true):br (.str a)=true:=by unfold br;simp[db,PyData.depth,ha]
def qD(a b:Int):eqD (.int a) (.int b)=some (a == b):=by unfold eqD;simp![toP,qme,kQ,if_true,b7]
def qmg{a:Str}(ha:du a=true):eqD (.str a) .non=some false:=by unfold eqD;simp![toP,qmd,qmf ha,kQ,if_true,b7]
theorem qiU{l:List D}(h:qby l=true)(hd:qaF l<=63):eqD (.lst l) (.lst [])=some l.isEmpty:=by
 obtain⟨p,h1,h2,h3⟩:=qg7 (d:=.lst l) (by rw[okD];exact h) (by rw[dpD];lia);unfold eqD;have e:toP (.lst [])=some (.list []):=by simp[toP,qcG]
 rw[h1,e];dsimp only;rw[h2,show br (.list [])=true by unfold br;simp[db,ip,PyData.depth,iq]];rw[toP]at h1;obtain⟨q,h4,rfl⟩:=bF.mp h1
 cases l with
 |nil=>rw[qcG]at h4;cases h4;simp[b7,gr]
 |cons d l=>rw[qcG]at h4;obtain⟨x,h5,h6⟩:=dW.mp h4;obtain⟨y,h7,rfl⟩:=bF.mp h6;simp[b7,gr]
def Qy{α:Type}{l:List α}{i:Int}{j:Nat}(h:i=(j:Int))(hj:j < l.length):atI l i=some l[j]:=by subst h;unfold atI ixN;rw[if_pos (1:),if_pos (1:)];simp[hj]
def qf5{n:Nat}:ixN (n+1) (-1)=some n:=by unfold ixN;rw[if_neg (1:),if_pos (1:),show((-1:Int)+((n+1:Nat):Int)).toNat=n by lia]
def kk_f(pg:Pg)(k:Nat)(f:Str)(args:List Ar):(pg.kk k).f f args=clK pg k f args:=(rfl)
def kk_cs(pg:Pg)(k:Nat):(pg.kk k).cs=pg.cs:=(rfl)
def kk_nw(pg:Pg)(k:Nat)(f:Str)(args:List Ar):(pg.kk k).nw f args=pg.nw k f args:=(rfl)
def at_0{α:Type}(a:α)(l:List α):atI (a::l) 0=some a:=by exact Qy (i:=0) (j:=0) rfl (5:)
def at_1{α:Type}(a b:α)(l:List α):atI (a::b::l) 1=some b:=by exact Qy (i:=1) (j:=1) rfl (5:)
def at_2{α:Type}(a b c:α)(l:List α):atI (a::b::c::l) 2=some c:=by exact Qy (i:=2) (j:=2) rfl (5:)
def qg8{α:Type}{l:List α}{j:Nat}{x:α}(h:l[j]?=some x):atI l (j:Int)=some x:=by obtain⟨h1,h2⟩:=bJ.mp h;rw[Qy rfl h1,h2]
def enF(i:Nat):List D->List D
 |[]=>[]
 | d::l=>.tup [.int i,d]::enF (i+1) l
theorem qg9:∀(l:List D) (i:Nat),(List.range' i l.length).zipWith (λ(i:Nat) d=>D.tup [.int i,d]) l=enF i l
 |[],i=>rfl
 | d::l,i=>by rw[aQ,kH,mH,qg9 l (i+1)];rfl
def JJ(l:List D):J2 l=enF 0 l:=by unfold J2;rw[kI,qg9]
def rgF(i:Int):Nat->List D
 |0=>[]
 | n+1=>.int i::rgF (i+1) n
theorem qha:∀(n:Nat) (lo:Int) (s:Nat),(List.range' s n).map (λi:Nat=>D.int (lo+i))=rgF (lo+s) n
 |0,_,_=>rfl
 | n+1,lo,s=>by rw[kH,av,qha n lo (s+1)];show _=D.int (lo+s)::rgF (lo+s+1) n;rw[show lo+((s+1:Nat):Int)=lo+s+1 by lia]
def zx(lo hi:Int):zw lo hi=rgF lo (hi - lo).toNat:=by
 unfold zw;rw[kI,qha]
 congr 1
 lia
def ixN_app{α:Type}(l:List α)(x:α):ixN (l++[x]).length (-1)=some l.length:=by rw[bq];exact qf5
def set_app{α:Type}(l:List α)(x y:α):(l++[x]).set l.length y=l++[y]:=by simp
def emp_app{α:Type}(l:List α)(x:α):(l++[x]).isEmpty=false:=by cases l<;>rfl
def qc{α M γ:Type}(x:R α)(f:α->R M)(g:M->R γ):(x.th f).th g=x.th λa=>(f a).th g:=by cases x<;>rfl
def qg{α:Type}(x:R α):x.th R.ok=x:=by cases x<;>rfl
section
variable{M:Type}(cl:Cl)(w:Nat)
def YL(N:Env)(K:Rv×Env->R M)(r:Rv):R M:=K (r,N)
def kBl(N:Env)(K:Rv×Env->R M)(b:Bool):R M:=K (.val (.bl b),N)
def kBo(N:Env)(K:Bool×Env->R M)(b:Bool):R M:=K (b,N)
def qnZ(N:Env)(K:Rv×Env->R M)(l:List D):R M:=K (.tmp l,N)
def kB2(op:cq)(u:Rv)(K:Rv×Env->R M)(y:Rv×Env):R M:=(qak op u y.1).th (YL y.2 K)
def kB1(op:cq)(b:E)(K:Rv×Env->R M)(x:Rv×Env):R M:=(iR cl b x.2).th (kB2 op x.1 K)
def qoy(K:Rv×Env->R M)(x:Rv×Env):R M:=R.th (match x.1 with
  |.val (.int i)=>.ok (.val (.int (-i)),x.2)
  |_=>.no) K
def qoz(K:Rv×Env->R M)(x:Rv×Env):R M:=R.th (match x.1 with
  |.val (.bl b)=>.ok (.val (.bl (!b)),x.2)
  |_=>.no) K
def qoA(b:E)(K:Rv×Env->R M)(x:Rv×Env):R M:=R.th (match x.1 with
  |.val (.bl true)=>iR cl b x.2
  |.val (.bl false)=>.ok (.val (.bl false),x.2)
  |_=>.no) K
def kC2(op:aR)(u:Rv)(K:Rv×Env->R M)(y:Rv×Env):R M:=(R.of (Jr op u y.1)).th (kBl y.2 K)
def kC1(op:aR)(b:E)(K:Rv×Env->R M)(x:Rv×Env):R M:=(iR cl b x.2).th (kC2 op x.1 K)
def kIf(a b:E)(K:Rv×Env->R M)(t:Bool×Env):R M:=if t.1=true then (iR cl a t.2).th K else (iR cl b t.2).th K
def kI2(u:Rv)(K:Rv×Env->R M)(y:Rv×Env):R M:=(idxD u y.1).th (YL y.2 K)
def kI1(b:E)(K:Rv×Env->R M)(x:Rv×Env):R M:=(iR cl b x.2).th (kI2 x.1 K)
def kS3(v:Rv)(l:Option Int)(K:Rv×Env->R M)(h:Option Int×Env):R M:=(sliceD v l h.1).th (YL h.2 K)
def kS2(v:Rv)(hi:O)(K:Rv×Env->R M)(l:Option Int×Env):R M:=(iO cl hi l.2).th (kS3 v l.1 K)
def kS1(lo hi:O)(K:Rv×Env->R M)(x:Rv×Env):R M:=(iO cl lo x.2).th (kS2 cl x.1 hi K)
def qoB(K:Rv×Env->R M)(x:List D×Env):R M:=if x.1.length<=sizeLine then K (.tmp x.1,x.2) else .no
def qoC(K:Rv×Env->R M)(x:List D×Env):R M:=if x.1.length<=sizeLine then K (.val (.tup x.1),x.2) else .no
def qn0(n:Int)(v:Rv)(l:Option Int)(K:Rv×Env->R M)(h:Option Int×Env):R M:=(R.of v.list?).th λd=>K (.tmp (Yw d l h.1 n),h.2)
def qn1(n:Int)(v:Rv)(hi:O)(K:Rv×Env->R M)(l:Option Int×Env):R M:=(iO cl hi l.2).th (qn0 n v l.1 K)
def qoD(n:Int)(lo hi:O)(K:Rv×Env->R M)(x:Rv×Env):R M:=(iO cl lo x.2).th (qn1 cl n x.1 hi K)
def qmh(f:Str)(K:Rv×Env->R M)(x:List Ar×Env):R M:=(cl f x.1).th (YL x.2 K)
def kF1(f:B1)(K:Rv×Env->R M)(x:Rv×Env):R M:=(f.go x.1).th (YL x.2 K)
def kG2(f:B2)(u:Rv)(K:Rv×Env->R M)(y:Rv×Env):R M:=(f.go u y.1).th (YL y.2 K)
def kG1(f:B2)(b:E)(K:Rv×Env->R M)(x:Rv×Env):R M:=(noX (iR cl b x.2)).th (kG2 f x.1 K)
def qoE(t:Str)(K:Rv×Env->R M)(x:Rv×Env):R M:=(R.of (qfF cl.cs x.1 t)).th (kBl x.2 K)
def qn2(N:Env)(K:Rv×Env->R M)(d:D):R M:=K (.val d,N)
def qoF(x:Str)(K:Rv×Env->R M)(y:Rv×Env):R M:=(R.of (qdy cl.cs y.1 x)).th (qn2 y.2 K)
def qn3(f:Str)(v:Rv)(K:Rv×Env->R M)(z:List Ar×Env):R M:=(cl f (toAr v::z.1)).th (YL z.2 K)
def qn4(v:Rv)(l:Es)(N:Env)(K:Rv×Env->R M)(f:Str):R M:=(iAs cl l N).th (qn3 cl f v K)
def qpJ(x:Str)(v:Rv)(K:Rv×Env->R M)(z:List Ar×Env):R M:=(noX (bmD x v z.1)).th (YL z.2 K)
def qn5(x:Str)(v:Rv)(l:Es)(N:Env)(K:Rv×Env->R M)(o:Option Str):R M:=match o with
 |some f=>qn4 cl v l N K f
 |none=>(noX (iAs cl l N)).th (qpJ x v K)
def qn6(x:Str)(l:Es)(K:Rv×Env->R M)(y:Rv×Env):R M:=qn5 cl x y.1 l y.2 K (mtD cl.cs y.1 x)
def qoG(f:Str)(K:Rv×Env->R M)(x:List Ar×Env):R M:=(cl.nw f x.1).th (YL x.2 K)
def qoH(t:Ty)(K:Rv×Env->R M)(x:Rv×Env):R M:=(R.of (t.go x.1)).th (kBl x.2 K)
def qmi(e:E)(tg:Tg)(c:F)(n:Nat)(fr:List Nat)(K:Rv×Env->R M)(x:List D×Env):R M:=if x.1.length<=sizeLine then (noX (zi cl e tg c x.1 (qal n fr x.2) [])).th (qnZ x.2 K) else .no
def kTn(K:Bool×Env->R M)(t:Bool×Env):R M:=K (!t.1,t.2)
def kTa(b:T)(K:Bool×Env->R M)(t:Bool×Env):R M:=if t.1=true then (iT cl b t.2).th K else K (false,t.2)
def kTo(b:T)(K:Bool×Env->R M)(t:Bool×Env):R M:=if t.1=true then K (true,t.2) else (iT cl b t.2).th K
def kD2(op:aR)(u:Rv)(K:Bool×Env->R M)(y:Rv×Env):R M:=(R.of (Jr op u y.1)).th (kBo y.2 K)
def kD1(op:aR)(b:E)(K:Bool×Env->R M)(x:Rv×Env):R M:=(iR cl b x.2).th (kD2 op x.1 K)
def kN2(op:aR)(c:E)(v:Rv)(N:Env)(K:Bool×Env->R M)(r:Bool):R M:=if r=true then (iR cl c N).th (kD2 op v K) else K (false,N)
def kN1(op op':aR)(c:E)(u:Rv)(K:Bool×Env->R M)(y:Rv×Env):R M:=(R.of (Jr op u y.1)).th (kN2 cl op' c y.1 y.2 K)
def kN0(op op':aR)(b c:E)(K:Bool×Env->R M)(x:Rv×Env):R M:=(iR cl b x.2).th (kN1 cl op op' c x.1 K)
def kTv(K:Bool×Env->R M)(x:Rv×Env):R M:=(R.of (truthD x.1)).th (kBo x.2 K)
def kE2(d:D)(K:List D×Env->R M)(y:List D×Env):R M:=K (d::y.1,y.2)
def kE1(l:Es)(K:List D×Env->R M)(x:D×Env):R M:=(iEs cl l x.2).th (kE2 x.1 K)
def kA2(v:Rv)(K:List Ar×Env->R M)(y:List Ar×Env):R M:=K (toAr v::y.1,y.2)
def kA1(l:Es)(K:List Ar×Env->R M)(x:Rv×Env):R M:=(iAs cl l x.2).th (kA2 x.1 K)
def kO(K:Option Int×Env->R M)(x:Rv×Env):R M:=R.th (match x.1 with
  |.val (.int i)=>.ok (some i,x.2)
  |_=>.no) K
def qoI(K:List D×Env->R M)(x:(Sk×List D)×Env):R M:=K (x.1.2,x.2)
def qoJ(K:List D×Env->R M)(x:Rv×Env):R M:=R.th (match x.1.int? with
  |some n=>if qR n=true then .ok (zw 0 n,x.2) else .no
  |none=>.no) K
def kR2(u:Rv)(K:List D×Env->R M)(y:Rv×Env):R M:=R.th (match u.int?,y.1.int? with
  |some i,some j=>if qR i=true/\qR j=true then .ok (zw i j,y.2) else .no
  |_,_=>.no) K
def qmj(K:List D×Env->R M)(x:(Sk×List D)×Env):R M:=R.th (match x.1.1 with |.lst=>.ok (J2 x.1.2,x.2) |_=>.no) K
def qoK(K:List D×Env->R M)(x:(Sk×List D)×Env):R M:=R.th (match x.1.1 with |.lst=>.ok (x.1.2.reverse,x.2) |_=>.no) K
def kZ2(x:Sk×List D)(K:List D×Env->R M)(y:(Sk×List D)×Env):R M:=R.th (match x.1,y.1.1 with |.lst,.lst=>.ok (YI x.2 y.1.2,y.2) |_,_=>.no) K
def kZ1(b:E)(K:List D×Env->R M)(x:(Sk×List D)×Env):R M:=(yz b (iR cl b) x.2).th (kZ2 x.1 K)
def qn7(K:D×Env->R M)(x:Rv×Env):R M:=(qm3 x).th K
def qf6(K:(Sk×List D)×Env->R M)(x:Rv×Env):R M:=(qm4 x).th K
def kX(K:Rv->R M)(x:Rv×Env):R M:=R.th (match x.1 with
  |.val d=>.ok (.val d)
  |.tmp l=>.ok (.tmp l)
  |_=>.no) K
def kAv(K:Sl×Env->R M)(x:D×Env):R M:=K (.val x.1,x.2)
def kAx(K:Sl×Env->R M)(x:Rv×Env):R M:=R.th (match x.1 with
  |.val d=>.ok (.val d,x.2)
  |.tmp l=>.ok (.own l,x.2)
  |_=>.no) K
def qiV{α:Type}(s:Sl)(K:α×Env->R M)(x:α×Env):R M:=K (x.1,s::x.2)
def oGo(o:Option (List D))(x:R M):R M:=match o with
 |none=>.no
 |some _=>x
def qiW(i:Nat)(d:D)(N:Env)(K:Fl->R M)(o:Option (List D)):R M:=R.th (match o with
   |some l=>if l.length < sizeLine then .ok (.next (N.set i (.own (l++[d])))) else .no
   |none=>.no) K
def qoL(i:Nat)(K:Fl->R M)(y:D×Env):R M:=qiW i y.1 y.2 K (zt y.2 i)
def qiX(i:Nat)(N:Env)(K:Fl->R M)(o p:Option (List D)):R M:=R.th (match o,p with
   |some l,some n=>if l.length+n.length<=sizeLine then .ok (.next (N.set i (.own (l++n)))) else .no
   |_,_=>.no) K
def qoM(i:Nat)(K:Fl->R M)(y:Rv×Env):R M:=qiX i y.2 K (zt y.2 i) y.1.plain?
def kRt(K:Fl->R M)(r:Rv):R M:=K (.ret r)
def qoN(i:Nat)(K:Fl->R M)(s:Sl×Env):R M:=K (.next (s.2.set i s.1))
def kNx(K:Fl->R M)(N:Env):R M:=K (.next N)
def kST(tg:Tg)(K:Fl->R M)(x:D×Env):R M:=(tg.go x.1 x.2).th (kNx K)
def qn8(i:Nat)(d:D)(N:Env)(K:Fl->R M)(l:List D)(o:Option Nat):R M:=R.th (match o with
    |some k=>.ok (.next (N.set i (.own (l.set k d))))
    |none=>.no) K
def qm7(i:Nat)(d:D)(N:Env)(K:Fl->R M)(o:Option (List D))(v:Option Int):R M:=match o,v with
 |some l,some n=>qn8 i d N K l (ixN l.length n)
 |_,_=>.no
def qn9(i:Nat)(d:D)(K:Fl->R M)(z:Rv×Env):R M:=qm7 i d z.2 K (zt z.2 i) z.1.int?
def kSI(i:Nat)(x:E)(K:Fl->R M)(y:D×Env):R M:=oGo (zt y.2 i) ((iR cl x y.2).th (qn9 i y.1 K))
def qoO(a b:Ss)(K:Fl->R M)(t:Bool×Env):R M:=if t.1=true then (iSs cl w a t.2).th K else (iSs cl w b t.2).th K
def qoP(tg:Tg)(b:Ss)(K:Fl->R M)(x:List D×Env):R M:=(j5 cl w tg b x.1 x.2).th K
def qiY(l:Ss)(K:Fl->R M)(f:Fl):R M:=(qct f λN1=>iSs cl w l N1).th K
def qm8(tg:Tg)(b:Ss)(l:List D)(K:Fl->R M)(f:Fl):R M:=(qct f λN1=>j5 cl w tg b l N1).th K
def qoQ(tg:Tg)(b:Ss)(l:List D)(K:Fl->R M)(N:Env):R M:=(iSs cl w b N).th (qm8 cl w tg b l K)
def qoa(c:T)(b:Ss)(n:Nat)(K:Fl->R M)(f:Fl):R M:=(qct f λN1=>whD cl w c b n N1).th K
def qoR(c:T)(b:Ss)(n:Nat)(K:Fl->R M)(t:Bool×Env):R M:=if t.1=true then (iSs cl w b t.2).th (qoa cl w c b n K) else K (.next t.2)
def kP3(e:E)(tg:Tg)(c:F)(l acc:List D)(K:List D->R M)(x:D×Env):R M:=if acc.length < sizeLine then (zi cl e tg c l x.2 (acc++[x.1])).th K else .no
def kP2(e:E)(tg:Tg)(c:F)(l acc:List D)(K:List D->R M)(t:Bool×Env):R M:=if t.1=true then (jG e (iR cl e) t.2).th (kP3 cl e tg c l acc K) else (zi cl e tg c l t.2 acc).th K
def kP1(e:E)(tg:Tg)(c:F)(l acc:List D)(K:List D->R M)(N:Env):R M:=(iF cl c N).th (kP2 cl e tg c l acc K)
def zL{α:Type}{c:Prop}[Decidable c](x y:R α)(K:α->R M):(if c then x else y).th K=if c then x.th K else y.th K:=by split<;>rfl
def qp{α:Type}(x:R α){f g:α->R M}(h:∀a,f a=g a):x.th f=x.th g:=by cases x<;>first|rfl|exact h _
section
variable(N:Env)(K:Rv×Env->R M)
def xR_var(i:Nat):(iR cl (.var i) N).th K=(slR N i).th (YL N K):=(qc (slR N i) _ _)
def xR_con(d:D):(iR cl (.con d) N).th K=K (.val d,N):=(rfl)
def xR_bin(op:cq)(a b:E):(iR cl (.bin op a b) N).th K=(iR cl a N).th (kB1 cl op b K):=by rw[qlO,qc];refine qp _ λx=>?_;rw[qc];refine qp _ λy=>?_;rw[qc];rfl
def xR_neg(a:E):(iR cl (.neg a) N).th K=(iR cl a N).th (qoy K):=by rw[qlP,qc];rfl
def xR_not(a:E):(iR cl (.not a) N).th K=(iR cl a N).th (qoz K):=by rw[qlQ,qc];rfl
def xR_one(a:E):(iR cl (.one a) N).th K=(iR cl a N).th K:=(rfl)
def xR_and(a b:E):(iR cl (.and a b) N).th K=(iR cl a N).th (qoA cl b K):=by rw[qlR,qc];rfl
def xR_cmp(op:aR)(a b:E):(iR cl (.cmp op a b) N).th K=(iR cl a N).th (kC1 cl op b K):=by rw[qlS,qc];refine qp _ λx=>?_;rw[qc];refine qp _ λy=>?_;rw[qc];rfl
def xR_ite(c:T)(a b:E):(iR cl (.ite c a b) N).th K=(iT cl c N).th (kIf cl a b K):=by rw[qlT,qc];refine qp _ λt=>?_;rw[zL];rfl
def xR_idx(a b:E):(iR cl (.idx a b) N).th K=(iR cl a N).th (kI1 cl b K):=by rw[qlU,qc];refine qp _ λx=>?_;rw[qc];refine qp _ λy=>?_;rw[qc];rfl
def xR_sli(a:E)(lo hi:O):(iR cl (.sli a lo hi) N).th K=(iR cl a N).th (kS1 cl lo hi K):=by rw[qlW,qc];refine qp _ λx=>?_;rw[qc];refine qp _ λy=>?_;rw[qc];refine qp _ λz=>?_;rw[qc];rfl
def xR_lst(l:Es):(iR cl (.lst l) N).th K=(iEs cl l N).th (qoB K):=by rw[qlX,qc];refine qp _ λx=>?_;rw[zL];rfl
def xR_tup(l:Es):(iR cl (.tup l) N).th K=(iEs cl l N).th (qoC K):=by rw[qlY,qc];refine qp _ λx=>?_;rw[zL];rfl
def xR_stp(n:Int)(a:E)(lo hi:O):(iR cl (.stp n a lo hi) N).th K=(iR cl a N).th (qoD cl n lo hi K):=by rw[qlV,qc];refine qp _ λx=>?_;rw[qc];refine qp _ λy=>?_;rw[qc];refine qp _ λz=>?_;rw[qc];rfl
def xR_call(f:Str)(l:Es):(iR cl (.call f l) N).th K=(iAs cl l N).th (qmh cl f K):=by rw[qiQ,qc];refine qp _ λx=>?_;rw[qc];rfl
def xR_b1(f:B1)(a:E):(iR cl (.b1 f a) N).th K=(iR cl a N).th (kF1 f K):=by rw[qnU,qc];refine qp _ λx=>?_;rw[qc];rfl
def xR_b2(f:B2)(a b:E):(iR cl (.b2 f a b) N).th K=(iR cl a N).th (kG1 cl f b K):=by rw[qnV,qc];refine qp _ λx=>?_;rw[qc];refine qp _ λy=>?_;rw[qc];rfl
def xR_isc(t:Str)(a:E):(iR cl (.isc t a) N).th K=(noX (iR cl a N)).th (qoE cl t K):=by rw[ql0,qc];refine qp _ λx=>?_;rw[qc];rfl
def xR_fld(a:E)(x:Str):(iR cl (.fld a x) N).th K=(noX (iR cl a N)).th (qoF cl x K):=by rw[ql1,qc];refine qp _ λy=>?_;rw[qc];rfl
theorem xR_met(a:E)(x:Str)(l:Es):(iR cl (.met a x l) N).th K=(noX (iR cl a N)).th (qn6 cl x l K):=by
 rw[ql2,qc];refine qp _ λy=>?_;unfold qn6
 cases mtD cl.cs y.1 x with
 |some f=>unfold goM;rw[qc];refine qp _ λz=>?_;rw[qc];rfl
 |none=>unfold goM;rw[qc];refine qp _ λz=>?_;rw[qc];rfl
def xR_new(f:Str)(l:Es):(iR cl (.new f l) N).th K=(noX (iAs cl l N)).th (qoG cl f K):=by rw[ql3,qc];refine qp _ λx=>?_;rw[qc];rfl
def xR_isi(t:Ty)(a:E):(iR cl (.isi t a) N).th K=(iR cl a N).th (qoH t K):=by rw[qlZ,qc];refine qp _ λx=>?_;rw[qc];rfl
def xR_comp(e:E)(src:I)(tg:Tg)(c:F)(n:Nat)(fr:List Nat):(iR cl (.comp e src tg c n fr) N).th K=(iI cl src N).th (qmi cl e tg c n fr K):=by rw[qiR,qc];refine qp _ λx=>?_;rw[zL,qc];rfl
def n_ok{α:Type}(a:α):noX (R.ok a)=.ok a:=(rfl)
def n_R(e:E):noX (iR cl e N)=noX ((iR cl e N).th R.ok):=by rw[qg]
def n_As(l:Es):noX (iAs cl l N)=noX ((iAs cl l N).th R.ok):=by rw[qg]
theorem n_var(i:Nat):(noX (iR cl (.var i) N)).th K=(slR N i).th (YL N K):=by
 show(noX ((slR N i).th _)).th K=_
 cases e:slR N i with
 |ok r=>rfl
 |no=>rfl
 |exc c l=>unfold slR at e;split at e<;>cases e
end
section
variable(N:Env)(K:Rv×Env->R M)(v u:Rv)
def yRet:YL N K v=K (v,N):=(rfl)
def yBl(b:Bool):kBl N K b=K (.val (.bl b),N):=(rfl)
def yTmp(l:List D):qnZ N K l=K (.tmp l,N):=(rfl)
def yB1(op:cq)(b:E):kB1 cl op b K (v,N)=(iR cl b N).th (kB2 op v K):=(rfl)
def yB2(op:cq):kB2 op u K (v,N)=(qak op u v).th (YL N K):=(rfl)
def yNeg(i:Int):qoy K (.val (.int i),N)=K (.val (.int (-i)),N):=(rfl)
def yNot(b:Bool):qoz K (.val (.bl b),N)=K (.val (.bl (!b)),N):=(rfl)
def yAnd(b:E)(t:Bool):qoA cl b K (.val (.bl t),N)=if t=true then (iR cl b N).th K else K (.val (.bl false),N):=by cases t<;>rfl
def yC1(op:aR)(b:E):kC1 cl op b K (v,N)=(iR cl b N).th (kC2 op v K):=(rfl)
def yC2(op:aR):kC2 op u K (v,N)=(R.of (Jr op u v)).th (kBl N K):=(rfl)
def yIf(a b:E)(t:Bool):kIf cl a b K (t,N)=if t=true then (iR cl a N).th K else (iR cl b N).th K:=(rfl)
def yI1(b:E):kI1 cl b K (v,N)=(iR cl b N).th (kI2 v K):=(rfl)
def yI2:kI2 u K (v,N)=(idxD u v).th (YL N K):=(rfl)
def yS1(lo hi:O):kS1 cl lo hi K (v,N)=(iO cl lo N).th (kS2 cl v hi K):=(rfl)
def yS2(hi:O)(l:Option Int):kS2 cl v hi K (l,N)=(iO cl hi N).th (kS3 v l K):=(rfl)
def yS3(l h:Option Int):kS3 v l K (h,N)=(sliceD v l h).th (YL N K):=(rfl)
def yLst(l:List D):qoB K (l,N)=if l.length<=sizeLine then K (.tmp l,N) else .no:=(rfl)
def yTup(l:List D):qoC K (l,N)=if l.length<=sizeLine then K (.val (.tup l),N) else .no:=(rfl)
def yQs1(n:Int)(lo hi:O):qoD cl n lo hi K (v,N)=(iO cl lo N).th (qn1 cl n v hi K):=(rfl)
def yQs2(n:Int)(hi:O)(l:Option Int):qn1 cl n v hi K (l,N)=(iO cl hi N).th (qn0 n v l K):=(rfl)
def yQs3(n:Int)(l h:Option Int)(d:List D):qn0 n (.scr d) l K (h,N)=K (.tmp (Yw d l h n),N):=(rfl)
def yCall(f:Str)(l:List Ar):qmh cl f K (l,N)=(cl f l).th (YL N K):=(rfl)
def yF1(f:B1):kF1 f K (v,N)=(f.go v).th (YL N K):=(rfl)
def yG1(f:B2)(b:E):kG1 cl f b K (v,N)=(noX (iR cl b N)).th (kG2 f v K):=(rfl)
def yG2(f:B2):kG2 f u K (v,N)=(f.go u v).th (YL N K):=(rfl)
def yIsc(t:Str):qoE cl t K (v,N)=(R.of (qfF cl.cs v t)).th (kBl N K):=(rfl)
def yDat(d:D):qn2 N K d=K (.val d,N):=(rfl)
def yFld(x:Str):qoF cl x K (v,N)=(R.of (qdy cl.cs v x)).th (qn2 N K):=(rfl)
def yMt3(f:Str)(l:List Ar):qn3 cl f v K (l,N)=(cl f (toAr v::l)).th (YL N K):=(rfl)
def yMt2(f:Str)(l:Es):qn4 cl v l N K f=(iAs cl l N).th (qn3 cl f v K):=(rfl)
def yMt1(x:Str)(l:Es):qn6 cl x l K (v,N)=qn5 cl x v l N K (mtD cl.cs v x):=(rfl)
def yMtO(x:Str)(l:Es)(f:Str):qn5 cl x v l N K (some f)=qn4 cl v l N K f:=(rfl)
def yNew(f:Str)(l:List Ar):qoG cl f K (l,N)=(cl.nw f l).th (YL N K):=(rfl)
def yIsi(t:Ty):qoH t K (v,N)=(R.of (t.go v)).th (kBl N K):=(rfl)
def yComp(e:E)(tg:Tg)(c:F)(n:Nat)(fr:List Nat)(l:List D):qmi cl e tg c n fr K (l,N)=if l.length<=sizeLine then (noX (zi cl e tg c l (qal n fr N) [])).th (qnZ N K) else .no:=(rfl)
end
section
variable(N:Env)(K:Bool×Env->R M)(v u:Rv)(t:Bool)
def xT_not(a:T):(iT cl (.not a) N).th K=(iT cl a N).th (kTn K):=by rw[ql4,qc];rfl
def xT_one(a:T):(iT cl (.one a) N).th K=(iT cl a N).th K:=(rfl)
def xT_and(a b:T):(iT cl (.and a b) N).th K=(iT cl a N).th (kTa cl b K):=by rw[ql5,qc];refine qp _ λt=>?_;rw[zL];rfl
def xT_or(a b:T):(iT cl (.or a b) N).th K=(iT cl a N).th (kTo cl b K):=by rw[qnW,qc];refine qp _ λt=>?_;rw[zL];rfl
def xT_cmp(op:aR)(a b:E):(iT cl (.cmp op a b) N).th K=(iR cl a N).th (kD1 cl op b K):=by rw[ql6,qc];refine qp _ λx=>?_;rw[qc];refine qp _ λy=>?_;rw[qc];rfl
def xT_chn(op op':aR)(a b c:E):(iT cl (.chn op op' a b c) N).th K=(iR cl a N).th (kN0 cl op op' b c K):=by
 rw[ql7,qc];refine qp _ λx=>?_;rw[qc];refine qp _ λy=>?_;rw[qc];refine qp _ λr=>?_;rw[zL];show(if r=true then _ else _)=kN2 cl op' c y.1 y.2 K r;unfold kN2;split
 ·rw[qc];refine qp _ λz=>?_;rw[qc];rfl
 ·rfl
def xT_val(a:E):(iT cl (.val a) N).th K=(iR cl a N).th (kTv K):=by rw[ql8,qc];refine qp _ λx=>?_;rw[qc];rfl
def yBo:kBo N K t=K (t,N):=(rfl)
def yTn:kTn K (t,N)=K (!t,N):=(rfl)
def yTa(b:T):kTa cl b K (t,N)=if t=true then (iT cl b N).th K else K (false,N):=(rfl)
def yTo(b:T):kTo cl b K (t,N)=if t=true then K (true,N) else (iT cl b N).th K:=(rfl)
def yD1(op:aR)(b:E):kD1 cl op b K (v,N)=(iR cl b N).th (kD2 op v K):=(rfl)
def yD2(op:aR):kD2 op u K (v,N)=(R.of (Jr op u v)).th (kBo N K):=(rfl)
def yN0(op op':aR)(b c:E):kN0 cl op op' b c K (v,N)=(iR cl b N).th (kN1 cl op op' c v K):=(rfl)
def yN1(op op':aR)(c:E):kN1 cl op op' c u K (v,N)=(R.of (Jr op u v)).th (kN2 cl op' c v N K):=(rfl)
def yN2(op:aR)(c:E):kN2 cl op c v N K t=if t=true then (iR cl c N).th (kD2 op v K) else K (false,N):=(rfl)
def yTv:kTv K (v,N)=(R.of (truthD v)).th (kBo N K):=(rfl)
def xF_yes:(iF cl .yes N).th K=K (true,N):=(rfl)
def xF_test(c:T):(iF cl (.test c) N).th K=(iT cl c N).th K:=(rfl)
end
section
variable(N:Env)
def xEs_nil(K:List D×Env->R M):(iEs cl .nil N).th K=K ([],N):=(rfl)
def xEs_cons(K:List D×Env->R M)(e:E)(l:Es):(iEs cl (.cons e l) N).th K=(jG e (iR cl e) N).th (kE1 cl l K):=by rw[qf3,qc];refine qp _ λx=>?_;rw[qc];rfl
def yE1(K:List D×Env->R M)(l:Es)(d:D):kE1 cl l K (d,N)=(iEs cl l N).th (kE2 d K):=(rfl)
def yE2(K:List D×Env->R M)(d:D)(ds:List D):kE2 d K (ds,N)=K (d::ds,N):=(rfl)
def xAs_nil(K:List Ar×Env->R M):(iAs cl .nil N).th K=K ([],N):=(rfl)
def xAs_cons(K:List Ar×Env->R M)(e:E)(l:Es):(iAs cl (.cons e l) N).th K=(iR cl e N).th (kA1 cl l K):=by rw[qf4,qc];refine qp _ λx=>?_;rw[qc];rfl
def yA1(K:List Ar×Env->R M)(l:Es)(v:Rv):kA1 cl l K (v,N)=(iAs cl l N).th (kA2 v K):=(rfl)
def yA2(K:List Ar×Env->R M)(v:Rv)(l:List Ar):kA2 v K (l,N)=K (toAr v::l,N):=(rfl)
def xO_none(K:Option Int×Env->R M):(iO cl .none N).th K=K (none,N):=(rfl)
def xO_some(K:Option Int×Env->R M)(e:E):(iO cl (.some e) N).th K=(iR cl e N).th (kO K):=by rw[qiS,qc];rfl
def yO(K:Option Int×Env->R M)(i:Int):kO K (.val (.int i),N)=K (some i,N):=(rfl)
variable(K:List D×Env->R M)
def xI_seq(a:E):(iI cl (.seq a) N).th K=(yz a (iR cl a) N).th (qoI K):=by rw[ql9,qc];rfl
def xI_rng(a:E):(iI cl (.rng a) N).th K=(iR cl a N).th (qoJ K):=by rw[qma,qc];rfl
def xI_rev(a:E):(iI cl (.rev a) N).th K=(yz a (iR cl a) N).th (qoK K):=by rw[qmb,qc];rfl
def xI_enum(a:E):(iI cl (.enum a) N).th K=(yz a (iR cl a) N).th (qmj K):=by rw[qiT,qc];rfl
def xI_zip(a b:E):(iI cl (.zip a b) N).th K=(yz a (iR cl a) N).th (kZ1 cl b K):=by rw[qmc,qc];refine qp _ λx=>?_;rw[qc];rfl
def ySeq(s:Sk)(l:List D):qoI K ((s,l),N)=K (l,N):=(rfl)
def yRng(n:Int):qoJ K (.val (.int n),N)=if qR n=true then K (zw 0 n,N) else .no:=by show R.th (if qR n=true then _ else _) K=_;rw[zL];rfl
def yRev(l:List D):qoK K ((.lst,l),N)=K (l.reverse,N):=(rfl)
def yEnum(l:List D):qmj K ((.lst,l),N)=K (J2 l,N):=(rfl)
def yZ1(b:E)(x:Sk×List D):kZ1 cl b K (x,N)=(yz b (iR cl b) N).th (kZ2 x K):=(rfl)
def yZ2(l n:List D):kZ2 (.lst,l) K ((.lst,n),N)=K (YI l n,N):=(rfl)
end
section
variable(N:Env)(s:Sl)(i:Nat)(d:D)(l:List D)
def yVal(K:D×Env->R M):qn7 K (.val d,N)=K (d,N):=(rfl)
def yValt(K:D×Env->R M):qn7 K (.tmp l,N)=K (.lst l,N):=(rfl)
def yValL(K:(Sk×List D)×Env->R M):qf6 K (.val (.lst l),N)=K ((.lst,l),N):=(rfl)
def yValLt(K:(Sk×List D)×Env->R M):qf6 K (.val (.tup l),N)=K ((.tup,l),N):=(rfl)
def yValLm(K:(Sk×List D)×Env->R M):qf6 K (.tmp l,N)=K ((.lst,l),N):=(rfl)
def yX(K:Rv->R M):kX K (.val d,N)=K (.val d):=(rfl)
def yXt(K:Rv->R M):kX K (.tmp l,N)=K (.tmp l):=(rfl)
def yAv(K:Sl×Env->R M):kAv K (d,N)=K (.val d,N):=(rfl)
def yAx(K:Sl×Env->R M):kAx K (.val d,N)=K (.val d,N):=(rfl)
def yAxt(K:Sl×Env->R M):kAx K (.tmp l,N)=K (.own l,N):=(rfl)
def yCons{α:Type}(K:α×Env->R M)(x:α):qiV s K (x,N)=K (x,s::N):=(rfl)
def xE_s(K:D×Env->R M):(slE (s::N) (i+1)).th K=(slE N i).th (qiV s K):=by rw[qnX,qc];rfl
def xE_v(K:D×Env->R M):(slE (.val d::N) 0).th K=K (d,.val d::N):=(rfl)
def xE_o(K:D×Env->R M):(slE (.own l::N) 0).th K=K (.lst l,.val (.lst l)::N):=(rfl)
variable(K:(Sk×List D)×Env->R M)
def xL_s:(slL (s::N) (i+1)).th K=(slL N i).th (qiV s K):=by rw[qnY,qc];rfl
def xL_l:(slL (.val (.lst l)::N) 0).th K=K ((.lst,l),.val (.lst l)::N):=(rfl)
def xL_z(z:Str):(slL (.val (.str z)::N) 0).th K=K ((.str,qfE z),.val (.str z)::N):=(rfl)
def xL_o:(slL (.own l::N) 0).th K=K ((.lst,l),.val (.lst l)::N):=(rfl)
def xL_b:(slL (.bor l::N) 0).th K=K ((.lst,l),.bor l::N):=(rfl)
end
section
variable(N:Env)(K:Fl->R M)(i:Nat)
def oGo_some(l:List D)(x:R M):oGo (some l) x=x:=(rfl)
theorem xS_app(e:E):(iS cl w (.app i e) N).th K=oGo (zt N i) ((jG e (iR cl e) N).th (qoL i K)):=by
 rw[qlI]
 cases zt N i with
 |none=>rfl
 |some l=>show R.th (R.th (jG e (iR cl e) N) _) K=_;rw[qc];rfl
def yApp(d:D):qoL i K (d,N)=qiW i d N K (zt N i):=(rfl)
def yApp2(d:D)(l:List D):qiW i d N K (some l)=if l.length < sizeLine then K (.next (N.set i (.own (l++[d])))) else .no:=by show R.th (if l.length < sizeLine then _ else _) K=_;rw[zL];rfl
theorem xS_ext(e:E):(iS cl w (.ext i e) N).th K=oGo (zt N i) ((iR cl e N).th (qoM i K)):=by
 rw[qlJ]
 cases zt N i with
 |none=>rfl
 |some l=>show R.th (R.th (iR cl e N) _) K=_;rw[qc];rfl
def yExt(v:Rv):qoM i K (v,N)=qiX i N K (zt N i) v.plain?:=(rfl)
def yExt2(l n:List D):qiX i N K (some l) (some n)=if l.length+n.length<=sizeLine then K (.next (N.set i (.own (l++n)))) else .no:=by show R.th (if l.length+n.length<=sizeLine then _ else _) K=_;rw[zL];rfl
def xS_ret(e:E):(iS cl w (.ret e) N).th K=(qfH e (iR cl e) N).th (kRt K):=by rw[qlK,qc];rfl
def yRt(r:Rv):kRt K r=K (.ret r):=(rfl)
def xS_set(e:E):(iS cl w (.set i e) N).th K=(qco e (iR cl e) N).th (qoN i K):=by rw[qlL,qc];rfl
def ySet(s:Sl):qoN i K (s,N)=K (.next (N.set i s)):=(rfl)
def xS_setT(tg:Tg)(e:E):(iS cl w (.setT tg e) N).th K=(jG e (iR cl e) N).th (kST tg K):=by rw[qiO,qc];refine qp _ λx=>?_;rw[qc];rfl
def yST(tg:Tg)(d:D):kST tg K (d,N)=(tg.go d N).th (kNx K):=(rfl)
def yNx:kNx K N=K (.next N):=(rfl)
theorem xS_setI(x e:E):(iS cl w (.setI i x e) N).th K=(jG e (iR cl e) N).th (kSI cl i x K):=by
 rw[qiP,qc];refine qp _ λy=>?_;show R.th (match zt y.2 i with |none=>_ |some _=>_) K=oGo (zt y.2 i) _
 cases zt y.2 i with
 |none=>rfl
 |some l=>
  show R.th (R.th (iR cl x y.2) _) K=R.th _ _;rw[qc];refine qp _ λz=>?_;show R.th (match zt z.2 i,z.1.int? with |some l,some n=>_ |_,_=>_) K=qm7 i y.1 z.2 K (zt z.2 i) z.1.int?
  cases zt z.2 i with
  |none=>rfl
  |some l=>cases z.1.int?<;>rfl
def ySI(x:E)(d:D):kSI cl i x K (d,N)=oGo (zt N i) ((iR cl x N).th (qn9 i d K)):=(rfl)
def ySI2(d:D)(v:Rv):qn9 i d K (v,N)=qm7 i d N K (zt N i) v.int?:=(rfl)
def ySI3(d:D)(l:List D)(n:Int):qm7 i d N K (some l) (some n)=qn8 i d N K l (ixN l.length n):=(rfl)
def ySI4(d:D)(l:List D)(k:Nat):qn8 i d N K l (some k)=K (.next (N.set i (.own (l.set k d)))):=(rfl)
def xS_ite(c:T)(a b:Ss):(iS cl w (.ite c a b) N).th K=(iT cl c N).th (qoO cl w a b K):=by rw[qlM,qc];refine qp _ λt=>?_;rw[zL];rfl
def yIte(a b:Ss)(t:Bool):qoO cl w a b K (t,N)=if t=true then (iSs cl w a N).th K else (iSs cl w b N).th K:=(rfl)
def xS_for(tg:Tg)(src:I)(b:Ss):(iS cl w (.for_ tg src b) N).th K=(iI cl src N).th (qoP cl w tg b K):=by rw[qlN,qc];rfl
def yFor(tg:Tg)(b:Ss)(l:List D):qoP cl w tg b K (l,N)=(j5 cl w tg b l N).th K:=(rfl)
def xS_whl(c:T)(b:Ss):(iS cl w (.whl c b) N).th K=(whD cl w c b w N).th K:=(rfl)
def xSs_nil:(iSs cl w .nil N).th K=K (.next N):=(rfl)
def xSs_cons(s:S)(l:Ss):(iSs cl w (.cons s l) N).th K=(iS cl w s N).th (qiY cl w l K):=by rw[qf2,qc];rfl
def yNext(l:Ss):qiY cl w l K (.next N)=(iSs cl w l N).th K:=(rfl)
def yNextr(l:Ss)(r:Rv):qiY cl w l K (.ret r)=K (.ret r):=(rfl)
def xFo_cons(tg:Tg)(b:Ss)(d:D)(l:List D):(j5 cl w tg b (d::l) N).th K=(tg.go d N).th (qoQ cl w tg b l K):=by rw[qdT,qc,qc];refine qp _ λN2=>?_;rfl
def yFo1(tg:Tg)(b:Ss)(l:List D):qoQ cl w tg b l K N=(iSs cl w b N).th (qm8 cl w tg b l K):=(rfl)
def yFo2(tg:Tg)(b:Ss)(l:List D):qm8 cl w tg b l K (.next N)=(j5 cl w tg b l N).th K:=(rfl)
def yFo2r(tg:Tg)(b:Ss)(l:List D)(r:Rv):qm8 cl w tg b l K (.ret r)=K (.ret r):=(rfl)
def xWh(c:T)(b:Ss)(n:Nat):(whD cl w c b (n+1) N).th K=(iT cl c N).th (qoR cl w c b n K):=by rw[qf1,qc];refine qp _ λt=>?_;rw[zL,qc];rfl
def yWh1(c:T)(b:Ss)(n:Nat)(t:Bool):qoR cl w c b n K (t,N)=if t=true then (iSs cl w b N).th (qoa cl w c b n K) else K (.next N):=(rfl)
def yWh2(c:T)(b:Ss)(n:Nat):qoa cl w c b n K (.next N)=(whD cl w c b n N).th K:=(rfl)
end
section
variable(N:Env)(K:List D->R M)(e:E)(tg:Tg)(c:F)(l acc:List D)(d:D)
def xP_cons:(zi cl e tg c (d::l) N acc).th K=(tg.go d N).th (kP1 cl e tg c l acc K):=by
 rw[qcu,qc];refine qp _ λN1=>?_;rw[qc];refine qp _ λbt=>?_;rw[zL,qc];show(if bt.1=true then _ else _)=(if bt.1=true then _ else _)
 by_cases h:bt.1=true
 ·rw[if_pos h,if_pos h];refine qp _ λx=>?_;rw[zL];rfl
 ·rw[if_neg h,if_neg h]
def yP1:kP1 cl e tg c l acc K N=(iF cl c N).th (kP2 cl e tg c l acc K):=(rfl)
def yP2(t:Bool):kP2 cl e tg c l acc K (t,N)=if t=true then (jG e (iR cl e) N).th (kP3 cl e tg c l acc K) else (zi cl e tg c l N acc).th K:=(rfl)
def yP3:kP3 cl e tg c l acc K (d,N)=if acc.length < sizeLine then (zi cl e tg c l N (acc++[d])).th K else .no:=(rfl)
end
end
def vc:E->Bool
 |.var _=>true
 |.con _=>true
 |_=>false
def vc_bin(op:cq)(a b:E):vc (.bin op a b)=false:=(rfl)
def vc_neg(a:E):vc (.neg a)=false:=(rfl)
def vc_and(a b:E):vc (.and a b)=false:=(rfl)
def vc_cmp(op:aR)(a b:E):vc (.cmp op a b)=false:=(rfl)
def vc_ite(c:T)(a b:E):vc (.ite c a b)=false:=(rfl)
def vc_idx(a b:E):vc (.idx a b)=false:=(rfl)
def vc_sli(a:E)(lo hi:O):vc (.sli a lo hi)=false:=(rfl)
def vc_lst(l:Es):vc (.lst l)=false:=(rfl)
def vc_tup(l:Es):vc (.tup l)=false:=(rfl)
def vc_call(f:Str)(l:Es):vc (.call f l)=false:=(rfl)
def vc_b1(f:B1)(a:E):vc (.b1 f a)=false:=(rfl)
def vc_b2(f:B2)(a b:E):vc (.b2 f a b)=false:=(rfl)
def vc_fld(a:E)(x:Str):vc (.fld a x)=false:=(rfl)
def vc_met(a:E)(x:Str)(l:Es):vc (.met a x l)=false:=(rfl)
def vc_new(f:Str)(l:Es):vc (.new f l)=false:=(rfl)
def vc_comp(e:E)(src:I)(tg:Tg)(c:F)(n:Nat)(fr:List Nat):vc (.comp e src tg c n fr)=false:=(rfl)
section
variable{M:Type}(r:Env->R (Rv×Env))(N:Env)
def eE_g{e:E}(h:vc e=false)(K:D×Env->R M):(jG e r N).th K=(r N).th (qn7 K):=by rw[show jG e r N=(r N).th qm3 from(by cases e<;>first|rfl|(cases h)),qc];rfl
def eL_g{e:E}(h:vc e=false)(K:(Sk×List D)×Env->R M):(yz e r N).th K=(r N).th (qf6 K):=by rw[show yz e r N=(r N).th qm4 from(by cases e<;>first|rfl|(cases h)),qc];rfl
def eX_g{e:E}(h:vc e=false)(K:Rv->R M):(qfH e r N).th K=(r N).th (kX K):=by rw[show qfH e r N=(r N).th λx=>match x.1 with |.val d=>R.ok (.val d) |.tmp l=>.ok (.tmp l) |_=>.no from(by cases e<;>first|rfl|(cases h)),qc];rfl
def eA_g{e:E}(h:vc e=false)(K:Sl×Env->R M):(qco e r N).th K=(r N).th (kAx K):=by rw[show qco e r N=(r N).th λx=>match x.1 with |.val d=>R.ok (.val d,x.2) |.tmp l=>.ok (.own l,x.2) |_=>.no from(by cases e<;>first|rfl|(cases h)),qc];rfl
def eE_var(K:D×Env->R M)(i:Nat):(jG (.var i) r N).th K=(slE N i).th K:=(rfl)
def eE_con(K:D×Env->R M)(d:D):(jG (.con d) r N).th K=K (d,N):=(rfl)
def eL_var(K:(Sk×List D)×Env->R M)(i:Nat):(yz (.var i) r N).th K=(slL N i).th K:=(rfl)
def eX_var(K:Rv->R M)(i:Nat):(qfH (.var i) r N).th K=(slX N i).th K:=(rfl)
def eX_con(K:Rv->R M)(d:D):(qfH (.con d) r N).th K=K (.val d):=(rfl)
def eA_var(K:Sl×Env->R M)(i:Nat):(qco (.var i) r N).th K=(slE N i).th (kAv K):=qc (slE N i) _ _
def eA_con(K:Sl×Env->R M)(d:D):(qco (.con d) r N).th K=K (.val d,N):=(rfl)
end
def bAdd(a b:Int):qak .Add (.val (.int a)) (.val (.int b))=.ok (.val (.int (a+b))):=(rfl)
def bAdds(a b:Str):qak .Add (.val (.str a)) (.val (.str b))=if a.length+b.length<=sizeLine then .ok (.val (.str (a++b))) else .no:=(rfl)
def bAddtt(a b:List D):qak .Add (.tmp a) (.tmp b)=if a.length+b.length<=sizeLine then .ok (.tmp (a++b)) else .no:=(rfl)
def bSub(a b:Int):qak .Sub (.val (.int a)) (.val (.int b))=.ok (.val (.int (a - b))):=(rfl)
def bMult(a b:Int):qak .Mult (.val (.int a)) (.val (.int b))=if Zy a b=true then .ok (.val (.int (a * b))) else .no:=(rfl)
def bDiv(a b:Int):qak .FloorDiv (.val (.int a)) (.val (.int b))=if 0 < b/\b < 1073741824 then .ok (.val (.int (a / b))) else if b < 0/\-1073741824 < b then .ok (.val (.int (a.fdiv b))) else .no:=(rfl)
def bMod(a b:Int):qak .Mod (.val (.int a)) (.val (.int b))=if 0 < b then .ok (.val (.int (a % b))) else if b < 0 then .ok (.val (.int (a.fmod b))) else .no:=(rfl)
def bPow(a b:Int):qak .Pow (.val (.int a)) (.val (.int b))=if 0<=b/\b<=1000000/\a.natAbs < 2 ^ 64 then .ok (.val (.int (a ^ b.toNat))) else .no:=(rfl)
def cEq(x y:Rv):Jr .Eq x y=eqD x.data y.data:=(rfl)
def cNe(x y:Rv):Jr .NotEq x y=(eqD x.data y.data).map (!·):=(rfl)
def cLt(a b:Int):Jr .Lt (.val (.int a)) (.val (.int b))=some (decide (a < b)):=(rfl)
def cLe(a b:Int):Jr .LtE (.val (.int a)) (.val (.int b))=some (decide (a<=b)):=(rfl)
def cGt(a b:Int):Jr .Gt (.val (.int a)) (.val (.int b))=some (decide (b < a)):=(rfl)
def cGe(a b:Int):Jr .GtE (.val (.int a)) (.val (.int b))=some (decide (b<=a)):=(rfl)
def cIn(x y:Rv):Jr .In x y=qeU x y:=(rfl)
def cNi(x y:Rv):Jr .NotIn x y=(qeU x y).map (!·):=(rfl)
def mIn(a b:Str):qeU (.val (.str a)) (.val (.str b))=some (qjx a b):=(rfl)
def rgoV(i:Nat)(d:D)(N:Env):Tg.go (.one i) d N=.ok (N.set i (.val d)):=(rfl)
def rgoT(l:List Nat)(ds:List D)(N:Env):Tg.go (.many l) (.tup ds) N=Qs l ds N:=(rfl)
def setIs_nil(N:Env):Qs [] [] N=.ok N:=(rfl)
def setIs_cons(i:Nat)(l:List Nat)(d:D)(ds:List D)(N:Env):Qs (i::l) (d::ds) N=Qs l ds (N.set i (.val d)):=(rfl)
section
variable{α M:Type}(f:α->M)(a b:α)(l m:List α)(n:Nat)
def g_mapc:eT f (a::l)=f a::eT f l:=(rfl)
def g_mapn:eT f []=[]:=(rfl)
def g_lenc:(a::l).length=l.length+1:=(rfl)
def g_lenn:([]:List α).length=0:=(rfl)
def g_rep0:cz 0 a=[]:=(rfl)
def g_reps:cz (n+1) a=a::cz n a:=(rfl)
def g_appc:(a::l)++m=a::(l++m):=(rfl)
def g_appn:[]++m=m:=(rfl)
def g_set0:(a::l).set 0 b=b::l:=(rfl)
def g_sets:(a::l).set (n+1) b=a::l.set n b:=(rfl)
def g_last(l:List α)(x:α):atI (l++[x]) (-1)=some x:=L2.qff ..
def g_nott:(!true)=false:=(rfl)
def g_notf:(!false)=true:=(rfl)
def g_omap:Option.map f (some a)=some (f a):=(rfl)
def g_fe:(false=true)=False:=a7
def g_and(p:Prop):(p/\p)=p:=and_self p
def g_dt(h:Decidable True):@decide True h=true:=decide_true ..
def g_df(h:Decidable False):@decide False h=false:=decide_false ..
end
def aL(b:Bool)(l:List D):Ar:=match b with
 |true=>.bor l
 |false=>.val (.lst l)
def rA(b:Bool)(l:List D):Rv:=match b with
 |true=>.cell l
 |false=>.val (.lst l)
def pS(b:Bool)(l:List D):Sl:=match b with
 |true=>.bor l
 |false=>.val (.lst l)
section
variable{M:Type}(b:Bool)(l:List D)(N:DE.Env)
def lend_v(d:D):qeW (.val d)=.val d:=(rfl)
def qmk:aL true l=.bor l:=rfl
def qml:aL false l=.val (.lst l):=rfl
def sA_p:toSl (aL b l)=pS b l:=by cases b<;>rfl
def sA_R:slR (pS b l::N) 0=.ok (rA b l):=by cases b<;>rfl
def sA_L(K:(Sk×List D)×DE.Env->R M):(slL (pS b l::N) 0).th K=K ((.lst,l),pS b l::N):=by cases b<;>rfl
def rA_a:toAr (rA b l)=aL b l:=by cases b<;>rfl
def rA_l:(rA b l).list?=some l:=by cases b<;>rfl
def rA_s:(rA b l).str?=none:=by cases b<;>rfl
def rA_t:(rA b l).tup?=none:=by cases b<;>rfl
def rA_y:Ty.list.go (rA b l)=some true:=by cases b<;>rfl
end
noncomputable abbrev RW(pg:Pg)(f:Str)(c:Nat×Nat×Ss):Prop:=∀(k:Nat) (args:List Ar),clK pg (k+1) f args=runD (pg.kk k) 1000 c args
noncomputable abbrev USs(b c:Ss):Prop:=∀{M:Type} (cl:Cl) (w:Nat) (N:DE.Env) (K:Fl->R M),(iSs cl w b N).th K=(iSs cl w c N).th K
noncomputable abbrev UT(b c:T):Prop:=∀{M:Type} (cl:Cl) (N:DE.Env) (K:Bool×DE.Env->R M),(iT cl b N).th K=(iT cl c N).th K
noncomputable abbrev UE(b c:E):Prop:=∀{M:Type} (cl:Cl) (N:DE.Env) (K:D×DE.Env->R M),(jG b (iR cl b) N).th K=(jG c (iR cl c) N).th K
end DE
namespace DG
open PySem L2 DE
def rk(c:Str):Bool:=c == "Within" || c == "Since" || c == "InRow"
def pcs(x:Xs:={}):Cs where
 toXs:=x
 tab:=["Within","Since","InRow","Book"]
 fld:=λc x=>(rk c&&(x == "lands" || x == "most" || (x == "span" && c == "Within")||(x == "leave" && c != "Within")))||(c == "Book" && (x == "kept_rules" || x == "kept_papers"))
 mt:=λc x=>if rk c&&x == "weight" then some "Rule.weight" else if c == "Book" && x == "rules" then some "Book.rules" else if c == "Book" && x == "lifted" then some "Book.lifted" else if c == "Book" && x == "papers" then some "Book.papers" else none
 sub:=λc t=>if rk c&&t == "Within" then some (c == "Within") else if rk c&&t == "Since" then some (c != "Within") else none
def ZL(s:Str):Bool:=decide (1<=s.length)&&decide (s.length<=8)&&s.cps.toList.all λc=>decide (97<=c)&&decide (c<=122)
def qdU:D->Option (Str×Int)
 |.tup [.str s,.int w]=>if ZL s&&decide (1<=w)&&decide (w<=9) then some (s,w) else none
 |_=>none
def YM:List Str->List D->Bool
 |_,[]=>true
 | acc,d::l=>match qdU d with
  |some p=>!acc.contains p.1&&YM (acc++[p.1]) l
  |none=>false
def qx(l:List D):Bool:=decide (1<=l.length)&&decide (l.length<=6)&&YM [] l
def btw(n a b:Int):Bool:=decide (a<=n)&&decide (n<=b)
def ZM:D->Bool
 |.ins c _ _=>rk c
 |_=>false
def jw(many:Int):D->Bool
 |.tup [.int o,.int a,.int b]=>btw o 0 (many - 1)&&btw a 0 1000000000&&btw b 0 1000000000&&decide (a<=b)
 |_=>false
def arL:Ar->Option (List D)
 |.val (.lst l)=>some l
 |.bor l=>some l
 |_=>none
def arI:Ar->Option Int
 |.val (.int n)=>some n
 |_=>none
def qbz:List Ar->Option (List (Str×D))
 |[a,b]=>match arL a,arI b with
  |some l,some m=>if (qx l&&btw m 0 1000000000)=true then some [("lands",.tup l),("most",.int m)] else none
  |_,_=>none
 |_=>none
def jL(x:Str):List Ar->Option (List (Str×D))
 |[a,b,c]=>match arL a,arI b,arI c with
  |some l,some m,some s=>if (qx l&&btw m 0 1000000000&&btw s 1 1000000000)=true then some [("lands",.tup l),("most",.int m),(x,.int s)] else none
  |_,_,_=>none
 |_=>none
def qcv:List Ar->Option (List (Str×D))
 |[a,b]=>match arL a,arI b with
  |some l,some m=>if (qx l&&btw m 0 1000000000)=true then some [("lands",.tup l),("most",.int m),("leave",.int 1)] else none
  |_,_=>none
 |_=>none
def YN:List Ar->Option (List (Str×D))
 |[a,b]=>match arL a,arL b with
  |some l,some ps=>if ((decide (l.length<=8)&&l.all ZM)&&(decide (ps.length<=12)&&ps.all (jw l.length)))=true then some [("kept_rules",.lst l),("kept_papers",.lst ps)] else none
  |_,_=>none
 |_=>none
def qbA(c:Str):Option (List (Str×D))->R Rv
 |some fs=>.ok (.val (.ins c (fs.map (·.1)) (fs.map (·.2))))
 |none=>.no
def pnw(k:Nat)(f:Str)(args:List Ar):R Rv:=if k < 12 then .no else
 if f = "Within" then qbA "Within" (jL "span" args) else if f = "Since" then qbA "Since" (jL "leave" args) else if f = "InRow" then qbA "InRow" (qcv args) else if f = "Book" then qbA "Book" (YN args) else .no
def YO:Nat×Nat×Ss:=(1,1,%[.ret (.and (.isi Ty.int (.var 0)) (.one (.not (.isi Ty.bool (.var 0)))))|0])
def Jd:Nat×Nat×Ss:=(3,3,%[.ret (.and (.call "is_whole" %[0|0]) (.and (.cmp .LtE (.var 1) (.var 0)) (.one (.cmp .LtE (.var 0) (.var 2)))))|0])
def YQ:Nat×Nat×Ss:=(2,2,%[.ret (.and (.call "is_between" %[0,.con (.int 0),.con (.int 1000000000)|0]) (.and (.call "is_between" %[1,.con (.int 0),.con (.int 1000000000)|0]) (.one (.cmp .LtE (.var 0) (.var 1)))))|0])
noncomputable abbrev jM:Ss:=%[.ite (.cmp .NotIn (.var 2) (.var 1)) %[.ret (.con (.bl false))|0] .nil|0]
def zP:Ss:=jM
def Js:USs zP jM:=λ_ _ _ _=>(rfl)
def Je:Nat×Nat×Ss:=(2,3,%[.for_ (.one 2) (.seq (.var 0)) zP,.ret (.con (.bl true))|0])
def ZO:Nat×Nat×Ss:=(1,1,%[.ite (.not (.val (.isi Ty.str (.var 0)))) %[.ret (.con (.bl false))|0] .nil,.ret (.and (.cmp .LtE (.con (.int 1)) (.b1 .len (.var 0))) (.and (.cmp .LtE (.b1 .len (.var 0)) (.con (.int 8))) (.one (.call "is_made_of" %[0,.con (.str "abcdefghijklmnopqrstuvwxyz")|0]))))|0])
class CH(pg:Pg):Prop where
 r_is_whole:RW pg "is_whole" YO
 r_is_between:RW pg "is_between" Jd
 r_are_days:RW pg "are_days" YQ
 r_is_made_of:RW pg "is_made_of" Je
 r_is_name:RW pg "is_name" ZO
def ZQ:Nat×Nat×Ss:=(1,1,%[.ite (.or (.not (.val (.isi Ty.tuple (.var 0)))) (.one (.cmp .NotEq (.b1 .len (.var 0)) (.con (.int 3))))) %[.ret (.con (.bl false))|0] .nil,.ret (.and (.call "is_name" %[.idx (.var 0) (.con (.int 0))|0]) (.one (.call "are_days" %[.idx (.var 0) (.con (.int 1)),.idx (.var 0) (.con (.int 2))|0])))|0])
noncomputable abbrev yA:Ss:=%[.ite (.or (.not (.val (.call "is_stay" %[3|0]))) (.one (.cmp .LtE (.idx (.var 3) (.con (.int 1))) (.var 1)))) %[.rai "NoStay" %[2|0]|0] .nil,.set 1 (.idx (.var 3) (.con (.int 2)))|0]
def jN:Ss:=yA
def Yy:USs jN yA:=λ_ _ _ _=>(rfl)
def YR:Nat×Nat×Ss:=(1,4,%[.ite (.not (.val (.isi Ty.list (.var 0)))) %[.rai "NoStay" %[.con .non|0]|0] .nil,.set 1 (.neg (.con (.int 1))),.for_ (.many [2,3]) (.enum (.var 0)) jN,.ite (.cmp .Gt (.b1 .len (.var 0)) (.con (.int 60))) %[.rai "NoStay" %[.con .non|0]|0] .nil,.ret (.b1 .list (.var 0))|0])
class ST(pg:Pg):Prop where
 r_is_stay:RW pg "is_stay" ZQ
 r_stays_of:RW pg "stays_of" YR
noncomputable abbrev J4:Ss:=%[.ite (.and (.val (.var 1)) (.one (.cmp .LtE (.var 2) (.bin .Add (.idx (.idx (.var 1) (.neg (.con (.int 1)))) (.con (.int 1))) (.con (.int 1)))))) %[.setI 1 (.neg (.con (.int 1))) (.tup %[.idx (.idx (.var 1) (.neg (.con (.int 1)))) (.con (.int 0)),.b2 .max (.idx (.idx (.var 1) (.neg (.con (.int 1)))) (.con (.int 1))) (.var 3)|0])|0] %[.app 1 (.tup %[2,3|0])|0]|0]
def y4:Ss:=J4
def jO:USs y4 J4:=λ_ _ _ _=>(rfl)
def qbB:Nat×Nat×Ss:=(1,4,%[.set 1 (.lst .nil),.for_ (.many [2,3]) (.seq (.b1 .srt (.var 0))) y4,.ret (.var 1)|0])
class SP(pg:Pg):Prop where
 r_spread:RW pg "spread" qbB
def ZU:Nat×Nat×Ss:=(1,1,%[.ite (.or (.not (.val (.isi Ty.tuple (.var 0)))) (.one (.cmp .NotEq (.b1 .len (.var 0)) (.con (.int 2))))) %[.ret (.con (.bl false))|0] .nil,.ret (.and (.call "is_name" %[.idx (.var 0) (.con (.int 0))|0]) (.one (.call "is_between" %[.idx (.var 0) (.con (.int 1)),.con (.int 1),.con (.int 9)|0])))|0])
noncomputable abbrev j9:Ss:=%[.ite (.or (.not (.val (.call "is_land" %[2|0]))) (.one (.cmp .In (.idx (.var 2) (.con (.int 0))) (.var 1)))) %[.ret (.con (.bl false))|0] .nil,.app 1 (.idx (.var 2) (.con (.int 0)))|0]
def jl:Ss:=j9
def J5:USs jl j9:=λ_ _ _ _=>(rfl)
def J6:Nat×Nat×Ss:=(1,3,%[.ite (.or (.not (.val (.isi Ty.list (.var 0)))) (.or (.cmp .Lt (.b1 .len (.var 0)) (.con (.int 1))) (.one (.cmp .Gt (.b1 .len (.var 0)) (.con (.int 6)))))) %[.ret (.con (.bl false))|0] .nil,.set 1 (.lst .nil),.for_ (.one 2) (.seq (.var 0)) jl,.ret (.con (.bl true))|0])
abbrev jx:Ss:=%[.ite (.cmp .Eq (.var 2) (.var 1)) %[.ret (.var 3)|0] .nil|0]
def zy:Ss:=jx
def zW:USs zy jx:=λ_ _ _ _=>(rfl)
def jm:Nat×Nat×Ss:=(2,4,%[.for_ (.many [2,3]) (.seq (.fld (.var 0) "lands")) zy,.ret (.con (.int 0))|0])
class RU(pg:Pg):Prop where
 cs:pg.cs=pcs pg.xx
 nw:pg.nw=pnw
 r_is_land:RW pg "is_land" ZU
 r_are_lands:RW pg "are_lands" J6
 r_Rule_weight:RW pg "Rule.weight" jm
noncomputable abbrev ya:Ss:=%[.ite (.and (.not (.val (.isc "Within" (.var 1)))) (.one (.not (.val (.isc "Since" (.var 1)))))) %[.ret (.con (.bl false))|0] .nil|0]
def jn:Ss:=ya
def jP:USs jn ya:=λ_ _ _ _=>(rfl)
def J7:Nat×Nat×Ss:=(1,2,%[.ite (.or (.not (.val (.isi Ty.list (.var 0)))) (.one (.cmp .Gt (.b1 .len (.var 0)) (.con (.int 8))))) %[.ret (.con (.bl false))|0] .nil,.for_ (.one 1) (.seq (.var 0)) jn,.ret (.con (.bl true))|0])
def YS:Nat×Nat×Ss:=(2,2,%[.ite (.or (.not (.val (.isi Ty.tuple (.var 0)))) (.one (.cmp .NotEq (.b1 .len (.var 0)) (.con (.int 3))))) %[.ret (.con (.bl false))|0] .nil,.ret (.and (.call "is_between" %[.idx (.var 0) (.con (.int 0)),.con (.int 0),.bin .Sub (.var 1) (.con (.int 1))|0]) (.one (.call "are_days" %[.idx (.var 0) (.con (.int 1)),.idx (.var 0) (.con (.int 2))|0])))|0])
noncomputable abbrev zX:Ss:=%[.ite (.not (.val (.call "is_paper" %[3,1|0]))) %[.rai "NoPaper" %[2|0]|0] .nil|0]
def zj:Ss:=zX
def yB:USs zj zX:=λ_ _ _ _=>(rfl)
def yc:Nat×Nat×Ss:=(2,4,%[.ite (.not (.val (.isi Ty.list (.var 0)))) %[.rai "NoPaper" %[.con .non|0]|0] .nil,.for_ (.many [2,3]) (.enum (.var 0)) zj,.ite (.cmp .Gt (.b1 .len (.var 0)) (.con (.int 12))) %[.rai "NoPaper" %[.con .non|0]|0] .nil|0])
def Jf:Nat×Nat×Ss:=(1,1,%[.ret (.b1 .list (.fld (.var 0) "kept_rules"))|0])
def Qz:Nat×Nat×Ss:=(1,1,%[.ret (.b1 .list (.fld (.var 0) "kept_papers"))|0])
abbrev jy:E:=(.tup %[1,2|0])
def zA:E:=jy
def zY:UE zA jy:=λ_ _ _=>(rfl)
def yC:Nat×Nat×Ss:=(2,2,%[.ret (.call "spread" %[.comp zA (.seq (.fld (.var 0) "kept_papers")) (.many [0,1,2]) (.test (.cmp .Eq (.var 0) (.var 3))) 3 [1]|0])|0])
class BO(pg:Pg):Prop where
 r_are_rules:RW pg "are_rules" J7
 r_is_paper:RW pg "is_paper" YS
 r_check_papers:RW pg "check_papers" yc
 r_Book_rules:RW pg "Book.rules" Jf
 r_Book_papers:RW pg "Book.papers" Qz
 r_Book_lifted:RW pg "Book.lifted" yC
end DG
namespace FA
open PySem L2 DE DG
def zQ:Nat×Nat×Ss:=(2,2,%[.ite (.cmp .Lt (.var 1) (.b1 .len (.var 0))) %[.ret (.idx (.var 0) (.var 1))|0] .nil,.ret (.con (.int 0))|0])
class LC(pg:Pg):Prop where
 r__law_cell_at:RW pg "_law_cell_at" zQ
noncomputable abbrev jQ:Ss:=%[.set 9 (.bin .Add (.bin .Add (.bin .FloorDiv (.var 0) (.con (.int 64))) (.bin .Mult (.bin .Mult (.con (.int 5)) (.var 8)) (.var 8))) (.bin .Mult (.bin .Mult (.con (.int 3)) (.var 6)) (.b1 .int (.cmp .Eq (.var 8) (.var 4))))),.set 7 (.bin .Add (.var 7) (.idx (.var 2) (.bin .Mod (.var 9) (.con (.int 26)))))|0]
def zd:Ss:=jQ
def Jt:USs zd jQ:=λ_ _ _ _=>(rfl)
noncomputable abbrev jR:Ss:=%[.set 7 (.con (.str "")),.for_ (.one 8) (.rng (.var 3)) zd,.app 5 (.var 7)|0]
def zR:Ss:=jR
def Ju:USs zR jR:=λ_ _ _ _=>(rfl)
def Jg:Nat×Nat×Ss:=(2,10,%[.set 2 (.con (.str "abcdefghijklmnopqrstuvwxyz")),.set 3 (.bin .Add (.con (.int 1)) (.bin .Mod (.var 0) (.con (.int 8)))),.set 4 (.bin .Mod (.bin .FloorDiv (.var 0) (.con (.int 8))) (.var 3)),.set 5 (.lst .nil),.for_ (.one 6) (.rng (.var 1)) zR,.ret (.var 5)|0])
class LN(pg:Pg):Prop where
 r__law_lands:RW pg "_law_lands" Jg
noncomputable abbrev yd:Ss:=%[.app 3 (.tup %[.idx (.var 1) (.bin .Mod (.bin .Add (.bin .FloorDiv (.var 2) (.con (.int 18))) (.var 4)) (.b1 .len (.var 1))),.bin .Add (.con (.int 1)) (.bin .Mod (.bin .FloorDiv (.bin .FloorDiv (.var 2) (.con (.int 108))) (.bin .Add (.var 4) (.con (.int 1)))) (.idx (.lst %[.con (.int 9),.con (.int 2),.con (.int 2)|0]) (.bin .Mod (.bin .Add (.var 2) (.var 4)) (.con (.int 3)))))|0])|0]
def jo:Ss:=yd
def J8:USs jo yd:=λ_ _ _ _=>(rfl)
def jp:Nat×Nat×Ss:=(2,7,%[.set 2 (.bin .Mod (.bin .Mult (.var 0) (.con (.int 1099087573))) (.con (.int 10000000000037))),.set 3 (.lst .nil),.for_ (.one 4) (.rng (.bin .Add (.con (.int 1)) (.bin .Mod (.bin .FloorDiv (.var 2) (.con (.int 3))) (.b1 .len (.var 1))))) jo,.set 5 (.bin .Mod (.bin .FloorDiv (.var 2) (.con (.int 972))) (.con (.int 25))),.set 6 (.bin .Add (.con (.int 1)) (.bin .Mod (.bin .FloorDiv (.var 2) (.con (.int 24300))) (.con (.int 40)))),.ite (.cmp .Eq (.bin .Mod (.var 2) (.con (.int 3))) (.con (.int 0))) %[.ret (.tup %[.con (.str "within"),3,5,6|0])|0] .nil,.ite (.cmp .Eq (.bin .Mod (.var 2) (.con (.int 3))) (.con (.int 1))) %[.ret (.tup %[.con (.str "since"),3,5,6|0])|0] .nil,.ret (.tup %[.con (.str "row"),3,5,.con (.int 1)|0])|0])
class LR(pg:Pg):Prop where
 r__law_rule:RW pg "_law_rule" jp
def jq:Nat×Nat×Ss:=(1,5,%[.setT (.many [1,2,3,4]) (.var 0),.ite (.cmp .Eq (.var 1) (.con (.str "within"))) %[.ret (.new "Within" %[.b1 .list (.var 2),3,4|0])|0] .nil,.ite (.cmp .Eq (.var 1) (.con (.str "since"))) %[.ret (.new "Since" %[.b1 .list (.var 2),3,4|0])|0] .nil,.ret (.new "InRow" %[.b1 .list (.var 2),3|0])|0])
class LM(pg:Pg):Prop where
 r__law_made:RW pg "_law_made" jq
def Jh:Nat×Nat×Ss:=(3,5,%[.set 3 (.bin .Mod (.bin .Mult (.var 0) (.con (.int 982451653))) (.con (.int 10000000000037))),.set 4 (.bin .Add (.var 2) (.bin .Mod (.bin .FloorDiv (.var 3) (.con (.int 8))) (.con (.int 60)))),.ret (.tup %[.bin .Mod (.var 3) (.var 1),4,.bin .Add (.var 4) (.bin .Mod (.bin .FloorDiv (.var 3) (.con (.int 480))) (.con (.int 9)))|0])|0])
class LP(pg:Pg):Prop where
 r__law_paper:RW pg "_law_paper" Jh
noncomputable abbrev jS:Ss:=%[.set 6 (.bin .Mod (.bin .Mult (.var 5) (.con (.int 1099087573))) (.con (.int 10000000000037))),.set 7 (.bin .Add (.var 4) (.bin .Mult (.bin .Mod (.var 6) (.con (.int 6))) (.bin .Mod (.bin .FloorDiv (.var 6) (.con (.int 6))) (.con (.int 3))))),.set 8 (.bin .Add (.var 7) (.bin .Mod (.bin .FloorDiv (.var 6) (.con (.int 18))) (.con (.int 9)))),.ite (.cmp .LtE (.var 8) (.bin .Add (.var 2) (.con (.int 59)))) %[.app 3 (.tup %[.idx (.var 1) (.bin .Mod (.bin .FloorDiv (.var 6) (.con (.int 162))) (.b1 .len (.var 1))),7,8|0]),.set 4 (.bin .Add (.var 8) (.con (.int 1)))|0] .nil|0]
def zS:Ss:=jS
def jz:USs zS jS:=λ_ _ _ _=>(rfl)
def Ji:Nat×Nat×Ss:=(3,9,%[.set 3 (.lst .nil),.set 4 (.var 2),.for_ (.one 5) (.seq (.var 0)) zS,.ret (.var 3)|0])
class LS(pg:Pg):Prop where
 r__law_stays:RW pg "_law_stays" Ji
end FA
namespace DG
open PySem L2 DE
open CH ST SP RU BO
section
variable{pg:Pg}[CH pg]
def qf7(k:Nat)(n:Int):clK pg (k+1) "is_whole" [.val (.int n)]=.ok (.val (.bl true)):=by rw[r_is_whole];simp?![YO]
def zZ(k:Nat)(n a b:Int)(h1:a<=n)(h2:n<=b):clK pg (k+2) "is_between" [.val (.int n),.val (.int a),.val (.int b)]=.ok (.val (.bl true)):=by rw[r_is_between];simp?![Jd,qf7,h1,h2,decide_true]
def qdV(k:Nat)(a b:Int)(h0:0<=a)(h1:a<=b)(h2:b<=1000000000):clK pg (k+3) "are_days" [.val (.int a),.val (.int b)]=.ok (.val (.bl true)):=by
 have h3:a<=1000000000:=by lia
 have h4:0<=b:=by lia
 rw[r_are_days];simp?![YQ,zZ k a 0 1000000000 h0 h3,zZ k b 0 1000000000 h4 h2,h1,decide_true]
def y6(c:Nat):Prop:=97<=c/\c < 123
def qiZ(c:Nat)(h:y6 c):qjx ⟨#[c]⟩ "abcdefghijklmnopqrstuvwxyz" = true:=by
 have key:∀j:Fin 26,qjx ⟨#[97+j.val]⟩ "abcdefghijklmnopqrstuvwxyz" = true:=(3:)
 have:=key ⟨c - 97,by unfold y6 at h;omega⟩
 rw[show 97+(c - 97)=c by unfold y6 at h;omega]at this;exact this
theorem ZV(k:Nat)(z:Str):∀(l:List Nat) (s:Sl),(∀c∈l,y6 c)->∃s',j5 (pg.kk k) 1000 (.one 2) zP (l.map λc=>D.str ⟨#[c]⟩) [.val (.str z),.val (.str "abcdefghijklmnopqrstuvwxyz"),s]=.ok (.next [.val (.str z),.val (.str "abcdefghijklmnopqrstuvwxyz"),s'])
 |[],s,_=>{s,by rw[aK,jk]}
 | c::l,s,h=>by obtain⟨s',e⟩:=ZV k z l (.val (.str ⟨#[c]⟩)) λx hx=>h x (by simp[hx]);refine{s',?_};rw[av];simp?[Js,qiZ c (h c (5:)),e]
def qaH(k:Nat)(z:Str)(h:∀c∈z.cps.toList,y6 c):clK pg (k+1) "is_made_of" [.val (.str z),.val (.str "abcdefghijklmnopqrstuvwxyz")]=.ok (.val (.bl true)):=by rw[r_is_made_of];obtain⟨s',e⟩:=ZV (pg:=pg) k z z.cps.toList .no h;simp?![Je,gy,gz,qfE,e]
structure NameOk(z:Str):Prop where
 one:1<=z.cps.size
 eight:z.cps.size<=8
 lets:∀c∈z.cps.toList,y6 c
def qdW(k:Nat)(z:Str)(h:NameOk z):clK pg (k+2) "is_name" [.val (.str z)]=.ok (.val (.bl true)):=by
 have hz:z.length<=sizeLine:=by
  have:=h.eight
  show z.cps.size<=2 ^ 24
  lia
 have h1:(1:Int)<=(z.length:Int):=by
  have:=h.one
  show(1:Int)<=(z.cps.size:Int)
  lia
 have h8:(z.length:Int)<=8:=by
  have:=h.eight
  show(z.cps.size:Int)<=8
  lia
 rw[r_is_name];simp?![ZO,hz,h1,h8,decide_true,qaH k z h.lets]
def stD(s:Str×Int×Int):D:=.tup [.str s.1,.int s.2.1,.int s.2.2]
def z9(s:Str×Int×Int):stD s=.tup [.str s.1,.int s.2.1,.int s.2.2]:=rfl
structure StOk(e:Int)(s:Str×Int×Int):Prop where
 nm:NameOk s.1
 lo:e < s.2.1
 ab:s.2.1<=s.2.2
 hi:s.2.2<=1000000000
end
section
variable{pg:Pg}[CH pg][ST pg]
def qi0(k:Nat)(e:Int)(s:Str×Int×Int)(he:-1<=e)(h:StOk e s):clK pg (k+4) "is_stay" [.val (stD s)]=.ok (.val (.bl true)):=by
 have hlo:=h.lo;have hab:=h.ab;rw[r_is_stay];have e0:atI [D.str s.1,D.int s.2.1,D.int s.2.2] 0=some (.str s.1):=by rfl
 have e1:atI [D.str s.1,D.int s.2.1,D.int s.2.2] 1=some (.int s.2.1):=by rfl
 have e2:atI [D.str s.1,D.int s.2.1,D.int s.2.2] 2=some (.int s.2.2):=by rfl
 simp?![ZQ,stD,e0,e1,e2,qD,qdW (k+1) s.1 h.nm,qdV k s.2.1 s.2.2 (1:) h.ab h.hi,show((((0+1+1+1:Nat):Int) == 3)=true) from rfl]
def Ch:Int->List (Str×Int×Int)->Prop
 |_,[]=>True
 | e,s::l=>StOk e s/\Ch s.2.2 l
theorem zu(k:Nat)(v:Sl):∀(l:List (Str×Int×Int)) (i:Nat) (e:Int) (s2 s3:Sl),-1<=e->Ch e l->∃e' s2' s3',j5 (pg.kk (k+4)) 1000 (.many [2,3]) jN (enF i (l.map stD)) [v,.val (.int e),s2,s3]=.ok (.next [v,.val (.int e'),s2',s3'])
 |[],i,e,s2,s3,_,_=>⟨e,s2,s3,rfl⟩
 | s::l,i,e,s2,s3,he,h=>by
  have h1:=h.1.lo;have h2:=h.1.ab;obtain⟨e',s2',s3',ih⟩:=zu k v l (i+1) s.2.2 (.val (.int i)) (.val (stD s)) (1:) h.2;refine{e',s2',s3',?_};have hn:¬ s.2.1<=e:=by lia
  have st:=qi0 (pg:=pg) k e s he h.1;simp![z9]at st ih;refine(qg _).symm.trans ?_;rw[av,enF];simp?![Yy,z9,st,hn,ih]
def JK(k:Nat)(b:Bool)(l:List (Str×Int×Int))(h:Ch (-1) l)(hl:l.length<=60):clK pg (k+5) "stays_of" [aL b (l.map stD)]=.ok (.tmp (l.map stD)):=by
 have h6:¬ (60:Int) < ((l.map stD).length:Int):=by rw[aD];lia
 obtain⟨e',s2',s3',ih⟩:=zu (pg:=pg) k (pS b (l.map stD)) l 0 (-1) .no .no (1:) h;rw[r_stays_of];simp?![YR,gy,gz,JJ,ih,h6,decide_false]
end
def NameOk.of{z:Str}(h:ZL z=true):NameOk z:=by
 unfold ZL at h;simp![aG,decide_eq_true_eq,eX]at h;refine{h.1.1,h.1.2,λc hc=>?_}
 have:=h.2 c hc
 unfold y6
 lia
theorem qmm(d:D):(qdU d).elim True λp=>d=.tup [.str p.1,.int p.2]/\NameOk p.1/\1<=p.2/\p.2<=9:=by
 cases d with
 |tup l=>cases l with
  |nil=>exact aJ
  |cons a l=>cases a with
   |str x=>cases l with
    |nil=>exact aJ
    |cons b l=>cases b with
     |int y=>cases l with
      |nil=>
       show(if (ZL x&&decide (1<=y)&&decide (y<=9))=true then some (x,y) else none).elim True _
       by_cases hc:(ZL x&&decide (1<=y)&&decide (y<=9))=true
       ·rw[if_pos hc];simp![aG,decide_eq_true_eq]at hc;exact{rfl,NameOk.of hc.1.1,hc.1.2,hc.2}
       ·rw[if_neg hc];exact aJ
      |cons _ _=>exact aJ
     |_=>exact aJ
   |_=>exact aJ
 |_=>exact aJ
def qf8{d:D}{p:Str×Int}(h:qdU d=some p):d=.tup [.str p.1,.int p.2]/\NameOk p.1/\1<=p.2/\p.2<=9:=by have b:=qmm d;rw[h]at b;exact b
section
variable{pg:Pg}[CH pg][RU pg]
def qi1(k:Nat)(s:Str)(w:Int)(hs:NameOk s)(h1:1<=w)(h9:w<=9):clK pg (k+3) "is_land" [.val (.tup [.str s,.int w])]=.ok (.val (.bl true)):=by
 rw[r_is_land];have e0:atI [D.str s,D.int w] 0=some (.str s):=by rfl
 have e1:atI [D.str s,D.int w] 1=some (.int w):=by rfl
 simp?![ZU,e0,e1,qD,qdW k s hs,zZ k w 1 9 h1 h9,show((((0+1+1:Nat):Int) == 2)=true) from rfl]
end
def qf9(s:Str)(acc:List Str):inD (.str s) (acc.map D.str)=some (acc.contains s):=by
 have e:∀acc:List Str,inV (V.str s) (acc.map V.str)=acc.contains s:=by
  intro acc
  induction acc with
  |nil=>rfl
  |cons z l ih=>
   rw[av,kR,<-ih];show(eqV (V.str z) (V.str s)||_)=_
   congr 1
   exact BEq.comm
 unfold inD;rw[if_pos (by simp[Jq]),show(acc.map D.str).map flV=acc.map V.str by simp[flV]];exact congrArg some (e acc)
def qdX(s:Str)(acc:List Str):qeU (.val (.str s)) (.cell (acc.map D.str))=some (acc.contains s):=qf9 s acc
section
variable{pg:Pg}[CH pg][RU pg]
theorem YT(k:Nat)(v:Sl):∀(l:List D) (acc:List Str) (s2:Sl),YM acc l=true->acc.length+l.length < 1000->∃acc' s2',j5 (pg.kk (k+3)) 1000 (.one 2) jl l [v,.own (acc.map D.str),s2]=.ok (.next [v,.own acc',s2'])
 |[],acc,s2,_,_=>{_,s2,rfl}
 | d::l,acc,s2,h,hl=>by
  unfold YM at h
  cases e:qdU d with
  |none=>rw[e]at h;cases h
  |some p=>
   rw[e]at h;simp![aG,da]at h;obtain⟨rfl,hn,h1,h9⟩:=qf8 e;rw[aQ]at hl;obtain⟨acc',s2',ih⟩:=YT k v l (acc++[p.1]) (.val (.tup [.str p.1,.int p.2])) h.2 (by simp;lia);refine{acc',s2',?_};rw[a8,av,aK]at ih;have e0:atI [D.str p.1,D.int p.2] 0=some (.str p.1):=by rfl
   have hs:(acc.map D.str).length < sizeLine:=by
    rw[aD];show acc.length < 2 ^ 24
    lia
   simp?[J5,e0,qi1 k p.1 p.2 hn h1 h9,qdX,h.1,hs,ih]
def qaI(k:Nat)(b:Bool)(l:List D)(h:qx l=true):clK pg (k+4) "are_lands" [aL b l]=.ok (.val (.bl true)):=by
 unfold qx at h;simp![aG,decide_eq_true_eq]at h;have h1:¬ (l.length:Int) < 1:=by have:=h.1.1;lia
 have h2:¬ (6:Int) < (l.length:Int):=by have:=h.1.2;lia
 rw[r_are_lands];obtain⟨acc',s2',ih⟩:=YT (pg:=pg) k (pS b l) l [] .no h.2 (by have:=h.1.2;simp;lia);rw[aK]at ih;simp?![J6,h1,h2,show(0:Nat)<=sizeLine by decide+kernel,ih]
end
section
variable{pg:Pg}[CH pg]
def qmn(k:Nat)(n a b:Int)(h:btw n a b=true):clK pg (k+2) "is_between" [.val (.int n),.val (.int a),.val (.int b)]=.ok (.val (.bl true)):=by unfold btw at h;simp![aG,decide_eq_true_eq]at h;exact zZ k n a b h.1 h.2
end
theorem YU(cl:Cl){xx:Xs}(hc:cl.cs=pcs xx)(v:Sl):∀(l:List D) (s1:Sl),l.all ZM=true->∃s1',j5 cl 1000 (.one 1) jn l [v,s1]=.ok (.next [v,s1'])
 |[],s1,_=>⟨s1,rfl⟩
 | d::l,s1,h=>by
  rw[fk,aG]at h
  cases d with
  |ins c ns ds=>
   obtain⟨s1',ih⟩:=YU cl hc v l (.val (.ins c ns ds)) h.2;refine{s1',?_};have hk:rk c=true:=h.1
   have i1:qfF (pcs xx) (.val (.ins c ns ds)) "Within" = some (c == "Within"):=by show(if (rk c&&_)=true then _ else _)=_;rw[hk];rfl
   have i2:qfF (pcs xx) (.val (.ins c ns ds)) "Since" = some (c != "Within"):=by show(if (rk c&&false)=true then _ else if (rk c&&true)=true then _ else _)=_;rw[hk];rfl
   refine(qg _).symm.trans ?_
   by_cases hw:(c == "Within")=true
   ·simp?![jP,hc,i1,hw,ih]
   ·have hw:(c == "Within")=false:=(-hw:)
    have hn:(c != "Within")=true:=by simp[bne,hw]
    simp?![jP,hc,i1,i2,hw,hn,ih]
  |_=>cases h.1
section
variable{pg:Pg}[CH pg][RU pg][BO pg]
def qaJ(k:Nat)(b:Bool)(l:List D)(h:(decide (l.length<=8)&&l.all ZM)=true):clK pg (k+1) "are_rules" [aL b l]=.ok (.val (.bl true)):=by
 simp![aG,decide_eq_true_eq]at h;have h2:¬ (8:Int) < (l.length:Int):=by have:=h.1;lia
 rw[r_are_rules];obtain⟨s1',ih⟩:=YU (pg.kk k) RU.cs (pS b l) l .no h.2;simp?![J7,h2,ih]
end
theorem qi2(n:Int)(d:D):cond (jw n d) (∃o a b,d=.tup [.int o,.int a,.int b]/\0<=o/\o<=n - 1/\0<=a/\a<=b/\b<=1000000000) True:=by
 cases d with
 |tup l=>cases l with
  |nil=>exact aJ
  |cons a l=>cases a with
   |int o=>cases l with
    |nil=>exact aJ
    |cons b l=>cases b with
     |int a=>cases l with
      |nil=>exact aJ
      |cons c l=>cases c with
       |int b=>cases l with
        |nil=>
         cases h:jw n (.tup [.int o,.int a,.int b]) with
         |false=>exact aJ
         |true=>simp![jw,btw,aG,decide_eq_true_eq]at h;exact⟨o,a,b,rfl,h.1.1.1.1,h.1.1.1.2,h.1.1.2.1,h.2,h.1.2.2⟩
        |cons _ _=>exact aJ
       |_=>exact aJ
     |_=>exact aJ
   |_=>exact aJ
 |_=>exact aJ
def qdY{n:Int}{d:D}(h:jw n d=true):∃o a b,d=.tup [.int o,.int a,.int b]/\0<=o/\o<=n - 1/\0<=a/\a<=b/\b<=1000000000:=by have b:=qi2 n d;rw[h]at b;exact b
section
variable{pg:Pg}[CH pg][BO pg]
def QA(k:Nat)(n:Int)(d:D)(h:jw n d=true):clK pg (k+4) "is_paper" [.val d,.val (.int n)]=.ok (.val (.bl true)):=by
 obtain⟨o,a,b,rfl,h1,h2,h3,h4,h5⟩:=qdY h;have e0:atI [D.int o,D.int a,D.int b] 0=some (.int o):=by rfl
 have e1:atI [D.int o,D.int a,D.int b] 1=some (.int a):=by rfl
 have e2:atI [D.int o,D.int a,D.int b] 2=some (.int b):=by rfl
 rw[r_is_paper];simp?![YS,e0,e1,e2,qD,zZ (k+1) o 0 (n - 1) h1 h2,qdV k a b h3 h4 h5,show((((0+1+1+1:Nat):Int) == 3)=true) from rfl]
theorem J9(k:Nat)(v:Sl)(n:Int):∀(l:List D) (i:Nat) (s2 s3:Sl),l.all (jw n)=true->∃s2' s3',j5 (pg.kk (k+4)) 1000 (.many [2,3]) zj (enF i l) [v,.val (.int n),s2,s3]=.ok (.next [v,.val (.int n),s2',s3'])
 |[],i,s2,s3,_=>⟨s2,s3,rfl⟩
 | d::l,i,s2,s3,h=>by rw[fk,aG]at h;obtain⟨s2',s3',ih⟩:=J9 k v n l (i+1) (.val (.int i)) (.val d) h.2;refine{s2',s3',?_};refine(qg _).symm.trans ?_;rw[enF];simp?![yB,QA k n d h.1,ih]
def Yz(k:Nat)(b:Bool)(ps:List D)(n:Int)(h:(decide (ps.length<=12)&&ps.all (jw n))=true):clK pg (k+5) "check_papers" [aL b ps,.val (.int n)]=.ok (.val .non):=by
 simp![aG,decide_eq_true_eq]at h;have h2:¬ (12:Int) < (ps.length:Int):=by have:=h.1;lia
 rw[r_check_papers];obtain⟨s2',s3',ih⟩:=J9 (pg:=pg) k (pS b ps) n ps 0 .no .no h.2;simp?![yc,JJ,ih,h2]
end
end DG
namespace FA
open PySem L2 DE DG
open LC LN LR LM LP LS
def Yb{i j:Int}(h1:-(2 ^ 64) < j)(h2:j < 2 ^ 64):Zy i j=true:=by unfold Zy;rw[decide_eq_true h1,decide_eq_true h2];simp
def qhb{i j:Int}(h1:-(2 ^ 64) < i)(h2:i < 2 ^ 64):Zy i j=true:=by unfold Zy;rw[decide_eq_true h1,decide_eq_true h2];simp
def jT(ns:List Int)(i:Nat):Int:=ns.getD i 0
section
variable{pg:Pg}[LC pg]
def qaK(k:Nat)(ns:List Int)(i:Nat):clK pg (k+1) "_law_cell_at" [.scr (ns.map D.int),.val (.int (i:Int))]=.ok (.val (.int (jT ns i))):=by
 rw[r__law_cell_at]
 by_cases h:i < ns.length
 ·have h1:(i:Int) < ((ns.map D.int).length:Int):=by rw[aD];lia
  have h2:atI (ns.map D.int) (i:Int)=some (.int (jT ns i)):=qg8 (by simp[h,jT]);simp?![zQ,gy,gz,h1,h2,decide_true]
 ·have h1:¬ (i:Int) < ((ns.map D.int).length:Int):=by rw[aD];lia
  have h2:jT ns i=0:=by simp[jT,h]
  simp?![zQ,gy,gz,h1,h2,decide_false]
end
def qmo(i:Int)(h0:0<=i)(h1:i < 26):atI (Str.cps "abcdefghijklmnopqrstuvwxyz").toList i=some (97+i.toNat)/\y6 (97+i.toNat):=by
 have key:∀j:Fin 26,atI (Str.cps "abcdefghijklmnopqrstuvwxyz").toList (j.val:Int)=some (97+j.val):=(3:)
 obtain⟨j,rfl⟩:=mI h0;exact{key {j,by lia},by unfold y6;simp;lia}
def qga(z:Str)(c:Nat):(z++(⟨#[c]⟩:Str)).cps.toList=z.cps.toList++[c]:=by show(z.cps ++ #[c]).toList=_;simp
def ltr(cell at' k:Int)(j:Nat):Nat:=97+((cell / 64+5 * (j:Int) * (j:Int)+3 * k * (if ((j:Int) == at')=true then 1 else 0)) % 26).toNat
def qi3(cell at' k:Int)(j:Nat):y6 (ltr cell at' k j):=by
 unfold y6 ltr
 lia
def Nm(cell at' k:Int)(j:Nat)(z:Str):Prop:=z.cps.toList=(cw j).map (ltr cell at' k)
def Nm.ok{cell at' k:Int}{m:Nat}{z:Str}(h:Nm cell at' k m z)(h1:1<=m)(h8:m<=8):NameOk z:=by
 have e:z.cps.size=m:=by rw[<-bp,h];simp
 refine{by lia,by lia,λc hc=>?_};rw[h]at hc;obtain⟨j,_,rfl⟩:=dU.mp hc;exact qi3 ..
def Nm.ne{cell at' k k':Int}{m:Nat}{z z':Str}(h:Nm cell at' k m z)(h':Nm cell at' k' m z')(h0:0<=at')(h1:at' < m)(hk:0<=k/\k < 4)(hk':0<=k'/\k' < 4)(ne:k≠k'):z≠z':=by
 rintro rfl;have e:(cw m).map (ltr cell at' k)=(cw m).map (ltr cell at' k'):=h.symm.trans h';have e2:=congrArg (λl=>l[at'.toNat]?) e;simp![bE]at e2;rw[List.getElem?_range (1:)]at e2;simp![Option.map_some,Option.some.injEq]at e2;unfold ltr at e2;have ea:((at'.toNat:Nat):Int)=at':=by lia
 rw[ea,beq_self_eq_true,if_pos rfl]at e2;omega
def qcw(cl:Cl)(v1 v3 v5 s9:Sl)(cell at' k:Int)(j:Nat)(z:Str)(hj:j < 8)(hz:z.cps.size < 8) :
  ∃s9',iSs cl 1000 zd [.val (.int cell),v1,.val (.str "abcdefghijklmnopqrstuvwxyz"),v3,.val (.int at'),v5,.val (.int k),.val (.str z),.val (.int j),s9]=.ok (.next [.val (.int cell),v1,.val (.str "abcdefghijklmnopqrstuvwxyz"),v3,.val (.int at'),v5,.val (.int k),.val (.str (z++(⟨#[ltr cell at' k j]⟩:Str))),.val (.int j),s9']):=by
 have m1:Zy 5 (j:Int)=true:=qhb (2:) (2:);have m2:Zy (5 * (j:Int)) (j:Int)=true:=Yb (1:) (1:);have m3:Zy 3 k=true:=qhb (2:) (2:);have m4:Zy (3 * k) (if ((j:Int) == at')=true then 1 else 0)=true:=Yb (by split<;>decide) (by split<;>decide);have h1:=(qmo ((cell / 64+5 * j * j+3 * k * (if ((j:Int) == at')=true then 1 else 0)) % 26) (bD _ (2:)) (bW _ (2:))).1
 have hl:z.length+(⟨#[ltr cell at' k j]⟩:Str).length<=sizeLine:=by
  show z.cps.size+1<=2 ^ 24
  lia
 have h26:("abcdefghijklmnopqrstuvwxyz" : Str).length<=sizeLine:=(3:)
 refine{.val (.int (cell / 64+5 * j * j+3 * k * (if ((j:Int) == at')=true then 1 else 0))),?_};unfold ltr at hl ⊢;simp?[Jt,m1,m2,m3,m4,qD,h1,hl,h26]
theorem qgb(cl:Cl)(v1 v3 v5:Sl)(cell at' k:Int)(n:Nat):∀(j:Nat) (z:Str) (s8 s9:Sl),j+n<=8->Nm cell at' k j z->
  ∃z' s8' s9',j5 cl 1000 (.one 8) zd (rgF (j:Int) n) [.val (.int cell),v1,.val (.str "abcdefghijklmnopqrstuvwxyz"),v3,.val (.int at'),v5,.val (.int k),.val (.str z),s8,s9]=.ok (.next [.val (.int cell),v1,.val (.str "abcdefghijklmnopqrstuvwxyz"),v3,.val (.int at'),v5,.val (.int k),.val (.str z'),s8',s9'])/\Nm cell at' k (j+n) z':=by
 induction n with
 |zero=>exactλj z s8 s9 _ hz=>⟨z,s8,s9,rfl,hz⟩
 |succ n ih=>
  intro j z s8 s9 hn hz;have sz:z.cps.size=j:=by rw[<-bp,hz];simp
  obtain⟨t9,st⟩:=qcw cl v1 v3 v5 s9 cell at' k j z (1:) (1:)
  obtain⟨z',s8',s9',ih,e1⟩:=ih (j+1) (z++(⟨#[ltr cell at' k j]⟩:Str)) (.val (.int j)) t9 (1:) (by
   unfold Nm at hz ⊢;rw[qga,hz,List.range_succ,a8]
   rfl)
  refine{z',s8',s9',?_,by rw[show j+(n+1)=j+1+n by lia];exact e1};rw[show((j+1:Nat):Int)=(j:Int)+1 from by lia]at ih;refine(qg _).symm.trans ?_;rw[rgF];simp![xFo_cons,rgoV,List.set_cons_succ,List.set_cons_zero,th_ok,yFo1,st,yFo2,ih]
def Nms(cell at':Int)(m:Nat)(zs:List Str):Prop:=∀(i:Nat) (z:Str),zs[i]?=some z->Nm cell at' (i:Int) m z
theorem ZX(cl:Cl)(v1:Sl)(cell at':Int)(m:Nat)(hm:1<=m/\m<=8):∀(n:Nat) (zs:List Str) (s6 s7 s8 s9:Sl),zs.length+n < 1000->Nms cell at' m zs->
  ∃(zs':List Str) (s6' s7' s8' s9':Sl),j5 cl 1000 (.one 6) zR (rgF (zs.length:Int) n) [.val (.int cell),v1,.val (.str "abcdefghijklmnopqrstuvwxyz"),.val (.int (m:Int)),.val (.int at'),.own (zs.map D.str),s6,s7,s8,s9]=.ok (.next [.val (.int cell),v1,.val (.str "abcdefghijklmnopqrstuvwxyz"),.val (.int (m:Int)),.val (.int at'),.own (zs'.map D.str),s6',s7',s8',s9'])/\zs'.length=zs.length+n/\Nms cell at' m zs'
 |0,zs,s6,s7,s8,s9,_,hz=>⟨zs,s6,s7,s8,s9,rfl,rfl,hz⟩
 | n+1,zs,s6,s7,s8,s9,hl,hz=>by
  obtain⟨z,s8',s9',e,h1⟩:=qgb cl v1 (.val (.int (m:Int))) (.own (zs.map D.str)) cell at' (zs.length:Int) m 0 "" s8 s9 (1:) rfl;rw[eA]at h1
  obtain⟨zs',t6,t7,t8,t9,ih,h3,h4⟩:=ZX cl v1 cell at' m hm n (zs++[z]) (.val (.int (zs.length:Int))) (.val (.str z)) s8' s9' (by simp;lia) (λi x hx=>by
   by_cases q:i < zs.length
   ·rw[dm q]at hx;exact hz i x hx
   ·rw[cZ (1:)]at hx
    have:i - zs.length=0:=by
     have:=(bJ.mp hx).1
     simp at this;omega
    rw[this]at hx;simp at hx;subst hx
    have:i=zs.length:=by lia
    subst this;exact h1)
  refine{zs',t6,t7,t8,t9,?_,by rw[h3];simp;lia,h4}
  have hs:qR (m:Int)=true:=by
   unfold qR;simp
   lia
  have hz':(zs.map D.str).length < sizeLine:=by
   rw[aD];show _ < 2 ^ 24
   lia
  rw[bq,kj,show((zs.length+1:Nat):Int)=(zs.length:Int)+1 from by lia]at ih;refine(qg _).symm.trans ?_;rw[rgF];rw[show((0:Nat):Int)=0 from rfl]at e;simp![a8,av,aK]at ih;simp?![Ju,hs,zx,fG,dF,e,hz',ih]
structure NamesOk(zs:List Str):Prop where
 two:2<=zs.length
 four:zs.length<=4
 ok:∀z∈zs,NameOk z
 once:∀(i j:Nat) (z:Str),zs[i]?=some z->zs[j]?=some z->i=j
section
variable{pg:Pg}[LN pg]
def qgc(k:Nat)(cell:Int)(n:Nat)(hn:2<=n/\n<=4):∃zs:List Str,clK pg (k+1) "_law_lands" [.val (.int cell),.val (.int (n:Int))]=.ok (.tmp (zs.map D.str))/\zs.length=n/\NamesOk zs:=by
 have hm:∃m:Nat,(1+cell % 8:Int)=(m:Int)/\1<=m/\m<=8:={(1+cell % 8).toNat,by lia,by lia,by lia};obtain⟨m,e,h1,h2⟩:=hm;have a0:0<=cell / 8 % (m:Int):=bD _ (1:);have a1:cell / 8 % (m:Int) < m:=bW _ (1:);obtain⟨zs,s6,s7,s8,s9,h,h3,h4⟩:=ZX (pg.kk k) (.val (.int (n:Int))) cell (cell / 8 % (m:Int)) m ⟨h1,h2⟩ n [] .no .no .no .no (by simp;lia) (λi z hz=>by simp at hz);simp at h3;refine{zs,?_,h3,{by lia,by lia,λz hz=>?_,λi j z hi hj=>?_}}
 ·rw[aK]at h;have hp:(0:Int) < (m:Int):=by lia
  have hs:qR (n:Int)=true:=by
   unfold qR;simp
   lia
  rw[show((([]:List Str).length:Nat):Int)=0 from rfl]at h;rw[r__law_lands];simp?![Jg,gy,gz,e,hp,show(0:Nat)<=sizeLine by decide+kernel,hs,zx,fG,dF,h]
 ·obtain⟨i,hi⟩:=List.getElem?_of_mem hz;exact(h4 i z hi).ok h1 h2
 ·by_cases q:i=j
  ·exact q
  ·have li:=(bJ.mp hi).1;have lj:=(bJ.mp hj).1;exact absurd rfl (Nm.ne (h4 i z hi) (h4 j z hj) a0 a1 ⟨by lia,by lia⟩ ⟨by lia,by lia⟩ (1:))
end
def lnD(p:Str×Int):D:=.tup [.str p.1,.int p.2]
def qbC(p:Str×Int):lnD p=.tup [.str p.1,.int p.2]:=rfl
def qgd{z:Str}(h:NameOk z):ZL z=true:=by
 unfold ZL;simp![aG,decide_eq_true_eq,eX];refine{⟨h.one,h.eight⟩,λc hc=>?_}
 have:=h.lets c hc
 unfold y6 at this
 lia
structure LnOk(p:Str×Int):Prop where
 nm:NameOk p.1
 one:1<=p.2
 nine:p.2<=9
def qge{p:Str×Int}(h:LnOk p):qdU (lnD p)=some p:=by show(if (ZL p.1&&decide (1<=p.2)&&decide (p.2<=9))=true then some (p.1,p.2) else none)=_;rw[if_pos (by rw[qgd h.nm,decide_eq_true h.one,decide_eq_true h.nine];rfl)]
theorem ZZ:∀(l:List (Str×Int)) (acc:List Str),(∀p∈l,LnOk p)->(acc++l.map (·.1)).Nodup->YM acc (l.map lnD)=true
 |[],acc,_,_=>rfl
 | p::l,acc,h,nd=>by
  rw[av];unfold YM;rw[qge (h p (5:))];have e:acc++(p::l).map (·.1)=(acc++[p.1])++l.map (·.1):=by simp
  rw[e]at nd
  have n1:p.1∉acc:=by
   have:=(kN.mp nd).1
   have:=(kN.mp this).2.2
   intro hm;exact this p.1 hm p.1 (5:) rfl
  simp![aG,da];exact{by simpa using n1,ZZ l (acc++[p.1]) (λq hq=>h q (by simp[hq])) nd}
def qcx{l:List (Str×Int)}(h:∀p∈l,LnOk p)(nd:(l.map (·.1)).Nodup)(h1:1<=l.length)(h6:l.length<=6):qx (l.map lnD)=true:=by unfold qx;rw[aD,decide_eq_true h1,decide_eq_true h6,ZZ l [] h (-nd:)];rfl
def qbD{zs:List Str}(i:Int)(h0:0<=i)(h1:i < zs.length):∃z,atI (zs.map D.str) i=some (.str z)/\zs[i.toNat]?=some z:=by
 obtain⟨j,rfl⟩:=mI h0;have hj:j < zs.length:=by lia
 exact{zs[j],qg8 (by rw[bE,bK hj];rfl),by simp[hj]}
def qdZ(zs:List Str):((zs.map D.str).length:Int)=(zs.length:Int):=by rw[aD]
def Lns(zs:List Str)(a:Int)(l:List (Str×Int)):Prop:=∀(i:Nat) (p:Str×Int),l[i]?=some p->zs[((a+(i:Int)) % (zs.length:Int)).toNat]?=some p.1/\LnOk p
theorem Z0(cl:Cl)(v0:Sl)(n:Int)(hn:0<=n)(zs:List Str)(hz:NamesOk zs):∀(m:Nat) (l:List (Str×Int)) (s4 s5 s6:Sl),l.length+m<=100->Lns zs (n / 18) l->
  ∃(l':List (Str×Int)) (s4':Sl),j5 cl 1000 (.one 4) jo (rgF (l.length:Int) m) [v0,.bor (zs.map D.str),.val (.int n),.own (l.map lnD),s4,s5,s6]=.ok (.next [v0,.bor (zs.map D.str),.val (.int n),.own (l'.map lnD),s4',s5,s6])/\l'.length=l.length+m/\Lns zs (n / 18) l'
 |0,l,s4,s5,s6,_,h=>⟨l,s4,rfl,rfl,h⟩
 | m+1,l,s4,s5,s6,hl,h=>by
  have hL:(0:Int) < (zs.length:Int):=by have:=hz.two;lia
  obtain⟨z,e1,e2⟩:=qbD (zs:=zs) ((n / 18+(l.length:Int)) % (zs.length:Int)) (bD _ (1:)) (bW _ hL)
  have h3:∃q:Int,atI [D.int 9,D.int 2,D.int 2] ((n+(l.length:Int)) % 3)=some (.int q)/\2<=q/\q<=9:=by
   have a0:0<=(n+(l.length:Int)) % 3:=bD _ (2:);have a1:(n+(l.length:Int)) % 3 < 3:=bW _ (2:)
   have:(n+(l.length:Int)) % 3=0\/(n+(l.length:Int)) % 3=1\/(n+(l.length:Int)) % 3=2:=by lia
   rcases this with e|e|e<;>rw[e]
   ·exact{9,rfl,by decide,by decide}
   ·exact{2,rfl,by decide,by decide}
   ·exact{2,rfl,by decide,by decide}
  obtain⟨q,e3,q2,q9⟩:=h3;have hq:(0:Int) < q:=by lia
  have w0:0<=n / 108 / ((l.length:Int)+1) % q:=bD _ (1:);have w1:n / 108 / ((l.length:Int)+1) % q < q:=bW _ hq
  obtain⟨l',s4',ih,i1,i2⟩:=Z0 cl v0 n hn zs hz m (l++[(z,1+n / 108 / ((l.length:Int)+1) % q)]) (.val (.int (l.length:Int))) s5 s6 (by simp;lia) (λi p hp=>by
   by_cases hi:i < l.length
   ·rw[dm hi]at hp;exact h i p hp
   ·rw[cZ (1:)]at hp;have hlt:=(bJ.mp hp).1;simp at hlt;have hi:i=l.length:=by lia
    subst hi;simp at hp;subst hp;exact{e2,hz.ok z (dn e2),by show 1<=1+_;lia,by show 1+_<=9;lia})
  refine{l',s4',?_,by rw[i1];simp;lia,i2}
  have hs:l.length < sizeLine:=by
   show _ < 2 ^ 24
   lia
  have two:0+1+1<=sizeLine:=(3:)
  have three:0+1+1+1<=sizeLine:=(3:)
  have hd:(0:Int) < (l.length:Int)+1/\(l.length:Int)+1 < 1073741824:={by lia,by lia};rw[bq,kj,show((l.length+1:Nat):Int)=(l.length:Int)+1 from by lia]at ih;simp![a8,av,aK,qbC]at ih;refine(qg _).symm.trans ?_;rw[rgF];simp?![J8,aD,hL,e1,e3,hd,hq,two,three,hs,ih,qbC]
inductive Kd where
 | wi|si|ro
def Kd.nm:Kd->Str
 |.wi=>"within"
 |.si=>"since"
 |.ro=>"row"
structure Ru where
 kd:Kd
 lands:List (Str×Int)
 most:Int
 days:Int
def ruD(r:Ru):D:=.tup [.str r.kd.nm,.lst (r.lands.map lnD),.int r.most,.int r.days]
structure RuOk(r:Ru):Prop where
 lands:qx (r.lands.map lnD)=true
 ok:∀p∈r.lands,LnOk p
 m0:0<=r.most
 m1:r.most<=24
 d0:1<=r.days
 d1:r.days<=40
 row:r.kd=.ro->r.days=1
 nd:(r.lands.map (·.1)).Nodup
def Lns.nodup{zs:List Str}(hz:NamesOk zs){a:Int}{l:List (Str×Int)}(h:Lns zs a l)(hl:l.length<=zs.length):(l.map (·.1)).Nodup:=by
 rw[List.nodup_iff_pairwise_ne,ft];intro i j hi hj hij e;rw[aD]at hi hj;rw[List.getElem_map,List.getElem_map]at e;have h1:=(h i _ (bK hi)).1;have h2:=(h j _ (bK hj)).1;rw[e]at h1
 have:=hz.once _ _ _ h1 h2
 have hL:(0:Int) < (zs.length:Int):=by have:=hz.two;lia
 have a0:0<=(a+(i:Int)) % (zs.length:Int):=bD _ (1:);have b0:0<=(a+(j:Int)) % (zs.length:Int):=bD _ (1:);have e3:(a+(i:Int)) % (zs.length:Int)=(a+(j:Int)) % (zs.length:Int):=by lia
 have e4:=Int.emod_emod_of_dvd (a+j - (a+i)) (Int.dvd_refl (zs.length:Int));have e5:(a+(j:Int) - (a+(i:Int))) % (zs.length:Int)=0:=by rw[Int.sub_emod,e3,Int.sub_self,Int.zero_emod]
 rw[show a+(j:Int) - (a+(i:Int))=((j - i:Nat):Int) by lia]at e5;rw[Int.emod_eq_of_lt (1:) (1:)]at e5
 lia
section
variable{pg:Pg}[LR pg]
def qi4(k:Nat)(c:Int)(zs:List Str)(hz:NamesOk zs):∃r:Ru,RuOk r/\clK pg (k+1) "_law_rule" [.val (.int c),.bor (zs.map D.str)]=.ok (.val (ruD r)):=by
 have hL:(0:Int) < (zs.length:Int):=by have:=hz.two;lia
 have hn:0<=c * 1099087573 % 10000000000037:=bD _ (2:);generalize hN:c * 1099087573 % 10000000000037=n at hn;have m0:0<=n / 3 % (zs.length:Int):=bD _ (1:);have m1:n / 3 % (zs.length:Int) < zs.length:=bW _ hL;have four:=hz.four;obtain⟨m,em⟩:∃m:Nat,1+n / 3 % (zs.length:Int)=(m:Int):={(1+n / 3 % (zs.length:Int)).toNat,by lia};obtain⟨l,s4',e,e1,e2⟩:=Z0 (pg.kk k) (.val (.int c)) n hn zs hz m [] .no .no .no (by simp;lia) (λi p hp=>by simp at hp);simp at e1;rw[aK,show((([]:List (Str×Int)).length:Nat):Int)=0 from rfl]at e
 have ok:∀p∈l,LnOk p:=λp hp=>by obtain⟨i,hi⟩:=List.getElem?_of_mem hp;exact(e2 i p hi).2
 have nd:=e2.nodup hz (1:);have lok:qx (l.map lnD)=true:=qcx ok nd (1:) (1:);have t0:0<=n / 972 % 25:=bD _ (2:);have t1:n / 972 % 25 < 25:=bW _ (2:);have d0:0<=n / 24300 % 40:=bD _ (2:);have d1:n / 24300 % 40 < 40:=bW _ (2:);have mul:Zy c 1099087573=true:=Yb (2:) (2:)
 have sm:qR (m:Int)=true:=by
  unfold qR;simp
  lia
 have four':0+1+1+1+1<=sizeLine:=(3:)
 have zero:(0:Nat)<=sizeLine:=(3:)
 by_cases c0:n % 3=0
 ·refine{{.wi,l,n / 972 % 25,1+n / 24300 % 40},{lok,ok,t0,by show n / 972 % 25<=24;lia,by show 1<=1+_;lia,by show 1+_<=40;lia,λz=>(by cases z),nd},?_};have hb:(n % 3 == 0)=true:=(-c0:)
  rw[r__law_rule];simp?![jp,aD,mul,hN,hL,em,sm,zx,fG,dF,e,qD,hb,four',zero,ruD,Kd.nm]
 by_cases c1:n % 3=1
 ·refine{{.si,l,n / 972 % 25,1+n / 24300 % 40},{lok,ok,t0,by show n / 972 % 25<=24;lia,by show 1<=1+_;lia,by show 1+_<=40;lia,λz=>(by cases z),nd},?_};have hb:(n % 3 == 0)=false:=(-c0:)
  have hc:(n % 3 == 1)=true:=(-c1:)
  rw[r__law_rule];simp?![jp,aD,mul,hN,hL,em,sm,zx,fG,dF,e,qD,hb,hc,four',zero,ruD,Kd.nm]
 ·refine{{.ro,l,n / 972 % 25,1},{lok,ok,t0,by show n / 972 % 25<=24;lia,by show(1:Int)<=1;lia,by show(1:Int)<=40;lia,λ_=>rfl,nd},?_};have hb:(n % 3 == 0)=false:=(-c0:)
  have hc:(n % 3 == 1)=false:=(-c1:)
  rw[r__law_rule];simp?![jp,aD,mul,hN,hL,em,sm,zx,fG,dF,e,qD,hb,hc,four',zero,ruD,Kd.nm]
end
end FA
namespace Dy
abbrev P:=Int×Int
def Day(fs:List P)(d:Int):Prop:=∃p∈fs,p.1<=d/\d<=p.2
structure Spr(fs:List P):Prop where
 ok:∀p∈fs,p.1<=p.2
 gap:fs.Pairwise λp q=>p.2+2<=q.1
def lex(p q:P):Prop:=p.1 < q.1\/(p.1=q.1/\p.2<=q.2)
def stp(acc:List P)(p:P):List P:=match acc.getLast? with
 |some l=>if p.1<=l.2+1 then acc.dropLast++[(l.1,if p.2 > l.2 then p.2 else l.2)] else acc++[p]
 |none=>[p]
def qaL(p:P):stp [] p=[p]:=rfl
def QB(a:List P)(l p:P):stp (a++[l]) p=if p.1<=l.2+1 then a++[(l.1,if p.2 > l.2 then p.2 else l.2)] else (a++[l])++[p]:=by unfold stp;rw[List.getLast?_append];simp
theorem QC{α:Type}(l:List α):l=[]\/∃a x,l=a++[x]:=by
 cases l with
 |nil=>exact .inl rfl
 |cons a r=>exact .inr ⟨(a::r).dropLast,(a::r).getLast (5:),(List.dropLast_concat_getLast (5:)).symm⟩
def jU{a b:List P}{d:Int}:Day (a++b) d↔Day a d\/Day b d:=by
 unfold Day;constructor
 ·rintro⟨p,hp,h⟩;rcases aW.mp hp with q|q
  ·exact .inl ⟨p,q,h⟩
  ·exact .inr ⟨p,q,h⟩
 ·rintro (⟨p,hp,h⟩|⟨p,hp,h⟩)
  ·exact{p,bC _ hp,h}
  ·exact{p,aX _ hp,h}
def QD{p:P}{d:Int}:Day [p] d↔p.1<=d/\d<=p.2:=by
 unfold Day;constructor
 ·rintro⟨q,hq,h⟩;rw[bo.mp hq]at h;exact h
 ·intro h;exact{p,bo.mpr rfl,h}
def qgf{a b:List P}(h:a.Perm b)(d:Int):Day a d↔Day b d:=by
 unfold Day;constructor
 ·rintro⟨p,hp,q⟩;exact{p,h.mem_iff.mp hp,q}
 ·rintro⟨p,hp,q⟩;exact{p,h.mem_iff.mpr hp,q}
structure Run(done acc:List P):Prop where
 spr:Spr acc
 day:∀d,Day acc d↔Day done d
 low:∀a l,acc=a++[l]->∃q∈done,q.1=l.1
 len:acc.length<=done.length
 emp:acc=[]->done=[]
def qi5:Run [] []:={{(λ_ h=>nomatch h),List.Pairwise.nil},λ_=>Iff.rfl,λa l e=>by simp at e,az _,λ_=>rfl}
def qgg{done acc:List P}{p:P}(R:Run done acc)(hp:p.1<=p.2)(hs:∀q∈done,q.1<=p.1):Run (done++[p]) (stp acc p):=by
 rcases QC acc with rfl|⟨a,l,rfl⟩
 ·have hd:=R.emp rfl;subst hd;rw[qaL];refine{{λq hq=>by rw[bo.mp hq];exact hp,by simp},λd=>by simp,λa l e=>?_,by simp,λe=>by simp at e};refine{p,by simp,?_}
  have:a=[]/\p=l:=by
   cases a with
   |nil=>simpa using e
   |cons x r=>simp at e
  rw[this.2]
 ·rw[QB];obtain⟨q0,hq0,e0⟩:=R.low a l rfl;have hl:l.1<=p.1:=by rw[<-e0];exact hs q0 hq0
  have hlo:=R.spr.ok l (5:);have hg:=bQ.mp R.spr.gap
  by_cases hc:p.1<=l.2+1
  ·rw[if_pos hc];refine{{λq hq=>?_,?_},λd=>?_,λa' l' e=>?_,?_,λe=>by simp at e}
   ·rcases aW.mp hq with h|h
    ·exact R.spr.ok q (bC _ h)
    ·rw[bo.mp h];dsimp only
     split<;>lia
   ·refine bQ.mpr ⟨hg.1,by simp,λx hx y hy=>?_⟩;rw[bo.mp hy];exact hg.2.2 x hx l (5:)
   ·rw[jU,QD,jU,QD,<-R.day d,jU,QD];dsimp only;constructor
    ·rintro (h|h)
     ·exact .inl (.inl h)
     ·by_cases h2:d<=l.2
      ·exact .inl (.inr ⟨h.1,h2⟩)
      ·right
       have:=h.2
       split at this<;>lia
    ·rintro ((h|h)|h)
     ·exact .inl h
     ·right;refine{h.1,?_}
      split<;>lia
     ·right;refine{by lia,?_}
      split<;>lia
   ·have:l'.1=l.1:=by
     have:=(List.append_inj' e rfl).2
     simp at this;rw[<-this]
    exact{q0,bC _ hq0,by rw[this];exact e0}
   ·have:=R.len
    simp at this ⊢
    lia
  ·rw[if_neg hc];refine{{λq hq=>?_,?_},λd=>?_,λa' l' e=>?_,?_,λe=>by simp at e}
   ·rcases aW.mp hq with h|h
    ·exact R.spr.ok q h
    ·rw[bo.mp h];exact hp
   ·refine bQ.mpr ⟨R.spr.gap,by simp,λx hx y hy=>?_⟩;rw[bo.mp hy];rcases aW.mp hx with h|h
    ·have:=hg.2.2 x h l (5:)
     lia
    ·rw[bo.mp h];lia
   ·rw[jU (a:=a++[l]),jU (a:=done),R.day d]
   ·have:=(List.append_inj' e rfl).2
    simp at this;exact{p,by simp,by rw[this]}
   ·have:=R.len
    simp at this ⊢;omega
theorem qi6{qs:List P}(hs:qs.Pairwise lex)(hq:∀p∈qs,p.1<=p.2):∀n,n<=qs.length->Run (qs.take n) ((qs.take n).foldl stp []):=by
 intro n
 induction n with
 |zero=>intro _;simpa using qi5
 |succ n ih=>
  intro hn;have e:qs.take (n+1)=qs.take n++[qs[n]]:=by rw[List.take_succ_eq_append_getElem (1:)]
  rw[e,List.foldl_append];refine qgg (ih (1:)) (hq _ (kK _)) λq hq'=>?_;obtain⟨i,hi,rfl⟩:=l7.mp hq'
  have:=ft.mp hs i n (1:) (1:) (1:)
  rcases this with h|h
  ·omega
  ·omega
def Spr.ends{fs:List P}(S:Spr fs){p:P}(hp:p∈fs):¬ Day fs (p.2+1)/\¬ Day fs (p.1 - 1):=by
 have key:∀q∈fs,q=p\/q.2+2<=p.1\/p.2+2<=q.1:=by
  intro q hq;obtain⟨i,hi,rfl⟩:=gg.mp hq;obtain⟨j,hj,rfl⟩:=gg.mp hp;have g:=ft.mp S.gap;rcases Nat.lt_trichotomy i j with h|h|h
  ·exact .inr (.inl (g i j hi hj h))
  ·subst h;exact .inl rfl
  ·exact .inr (.inr (g j i hj hi h))
 have hpp:=S.ok p hp;constructor
 ·rintro⟨q,hq,h1,h2⟩;rcases key q hq with rfl|h|h<;>lia
 ·rintro⟨q,hq,h1,h2⟩;rcases key q hq with rfl|h|h<;>lia
def Spr.same{fs gs:List P}(S:Spr fs)(T:Spr gs)(h:∀d,Day fs d↔Day gs d):fs=gs:=by
 have sub:∀{fs gs:List P},Spr fs->Spr gs->(∀d,Day fs d↔Day gs d)->∀p∈fs,p∈gs:=by
  intro fs gs S T h p hp;have hpp:=S.ok p hp;obtain⟨q,hq,h1,h2⟩:=(h p.1).mp ⟨p,hp,a9 _,hpp⟩;obtain⟨e1,e2⟩:=T.ends hq;obtain⟨f1,f2⟩:=S.ends hp
  have a1:q.1=p.1:=by
   by_cases hlt:q.1=p.1
   ·exact hlt
   ·exact absurd ((h (p.1 - 1)).mpr ⟨q,hq,by lia,by lia⟩) f2
  have a2:q.2=p.2:=by
   rcases Int.lt_trichotomy q.2 p.2 with hlt|hlt|hlt
   ·exact absurd ((h (q.2+1)).mp ⟨p,hp,by lia,by lia⟩) e1
   ·exact hlt
   ·exact absurd ((h (p.2+1)).mpr ⟨q,hq,by lia,by lia⟩) f1
  have:q=p:=Prod.ext a1 a2
  rw[<-this];exact hq
 have strict:∀{fs:List P},Spr fs->fs.Pairwise (λp q=>p.1 < q.1):=λ{fs} S=>by
  refine iX (λ{p q} hp hq hg=>?_) S.gap
  have:=S.ok p hp
  lia
 have uniq:∀(fs gs:List P),fs.Pairwise (λp q=>p.1 < q.1)->gs.Pairwise (λp q=>p.1 < q.1)->(∀p,p∈fs↔p∈gs)->fs=gs:=by
  intro fs
  induction fs with
  |nil=>
   intro gs _ _ h
   cases gs with
   |nil=>rfl
   |cons g gs=>exact absurd ((h g).mpr (5:)) (5:)
  |cons p fs ih=>
   intro gs h1 h2 h
   cases gs with
   |nil=>exact absurd ((h p).mp (5:)) (5:)
   |cons q gs=>
    have p1:=bG.mp h1;have p2:=bG.mp h2
    have e:p=q:=by
     rcases aF.mp ((h p).mp (5:)) with e|e
     ·exact e
     ·rcases aF.mp ((h q).mpr (5:)) with e'|e'
      ·exact e'.symm
      ·have:=p1.1 q e'
       have:=p2.1 p e
       lia
    subst e;have hne:∀x,x∈fs->x≠p:=λx hx e=>by subst e;have:=p1.1 x hx;lia
    have hne':∀x,x∈gs->x≠p:=λx hx e=>by subst e;have:=p2.1 x hx;lia
    rw[ih gs p1.2 p2.2 λx=>{λhx=>by
     rcases aF.mp ((h x).mp (bI _ hx)) with e|e
     ·exact absurd e (hne x hx)
     ·exact e,λhx=>by
     rcases aF.mp ((h x).mpr (bI _ hx)) with e|e
     ·exact absurd e (hne' x hx)
     ·exact e}]
 exact uniq fs gs (strict S) (strict T) λp=>{sub S T h p,sub T S (λd=>(h d).symm) p}
def Q0(A:List P)(d:Int):Bool:=A.any λp=>decide (p.1<=d)&&decide (d<=p.2)
def jr{A:List P}{d:Int}:Q0 A d=true↔Day A d:=by unfold Q0 Day;simp[ij]
end Dy
namespace DG
open PySem L2 DE FA Dy
open CH ST SP RU BO
theorem qd0:∀ps:List (Int×Int),qgR (ps.map pD)=some ps
 |[]=>rfl
 | p::ps=>by rw[av,qgR,qd0 ps];rfl
def zI(p:Int×Int):pD p=.tup [.int p.1,.int p.2]:=rfl
def spr(ps:List (Int×Int)):List (Int×Int):=(yy ps).foldl stp []
def qi7(acc:List (Int×Int))(p:Int×Int):(stp acc p).length<=acc.length+1:=by
 rcases QC acc with rfl|⟨a,l,rfl⟩
 ·simp[qaL]
 ·rw[QB]
  split<;>simp
def qr{n:Nat}(h:n < 100000):n < sizeLine:=hJ h (3:)
def qN{n:Nat}(h:n < 100000):n<=sizeLine:=Nat.le_of_lt (qr h)
theorem zB(cl:Cl)(v:Sl):∀(ps acc:List (Int×Int)) (s2 s3:Sl),acc.length+ps.length < 10000->∃s2' s3',j5 cl 1000 (.many [2,3]) y4 (ps.map pD) [v,.own (acc.map pD),s2,s3]=.ok (.next [v,.own ((ps.foldl stp acc).map pD),s2',s3'])
 |[],acc,s2,s3,_=>⟨s2,s3,rfl⟩
 | p::ps,acc,s2,s3,hl=>by
  rw[aQ]at hl
  have:=qi7 acc p
  obtain⟨s2',s3',ih⟩:=zB cl v ps (stp acc p) (.val (.int p.1)) (.val (.int p.2)) (1:);refine{s2',s3',?_};have hs:acc.length < sizeLine:=qr (1:);have two:0+1+1<=sizeLine:=(3:)
  rw[List.foldl_cons];rcases QC acc with rfl|⟨a,l,rfl⟩
  ·rw[qaL]at ih ⊢;simp![av,aK,zI]at ih;simp?[jO,zI,List.isEmpty_nil,two,show(0:Nat) < sizeLine by decide+kernel,ih]
  ·rw[QB]at ih ⊢
   by_cases hc:p.1<=l.2+1
   ·rw[if_pos hc]at ih ⊢;simp![a8,av,aK,zI]at ih;simp?[jO,zI,a8,hc,two,ih]
   ·rw[if_neg hc]at ih ⊢;simp![a8,av,aK,zI]at ih;have hs':(a.map pD++[D.tup [.int l.1,.int l.2]]).length < sizeLine:=(-hs:)
    simp?[jO,zI,a8,hc,two,hs',ih]
def yD{pg:Pg}[SP pg](k:Nat)(b:Bool)(ps:List (Int×Int))(hl:ps.length < 4000):clK pg (k+1) "spread" [aL b (ps.map pD)]=.ok (.tmp ((spr ps).map pD)):=by
 have hl':(yy ps).length < 10000:=by unfold yy;rw[kS];lia
 rw[r_spread];obtain⟨s2,s3,e⟩:=zB (pg.kk k) (pS b (ps.map pD)) (yy ps) [] .no .no (-hl':);rw[aK]at e;simp?![qbB,Qp,qd0,hl,show(0:Nat)<=sizeLine by decide+kernel,e,spr]
def QE(p q:Int×Int):QY p q=true↔lex p q:=by unfold QY lex;simp
def QF(ps:List (Int×Int))(h:∀p∈ps,p.1<=p.2):Run (yy ps) (spr ps):=by
 have hs:(yy ps).Pairwise lex:=by
  have:=il (le:=QY) (λa b c h1 h2=>by rw[QE]at h1 h2 ⊢;unfold lex at *;lia) (λa b=>by simp![eB,QE];unfold lex;lia) ps
  exact this.imp λ{a b} h=>(QE a b).mp h
 have hq:∀p∈yy ps,p.1<=p.2:=λp hp=>h p ((fF ps QY).mem_iff.mp hp)
 have:=qi6 hs hq (yy ps).length (az _)
 rwa[gj]at this
def qd1{ps:List (Int×Int)}(h:∀p∈ps,p.1<=p.2)(d:Int):Q0 (spr ps) d=Q0 ps d:=by rw[Bool.eq_iff_iff,jr,jr,(QF ps h).day d];exact qgf (fF ps QY) d
def qd2{ps:List (Int×Int)}(h:∀p∈ps,p.1<=p.2):Spr (spr ps):=(QF ps h).spr
def qi8{ps:List (Int×Int)}(h:∀p∈ps,p.1<=p.2):(spr ps).length<=ps.length:=by
 have:=(QF ps h).len
 unfold yy at this
 rwa[kS]at this
def _root_.FA.Kd.cls:Kd->Str
 |.wi=>"Within"
 |.si=>"Since"
 |.ro=>"InRow"
def _root_.FA.Kd.fld:Kd->Str
 |.wi=>"span"
 |.si=>"leave"
 |.ro=>"leave"
def _root_.FA.Kd.isW:Kd->Bool
 |.wi=>true
 |.si=>false
 |.ro=>false
def ruI(r:Ru):D:=.ins r.kd.cls ["lands","most",r.kd.fld] [.tup (r.lands.map lnD),.int r.most,.int r.days]
def qbE{xx:Xs}(r:Ru):qdy (pcs xx) (.val (ruI r)) "lands" = some (.tup (r.lands.map lnD)):=by obtain⟨kd,l,m,d⟩:=r;cases kd<;>rfl
def qd3{xx:Xs}(r:Ru)(h:r.kd.isW=true):qdy (pcs xx) (.val (ruI r)) "span" = some (.int r.days):=by
 obtain⟨kd,l,m,d⟩:=r
 cases kd<;>first|rfl|cases h
def qbF{xx:Xs}(r:Ru)(h:r.kd.isW=false):qdy (pcs xx) (.val (ruI r)) "leave" = some (.int r.days):=by
 obtain⟨kd,l,m,d⟩:=r
 cases kd<;>first|rfl|cases h
def Z1{xx:Xs}(r:Ru):mtD (pcs xx) (.val (ruI r)) "weight" = some ("Rule.weight" : Str):=by obtain⟨kd,l,m,d⟩:=r;cases kd<;>rfl
def Z2{xx:Xs}(r:Ru):qfF (pcs xx) (.val (ruI r)) "Within" = some r.kd.isW:=by obtain⟨kd,l,m,d⟩:=r;cases kd<;>rfl
def qgh{xx:Xs}(r:Ru):qfF (pcs xx) (.val (ruI r)) "Since" = some (!r.kd.isW):=by obtain⟨kd,l,m,d⟩:=r;cases kd<;>rfl
abbrev St:=Str×Int×Int
abbrev Pa:=Int×Int×Int
def paD(p:Pa):D:=.tup [.int p.1,.int p.2.1,.int p.2.2]
def zh(p:Pa):paD p=.tup [.int p.1,.int p.2.1,.int p.2.2]:=rfl
def bkI(rs:List Ru)(ps:List Pa):D:=.ins "Book" ["kept_rules","kept_papers"] [.lst (rs.map ruI),.lst (ps.map paD)]
def qgi{xx:Xs}(rs:List Ru)(ps:List Pa):qdy (pcs xx) (.val (bkI rs ps)) "kept_rules" = some (.lst (rs.map ruI)):=rfl
def qd4{xx:Xs}(rs:List Ru)(ps:List Pa):qdy (pcs xx) (.val (bkI rs ps)) "kept_papers" = some (.lst (ps.map paD)):=rfl
def qbG{xx:Xs}(rs:List Ru)(ps:List Pa):mtD (pcs xx) (.val (bkI rs ps)) "rules" = some ("Book.rules" : Str):=rfl
def qd5{xx:Xs}(rs:List Ru)(ps:List Pa):mtD (pcs xx) (.val (bkI rs ps)) "lifted" = some ("Book.lifted" : Str):=rfl
def zM:List St->Int->Option Str
 |[],_=>none
 | s::l,d=>if s.2.1<=d/\d<=s.2.2 then some s.1 else zM l d
def qi9:Option Str->D
 |some z=>.str z
 |none=>.non
def wt:List (Str×Int)->Option Str->Int
 |[],_=>0
 | p::l,o=>if o=some p.1 then p.2 else wt l o
def JL{z:Str}(h:NameOk z):du z=true:=by
 unfold du;rw[<-Array.all_toList,eX];intro c hc
 have:=h.lets c hc
 unfold y6 at this;rw[decide_eq_true_eq]
 lia
theorem qja{p:Str}(hp:NameOk p){o:Option Str}(ho:∀z,o=some z->NameOk z):eqD (.str p) (qi9 o)=some (decide (o=some p)):=by
 cases o with
 |none=>show eqD (.str p) .non=_;rw[qmg (JL hp)];simp
 |some z=>
  show eqD (.str p) (.str z)=_;rw[yk (JL hp) (JL (ho z rfl))]
  congr 1
  rw[Bool.eq_iff_iff,beq_iff_eq,decide_eq_true_eq];constructor
  ·rintro rfl;rfl
  ·intro e;cases e;rfl
theorem Yc(cl:Cl)(v:Sl)(o:Option Str)(ho:∀z,o=some z->NameOk z):∀(l:List (Str×Int)) (s2 s3:Sl),(∀p∈l,LnOk p)->∃F,j5 cl 1000 (.many [2,3]) zy (l.map lnD) [v,.val (qi9 o),s2,s3]=.ok F/\(F=.ret (.val (.int (wt l o)))\/(wt l o=0/\∃N',F=.next N'))
 |[],s2,s3,_=>{_,rfl,.inr {rfl,_,rfl}}
 | p::l,s2,s3,h=>by
  obtain⟨F,i,a⟩:=Yc cl v o ho l (.val (.str p.1)) (.val (.int p.2)) λq hq=>h q (by simp[hq]);have e:=qja (h p (5:)).nm ho;unfold wt
  by_cases hc:o=some p.1
  ·rw[if_pos hc];rw[decide_eq_true hc]at e;refine{_,?_,.inl rfl};rw[av];simp?[zW,qbC,e]
  ·rw[if_neg hc];rw[decide_eq_false hc]at e;refine{F,?_,a};rw[av];simp?[zW,qbC,e,i]
def qd6{pg:Pg}[RU pg](k:Nat)(r:Ru)(h:∀p∈r.lands,LnOk p)(o:Option Str)(ho:∀z,o=some z->NameOk z):clK pg (k+1) "Rule.weight" [.val (ruI r),.val (qi9 o)]=.ok (.val (.int (wt r.lands o))):=by
 rw[r_Rule_weight];obtain⟨F,i,a⟩:=Yc (pg.kk k) (.val (ruI r)) o ho r.lands .no .no h;rcases a with rfl|⟨i0,N',rfl⟩
 ·simp?![jm,RU.cs,qbE,i]
 ·simp?![jm,RU.cs,qbE,i,i0]
def qbH{pg:Pg}[RU pg][BO pg](k:Nat)(rs:List Ru)(ps:List Pa):clK pg (k+1) "Book.rules" [.val (bkI rs ps)]=.ok (.tmp (rs.map ruI)):=by rw[r_Book_rules];simp?![Jf,RU.cs,qgi]
def ofN(n:Int)(ps:List Pa):List (Int×Int):=(ps.filter λp=>p.1 == n).map λp=>(p.2.1,p.2.2)
def zJ(n:Int)(ps:List Pa):List (Int×Int):=spr (ofN n ps)
theorem ym(cl:Cl)(n:Int):∀(ps:List Pa) (acc:List (Int×Int)) (s0 s1 s2:Sl),acc.length+ps.length < 10000->zi cl zA (.many [0,1,2]) (.test (.cmp .Eq (.var 0) (.var 3))) (ps.map paD) [s0,s1,s2,.val (.int n)] (acc.map pD)=.ok ((acc++ofN n ps).map pD)
 |[],acc,s0,s1,s2,_=>by simp[ofN,qS]
 | p::ps,acc,s0,s1,s2,hl=>by
  rw[aQ]at hl;have two:0+1+1<=sizeLine:=(3:)
  have hs:(acc.map pD).length < sizeLine:=by rw[aD];exact qr (1:)
  cases hc:(p.1 == n) with
  |true=>
   have ih:=ym cl n ps (acc++[(p.2.1,p.2.2)]) (.val (.int p.1)) (.val (.int p.2.1)) (.val (.int p.2.2)) (by simp;lia);have e:ofN n (p::ps)=(p.2.1,p.2.2)::ofN n ps:=by simp[ofN,hc]
   rw[e];simp![a8,av,aK,zI,aT,bN,bf]at ih ⊢;simp?[zY,zh,qD,hc,two,hs,ih]
  |false=>
   have ih:=ym cl n ps acc (.val (.int p.1)) (.val (.int p.2.1)) (.val (.int p.2.2)) (1:);have e:ofN n (p::ps)=ofN n ps:=by simp[ofN,hc]
   rw[e];rw[av];simp?[zY,zh,qD,hc,two,hs,ih]
def qd7(n:Int)(ps:List Pa):(ofN n ps).length<=ps.length:=by unfold ofN;rw[aD];exact kT ..
def qd8{pg:Pg}[RU pg][BO pg][SP pg](k:Nat)(rs:List Ru)(ps:List Pa)(n:Int)(hl:ps.length < 64):clK pg (k+2) "Book.lifted" [.val (bkI rs ps),.val (.int n)]=.ok (.tmp ((zJ n ps).map pD)):=by
 have i:=ym (pg.kk (k+1)) n ps [] .no .no .no (by simp;lia);have s:=yD (pg:=pg) k false (ofN n ps) (hJ (kn (qd7 n ps) hl) (2:));have hs:(ps.map paD).length<=sizeLine:=by rw[aD];exact qN (1:)
 simp![qmk,qml]at s;rw[aK,bf]at i;rw[r_Book_lifted];simp?![yC,RU.cs,qd4,qal,fH,fI,hs,i,s,zJ]
def wgt(r:Ru)(lf:List (Int×Int))(st:List St)(d:Int):Int:=if Q0 lf d=true then 0 else wt r.lands (zM st d)
def ws(f:Int->Int)(lo:Int):Nat->List Int
 |0=>[]
 | n+1=>f lo::ws f (lo+1) n
theorem QG:∀l:List Int,Qn (l.map D.int)=some l
 |[]=>rfl
 | n::l=>by rw[av,Qn,QG l];rfl
theorem qaM:∀(n:Nat) (lo:Int),(rgF lo n).length=n
 |0,_=>rfl
 | n+1,lo=>by rw[rgF,aQ,qaM n]
section
variable{pg:Pg}[RU pg]
def qd9(f:Int->Int)(leave:Int):Nat->Int->Int->Int->Int->Int×Int
 |0,fi,to,_,_=>(fi,to)
 | n+1,fi,to,em,ba=>if em < leave then (if f ba=0 then qd9 f leave n fi to (em+1) (ba - 1) else qd9 f leave n ba (to+f ba) 0 (ba - 1)) else (fi,to)
end
def win(r:Ru)(f:Int->Int)(d:Int):Int×Int:=if r.kd.isW=true then (d - r.days+1,(ws f (d - r.days+1) r.days.toNat).sum) else qd9 f r.days 1000 (d+1) 0 0 d
def qea{rs:List Ru}{n:Nat}{r:Ru}(h:rs[n]?=some r):atI (rs.map ruI) (n:Int)=some (ruI r):=qg8 (by rw[bE,h];rfl)
abbrev Rl:=Ru×List (Int×Int)
def qhc(st:List St)(d:Int):Nat->List Rl->Option (Int×Int×Int)
 |_,[]=>none
 | i,x::l=>if x.1.most < (win x.1 (wgt x.1 x.2 st) d).2 then some (d,(i:Int),(win x.1 (wgt x.1 x.2 st) d).1) else qhc st d (i+1) l
def flt(st:List St)(rs:List Rl)(lo:Int):Nat->Option (Int×Int×Int)
 |0=>none
 | n+1=>match qhc st lo 0 rs with
  |some x=>some x
  |none=>flt st rs (lo+1) n
end DG
namespace FA
open PySem DE DG Dy
open L2 hiding St
open LC LN LR LM LP LS RU
def QH{k:Nat}:¬ (k+12 < 12):=by lia
def qob(kd:Kd):du kd.nm=true:=by cases kd<;>decide+kernel
theorem qgj{pg:Pg}[RU pg][LM pg](k:Nat)(r:Ru)(hl:qx (r.lands.map lnD)=true)(h0:0<=r.most)(h1:r.most<=1000000000)(h2:1<=r.days)(h3:r.days<=1000000000)(row:r.kd=.ro->r.days=1):clK pg (k+13) "_law_made" [.val (ruD r)]=.ok (.val (ruI r)):=by
 have hm:btw r.most 0 1000000000=true:=by unfold btw;simp;lia
 have hd:btw r.days 1 1000000000=true:=by unfold btw;simp;lia
 obtain⟨kd,lands,most,days⟩:=r;dsimp only at hl hm hd;have w1:du "within" = true:=(3:)
 have w2:du "since" = true:=(3:)
 have w3:du "row" = true:=(3:)
 rw[r__law_made]
 cases kd with
 |wi=>
  have e:pg.nw (k+12) "Within" [.val (.lst (lands.map lnD)),.val (.int most),.val (.int days)]=.ok (.val (ruI ⟨.wi,lands,most,days⟩)):=by rw[RU.nw];show(if k+12 < 12 then R.no else qbA "Within" (if (qx (lands.map lnD)&&btw most 0 1000000000&&btw days 1 1000000000)=true then _ else none))=_;rw[if_neg QH,if_pos (by rw[hl,hm,hd];rfl)];rfl
  simp?![jq,ruD,Kd.nm,yk w1 w1,show(("within" : Str) == "within")=true by decide+kernel,e]
 |si=>
  have e:pg.nw (k+12) "Since" [.val (.lst (lands.map lnD)),.val (.int most),.val (.int days)]=.ok (.val (ruI ⟨.si,lands,most,days⟩)):=by rw[RU.nw];show(if k+12 < 12 then R.no else qbA "Since" (if (qx (lands.map lnD)&&btw most 0 1000000000&&btw days 1 1000000000)=true then _ else none))=_;rw[if_neg QH,if_pos (by rw[hl,hm,hd];rfl)];rfl
  simp?![jq,ruD,Kd.nm,yk w2 w1,yk w2 w2,show(("since" : Str) == "within")=false by decide+kernel,show(("since" : Str) == "since")=true by decide+kernel,e]
 |ro=>
  have d1:days=1:=row rfl;subst d1
  have e:pg.nw (k+12) "InRow" [.val (.lst (lands.map lnD)),.val (.int most)]=.ok (.val (ruI ⟨.ro,lands,most,1⟩)):=by rw[RU.nw];show(if k+12 < 12 then R.no else qbA "InRow" (if (qx (lands.map lnD)&&btw most 0 1000000000)=true then _ else none))=_;rw[if_neg QH,if_pos (by rw[hl,hm];rfl)];rfl
  simp?![jq,ruD,Kd.nm,yk w3 w1,yk w3 w2,show(("row" : Str) == "within")=false by decide+kernel,show(("row" : Str) == "since")=false by decide+kernel,e]
def qaH{pg:Pg}[RU pg][LM pg](k:Nat)(r:Ru)(h:RuOk r):clK pg (k+13) "_law_made" [.val (ruD r)]=.ok (.val (ruI r)):=
 qgj k r h.lands h.m0 (by have:=h.m1;lia) h.d0 (by have:=h.d1;lia) h.row
structure PaOk(m start:Int)(p:Pa):Prop where
 o0:0<=p.1
 o1:p.1 < m
 a0:start<=p.2.1
 a1:p.2.1 < start+60
 b0:p.2.1<=p.2.2
 b1:p.2.2 < p.2.1+9
def QA{pg:Pg}[LP pg](k:Nat)(c m start:Int)(hm:0 < m):∃p:Pa,PaOk m start p/\clK pg (k+1) "_law_paper" [.val (.int c),.val (.int m),.val (.int start)]=.ok (.val (paD p)):=by
 have hn:0<=c * 982451653 % 10000000000037:=bD _ (2:);generalize hN:c * 982451653 % 10000000000037=n at hn;have mul:Zy c 982451653=true:=Yb (2:) (2:);have three:0+1+1+1<=sizeLine:=(3:)
 have a0:0<=n / 8 % 60:=bD _ (2:);have a1:n / 8 % 60 < 60:=bW _ (2:);have b0:0<=n / 480 % 9:=bD _ (2:);have b1:n / 480 % 9 < 9:=bW _ (2:);refine{(n % m,start+n / 8 % 60,start+n / 8 % 60+n / 480 % 9),{bD _ (1:),bW _ hm,by dsimp only;lia,by dsimp only;lia,by dsimp only;lia,by dsimp only;lia},?_};rw[r__law_paper];simp?![Jh,mul,hN,hm,three,zh]
structure StsOk(zs:List Str)(start:Int)(st:List St):Prop where
 ch:Ch (start - 1) st
 hi:∀s∈st,s.2.2<=start+59
 nm:∀s∈st,s.1∈zs
theorem qeb:∀(l:List St) (e:Int) (s:St),Ch e l->StOk (match l.getLast? with |some t=>t.2.2 |none=>e) s->Ch e (l++[s])
 |[],e,s,_,h=>⟨h,trivial⟩
 | t::l,e,s,h,h'=>by
  refine{h.1,qeb l t.2.2 s h.2 ?_}
  cases l with
  |nil=>exact h'
  |cons u r=>exact h'
theorem zu{cl:Cl}(v0:Sl)(zs:List Str)(hz:NamesOk zs)(start:Int)(h0:0<=start)(h1:start<=1000000000 - 60):∀(cs:List Int) (l:List St) (day:Int) (s5 s6 s7 s8:Sl),l.length+cs.length < 10000->StsOk zs start l->(day=match l.getLast? with |some t=>t.2.2+1 |none=>start)->
  ∃(l':List St) (N':List Sl),j5 cl 1000 (.one 5) zS (cs.map D.int) [v0,.bor (zs.map D.str),.val (.int start),.own (l.map stD),.val (.int day),s5,s6,s7,s8]=.ok (.next (v0::.bor (zs.map D.str)::.val (.int start)::.own (l'.map stD)::N'))/\l'.length<=l.length+cs.length/\StsOk zs start l'
 |[],l,day,s5,s6,s7,s8,_,h,_=>{l,_,rfl,by simp,h}
 | c::cs,l,day,s5,s6,s7,s8,hl,h,hday=>by
  rw[aQ]at hl;have hL:(0:Int) < (zs.length:Int):=by have:=hz.two;lia
  have hn:0<=c * 1099087573 % 10000000000037:=bD _ (2:);have mul:Zy c 1099087573=true:=Yb (2:) (2:);generalize hN:c * 1099087573 % 10000000000037=n at hn;have g0:0<=n % 6:=bD _ (2:);have g1:n % 6 < 6:=bW _ (2:);have g2:0<=n / 6 % 3:=bD _ (2:);have g3:n / 6 % 3 < 3:=bW _ (2:);have g4:0<=n / 18 % 9:=bD _ (2:);have g5:n / 18 % 9 < 9:=bW _ (2:);have gp:0<=n % 6 * (n / 6 % 3):=Int.mul_nonneg g0 g2;have mul2:Zy (n % 6) (n / 6 % 3)=true:=Yb (1:) (1:);generalize hg:n % 6 * (n / 6 % 3)=g at gp;obtain⟨z,e1,e2⟩:=qbD (zs:=zs) (n / 162 % (zs.length:Int)) (bD _ (1:)) (bW _ hL);have hzm:z∈zs:=dn e2;have hs:(l.map stD).length < sizeLine:=by rw[aD];exact qr (1:)
  have three:0+1+1+1<=sizeLine:=(3:)
  by_cases hc:day+g+n / 18 % 9<=start+59
  ·have hd:start<=day:=by
    rw[hday]
    cases q:l.getLast? with
    |none=>exact a9 _
    |some t=>
     have ht:t∈l:=List.mem_of_getLast? q;show start<=t.2.2+1
     have key:∀(l:List St) (e:Int),Ch e l->∀t∈l,e < t.2.1/\t.2.1<=t.2.2:=by
      intro l
      induction l with
      |nil=>intro e _ t ht;cases ht
      |cons u r ih=>
       intro e hh t ht;rcases aF.mp ht with rfl|ht
       ·exact⟨hh.1.lo,hh.1.ab⟩
       ·have:=ih _ hh.2 t ht
        have:=hh.1.lo
        have:=hh.1.ab
        lia
     have:=key l _ h.ch t ht
     lia
   obtain⟨l',N',ih,i1,i2⟩:=zu (cl:=cl) v0 zs hz start h0 h1 cs (l++[(z,day+g,day+g+n / 18 % 9)]) (day+g+n / 18 % 9+1) (.val (.int c)) (.val (.int n)) (.val (.int (day+g))) (.val (.int (day+g+n / 18 % 9))) (by simp;lia)
    ⟨qeb l _ _ h.ch ⟨hz.ok z hzm,by
      dsimp only
      cases q:l.getLast? with
      |none=>rw[q]at hday;dsimp only at hday ⊢;lia
      |some t=>rw[q]at hday;dsimp only at hday ⊢;lia,by dsimp only;lia,by dsimp only;lia⟩,
     λs hs=>by
      rcases aW.mp hs with q|q
      ·exact h.hi s q
      ·rw[bo.mp q];exact hc,
     λs hs=>by
      rcases aW.mp hs with q|q
      ·exact h.nm s q
      ·rw[bo.mp q];exact hzm⟩ (5:)
   refine{l',N',?_,by simp at i1 ⊢;lia,i2};simp![a8,av,aK,z9]at ih;rw[av];simp?[jz,mul,hN,mul2,hg,hc,e1,qdZ,hL,three,hs,ih,z9]
  ·obtain⟨l',N',ih,i1,i2⟩:=zu (cl:=cl) v0 zs hz start h0 h1 cs l day (.val (.int c)) (.val (.int n)) (.val (.int (day+g))) (.val (.int (day+g+n / 18 % 9))) (1:) h hday;refine{l',N',?_,by rw[aQ];lia,i2};rw[av];simp?[jz,mul,hN,mul2,hg,hc,ih]
def JK{pg:Pg}[LS pg](k:Nat)(cs:List Int)(hl:cs.length < 1000)(zs:List Str)(hz:NamesOk zs)(start:Int)(h0:0<=start)(h1:start<=1000000000 - 60):∃st:List St,StsOk zs start st/\st.length<=cs.length/\
  clK pg (k+1) "_law_stays" [.val (.lst (cs.map D.int)),.bor (zs.map D.str),.val (.int start)]=.ok (.tmp (st.map stD)):=by
 obtain⟨l,N,e,e1,e2⟩:=zu (cl:=pg.kk k) (.val (.lst (cs.map D.int))) zs hz start h0 h1 cs [] start .no .no .no .no (by simp;lia) ⟨trivial,λs h=>(by cases h),λs h=>(by cases h)⟩ rfl;refine{l,e2,(-e1:),?_};rw[aK]at e;rw[r__law_stays];simp?![Ji,show(0:Nat)<=sizeLine by decide+kernel,e]
end FA
namespace DG
open PySem DE FA Dy
open L2 hiding St
theorem qaN:∀l:List (Str×Int),wt l none=0
 |[]=>rfl
 | p::l=>by unfold wt;rw[if_neg (5:)];exact qaN l
theorem qmp{l:List (Str×Int)}(h:∀p∈l,LnOk p)(o:Option Str):0<=wt l o:=by
 induction l with
 |nil=>exact a9 _
 |cons p l ih=>
  unfold wt;split
  ·have:=(h p (5:)).one;lia
  ·exact ih λq hq=>h q (by simp[hq])
def qmq{r:Ru}(h:∀p∈r.lands,LnOk p)(lf:List (Int×Int))(st:List St)(d:Int):0<=wgt r lf st d:=by
 unfold wgt;split
 ·exact a9 _
 ·exact qmp h _
def qec{r:Ru}{lf:List (Int×Int)}{st:List St}{d:Int}(h:zM st d=none):wgt r lf st d=0:=by unfold wgt;rw[h,qaN];simp
theorem qaO{f:Int->Int}:∀(n:Nat) (lo:Int),(ws f lo (n+1)).sum=(ws f lo n).sum+f (lo+n)
 |0,lo=>by simp[ws]
 | n+1,lo=>by
  rw[ws,cm,qaO n (lo+1),ws,cm,show lo+1+(n:Int)=lo+((n+1:Nat):Int) by lia]
  lia
theorem qmr{f:Int->Int}(hf:∀x,0<=f x):∀(n:Nat) (lo:Int),0<=(ws f lo n).sum
 |0,_=>by simp[ws]
 | n+1,lo=>by
  rw[ws,cm]
  have:=hf lo
  have:=qmr hf n (lo+1)
  lia
theorem Yd{f:Int->Int}:∀(n:Nat) (lo:Int),(∀x,lo<=x->x < lo+n->f x=0)->(ws f lo n).sum=0
 |0,_,_=>by simp[ws]
 | n+1,lo,h=>by rw[ws,cm,h lo (1:) (1:),Yd n (lo+1) λx h1 h2=>h x (1:) (1:)];rfl
theorem qaP{st:List St}{d:Int}:zM st d=none↔∀s∈st,¬ (s.2.1<=d/\d<=s.2.2):=by
 induction st with
 |nil=>simp[zM]
 |cons s l ih=>
  unfold zM
  by_cases hc:s.2.1<=d/\d<=s.2.2
  ·rw[if_pos hc];constructor
   ·intro h;cases h
   ·intro h;exact absurd hc (h s (5:))
  ·rw[if_neg hc,ih];constructor
   ·intro h t ht;rcases aF.mp ht with rfl|ht
    ·exact hc
    ·exact h t ht
   ·exactλh t ht=>h t (by simp[ht])
theorem Ch.lo:∀{l:List St} {e:Int},Ch e l->∀t∈l,e < t.2.1/\t.2.1<=t.2.2
 |[],_,_,t,ht=>by cases ht
 | u::r,e,h,t,ht=>by
  rcases aF.mp ht with rfl|ht
  ·exact⟨h.1.lo,h.1.ab⟩
  ·have:=Ch.lo h.2 t ht
   have:=h.1.lo
   have:=h.1.ab
   exact{by lia,by lia}
end DG
namespace FA
open PySem DE DG Dy
open L2 hiding St
open LC LN LR LM LP LS RU
def qed(ns:List Int)(a b:Nat):∃ms:List Int,Qo (ns.map D.int) (some (a:Int)) (some (b:Int))=ms.map D.int/\ms.length<=b - a:=by
 refine{(ns.drop (min a ns.length)).take (min b ns.length - min a ns.length),?_,?_}
 ·unfold Qo;rw[HT.yh,HT.yh,aD,ir,kU]
 ·refine bz (List.length_take_le ..) ?_;rcases Nat.le_total a ns.length with h|h
  ·rw[eR h];exact Nat.sub_le_sub_right (Nat.min_le_left ..) a
  ·rw[Nat.min_eq_right h,Nat.sub_eq_zero_of_le (Nat.min_le_right ..)];exact bd _
def qms:E:=.call "_law_rule" %[0,1|0]
def qhd:E:=.call "_law_paper" %[0,.b1 .len (.var 2),1|0]
def qmt:E:=.call "_law_made" %[0|0]
theorem YV{pg:Pg}[LR pg](k:Nat)(zs:List Str)(hz:NamesOk zs):∀(cs:List Int) (acc:List D) (s0:Sl),acc.length+cs.length < 10000->∃rs:List Ru,(∀r∈rs,RuOk r)/\rs.length=cs.length/\
  zi (pg.kk (k+1)) qms (.one 0) .yes (cs.map D.int) [s0,.bor (zs.map D.str)] acc=.ok (acc++rs.map ruD)
 |[],acc,s0,_=>{[],λr h=>(by cases h),rfl,by simp[qS]}
 | c::cs,acc,s0,hl=>by
  rw[aQ]at hl;obtain⟨r,h1,h2⟩:=qi4 (pg:=pg) k c zs hz;obtain⟨rs,i1,i2,i3⟩:=YV (pg:=pg) k zs hz cs (acc++[ruD r]) (.val (.int c)) (by simp;lia);refine{r::rs,λx hx=>?_,by simp[i2],?_}
  ·rcases aF.mp hx with rfl|hx
   ·exact h1
   ·exact i1 x hx
  ·have hs:acc.length < sizeLine:=qr (1:);simp![aT,bN,bf]at i3;refine(qg _).symm.trans ?_;rw[av,av];unfold qms at i3 ⊢;simp?![h2,hs,i3]
theorem Ye{pg:Pg}[LP pg](k:Nat)(start:Int)(rs:List D)(hr:0 < rs.length):∀(cs:List Int) (acc:List D) (s0:Sl),acc.length+cs.length < 10000->∃ps:List Pa,(∀p∈ps,PaOk rs.length start p)/\ps.length=cs.length/\
  zi (pg.kk (k+1)) qhd (.one 0) .yes (cs.map D.int) [s0,.val (.int start),.bor rs] acc=.ok (acc++ps.map paD)
 |[],acc,s0,_=>{[],λr h=>(by cases h),rfl,by simp[qS]}
 | c::cs,acc,s0,hl=>by
  rw[aQ]at hl;obtain⟨p,h1,h2⟩:=QA (pg:=pg) k c rs.length start (1:);obtain⟨ps,i1,i2,i3⟩:=Ye (pg:=pg) k start rs hr cs (acc++[paD p]) (.val (.int c)) (by simp;lia);refine{p::ps,λx hx=>?_,by simp[i2],?_}
  ·rcases aF.mp hx with rfl|hx
   ·exact h1
   ·exact i1 x hx
  ·have hs:acc.length < sizeLine:=qr (1:);simp![aT,bN,bf]at i3;refine(qg _).symm.trans ?_;rw[av,av];unfold qhd at i3 ⊢;simp?![h2,hs,i3]
theorem Z3{pg:Pg}[RU pg][LM pg](k:Nat):∀(rs:List Ru) (acc:List D) (s0:Sl),acc.length+rs.length < 10000->(∀r∈rs,RuOk r)->
  zi (pg.kk (k+13)) qmt (.one 0) .yes (rs.map ruD) [s0] acc=.ok (acc++rs.map ruI)
 |[],acc,s0,_,_=>by simp[qS]
 | r::rs,acc,s0,hl,h=>by rw[aQ]at hl;have h2:=qaH (pg:=pg) k r (h r (5:));have i3:=Z3 (pg:=pg) k rs (acc++[ruI r]) (.val (ruD r)) (by simp;lia) λx hx=>h x (by simp[hx]);have hs:acc.length < sizeLine:=qr (1:);simp![aT,bN,bf]at i3;refine(qg _).symm.trans ?_;rw[av,av];unfold qmt at i3 ⊢;simp?![h2,hs,i3]
end FA
namespace DG
open PySem DE FA Dy
open L2 hiding St
def qgk(r:Ru):ZM (ruI r)=true:=by obtain⟨kd,l,m,d⟩:=r;cases kd<;>rfl
def qjb{pg:Pg}[RU pg](k:Nat)(b c:Bool)(rs:List Ru)(ps:List Pa)(hr:rs.length<=8)(hp:ps.length<=12)(h:∀p∈ps,0<=p.1/\p.1 < rs.length/\0<=p.2.1/\p.2.1<=p.2.2/\p.2.2<=1000000000) :
  pg.nw (k+12) "Book" [aL b (rs.map ruI),aL c (ps.map paD)]=.ok (.val (bkI rs ps)):=by
 have e:∀(b:Bool) (l:List D),arL (aL b l)=some l:=λb l=>by cases b<;>rfl
 have h1:((decide ((rs.map ruI).length<=8)&&(rs.map ruI).all ZM)&&(decide ((ps.map paD).length<=12)&&(ps.map paD).all (jw (rs.map ruI).length)))=true:=by
  simp![aD,aG,decide_eq_true_eq,eX,dU];refine{{hr,λx ⟨r,_,hx⟩=>by rw[<-hx];exact qgk r},hp,λx ⟨p,hm,hx⟩=>?_};obtain⟨q1,q2,q3,q4,q5⟩:=h p hm;rw[<-hx];show(btw p.1 0 ((rs.length:Int) - 1)&&btw p.2.1 0 1000000000&&btw p.2.2 0 1000000000&&decide (p.2.1<=p.2.2))=true;unfold btw;simp![aG,decide_eq_true_eq]
  lia
 rw[RU.nw]
 show(if k+12 < 12 then R.no else qbA "Book" (match arL (aL b (rs.map ruI)),arL (aL c (ps.map paD)) with
  |some l,some ps=>if ((decide (l.length<=8)&&l.all ZM)&&(decide (ps.length<=12)&&ps.all (jw l.length)))=true then some [("kept_rules",D.lst l),("kept_papers",D.lst ps)] else none
  |_,_=>none))=_
 rw[if_neg (1:),e,e];dsimp only;rw[if_pos h1];rfl
theorem Ch.weak{l:List St}{e e':Int}(h:e'<=e)(hc:Ch e l):Ch e' l:=by
 cases l with
 |nil=>trivial
 |cons s l=>exact{{hc.1.nm,by have:=hc.1.lo;lia,hc.1.ab,hc.1.hi},hc.2}
open L2
noncomputable abbrev Z4:T:=(.and (.cmp .Lt (.var 3) (.b1 .len (.var 0))) (.one (.cmp .Lt (.var 4) (.b1 .len (.var 1)))))
def QI:T:=Z4
def j6:UT QI Z4:=λ_ _ _=>(rfl)
noncomputable abbrev Z5:Ss:=%[.set 5 (.b2 .max (.idx (.idx (.var 0) (.var 3)) (.con (.int 0))) (.idx (.idx (.var 1) (.var 4)) (.con (.int 0)))),.set 6 (.b2 .min (.idx (.idx (.var 0) (.var 3)) (.con (.int 1))) (.idx (.idx (.var 1) (.var 4)) (.con (.int 1)))),.ite (.cmp .LtE (.var 5) (.var 6)) %[.app 2 (.tup %[5,6|0])|0] .nil,.ite (.cmp .Lt (.idx (.idx (.var 0) (.var 3)) (.con (.int 1))) (.idx (.idx (.var 1) (.var 4)) (.con (.int 1)))) %[.set 3 (.bin .Add (.var 3) (.con (.int 1)))|0] %[.set 4 (.bin .Add (.var 4) (.con (.int 1)))|0]|0]
def QJ:Ss:=Z5
def YW:USs QJ Z5:=λ_ _ _ _=>(rfl)
def qhe:Nat×Nat×Ss:=(2,7,%[.set 2 (.lst .nil),.set 3 (.con (.int 0)),.set 4 (.con (.int 0)),.whl QI QJ,.ret (.var 2)|0])
noncomputable abbrev Jj:Ss:=%[.ite (.cmp .Lt (.var 4) (.idx (.var 5) (.con (.int 0)))) %[.app 3 (.tup %[4,.bin .Sub (.idx (.var 5) (.con (.int 0))) (.con (.int 1))|0])|0] .nil,.set 4 (.b2 .max (.var 4) (.bin .Add (.idx (.var 5) (.con (.int 1))) (.con (.int 1))))|0]
def yn:Ss:=Jj
def yE:USs yn Jj:=λ_ _ _ _=>(rfl)
def Yg:Nat×Nat×Ss:=(3,6,%[.set 3 (.lst .nil),.set 4 (.var 1),.for_ (.one 5) (.seq (.var 0)) yn,.ite (.cmp .LtE (.var 4) (.var 2)) %[.app 3 (.tup %[4,2|0])|0] .nil,.ret (.var 3)|0])
def qhf:Nat×Nat×Ss:=(2,2,%[.ite (.not (.val (.var 0))) %[.ret (.lst .nil)|0] .nil,.ret (.call "both" %[0,.call "outside" %[1,.idx (.idx (.var 0) (.con (.int 0))) (.con (.int 0)),.idx (.idx (.var 0) (.neg (.con (.int 1)))) (.con (.int 1))|0]|0])|0])
class BT(pg:Pg):Prop where
 r_both:RW pg "both" qhe
 r_outside:RW pg "outside" Yg
 r_less:RW pg "less" qhf
abbrev ja:E:=(.tup %[0,1,2|0])
def zk:E:=ja
def yF:UE zk ja:=λ_ _ _=>(rfl)
noncomputable abbrev jb:Ss:=%[.set 9 (.met (.var 3) "weight" %[6|0]),.ite (.cmp .Gt (.var 9) (.con (.int 0))) %[.ext 5 (.comp zk (.seq (.call "less" %[.lst %[.tup %[7,8|0]|0],4|0])) (.many [0,1]) .yes 2 [9])|0] .nil|0]
def zm:Ss:=jb
def zN:USs zm jb:=λ_ _ _ _=>(rfl)
def ye:Nat×Nat×Ss:=(3,10,%[.set 3 (.idx (.met (.var 0) "rules" .nil) (.var 1)),.set 4 (.met (.var 0) "lifted" %[1|0]),.set 5 (.lst .nil),.for_ (.many [6,7,8]) (.seq (.var 2)) zm,.ret (.var 5)|0])
class PC(pg:Pg):Prop where
 r_pieces_among:RW pg "pieces_among" ye
noncomputable abbrev Yh:Ss:=%[.set 7 (.bin .Add (.bin .Sub (.b2 .min (.var 5) (.var 2)) (.b2 .max (.var 4) (.var 1))) (.con (.int 1))),.ite (.cmp .Gt (.var 7) (.con (.int 0))) %[.set 3 (.bin .Add (.var 3) (.bin .Mult (.var 7) (.var 6)))|0] .nil|0]
def y7:Ss:=Yh
def Jk:USs y7 Yh:=λ_ _ _ _=>(rfl)
def qbI:Nat×Nat×Ss:=(3,8,%[.set 3 (.con (.int 0)),.for_ (.many [4,5,6]) (.seq (.var 0)) y7,.ret (.var 3)|0])
noncomputable abbrev jA:Ss:=%[.ite (.cmp .LtE (.var 4) (.var 2)) %[.ite (.cmp .GtE (.bin .Sub (.bin .Sub (.var 3) (.con (.int 1))) (.b2 .min (.var 5) (.var 2))) (.var 1)) %[.ret (.var 3)|0] .nil,.set 3 (.var 4)|0] .nil|0]
def zC:Ss:=jA
def qX:USs zC jA:=λ_ _ _ _=>(rfl)
def yG:Nat×Nat×Ss:=(3,7,%[.set 3 (.bin .Add (.var 2) (.con (.int 1))),.for_ (.many [4,5,6]) (.rev (.var 0)) zC,.ret (.var 3)|0])
def qY:Nat×Nat×Ss:=(3,3,%[.ite (.val (.isc "Within" (.var 0))) %[.ret (.bin .Add (.bin .Sub (.var 2) (.fld (.var 0) "span")) (.con (.int 1)))|0] .nil,.ret (.call "first_since" %[1,.fld (.var 0) "leave",2|0])|0])
def yH:Nat×Nat×Ss:=(3,3,%[.ret (.call "sum_of" %[1,.call "first_of_window" %[0,1,2|0],2|0])|0])
class SU(pg:Pg):Prop where
 r_sum_of:RW pg "sum_of" qbI
 r_first_since:RW pg "first_since" yG
 r_first_of_window:RW pg "first_of_window" qY
 r_count_among:RW pg "count_among" yH
noncomputable abbrev yI:Ss:=%[.app 2 (.bin .Add (.var 3) (.fld (.var 0) "span")),.app 2 (.bin .Add (.bin .Add (.var 4) (.con (.int 1))) (.fld (.var 0) "span"))|0]
def jV:Ss:=yI
def YA:USs jV yI:=λ_ _ _ _=>(rfl)
def y8:Nat×Nat×Ss:=(2,6,%[.set 2 (.lst .nil),.ite (.val (.isc "Within" (.var 0))) %[.for_ (.many [3,4,5]) (.seq (.var 1)) jV|0] .nil,.ret (.var 2)|0])
open CH ST SP RU BO BT PC SU
abbrev Pr:=Int×Int
def mx(a b:Int):Int:=if b > a then b else a
def mn(a b:Int):Int:=if b < a then b else a
def mxF(a b:Int):(if b > a then b else a)=mx a b:=(rfl)
def mnF(a b:Int):(if b < a then b else a)=mn a b:=(rfl)
def qgl(a b:Int):(a<=b->mx a b=b)/\(b<=a->mx a b=a):=by unfold mx;split<;>lia
def Z6(a b:Int):(a<=b->mn a b=a)/\(b<=a->mn a b=b):=by unfold mn;split<;>lia
def jc:Nat->List Pr->List Pr->List Pr
 |0,_,_=>[]
 | _+1,[],_=>[]
 | _+1,_,[]=>[]
 | n+1,p::a,q::b=>(if mx p.1 q.1<=mn p.2 q.2 then [(mx p.1 q.1,mn p.2 q.2)] else [])++(if p.2 < q.2 then jc n a (q::b) else jc n (p::a) b)
def qee(l:List Pr)(i:Nat)(p:Pr)(h:l[i]?=some p):atI (l.map pD) (i:Int)=some (.tup [.int p.1,.int p.2]):=qg8 (by rw[bE,h];rfl)
theorem Yi(cl:Cl)(A B:List Pr):∀(n i j:Nat) (acc:List Pr) (s5 s6:Sl),(A.length - i)+(B.length - j) < n->acc.length+n < 10000->
  ∃N',whD cl 1000 QI QJ n [.val (.lst (A.map pD)),.val (.lst (B.map pD)),.own (acc.map pD),.val (.int (i:Int)),.val (.int (j:Int)),s5,s6]=.ok (.next (.val (.lst (A.map pD))::.val (.lst (B.map pD))::.own ((acc++jc n (A.drop i) (B.drop j)).map pD)::N'))
 |0,i,j,acc,s5,s6,h,_=>by lia
 | n+1,i,j,acc,s5,s6,h,hl=>by
  have two:0+1+1<=sizeLine:=(3:)
  have hs:(acc.map pD).length < sizeLine:=by rw[aD];exact qr (1:)
  by_cases hi:i < A.length
  ·by_cases hj:j < B.length
   ·obtain⟨p,hp⟩:∃p,A[i]?=some p:={A[i],bK hi};obtain⟨q,hq⟩:∃q,B[j]?=some q:={B[j],bK hj};have ap:=qee A i p hp;have aq:=qee B j q hq;have c1:(i:Int) < ((A.map pD).length:Int):=by rw[aD];lia
    have c2:(j:Int) < ((B.map pD).length:Int):=by rw[aD];lia
    have dA:A.drop i=p::A.drop (i+1):=by rw[fD hi];congr 1;rw[bK hi]at hp;exact Option.some.inj hp
    have dB:B.drop j=q::B.drop (j+1):=by rw[fD hj];congr 1;rw[bK hj]at hq;exact Option.some.inj hq
    have X:∀{M:Type} (K:Fl->R M) (a b c d:Sl),(iS cl 1000 (.ite (.cmp .LtE (.var 5) (.var 6)) %[.app 2 (.tup %[5,6|0])|0] .nil) [a,b,.own (acc.map pD),c,d,.val (.int (mx p.1 q.1)),.val (.int (mn p.2 q.2))]).th K=K (.next [a,b,.own ((acc++if mx p.1 q.1<=mn p.2 q.2 then [(mx p.1 q.1,mn p.2 q.2)] else []).map pD),c,d,.val (.int (mx p.1 q.1)),.val (.int (mn p.2 q.2))]):=by
     intro M K a b c d
     by_cases hc:mx p.1 q.1<=mn p.2 q.2
     ·rw[if_pos hc,a8];simp?![hc,two,hs,zI]
     ·rw[if_neg hc,dD];simp?![hc]
    have hl':(acc++if mx p.1 q.1<=mn p.2 q.2 then [(mx p.1 q.1,mn p.2 q.2)] else []).length<=acc.length+1:=by
     rw[bq]
     split<;>simp
    rw[dA,dB,jc,<-aT];generalize acc++(if mx p.1 q.1<=mn p.2 q.2 then [(mx p.1 q.1,mn p.2 q.2)] else [])=acc' at *
    by_cases hd:p.2 < q.2
    ·obtain⟨N',e⟩:=Yi cl A B n (i+1) j acc' (.val (.int (mx p.1 q.1))) (.val (.int (mn p.2 q.2))) (1:) (1:);refine{N',?_};rw[dB]at e;rw[if_pos hd];simp![show((i+1:Nat):Int)=(i:Int)+1 by lia]at e;simp?[↓X,j6,YW,c1,c2,ap,aq,mxF,mnF,hd,e]
    ·obtain⟨N',e⟩:=Yi cl A B n i (j+1) acc' (.val (.int (mx p.1 q.1))) (.val (.int (mn p.2 q.2))) (1:) (1:);refine{N',?_};rw[dA]at e;rw[if_neg hd];simp![show((j+1:Nat):Int)=(j:Int)+1 by lia]at e;simp?[↓X,j6,YW,c1,c2,ap,aq,mxF,mnF,hd,e]
   ·have c1:(i:Int) < ((A.map pD).length:Int):=by rw[aD];lia
    have c2:¬ (j:Int) < ((B.map pD).length:Int):=by rw[aD];lia
    have e:jc (n+1) (A.drop i) (B.drop j)=[]:=by
     rw[show B.drop j=[] from kq (1:)]
     cases A.drop i<;>rfl
    rw[e,dD];refine{[.val (.int (i:Int)),.val (.int (j:Int)),s5,s6],?_};simp?[j6,c1,c2]
  ·have c1:¬ (i:Int) < ((A.map pD).length:Int):=by rw[aD];lia
   have e:jc (n+1) (A.drop i) (B.drop j)=[]:=by rw[show A.drop i=[] from kq (1:)];rfl
   rw[e,dD];refine{[.val (.int (i:Int)),.val (.int (j:Int)),s5,s6],?_};simp?[j6,c1]
def qjc{pg:Pg}[BT pg](k:Nat)(A B:List Pr)(hl:A.length+B.length < 999):clK pg (k+1) "both" [.val (.lst (A.map pD)),.val (.lst (B.map pD))]=.ok (.tmp ((jc 1000 A B).map pD)):=by obtain⟨N',e⟩:=Yi (pg.kk k) A B 1000 0 0 [] .no .no (1:) (5:);rw[aK,bf,gq,gq,show((0:Nat):Int)=0 from rfl]at e;rw[r_both];simp?![qhe,show(0:Nat)<=sizeLine by decide+kernel,e]
def Jv:Int->List Pr->List Pr×Int
 |b,[]=>([],b)
 | b,t::l=>((if b < t.1 then [(b,t.1 - 1)] else [])++(Jv (mx b (t.2+1)) l).1,(Jv (mx b (t.2+1)) l).2)
def qM(l:List Pr)(first last:Int):List Pr:=(Jv first l).1++(if (Jv first l).2<=last then [((Jv first l).2,last)] else [])
theorem QK(cl:Cl)(v0 v1 v2:Sl):∀(l:List Pr) (b:Int) (acc:List Pr) (s5:Sl),acc.length+l.length < 10000->∃s5',j5 cl 1000 (.one 5) yn (l.map pD) [v0,v1,v2,.own (acc.map pD),.val (.int b),s5]=.ok (.next [v0,v1,v2,.own ((acc++(Jv b l).1).map pD),.val (.int (Jv b l).2),s5'])
 |[],b,acc,s5,_=>{s5,by simp[Jv,jk]}
 | t::l,b,acc,s5,hl=>by
  rw[aQ]at hl;have two:0+1+1<=sizeLine:=(3:)
  have hs:(acc.map pD).length < sizeLine:=by rw[aD];exact qr (1:)
  rw[Jv]
  by_cases hc:b < t.1
  ·obtain⟨s5',ih⟩:=QK cl v0 v1 v2 l (mx b (t.2+1)) (acc++[(b,t.1 - 1)]) (.val (pD t)) (by simp;lia);refine{s5',?_};rw[if_pos hc];simp![a8,av,aK,zI,aT,bN,bf]at ih ⊢;simp?[yE,hc,two,hs,mxF,ih]
  ·obtain⟨s5',ih⟩:=QK cl v0 v1 v2 l (mx b (t.2+1)) acc (.val (pD t)) (1:);refine{s5',?_};rw[if_neg hc,bf];simp![zI]at ih;rw[av];simp?[yE,zI,hc,mxF,ih]
def qcy{pg:Pg}[BT pg](k:Nat)(b:Bool)(l:List Pr)(hl:l.length < 5000)(first last:Int):clK pg (k+1) "outside" [aL b (l.map pD),.val (.int first),.val (.int last)]=.ok (.tmp ((qM l first last).map pD)):=by
 have two:0+1+1<=sizeLine:=(3:)
 have len:∀(l:List Pr) (b:Int),(Jv b l).1.length<=l.length:=by
  intro l
  induction l with
  |nil=>intro b;simp[Jv]
  |cons t l ih=>
   intro b;rw[Jv]
   have:=ih (mx b (t.2+1))
   dsimp only;rw[bq,aQ]
   split<;>simp<;>lia
 have hs:((Jv first l).1.map pD).length < sizeLine:=by rw[aD];have:=len l first;exact qr (1:)
 rw[r_outside];unfold qM;obtain⟨s5,e⟩:=QK (pg.kk k) (pS b (l.map pD)) (.val (.int first)) (.val (.int last)) l first [] .no (by simp;lia);rw[aK,bf]at e
 by_cases hc:(Jv first l).2<=last
 ·rw[if_pos hc,a8,av,aK];simp?![Yg,show(0:Nat)<=sizeLine by decide+kernel,e,hc,two,hs,zI]
 ·rw[if_neg hc,dD];simp?![Yg,show(0:Nat)<=sizeLine by decide+kernel,e,hc]
def j7(p:Pr)(l:List Pr):List Pr:=jc 1000 [p] (qM l p.1 p.2)
def yo(l:List Pr)(f t:Int):(qM l f t).length<=l.length+1:=by
 have len:∀(l:List Pr) (b:Int),(Jv b l).1.length<=l.length:=by
  intro l
  induction l with
  |nil=>intro b;simp[Jv]
  |cons t l ih=>
   intro b;rw[Jv]
   have:=ih (mx b (t.2+1))
   dsimp only;rw[bq,aQ]
   split<;>simp<;>lia
 unfold qM;rw[bq]
 have:=len l f
 split<;>simp<;>omega
def qef{pg:Pg}[BT pg](k:Nat)(b:Bool)(p:Pr)(l:List Pr)(hl:l.length < 900):clK pg (k+2) "less" [.val (.lst [.tup [.int p.1,.int p.2]]),aL b (l.map pD)]=.ok (.tmp ((j7 p l).map pD)):=by
 have o:=qcy (pg:=pg) k b l (1:) p.1 p.2;have t:=qjc (pg:=pg) k [p] (qM l p.1 p.2) (by have:=yo l p.1 p.2;simp;lia);simp![qmk,qml,av,aK,zI]at t;have g:atI [D.tup [.int p.1,.int p.2]] (-1)=some (.tup [.int p.1,.int p.2]):=g_last [] _;rw[r_less]
 try simp only[qmk,qml]at o ⊢
 simp?![qhf,List.isEmpty_cons,g,o,t,j7]
theorem Yj:∀(n:Nat) (A B:List Pr),(jc n A B).length<=A.length+B.length
 |0,_,_=>by simp[jc]
 | n+1,[],B=>by simp[jc]
 | n+1,p::A,[]=>by simp[jc]
 | n+1,p::A,q::B=>by
  have h1:=Yj n A (q::B);have h2:=Yj n (p::A) B;simp![aQ]at h1 h2;rw[jc,bq,aQ,aQ]
  split<;>split<;>simp<;>lia
def yJ(p:Pr)(l:List Pr):(j7 p l).length<=l.length+2:=by
 have h1:=Yj 1000 [p] (qM l p.1 p.2);have h2:=yo l p.1 p.2;unfold j7;simp at h1
 lia
def QL(w:Int)(p:Pr):Pa:=(p.1,p.2,w)
def qI(r:Ru)(lf:List Pr)(s:St):List Pa:=if 0 < wt r.lands (some s.1) then (j7 (s.2.1,s.2.2) lf).map (QL (wt r.lands (some s.1))) else []
def qJ(r:Ru)(lf:List Pr):List St->List Pa
 |[]=>[]
 | s::l=>qI r lf s++qJ r lf l
theorem qmu(cl:Cl)(w:Int):∀(l:List Pr) (acc:List Pa) (s0 s1:Sl),acc.length+l.length < 10000->zi cl zk (.many [0,1]) .yes (l.map pD) [s0,s1,.val (.int w)] (acc.map paD)=.ok ((acc++l.map (QL w)).map paD)
 |[],acc,s0,s1,_=>by simp[qS]
 | p::l,acc,s0,s1,hl=>by
  rw[aQ]at hl;have ih:=qmu cl w l (acc++[QL w p]) (.val (.int p.1)) (.val (.int p.2)) (by simp;lia);have three:0+1+1+1<=sizeLine:=(3:)
  have hs:(acc.map paD).length < sizeLine:=by rw[aD];exact qr (1:)
  simp![a8,av,aK,aT,bN,bf,zh,QL]at ih ⊢;simp?[yF,zI,three,hs,ih]
def Yk(r:Ru)(lf:List Pr)(s:St):(qI r lf s).length<=lf.length+2:=by
 unfold qI;split
 ·rw[aD];exact yJ _ _
 ·simp
theorem Yl(r:Ru)(lf:List Pr):∀st:List St,(qJ r lf st).length<=st.length * (lf.length+2)
 |[]=>by simp[qJ]
 | s::l=>by
  rw[qJ,bq,aQ,Nat.succ_mul]
  have:=Yk r lf s
  have:=Yl r lf l
  lia
section
variable{pg:Pg}[RU pg][BT pg]
theorem yq(k:Nat)(v0 v1 v2:Sl)(r:Ru)(hr:∀p∈r.lands,LnOk p)(lf:List Pr)(hf:lf.length<=20):∀(st:List St) (acc:List Pa) (s6 s7 s8 s9:Sl),(∀s∈st,NameOk s.1)->acc.length+st.length * 22 < 9000->
  ∃N',j5 (pg.kk (k+2)) 1000 (.many [6,7,8]) zm (st.map stD) [v0,v1,v2,.val (ruI r),.own (lf.map pD),.own (acc.map paD),s6,s7,s8,s9]=.ok (.next (v0::v1::v2::.val (ruI r)::.own (lf.map pD)::.own ((acc++qJ r lf st).map paD)::N'))
 |[],acc,s6,s7,s8,s9,_,_=>{[s6,s7,s8,s9],by simp[qJ,jk]}
 | s::st,acc,s6,s7,s8,s9,hn,hl=>by
  rw[aQ,Nat.succ_mul]at hl;have w:clK pg (k+2) "Rule.weight" [.val (ruI r),.val (.str s.1)]=.ok (.val (.int (wt r.lands (some s.1)))):=qd6 (pg:=pg) (k+1) r hr (some s.1) (λz hz=>by cases hz;exact hn s (5:));have l1:=Yk r lf s;have two:0+1+1<=sizeLine:=(3:)
  have one:0+1<=sizeLine:=(3:)
  by_cases hc:0 < wt r.lands (some s.1)
  ·have e1:qI r lf s=(j7 (s.2.1,s.2.2) lf).map (QL (wt r.lands (some s.1))):=by unfold qI;rw[if_pos hc]
   obtain⟨N',ih⟩:=yq k v0 v1 v2 r hr lf hf st (acc++qI r lf s) (.val (.str s.1)) (.val (.int s.2.1)) (.val (.int s.2.2)) (.val (.int (wt r.lands (some s.1)))) (λx hx=>hn x (by simp[hx])) (by rw[bq];lia);refine{N',?_};have le:clK pg (k+2) "less" [.val (.lst [.tup [.int s.2.1,.int s.2.2]]),.bor (lf.map pD)]=.ok (.tmp ((j7 (s.2.1,s.2.2) lf).map pD)):=qef (pg:=pg) k true (s.2.1,s.2.2) lf (1:);have c:=qmu (pg.kk (k+2)) (wt r.lands (some s.1)) (j7 (s.2.1,s.2.2) lf) [] .no .no (by have:=yJ (s.2.1,s.2.2) lf;simp;lia);rw[aK,bf,<-e1]at c;have z1:((j7 (s.2.1,s.2.2) lf).map pD).length<=sizeLine:=by rw[aD];have:=yJ (s.2.1,s.2.2) lf;exact qN (1:)
   have z2:(acc.map paD).length+((qI r lf s).map paD).length<=sizeLine:=by rw[aD,aD];exact qN (1:)
   rw[qJ,<-aT];rw[a8 (l₁:=acc)]at ih;rw[av];simp?[zN,z9,RU.cs,Z1,w,hc,one,two,le,z1,qal,fH,fI,c,z2,ih]
  ·have e1:qI r lf s=[]:=by unfold qI;rw[if_neg hc]
   obtain⟨N',ih⟩:=yq k v0 v1 v2 r hr lf hf st acc (.val (.str s.1)) (.val (.int s.2.1)) (.val (.int s.2.2)) (.val (.int (wt r.lands (some s.1)))) (λx hx=>hn x (by simp[hx])) (1:);refine{N',?_};rw[qJ,e1,bf];rw[av];simp?[zN,z9,RU.cs,Z1,w,hc,ih]
end
section
variable{pg:Pg}[RU pg][BO pg][SP pg][BT pg][PC pg]
def qeg(k:Nat)(b:Bool)(rs:List Ru)(ps:List Pa)(hp:ps.length<=18)(n:Nat)(r:Ru)(hn:rs[n]?=some r)(hr:∀p∈r.lands,LnOk p)(hlf:(zJ n ps).length<=20)(st:List St)(hs:∀s∈st,NameOk s.1)(hl:st.length<=170) :
  clK pg (k+3) "pieces_among" [.val (bkI rs ps),.val (.int (n:Int)),aL b (st.map stD)]=.ok (.tmp ((qJ r (zJ n ps) st).map paD)):=by
 have a:=qbH (pg:=pg) (k+1) rs ps;have l:=qd8 (pg:=pg) k rs ps (n:Int) (1:);have e:=qea hn;rw[r_pieces_among];obtain⟨N',i⟩:=yq (pg:=pg) k (.val (bkI rs ps)) (.val (.int (n:Int))) (pS b (st.map stD)) r hr (zJ n ps) hlf st [] .no .no .no .no hs (by simp;lia);rw[aK,bf]at i;simp?![ye,RU.cs,qbG,qd5,a,l,e,show(0:Nat)<=sizeLine by decide+kernel,i]
end
def qhg(f t:Int):List Pa->Int->Int
 |[],a=>a
 | p::l,a=>qhg f t l (if 0 < mn p.2.1 t - mx p.1 f+1 then a+(mn p.2.1 t - mx p.1 f+1) * p.2.2 else a)
def WOk(l:List Pa):Prop:=∀p∈l,1<=p.2.2/\p.2.2<=9
theorem QM(cl:Cl)(v0:Sl)(f t:Int):∀(l:List Pa) (a:Int) (s4 s5 s6 s7:Sl),WOk l->∃N',j5 cl 1000 (.many [4,5,6]) y7 (l.map paD) [v0,.val (.int f),.val (.int t),.val (.int a),s4,s5,s6,s7]=.ok (.next (v0::.val (.int f)::.val (.int t)::.val (.int (qhg f t l a))::N'))
 |[],a,s4,s5,s6,s7,_=>{[s4,s5,s6,s7],rfl}
 | p::l,a,s4,s5,s6,s7,h=>by
  have hw:=h p (5:);have mul:Zy (mn p.2.1 t - mx p.1 f+1) p.2.2=true:=Yb (1:) (1:);rw[qhg]
  by_cases hc:0 < mn p.2.1 t - mx p.1 f+1
  ·obtain⟨N',ih⟩:=QM cl v0 f t l (a+(mn p.2.1 t - mx p.1 f+1) * p.2.2) (.val (.int p.1)) (.val (.int p.2.1)) (.val (.int p.2.2)) (.val (.int (mn p.2.1 t - mx p.1 f+1))) (λq hq=>h q (by simp[hq]));refine{N',?_};rw[if_pos hc];rw[av];simp?[Jk,zh,mxF,mnF,hc,mul,ih]
  ·obtain⟨N',ih⟩:=QM cl v0 f t l a (.val (.int p.1)) (.val (.int p.2.1)) (.val (.int p.2.2)) (.val (.int (mn p.2.1 t - mx p.1 f+1))) (λq hq=>h q (by simp[hq]));refine{N',?_};rw[if_neg hc];rw[av];simp?[Jk,zh,mxF,mnF,hc,ih]
def fsF(leave day:Int):List Pa->Int->Int
 |[],f=>f
 | p::l,f=>if p.1<=day then (if leave<=f - 1 - mn p.2.1 day then f else fsF leave day l p.1) else fsF leave day l f
theorem qaQ(cl:Cl)(v0:Sl)(leave day:Int):∀(l:List Pa) (f:Int) (s4 s5 s6:Sl),∃F,j5 cl 1000 (.many [4,5,6]) zC (l.map paD) [v0,.val (.int leave),.val (.int day),.val (.int f),s4,s5,s6]=.ok F/\(F=.ret (.val (.int (fsF leave day l f)))\/∃N',F=.next (v0::.val (.int leave)::.val (.int day)::.val (.int (fsF leave day l f))::N'))
 |[],f,s4,s5,s6=>{_,rfl,.inr {[s4,s5,s6],rfl}}
 | p::l,f,s4,s5,s6=>by
  rw[fsF]
  by_cases h1:p.1<=day
  ·rw[if_pos h1]
   by_cases h2:leave<=f - 1 - mn p.2.1 day
   ·rw[if_pos h2];refine{_,?_,.inl rfl};rw[av];simp?[qX,zh,h1,mnF,h2]
   ·rw[if_neg h2];obtain⟨F,i,a⟩:=qaQ cl v0 leave day l p.1 (.val (.int p.1)) (.val (.int p.2.1)) (.val (.int p.2.2));refine{F,?_,a};rw[av];simp?[qX,zh,h1,mnF,h2,i]
  ·rw[if_neg h1];obtain⟨F,i,a⟩:=qaQ cl v0 leave day l f (.val (.int p.1)) (.val (.int p.2.1)) (.val (.int p.2.2));refine{F,?_,a};rw[av];simp?[qX,zh,h1,i]
section
variable{pg:Pg}[RU pg][SU pg]
def qgm(k:Nat)(b:Bool)(l:List Pa)(h:WOk l)(f t:Int):clK pg (k+1) "sum_of" [aL b (l.map paD),.val (.int f),.val (.int t)]=.ok (.val (.int (qhg f t l 0))):=by rw[r_sum_of];obtain⟨N',i⟩:=QM (pg.kk k) (pS b (l.map paD)) f t l 0 .no .no .no .no h;simp?![qbI,i]
def QN(k:Nat)(b:Bool)(l:List Pa)(leave day:Int):clK pg (k+1) "first_since" [aL b (l.map paD),.val (.int leave),.val (.int day)]=.ok (.val (.int (fsF leave day l.reverse (day+1)))):=by rw[r_first_since];obtain⟨F,i,a⟩:=qaQ (pg.kk k) (pS b (l.map paD)) leave day l.reverse (day+1) .no .no .no;rw[List.map_reverse]at i;rcases a with rfl|⟨N',rfl⟩<;>simp?![yG,i]
def qjy(r:Ru)(l:List Pa)(d:Int):Int:=if r.kd.isW=true then d - r.days+1 else fsF r.days d l.reverse (d+1)
def qC(r:Ru)(l:List Pa)(d:Int):Int:=qhg (qjy r l d) d l 0
theorem qmv(k:Nat)(b:Bool)(r:Ru)(l:List Pa)(d:Int):clK pg (k+2) "first_of_window" [.val (ruI r),aL b (l.map paD),.val (.int d)]=.ok (.val (.int (qjy r l d))):=by
 have s:=QN (pg:=pg) k b l r.days d;have iw:=Z2 (xx:=pg.xx) r;rw[r_first_of_window];unfold qjy
 cases hk:r.kd.isW with
 |true=>rw[hk]at iw;simp?![qY,RU.cs,iw,qd3 r hk]
 |false=>
  rw[hk]at iw
  try simp only[qmk,qml]at s
  simp?![qY,RU.cs,iw,qbF r hk,s]
def yK(k:Nat)(b:Bool)(r:Ru)(l:List Pa)(h:WOk l)(d:Int):clK pg (k+3) "count_among" [.val (ruI r),aL b (l.map paD),.val (.int d)]=.ok (.val (.int (qC r l d))):=by
 have s:=qgm (pg:=pg) (k+1) b l h (qjy r l d) d;have f:=qmv (pg:=pg) k b r l d;rw[r_count_among];unfold qC
 try simp only[qmk,qml]at s f
 simp?![yH,f,s]
end
def jW(span:Int):List Pa->List Int
 |[]=>[]
 | p::l=>(p.1+span)::(p.2.1+1+span)::jW span l
def yL(r:Ru)(l:List Pa):List Int:=if r.kd.isW=true then jW r.days l else []
theorem YX(cl:Cl){xx:Xs}(hcs:cl.cs=pcs xx)(v1:Sl)(r:Ru)(hk:r.kd.isW=true):∀(l:List Pa) (acc:List Int) (s3 s4 s5:Sl),acc.length+2 * l.length < 10000->∃N',j5 cl 1000 (.many [3,4,5]) jV (l.map paD) [.val (ruI r),v1,.own (acc.map D.int),s3,s4,s5]=.ok (.next (.val (ruI r)::v1::.own ((acc++jW r.days l).map D.int)::N'))
 |[],acc,s3,s4,s5,_=>{[s3,s4,s5],by simp[jW,jk]}
 | p::l,acc,s3,s4,s5,hl=>by
  rw[aQ]at hl;obtain⟨N',ih⟩:=YX cl hcs v1 r hk l (acc++[p.1+r.days]++[p.2.1+1+r.days]) (.val (.int p.1)) (.val (.int p.2.1)) (.val (.int p.2.2)) (by simp;lia);refine{N',?_};have hs:(acc.map D.int).length < sizeLine:=by rw[aD];exact qr (1:)
  have hs2:(acc.map D.int++[D.int (p.1+r.days)]).length < sizeLine:=by simp;exact qr (1:)
  rw[jW,show acc++(p.1+r.days)::(p.2.1+1+r.days)::jW r.days l=acc++[p.1+r.days]++[p.2.1+1+r.days]++jW r.days l by simp];rw[a8 (l₁:=acc++[p.1+r.days]),a8 (l₁:=acc),av,aK,av,aK]at ih;rw[av];simp?[YA,zh,hcs,qd3 r hk,hs,hs2,ih]
theorem YY(s:Int):∀l:List Pa,(jW s l).length=2 * l.length
 |[]=>rfl
 | p::l=>by rw[jW,aQ,aQ,YY s l,aQ];lia
theorem qhh:∀(a b:List Int),YI (a.map D.int) (b.map D.int)=(a.zip b).map pD
 |[],b=>by simp[YI]
 | x::a,[]=>by simp[YI]
 | x::a,y::b=>by
  have:=qhh a b
  unfold YI at this ⊢;rw[av,av,mH,this];rfl
def qjd(d:D)(l:List D):Qo (d::l) (some 1) none=l:=by unfold Qo;rw[show(some (1:Int))=some ((1:Nat):Int) from rfl,HT.yh,HT.Y7];simp
def Jl(st:List St)(x:Rl):List Pa:=qJ x.1 x.2 st
def Spr.tail{p:Pr}{l:List Pr}(h:Spr (p::l)):Spr l:={λq hq=>h.ok q (by simp[hq]),(bG.mp h.gap).2}
def qB{p:Pr}{l:List Pr}{d:Int}:Day (p::l) d↔(p.1<=d/\d<=p.2)\/Day l d:=by
 unfold Day;constructor
 ·rintro⟨q,hq,h⟩;rcases aF.mp hq with rfl|hq
  ·exact .inl h
  ·exact .inr ⟨q,hq,h⟩
 ·rintro (h|⟨q,hq,h⟩)
  ·exact{p,by simp,h}
  ·exact{q,by simp[hq],h}
def zD{d:Int}:¬ Day [] d:=λ⟨_,h,_⟩=>by cases h
structure Apart(l:List Pr):Prop where
 ok:∀p∈l,p.1<=p.2
 ap:l.Pairwise λp q=>p.2+1 < q.1
structure OutOk(b:Int)(l:List Pr)(F:List Pr)(b':Int):Prop where
 apart:Apart F
 lo:∀x∈F,b<=x.1
 hi:∀x∈F,x.2+1 < b'
 le:b<=b'
 day:∀d,b<=d->d < b'->(Day F d↔¬ Day l d)
 end_:∀d,b'<=d->¬ Day l d
theorem qhi:∀(l:List Pr) (b:Int),Spr l->OutOk b l (Jv b l).1 (Jv b l).2
 |[],b,_=>{{λ_ h=>(by cases h),List.Pairwise.nil},λ_ h=>(by cases h),λ_ h=>(by cases h),a9 _,λd h1 h2=>by dsimp only[Jv]at h2;lia,λd _=>zD}
 | t::l,b,hS=>by
  have hS':=Spr.tail hS;have ht:=hS.ok t (5:);have hg:=(bG.mp hS.gap).1;have hlow:∀d,Day l d->t.2+2<=d:=λd ⟨q,hq,h1,_⟩=>by have:=hg q hq;lia
  have ih:=qhi l (mx b (t.2+1)) hS';have hm:=qgl b (t.2+1);rw[Jv];generalize hb1:mx b (t.2+1)=b1 at *;have hle:=ih.le
  have hb:b<=b1/\t.2+1<=b1/\(b1=b\/b1=t.2+1):=by
   rcases fJ b (t.2+1) with q|q
   ·have:=hm.1 q;omega
   ·have:=hm.2 q;omega
  generalize (Jv b1 l).1=F at *;generalize (Jv b1 l).2=b' at *;dsimp only
  by_cases hc:b < t.1
  ·rw[if_pos hc];refine{{λx hx=>?_,?_},λx hx=>?_,λx hx=>?_,by lia,λd h1 h2=>?_,λd h1=>?_}
   ·rcases aF.mp hx with rfl|hx
    ·dsimp only;lia
    ·exact ih.apart.ok x hx
   ·refine bG.mpr ⟨λx hx=>?_,ih.apart.ap⟩
    have:=ih.lo x hx
    dsimp only
    lia
   ·rcases aF.mp hx with rfl|hx
    ·dsimp only;lia
    ·have:=ih.lo x hx;lia
   ·rcases aF.mp hx with rfl|hx
    ·dsimp only;omega
    ·exact ih.hi x hx
   ·show Day ((b,t.1 - 1)::F) d↔_;rw[qB,qB]
    by_cases q:d < b1
    ·have n1:¬ Day F d:=λ⟨x,hx,h3,_⟩=>by have:=ih.lo x hx;lia
     have n2:¬ Day l d:=λz=>by have:=hlow d z;omega
     dsimp only;constructor
     ·rintro (z|z)
      ·rintro (y|y)
       ·lia
       ·exact n2 y
      ·exact absurd z n1
     ·intro z;left;refine{h1,?_}
      by_cases y:t.1<=d
      ·exact absurd (.inl ⟨y,by lia⟩) z
      ·lia
    ·have:=ih.day d (1:) h2
     rw[this];dsimp only;constructor
     ·rintro (z|z)
      ·omega
      ·rintro (y|y)
       ·omega
       ·exact z y
     ·intro z;exact .inr λy=>z (.inr y)
   ·rw[qB];rintro (z|z)
    ·lia
    ·exact ih.end_ d h1 z
  ·rw[if_neg hc,bf];refine{ih.apart,λx hx=>by have:=ih.lo x hx;lia,ih.hi,by lia,λd h1 h2=>?_,λd h1=>?_}
   ·rw[qB]
    by_cases q:d < b1
    ·have n1:¬ Day F d:=λ⟨x,hx,h3,_⟩=>by have:=ih.lo x hx;lia
     constructor
     ·intro z;exact absurd z n1
     ·intro z;exact absurd (.inl ⟨by lia,by lia⟩) z
    ·rw[ih.day d (1:) h2];constructor
     ·intro z;rintro (y|y)
      ·omega
      ·exact z y
     ·intro z y;exact z (.inr y)
   ·rw[qB];rintro (z|z)
    ·lia
    ·exact ih.end_ d h1 z
def qcz{l:List Pr}(h:Spr l)(f t:Int):Apart (qM l f t)/\(∀x∈qM l f t,f<=x.1)/\∀d,f<=d->d<=t->(Day (qM l f t) d↔¬ Day l d):=by
 have o:=qhi l f h;have hle:=o.le;unfold qM;generalize (Jv f l).1=F at *;generalize (Jv f l).2=b at *
 by_cases hc:b<=t
 ·rw[if_pos hc];refine{{λx hx=>?_,?_},λx hx=>?_,λd h1 h2=>?_}
  ·rcases aW.mp hx with q|q
   ·exact o.apart.ok x q
   ·rw[bo.mp q];exact hc
  ·refine bQ.mpr ⟨o.apart.ap,by simp,λx hx y hy=>?_⟩;rw[bo.mp hy];exact o.hi x hx
  ·rcases aW.mp hx with q|q
   ·exact o.lo x q
   ·rw[bo.mp q];exact hle
  ·rw[jU,QD]
   by_cases q:d < b
   ·rw[<-o.day d h1 q];dsimp only;constructor
    ·rintro (z|z)
     ·exact z
     ·lia
    ·exact .inl
   ·have n:=o.end_ d (1:);constructor
    ·intro _;exact n
    ·intro _;exact .inr ⟨by dsimp only;lia,h2⟩
 ·rw[if_neg hc,dD];exact{o.apart,o.lo,λd h1 h2=>o.day d h1 (1:)}
theorem qmw(p:Pr)(hp:p.1<=p.2):∀(n:Nat) (B:List Pr),B.length < n->Apart B->Apart (jc n [p] B)/\(∀x∈jc n [p] B,p.1<=x.1/\x.2<=p.2/\∃q∈B,q.1<=x.1/\x.2<=q.2)/\∀d,Day (jc n [p] B) d↔(p.1<=d/\d<=p.2)/\Day B d
 |0,B,h,_=>by lia
 | n+1,[],_,_=>{{λ_ h=>(by cases h),List.Pairwise.nil},λ_ h=>(by cases h),λd=>{λz=>absurd z zD,λz=>absurd z.2 zD}}
 | n+1,q::B,h,hA=>by
  rw[aQ]at h;have hq:=hA.ok q (5:);have hg:=(bG.mp hA.ap);have hlow:∀d,Day B d->q.2 < d:=λd ⟨x,hx,h1,_⟩=>by have:=hg.1 x hx;lia
  have m1:=qgl p.1 q.1;have m2:=Z6 p.2 q.2;rw[jc]
  have hm1:p.1<=mx p.1 q.1/\q.1<=mx p.1 q.1/\(mx p.1 q.1=p.1\/mx p.1 q.1=q.1):=by
   rcases fJ p.1 q.1 with z|z
   ·have:=m1.1 z;omega
   ·have:=m1.2 z;lia
  have hm2:mn p.2 q.2<=p.2/\mn p.2 q.2<=q.2/\(mn p.2 q.2=p.2\/mn p.2 q.2=q.2):=by
   rcases fJ p.2 q.2 with z|z
   ·have:=m2.1 z;lia
   ·have:=m2.2 z;omega
  generalize mx p.1 q.1=a at *;generalize mn p.2 q.2=b at *
  obtain⟨R,hR,r1,r2,r3⟩:∃R,(if p.2 < q.2 then jc n [] (q::B) else jc n [p] B)=R/\Apart R/\(∀x∈R,p.1<=x.1/\x.2<=p.2/\(∃y∈q::B,y.1<=x.1/\x.2<=y.2)/\b+1 < x.1)/\∀d,Day R d↔(p.1<=d/\d<=p.2)/\Day B d:=by
   by_cases hd:p.2 < q.2
   ·rw[if_pos hd];have e:jc n [] (q::B)=[]:=by cases n<;>rfl
    rw[e];exact{[],rfl,{λ_ h=>(by cases h),List.Pairwise.nil},λ_ h=>(by cases h),λd=>{λz=>absurd z zD,λz=>by have:=hlow d z.2;lia}}
   ·rw[if_neg hd];obtain⟨i1,i2,i3⟩:=qmw p hp n B (1:) ⟨λx hx=>hA.ok x (by simp[hx]),hg.2⟩;refine{_,rfl,i1,λx hx=>?_,i3};obtain⟨j1,j2,y,hy,j3,j4⟩:=i2 x hx
    have:=hg.1 y hy
    exact{j1,j2,{y,by simp[hy],j3,j4},by lia}
  rw[hR]
  by_cases hc:a<=b
  ·rw[if_pos hc];refine{{λx hx=>?_,?_},λx hx=>?_,λd=>?_}
   ·rcases aF.mp hx with rfl|hx
    ·exact hc
    ·exact r1.ok x hx
   ·exact bG.mpr ⟨λx hx=>(r2 x hx).2.2.2,r1.ap⟩
   ·rcases aF.mp hx with rfl|hx
    ·exact{by dsimp only;lia,by dsimp only;lia,q,by simp,by dsimp only;lia,by dsimp only;lia}
    ·exact{(r2 x hx).1,(r2 x hx).2.1,(r2 x hx).2.2.1}
   ·show Day ((a,b)::R) d↔_;rw[qB,qB,r3];dsimp only;constructor
    ·rintro (z|z)
     ·exact{by omega,.inl (by omega)}
     ·exact{z.1,.inr z.2}
    ·rintro⟨z,y|y⟩
     ·left;lia
     ·exact .inr ⟨z,y⟩
  ·rw[if_neg hc,bf];refine{r1,λx hx=>{(r2 x hx).1,(r2 x hx).2.1,(r2 x hx).2.2.1},λd=>?_};rw[qB,r3];constructor
   ·intro z;exact{z.1,.inr z.2}
   ·rintro⟨z,y|y⟩
    ·lia
    ·exact⟨z,y⟩
def qeh{l:List Pr}(h:Spr l)(hl:l.length < 900){p:Pr}(hp:p.1<=p.2):Apart (j7 p l)/\(∀x∈j7 p l,p.1<=x.1/\x.2<=p.2)/\∀d,Day (j7 p l) d↔(p.1<=d/\d<=p.2)/\¬ Day l d:=by
 obtain⟨o1,o2,o3⟩:=qcz h p.1 p.2;obtain⟨b1,b2,b3⟩:=qmw p hp 1000 (qM l p.1 p.2) (by have:=yo l p.1 p.2;lia) o1;refine{b1,λx hx=>{(b2 x hx).1,(b2 x hx).2.1},λd=>?_};unfold j7;rw[b3];constructor
 ·rintro⟨z,y⟩;exact{z,(o3 d z.1 z.2).mp y}
 ·rintro⟨z,y⟩;exact{z,(o3 d z.1 z.2).mpr y}
def inP(p:Pa)(d:Int):Prop:=p.1<=d/\d<=p.2.1
instance (p:Pa)(d:Int):Decidable (inP p d):=by unfold inP;infer_instance
def ind(p:Pa)(d:Int):Int:=if inP p d then p.2.2 else 0
def pf:List Pa->Int->Int
 |[],_=>0
 | p::l,d=>if inP p d then p.2.2 else pf l d
structure PcOk(L:List Pa):Prop where
 ok:∀p∈L,p.1<=p.2.1/\1<=p.2.2/\p.2.2<=9
 ap:L.Pairwise λp q=>p.2.1 < q.1
def PcOk.tail{p:Pa}{l:List Pa}(h:PcOk (p::l)):PcOk l:={λq hq=>h.ok q (by simp[hq]),(bG.mp h.ap).2}
def PcOk.w{L:List Pa}(h:PcOk L):WOk L:=λp hp=>(h.ok p hp).2
theorem zT{L:List Pa}{d:Int}(h:∀p∈L,¬ inP p d):pf L d=0:=by
 induction L with
 |nil=>rfl
 |cons p l ih=>rw[pf,if_neg (h p (5:))];exact ih λq hq=>h q (by simp[hq])
theorem qmx{a b:List Pa}{d:Int}:pf (a++b) d=if ∃p∈a,inP p d then pf a d else pf b d:=by
 induction a with
 |nil=>simp
 |cons p l ih=>
  rw[bN,pf]
  by_cases h:inP p d
  ·rw[if_pos h,if_pos ⟨p,by simp,h⟩,pf,if_pos h]
  ·rw[if_neg h,ih]
   by_cases g:∃q∈l,inP q d
   ·rw[if_pos g,if_pos (by obtain⟨q,hq,hh⟩:=g;exact{q,by simp[hq],hh}),pf,if_neg h]
   ·rw[if_neg g,if_neg];rintro⟨q,hq,hh⟩;rcases aF.mp hq with rfl|hq
    ·exact h hh
    ·exact g ⟨q,hq,hh⟩
theorem js{L:List Pa}(hL:PcOk L){p:Pa}(hp:p∈L){d:Int}(h:inP p d):pf L d=p.2.2:=by
 induction L with
 |nil=>cases hp
 |cons q l ih=>
  rw[pf];rcases aF.mp hp with rfl|hp
  ·rw[if_pos h]
  ·have:=(bG.mp hL.ap).1 p hp
   rw[if_neg (λz=>by unfold inP at *;lia)];exact ih hL.tail hp
def qoc{L:List Pa}(hL:PcOk L)(d:Int):0<=pf L d:=by
 by_cases h:∃p∈L,inP p d
 ·obtain⟨p,hp,hd⟩:=h;rw[js hL hp hd]
  have:=(hL.ok p hp).2.1
  lia
 ·rw[zT λp hp hd=>h ⟨p,hp,hd⟩];exact a9 _
def qgn{L:List Pa}{d:Int}(h:pf L d≠0):∃p∈L,inP p d:=by
 by_cases q:∃p∈L,inP p d
 ·exact q
 ·exact absurd (zT λp hp hd=>q ⟨p,hp,hd⟩) h
theorem qod{l:List (Str×Int)}(h:∀p∈l,LnOk p)(o:Option Str):wt l o<=9:=by
 induction l with
 |nil=>show(0:Int)<=9;decide
 |cons p l ih=>
  unfold wt;split
  ·exact(h p (5:)).nine
  ·exact ih λq hq=>h q (by simp[hq])
instance dayDec(F:List Pr)(d:Int):Decidable (Day F d):=decidable_of_iff _ jr
theorem qmy(w:Int)(F:List Pr)(d:Int):pf (F.map (QL w)) d=if Day F d then w else 0:=by
 induction F with
 |nil=>rw[if_neg zD];rfl
 |cons p l ih=>
  rw[av,pf,ih]
  by_cases h:p.1<=d/\d<=p.2
  ·rw[if_pos (show inP (QL w p) d from h),if_pos (qB.mpr (.inl h))];rfl
  ·rw[if_neg (show ¬ inP (QL w p) d from h)]
   by_cases g:Day l d
   ·rw[if_pos g,if_pos (qB.mpr (.inr g))]
   ·rw[if_neg g,if_neg (λz=>(qB.mp z).elim h g)]
def Chw:Int->List St->Prop
 |_,[]=>True
 | e,s::l=>(e < s.2.1/\s.2.1<=s.2.2)/\Chw s.2.2 l
theorem Ch.w:∀{l:List St} {e:Int},Ch e l->Chw e l
 |[],_,_=>trivial
 | _::_,_,h=>{⟨h.1.lo,h.1.ab⟩,Ch.w h.2}
theorem Ym{r:Ru}(hr:∀p∈r.lands,LnOk p){lf:List Pr}(hS:Spr lf)(hl:lf.length < 900):∀(st:List St) (e:Int),Chw e st->PcOk (qJ r lf st)/\(∀p∈qJ r lf st,e < p.1)/\∀d,pf (qJ r lf st) d=wgt r lf st d
 |[],e,_=>{{λ_ h=>(by cases h),List.Pairwise.nil},λ_ h=>(by cases h),λd=>(qec rfl).symm}
 | s::st,e,hc=>by
  obtain⟨i1,i2,i3⟩:=Ym hr hS hl st s.2.2 hc.2;have h1:=hc.1.1;have h2:=hc.1.2;obtain⟨l1,l2,l3⟩:=qeh hS hl (p:=(s.2.1,s.2.2)) h2;have w9:=qod hr (some s.1)
  have one:PcOk (qI r lf s)/\(∀p∈qI r lf s,s.2.1<=p.1/\p.2.1<=s.2.2)/\∀d,pf (qI r lf s) d=if (s.2.1<=d/\d<=s.2.2)/\¬ Day lf d then wt r.lands (some s.1) else 0:=by
   unfold qI
   by_cases hw:0 < wt r.lands (some s.1)
   ·rw[if_pos hw];refine{{λp hp=>?_,?_},λp hp=>?_,λd=>?_}
    ·obtain⟨x,hx,rfl⟩:=dU.mp hp;exact{l1.ok x hx,hw,w9}
    ·exact ie.mpr (l1.ap.imp λq=>by dsimp only[QL];lia)
    ·obtain⟨x,hx,rfl⟩:=dU.mp hp;exact l2 x hx
    ·rw[qmy]
     by_cases g:Day (j7 (s.2.1,s.2.2) lf) d
     ·rw[if_pos g,if_pos ((l3 d).mp g)]
     ·rw[if_neg g,if_neg (λz=>g ((l3 d).mpr z))]
   ·rw[if_neg hw];refine{{λ_ h=>(by cases h),List.Pairwise.nil},λ_ h=>(by cases h),λd=>?_}
    have:wt r.lands (some s.1)=0:=by have:=qmp hr (some s.1);lia
    rw[this];simp[pf]
  obtain⟨o1,o2,o3⟩:=one;rw[qJ];refine{{λp hp=>?_,?_},λp hp=>?_,λd=>?_}
  ·rcases aW.mp hp with q|q
   ·exact o1.ok p q
   ·exact i1.ok p q
  ·refine bQ.mpr ⟨o1.ap,i1.ap,λx hx y hy=>?_⟩
   have:=(o2 x hx).2
   have:=i2 y hy
   lia
  ·rcases aW.mp hp with q|q
   ·have:=(o2 p q).1;lia
   ·have:=i2 p q;lia
  ·rw[qmx]
   by_cases hd:s.2.1<=d/\d<=s.2.2
   ·have n:pf (qJ r lf st) d=0:=zT λp hp z=>by have:=i2 p hp;unfold inP at z;lia
    have e1:(if ∃p∈qI r lf s,inP p d then pf (qI r lf s) d else pf (qJ r lf st) d)=pf (qI r lf s) d:=by
     split
     ·rfl
     ·rename_i g;rw[n,zT λp hp hz=>g ⟨p,hp,hz⟩]
    rw[e1,o3];unfold wgt zM;rw[if_pos hd]
    by_cases g:Day lf d
    ·rw[if_neg (λz=>z.2 g),if_pos (jr.mpr g)]
    ·rw[if_pos ⟨hd,g⟩,if_neg (λz=>g (jr.mp z))]
   ·rw[if_neg (λ⟨p,hp,z⟩=>by have:=o2 p hp;unfold inP at z;omega),i3];unfold wgt;rw[show zM (s::st) d=zM st d by conv=>lhs;unfold zM;rw[if_neg hd]]
def qgo(f t:Int)(p:Pa):Int:=if 0 < mn p.2.1 t - mx p.1 f+1 then (mn p.2.1 t - mx p.1 f+1) * p.2.2 else 0
def Yu(f t:Int):List Pa->Int
 |[]=>0
 | p::l=>qgo f t p+Yu f t l
theorem Yn(f t:Int):∀(l:List Pa) (a:Int),qhg f t l a=a+Yu f t l
 |[],a=>by simp[qhg,Yu]
 | p::l,a=>by
  rw[qhg,Yn f t l,Yu];unfold qgo
  split<;>lia
theorem qbJ(f t:Int):∀a b:List Pa,Yu f t (a++b)=Yu f t a+Yu f t b
 |[],b=>by simp[Yu]
 | p::a,b=>by rw[bN,Yu,Yu,qbJ f t a b];lia
theorem qbK(f t:Int):∀l:List Pa,Yu f t l.reverse=Yu f t l
 |[]=>rfl
 | p::l=>by rw[List.reverse_cons,qbJ,qbK f t l,Yu,Yu,Yu];lia
theorem qhj(p:Pa)(hp:p.1<=p.2.1)(f:Int):∀n:Nat,(ws (ind p) f n).sum=qgo f (f+n - 1) p
 |0=>by
  have m1:=qgl p.1 f;have m2:=Z6 p.2.1 (f+(0:Nat) - 1);unfold qgo;rw[if_neg]
  ·simp[ws]
  ·rcases fJ p.1 f with z|z<;>rcases fJ p.2.1 (f+(0:Nat) - 1) with y|y
   ·have:=m1.1 z;have:=m2.1 y;omega
   ·have:=m1.1 z;have:=m2.2 y;omega
   ·have:=m1.2 z;have:=m2.1 y;lia
   ·have:=m1.2 z;have:=m2.2 y;omega
 | n+1=>by
  rw[qaO,qhj p hp f n];have m1:=qgl p.1 f;have m2:=Z6 p.2.1 (f+(n:Int) - 1);have m3:=Z6 p.2.1 (f+((n+1:Nat):Int) - 1);have e:f+((n+1:Nat):Int) - 1=f+n:=by lia
  rw[e]at m3 ⊢;unfold qgo ind
  have hm1:p.1<=mx p.1 f/\f<=mx p.1 f/\(mx p.1 f=p.1\/mx p.1 f=f):=by
   rcases fJ p.1 f with z|z
   ·have:=m1.1 z;omega
   ·have:=m1.2 z;lia
  generalize mx p.1 f=a at *
  by_cases h1:f+(n:Int) < p.1
  ·rw[if_neg (c:=inP p (f+(n:Int))) (λz=>by unfold inP at z;lia)]
   have:=m2.2 (1:)
   have:=m3.2 (by omega)
   rw[if_neg (1:),if_neg (1:)];rfl
  ·by_cases h2:p.2.1 < f+(n:Int)
   ·rw[if_neg (c:=inP p (f+(n:Int))) (λz=>by unfold inP at z;lia)];have a1:=m2.1 (1:);have a2:=m3.1 (1:);rw[a1,a2]
    lia
   ·rw[if_pos (c:=inP p (f+(n:Int))) ⟨by lia,by lia⟩];have a1:=m2.2 (1:);have a2:=m3.2 (by omega);rw[a1,a2];have hpos:0 < f+(n:Int) - a+1:=by lia
    rw[if_pos hpos]
    by_cases h3:0 < f+(n:Int) - 1 - a+1
    ·rw[if_pos h3,show f+(n:Int) - a+1=(f+(n:Int) - 1 - a+1)+1 by lia];generalize f+(n:Int) - 1 - a+1=k;rw[Int.add_mul,gA]
    ·rw[if_neg h3,show f+(n:Int) - a+1=1 by lia,gA]
     lia
theorem qhk{f g h:Int->Int}:∀(n:Nat) (lo:Int),(∀x,f x=g x+h x)->(ws f lo n).sum=(ws g lo n).sum+(ws h lo n).sum
 |0,_,_=>by simp[ws]
 | n+1,lo,e=>by
  rw[ws,ws,ws,cm,cm,cm,qhk n (lo+1) e,e lo]
  lia
theorem qoe{L:List Pa}(hL:PcOk L)(f:Int)(n:Nat):(ws (pf L) f n).sum=Yu f (f+n - 1) L:=by
 induction L with
 |nil=>rw[Yu];exact Yd n f λx _ _=>rfl
 |cons p l ih=>
  have hp:=(hL.ok p (5:)).1;rw[Yu,<-qhj p hp,<-ih hL.tail];refine qhk n f λx=>?_;rw[pf];unfold ind
  by_cases h:inP p x
  ·rw[if_pos h,if_pos h,zT λq hq z=>by have:=(bG.mp hL.ap).1 q hq;unfold inP at *;lia]
   lia
  ·rw[if_neg h,if_neg h]
   lia
def chn(leave d:Int):List Pa->Int->Int
 |[],_=>0
 | p::R,f=>if p.1<=d then (if leave<=f - 1 - mn p.2.1 d then 0 else (mn p.2.1 d - p.1+1) * p.2.2+chn leave d R p.1) else chn leave d R f
structure RvOk(R:List Pa):Prop where
 ok:∀p∈R,p.1<=p.2.1
 ap:R.Pairwise λp q=>q.2.1 < p.1
def RvOk.of{L:List Pa}(h:PcOk L):RvOk L.reverse:={λp hp=>(h.ok p (-hp:)).1,gh.mpr h.ap}
def RvOk.tail{p:Pa}{R:List Pa}(h:RvOk (p::R)):RvOk R:={λq hq=>h.ok q (by simp[hq]),(bG.mp h.ap).2}
def qei(a b:Int):mn a b<=a/\mn a b<=b/\(mn a b=a\/mn a b=b):=by
 unfold mn
 split<;>lia
def qgp(a b:Int):a<=mx a b/\b<=mx a b/\(mx a b=a\/mx a b=b):=by
 unfold mx
 split<;>lia
theorem Z7{f t:Int}:∀{R:List Pa},(∀p∈R,p.2.1 < f)->Yu f t R=0
 |[],_=>rfl
 | p::R,h=>by rw[Yu,Z7 λq hq=>h q (by simp[hq])];have h0:=h p (5:);have h1:=qei p.2.1 t;have h2:=qgp p.1 f;unfold qgo;rw[if_neg (1:)];rfl
theorem qej{leave d:Int}(hl:1<=leave):∀(R:List Pa) (f:Int),RvOk R->(d < f\/∀p∈R,p.2.1 < f)->fsF leave d R f<=f/\Yu (fsF leave d R f) d R=chn leave d R f
 |[],f,_,_=>{a9 _,rfl}
 | p::R,f,hR,hf=>by
  have hp:=hR.ok p (5:);have hg:=(bG.mp hR.ap).1;have hm:=qei p.2.1 d;rw[fsF,chn,Yu]
  by_cases h1:p.1<=d
  ·rw[if_pos h1,if_pos h1]
   by_cases h2:leave<=f - 1 - mn p.2.1 d
   ·rw[if_pos h2,if_pos h2];refine{a9 _,?_};rw[Z7 λq hq=>by have:=hg q hq;lia]
    have:=qgp p.1 f
    unfold qgo;rw[if_neg (1:)];rfl
   ·rw[if_neg h2,if_neg h2];obtain⟨i1,i2⟩:=qej (d:=d) hl R p.1 hR.tail (.inr hg)
    have hlt:p.1<=f:=by
     rcases hf with q|q
     ·lia
     ·have:=q p (5:);lia
    refine{by lia,?_};rw[i2]
    have:=qgp p.1 (fsF leave d R p.1)
    have e:mx p.1 (fsF leave d R p.1)=p.1:=by lia
    unfold qgo;rw[e,if_pos (1:)]
  ·rw[if_neg h1,if_neg h1];obtain⟨i1,i2⟩:=qej hl R f hR.tail (hf.imp id λq x hx=>q x (by simp[hx]));refine{i1,?_};rw[i2]
   have:=qgp p.1 (fsF leave d R f)
   unfold qgo;rw[if_neg (1:)]
   lia
theorem QO{leave d:Int}:∀(B R:List Pa) (f:Int),(∀p∈B,d < p.1)->chn leave d (B++R) f=chn leave d R f
 |[],R,f,_=>rfl
 | p::B,R,f,h=>by have h0:=h p (5:);rw[bN,chn,if_neg (1:)];exact QO B R f λq hq=>h q (by simp[hq])
theorem QP{leave d d':Int}:∀(R:List Pa) (f:Int),(∀p∈R,p.1<=p.2.1/\p.2.1<=d/\p.2.1<=d')->chn leave d R f=chn leave d' R f
 |[],_,_=>rfl
 | p::R,f,h=>by have h0:=h p (5:);have e1:mn p.2.1 d=p.2.1:=(Z6 p.2.1 d).1 h0.2.1;have e2:mn p.2.1 d'=p.2.1:=(Z6 p.2.1 d').1 h0.2.2;rw[chn,chn,if_pos (c:=p.1<=d) (1:),if_pos (c:=p.1<=d') (1:),e1,e2,QP R p.1 λq hq=>h q (by simp[hq])]
def qek{r:Ru}(hk:r.kd.isW=true)(h1:1<=r.days){L:List Pa}(hL:PcOk L)(d:Int):qC r L d=(ws (pf L) (d - r.days+1) r.days.toNat).sum:=by
 unfold qC qjy;rw[if_pos hk,Yn,qoe hL,show d - r.days+1+(r.days.toNat:Int) - 1=d by lia]
 lia
def qel{r:Ru}(hk:r.kd.isW=false)(h1:1<=r.days){L:List Pa}(hL:PcOk L)(d:Int):qC r L d=chn r.days d L.reverse (d+1):=by
 unfold qC qjy;rw[if_neg (by rw[hk];decide),Yn,<-qbK,(qej h1 L.reverse (d+1) (RvOk.of hL) (.inl (1:))).2]
 lia
theorem qbL{d:Int}:∀{R:List Pa},RvOk R->∃B A,R=B++A/\(∀p∈B,d < p.1)/\∀p∈A,p.1<=d
 |[],_=>{[],[],rfl,λ_ h=>(by cases h),λ_ h=>(by cases h)}
 | p::R,h=>by
  by_cases hd:d < p.1
  ·obtain⟨B,A,e,h1,h2⟩:=qbL (d:=d) h.tail;refine{p::B,A,by rw[e];rfl,λq hq=>?_,h2};rcases aF.mp hq with rfl|hq
   ·exact hd
   ·exact h1 q hq
  ·refine{[],p::R,rfl,λ_ h=>(by cases h),λq hq=>?_};rcases aF.mp hq with rfl|hq
   ·lia
   ·have:=(bG.mp h.ap).1 q hq
    have:=h.ok q (by simp[hq])
    lia
def QQ(f:Int->Int)(n d:Int):Prop:=∀x,d - n < x->x<=d->f x=0
theorem qcA{leave:Int}(h1:1<=leave){L:List Pa}(hL:PcOk L)(d:Int) :
  (QQ (pf L) leave d->chn leave d L.reverse (d+1)=0)/\(¬ QQ (pf L) leave d->chn leave d L.reverse (d+1)=chn leave (d - 1) L.reverse d+pf L d):=by
 have hR:=RvOk.of hL;obtain⟨B,A,e,hB,hA⟩:=qbL (d:=d) hR;have mem:∀p,p∈L↔p∈B\/p∈A:=λp=>by rw[<-eQ,e,aW]
 rw[e,QO B A _ hB,QO B A _ (λp hp=>by have:=hB p hp;lia)]
 cases A with
 |nil=>
  refine{λ_=>rfl,λh=>absurd (λx _ hx=>?_) h}
  exact zT λp hp z=>by
   rcases (mem p).mp hp with q|q
   ·have:=hB p q;unfold inP at z;lia
   ·cases q
 |cons q A=>
  have hq:q∈L:=(mem q).mpr (.inr (5:));have hqo:=hL.ok q hq;have hq1:=hA q (5:)
  have hap:∀p∈A,p.2.1 < q.1:=by
   have:=hR.ap
   rw[e]at this;exact(bG.mp (bQ.mp this).2.1).1
  have hAo:∀p∈A,p.1<=p.2.1:=λp hp=>(hL.ok p ((mem p).mpr (.inr (by simp[hp])))).1;have hm:=Z6 q.2.1 d;have hm':=Z6 q.2.1 (d - 1)
  by_cases hd:d<=q.2.1
  ·have hpf:pf L d=q.2.2:=js hL hq ⟨hq1,hd⟩;refine{λh=>?_,λ_=>?_}
   ·have:=h d (1:) (a9 _)
    lia
   ·rw[hpf,chn,if_pos hq1,hm.2 hd,if_neg (1:)]
    by_cases hb:q.1<=d - 1
    ·rw[chn,if_pos hb,hm'.2 (1:),if_neg (1:),QP (d:=d) (d':=d - 1) A q.1 λp hp=>by have:=hap p hp;have:=hAo p hp;lia];rw[show d - q.1+1=(d - 1 - q.1+1)+1 by lia];generalize d - 1 - q.1+1=k;rw[Int.add_mul,gA]
     lia
    ·rw[chn,if_neg hb,QP (d:=d) (d':=d - 1) A q.1 λp hp=>by have:=hap p hp;have:=hAo p hp;lia];rw[show q.1=d by lia,show d - d+1=1 by lia,gA]
     lia
  ·have hz:∀x,q.2.1 < x->x<=d->pf L x=0:=λx h2 h3=>zT λp hp z=>by
    rcases (mem p).mp hp with y|y
    ·have:=hB p y;unfold inP at z;lia
    ·rcases aF.mp y with rfl|y
     ·unfold inP at z;lia
     ·have:=hap p y;unfold inP at z;lia
   have hpf:pf L q.2.1=q.2.2:=js hL hq ⟨hqo.1,a9 _⟩;rw[chn,if_pos hq1,hm.1 (1:),chn,if_pos (c:=q.1<=d - 1) (1:),hm'.1 (1:),hz d (1:) (a9 _)];refine{λh=>?_,λh=>?_}
   ·rw[if_pos]
    by_cases y:leave<=d+1 - 1 - q.2.1
    ·exact y
    ·have:=h q.2.1 (1:) (1:)
     lia
   ·have y:¬ leave<=d+1 - 1 - q.2.1:=λy=>h λx h2 h3=>hz x (1:) h3;rw[if_neg y,if_neg (1:),QP (d:=d) (d':=d - 1) A q.1 λp hp=>by have:=hap p hp;have:=hAo p hp;lia]
    lia
structure Cnt(w:Bool)(n:Int)(f C:Int->Int):Prop where
 nn:∀d,0<=f d
 low:∃b,∀d,d < b->C d=0/\f d=0
 win:w=true->∀d,C d=(ws f (d - n+1) n.toNat).sum
 idle:w=false->∀d,QQ f n d->C d=0
 busy:w=false->∀d,¬ QQ f n d->C d=C (d - 1)+f d
theorem qmz{L:List Pa}(hL:PcOk L):∃b,∀d,d < b->pf L d=0:=by
 induction L with
 |nil=>exact{0,λ_ _=>rfl}
 |cons p l _=>
  refine{p.1,λd hd=>zT λq hq z=>?_};have h0:=(hL.ok p (5:)).1;rcases aF.mp hq with rfl|hq
  ·unfold inP at z;lia
  ·have:=(bG.mp hL.ap).1 q hq
   unfold inP at z;lia
theorem Yo{r:Ru}(h1:1<=r.days){L:List Pa}(hL:PcOk L):Cnt r.kd.isW r.days (pf L) (qC r L):=by
 obtain⟨b,hb⟩:=qmz hL
 have sn:r.kd.isW=false->∀d,(QQ (pf L) r.days d->qC r L d=0)/\(¬ QQ (pf L) r.days d->qC r L d=qC r L (d - 1)+pf L d):=λhk d=>by rw[qel hk h1 hL,qel hk h1 hL,show d - 1+1=d by lia];exact qcA h1 hL d
 refine{qoc hL,{b,λd hd=>{?_,hb d hd}},λhk=>qek hk h1 hL,λhk d=>(sn hk d).1,λhk d=>(sn hk d).2}
 cases hk:r.kd.isW with
 |true=>rw[qek hk h1 hL];exact Yd _ _ λx h2 h3=>hb x (1:)
 |false=>exact(sn hk d).1 λx _ hx=>hb x (1:)
namespace Cnt
variable{w:Bool}{n:Int}{f C:Int->Int}
def step(h:Cnt w n f C)(hw:w=true)(hn:1<=n)(d:Int):C d=C (d - 1)+f d - f (d - n):=by
 rw[h.win hw d,h.win hw (d - 1)];obtain⟨m,rfl⟩:∃m:Nat,n=((m+1:Nat):Int):={(n - 1).toNat,by omega};rw[dF,qaO,show d - 1 - ((m+1:Nat):Int)+1=d - ((m+1:Nat):Int) by lia,ws,cm,show d - ((m+1:Nat):Int)+1+(m:Int)=d by lia]
 lia
theorem pos(h:Cnt w n f C)(d:Int):0<=C d:=by
 cases hw:w with
 |true=>rw[h.win hw];exact qmr h.nn _ _
 |false=>
  obtain⟨b,hb⟩:=h.low
  have:∀m:Nat,∀d,d < b+m->0<=C d:=by
   intro m
   induction m with
   |zero=>intro d hd;rw[(hb d (1:)).1];exact a9 _
   |succ m ih=>
    intro d hd
    by_cases hi:QQ f n d
    ·rw[h.idle hw d hi];exact a9 _
    ·rw[h.busy hw d hi]
     have:=ih (d - 1) (1:)
     have:=h.nn d
     omega
  exact this (d - b+1).toNat d (1:)
theorem grow(h:Cnt w n f C)(hn:1<=n)(d:Int):C d<=C (d - 1)+f d:=by
 cases hw:w with
 |true=>rw[h.step hw hn d];have:=h.nn (d - n);lia
 |false=>
  by_cases hi:QQ f n d
  ·rw[h.idle hw d hi]
   have:=h.pos (d - 1)
   have:=h.nn d
   omega
  ·rw[h.busy hw d hi];exact a9 _
def busy'(h:Cnt w n f C)(hw:w=false)(hn:1<=n){d:Int}(hd:f d≠0):C d=C (d - 1)+f d:=
 h.busy hw d λz=>hd (z d (1:) (a9 _))
def keeps(h:Cnt w n f C)(hn:1<=n){m a b:Int}(ha:C a<=m)(hz:∀x,a < x->x < b->f x=0):∀x,a<=x->x < b->C x<=m:=by
 have:∀k:Nat,∀x,a<=x->x < b->x < a+k+1->C x<=m:=by
  intro k
  induction k with
  |zero=>intro x h1 h2 h3;rw[show x=a by lia];exact ha
  |succ k ih=>
   intro x h1 h2 h3
   by_cases y:x=a
   ·rw[y];exact ha
   ·have:=h.grow hn x
    rw[hz x (1:) h2]at this
    have:=ih (x - 1) (1:) (1:) (1:)
    lia
 exactλx h1 h2=>this (x - a).toNat x h1 h2 (1:)
end Cnt
theorem qem{f g:Int->Int}(h:∀x,f x<=g x):∀(n:Nat) (lo:Int),(ws f lo n).sum<=(ws g lo n).sum
 |0,_=>by simp[ws]
 | n+1,lo=>by
  have:=qem h n (lo+1)
  have:=h lo
  rw[ws,ws,cm,cm]
  lia
theorem qen{f:Int->Int}(h:∀x,0<=f x)(k:Nat):∀(m:Nat) (lo:Int),(ws f (lo+m) k).sum<=(ws f lo (m+k)).sum
 |0,lo=>by rw[eA,show lo+((0:Nat):Int)=lo by lia];exact a9 _
 | m+1,lo=>by
  have i:=qen h k m (lo+1)
  have:=h lo
  rw[show m+1+k=(m+k)+1 by lia,ws,cm];rw[show lo+((m+1:Nat):Int)=lo+1+(m:Int) by lia];omega
theorem Cnt.mono{w:Bool}{n n':Int}{f f' C C':Int->Int}(h:Cnt w n f C)(h':Cnt w n' f' C')(h1:1<=n')(h2:n'<=n)(hf:∀x,f' x<=f x)(d:Int):C' d<=C d:=by
 cases hw:w with
 |true=>rw[h.win hw,h'.win hw];have a:=qen h.nn n'.toNat (n - n').toNat (d - n+1);rw[show(n - n').toNat+n'.toNat=n.toNat by lia,show d - n+1+((n - n').toNat:Int)=d - n'+1 by lia]at a;have b:=qem hf n'.toNat (d - n'+1);omega
 |false=>
  obtain⟨b,hb⟩:=h'.low
  have:∀m:Nat,∀d,d < b+m->C' d<=C d:=by
   intro m
   induction m with
   |zero=>intro d hd;rw[(hb d (1:)).1];exact h.pos d
   |succ m ih=>
    intro d hd
    by_cases hi:QQ f' n' d
    ·rw[h'.idle hw d hi];exact h.pos d
    ·have hi':¬ QQ f n d:=λz=>hi λx h3 h4=>by
      have:=z x (1:) h4
      have:=hf x
      have:=h'.nn x
      lia
     rw[h'.busy hw d hi,h.busy hw d hi']
     have:=ih (d - 1) (1:)
     have:=hf d
     lia
  exact this (d - b+1).toNat d (1:)
def cb(st:List St)(x:Rl)(d:Int):Int:=qC x.1 (Jl st x) d
structure Rlw(x:Rl):Prop where
 ln:∀p∈x.1.lands,LnOk p
 days:1<=x.1.days
 most:0<=x.1.most
 spr:Spr x.2
 len:x.2.length<=20
section
variable{st:List St}{x:Rl}(h:Rlw x){e:Int}(hc:Chw e st)
include h hc
theorem qbM:PcOk (Jl st x):=(Ym h.ln h.spr (by have:=h.len;lia) st e hc).1
theorem qmA:pf (Jl st x)=wgt x.1 x.2 st:=funext (Ym h.ln h.spr (by have:=h.len;lia) st e hc).2.2
theorem qof:Cnt x.1.kd.isW x.1.days (wgt x.1 x.2 st) (cb st x):=by rw[<-qmA h hc];exact Yo h.days (qbM h hc)
end
structure WF(f:Int->Int)(n d a:Int):Prop where
 le:a<=d
 ne:f a≠0
 ahead:QQ f n (a - 1)
 busy:∀x,a<=x->x<=d->¬ QQ f n x
def Cnt.eq{w:Bool}{n:Int}{f C C':Int->Int}(h:Cnt w n f C)(h':Cnt w n f C')(hn:1<=n)(d:Int):C' d=C d:=by
 have a:=Cnt.mono h h' hn (a9 _) (λ_=>a9 _) d;have b:=Cnt.mono h' h hn (a9 _) (λ_=>a9 _) d
 lia
theorem qbN{f:Int->Int}:∀(m k:Nat) (lo:Int),(ws f lo (m+k)).sum=(ws f lo m).sum+(ws f (lo+m) k).sum
 |0,k,lo=>by simp[ws]
 | m+1,k,lo=>by
  rw[show m+1+k=(m+k)+1 by lia,ws,ws,cm,cm,qbN m k (lo+1),show lo+1+(m:Int)=lo+((m+1:Nat):Int) by lia]
  lia
def Edg(w:Bool)(n:Int)(f:Int->Int)(e:Int):Prop:=f e≠f (e - 1)\/(w=true/\f (e - n)≠f (e - n - 1))\/(w=false/\f (e - n)≠0/\f (e - n+1)=0)
namespace Cnt
variable{w:Bool}{n:Int}{f C:Int->Int}
theorem lin(h:Cnt w n f C)(hn:1<=n){d:Int}(e1:¬ Edg w n f d)(e2:¬ Edg w n f (d+1)):C (d+1) - C d=C d - C (d - 1):=by
 unfold Edg at e1 e2
 have ff:f (d+1)=f d:=by
  have:¬ f (d+1)≠f (d+1 - 1):=λz=>e2 (.inl z)
  rw[show d+1 - 1=d by lia]at this;exact Decidable.not_not.mp this
 cases hw:w with
 |true=>
  have s1:=h.step hw hn d;have s2:=h.step hw hn (d+1)
  have fn:f (d+1 - n)=f (d - n):=by
   have:¬ f (d+1 - n)≠f (d+1 - n - 1):=λz=>e2 (.inr (.inl ⟨hw,z⟩))
   rw[show d+1 - n - 1=d - n by lia]at this;exact Decidable.not_not.mp this
  rw[show d+1 - 1=d by lia]at s2
  lia
 |false=>
  have q1:f (d - n)≠0->f (d - n+1)≠0:=λa b=>e1 (.inr (.inr ⟨hw,a,b⟩));have q2:f (d+1 - n)≠0->f (d+1 - n+1)≠0:=λa b=>e2 (.inr (.inr ⟨hw,a,b⟩))
  by_cases fd:f d=0
  ·by_cases hi:QQ f n d
   ·have c0:=h.idle hw d hi
    have i1:QQ f n (d+1):=λx h1 h2=>by
     by_cases hx:x<=d
     ·exact hi x (1:) hx
     ·rw[show x=d+1 by lia,ff,fd]
    have z:f (d - n)=0:=gB λz=>q1 z (hi _ (1:) (1:))
    have i2:QQ f n (d - 1):=λx h1 h2=>by
     by_cases hx:x=d - n
     ·rw[hx,z]
     ·exact hi x (1:) (1:)
    rw[c0,h.idle hw _ i1,h.idle hw _ i2]
   ·have b1:=h.busy hw d hi
    have i1:¬ QQ f n (d+1):=λi1=>hi λx h1 h2=>by
     by_cases hx:x=d+1 - n
     ·subst hx;exact gB λz=>q2 z (i1 _ (1:) (1:))
     ·exact i1 x (1:) (1:)
    have b2:=h.busy hw _ i1;rw[show d+1 - 1=d by lia]at b2
    lia
  ·have b1:=h.busy' hw hn fd;have b2:=h.busy' hw hn (d:=d+1) (by rw[ff];exact fd);rw[show d+1 - 1=d by lia]at b2
   lia
theorem small(h:Cnt w n f C)(hn:1<=n)(h9:∀x,f x<=9){d:Int}(e1:¬ Edg w n f d):-9<=C d - C (d - 1)/\C d - C (d - 1)<=9:=by
 have n0:=h.nn d;have n9:=h9 d;unfold Edg at e1
 cases hw:w with
 |true=>
  have s1:=h.step hw hn d
  have:=h.nn (d - n)
  have:=h9 (d - n)
  omega
 |false=>
  have q1:f (d - n)≠0->f (d - n+1)≠0:=λa b=>e1 (.inr (.inr ⟨hw,a,b⟩))
  by_cases hi:QQ f n d
  ·have c0:=h.idle hw d hi;have z:f (d - n)=0:=gB λz=>q1 z (hi _ (1:) (1:))
   have i2:QQ f n (d - 1):=λx h1 h2=>by
    by_cases hx:x=d - n
    ·rw[hx,z]
    ·exact hi x (1:) (1:)
   rw[c0,h.idle hw _ i2]
   lia
  ·have b1:=h.busy hw d hi;omega
theorem seg(h:Cnt w n f C)(hn:1<=n){b e:Int}(hb:∀x,b < x->x<=e->¬ Edg w n f x):∀k:Nat,b+(k+1:Nat)<=e->C (b+(k+1:Nat)) - C (b+k)=C (b+1) - C b
 |0,_=>by simp
 | k+1,hk=>by have ih:=seg h hn hb k (1:);have l:=h.lin hn (d:=b+(k+1:Nat)) (hb _ (1:) (1:)) (hb _ (1:) (1:));rw[show b+((k+1:Nat):Int) - 1=b+(k:Nat) by lia,ih]at l;rw[show b+((k+1+1:Nat):Int)=b+((k+1:Nat):Int)+1 by lia];exact l
theorem zero_lo(h:Cnt w n f C){b:Int}(hz:∀x,x<=b->f x=0)(hn:1<=n):C b=0:=by
 cases hw:w with
 |true=>rw[h.win hw];exact Yd _ _ λx h1 h2=>hz x (1:)
 |false=>exact h.idle hw b λx h1 h2=>hz x h2
theorem zero_hi(h:Cnt w n f C){b:Int}(hz:∀x,b - n < x->x<=b->f x=0)(hn:1<=n):C b=0:=by
 cases hw:w with
 |true=>rw[h.win hw];exact Yd _ _ λx h1 h2=>hz x (1:) (1:)
 |false=>exact h.idle hw b λx h1 h2=>hz x h1 h2
end Cnt
def tuF(w:Bool)(n:Int)(L:List Pa):List Int:=if w=true then L.flatMap λp=>[p.1+n,p.2.1+1+n] else []
def edF(w:Bool)(n:Int)(L:List Pa):List Int:=tuF w n L++L.flatMap λp=>[p.1,p.2.1+1]++(if w=true then [] else [p.2.1+n])
def Z8{w:Bool}{n:Int}{L:List Pa}{p:Pa}(hp:p∈L):p.1∈edF w n L/\p.2.1+1∈edF w n L/\(w=true->p.1+n∈edF w n L/\p.2.1+1+n∈edF w n L)/\(w=false->p.2.1+n∈edF w n L):=by
 unfold edF tuF;refine{?_,?_,λhw=>{?_,?_},λhw=>?_}
 ·exact aX _ (gC.mpr ⟨p,hp,by simp⟩)
 ·exact aX _ (gC.mpr ⟨p,hp,by simp⟩)
 ·exact bC _ (by rw[if_pos hw];exact gC.mpr ⟨p,hp,by simp⟩)
 ·exact bC _ (by rw[if_pos hw];exact gC.mpr ⟨p,hp,by simp⟩)
 ·exact aX _ (gC.mpr ⟨p,hp,by simp[hw]⟩)
def qeo{L:List Pa}(hL:PcOk L){x:Int}(h:pf L x≠pf L (x - 1)):∃p∈L,x=p.1\/x=p.2.1+1:=by
 by_cases h0:pf L (x - 1)=0
 ·obtain⟨p,hp,hi⟩:=qgn (L:=L) (d:=x) (by rw[h0]at h;exact h);refine{p,hp,.inl ?_}
  have:¬ inP p (x - 1):=λz=>by have e1:=js hL hp hi;have e2:=js hL hp z;rw[e1,e2]at h;exact h rfl
  unfold inP at hi this
  lia
 ·obtain⟨p,hp,hi⟩:=qgn h0;refine{p,hp,.inr ?_}
  have:¬ inP p x:=λz=>by have e1:=js hL hp hi;have e2:=js hL hp z;rw[e1,e2]at h;exact h rfl
  unfold inP at hi this
  lia
def qbO{w:Bool}{n:Int}{L:List Pa}(hL:PcOk L){x:Int}(h:Edg w n (pf L) x):x∈edF w n L:=by
 rcases h with h|⟨hw,h⟩|⟨hw,h1,h2⟩
 ·obtain⟨p,hp,rfl|rfl⟩:=qeo hL h
  ·exact(Z8 hp).1
  ·exact(Z8 hp).2.1
 ·obtain⟨p,hp,e|e⟩:=qeo hL h
  ·rw[show x=p.1+n by lia];exact((Z8 hp).2.2.1 hw).1
  ·rw[show x=p.2.1+1+n by lia];exact((Z8 hp).2.2.1 hw).2
 ·obtain⟨p,hp,hi⟩:=qgn h1
  have:¬ inP p (x - n+1):=λz=>by
   have e:=js hL hp z
   have:=(hL.ok p hp).2
   rw[h2]at e
   lia
  unfold inP at hi this;rw[show x=p.2.1+n by lia];exact(Z8 hp).2.2.2 hw
def qhl{w:Bool}{n:Int}{L:List Pa}(hL:PcOk L){C:Int->Int}(h:Cnt w n (pf L) C)(hn:1<=n){d:Int}(hd:∀e∈edF w n L,d < e):C d=0:=
 h.zero_lo (λx hx=>zT λp hp hi=>by
  have:=hd _ (Z8 hp).1
  unfold inP at hi
  lia) hn
def qhm{w:Bool}{n:Int}{L:List Pa}(hL:PcOk L){C:Int->Int}(h:Cnt w n (pf L) C)(hn:1<=n){d:Int}(hd:∀e∈edF w n L,e<=d):C d=0:=
 h.zero_hi (λx h1 h2=>zT λp hp hi=>by
  unfold inP at hi
  cases hw:w with
  |true=>
   have:=hd _ ((Z8 hp).2.2.1 hw).2
   lia
  |false=>
   have:=hd _ ((Z8 hp).2.2.2 hw)
   lia) hn
def ulF(a g b e:Int):List Pr:=if g=0 then (if a=0 then [] else [(b,e)]) else if a.fmod g≠0 then [(b,e)] else j7 (b,e) [(b - a.fdiv g,b - a.fdiv g)]
def qog{D:Int->Int}{a g b e:Int}(hb:b<=e)(hD:∀d,b<=d->d<=e->D d=a+(d - b) * g):(∀p∈ulF a g b e,p.1<=p.2)/\∀d,Day (ulF a g b e) d↔(b<=d/\d<=e)/\D d≠0:=by
 have one:∀d,Day [(b,e)] d↔b<=d/\d<=e:=λd=>by rw[qB];exact{λz=>z.elim id λz=>absurd z zD,.inl}
 have all:(∀d,b<=d->d<=e->D d≠0)->(∀p∈[(b,e)],p.1<=p.2)/\∀d,Day [(b,e)] d↔(b<=d/\d<=e)/\D d≠0:=λz=>{λp hp=>by rw[bo.mp hp];exact hb,λd=>by rw[one];exact{λy=>{y,z d y.1 y.2},λy=>y.1}}
 unfold ulF
 by_cases g0:g=0
 ·rw[if_pos g0]
  by_cases a0:a=0
  ·rw[if_pos a0];refine{λp hp=>(by cases hp),λd=>{λz=>absurd z zD,λz=>absurd (show D d=0 from ?_) z.2}};rw[hD d z.1.1 z.1.2,g0,a0];simp
  ·rw[if_neg a0];refine all λd h1 h2=>?_;rw[hD d h1 h2,g0]
   simpa using a0
 ·rw[if_neg g0]
  by_cases m0:a.fmod g=0
  ·rw[if_neg (not_not_intro m0)]
   have ea:a=g * a.fdiv g:=by
    have:=Int.mul_fdiv_add_fmod a g
    rw[m0,iu]at this;exact this.symm
   generalize a.fdiv g=q at ea;have S:Spr [(b - q,b - q)]:={λp hp=>by rw[bo.mp hp];exact a9 _,List.pairwise_singleton _ _};obtain⟨h1,h2,h3⟩:=qeh S (5:) (p:=(b,e)) hb;refine{λp hp=>(h1.ok p hp),λd=>?_};rw[h3 d]
   have od:Day [(b - q,b - q)] d↔d=b - q:=by rw[qB];exact{λz=>z.elim (λz=>by dsimp only at z;lia) λz=>absurd z zD,λz=>.inl (by dsimp only;lia)}
   rw[od];dsimp only;constructor
   ·rintro⟨⟨x1,x2⟩,x3⟩;refine{⟨x1,x2⟩,λz=>x3 ?_};rw[hD d x1 x2,ea]at z
    have:g * (q+(d - b))=0:=by rw[Int.mul_add,Int.mul_comm g (d - b)];exact z
    rcases Int.mul_eq_zero.mp this with y|y
    ·exact absurd y g0
    ·lia
   ·rintro⟨⟨x1,x2⟩,x3⟩;refine{⟨x1,x2⟩,λz=>x3 ?_};rw[hD d x1 x2,ea,z];rw[show b - q - b = -q by lia,Int.neg_mul,Int.mul_comm g q]
    lia
  ·rw[if_pos m0];refine all λd h1 h2 z=>m0 ?_;rw[hD d h1 h2]at z
   have:a = -(d - b) * g:=by rw[Int.neg_mul];lia
   rw[this];exact Int.mul_fmod_left ..
def chF(D:Int->Int):List Int->List Pr
 | b::e::l=>ulF (D b) (D (mn (b+1) (e - 1)) - D b) b (e - 1)++chF D (e::l)
 |_=>[]
theorem jU{a b:List Pr}{d:Int}:Day (a++b) d↔Day a d\/Day b d:=by
 induction a with
 |nil=>exact{.inr,λz=>z.elim (λz=>absurd z zD) id}
 |cons p a ih=>rw[bN,qB,qB,ih,or_assoc]
theorem qhn{D:Int->Int}{P:Int->Prop}(hs:∀b e,P b->b < e->(∀x,b < x->x < e->¬ P x)->∀d,b<=d->d < e->D d=D b+(d - b) * (D (mn (b+1) (e - 1)) - D b)):∀(l:List Int),l.Pairwise (· < ·)->(∀x∈l,P x)->(∀x,P x->(∃y∈l,y<=x)->x∈l)->
  (∀p∈chF D l,p.1<=p.2)/\∀d,Day (chF D l) d↔((∃x∈l,x<=d)/\∃y∈l,d < y)/\D d≠0
 |[],_,_,_=>{λp hp=>(by cases hp),λd=>{λz=>absurd z zD,λz=>by obtain⟨⟨⟨x,hx,_⟩,_⟩,_⟩:=z;cases hx}}
 |[b],_,_,_=>{λp hp=>(by cases hp),λd=>{λz=>absurd z zD,λz=>by
  obtain⟨⟨⟨x,hx,h1⟩,y,hy,h2⟩,_⟩:=z;rw[bo.mp hx]at h1;rw[bo.mp hy]at h2
  lia}}
 | b::e::l,hp,hP,hA=>by
  rw[bG]at hp;have be:b < e:=hp.1 e (5:)
  have nx:∀x,b < x->x < e->¬ P x:=λx h1 h2 px=>by
   have:=hA x px ⟨b,by simp,by lia⟩
   rcases aF.mp this with z|z
   ·lia
   ·rcases aF.mp z with z|z
    ·lia
    ·have:=(bG.mp hp.2).1 x z
     lia
  obtain⟨i1,i2⟩:=qhn hs (e::l) hp.2 (λx hx=>hP x (by simp[hx])) λx px hy=>by
   obtain⟨y,hy,hyx⟩:=hy
   have:=hA x px ⟨y,by simp[hy],hyx⟩
   rcases aF.mp this with z|z
   ·subst z
    have:e<=y:=by
     rcases aF.mp hy with w|w
     ·lia
     ·have:=(bG.mp hp.2).1 y w
      lia
    lia
   ·exact z
  obtain⟨u1,u2⟩:=qog (D:=D) (a:=D b) (g:=D (mn (b+1) (e - 1)) - D b) (b:=b) (e:=e - 1) (1:) λd h1 h2=>hs b e (hP b (5:)) be nx d h1 (1:);rw[chF];refine{λp hp=>(aW.mp hp).elim (u1 p) (i1 p),λd=>?_};rw[jU,u2,i2];constructor
  ·rintro (⟨⟨x1,x2⟩,x3⟩|⟨⟨⟨x,hx,x1⟩,y,hy,x2⟩,x3⟩)
   ·exact{{{b,by simp,x1},e,by simp,by lia},x3}
   ·exact{{{x,bI _ hx,x1},y,bI _ hy,x2},x3}
  ·rintro⟨⟨⟨x,hx,x1⟩,y,hy,x2⟩,x3⟩
   by_cases hd:d < e
   ·refine .inl ⟨⟨?_,by lia⟩,x3⟩;rcases aF.mp hx with z|z
    ·lia
    ·have:=hp.1 x z
     lia
   ·refine .inr ⟨⟨⟨e,by simp,by lia⟩,y,?_,x2⟩,x3⟩;rcases aF.mp hy with z|z
    ·lia
    ·exact z
theorem Cnt.val{w:Bool}{n:Int}{f C:Int->Int}(h:Cnt w n f C)(hn:1<=n){b e:Int}(hb:∀x,b < x->x<=e->¬ Edg w n f x):∀k:Nat,b+k<=e->C (b+k)=C b+k * (C (b+1) - C b)
 |0,_=>by simp
 | k+1,hk=>by
  have ih:=Cnt.val h hn hb k (1:);have s:=h.seg hn hb k hk;rw[show((k+1:Nat):Int) * (C (b+1) - C b)=(k:Int) * (C (b+1) - C b)+(C (b+1) - C b) by rw[show((k+1:Nat):Int)=(k:Int)+1 from rfl,Int.add_mul,gA]];generalize (k:Int) * (C (b+1) - C b)=m at *;generalize C (b+((k+1:Nat):Int))=x at *;generalize C (b+(k:Int))=y at *
  lia
section
variable{w:Bool}{n:Int}{L M:List Pa}{A B:Int->Int}
def YB(w:Bool)(n:Int)(L M:List Pa):List Int:=sdI (edF w n L++edF w n M)
def qmB(ns:List Int):(sdI ns).Pairwise (· < ·):=by have h1:(sdI ns).Perm (ddI ns):=fF _ _;have h2:(sdI ns).Pairwise (λa b=>decide (a<=b)=true):=il (λa b c x y=>by simp at *;lia) (λa b=>by simp;lia) _;have h3:(sdI ns).Nodup:=h1.nodup_iff.mpr (JE ns);exact List.Pairwise.imp₂ (λa b x y=>Int.lt_iff_le_and_ne.mpr ⟨of_decide_eq_true x,y⟩) h2 h3
def Z9(ns:List Int)(k:Int):k∈sdI ns↔k∈ns:=by have h1:(sdI ns).Perm (ddI ns):=fF _ _;rw[h1.mem_iff,Zz]
def qgq(hL:PcOk L)(hM:PcOk M)(a:Cnt w n (pf L) A)(b:Cnt w n (pf M) B)(hn:1<=n)(x e:Int)(hx:x < e)(h:∀y,x < y->y < e->¬ y∈edF w n L++edF w n M)(d:Int)(h1:x<=d)(h2:d < e) :
  A d - B d=(A x - B x)+(d - x) * ((A (mn (x+1) (e - 1)) - B (mn (x+1) (e - 1))) - (A x - B x)):=by
 by_cases hd:d=x
 ·subst hd;simp
 ·have hm:mn (x+1) (e - 1)=x+1:=by
   have:=qei (x+1) (e - 1)
   unfold mn at *
   lia
  rw[hm];have e1:∀y,x < y->y<=e - 1->¬ Edg w n (pf L) y:=λy p q z=>h y p (1:) (bC _ (qbO hL z));have e2:∀y,x < y->y<=e - 1->¬ Edg w n (pf M) y:=λy p q z=>h y p (1:) (aX _ (qbO hM z));have v1:=a.val hn e1 (d - x).toNat (1:);have v2:=b.val hn e2 (d - x).toNat (1:);rw[show x+((d - x).toNat:Int)=d by lia,show((d - x).toNat:Int)=d - x by lia]at v1 v2;rw[v1,v2,gD,gD,gD,gD,gD]
  lia
def qep(hL:PcOk L)(hM:PcOk M)(a:Cnt w n (pf L) A)(b:Cnt w n (pf M) B)(hn:1<=n)(hl9:∀x,pf L x<=9)(hm9:∀x,pf M x<=9)(x e:Int)(hx:x < e)(h:∀y,x < y->y < e->¬ y∈edF w n L++edF w n M) :
  -18<=(A (mn (x+1) (e - 1)) - B (mn (x+1) (e - 1))) - (A x - B x)/\(A (mn (x+1) (e - 1)) - B (mn (x+1) (e - 1))) - (A x - B x)<=18:=by
 by_cases hd:e=x+1
 ·have hm:mn (x+1) (e - 1)=x:=by
   have:=qei (x+1) (e - 1)
   unfold mn at *;omega
  rw[hm]
  lia
 ·have hm:mn (x+1) (e - 1)=x+1:=by
   have:=qei (x+1) (e - 1)
   unfold mn at *
   lia
  rw[hm];have s1:=a.small hn hl9 (d:=x+1) λz=>h _ (1:) (1:) (bC _ (qbO hL z));have s2:=b.small hn hm9 (d:=x+1) λz=>h _ (1:) (1:) (aX _ (qbO hM z));rw[show x+1 - 1=x by lia]at s1 s2
  lia
def chg(w:Bool)(n:Int)(L M:List Pa)(A B:Int->Int):List Pr:=spr (chF (λd=>A d - B d) (YB w n L M))
def qho(hL:PcOk L)(hM:PcOk M)(a:Cnt w n (pf L) A)(b:Cnt w n (pf M) B)(hn:1<=n):Spr (chg w n L M A B)/\∀d,Day (chg w n L M A B) d↔A d≠B d:=by
 obtain⟨h1,h2⟩:=qhn (D:=λd=>A d - B d) (P:=λx=>x∈edF w n L++edF w n M) (λx e _ hx h d d1 d2=>qgq hL hM a b hn x e hx h d d1 d2) (YB w n L M) (qmB _) (λx hx=>(Z9 _ x).mp hx) λx hx _=>(Z9 _ x).mpr hx;refine{qd2 h1,λd=>?_}
 have e:Day (chg w n L M A B) d↔Day (chF (λd=>A d - B d) (YB w n L M)) d:=by
  have:=qd1 h1 d
  rw[<-jr,<-jr];unfold chg;rw[this]
 rw[e,h2];constructor
 ·exactλz q=>z.2 (1:)
 ·intro z;refine{{?_,?_},λq=>z (1:)}
  ·refine gB λq=>z ?_
   have q':∀e∈edF w n L++edF w n M,d < e:=λe he=>by
    have:=λhle=>q ⟨e,(Z9 _ e).mpr he,hle⟩
    lia
   rw[qhl hL a hn λe he=>q' e (bC _ he),qhl hM b hn λe he=>q' e (aX _ he)]
  ·refine gB λq=>z ?_
   have q':∀e∈edF w n L++edF w n M,e<=d:=λe he=>by
    have:=λhle=>q ⟨e,(Z9 _ e).mpr he,hle⟩
    lia
   rw[qhm hL a hn λe he=>q' e (bC _ he),qhm hM b hn λe he=>q' e (aX _ he)]
end
def jt:Nat×Nat×Ss:=(3,3,%[.ret (.call "pieces_among" %[0,1,.call "stays_of" %[2|0]|0])|0])
noncomputable abbrev yM:Ss:=%[.app 2 (.var 3),.app 2 (.bin .Add (.var 4) (.con (.int 1))),.ite (.val (.isc "Since" (.var 0))) %[.app 2 (.bin .Add (.var 4) (.fld (.var 0) "leave"))|0] .nil|0]
def jX:Ss:=yM
def yf:USs jX yM:=λ_ _ _ _=>(rfl)
def YZ:Nat×Nat×Ss:=(2,6,%[.set 2 (.call "turns_of" %[0,1|0]),.for_ (.many [3,4,5]) (.seq (.var 1)) jX,.ret (.var 2)|0])
def Jm:Nat×Nat×Ss:=(4,4,%[.ret (.bin .Sub (.call "count_among" %[0,1,3|0]) (.call "count_among" %[0,2,3|0]))|0])
def qT:Nat×Nat×Ss:=(5,8,%[.set 5 (.call "difference" %[0,1,2,3|0]),.set 6 (.bin .Sub (.call "difference" %[0,1,2,.b2 .min (.bin .Add (.var 3) (.con (.int 1))) (.var 4)|0]) (.var 5)),.ite (.cmp .Eq (.var 6) (.con (.int 0))) %[.ret (.ite (.cmp .Eq (.var 5) (.con (.int 0))) (.lst .nil) (.lst %[.tup %[3,4|0]|0]))|0] .nil,.ite (.cmp .NotEq (.bin .Mod (.var 5) (.var 6)) (.con (.int 0))) %[.ret (.lst %[.tup %[3,4|0]|0])|0] .nil,.set 7 (.bin .Sub (.var 3) (.bin .FloorDiv (.var 5) (.var 6))),.ret (.call "less" %[.lst %[.tup %[3,4|0]|0],.lst %[.tup %[7,7|0]|0]|0])|0])
noncomputable abbrev jd:Ss:=%[.ext 8 (.call "unlike_days" %[4,5,6,9,.bin .Sub (.var 10) (.con (.int 1))|0])|0]
def zn:Ss:=jd
def yN:USs zn jd:=λ_ _ _ _=>(rfl)
def yg:Nat×Nat×Ss:=(4,11,%[.set 4 (.idx (.met (.var 0) "rules" .nil) (.var 1)),.set 5 (.call "pieces_of" %[0,1,2|0]),.set 6 (.call "pieces_of" %[0,1,3|0]),.set 7 (.b1 .sst (.bin .Add (.call "edges_of" %[4,5|0]) (.call "edges_of" %[4,6|0]))),.set 8 (.lst .nil),.for_ (.many [9,10]) (.zip (.var 7) (.sli (.var 7) (.some (.con (.int 1))) .none)) zn,.ret (.call "spread" %[8|0])|0])
class CD(pg:Pg):Prop where
 r_turns_of:RW pg "turns_of" y8
 r_edges_of:RW pg "edges_of" YZ
 r_difference:RW pg "difference" Jm
 r_unlike_days:RW pg "unlike_days" qT
 r_changed_days:RW pg "changed_days" yg
end DG
namespace FZ
open PySem DE DG Dy FA
open L2 hiding St
open RU
def p6:(10:Int) ^ (6:Int).toNat=1000000:=by decide
def wd(g:Bool):Int:=if g=true then 4000030 else 21
end FZ
namespace DG
open PySem DE FA Dy
open L2 hiding St
open CH ST SP RU BO BT PC SU CD
class PU(pg:Pg):Prop where
 r_pieces_of:RW pg "pieces_of" jt
theorem qaa(s:Int):∀l:List Pa,jW s l=l.flatMap λp=>[p.1+s,p.2.1+1+s]
 |[]=>rfl
 | p::l=>by rw[jW,qaa s l];rfl
def qgr(r:Ru)(l:List Pa):yL r l=tuF r.kd.isW r.days l:=by unfold yL tuF;rw[qaa]
section
variable{pg:Pg}[CH pg][ST pg][RU pg][BO pg][SP pg][BT pg][PC pg][SU pg][PU pg][CD pg]
def Jn(k:Nat)(b:Bool)(rs:List Ru)(ps:List Pa)(hp:ps.length<=18)(n:Nat)(r:Ru)(hn:rs[n]?=some r)(hr:∀p∈r.lands,LnOk p)(hlf:(zJ n ps).length<=20)(st:List St)(hs:∀s∈st,NameOk s.1)(hc:Ch (-1) st)(hl:st.length<=60) :
  clK pg (k+6) "pieces_of" [.val (bkI rs ps),.val (.int (n:Int)),aL b (st.map stD)]=.ok (.tmp ((Jl st (r,zJ n ps)).map paD)):=by
 have s:=JK (pg:=pg) k b st hc hl;have p:clK pg (k+5) "pieces_among" [.val (bkI rs ps),.val (.int (n:Int)),.val (.lst (st.map stD))]=.ok (.tmp ((Jl st (r,zJ n ps)).map paD)):=qeg (pg:=pg) (k+2) false rs ps hp n r hn hr hlf st hs (1:);rw[PU.r_pieces_of];simp?![jt,s,p]
def peF(w:Bool)(n:Int)(p:Pa):List Int:=[p.1,p.2.1+1]++(if w=true then [] else [p.2.1+n])
theorem Y0(cl:Cl){xx:Xs}(hcs:cl.cs=pcs xx)(v1:Sl)(r:Ru):∀(l:List Pa) (acc:List Int) (s3 s4 s5:Sl),acc.length+3 * l.length < 10000->
  ∃N',j5 cl 1000 (.many [3,4,5]) jX (l.map paD) [.val (ruI r),v1,.own (acc.map D.int),s3,s4,s5]=.ok (.next (.val (ruI r)::v1::.own ((acc++l.flatMap (peF r.kd.isW r.days)).map D.int)::N'))
 |[],acc,s3,s4,s5,_=>{[s3,s4,s5],by simp[jk]}
 | p::l,acc,s3,s4,s5,hl=>by
  rw[aQ]at hl;obtain⟨N',ih⟩:=Y0 cl hcs v1 r l (acc++peF r.kd.isW r.days p) (.val (.int p.1)) (.val (.int p.2.1)) (.val (.int p.2.2)) (by unfold peF;split<;>simp<;>lia);refine{N',?_};rw[kW,<-aT];have hs:(acc.map D.int).length < sizeLine:=by rw[aD];exact qr (1:)
  have hs2:(acc.map D.int++[D.int p.1]).length < sizeLine:=by simp;exact qr (1:)
  have hs3:(acc.map D.int++[D.int p.1]++[D.int (p.2.1+1)]).length < sizeLine:=by simp;exact qr (1:)
  have ic:=qgh (xx:=xx) r;rw[a8 (l₁:=acc)]at ih
  cases hk:r.kd.isW with
  |true=>rw[hk]at ic ih;have e:(peF true r.days p).map D.int=[D.int p.1]++[D.int (p.2.1+1)]:=rfl;rw[e,<-aT]at ih;rw[av];simp?[yf,zh,hcs,ic,hs,hs2,ih]
  |false=>rw[hk]at ic ih;have e:(peF false r.days p).map D.int=[D.int p.1]++[D.int (p.2.1+1)]++[D.int (p.2.1+r.days)]:=rfl;rw[e,<-aT,<-aT]at ih;rw[av];simp?[yf,zh,hcs,ic,qbF r hk,hs,hs2,hs3,ih]
theorem qaR(k:Nat)(b:Bool)(r:Ru)(l:List Pa)(hl:l.length < 4000):clK pg (k+1) "turns_of" [.val (ruI r),aL b (l.map paD)]=.ok (.tmp ((yL r l).map D.int)):=by
 have iw:=Z2 (xx:=pg.xx) r;rw[CD.r_turns_of];unfold yL
 cases hk:r.kd.isW with
 |true=>rw[hk]at iw;obtain⟨N',e⟩:=YX (pg.kk k) (RU.cs (pg:=pg)) (pS b (l.map paD)) r hk l [] .no .no .no (by simp;lia);rw[aK,bf]at e;simp?![y8,RU.cs,iw,show(0:Nat)<=sizeLine by decide+kernel,e]
 |false=>rw[hk]at iw;simp?![y8,RU.cs,iw,show(0:Nat)<=sizeLine by decide+kernel]
def Y1(k:Nat)(r:Ru)(l:List Pa)(hl:l.length < 1000):clK pg (k+2) "edges_of" [.val (ruI r),.bor (l.map paD)]=.ok (.tmp ((edF r.kd.isW r.days l).map D.int)):=by
 have t:=qaR (pg:=pg) k true r l (1:)
 have tl:(yL r l).length<=2 * l.length:=by
  unfold yL;split
  ·rw[YY];exact az _
  ·simp
 obtain⟨N',e⟩:=Y0 (pg.kk (k+1)) (RU.cs (pg:=pg)) (.bor (l.map paD)) r l (yL r l) .no .no .no (1:);have t:clK pg (k+1) "turns_of" [.val (ruI r),.bor (l.map paD)]=.ok (.tmp ((yL r l).map D.int)):=t;have z:edF r.kd.isW r.days l=yL r l++l.flatMap (peF r.kd.isW r.days):=by rw[qgr];rfl
 rw[r_edges_of,z];simp?![YZ,t,e]
def qeq(k:Nat)(r:Ru)(l m:List Pa)(hl:WOk l)(hm:WOk m)(d:Int):clK pg (k+4) "difference" [.val (ruI r),.bor (l.map paD),.bor (m.map paD),.val (.int d)]=.ok (.val (.int (qC r l d - qC r m d))):=by have a:clK pg (k+3) "count_among" [.val (ruI r),.bor (l.map paD),.val (.int d)]=.ok (.val (.int (qC r l d))):=yK (pg:=pg) k true r l hl d;have b:clK pg (k+3) "count_among" [.val (ruI r),.bor (m.map paD),.val (.int d)]=.ok (.val (.int (qC r m d))):=yK (pg:=pg) k true r m hm d;rw[r_difference];simp?![Jm,a,b]
def qer(k:Nat)(r:Ru)(l m:List Pa)(hl:WOk l)(hm:WOk m)(b e:Int)(hg:-18<=(qC r l (mn (b+1) e) - qC r m (mn (b+1) e)) - (qC r l b - qC r m b)/\(qC r l (mn (b+1) e) - qC r m (mn (b+1) e)) - (qC r l b - qC r m b)<=18) :
  clK pg (k+5) "unlike_days" [.val (ruI r),.bor (l.map paD),.bor (m.map paD),.val (.int b),.val (.int e)]=.ok (.tmp ((ulF (qC r l b - qC r m b) ((qC r l (mn (b+1) e) - qC r m (mn (b+1) e)) - (qC r l b - qC r m b)) b e).map pD)):=by
 have d1:=qeq (pg:=pg) k r l m hl hm b;have d2:=qeq (pg:=pg) k r l m hl hm (mn (b+1) e);rw[r_unlike_days];generalize (qC r l b - qC r m b)=a at *;generalize (qC r l (mn (b+1) e) - qC r m (mn (b+1) e))=c at *;have mnr:(if e < b+1 then e else b+1)=mn (b+1) e:=rfl;have z0:(0:Nat)<=sizeLine:=(3:)
 have z1:0+1<=sizeLine:=(3:)
 have z2:0+1+1<=sizeLine:=(3:)
 have lg:=λ(p q:Int)=>qef (pg:=pg) (k+2) false (b,e) [(p,q)] (5:);have lg:∀p q:Int,clK pg (k+4) "less" [.val (.lst [.tup [.int b,.int e]]),.val (.lst [.tup [.int p,.int q]])]=.ok (.tmp ((j7 (b,e) [(p,q)]).map pD)):=lg;have q0:eqD (.int (c - a)) (.int 0)=some (c - a == 0):=qD ..;have q1:eqD (.int a) (.int 0)=some (a == 0):=qD ..;unfold ulF;generalize hc:c - a=g at *
 by_cases g0:g=0
 ·have q0:eqD (.int g) (.int 0)=some true:=by rw[q0,g0];rfl
  rw[if_pos g0]
  by_cases a0:a=0
  ·have q1:eqD (.int a) (.int 0)=some true:=by rw[q1,a0];rfl
   rw[if_pos a0];simp?![qT,d1,d2,mnr,hc,q0,q1,z0,aK]
  ·have q1:eqD (.int a) (.int 0)=some false:=by rw[q1];simp[a0]
   rw[if_neg a0];simp?![qT,d1,d2,mnr,hc,q0,q1,z0,z1,z2,zI,av,aK]
 ·have q0:eqD (.int g) (.int 0)=some false:=by rw[q0];simp[g0]
  rw[if_neg g0]
  have md:qak .Mod (.val (.int a)) (.val (.int g))=.ok (.val (.int (a.fmod g))):=by
   rw[bMod]
   by_cases gp:0 < g
   ·rw[if_pos gp,mE a (1:)]
   ·rw[if_neg gp,if_pos (1:)]
  have dv:qak .FloorDiv (.val (.int a)) (.val (.int g))=.ok (.val (.int (a.fdiv g))):=by
   rw[bDiv]
   by_cases gp:0 < g
   ·rw[if_pos ⟨gp,by lia⟩,mD a (1:)]
   ·rw[if_neg (λz=>gp z.1),if_pos ⟨by lia,by lia⟩]
  have q2:eqD (.int (a.fmod g)) (.int 0)=some (a.fmod g == 0):=qD ..
  by_cases m0:a.fmod g=0
  ·have q2:eqD (.int (a.fmod g)) (.int 0)=some true:=by rw[q2,m0];rfl
   rw[if_neg (not_not_intro m0)];simp?![qT,d1,d2,mnr,hc,q0,↓md,↓dv,q2,z0,z1,z2,lg]
  ·have q2:eqD (.int (a.fmod g)) (.int 0)=some false:=by rw[q2];simp[m0]
   rw[if_pos m0];simp?![qT,d1,d2,mnr,hc,q0,↓md,q2,z0,z1,z2,zI,av,aK]
end
def chP(D:Int->Int):List Pr->List Pr
 |[]=>[]
 | p::l=>ulF (D p.1) (D (mn (p.1+1) (p.2 - 1)) - D p.1) p.1 (p.2 - 1)++chP D l
theorem qes(D:Int->Int):∀es:List Int,chF D es=chP D (es.zip es.tail)
 |[]=>rfl
 |[_]=>rfl
 | b::e::l=>by rw[chF,qes D (e::l)];rfl
def qhp(a g b e:Int):(ulF a g b e).length<=3:=by
 unfold ulF;split
 ·split<;>simp
 ·split
  ·simp
  ·exact yJ (b,e) _
theorem qet(D:Int->Int):∀l:List Pr,(chP D l).length<=3 * l.length
 |[]=>az _
 | p::l=>by
  rw[chP,bq,aQ]
  have:=qet D l
  have:=qhp (D p.1) (D (mn (p.1+1) (p.2 - 1)) - D p.1) p.1 (p.2 - 1)
  omega
def qeu(w:Bool)(n:Int)(L:List Pa):(edF w n L).length<=5 * L.length:=by
 have a:∀L:List Pa,(tuF w n L).length<=2 * L.length:=λL=>by
  unfold tuF;split
  ·induction L with
   |nil=>simp
   |cons p l ih=>rw[kW,bq,aQ];simp at ih ⊢;lia
  ·simp
 have b:∀L:List Pa,(L.flatMap λp=>[p.1,p.2.1+1]++(if w=true then [] else [p.2.1+n])).length<=3 * L.length:=λL=>by
  induction L with
  |nil=>simp
  |cons p l ih=>
   rw[kW,bq,aQ]
   cases w<;>simp at ih ⊢<;>lia
 unfold edF;rw[bq]
 have:=a L
 have:=b L
 lia
theorem qev:∀l:List Int,(ddI l).length<=l.length
 |[]=>az _
 | a::l=>by
  rw[ddI]
  have:=qev l
  split<;>simp<;>omega
def qje(l:List Int):(sdI l).length<=l.length:=by unfold sdI;rw[kS];exact qev l
def qhq{L:List Pa}(hL:PcOk L)(x:Int):pf L x<=9:=by
 by_cases h:pf L x=0
 ·rw[h];decide
 ·obtain⟨p,hp,hi⟩:=qgn h;rw[js hL hp hi];exact(hL.ok p hp).2.2
theorem qbP:∀(es:List Int),es.Pairwise (· < ·)->∀p∈es.zip es.tail,p.1 < p.2/\∀x∈es,¬ (p.1 < x/\x < p.2)
 |[],_,p,hp=>by cases hp
 |[_],_,p,hp=>by cases hp
 | a::b::l,h,p,hp=>by
  rw[bG]at h;rcases aF.mp hp with rfl|hq
  ·refine{h.1 b (5:),λx hx=>?_};rcases aF.mp hx with rfl|hx
   ·dsimp only;lia
   ·rcases aF.mp hx with rfl|hx
    ·dsimp only;lia
    ·have:=(bG.mp h.2).1 x hx
     dsimp only
     lia
  ·obtain⟨i1,i2⟩:=qbP (b::l) h.2 p hq;refine{i1,λx hx=>?_};rcases aF.mp hx with rfl|hx
   ·have:=h.1 p.1 (gY (show(p.1,p.2)∈(b::l).zip l from hq)).1
    lia
   ·exact i2 x hx
section
variable{pg:Pg}[CH pg][ST pg][RU pg][BO pg][SP pg][BT pg][PC pg][SU pg][PU pg][CD pg]
theorem Jo(k:Nat)(r:Ru)(l m:List Pa)(hl:WOk l)(hm:WOk m)(v0 v1 v2 v3 v7:Sl):∀(ps acc:List Pr) (s9 s10:Sl),acc.length+3 * ps.length < 10000->
  (∀p∈ps,-18<=(qC r l (mn (p.1+1) (p.2 - 1)) - qC r m (mn (p.1+1) (p.2 - 1))) - (qC r l p.1 - qC r m p.1)/\(qC r l (mn (p.1+1) (p.2 - 1)) - qC r m (mn (p.1+1) (p.2 - 1))) - (qC r l p.1 - qC r m p.1)<=18)->
  ∃s9' s10',j5 (pg.kk (k+5)) 1000 (.many [9,10]) zn (ps.map pD) [v0,v1,v2,v3,.val (ruI r),.own (l.map paD),.own (m.map paD),v7,.own (acc.map pD),s9,s10]=.ok (.next [v0,v1,v2,v3,.val (ruI r),.own (l.map paD),.own (m.map paD),v7,.own ((acc++chP (λd=>qC r l d - qC r m d) ps).map pD),s9',s10'])
 |[],acc,s9,s10,_,_=>{s9,s10,by simp[jk,chP]}
 | p::ps,acc,s9,s10,hl',hg=>by
  rw[aQ]at hl';have u:=qer (pg:=pg) k r l m hl hm p.1 (p.2 - 1) (hg p (5:));have ul:=qhp (qC r l p.1 - qC r m p.1) ((qC r l (mn (p.1+1) (p.2 - 1)) - qC r m (mn (p.1+1) (p.2 - 1))) - (qC r l p.1 - qC r m p.1)) p.1 (p.2 - 1);rw[chP];generalize ulF (qC r l p.1 - qC r m p.1) ((qC r l (mn (p.1+1) (p.2 - 1)) - qC r m (mn (p.1+1) (p.2 - 1))) - (qC r l p.1 - qC r m p.1)) p.1 (p.2 - 1)=U at u ul;obtain⟨s9',s10',ih⟩:=Jo k r l m hl hm v0 v1 v2 v3 v7 ps (acc++U) (.val (.int p.1)) (.val (.int p.2)) (by simp;lia) λq hq=>hg q (by simp[hq]);refine{s9',s10',?_};rw[<-aT];rw[a8 (l₁:=acc) (l₂:=U)]at ih;have hs:(acc.map pD).length+(U.map pD).length<=sizeLine:=by rw[aD,aD];exact qN (1:)
  rw[av];simp?[yN,zI,u,hs,ih]
def Y2(k:Nat)(b1 b2:Bool)(rs:List Ru)(ps:List Pa)(hp:ps.length<=18)(n:Nat)(r:Ru)(hn:rs[n]?=some r)(h1:1<=r.days)(hr:∀p∈r.lands,LnOk p)(hlf:(zJ n ps).length<=20)(sa sb:List St)(na:∀s∈sa,NameOk s.1)(nb:∀s∈sb,NameOk s.1)(ca:Ch (-1) sa)(cb:Ch (-1) sb)(la:sa.length<=60)(lb:sb.length<=60)
  (pa:PcOk (Jl sa (r,zJ n ps))) (pb:PcOk (Jl sb (r,zJ n ps))) (hl:(Jl sa (r,zJ n ps)).length+(Jl sb (r,zJ n ps)).length<=200) :
  clK pg (k+8) "changed_days" [.val (bkI rs ps),.val (.int (n:Int)),aL b1 (sa.map stD),aL b2 (sb.map stD)]=.ok (.tmp ((chg r.kd.isW r.days (Jl sa (r,zJ n ps)) (Jl sb (r,zJ n ps)) (qC r (Jl sa (r,zJ n ps))) (qC r (Jl sb (r,zJ n ps)))).map pD)):=by
 have a:=qbH (pg:=pg) (k+6) rs ps;have e:=qea hn;have p1:=Jn (pg:=pg) (k+1) b1 rs ps hp n r hn hr hlf sa na ca la;have p2:=Jn (pg:=pg) (k+1) b2 rs ps hp n r hn hr hlf sb nb cb lb;generalize Jl sa (r,zJ n ps)=L at *;generalize Jl sb (r,zJ n ps)=M at *;have e1:=Y1 (pg:=pg) (k+5) r L (1:);have e2:=Y1 (pg:=pg) (k+5) r M (1:);have l1:=qeu r.kd.isW r.days L;have l2:=qeu r.kd.isW r.days M;have cA:=Yo h1 pa;have cB:=Yo h1 pb;have up:=qmB (edF r.kd.isW r.days L++edF r.kd.isW r.days M);have ls:=qje (edF r.kd.isW r.days L++edF r.kd.isW r.days M);rw[bq]at ls;have s0:(edF r.kd.isW r.days L).length+(edF r.kd.isW r.days M).length<=sizeLine:=qN (1:);have s1:((edF r.kd.isW r.days L).map D.int).length+((edF r.kd.isW r.days M).map D.int).length<=sizeLine:=by rw[aD,aD];exact s0
 have ss:qkR (.tmp ((edF r.kd.isW r.days L).map D.int++(edF r.kd.isW r.days M).map D.int))=.ok (.tmp ((YB r.kd.isW r.days L M).map D.int)):=by rw[<-a8];unfold qkR;simp?![QG,if_pos (show(edF r.kd.isW r.days L++edF r.kd.isW r.days M).length < 4000 by rw[bq];lia),YB]
 have sm:=Z9 (edF r.kd.isW r.days L++edF r.kd.isW r.days M)
 have hg:∀p∈(YB r.kd.isW r.days L M).zip (YB r.kd.isW r.days L M).tail,-18<=(qC r L (mn (p.1+1) (p.2 - 1)) - qC r M (mn (p.1+1) (p.2 - 1))) - (qC r L p.1 - qC r M p.1)/\(qC r L (mn (p.1+1) (p.2 - 1)) - qC r M (mn (p.1+1) (p.2 - 1))) - (qC r L p.1 - qC r M p.1)<=18:=by intro p hp;obtain⟨i1,i2⟩:=qbP _ up p hp;exact qep pa pb cA cB h1 (qhq pa) (qhq pb) p.1 p.2 i1 λy y1 y2 hy=>i2 y ((sm y).mpr hy) ⟨y1,y2⟩
 have zl:((YB r.kd.isW r.days L M).zip (YB r.kd.isW r.days L M).tail).length<=1000:=by
  rw[List.length_zip]
  have:(YB r.kd.isW r.days L M).length<=1000:=by unfold YB;lia
  lia
 have cl:=qet (λd=>qC r L d - qC r M d) ((YB r.kd.isW r.days L M).zip (YB r.kd.isW r.days L M).tail);obtain⟨s9,s10,lp⟩:=Jo (pg:=pg) (k+2) r L M pa.w pb.w (.val (bkI rs ps)) (.val (.int (n:Int))) (pS b1 (sa.map stD)) (pS b2 (sb.map stD)) (.val (.lst ((YB r.kd.isW r.days L M).map D.int))) _ [] .no .no (by rw[kF];lia) hg;rw[aK,bf]at lp;have sp:clK pg (k+7) "spread" [.bor ((chP (λd=>qC r L d - qC r M d) ((YB r.kd.isW r.days L M).zip (YB r.kd.isW r.days L M).tail)).map pD)]=.ok (.tmp ((spr (chP (λd=>qC r L d - qC r M d) ((YB r.kd.isW r.days L M).zip (YB r.kd.isW r.days L M).tail))).map pD)):=yD (pg:=pg) (k+6) true _ (1:);have z0:(0:Nat)<=sizeLine:=(3:)
 have ct:Qo ((YB r.kd.isW r.days L M).map D.int) (some 1) none=(YB r.kd.isW r.days L M).tail.map D.int:=by
  cases YB r.kd.isW r.days L M with
  |nil=>rfl
  |cons x l=>exact qjd _ _
 unfold chg;rw[qes];rw[r_changed_days];simp?![yg,RU.cs,qbG,a,e,p1,p2,e1,e2,s1,ss,z0,ct,qhh,lp,sp]
end
end DG
namespace FX
open PySem L2 DE DG
noncomputable abbrev jB:Ss:=%[.ite (.and (.cmp .Eq (.idx (.var 5) (.con (.int 0))) (.var 2)) (.one (.chn .LtE .LtE (.idx (.var 5) (.con (.int 1))) (.var 4) (.idx (.var 5) (.con (.int 2)))))) %[.ret (.con (.int 0))|0] .nil|0]
def zE:Ss:=jB
def qF:USs zE jB:=λ_ _ _ _=>(rfl)
noncomputable abbrev jC:Ss:=%[.ite (.chn .LtE .LtE (.var 7) (.var 4) (.var 8)) %[.ret (.b2 (.get 0) (.idx (.var 0) (.con (.int 1))) (.var 6))|0] .nil|0]
def zF:Ss:=jC
def qZ:USs zF jC:=λ_ _ _ _=>(rfl)
def zr:Nat×Nat×Ss:=(5,9,%[.for_ (.one 5) (.seq (.var 1)) zE,.for_ (.many [6,7,8]) (.seq (.var 3)) zF,.ret (.con (.int 0))|0])
class XW(pg:Pg):Prop where
 r__law_weight:RW pg "_law_weight" zr
end FX
namespace DG
open PySem DE FA Dy
open L2 hiding St
theorem qhr:∀l:List (Str×Int),qeV (l.map lnD)=some l
 |[]=>rfl
 | p::l=>by rw[av,qeV,qhr l];rfl
theorem qew(z:Str):∀l:List (Str×Int),(qip l z).getD 0=wt l (some z)
 |[]=>rfl
 | p::l=>by
  have ih:=qew z l;unfold qip at ih ⊢;unfold wt
  by_cases e:p.1=z
  ·rw[dG,show decide (p.1=z)=true from decide_eq_true e,if_pos (by rw[e])];rfl
  ·rw[dG,show decide (p.1=z)=false from decide_eq_false e,if_neg (λq=>e (by cases q;rfl))];exact ih
def qjf{l:List (Str×Int)}(nd:(l.map (·.1)).Nodup)(z:Str):qay 0 (.val (.lst (l.map lnD))) (.val (.str z))=.ok (.val (.int (wt l (some z)))):=by show(match qeV (l.map lnD) with |some kvs=>_ |none=>_)=_;rw[qhr];dsimp only;rw[if_pos nd,qew]
def fwS(n:Int)(s:Int×Int×Int)(i w:Int):Int×Int×Int:=(if n<=(if 0 < w then 0 else s.2.1+1) then 0 else s.1+w,if 0 < w then 0 else s.2.1+1,if 0 < w/\s.1=0 then i else s.2.2)
def fw(f:Int->Int)(n lo:Int):Nat->Int×Int×Int
 |0=>(0,0,0)
 | i+1=>fwS n (fw f n lo i) i (f (lo+i))
structure FwI(f:Int->Int)(n lo:Int)(i:Nat)(s:Int×Int×Int):Prop where
 e0:0<=s.2.1
 e1:s.2.1<=i
 z:∀x,lo+i - s.2.1<=x->x < lo+i->f x=0
 p:s.2.1 < i->f (lo+i - s.2.1 - 1)≠0
 c0:s.2.1=i->s.1=0
 c1:n<=s.2.1->s.1=0
 c2:s.2.1 < i->s.2.1 < n->0 < s.1
 c3:0<=s.1
 b:0 < s.1->WF f n (lo+i - 1) (lo+s.2.2)
section
variable{f:Int->Int}{n lo:Int}(hf:∀x,0<=f x)(hn:1<=n)(hlo:∀x,x < lo->f x=0)
include hf hn hlo
theorem qmC{i:Nat}{s:Int×Int×Int}(h:FwI f n lo i s):FwI f n lo (i+1) (fwS n s i (f (lo+i))):=by
 have e0:=h.e0;have e1:=h.e1;have c3:=h.c3;have hd:lo+((i+1:Nat):Int) - 1=lo+i:=by lia
 by_cases hw:0 < f (lo+i)
 ·have es:fwS n s i (f (lo+i))=(s.1+f (lo+i),0,if s.1=0 then (i:Int) else s.2.2):=by
   unfold fwS;rw[if_pos hw,if_neg (1:)];simp![hw,true_and]
  have here:¬ QQ f n (lo+i):=λq=>by have:=q (lo+i) (1:) (a9 _);lia
  rw[es];refine{a9 _,by dsimp only;lia,λx h1 h2=>by dsimp only at h1;lia,λ_=>?_,λq=>by dsimp only at q;lia,λq=>by dsimp only at q;lia,λ_ _=>by dsimp only;lia,by dsimp only;lia,λ_=>?_}
  ·dsimp only;rw[show lo+((i+1:Nat):Int) - 0 - 1=lo+i by lia]
   lia
  ·rw[hd];dsimp only
   by_cases q:s.1=0
   ·rw[if_pos q];refine{a9 _,by lia,λx h1 h2=>?_,λx h1 h2=>by rw[show x=lo+i by lia];exact here}
    by_cases hx:lo+i - s.2.1<=x
    ·exact h.z x hx (1:)
    ·by_cases hi:s.2.1=i
     ·exact hlo x (1:)
     ·by_cases hs:s.2.1 < n
      ·have:=h.c2 (1:) hs
       lia
      ·lia
   ·rw[if_neg q];have w:=h.b (1:)
    have:=w.le
    refine{by lia,w.ne,w.ahead,λx h1 h2=>?_}
    by_cases hx:x=lo+i
    ·rw[hx];exact here
    ·exact w.busy x h1 (1:)
 ·have h0:f (lo+i)=0:=by have:=hf (lo+i);lia
  have es:fwS n s i (f (lo+i))=(if n<=s.2.1+1 then 0 else s.1,s.2.1+1,s.2.2):=by unfold fwS;rw[if_neg hw,h0,iu,if_neg (c:=(0:Int) < 0/\s.1=0) (λq=>absurd q.1 (1:))]
  rw[es]
  have zz:∀x,lo+((i+1:Nat):Int) - (s.2.1+1)<=x->x < lo+((i+1:Nat):Int)->f x=0:=λx h1 h2=>by
   by_cases hx:x=lo+i
   ·rw[hx];exact h0
   ·exact h.z x (1:) (1:)
  refine{by dsimp only;lia,by dsimp only;lia,zz,λq=>?_,λq=>?_,λq=>?_,λq q'=>?_,?_,λq=>?_}
  ·dsimp only at q ⊢;rw[show lo+((i+1:Nat):Int) - (s.2.1+1) - 1=lo+i - s.2.1 - 1 by lia];exact h.p (1:)
  ·dsimp only at q ⊢
   have:=h.c0 (1:)
   split<;>lia
  ·dsimp only at q ⊢;rw[if_pos q]
  ·dsimp only at q q' ⊢;rw[if_neg (1:)];exact h.c2 (1:) (1:)
  ·dsimp only
   split<;>omega
  ·dsimp only at q ⊢
   split at q
   ·lia
   ·have w:=h.b q;rw[hd]
    have:=w.le
    refine{by lia,w.ne,w.ahead,λx h1 h2=>?_}
    by_cases hx:x=lo+i
    ·rw[hx];intro id
     by_cases hi:s.2.1 < i
     ·exact h.p hi (id _ (1:) (1:))
     ·have:=h.c0 (1:)
      lia
    ·exact w.busy x h1 (1:)
theorem qjg:∀i:Nat,FwI f n lo i (fw f n lo i)
 |0=>{a9 _,a9 _,λx h1 h2=>hlo x (-h2:),λq=>absurd q (kY 0),λ_=>rfl,λ_=>rfl,λq=>absurd q (kY 0),a9 _,λq=>absurd q (kY 0)}
 | i+1=>qmC hf hn hlo (qjg i)
def cF(f:Int->Int)(n lo d:Int):Int:=if d < lo then 0 else (fw f n lo (d+1 - lo).toNat).1
theorem qoh:Cnt false n f (cF f n lo):=by
 refine{hf,{lo,λd hd=>{if_pos hd,hlo d hd}},λh=>(by cases h),λ_ d hi=>?_,λ_ d hb=>?_}
 ·unfold cF;split
  ·rfl
  ·rename_i hd;obtain⟨k,ek⟩:∃k:Nat,d=lo+k:={(d - lo).toNat,by lia};have I:=qjg hf hn hlo (k+1);rw[show(d+1 - lo).toNat=k+1 by lia]
   by_cases q:(fw f n lo (k+1)).2.1 < ((k+1:Nat):Int)
   ·by_cases q':(fw f n lo (k+1)).2.1 < n
    ·exact absurd (hi _ (by have:=I.e0;lia) (by have:=I.e0;lia)) (I.p q)
    ·exact I.c1 (1:)
   ·exact I.c0 (by have:=I.e1;omega)
 ·have hd:¬ d < lo:=λq=>hb λx _ h2=>hlo x (1:);obtain⟨k,ek⟩:∃k:Nat,d=lo+k:={(d - lo).toNat,by lia};have I:=qjg hf hn hlo (k+1)
  have prev:cF f n lo (d - 1)=(fw f n lo k).1:=by
   unfold cF;split
   ·rw[show k=0 by lia];rfl
   ·rw[show(d - 1+1 - lo).toNat=k by lia]
  rw[prev];unfold cF;rw[if_neg hd,show(d+1 - lo).toNat=k+1 by lia]
  have hq:¬ n<=(if 0 < f (lo+k) then 0 else (fw f n lo k).2.1+1):=λq=>hb λx h1 h2=>I.z x (by
   show lo+((k+1:Nat):Int) - (if 0 < f (lo+k) then 0 else (fw f n lo k).2.1+1)<=x
   lia) (1:)
  show(if n<=(if 0 < f (lo+k) then 0 else (fw f n lo k).2.1+1) then 0 else (fw f n lo k).1+f (lo+k))=_;rw[if_neg hq,ek]
end
theorem qex(f:Int->Int):∀(a m:Nat) (lo:Int),(ws f lo m).drop a=ws f (lo+a) (m - a)
 |0,m,lo=>by simp
 | a+1,0,lo=>by simp[ws]
 | a+1,m+1,lo=>by rw[ws,List.drop_succ_cons,qex f a m (lo+1),show lo+1+(a:Int)=lo+((a+1:Nat):Int) by lia,show m+1 - (a+1)=m - a by lia]
theorem qey(f:Int->Int):∀(b m:Nat) (lo:Int),b<=m->(ws f lo m).take b=ws f lo b
 |0,m,lo,_=>by simp[ws]
 | b+1,0,lo,h=>by lia
 | b+1,m+1,lo,h=>by rw[ws,List.take_succ_cons,qey f b m (lo+1) (1:)];rfl
theorem qbQ(f:Int->Int):∀(m:Nat) (lo:Int),(ws f lo m).length=m
 |0,_=>rfl
 | m+1,lo=>by rw[ws,aQ,qbQ f m]
def qjh{r:Ru}{f:Int->Int}{lo:Int}(hk:r.kd.isW=true)(hd:1<=r.days)(hlo:∀x,x < lo->f x=0){m i:Nat}(hi:i < m) :
  ∃l:List Int,Qo ((ws f lo m).map D.int) (some (if i - r.days+1 > 0 then i - r.days+1 else 0)) (some (i+1))=l.map D.int/\l.sum=(win r f (lo+i)).2:=by
 obtain⟨a,ea⟩:∃a:Nat,(if (i:Int) - r.days+1 > 0 then (i:Int) - r.days+1 else 0)=a:={(if (i:Int) - r.days+1 > 0 then (i:Int) - r.days+1 else 0).toNat,by split<;>lia};have ha:a<=i:=by split at ea<;>lia
 refine{ws f (lo+a) (i+1 - a),?_,?_}
 ·rw[ea,show(i:Int)+1=((i+1:Nat):Int) by lia];unfold Qo;rw[aD,qbQ,HT.yh,HT.yh,eR (1:),eR (1:),<-kU,<-ir,qex,qey _ _ _ _ (1:)]
 ·unfold win;rw[if_pos hk]
  split at ea
  ·rw[show lo+(i:Int) - r.days+1=lo+a by lia,show r.days.toNat=i+1 - a by lia]
  ·have:a=0:=by lia
   subst this;have e:r.days.toNat=(r.days.toNat - (i+1))+(i+1):=by lia
   rw[e,qbN,show lo+(i:Int) - r.days+1+((r.days.toNat - (i+1):Nat):Int)=lo by lia]
   have z:∀(m:Nat) (a:Int),a+m<=lo->(ws f a m).sum=0:=λm=>by
    induction m with
    |zero=>intro a _;rfl
    |succ m ih=>intro a ha;rw[ws,cm,ih (a+1) (1:),hlo a (1:)];rfl
   dsimp only;rw[z (r.days.toNat - (i+1)) _ (1:),Int.zero_add,show lo+((0:Nat):Int)=lo by lia,Nat.sub_zero]
end DG
namespace FX
open PySem DE DG FA Dy
open L2 hiding St
open XW
def qgs(n:Int)(p:Pa)(ps:List Pa):ofN n (p::ps)=if (p.1 == n)=true then (p.2.1,p.2.2)::ofN n ps else ofN n ps:=by
 unfold ofN;rw[kZ]
 split<;>rfl
theorem qbR(cl:Cl)(v0 v1 v3 v6 v7 v8:Sl)(n d:Int):∀(ps:List Pa) (s5:Sl),∃F,j5 cl 1000 (.one 5) zE (ps.map paD) [v0,v1,.val (.int n),v3,.val (.int d),s5,v6,v7,v8]=.ok F/\(Q0 (ofN n ps) d=true->F=.ret (.val (.int 0)))/\(Q0 (ofN n ps) d=false->∃s5',F=.next [v0,v1,.val (.int n),v3,.val (.int d),s5',v6,v7,v8])
 |[],s5=>{_,rfl,λh=>(by cases h),λ_=>{_,rfl}}
 | p::ps,s5=>by
  obtain⟨F,i,a,b⟩:=qbR cl v0 v1 v3 v6 v7 v8 n d ps (.val (paD p));have a0:atI [D.int p.1,.int p.2.1,.int p.2.2] 0=some (.int p.1):=rfl;have a1:atI [D.int p.1,.int p.2.1,.int p.2.2] 1=some (.int p.2.1):=rfl;have a2:atI [D.int p.1,.int p.2.1,.int p.2.2] 2=some (.int p.2.2):=rfl;rw[qgs];simp![zh]at i
  cases h:(p.1 == n) with
  |false=>rw[if_neg (2:)];refine{F,?_,a,b};rw[av];simp?[qF,zh,a0,qD,h,i]
  |true=>
   rw[if_pos rfl]
   by_cases h1:p.2.1<=d
   ·by_cases h2:d<=p.2.2
    ·refine{.ret (.val (.int 0)),?_,λ_=>rfl,λz=>?_}
     ·rw[av];simp?[qF,zh,a0,a1,a2,qD,h,h1,h2]
     ·have e:Q0 ((p.2.1,p.2.2)::ofN n ps) d=true:=by simp[Q0,h1,h2]
      rw[e]at z;cases z
    ·have e:Q0 ((p.2.1,p.2.2)::ofN n ps) d=Q0 (ofN n ps) d:=by simp[Q0,h2]
     rw[e];refine{F,?_,a,b};rw[av];simp?[qF,zh,a0,a1,a2,qD,h,h1,h2,i]
   ·have e:Q0 ((p.2.1,p.2.2)::ofN n ps) d=Q0 (ofN n ps) d:=by simp[Q0,h1]
    rw[e];refine{F,?_,a,b};rw[av];simp?[qF,zh,a0,a1,a2,qD,h,h1,i]
theorem qbS(cl:Cl)(v1 v2 v3 v5:Sl)(r:Ru)(nd:(r.lands.map (·.1)).Nodup)(d:Int):∀(l:List St) (s6 s7 s8:Sl),∃F,j5 cl 1000 (.many [6,7,8]) zF (l.map stD) [.val (ruD r),v1,v2,v3,.val (.int d),v5,s6,s7,s8]=.ok F/\(∀z,zM l d=some z->F=.ret (.val (.int (wt r.lands (some z)))))/\(zM l d=none->∃N',F=.next N')
 |[],s6,s7,s8=>{_,rfl,λz h=>(by cases h),λ_=>{_,rfl}}
 | s::l,s6,s7,s8=>by
  obtain⟨F,i,a,b⟩:=qbS cl v1 v2 v3 v5 r nd d l (.val (.str s.1)) (.val (.int s.2.1)) (.val (.int s.2.2));have a1:atI [D.str r.kd.nm,.lst (r.lands.map lnD),.int r.most,.int r.days] 1=some (.lst (r.lands.map lnD)):=rfl;have g:=qjf nd s.1;simp![ruD]at i;unfold zM
  by_cases h1:s.2.1<=d
  ·by_cases h2:d<=s.2.2
   ·rw[if_pos ⟨h1,h2⟩];refine{.ret (.val (.int (wt r.lands (some s.1)))),?_,λz e=>(by cases e;rfl),λz=>(by cases z)};rw[av];simp?[qZ,z9,ruD,a1,h1,h2,g]
   ·rw[if_neg (λz=>h2 z.2)];refine{F,?_,a,b};rw[av];simp?[qZ,z9,ruD,h1,h2,i]
  ·rw[if_neg (λz=>h1 z.1)];refine{F,?_,a,b};rw[av];simp?[qZ,z9,ruD,h1,i]
theorem qmD{pg:Pg}[XW pg](k:Nat)(b:Bool)(r:Ru)(nd:(r.lands.map (·.1)).Nodup)(ps:List Pa)(hp:∀p∈ps,p.2.1<=p.2.2)(n:Int)(st:List St)(d:Int) :
  clK pg (k+1) "_law_weight" [.val (ruD r),.bor (ps.map paD),.val (.int n),aL b (st.map stD),.val (.int d)]=.ok (.val (.int (wgt r (zJ n ps) st d))):=by
 have e:Q0 (zJ n ps) d=Q0 (ofN n ps) d:=qd1 (λp hq=>by unfold ofN at hq;obtain⟨q,hm,rfl⟩:=dU.mp hq;exact hp q (fe.mp hm).1) d
 unfold wgt;rw[e,r__law_weight];obtain⟨F,i,i1,i2⟩:=qbR (pg.kk k) (.val (ruD r)) (.bor (ps.map paD)) (pS b (st.map stD)) .no .no .no n d ps .no
 cases h:Q0 (ofN n ps) d with
 |true=>rw[i1 h]at i;rw[if_pos rfl];simp?![zr,i]
 |false=>
  obtain⟨s5,q⟩:=i2 h;rw[q]at i;rw[if_neg (2:)];obtain⟨G,j,j1,j2⟩:=qbS (pg.kk k) (.bor (ps.map paD)) (.val (.int n)) (pS b (st.map stD)) s5 r nd d st .no .no .no
  cases h':zM st d with
  |some z=>rw[j1 z h']at j;simp?![zr,i,j]
  |none=>obtain⟨N',q'⟩:=j2 h';rw[q']at j;rw[qaN];simp?![zr,i,j]
end FX
namespace K61
open PySem L2 DE DG FA FX
def top(i:Nat):aC:=PySem.Challenge.pw_daysgate_k61_changed_by_days.main.body.getD i (.Pass ⟨0,0,0,0⟩)
def mem(i j:Nat):aC:=(qhU (top i)).getD j (.Pass ⟨0,0,0,0⟩)
def pg:Pg:={ defs:=[(("is_whole" : Str),top 5),(("is_between" : Str),top 6),(("are_days" : Str),top 7),(("is_made_of" : Str),top 8),(("is_name" : Str),top 9),(("spread" : Str),top 11),(("both" : Str),top 12),(("outside" : Str),top 13),(("less" : Str),top 14),(("is_land" : Str),top 23),(("are_lands" : Str),top 24),(("is_stay" : Str),top 31),(("stays_of" : Str),top 32),(("pieces_among" : Str),top 34),(("pieces_of" : Str),top 35),(("sum_of" : Str),top 36),(("first_since" : Str),top 37),(("first_of_window" : Str),top 38),(("count_among" : Str),top 39),(("turns_of" : Str),top 40),(("edges_of" : Str),top 42),(("difference" : Str),top 43),(("unlike_days" : Str),top 44),(("changed_days" : Str),top 45),(("are_rules" : Str),top 49),(("is_paper" : Str),top 50),(("check_papers" : Str),top 51),(("_law_cell_at" : Str),top 54),(("_law_lands" : Str),top 55),(("_law_rule" : Str),top 56),(("_law_made" : Str),top 57),(("_law_paper" : Str),top 58),(("_law_stays" : Str),top 59),(("_law_weight" : Str),top 60),(("_law_counts" : Str),top 61),(("_law_row" : Str),top 62),(("_law_spread" : Str),top 63),(("law" : Str),top 64)],gl:=λx=>if x = "GREATEST" then some (.int 1000000000) else if x = "LETTERS" then some (.str "abcdefghijklmnopqrstuvwxyz") else if x = "LONGEST_NAME" then some (.int 8) else if x = "MOST_LANDS" then some (.int 6) else if x = "GREATEST_WEIGHT" then some (.int 9) else if x = "MOST_STAYS" then some (.int 60) else if x = "MOST_RULES" then some (.int 8) else if x = "MOST_PAPERS" then some (.int 12) else none,m:=40,w:=1000,meths:=[("Rule.weight",mem 25 1),("Book.rules",mem 52 1),("Book.papers",mem 52 2),("Book.lifted",mem 52 3)],cs:=pcs,nw:=pnw }
instance:DG.CH pg:={%[5|1],%[6|1],%[7|1],%[8|1],%[9|1]}
instance:DG.ST pg:={%[31|1],%[32|1]}
instance:DG.SP pg:={%[11|1]}
instance:DG.RU pg:={rfl,rfl,%[23|1],%[24|1],qm (pg:=pg) (st:=mem 25 1) (4:) (λk cl=>(4:))}
instance:DG.BO pg:={%[49|1],%[50|1],%[51|1],qm (pg:=pg) (st:=mem 52 1) (4:) (λk cl=>(4:)),qm (pg:=pg) (st:=mem 52 2) (4:) (λk cl=>(4:)),qm (pg:=pg) (st:=mem 52 3) (4:) (λk cl=>(4:))}
instance:FA.LC pg:={%[54|1]}
instance:FA.LN pg:={%[55|1]}
instance:FA.LR pg:={%[56|1]}
instance:FA.LM pg:={%[57|1]}
instance:FA.LP pg:={%[58|1]}
instance:FA.LS pg:={%[59|1]}
instance:DG.BT pg:={%[12|1],%[13|1],%[14|1]}
instance:DG.PC pg:={%[34|1]}
instance:DG.SU pg:={%[36|1],%[37|1],%[38|1],%[39|1]}
instance:FX.XW pg:={%[60|1]}
instance:DG.CD pg:={%[40|1],%[42|1],%[43|1],%[44|1],%[45|1]}
def jt:Nat×Nat×Ss:=(3,3,%[.ret (.call "pieces_among" %[0,1,.call "stays_of" %[2|0]|0])|0])
def r_pieces_of:RW pg "pieces_of" jt:=%[35|1]
noncomputable abbrev jD:E:=(.b1 .sum (.sli (.var 2) (.some (.b2 .max (.con (.int 0)) (.bin .Add (.bin .Sub (.var 0) (.idx (.var 1) (.con (.int 3)))) (.con (.int 1))))) (.some (.bin .Add (.var 0) (.con (.int 1))))))
def zG:E:=jD
def y9:UE zG jD:=λ_ _ _=>(rfl)
noncomputable abbrev jE:Ss:=%[.set 4 (.bin .Add (.var 4) (.con (.int 1))),.ite (.cmp .Gt (.var 5) (.con (.int 0))) %[.set 4 (.con (.int 0))|0] .nil,.set 3 (.bin .Add (.var 3) (.var 5)),.ite (.cmp .GtE (.var 4) (.idx (.var 0) (.con (.int 3)))) %[.set 3 (.con (.int 0))|0] .nil,.app 2 (.var 3)|0]
def zH:Ss:=jE
def zc:USs zH jE:=λ_ _ _ _=>(rfl)
def ju:Nat×Nat×Ss:=(2,6,%[.ite (.cmp .Eq (.idx (.var 0) (.con (.int 0))) (.con (.str "within"))) %[.ret (.comp zG (.rng (.b1 .len (.var 1))) (.one 0) .yes 1 [0,1])|0] .nil,.set 2 (.lst .nil),.set 3 (.con (.int 0)),.set 4 (.con (.int 0)),.for_ (.one 5) (.seq (.var 1)) zH,.ret (.var 2)|0])
def QR:RW pg "_law_counts" ju:=%[61|1]
noncomputable abbrev yP:E:=(.call "_law_weight" %[1,2,3,4,.bin .Add (.var 5) (.var 0)|0])
def jY:E:=yP
def YC:UE jY yP:=λ_ _ _=>(rfl)
def Y3:Nat×Nat×Ss:=(5,5,%[.ret (.call "_law_counts" %[0,.comp jY (.rng (.con (.int 110))) (.one 0) .yes 1 [0,1,2,3,4]|0])|0])
def qcB:RW pg "_law_row" Y3:=%[62|1]
noncomputable abbrev jF:Ss:=%[.ite (.and (.val (.var 4)) (.and (.cmp .Gt (.var 3) (.con (.int 0))) (.one (.val (.idx (.var 0) (.bin .Sub (.var 3) (.con (.int 1)))))))) %[.setI 2 (.bin .Sub (.b1 .len (.var 2)) (.con (.int 1))) (.tup %[.idx (.idx (.var 2) (.bin .Sub (.b1 .len (.var 2)) (.con (.int 1)))) (.con (.int 0)),.bin .Add (.var 1) (.var 3)|0])|0] %[.ite (.val (.var 4)) %[.app 2 (.tup %[.bin .Add (.var 1) (.var 3),.bin .Add (.var 1) (.var 3)|0])|0] .nil|0]|0]
def qU:Ss:=jF
def qG:USs qU jF:=λ_ _ _ _=>(rfl)
def yQ:Nat×Nat×Ss:=(2,5,%[.set 2 (.lst .nil),.for_ (.many [3,4]) (.enum (.var 0)) qU,.ret (.var 2)|0])
def QS:RW pg "_law_spread" yQ:=%[63|1]
abbrev qgt:E:=(.call "_law_rule" %[0,1|0])
def qez:E:=qgt
noncomputable abbrev qgu:E:=(.call "_law_paper" %[0,.b1 .len (.var 2),1|0])
def qeA:E:=qgu
abbrev qbT:E:=(.var 0)
def QT:E:=qbT
def Yp:UE QT qbT:=λ_ _ _=>(rfl)
abbrev qgv:E:=(.call "_law_made" %[0|0])
def qeB:E:=qgv
abbrev qbU:E:=(.cmp .NotEq (.var 0) (.var 1))
def qaS:E:=qbU
def qeC:UE qaS qbU:=λ_ _ _=>(rfl)
abbrev qgw:E:=(.cmp .NotEq (.var 0) (.var 1))
def qeD:E:=qgw
noncomputable abbrev qbV:Ss:=%[.ite (.not (.val (.isi Ty.tuple (.var 17)))) %[.ret (.con (.bl false))|0] .nil|0]
def qaT:Ss:=qbV
def qeE:USs qaT qbV:=λ_ _ _ _=>(rfl)
noncomputable abbrev qbW:Ss:=%[.set 11 (.call "_law_row" %[7,4,10,5,2|0]),.set 12 (.call "_law_row" %[7,4,10,6,2|0]),.set 13 (.call "_law_spread" %[.comp qaS (.zip (.var 11) (.var 12)) (.many [0,1]) .yes 2 [],2|0]),.set 14 (.call "_law_row" %[7,4,10,.sli (.var 5) .none (.some (.bin .FloorDiv (.b1 .len (.var 5)) (.con (.int 2)))),2|0]),.set 15 (.b1 .list (.sli (.var 5) .none (.some (.bin .FloorDiv (.b1 .len (.var 5)) (.con (.int 2)))))),.set 14 (.call "_law_spread" %[.comp qeD (.zip (.var 14) (.var 12)) (.many [0,1]) .yes 2 [],2|0]),.ite (.cmp .NotEq (.call "changed_days" %[8,10,15,.idx (.var 9) (.con (.int 1))|0]) (.var 14)) %[.ret (.con (.bl false))|0] .nil,.ext 15 (.sli (.var 5) (.some (.bin .FloorDiv (.b1 .len (.var 5)) (.con (.int 2)))) .none),.set 16 (.call "changed_days" %[8,10,15,.idx (.var 9) (.con (.int 1))|0]),.ite (.or (.not (.val (.isi Ty.list (.var 16)))) (.or (.cmp .NotEq (.var 16) (.var 13)) (.one (.cmp .NotEq (.call "changed_days" %[8,10,.idx (.var 9) (.con (.int 0)),.idx (.var 9) (.con (.int 0))|0]) (.lst .nil))))) %[.ret (.con (.bl false))|0] .nil,.for_ (.one 17) (.seq (.var 16)) qaT|0]
def qaU:Ss:=qbW
def qeF:USs qaU qbW:=λ_ _ _ _=>(rfl)
def qmE:Nat×Nat×Ss:=(1,18,%[.set 1 (.call "_law_lands" %[.call "_law_cell_at" %[0,.con (.int 0)|0],.bin .Add (.con (.int 2)) (.bin .Mod (.bin .FloorDiv (.call "_law_cell_at" %[0,.con (.int 0)|0]) (.con (.int 512))) (.con (.int 3)))|0]),.set 2 (.bin .Mod (.call "_law_cell_at" %[0,.con (.int 1)|0]) (.bin .Sub (.bin .Pow (.con (.int 10)) (.con (.int 9))) (.con (.int 199)))),.set 3 (.comp qez (.seq (.bin .Add (.lst %[.call "_law_cell_at" %[0,.con (.int 2)|0]|0]) (.sli (.var 0) (.some (.con (.int 3))) (.some (.con (.int 6)))))) (.one 0) .yes 1 [1]),.set 4 (.comp qeA (.seq (.sli (.var 0) (.some (.con (.int 6))) (.some (.con (.int 9))))) (.one 0) .yes 1 [2,3]),.set 5 (.call "_law_stays" %[.stp 2 (.var 0) (.some (.con (.int 9))) (.some (.con (.int 29))),1,2|0]),.set 6 (.call "_law_stays" %[.stp 2 (.var 0) (.some (.con (.int 10))) (.some (.con (.int 30))),1,2|0]),.ite (.cmp .Eq (.bin .Mod (.bin .FloorDiv (.call "_law_cell_at" %[0,.con (.int 0)|0]) (.con (.int 7))) (.con (.int 2))) (.con (.int 1))) %[.set 6 (.bin .Add (.sli (.var 5) .none (.some (.bin .FloorDiv (.b1 .len (.var 5)) (.con (.int 2))))) (.comp QT (.seq (.var 6)) (.one 0) (.test (.or (.cmp .Eq (.var 1) (.lst .nil)) (.one (.cmp .Gt (.idx (.var 0) (.con (.int 1))) (.idx (.idx (.var 1) (.bin .FloorDiv (.b1 .len (.var 1)) (.con (.int 2)))) (.con (.int 2))))))) 1 [5]))|0] .nil,.set 8 (.new "Book" %[.comp qeB (.seq (.var 3)) (.one 0) .yes 1 [],4|0]),.set 9 (.lst %[.b1 .list (.var 5),.b1 .list (.var 6)|0]),.for_ (.many [10,7]) (.enum (.var 3)) qaU,.ret (.cmp .Eq (.var 9) (.lst %[5,6|0]))|0])
def qoi:RW pg "law" qmE:=%[64|1]
open Dy
open L2 hiding St
instance:PU pg:=⟨r_pieces_of⟩
section
variable{r:Ru}{f C:Int->Int}{lo:Int}
theorem cw_loop(cl:Cl)(hk:r.kd.isW=true)(hd:1<=r.days)(hlo:∀x,x < lo->f x=0)(hC:Cnt r.kd.isW r.days f C){m:Nat}(hm:m < 1000):∀(n i:Nat) (acc:List Int) (s0:Sl),i+n<=m->acc.length+n < 10000->
  zi cl zG (.one 0) .yes (rgF (i:Int) n) [s0,.val (ruD r),.val (.lst ((ws f lo m).map D.int))] (acc.map D.int)=.ok ((acc++ws C (lo+i) n).map D.int)
 |0,i,acc,s0,_,_=>by simp[ws,rgF,qS]
 | n+1,i,acc,s0,h,ha=>by
  have ih:=cw_loop cl hk hd hlo hC hm n (i+1) (acc++[C (lo+i)]) (.val (.int i)) (1:) (by simp;lia);obtain⟨l,e1,e2⟩:=qjh hk hd hlo (m:=m) (i:=i) (1:)
  have e2:l.sum=C (lo+i):=by rw[e2,hC.win hk];unfold win;rw[if_pos hk]
  have a3:atI [D.str r.kd.nm,.lst (r.lands.map lnD),.int r.most,.int r.days] 3=some (.int r.days):=rfl;have hz:(acc.map D.int).length < sizeLine:=by rw[aD];exact qr (1:)
  rw[show lo+((i+1:Nat):Int)=lo+i+1 by lia,show((i+1:Nat):Int)=(i:Int)+1 by lia]at ih;rw[ws];simp![a8,av,aK,aT,bN,bf,ruD]at ih ⊢;refine(qg _).symm.trans ?_;rw[rgF];simp?![y9,a3,e1,qm1,QG,e2,hz,ih]
theorem qeG(cl:Cl)(v1:Sl)(hk:r.kd.isW=false)(hd:1<=r.days)(hf:∀x,0<=f x)(hlo:∀x,x < lo->f x=0)(hC:Cnt r.kd.isW r.days f C):∀(n i:Nat) (acc:List Int) (s5:Sl),acc.length+n < 10000->
  ∃s3 s4 s5',j5 cl 1000 (.one 5) zH ((ws f (lo+i) n).map D.int) [.val (ruD r),v1,.own (acc.map D.int),.val (.int (fw f r.days lo i).1),.val (.int (fw f r.days lo i).2.1),s5]=.ok (.next [.val (ruD r),v1,.own ((acc++ws C (lo+i) n).map D.int),s3,s4,s5'])
 |0,i,acc,s5,_=>{.val (.int (fw f r.days lo i).1),.val (.int (fw f r.days lo i).2.1),s5,by simp[ws,jk]}
 | n+1,i,acc,s5,ha=>by
  have w:C (lo+i)=(fw f r.days lo (i+1)).1:=by
   have C':Cnt r.kd.isW r.days f (DG.cF f r.days lo):=by rw[hk];exact qoh hf hd hlo
   rw[C'.eq hC hd];unfold DG.cF;rw[if_neg (1:),show(lo+(i:Int)+1 - lo).toNat=i+1 by lia]
  obtain⟨s3,s4,s5',ih⟩:=qeG cl v1 hk hd hf hlo hC n (i+1) (acc++[C (lo+i)]) (.val (.int (f (lo+i)))) (by simp;lia);refine{s3,s4,s5',?_};have a3:atI [D.str r.kd.nm,.lst (r.lands.map lnD),.int r.most,.int r.days] 3=some (.int r.days):=rfl;have hz:(acc.map D.int).length < sizeLine:=by rw[aD];exact qr (1:)
  rw[show lo+((i+1:Nat):Int)=lo+i+1 by lia]at ih;rw[ws,ws,av];simp![a8,av,aK,aT,bN,bf,ruD]at ih ⊢;rw[w]at ih ⊢;have es:fw f r.days lo (i+1)=fwS r.days (fw f r.days lo i) i (f (lo+i)):=rfl;rw[es]at ih ⊢;unfold fwS at ih ⊢;dsimp only at ih ⊢;generalize fw f r.days lo i=S at ih ⊢;obtain⟨c,e,b⟩:=S;dsimp only at ih ⊢;have hq0:¬ r.days<=0:=by lia
  by_cases hw:0 < f (lo+i)
  ·rw[if_pos hw,if_neg hq0]at ih ⊢;simp?[zc,a3,hw,hq0,hz,ih]
  ·rw[if_neg hw]at ih ⊢
   by_cases hq:r.days<=e+1
   ·rw[if_pos hq]at ih ⊢;simp?[zc,a3,hw,hq,hz,ih]
   ·rw[if_neg hq]at ih ⊢;simp?[zc,a3,hw,hq,hz,ih]
def qpK(r:Ru):eqD (.str r.kd.nm) (.str "within")=some r.kd.isW:=by rw[yk (qob r.kd) (3:)];cases r.kd<;>rfl
theorem qeH(k:Nat)(hd:1<=r.days)(hf:∀x,0<=f x)(hlo:∀x,x < lo->f x=0)(hC:Cnt r.kd.isW r.days f C) :
  clK pg (k+1) "_law_counts" [.val (ruD r),.val (.lst ((ws f lo 110).map D.int))]=.ok (.tmp ((ws C lo 110).map D.int)):=by
 have a0:atI [D.str r.kd.nm,.lst (r.lands.map lnD),.int r.most,.int r.days] 0=some (.str r.kd.nm):=rfl;have ew:=qpK r;have s64:qR 110=true:=by decide
 have l64:((110:Int) - 0).toNat=110:=rfl;have c64:((110:Nat):Int)=110:=rfl;have z64:110<=sizeLine:=(3:)
 have z0:(0:Nat)<=sizeLine:=(3:)
 rw[QR]
 cases hk:r.kd.isW with
 |true=>have e:=cw_loop (pg.kk k) hk hd hlo hC (m:=110) (1:) 110 0 [] .no (1:) (5:);rw[show((0:Nat):Int)=0 from rfl,iu,aK,bf]at e;simp![ruD]at e ⊢;rw[hk]at ew;simp?![ju,a0,ew,aD,qbQ,s64,zx,l64,qaM,z64,qal,qeW,fH,fI,e,c64]
 |false=>obtain⟨s3,s4,s5,e⟩:=qeG (pg.kk k) (.val (.lst ((ws f lo 110).map D.int))) hk hd hf hlo hC 110 0 [] .no (5:);rw[show lo+((0:Nat):Int)=lo by lia,aK,bf]at e;simp![ruD,fw]at e ⊢;rw[hk]at ew;simp?![ju,a0,ew,z0,e]
end
theorem qhs(k:Nat)(b:Bool){ps:List Pa}{st:List DG.St}{start:Int}(hp:∀p∈ps,p.2.1<=p.2.2)(r:Ru)(nd:(r.lands.map (·.1)).Nodup)(j:Nat):∀(n:Nat) (i:Int) (acc:List Int) (s0:Sl),acc.length+n < 10000->
  zi (pg.kk (k+1)) jY (.one 0) .yes (rgF i n) [s0,.val (ruD r),.bor (ps.map paD),.val (.int (j:Int)),pS b (st.map stD),.val (.int start)] (acc.map D.int)=.ok ((acc++ws (wgt r (zJ j ps) st) (start+i) n).map D.int)
 |0,i,acc,s0,_=>by simp[ws,rgF,qS]
 | n+1,i,acc,s0,h=>by
  have ih:=qhs k b (st:=st) (start:=start) hp r nd j n (i+1) (acc++[wgt r (zJ j ps) st (start+i)]) (.val (.int i)) (by simp;lia);have w:=qmD (pg:=pg) k b r nd ps hp j st (start+i);have hz:(acc.map D.int).length < sizeLine:=by rw[aD];exact qr (1:)
  rw[show start+(i+1)=start+i+1 by lia]at ih;rw[ws];simp![a8,av,aK,aT,bN,bf]at ih ⊢;refine(qg _).symm.trans ?_;rw[rgF];simp?![YC,w,hz,ih]
def qmF(k:Nat)(b:Bool){ps:List Pa}{st:List DG.St}{start:Int}{C:Int->Int}(hp:∀p∈ps,p.2.1<=p.2.2)(r:Ru)(nd:(r.lands.map (·.1)).Nodup)(hd:1<=r.days)(j:Nat)(hf:∀x,0<=wgt r (zJ j ps) st x)(hlo:∀x,x < start->wgt r (zJ j ps) st x=0)(hC:Cnt r.kd.isW r.days (wgt r (zJ j ps) st) C) :
  clK pg (k+2) "_law_row" [.val (ruD r),.bor (ps.map paD),.val (.int (j:Int)),aL b (st.map stD),.val (.int start)]=.ok (.tmp ((ws C start 110).map D.int)):=by
 have wc:=qhs k b (st:=st) (start:=start) hp r nd j 110 0 [] .no (5:);rw[iu,aK,bf]at wc;have co:=qeH k hd hf hlo hC;have s64:qR 110=true:=by decide
 have l64:((110:Int) - 0).toNat=110:=rfl;have z64:110<=sizeLine:=(3:)
 rw[qcB];have lv:∀d,qeW (.val d)=.val d:=λ_=>rfl;have lb:∀l,qeW (.bor l)=.bor l:=λ_=>rfl;have lp:qeW (pS b (st.map stD))=pS b (st.map stD):=by cases b<;>rfl
 simp?![Y3,s64,zx,l64,qaM,z64,qal,lv,lb,lp,fH,fI,wc,co]
def fl(g:Int->Bool):Int->Nat->List D
 |_,0=>[]
 | lo,n+1=>.bl (g lo)::fl g (lo+1) n
theorem qji(g:Int->Bool):∀(n:Nat) (lo:Int) (j:Nat),j < n->(fl g lo n)[j]?=some (.bl (g (lo+j)))
 |0,_,_,h=>by lia
 | n+1,lo,0,_=>by rw[fl,List.getElem?_cons_zero,show lo+((0:Nat):Int)=lo by lia]
 | n+1,lo,j+1,h=>by rw[fl,kP,qji g n (lo+1) j (1:),show lo+1+(j:Int)=lo+((j+1:Nat):Int) by lia]
structure FI(g:Int->Bool)(lo:Int)(i:Nat)(acc:List Pr):Prop where
 s:Spr acc
 d:∀x,Day acc x↔(lo<=x/\x < lo+i/\g x=true)
def qbX{a:List Pr}{p:Pr}{x:Int}:Day (a++[p]) x↔Day a x\/(p.1<=x/\x<=p.2):=by
 unfold Day;simp![aW,bo];constructor
 ·rintro⟨q,hq|rfl,h⟩
  ·exact .inl ⟨q,hq,h⟩
  ·exact .inr h
 ·rintro (⟨q,hq,h⟩|h)
  ·exact{q,.inl hq,h}
  ·exact{p,.inr rfl,h}
def JM{a:List Pr}{p:Pr}:Spr (a++[p])↔Spr a/\p.1<=p.2/\∀q∈a,q.2+2<=p.1:=by
 constructor
 ·intro h;have g:=bQ.mp h.gap;exact{{λq hq=>h.ok q (by simp[hq]),g.1},h.ok p (5:),λq hq=>g.2.2 q hq p (5:)}
 ·rintro⟨h1,h2,h3⟩;refine{λq hq=>?_,bQ.mpr {h1.gap,by simp,λq hq x hx=>?_}}
  ·rcases aW.mp hq with hq|hq
   ·exact h1.ok q hq
   ·rw[bo.mp hq];exact h2
  ·rw[bo.mp hx];exact h3 q hq
section
variable{g:Int->Bool}{lo:Int}{i:Nat}{acc:List Pr}
def FI.end_(h:FI g lo i acc){p:Pr}(hp:p∈acc):p.2 < lo+i/\g p.2=true/\lo<=p.2:=by
 have:=(h.d p.2).mp ⟨p,hp,h.s.ok p hp,a9 _⟩
 exact⟨this.2.1,this.2.2,this.1⟩
def FI.off(h:FI g lo i acc)(hg:g (lo+i)=false):FI g lo (i+1) acc:={h.s,λx=>by
 rw[h.d x];constructor
 ·rintro⟨a,b,c⟩;exact{a,by lia,c}
 ·rintro⟨a,b,c⟩;refine{a,?_,c}
  by_cases e:x=lo+i
  ·rw[e,hg]at c;cases c
  ·lia}
def FI.new(h:FI g lo i acc)(hg:g (lo+i)=true)(hb:i=0\/g (lo+i - 1)=false):FI g lo (i+1) (acc++[(lo+i,lo+i)]):=by
 refine{JM.mpr {h.s,a9 _,λq hq=>?_},λx=>?_}
 ·obtain⟨a,b,c⟩:=h.end_ hq;rcases hb with hb|hb
  ·dsimp only;lia
  ·have:q.2≠lo+i - 1:=λe=>by rw[e,hb]at b;cases b
   dsimp only
   lia
 ·rw[qbX,h.d x];dsimp only;constructor
  ·rintro (⟨a,b,c⟩|⟨a,b⟩)
   ·exact{a,by lia,c}
   ·obtain rfl:x=lo+i:=by lia
    exact{by lia,by lia,hg}
  ·rintro⟨a,b,c⟩
   by_cases e:x=lo+i
   ·exact .inr ⟨by lia,by lia⟩
   ·exact .inl ⟨a,by lia,c⟩
def FI.last(h:FI g lo i acc)(h0:0 < i)(hb:g (lo+i - 1)=true):∃(a:List Pr) (b:Int),acc=a++[(b,lo+i - 1)]:=by
 obtain⟨p,hp,p1,p2⟩:=(h.d (lo+i - 1)).mpr ⟨by lia,by lia,hb⟩;have e:=(h.end_ hp).1;rcases QC acc with rfl|⟨a,l,rfl⟩
 ·cases hp
 ·obtain⟨s1,s2,s3⟩:=JM.mp h.s;have el:=(h.end_ (p:=l) (5:)).1;rcases aW.mp hp with hp|hp
  ·have:=s3 p hp
   omega
  ·cases bo.mp hp;refine{a,p.1,?_};rw[show lo+(i:Int) - 1=p.2 by lia]
def FI.on{a:List Pr}{b:Int}(h:FI g lo i (a++[(b,lo+i - 1)]))(hg:g (lo+i)=true):FI g lo (i+1) (a++[(b,lo+i)]):=by
 obtain⟨s1,s2,s3⟩:=JM.mp h.s;refine{JM.mpr {s1,by dsimp only at s2 ⊢;lia,s3},λx=>?_};have hx:=h.d x;rw[qbX]at hx ⊢;dsimp only at hx s2 ⊢;constructor
 ·rintro (y|⟨y,z⟩)
  ·have:=hx.mp (.inl y)
   exact{this.1,by omega,this.2.2}
  ·by_cases e:x=lo+i
   ·exact{by lia,by lia,by rw[e];exact hg}
   ·have:=hx.mp (.inr ⟨y,by lia⟩)
    exact{this.1,by lia,this.2.2}
 ·rintro⟨y,z,c⟩
  by_cases e:x=lo+i
  ·exact .inr ⟨by lia,by lia⟩
  ·rcases hx.mpr ⟨y,by lia,c⟩ with y|⟨y,z⟩
   ·exact .inl y
   ·exact .inr ⟨y,by omega⟩
end
theorem zB(cl:Cl)(g:Int->Bool)(lo:Int)(m:Nat)(hm:m < 1000):∀(n i:Nat) (acc:List Pr) (s3 s4:Sl),i+n=m->acc.length<=i->FI g lo i acc->
  ∃(acc':List Pr) (s3' s4':Sl),j5 cl 1000 (.many [3,4]) qU (enF i (fl g (lo+i) n)) [.val (.lst (fl g lo m)),.val (.int lo),.own (acc.map pD),s3,s4]=.ok (.next [.val (.lst (fl g lo m)),.val (.int lo),.own (acc'.map pD),s3',s4'])/\FI g lo m acc'/\acc'.length<=m
 |0,i,acc,s3,s4,hi,hl,h=>{acc,s3,s4,rfl,by rw[<-hi];exact h,by lia}
 | n+1,i,acc,s3,s4,hi,hl,h=>by
  rw[fl,enF];have two:0+1+1<=sizeLine:=(3:)
  have hs:(acc.map pD).length < sizeLine:=by rw[aD];exact qr (1:)
  have nx:∀acc2:List Pr,acc2.length<=i+1->FI g lo (i+1) acc2->∃(acc':List Pr) (s3' s4':Sl),j5 cl 1000 (.many [3,4]) qU (enF (i+1) (fl g (lo+i+1) n)) [.val (.lst (fl g lo m)),.val (.int lo),.own (acc2.map pD),.val (.int i),.val (.bl (g (lo+i)))]=.ok (.next [.val (.lst (fl g lo m)),.val (.int lo),.own (acc'.map pD),s3',s4'])/\FI g lo m acc'/\acc'.length<=m:=λacc2 q1 q2=>by
   have:=zB cl g lo m hm n (i+1) acc2 (.val (.int i)) (.val (.bl (g (lo+i)))) (1:) q1 q2
   rw[show lo+((i+1:Nat):Int)=lo+i+1 by lia]at this;exact this
  cases hg:g (lo+i) with
  |false=>rw[hg]at nx;obtain⟨acc',s3',s4',ih,i1,i2⟩:=nx acc (1:) (h.off hg);refine{acc',s3',s4',?_,i1,i2};simp?[qG,ih]
  |true=>
   rw[hg]at nx
   by_cases hb:0 < i/\g (lo+i - 1)=true
   ·obtain⟨a,b,rfl⟩:=h.last hb.1 hb.2;obtain⟨acc',s3',s4',ih,i1,i2⟩:=nx (a++[(b,lo+i)]) (by simpa using by simp at hl;lia) (h.on hg);refine{acc',s3',s4',?_,i1,i2};have p0:(0:Int) < (i:Int):=by omega
    have at1:atI (fl g lo m) ((i:Int) - 1)=some (.bl true):=by rw[show(i:Int) - 1=((i - 1:Nat):Int) by lia];refine qg8 ?_;rw[qji _ _ _ _ (1:),show lo+((i - 1:Nat):Int)=lo+i - 1 by lia,hb.2]
    have ix:ixN (a.length+1) (((a.length+1:Nat):Int) - 1)=some a.length:=by
     rw[show((a.length+1:Nat):Int) - 1=(a.length:Int) by lia];unfold ixN;simp
     lia
    have at2:atI (a.map pD++[D.tup [.int b,.int (lo+i - 1)]]) (((a.length+1:Nat):Int) - 1)=some (.tup [.int b,.int (lo+i - 1)]):=by rw[show((a.length+1:Nat):Int) - 1=(a.length:Int) by lia];refine qg8 ?_;rw[cZ (5:)];simp
    have st:(a.map pD++[D.tup [.int b,.int (lo+i - 1)]]).set a.length (.tup [.int b,.int (lo+i)])=a.map pD++[D.tup [.int b,.int (lo+i)]]:=by rw[me _ _ (5:)];simp
    simp![a8,av,aK,zI]at ih ⊢;simp?[qG,p0,at1,at2,ix,st,two,bq,aD,aQ,kF,ih]
   ·have hb':i=0\/g (lo+i - 1)=false:=by
     by_cases q:i=0
     ·exact .inl q
     ·exact .inr (by cases z:g (lo+i - 1) with |false=>rfl |true=>exact absurd ⟨by lia,z⟩ hb)
    obtain⟨acc',s3',s4',ih,i1,i2⟩:=nx (acc++[(lo+i,lo+i)]) (-hl:) (h.new hg hb');refine{acc',s3',s4',?_,i1,i2};simp![a8,av,aK,zI]at ih ⊢
    by_cases q:i=0
    ·have p0:¬ (0:Int) < (i:Int):=by omega
     simp?[qG,p0,two,hs,ih]
    ·have p0:(0:Int) < (i:Int):=by lia
     have at1:atI (fl g lo m) ((i:Int) - 1)=some (.bl false):=by
      rw[show(i:Int) - 1=((i - 1:Nat):Int) by lia];refine qg8 ?_;rw[qji _ _ _ _ (1:),show lo+((i - 1:Nat):Int)=lo+i - 1 by lia];rcases hb' with z|z
      ·exact absurd z q
      ·rw[z]
     simp?[qG,p0,at1,two,hs,ih]
def yD(k:Nat)(g:Int->Bool)(lo:Int):∃F:List Pr,FI g lo 110 F/\clK pg (k+1) "_law_spread" [.val (.lst (fl g lo 110)),.val (.int lo)]=.ok (.tmp (F.map pD)):=by obtain⟨F,s3,s4,e,h,_⟩:=zB (pg.kk k) g lo 110 (1:) 110 0 [] .no .no rfl (az _) ⟨⟨λp hp=>(by cases hp),.nil⟩,λx=>{λ⟨p,hp,_⟩=>(by cases hp),λh=>by lia}⟩;refine{F,h,?_};rw[show lo+((0:Nat):Int)=lo by lia,aK]at e;rw[QS];simp?![yQ,show(0:Nat)<=sizeLine by decide+kernel,JJ,e]
theorem Yq:∀(st:List DG.St),(∀s∈st,NameOk s.1)->qby (st.map stD)=true/\qaF (st.map stD)<=60
 |[],_=>by simp[qby,qaF]
 | s::l,h=>by
  obtain⟨a,b⟩:=Yq l λt ht=>h t (by simp[ht]);have n:=JL (h s (5:));rw[av,z9];refine{by simp[qby,okD,n,a],?_};simp![qaF,dpD]
  lia
theorem qab:∀(l:List Pr),qby (l.map pD)=true/\qaF (l.map pD)<=60
 |[]=>by simp[qby,qaF]
 | p::l=>by
  obtain⟨a,b⟩:=qab l;rw[av,zI];refine{by simp[qby,okD,a],?_};simp![qaF,dpD]
  lia
structure Sx(start:Int)(st:List DG.St):Prop where
 nm:∀s∈st,NameOk s.1
 ch:Ch (start - 1) st
 hi:∀s∈st,s.2.2<=start+59
 len:st.length<=16
structure Bk(rs:List Ru)(ps:List Pa)(n:Nat)(r:Ru):Prop where
 hn:rs[n]?=some r
 rok:RuOk r
 hp:ps.length<=3
 po:∀p∈ps,p.2.1<=p.2.2
section
variable{rs:List Ru}{ps:List Pa}{n:Nat}{r:Ru}{start:Int}{sa sb:List DG.St}
abbrev cA(ps:List Pa)(n:Nat)(r:Ru)(st:List DG.St):Int->Int:=qC r (Jl st (r,zJ n ps))
def qac(h:ps.length<=3)(po:∀p∈ps,p.2.1<=p.2.2)(n:Nat):(zJ n ps).length<=3/\Spr (zJ n ps):=by
 have q:∀p∈ofN (n:Int) ps,p.1<=p.2:=λp hp=>by unfold ofN at hp;obtain⟨q,hq,rfl⟩:=dU.mp hp;exact po q (fe.mp hq).1
 have h1:=qi8 q;have h2:=qd7 (n:Int) ps;unfold zJ;exact{by lia,qd2 q}
def Bk.rlw(h:Bk rs ps n r):Rlw (r,zJ n ps):={h.rok.ok,h.rok.d0,h.rok.m0,(qac h.hp h.po n).2,by have:=(qac h.hp h.po n).1;dsimp only;lia}
def Sx.out(h:Sx start sa)(lf:List (Int×Int)){x:Int}(hx:x < start\/start+59 < x):wgt r lf sa x=0:=qec (qaP.mpr λs hs hi=>by
 have a:=h.hi s hs;have b:=DG.Ch.lo h.ch s hs
 lia)
def qmG(h:Bk rs ps n r)(hs:Sx start sa):Cnt r.kd.isW r.days (wgt r (zJ n ps) sa) (cA ps n r sa):=qof h.rlw hs.ch.w
def qeI(k:Nat)(b:Bool)(h:Bk rs ps n r)(hs:Sx start sa) :
  clK pg (k+2) "_law_row" [.val (ruD r),.bor (ps.map paD),.val (.int (n:Int)),aL b (sa.map stD),.val (.int start)]=.ok (.tmp ((ws (cA ps n r sa) start 110).map D.int)):=
 qmF k b h.po r h.rok.nd h.rok.d0 n (λx=>qmq h.rok.ok _ _ x) (λx hx=>hs.out _ (.inl hx)) (qmG h hs)
def qmH(h:Bk rs ps n r)(hs:Sx start sa){x:Int}(hx:x < start\/start+110<=x):cA ps n r sa x=0:=by
 have C:=qmG h hs;have d1:=h.rok.d1;rcases hx with hx|hx
 ·exact C.zero_lo (λy hy=>hs.out _ (.inl (1:))) h.rok.d0
 ·exact C.zero_hi (λy y1 y2=>hs.out _ (.inr (1:))) h.rok.d0
def qaV(h:Bk rs ps n r)(hs:Sx start sa):(Jl sa (r,zJ n ps)).length<=80:=by
 have a:(Jl sa (r,zJ n ps)).length<=sa.length * ((zJ n ps).length+2):=Yl r (zJ n ps) sa;have b:=(qac h.hp h.po n).1;have c:sa.length * ((zJ n ps).length+2)<=16 * 5:=Nat.mul_le_mul hs.len (1:)
 lia
def gF(A B:Int->Int)(d:Int):Bool:=!(A d == B d)
def qeJ(h:Bk rs ps n r)(h0:0<=start)(ha:Sx start sa)(hb:Sx start sb):∃F:List Pr,
  clK pg 19 "_law_spread" [.val (.lst (fl (gF (cA ps n r sa) (cA ps n r sb)) start 110)),.val (.int start)]=.ok (.tmp (F.map pD))/\
  ∀b1 b2,clK pg 19 "changed_days" [.val (bkI rs ps),.val (.int (n:Int)),aL b1 (sa.map stD),aL b2 (sb.map stD)]=.ok (.tmp (F.map pD)):=by
 obtain⟨F,hF,e⟩:=yD 18 (gF (cA ps n r sa) (cA ps n r sb)) start;refine{F,e,λb1 b2=>?_};have pa:=qbM h.rlw ha.ch.w;have pb:=qbM h.rlw hb.ch.w;obtain⟨s1,s2⟩:=qho pa pb (Yo h.rok.d0 pa) (Yo h.rok.d0 pb) h.rok.d0;have l3:=(qac h.hp h.po n).1;have la:=ha.len;have lb:=hb.len;have q1:=qaV h ha;have q2:=qaV h hb;have hp:=h.hp;have c:=Y2 (pg:=pg) 11 b1 b2 rs ps (1:) n r h.hn h.rok.d0 h.rok.ok (1:) sa sb ha.nm hb.nm (Ch.weak (1:) ha.ch) (Ch.weak (1:) hb.ch) (1:) (1:) pa pb (1:);rw[c]
 have:F=chg r.kd.isW r.days (Jl sa (r,zJ n ps)) (Jl sb (r,zJ n ps)) (qC r (Jl sa (r,zJ n ps))) (qC r (Jl sb (r,zJ n ps))):=hF.s.same s1 λd=>by
  rw[hF.d d,s2 d];unfold gF;constructor
  ·rintro⟨_,_,z⟩ q;simp[q]at z
  ·intro z
   by_cases o:d < start\/start+110<=d
   ·exact absurd ((qmH h ha o).trans (qmH h hb o).symm) z
   ·exact{by lia,by lia,by simp[z]}
 rw[this]
def qjj(h:Bk rs ps n r)(h0:0<=start)(ha:Sx start sa)(b1 b2:Bool):clK pg 19 "changed_days" [.val (bkI rs ps),.val (.int (n:Int)),aL b1 (sa.map stD),aL b2 (sa.map stD)]=.ok (.tmp []):=by
 have pa:=qbM h.rlw ha.ch.w;obtain⟨s1,s2⟩:=qho pa pa (Yo h.rok.d0 pa) (Yo h.rok.d0 pa) h.rok.d0;have l3:=(qac h.hp h.po n).1;have la:=ha.len;have q1:=qaV h ha;have hp:=h.hp;have c:=Y2 (pg:=pg) 11 b1 b2 rs ps (1:) n r h.hn h.rok.d0 h.rok.ok (1:) sa sa ha.nm ha.nm (Ch.weak (1:) ha.ch) (Ch.weak (1:) ha.ch) (1:) (1:) pa pa (1:);generalize chg r.kd.isW r.days (Jl sa (r,zJ n ps)) (Jl sa (r,zJ n ps)) (qC r (Jl sa (r,zJ n ps))) (qC r (Jl sa (r,zJ n ps)))=F at *
 obtain rfl:F=[]:=by
  cases F with
  |nil=>rfl
  |cons p l=>exact absurd rfl ((s2 p.1).mp ⟨p,by simp,a9 _,s1.ok p (5:)⟩)
 exact c
end
theorem Yr(cl:Cl)(A B:Int->Int):∀(n:Nat) (lo:Int) (acc:List D) (s0 s1:Sl),acc.length+n < 10000->
  zi cl qaS (.many [0,1]) .yes (YI ((ws A lo n).map D.int) ((ws B lo n).map D.int)) [s0,s1] acc=.ok (acc++fl (gF A B) lo n)
 |0,lo,acc,s0,s1,_=>by simp[ws,YI,fl,qS]
 | n+1,lo,acc,s0,s1,h=>by have ih:=Yr cl A B n (lo+1) (acc++[.bl (gF A B lo)]) (.val (.int (A lo))) (.val (.int (B lo))) (by simp;lia);have hz:acc.length < sizeLine:=qr (1:);have ez:YI ((ws A lo (n+1)).map D.int) ((ws B lo (n+1)).map D.int)=.tup [.int (A lo),.int (B lo)]::YI ((ws A (lo+1) n).map D.int) ((ws B (lo+1) n).map D.int):=rfl;rw[ez,fl];simp![aT,bN,bf,gF]at ih ⊢;simp?[qeC,qD,hz,ih]
theorem Y4(cl:Cl)(v0 v1 v2 v3 v4 v5 v6 v7 v8 v9 v10 v11 v12 v13 v14 v15 v16:Sl):∀(F:List Pr) (s17:Sl),∃s17',j5 cl 1000 (.one 17) qaT (F.map pD) [v0,v1,v2,v3,v4,v5,v6,v7,v8,v9,v10,v11,v12,v13,v14,v15,v16,s17]=.ok (.next [v0,v1,v2,v3,v4,v5,v6,v7,v8,v9,v10,v11,v12,v13,v14,v15,v16,s17'])
 |[],s17=>⟨s17,rfl⟩
 | p::F,s17=>by obtain⟨s17',ih⟩:=Y4 cl v0 v1 v2 v3 v4 v5 v6 v7 v8 v9 v10 v11 v12 v13 v14 v15 v16 F (.val (pD p));refine{s17',?_};simp![zI]at ih;rw[av];simp?[qeE,zI,ih]
def kpF(old:List DG.St)(s:DG.St):Bool:=match old[old.length / 2]? with
 |none=>true
 |some t=>decide (t.2.2 < s.2.1)
def qad(l:List D)(i:Nat):Qo l none (some (i:Int))=l.take i:=by
 unfold Qo;rw[HT.Y7,HT.yh];simp![gq,Nat.sub_zero]
 by_cases h:i<=l.length
 ·rw[eR h]
 ·rw[Nat.min_eq_right (1:),gj,gf (1:)]
def qmI(n:Nat)(l:List D)(h:n<=l.length):Qo l (some (n:Int)) none=l.drop n:=by unfold Qo;rw[HT.yh,HT.Y7];simp[gf,eR h]
def qae(ns:List Int)(a b:Nat)(h:b<=a+20):∃ms:List Int,Yw (ns.map D.int) (some (a:Int)) (some (b:Int)) 2=ms.map D.int/\ms.length<=10:=by
 have gen:∀is:List Nat,is.filterMap ((ns.map D.int)[·]?)=(is.filterMap (ns[·]?)).map D.int:=λis=>by
  induction is with
  |nil=>rfl
  |cons i is ih=>rw[cx,cx,bE,ih];cases ns[i]?<;>rfl
 unfold Yw;rw[gen];refine{_,rfl,bz (List.length_filterMap_le ..) ?_};rw[aD]
 have e1:(bT (some (a:Int)) (some (b:Int)) (some 2) ns.length).1=max 0 (min (a:Int) ns.length):=by
  simp[bT]
  lia
 have e2:(bT (some (a:Int)) (some (b:Int)) (some 2) ns.length).2.1=max 0 (min (b:Int) ns.length):=by
  simp[bT]
  lia
 have e3:(bT (some (a:Int)) (some (b:Int)) (some 2) ns.length).2.2=2:=rfl;rw[e1,e2,e3];generalize ns.length=m;unfold fW;simp![aD,kG]
 split<;>lia
theorem Ys(cl:Cl)(old:List DG.St)(ho:∀s∈old,NameOk s.1):∀(l acc:List DG.St) (s0:Sl),acc.length+l.length < 10000->
  zi cl QT (.one 0) (F.test (T.or (T.cmp CmpOp.Eq (E.var 1) (E.lst Es.nil)) (T.one (T.cmp CmpOp.Gt (E.idx (E.var 0) (E.con (D.int 1))) (E.idx (E.idx (E.var 1) (E.bin Operator.FloorDiv (E.b1 B1.len (E.var 1)) (E.con (D.int 2)))) (E.con (D.int 2))))))) (l.map stD) [s0,.bor (old.map stD)] (acc.map stD)=.ok ((acc++l.filter (kpF old)).map stD)
 |[],acc,s0,_=>by simp[qS]
 | s::l,acc,s0,h=>by
  rw[aQ]at h;have z0:(0:Nat)<=sizeLine:=(3:)
  have hz:(acc.map stD).length < sizeLine:=by rw[aD];exact qr (1:)
  have hy:acc.length < sizeLine:=qr (1:);have ih1:=Ys cl old ho l (acc++[s]) (.val (stD s)) (by simp;lia);have ih2:=Ys cl old ho l acc (.val (stD s)) (1:)
  have eq0:eqD (.lst (old.map stD)) (.lst [])=some old.isEmpty:=by rw[qiU (Yq old ho).1 (by have:=(Yq old ho).2;lia),List.isEmpty_map]
  have a1:atI [D.str s.1,.int s.2.1,.int s.2.2] 1=some (.int s.2.1):=rfl;rw[kZ];simp![a8,av,aK,z9,aT,bN,bf]at ih1 ih2 ⊢
  cases ho':old with
  |nil=>have kp:kpF ([]:List DG.St) s=true:=rfl;rw[ho']at eq0 ih1;rw[kp,if_pos rfl];simp![a8,av,aK,z9,aT,bN,bf]at ih1 eq0 ⊢;have eq0:eqD (.lst []) (.lst [])=some true:=eq0;simp?[Yp,z0,eq0,hz,ih1]
  |cons q qs=>
   rw[<-ho'];have hl:old.length / 2 < old.length:=by rw[ho',aQ];lia
   obtain⟨t,ht⟩:∃t,old[old.length / 2]?=some t:={_,bK hl};have e0:old.isEmpty=false:=by rw[ho'];rfl
   rw[e0]at eq0
   have a2:atI (old.map stD) ((old.length:Int) / 2)=some (.tup [.str t.1,.int t.2.1,.int t.2.2]):=by rw[show(old.length:Int) / 2=((old.length / 2:Nat):Int) by lia];exact qg8 (by rw[bE,ht];rfl)
   have a3:atI [D.str t.1,.int t.2.1,.int t.2.2] 2=some (.int t.2.2):=rfl;have kp:kpF old s=decide (t.2.2 < s.2.1):=by unfold kpF;rw[ht]
   rw[kp]
   by_cases hk:t.2.2 < s.2.1
   ·rw[if_pos (by simp[hk])];simp![a8,av,aK,z9,aT,bN,bf];simp?[Yp,z0,eq0,a1,a2,a3,aD,hk,hy,ih1]
   ·rw[if_neg (by simp[hk])];simp?[Yp,z0,eq0,a1,a2,a3,aD,hk,hy,ih2]
theorem qaW:∀(n:Nat) {st:List DG.St} {e:Int},Ch e st->Ch e (st.take n)
 |0,_,_,_=>by simp[Ch]
 | n+1,[],_,_=>by simp[Ch]
 | n+1,s::l,_,h=>{h.1,qaW n h.2}
theorem yR(p:DG.St->Bool):∀{st:List DG.St} {e:Int},Ch e st->Ch e (st.filter p)
 |[],_,h=>h
 | s::l,e,h=>by
  rw[kZ];split
  ·exact{h.1,yR p h.2}
  ·exact yR p (Ch.weak (by have:=DG.Ch.lo h s (5:);lia) h.2)
theorem qoj{t:Int}:∀{st:List DG.St} {e:Int},Ch e st->(∀s∈st,t < s.2.1)->0<=t->Ch t st
 |[],_,_,_,_=>trivial
 | s::l,e,h,h',_=>by obtain⟨⟨a,b,c,d⟩,g⟩:=h;exact{{a,h' s (5:),c,d},g}
theorem qht{t:Int}{l:List DG.St}(hl:Ch t l):∀{a:List DG.St} {e:Int},Ch e a->e<=t->(∀s∈a,s.2.2<=t)->Ch e (a++l)
 |[],e,_,h,_=>Ch.weak h hl
 | s::a,e,h,h1,h2=>{h.1,qht hl h.2 (h2 s (5:)) λx hx=>h2 x (by simp[hx])}
theorem qeK:∀{st:List DG.St} {e:Int} (i:Nat) {t:DG.St},Ch e st->st[i]?=some t->∀s∈st.take i,s.2.2 < t.2.1
 |[],_,_,_,_,ht,_,_=>by simp at ht
 | s::l,e,0,t,h,ht,x,hx=>by simp at hx
 | s::l,e,i+1,t,h,ht,x,hx=>by
  rw[kP]at ht;rw[List.take_succ_cons]at hx;rcases aF.mp hx with rfl|hx
  ·exact(DG.Ch.lo h.2 t (dn ht)).1
  ·exact qeK i h.2 ht x hx
def Sx.new{start:Int}{old new:List DG.St}(h0:0<=start)(ho:Sx start old)(hn:Sx start new)(l1:old.length<=10)(l2:new.length<=10):Sx start (old.take (old.length / 2)++new.filter (kpF old)):=by
 have mem:∀s∈old.take (old.length / 2)++new.filter (kpF old),s∈old\/s∈new:=λs hs=>(aW.mp hs).imp gi λh=>(fe.mp h).1;refine{λs hs=>(mem s hs).elim (ho.nm s) (hn.nm s),?_,λs hs=>(mem s hs).elim (ho.hi s) (hn.hi s),?_}
 ·cases e:old[old.length / 2]? with
  |none=>
   have:old.length=0:=by
    have:=gX.mp e
    lia
   rw[dH.mp this];exact yR _ hn.ch
  |some t=>
   have lo:=DG.Ch.lo ho.ch t (dn e);refine qht (t:=t.2.2) (qoj (yR _ hn.ch) (λs hs=>?_) (1:)) (qaW _ ho.ch) (1:) λs hs=>?_
   ·have:=(fe.mp hs).2
    unfold kpF at this;rw[e]at this
    simpa using this
   ·have:=qeK _ ho.ch e s hs
    lia
 ·have:=kT (kpF old) new
  simp![bq,gZ]
  lia
theorem qbY{rs:List Ru}{ps:List Pa}{start:Int}{sa sb:List DG.St}(h0:0<=start)(hp:ps.length<=3)(po:∀p∈ps,p.2.1<=p.2.2)(ha:Sx start sa)(hb:Sx start sb)(v0 v1 v3:Sl):∀(rest:List Ru) (j:Nat) (s7 s10 s11 s12 s13 s14 s15 s16 s17:Sl),(∀r∈rest,RuOk r)->(∀(m:Nat) r,rest[m]?=some r->rs[j+m]?=some r)->
  ∃s7' s10' s11' s12' s13' s14' s15' s16' s17',j5 (pg.kk 19) 1000 (.many [10,7]) qaU (enF j (rest.map ruD)) [v0,v1,.val (.int start),v3,.own (ps.map paD),.own (sa.map stD),.own (sb.map stD),s7,.val (bkI rs ps),.own [.lst (sa.map stD),.lst (sb.map stD)],s10,s11,s12,s13,s14,s15,s16,s17]
   = .ok (.next [v0,v1,.val (.int start),v3,.own (ps.map paD),.own (sa.map stD),.own (sb.map stD),s7',.val (bkI rs ps),.own [.lst (sa.map stD),.lst (sb.map stD)],s10',s11',s12',s13',s14',s15',s16',s17'])
 |[],j,s7,s10,s11,s12,s13,s14,s15,s16,s17,_,_=>⟨s7,s10,s11,s12,s13,s14,s15,s16,s17,rfl⟩
 | r::rest,j,s7,s10,s11,s12,s13,s14,s15,s16,s17,hr,h=>by
  have hk:Bk rs ps j r:={h 0 r rfl,hr r (5:),hp,po};have hc:Sx start (sa.take (sa.length / 2)):={λs hs=>ha.nm s (gi hs),qaW _ ha.ch,λs hs=>ha.hi s (gi hs),by have:=ha.len;simp;lia};have r1:clK pg 19 "_law_row" [.val (ruD r),.bor (ps.map paD),.val (.int (j:Int)),.bor (sa.map stD),.val (.int start)]=_:=qeI 17 true hk ha;have r2:clK pg 19 "_law_row" [.val (ruD r),.bor (ps.map paD),.val (.int (j:Int)),.bor (sb.map stD),.val (.int start)]=_:=qeI 17 true hk hb;have r3:clK pg 19 "_law_row" [.val (ruD r),.bor (ps.map paD),.val (.int (j:Int)),.val (.lst ((sa.take (sa.length / 2)).map stD)),.val (.int start)]=_:=qeI 17 false hk hc;obtain⟨F,f1,f2⟩:=qeJ hk h0 ha hb;obtain⟨G,g1,g2⟩:=qeJ hk h0 hc hb;have f2:clK pg 19 "changed_days" [.val (bkI rs ps),.val (.int (j:Int)),.bor (sa.map stD),.val (.lst (sb.map stD))]=_:=f2 true false;have g2:clK pg 19 "changed_days" [.val (bkI rs ps),.val (.int (j:Int)),.bor ((sa.take (sa.length / 2)).map stD),.val (.lst (sb.map stD))]=_:=g2 true false;have se:clK pg 19 "changed_days" [.val (bkI rs ps),.val (.int (j:Int)),.val (.lst (sa.map stD)),.val (.lst (sa.map stD))]=_:=qjj hk h0 ha false false;have c1:=Yr (pg.kk 19) (cA ps j r sa) (cA ps j r sb) 110 start [] .no .no (5:);have c2:=Yr (pg.kk 19) (cA ps j r (sa.take (sa.length / 2))) (cA ps j r sb) 110 start [] .no .no (5:);rw[bf]at c1 c2;have c2:zi (pg.kk 19) qeD (.many [0,1]) .yes (YI ((ws (cA ps j r (sa.take (sa.length / 2))) start 110).map D.int) ((ws (cA ps j r sb) start 110).map D.int)) [.no,.no] []=_:=c2;have zl:∀A B:Int->Int,(YI ((ws A start 110).map D.int) ((ws B start 110).map D.int)).length=110:=λA B=>by simp[YI,qbQ]
  have z64:110<=sizeLine:=(3:)
  have z0:(0:Nat)<=sizeLine:=(3:)
  have t1:Qo (sa.map stD) none (some ((sa.length:Int) / 2))=(sa.take (sa.length / 2)).map stD:=by rw[show(sa.length:Int) / 2=((sa.length / 2:Nat):Int) by lia,qad,ir]
  have t2:Qo (sa.map stD) (some ((sa.length:Int) / 2)) none=(sa.drop (sa.length / 2)).map stD:=by rw[show(sa.length:Int) / 2=((sa.length / 2:Nat):Int) by lia,qmI _ _ (by rw[aD];lia),kU]
  have t3:(sa.take (sa.length / 2)).map stD++(sa.drop (sa.length / 2)).map stD=sa.map stD:=by rw[<-a8,g8]
  have t4:(sa.take (sa.length / 2)).length+(sa.drop (sa.length / 2)).length<=sizeLine:=qN (by have:=ha.len;simp;lia);have t5:(sa.take (sa.length / 2)).length<=sizeLine:=qN (by have:=ha.len;simp;lia);have q1:eqD (.lst (F.map pD)) (.lst (F.map pD))=some true:=JI (by rw[okD];exact(qab F).1) (by rw[dpD];have:=(qab F).2;lia);have q2:eqD (.lst (G.map pD)) (.lst (G.map pD))=some true:=JI (by rw[okD];exact(qab G).1) (by rw[dpD];have:=(qab G).2;lia);have q3:eqD (.lst []) (.lst [])=some true:=JI (by simp[okD,qby]) (by simp[dpD,qaF]);have i0:atI [D.lst (sa.map stD),.lst (sb.map stD)] 0=some (.lst (sa.map stD)):=rfl;have i1:atI [D.lst (sa.map stD),.lst (sb.map stD)] 1=some (.lst (sb.map stD)):=rfl;obtain⟨s17a,lp⟩:=Y4 (pg.kk 19) v0 v1 (.val (.int start)) v3 (.own (ps.map paD)) (.own (sa.map stD)) (.own (sb.map stD)) (.val (ruD r)) (.val (bkI rs ps)) (.own [.lst (sa.map stD),.lst (sb.map stD)]) (.val (.int (j:Int))) (.val (.lst ((ws (cA ps j r sa) start 110).map D.int))) (.val (.lst ((ws (cA ps j r sb) start 110).map D.int))) (.own (F.map pD)) (.own (G.map pD)) (.own (sa.map stD)) (.val (.lst (F.map pD))) F s17
  obtain⟨s7',s10',s11',s12',s13',s14',s15',s16',s17',ih⟩:=qbY h0 hp po ha hb v0 v1 v3 rest (j+1) (.val (ruD r)) (.val (.int (j:Int))) (.val (.lst ((ws (cA ps j r sa) start 110).map D.int))) (.val (.lst ((ws (cA ps j r sb) start 110).map D.int))) (.own (F.map pD)) (.own (G.map pD)) (.own (sa.map stD)) (.val (.lst (F.map pD))) s17a (λx hx=>hr x (by simp[hx])) (λm x hx=>by
   have:=h (m+1) x hx
   rwa[show j+(m+1)=j+1+m by lia]at this)
  refine{s7',s10',s11',s12',s13',s14',s15',s16',s17',?_};refine(qg _).symm.trans ?_;rw[av,enF];simp?![qeF,r1,r2,r3,c1,c2,zl,z64,z0,qal,qeW,f1,f2,g1,g2,se,t1,t2,t3,t4,t5,aD,q1,q2,q3,i0,i1,lp,ih]
def qgx(ns:List Int)(hl:ns.length<=63):clK pg 20 "law" [.scr (ns.map D.int)]=.ok (.val (.bl true)):=by
 have c0:clK pg 19 "_law_cell_at" [.scr (ns.map D.int),.val (.int 0)]=.ok (.val (.int (jT ns 0))):=qaK (pg:=pg) 18 ns 0;have c1:clK pg 19 "_law_cell_at" [.scr (ns.map D.int),.val (.int 1)]=.ok (.val (.int (jT ns 1))):=qaK (pg:=pg) 18 ns 1;have c2:clK pg 19 "_law_cell_at" [.scr (ns.map D.int),.val (.int 2)]=.ok (.val (.int (jT ns 2))):=qaK (pg:=pg) 18 ns 2;generalize jT ns 0=n0 at c0;generalize jT ns 1=n1 at c1;generalize jT ns 2=n2 at c2;obtain⟨cs1,e1,l1⟩:=qed ns 3 6;obtain⟨cs2,e2,l2⟩:=qed ns 6 9;obtain⟨cs3,e3,l3⟩:=qae ns 9 29 (2:);obtain⟨cs4,e4,l4⟩:=qae ns 10 30 (2:);have e1:Qo (ns.map D.int) (some 3) (some 6)=cs1.map D.int:=e1;have e2:Qo (ns.map D.int) (some 6) (some 9)=cs2.map D.int:=e2;have e3:Yw (ns.map D.int) (some 9) (some 29) 2=cs3.map D.int:=e3;have e4:Yw (ns.map D.int) (some 10) (some 30) 2=cs4.map D.int:=e4;have q0:0<=n0 / 512 % 3:=bD _ (2:);have q1:n0 / 512 % 3 < 3:=bW _ (2:);obtain⟨m,em⟩:∃m:Nat,2+n0 / 512 % 3=(m:Int):={(2+n0 / 512 % 3).toNat,by lia};obtain⟨zs,ez,lz,hz⟩:=qgc (pg:=pg) 18 n0 m (1:);have ez:clK pg 19 "_law_lands" [.val (.int n0),.val (.int (m:Int))]=.ok (.tmp (zs.map D.str)):=ez;have s0:0<=n1 % 999999801:=bD _ (2:);have s1:n1 % 999999801 < 999999801:=bW _ (2:);generalize hS:n1 % 999999801=start at s0 s1;obtain⟨rs,r1,r2,er⟩:=YV (pg:=pg) 18 zs hz (n2::cs1) [] .no (by simp;lia);have er:zi (pg.kk 19) qez (.one 0) .yes (.int n2::cs1.map D.int) [.no,.bor (zs.map D.str)] []=.ok (rs.map ruD):=er;rw[aQ]at r2;obtain⟨ps,p1,p2,ep⟩:=Ye (pg:=pg) 18 start (rs.map ruD) (by rw[aD];lia) cs2 [] .no (by simp;lia);have ep:zi (pg.kk 19) qeA (.one 0) .yes (cs2.map D.int) [.no,.val (.int start),.bor (rs.map ruD)] []=.ok (ps.map paD):=ep;rw[aD]at p1
 have hp:∀p∈ps,p.2.1<=p.2.2:=λp hp=>by
  have h:=p1 p hp
  have:=h.b0
  lia
 obtain⟨sa,ha,la,esa⟩:=FA.JK (pg:=pg) 18 cs3 (1:) zs hz start s0 (1:);have esa:clK pg 19 "_law_stays" [.val (.lst (cs3.map D.int)),.bor (zs.map D.str),.val (.int start)]=.ok (.tmp (sa.map stD)):=esa;obtain⟨sb,hb,lb,esb⟩:=FA.JK (pg:=pg) 18 cs4 (1:) zs hz start s0 (1:);have esb:clK pg 19 "_law_stays" [.val (.lst (cs4.map D.int)),.bor (zs.map D.str),.val (.int start)]=.ok (.tmp (sb.map stD)):=esb;have sx:∀st:List DG.St,StsOk zs start st->st.length<=10->Sx start st:=λst h l=>{λs hs=>hz.ok _ (h.nm s hs),h.ch,h.hi,by lia};have ha:=sx sa ha (1:);have hb:=sx sb hb (1:);have z0:(0:Nat)<=sizeLine:=(3:)
 obtain⟨sw,hw,X⟩:∃sw:List DG.St,Sx start sw/\∀{M:Type} (K:Fl->R M),(iS (pg.kk 19) 1000 (.ite (.cmp .Eq (.bin .Mod (.bin .FloorDiv (.call "_law_cell_at" %[0,.con (D.int 0)|0]) (.con (D.int 7))) (.con (D.int 2))) (.con (D.int 1))) %[.set 6 (.bin .Add (.sli (.var 5) .none (.some (.bin .FloorDiv (.b1 .len (.var 5)) (.con (D.int 2))))) (.comp QT (I.seq (.var 6)) (Tg.one 0) (.test (.or (.cmp .Eq (.var 1) (.lst .nil)) (.one (.cmp .Gt (.idx (.var 0) (.con (D.int 1))) (.idx (.idx (.var 1) (.bin .FloorDiv (.b1 .len (.var 1)) (.con (D.int 2)))) (.con (D.int 2))))))) 1 [5]))|0] .nil) [.scr (ns.map D.int),.own (zs.map D.str),.val (.int start),.own (rs.map ruD),.own (ps.map paD),.own (sa.map stD),.own (sb.map stD),.no,.no,.no,.no,.no,.no,.no,.no,.no,.no,.no]).th K=K (.next [.scr (ns.map D.int),.own (zs.map D.str),.val (.int start),.own (rs.map ruD),.own (ps.map paD),.own (sa.map stD),.own (sw.map stD),.no,.no,.no,.no,.no,.no,.no,.no,.no,.no,.no]):=by
  have x1:eqD (.int (n0 / 7 % 2)) (.int 1)=some (n0 / 7 % 2 == 1):=qD ..
  cases y:(n0 / 7 % 2 == 1) with
  |false=>refine{sb,hb,λK=>?_};rw[y]at x1;simp?![c0,x1]
  |true=>
   refine{_,ha.new s0 hb (1:) (1:),λK=>?_};rw[y]at x1;have kc:=Ys (pg.kk 19) sa ha.nm sb [] .no (by simp;lia);rw[aK,bf]at kc
   have t1:Qo (sa.map stD) none (some ((sa.length:Int) / 2))=(sa.take (sa.length / 2)).map stD:=by rw[show(sa.length:Int) / 2=((sa.length / 2:Nat):Int) by lia,qad,ir]
   have zb:sb.length<=sizeLine:=qN (1:);have zz:(sa.take (sa.length / 2)).length+(sb.filter (kpF sa)).length<=sizeLine:=qN (by have:=kT (kpF sa) sb;simp;lia);rw[a8];simp?![c0,x1,t1,zb,qal,qeW,fH,fI,kc,aD,zz]
 have emd:=Z3 (pg:=pg) 6 rs [] .no (by simp;lia) r1;have emd:zi (pg.kk 19) qeB (.one 0) .yes (rs.map ruD) [.no] []=.ok (rs.map ruI):=emd
 have ebk:pg.nw 19 "Book" [.val (.lst (rs.map ruI)),.bor (ps.map paD)]=.ok (.val (bkI rs ps)):=qjb (pg:=pg) 7 false true rs ps (1:) (1:) λp hp=>by
  have h:=p1 p hp
  have:=h.o0;have:=h.o1;have:=h.a0;have:=h.a1;have:=h.b0;have:=h.b1
  lia
 obtain⟨s7,s10,s11,s12,s13,s14,s15,s16,s17,lp⟩:=qbY s0 (1:) hp ha hw (.scr (ns.map D.int)) (.own (zs.map D.str)) (.val (.lst (rs.map ruD))) rs 0 .no .no .no .no .no .no .no .no .no r1 (λm r hr=>by rw[eA];exact hr);have z1:1+cs1.length<=sizeLine:=qN (1:);have z2:cs1.length+1<=sizeLine:=qN (1:);have z3:cs2.length<=sizeLine:=qN (1:);have z4:rs.length<=sizeLine:=qN (1:);have z5:0+1<=sizeLine:=(3:)
 have z6:0+1+1<=sizeLine:=(3:)
 have z7:sa.length<=sizeLine:=qN (by have:=ha.len;lia);have z8:sw.length<=sizeLine:=qN (by have:=hw.len;lia);have w9:(10:Int) ^ (9:Int).toNat - 199=999999801:=by decide
 have w8:(0:Int)<=9/\(9:Int)<=1000000/\(10:Int).natAbs < 2 ^ 64:=by decide
 have eqs:eqD (.lst [.lst (sa.map stD),.lst (sw.map stD)]) (.lst [.lst (sa.map stD),.lst (sw.map stD)])=some true:=JI (by simp[okD,qby,(Yq sa ha.nm).1,(Yq sw hw.nm).1]) (by
  have a:=(Yq sa ha.nm).2;have b:=(Yq sw hw.nm).2;simp![dpD,qaF]
  lia)
 rw[show(20:Nat)=19+1 from rfl,qoi];simp?![qmE,↓X,c0,c1,c2,em,ez,w8,w9,hS,e1,e2,e3,e4,z0,z1,z2,z3,z4,z5,z6,z7,z8,qal,qeW,fH,fI,er,ep,esa,esb,emd,ebk,aD,JJ,lp,eqs]
end K61
namespace DE
open PySem PySem.Spec PyProof.Rows L2
def yS(G G' H:Hp):Prop:=∀a o,G' a=some o->(∃o',G a=some o')\/H a=none
def But(p:ad)(H H':Hp):Prop:=∀a o,a≠p->H a=some o->H' a=some o
def qcC(U:KC)(K:Frag)(ok:Str->Bool)(go:List Ar->Option (List (Str×D))):Sp:=λvs H Q _=>∃(G:Hp) (c:Str) (C p dx:ad) (us:List V) (args:List Ar) (fs:List (Str×D)),vs=.ref p::us/\ok c=true/\U c=some C/\
 H p=some (.ins C dx [])/\G p=none/\qo G H/\JG U K G H args us/\go args=some fs/\
 ∀G' H' xs,qo G G'->qo G' H'->G' p=none->But p H H'->yS G G' H->H' p=some (.ins C dx ((fs.map (·.1)).zip xs))->xs.length=fs.length->ql U G' (fs.map (·.2)) xs->Q .non H'
noncomputable abbrev spQ(U:KC)(K:Frag)(cl:Str->List Ar->R Rv)(f:Str):Sp:=λvs H Q _=>spF U K cl f vs H Q E0
def QZ.q{P:aE}{wd:aB}{U:KC}{K:Frag}{mg:PR}{base:au}{pg:Pg}{k:Nat}(h:QZ P wd U K mg base pg k)(f:Str)(st:aC)(e:pg.defs.lookup f=some st):∃fa fd,FnOk P wd K mg base CX0 k fa fd (Yx st) (spQ U K (clK pg k) f)/\mg f=some (.ref fa)/\dz K (.ref fa)=true/\zp K fd (Yx st) []:=
 let ⟨fa,fd,F,h⟩:=h.1 f st e
 ⟨fa,fd,qbx F λ_ _ _ _ z=>z,h⟩
section
variable{U:KC}{K:Frag}{G H G' H':Hp}
def qaf{cl:Str->List Ar->R Rv}{f:Str}{args:List Ar}{vs:List V}{r:Rv}{Q:VK}{E:XK}(sub:qo G H)(ha:JG U K G H args vs)(e:cl f args=.ok r)
  (h:∀v G' H',qo H H'->qo G G'->qo G' H'->yS G G' H->ReR U G' H' H r v->Q v H'):spF U K cl f vs H Q E:={G,args,sub,ha,by rw[e];exact h}
theorem ArR.low{a:Ar}{v:V}(h:ArR U K G H a v)(gs:qo G G')(hs:∀b o,H b=some o->(∀C dx fs,o≠.ins C dx fs)->H' b=some o):(∀l,a≠.scr l)->ArR U K G' H' a v:=λhn=>by
 cases a with
 |val d=>exact Rep.same gs h
 |bor l=>obtain⟨b,xs,e,h1,h2⟩:=h;exact{b,xs,e,hs _ _ h1 (by intros;intro z;cases z),h2.same gs}
 |scr l=>exact absurd rfl (hn l)
theorem QU{nw:Str->List Ar->R Rv}{f c:Str}{C:ad}{ok:Str->Bool}{go:List Ar->Option (List (Str×D))}(hC:U c=some C)(hok:ok c=true)
  (hX:∀args c l,nw f args≠.exc c l) (hgo:∀args r,nw f args=.ok r->(∀a∈args,∀l,a≠.scr l)/\∃fs,go args=some fs/\r=.val (.ins c (fs.map (·.1)) (fs.map (·.2)))) :
  ∀vs H Q E,spF U K nw f vs H Q E->∀x dx,H x=none->H dx=none->dx≠x->qcC U K ok go (.ref x::vs) (upd (upd H dx (.own x)) x (.ins C dx [])) (λv H2=>v=.non/\Q (.ref x) H2) E:=by
 rintro vs H Q E ⟨G,args,sub,ha,hw⟩ x dx hx hdx ne
 cases e:nw f args with
 |no=>rw[e]at hw;exact hw.elim
 |exc c l=>exact(hX _ _ _ e).elim
 |ok r=>
  rw[e]at hw;obtain⟨hs,fs,hg,rfl⟩:=hgo args r e;have gx:G x=none:=qo.none sub hx;have gd:G dx=none:=qo.none sub hdx
  have up:qo H (upd (upd H dx (.own x)) x (.ins C dx [])):=λb o hb=>by
   have nb:b≠x:=λz=>by rw[z,hx]at hb;cases hb
   have nd:b≠dx:=λz=>by rw[z,hdx]at hb;cases hb
   rw[qd nb,qd nd];exact hb
  have ha':∀{args:List Ar} {vs:List V},(∀a∈args,∀l,a≠.scr l)->JG U K G H args vs->JG U K G (upd (upd H dx (.own x)) x (.ins C dx [])) args vs:=by
   intro args
   induction args with
   |nil=>intro vs _ h;simp![JG]at h ⊢;exact h
   |cons a l ih=>intro vs hn h;simp![JG]at h ⊢;obtain⟨v,r,e,h1,h2⟩:=h;exact{v,r,e,h1.low (λ_ _ z=>z) (λb o hb _=>up b o hb) (hn a (b5 ..)),ih (λb hb=>hn b (bI _ hb)) h2}
  refine{G,c,C,x,dx,vs,args,fs,rfl,hok,hC,qf,gx,λb o hb=>up b o (sub b o hb),ha' hs ha,hg,λG' H' xs gs sub' gx' but fr hp hl rp=>{rfl,?_}};refine hw (.ref x) (upd G' x (.ins C dx ((fs.map (·.1)).zip xs))) H' (λb o hb=>?_) (λb o hb=>?_) (λb o hb=>?_) (λb o hb=>?_) ?_
  ·exact but b o (λz=>by rw[z,hx]at hb;cases hb) (up b o hb)
  ·exact qo.upd gx' b o (gs b o hb)
  ·by_cases z:b=x
   ·subst z;rw[qf]at hb;cases hb;exact hp
   ·rw[qd z]at hb;exact sub' b o hb
  ·by_cases z:b=x
   ·subst z;exact .inr hx
   ·rw[qd z]at hb;rcases fr b o hb with q|q
    ·exact .inl q
    ·refine .inr ?_
     cases w:H b with
     |none=>rfl
     | some o'=>rw[up b o' w]at q;cases q
  ·simp![ReR,Rep];exact{x,dx,C,xs,hC,rfl,qf,by rw[hl,aD],rp.same (qo.upd gx')}
end
end DE
namespace DG
open PySem PySem.Spec PyProof.Rows L2 DE
theorem je{G G' H:Hp}{p:ad}{o:L2.HO}(fr:yS G G' H)(g:G p=none)(h:H p=some o):G' p=none:=by
 cases e:G' p with
 |none=>rfl
 | some o'=>
  rcases fr p o' e with ⟨o'',z⟩|z
  ·rw[g]at z;cases z
  ·rw[h]at z;cases z
def yS.trans{G G1 G2 H H1:Hp}(a:yS G G1 H)(s:qo H H1)(b:yS G1 G2 H1):yS G G2 H:=λx o h=>by
 rcases b x o h with ⟨o',z⟩|z
 ·exact a x o' z
 ·exact .inr (qo.none s z)
def yS.transB{G G1 G2 H H1:Hp}{p:ad}{o:L2.HO}(a:yS G G1 H)(s:But p H H1)(hp:H1 p=some o)(b:yS G1 G2 H1):yS G G2 H:=λx o h=>by
 rcases b x o h with ⟨o',z⟩|z
 ·exact a x o' z
 ·refine .inr ?_;have nx:x≠p:=λq=>by rw[q,hp]at z;cases z
  cases w:H x with
  |none=>rfl
  | some o'=>rw[s x o' nx w]at z;cases z
def aA(b:Bool)(l:List D):Ar:=match b with
 |true=>.bor l
 |false=>.val (.lst l)
def qag{a:Ar}{l:List D}(e:arL a=some l):∃b,a=aA b l:=by
 unfold arL at e
 split at e
 ·cases e;exact⟨false,rfl⟩
 ·cases e;exact⟨true,rfl⟩
 ·cases e
def qbZ{a:Ar}{n:Int}(e:arI a=some n):a=.val (.int n):=by
 unfold arI at e
 split at e
 ·cases e;rfl
 ·cases e
theorem qaX{U:KC}{K:Frag}{G H:Hp}{b:Bool}{l:List D}{v:V}(sub:qo G H)(h:ArR U K G H (aA b l) v):∃p xs,v=.ref p/\H p=some (.lst xs)/\ql U G l xs:=by
 cases b with
 |false=>simp![aA,ArR,Rep]at h;obtain⟨a,xs,e,h1,h2⟩:=h;exact{a,xs,e,sub _ _ h1,h2}
 |true=>exact h
def qmJ{U:KC}{K:Frag}{G H G' H':Hp}{b:Bool}{l:List D}{v:V}(h:ArR U K G H (aA b l) v)(gs:qo G G')(hs:qo H H'):ArR U K G' H' (aA b l) v:=h.low gs (λb o e _=>hs b o e) (λl'=>by cases b<;>(intro z;cases z))
def qah{args:List Ar}{fs:List (Str×D)}(h:qbz args=some fs):∃b l m,args=[aA b l,.val (.int m)]/\qx l=true/\btw m 0 1000000000=true/\fs=([("lands",.tup l),("most",.int m)]:List (Str×D)):=by
 unfold qbz at h
 split at h
 ·split at h
  ·rename_i e1 e2
   split at h
   ·rename_i hc;cases h;rw[aG]at hc;obtain⟨b,rfl⟩:=qag e1;cases qbZ e2;exact{b,_,_,rfl,hc.1,hc.2,rfl}
   ·cases h
  ·cases h
 ·cases h
def yT{x:Str}{args:List Ar}{fs:List (Str×D)}(h:jL x args=some fs):∃b l m s,args=[aA b l,.val (.int m),.val (.int s)]/\qx l=true/\btw m 0 1000000000=true/\btw s 1 1000000000=true/\fs=([("lands",.tup l),("most",.int m),(x,.int s)]:List (Str×D)):=by
 unfold jL at h
 split at h
 ·split at h
  ·rename_i e1 e2 e3
   split at h
   ·rename_i hc;cases h;rw[aG,aG]at hc;obtain⟨b,rfl⟩:=qag e1;cases qbZ e2;cases qbZ e3;exact{b,_,_,_,rfl,hc.1.1,hc.1.2,hc.2,rfl}
   ·cases h
  ·cases h
 ·cases h
def QV{args:List Ar}{fs:List (Str×D)}(h:qcv args=some fs):∃b l m,args=[aA b l,.val (.int m)]/\qx l=true/\btw m 0 1000000000=true/\fs=([("lands",.tup l),("most",.int m),("leave",.int 1)]:List (Str×D)):=by
 unfold qcv at h
 split at h
 ·split at h
  ·rename_i e1 e2
   split at h
   ·rename_i hc;cases h;rw[aG]at hc;obtain⟨b,rfl⟩:=qag e1;cases qbZ e2;exact{b,_,_,rfl,hc.1,hc.2,rfl}
   ·cases h
  ·cases h
 ·cases h
def Yt{args:List Ar}{fs:List (Str×D)}(h:YN args=some fs):∃b c l ps,args=[aA b l,aA c ps]/\(decide (l.length<=8)&&l.all ZM)=true/\(decide (ps.length<=12)&&ps.all (jw l.length))=true/\fs=([("kept_rules",.lst l),("kept_papers",.lst ps)]:List (Str×D)):=by
 unfold YN at h
 split at h
 ·split at h
  ·rename_i e1 e2
   split at h
   ·rename_i hc;cases h;rw[aG]at hc;obtain⟨b,rfl⟩:=qag e1;obtain⟨c,rfl⟩:=qag e2;exact{b,c,_,_,rfl,hc.1,hc.2,rfl}
   ·cases h
  ·cases h
 ·cases h
def qeL{b:Bool}{l:List D}{m:Int}(ol:qx l=true)(om:btw m 0 1000000000=true):qbz [aA b l,.val (.int m)]=some ([("lands",.tup l),("most",.int m)]:List (Str×D)):=by cases b<;>(show(if (qx l&&btw m 0 1000000000)=true then _ else none)=_;rw[if_pos (by rw[ol,om];rfl)])
def qeM{x:Str}{b:Bool}{l:List D}{m s:Int}(ol:qx l=true)(om:btw m 0 1000000000=true)(os:btw s 1 1000000000=true):jL x [aA b l,.val (.int m),.val (.int s)]=some ([("lands",.tup l),("most",.int m),(x,.int s)]:List (Str×D)):=by cases b<;>(show(if (qx l&&btw m 0 1000000000&&btw s 1 1000000000)=true then _ else none)=_;rw[if_pos (by rw[ol,om,os];rfl)])
structure Tx(U:KC)(K:Frag)(mg:PR):Prop where
 tup:mg "tuple" = none
 lst:mg "list" = none
 len:mg "len" = none
 gG:∃t,mg "GREATEST" = some (.int 1000000000 t)
 cls:∀c C,U c=some C->Cls K C
 nA:∀c x C,(pcs {}).fld c x=true->U c=some C->ze K C x
structure Ck(pg:Pg)(j:Nat):Prop where
 lands:∀b l,qx l=true->clK pg j "are_lands" [aA b l]=.ok (.val (.bl true))
 rules:∀b l,(decide (l.length<=8)&&l.all ZM)=true->clK pg j "are_rules" [aA b l]=.ok (.val (.bl true))
 papers:∀b (ps:List D) (n:Int),(decide (ps.length<=12)&&ps.all (jw n))=true->clK pg j "check_papers" [aA b ps,.val (.int n)]=.ok (.val .non)
 btw:∀n a b,btw n a b=true->clK pg j "is_between" [.val (.int n),.val (.int a),.val (.int b)]=.ok (.val (.bl true))
def qb0{c:Str}(h:rk c=true):(pcs {}).fld c "lands" = true/\(pcs {}).fld c "most" = true:=by
 constructor
 ·show((rk c&&(true||_||_||_))||_)=true;rw[h];rfl
 ·show((rk c&&(false||true||_||_))||_)=true;rw[h];rfl
def okW(c:Str):Bool:=c == "Within"
def okS(c:Str):Bool:=c == "Since" || c == "InRow"
def okI(c:Str):Bool:=c == "InRow"
def okB(c:Str):Bool:=c == "Book"
def qmK{c:Str}(h:okW c=true):rk c=true:=by unfold okW at h;unfold rk;rw[h];rfl
def qmL{c:Str}(h:okS c=true):rk c=true:=by unfold okS at h;unfold rk;rw[Bool.or_assoc,h,Bool.or_true]
def qjk{c:Str}(h:okI c=true):okS c=true:=by unfold okI at h;unfold okS;rw[h,Bool.or_true]
def qjl{c:Str}(h:okW c=true):(pcs {}).fld c "span" = true:=by
 have e:c = "Within":=by simpa [okW] using h
 subst e;decide
def qgy{c:Str}(h:okS c=true):(pcs {}).fld c "leave" = true:=by
 have e:c = "Since"\/c = "InRow":=by simpa [okS] using h
 rcases e with e|e<;>subst e<;>decide
def qeN{c:Str}(h:okB c=true):(pcs {}).fld c "kept_rules" = true/\(pcs {}).fld c "kept_papers" = true:=by
 have e:c = "Book":=by simpa [okB] using h
 subst e;decide
end DG
namespace K61
open PySem PySem.Spec PyProof.Rows L2 DE DG
section
variable{P:aE}{wd:aB}{U:KC}{K:Frag}{mg:PR}{base:au}{j:Nat}{f:ad}{fd:bO}
def qjm:FnScope ["self","lands","most"] ["self","lands","most"] (qh (mem 25 0)):={rfl,rfl,rfl,(3:),rfl,(3:),(3:)}
def qgz(tx:Tx U K mg)(F:Fun K "__init__" "Rule.__init__" (mem 25 0) f fd)(at_:QZ P wd U K mg base pg j)(ck:Ck pg j):FnOk P wd K mg base CX0 (j+1) f fd ["self","lands","most"] (qcC U K rk qbz):=by
 obtain⟨fA,dA,FA,mA,kA,bA⟩:=QZ.q at_ "are_lands" (top 24) (4:);obtain⟨fB,dB,FB,mB,kB,bB⟩:=QZ.q at_ "is_between" (top 6) (4:);obtain⟨t1,g1⟩:=tx.gG;refine F.ok qjm (λvs H Q E h=>?_) (λcdv A outer s H vs Q E hr h=>?_)
 ·obtain⟨G,c,C,p,dx,us,args,fs,rfl,_,_,_,_,_,ha,hg,_⟩:=h;obtain⟨b,l,m,rfl,_⟩:=qah hg
  have:=ha.len
  simp at this;simp[<-this]
 ·obtain⟨G,c,C,p,dx,us,args,fs,rfl,hrk,hC,hp,gp,sub,ha,hg,k1⟩:=h;obtain⟨b,l,m,rfl,ol,om,rfl⟩:=qah hg;simp![JG]at ha;obtain⟨v1,us1,rfl,r1,v2,us2,rfl,r2,rfl⟩:=ha;simp![ArR,Rep]at r2;subst r2;obtain⟨a,xs,rfl,hxa,rl⟩:=qaX sub r1
  refine{_,zo (qcN (Q5 (qa2 (yY FA hr (by rfl) mA kA bA .nil qar (qi (pv 1) qv)))) (jH Jw) JO)
   (zo (qcN (Q5 (qa2 (yY FB hr (by rfl) mB kB bB .nil qar (qi (pv 2) (qi Q4 (qi (Y5 (v:=.int 1000000000) (by rfl) g1 {_,rfl}) qv)))))) (jH Jw) JO)
   (zo (Za (pv 0) (qE Y9 (by rfl) tx.tup i4 (qi (pv 1) qv)) rfl)
   (jH (Za (pv 0) (pv 2) rfl)))),?_}
  refine{_,rfl,qaf (E:=E0) (G:=G) (args:=[aA b l]) sub {_,_,rfl,r1,rfl} (ck.lands b l ol) λv G1 H1 hs1 gs1 sub1 fr1 rr=>?_};simp![ReR,Rep]at rr;subst rr;refine{_,rfl,?_};refine{_,rfl,qaf (E:=E0) (G:=G1) (args:=[.val (.int m),.val (.int 0),.val (.int 1000000000)]) sub1 {_,_,rfl,by simp![ArR,Rep],_,_,rfl,by simp![ArR,Rep],_,_,rfl,by simp![ArR,Rep],rfl} (ck.btw m 0 1000000000 om) λv G2 H2 hs2 gs2 sub2 fr2 rr=>?_};simp![ReR,Rep]at rr;subst rr;refine{_,rfl,?_};have hp2:H2 p=some (.ins C dx []):=hs2 _ _ (hs1 _ _ hp);have ga2:H2 a=some (.lst xs):=hs2 _ _ (hs1 _ _ hxa);have gp1:G1 p=none:=je fr1 gp hp;have gp2:G2 p=none:=je fr2 gp1 (hs1 _ _ hp);refine{_,rfl,a,xs,rfl,.inl {SqL.of ga2,λt ht=>?_}};have ntp:t≠p:=λz=>by rw[z,hp2]at ht;cases ht
  have gt:G2 t=none:=qo.none sub2 ht;refine{_,rfl,p,C,dx,_,rfl,by rw[qd ntp.symm];exact hp2,tx.cls c C hC,tx.nA c _ C (qb0 hrk).1 hC,by decide,?_};refine{_,rfl,_,rfl,p,C,dx,_,rfl,qf,tx.cls c C hC,tx.nA c _ C (qb0 hrk).2 hC,(by show 1 < 1000;decide),?_};refine k1 (upd G2 t (.tup xs)) _ [.ref t,.int m] ?_ ?_ ?_ ?_ ?_ ?_ rfl ?_
  ·exactλb o e=>qo.upd gt b o (gs2 b o (gs1 b o e))
  ·intro b o e
   by_cases z:b=t
   ·subst z;rw[qf]at e;cases e;rw[qd ntp,qd ntp,qf]
   ·rw[qd z]at e;have nb:b≠p:=λq=>by rw[q,gp2]at e;cases e
    rw[qd nb,qd nb,qd z];exact sub2 b o e
  ·rw[qd ntp.symm];exact gp2
  ·intro b o nb e;have e2:=hs2 b o (hs1 b o e);have nt:b≠t:=λq=>by rw[q,ht]at e2;cases e2
   rw[qd nb,qd nb,qd nt];exact e2
  ·intro b o e
   by_cases z:b=t
   ·subst z;exact .inr (qo.none hs1 (qo.none hs2 ht))
   ·rw[qd z]at e;exact(yS.trans fr1 hs1 fr2) b o e
  ·rw[qf];rfl
  ·simp![av,aK,ql,Rep];exact{_,_,rfl,{t,xs,rfl,qf,(rl.same gs1 |>.same gs2).same (qo.upd gt)},_,_,rfl,rfl,rfl}
def qeO:FnScope ["self","lands","most","span"] ["self","lands","most","span"] (qh (mem 26 0)):={rfl,rfl,rfl,(3:),rfl,(3:),(3:)}
def qgA:FnScope ["self","lands","most","leave"] ["self","lands","most","leave"] (qh (mem 27 0)):={rfl,rfl,rfl,(3:),rfl,(3:),(3:)}
def QW{fR cR:ad}{dR:bO}(tx:Tx U K mg)(FR:Fun K "__init__" "Rule.__init__" (mem 25 0) fR dR)(bR:zp K dR ["self","lands","most"] [])(mR:mg "Rule" = some (.ref cR))(cf:ClsFn K cR "__init__" fR)
  (at0:QZ P wd U K mg base pg j) (at1:QZ P wd U K mg base pg (j+1)) (ck0:Ck pg j) (ck1:Ck pg (j+1)):(Fun K "__init__" "Within.__init__" (mem 26 0) f fd->FnOk P wd K mg base CX0 (j+2) f fd ["self","lands","most","span"] (qcC U K okW (jL "span")))/\(Fun K "__init__" "Since.__init__" (mem 27 0) f fd->FnOk P wd K mg base CX0 (j+2) f fd ["self","lands","most","leave"] (qcC U K okS (jL "leave"))):=by
 constructor<;>(
  intro F;obtain⟨fB,dB,FB,mB,kB,bB⟩:=QZ.q at1 "is_between" (top 6) (4:);obtain⟨t1,g1⟩:=tx.gG;refine F.ok (by first|exact qeO |exact qgA) (λvs H Q E h=>?_) (λcdv A outer s H vs Q E hr h=>?_)
  ·obtain⟨G,c,C,p,dx,us,args,fs,rfl,_,_,_,_,_,ha,hg,_⟩:=h;obtain⟨b,l,m,z,rfl,_⟩:=yT hg
   have:=ha.len
   simp at this;simp[<-this]
  ·obtain⟨G,c,C,p,dx,us,args,fs,rfl,hrk,hC,hp,gp,sub,ha,hg,k1⟩:=h;obtain⟨b,l,m,z,rfl,ol,om,oz,rfl⟩:=yT hg;simp![JG]at ha;obtain⟨v1,us1,rfl,r1,v2,us2,rfl,r2,v3,us3,rfl,r3,rfl⟩:=ha;simp![ArR,Rep]at r2 r3;subst r2 r3
   refine{_,zo (yW (qbe cf (qgz tx FR at0 ck0) hr (by rfl) mR bR .nil qar (qi (pv 0) (qi (pv 1) (qi (pv 2) qv)))))
    (zo (qcN (Q5 (qa2 (yY FB hr (by rfl) mB kB bB .nil qar (qi (pv 3) (qi Q4 (qi (Y5 (v:=.int 1000000000) (by rfl) g1 {_,rfl}) qv)))))) (jH Jw) JO)
    (jH (Za (pv 0) (pv 3) rfl))),?_}
   refine{_,rfl,_,rfl,_,rfl,G,c,C,p,dx,[v1,.int m],[aA b l,.val (.int m)],_,rfl,(by first|exact qmK hrk|exact qmL hrk),hC,hp,gp,sub,{_,_,rfl,r1,_,_,rfl,by simp![ArR,Rep],rfl},qeL ol om,λG1 H1 xs gs1 sub1 gp1 but1 fr1 hp1 hl1 rp1=>?_};simp![av,aK,ql]at rp1;obtain⟨x1,w1,rfl,q1,x2,w2,rfl,q2,rfl⟩:=rp1;refine{_,rfl,qaf (E:=E0) (G:=G1) (args:=[.val (.int z),.val (.int 1),.val (.int 1000000000)]) sub1 {_,_,rfl,by simp![ArR,Rep],_,_,rfl,by simp![ArR,Rep],_,_,rfl,by simp![ArR,Rep],rfl} (ck1.btw z 1 1000000000 oz) λv G2 H2 hs2 gs2 sub2 fr2 rr=>?_};simp![ReR,Rep]at rr;subst rr;refine{_,rfl,?_};have hp2:=hs2 _ _ hp1;have gp2:G2 p=none:=je fr2 gp1 hp1;refine{_,rfl,_,rfl,p,C,dx,_,rfl,hp2,tx.cls c C hC,tx.nA c _ C (by first|exact qjl hrk|exact qgy hrk) hC,(by show 2 < 1000;decide),?_};refine k1 G2 _ [x1,x2,.int z] (λb o e=>gs2 b o (gs1 b o e)) (λb o e=>?_) gp2 (λb o nb e=>?_) (λb o e=>?_) ?_ rfl ?_
   ·rw[qd (λq=>by rw[q,gp2]at e;cases e)];exact sub2 b o e
   ·rw[qd nb];exact hs2 b o (but1 b o nb e)
   ·exact(yS.transB fr1 but1 hp1 fr2) b o e
   ·rw[qf];rfl
   ·simp![av,aK,ql];exact{_,_,rfl,q1.same gs2,_,_,rfl,q2.same gs2,_,_,rfl,by simp![Rep],rfl})
def qgB:FnScope ["self","lands","most"] ["self","lands","most"] (qh (mem 28 0)):={rfl,rfl,rfl,(3:),rfl,(3:),(3:)}
def qeP{fR cR fS cS:ad}{dR dS:bO}(tx:Tx U K mg)(F:Fun K "__init__" "InRow.__init__" (mem 28 0) f fd)(FS:Fun K "__init__" "Since.__init__" (mem 27 0) fS dS)(bS:zp K dS ["self","lands","most","leave"] [])(mS:mg "Since" = some (.ref cS))(cfS:ClsFn K cS "__init__" fS)
  (FR:Fun K "__init__" "Rule.__init__" (mem 25 0) fR dR) (bR:zp K dR ["self","lands","most"] []) (mR:mg "Rule" = some (.ref cR)) (cf:ClsFn K cR "__init__" fR)
  (at0:QZ P wd U K mg base pg j) (at1:QZ P wd U K mg base pg (j+1)) (ck0:Ck pg j) (ck1:Ck pg (j+1)):FnOk P wd K mg base CX0 (j+3) f fd ["self","lands","most"] (qcC U K okI qcv):=by
 refine F.ok qgB (λvs H Q E h=>?_) (λcdv A outer s H vs Q E hr h=>?_)
 ·obtain⟨G,c,C,p,dx,us,args,fs,rfl,_,_,_,_,_,ha,hg,_⟩:=h;obtain⟨b,l,m,rfl,_⟩:=QV hg
  have:=ha.len
  simp at this;simp[<-this]
 ·obtain⟨G,c,C,p,dx,us,args,fs,rfl,hrk,hC,hp,gp,sub,ha,hg,k1⟩:=h;obtain⟨b,l,m,rfl,ol,om,rfl⟩:=QV hg;simp![JG]at ha;obtain⟨v1,us1,rfl,r1,v2,us2,rfl,r2,rfl⟩:=ha;simp![ArR,Rep]at r2;subst r2;refine{_,jH (yW (qbe cfS ((QW tx FR bR mR cf at0 at1 ck0 ck1).2 FS) hr (by rfl) mS bS .nil qar (qi (pv 0) (qi (pv 1) (qi (pv 2) (qi Q4 qv)))))),?_}
  exact{_,rfl,_,rfl,_,rfl,G,c,C,p,dx,[v1,.int m,.int 1],[aA b l,.val (.int m),.val (.int 1)],_,rfl,qjk hrk,hC,hp,gp,sub,{_,_,rfl,r1,_,_,rfl,by simp![ArR,Rep],_,_,rfl,by simp![ArR,Rep],rfl},
   qeM ol om (2:),λG1 H1 xs gs1 sub1 gp1 but1 fr1 hp1 hl1 rp1=>k1 G1 H1 xs gs1 sub1 gp1 but1 fr1 hp1 hl1 rp1}
def qjn:FnScope ["self","rules","papers"] ["self","rules","papers"] (qh (mem 52 0)):={rfl,rfl,rfl,(3:),rfl,(3:),(3:)}
def qgC(tx:Tx U K mg)(F:Fun K "__init__" "Book.__init__" (mem 52 0) f fd)(at_:QZ P wd U K mg base pg j)(ck:Ck pg j):FnOk P wd K mg base CX0 (j+1) f fd ["self","rules","papers"] (qcC U K okB YN):=by
 obtain⟨fA,dA,FA,mA,kA,bA⟩:=QZ.q at_ "are_rules" (top 49) (4:);obtain⟨fB,dB,FB,mB,kB,bB⟩:=QZ.q at_ "check_papers" (top 51) (4:);refine F.ok qjn (λvs H Q E h=>?_) (λcdv A outer s H vs Q E hr h=>?_)
 ·obtain⟨G,c,C,p,dx,us,args,fs,rfl,_,_,_,_,_,ha,hg,_⟩:=h;obtain⟨b0,c0,l,ps,rfl,_⟩:=Yt hg
  have:=ha.len
  simp at this;simp[<-this]
 ·obtain⟨G,c,C,p,dx,us,args,fs,rfl,hrk,hC,hp,gp,sub,ha,hg,k1⟩:=h;obtain⟨b0,c0,l,ps,rfl,ol,op,rfl⟩:=Yt hg;simp![JG]at ha;obtain⟨v1,us1,rfl,r1,v2,us2,rfl,r2,rfl⟩:=ha;obtain⟨a,xs,rfl,hxa,rl⟩:=qaX sub r1;obtain⟨b,ys,rfl,hb,rp⟩:=qaX sub r2
  refine{_,zo (qcN (Q5 (qa2 (yY FA hr (by rfl) mA kA bA .nil qar (qi (pv 1) qv)))) (jH Jw) JO)
   (zo (yW (yY FB hr (by rfl) mB kB bB .nil qar (qi (pv 2) (qi (qP Jb (by rfl) tx.len PySem.boot_len (qi (pv 1) qv)) qv))))
   (zo (Za (pv 0) (qE jI (by rfl) tx.lst f6 (qi (pv 1) qv)) rfl)
   (jH (Za (pv 0) (qE jI (by rfl) tx.lst f6 (qi (pv 2) qv)) rfl)))),?_}
  refine{_,rfl,qaf (E:=E0) (G:=G) (args:=[aA b0 l]) sub {_,_,rfl,r1,rfl} (ck.rules b0 l ol) λv G1 H1 hs1 gs1 sub1 fr1 rr=>?_};simp![ReR,Rep]at rr;subst rr;refine{_,rfl,?_};have ga1:H1 a=some (.lst xs):=hs1 _ _ hxa;refine{_,rfl,_,rfl,a,xs,rfl,.inl (SqL.of ga1),?_};refine qaf (E:=E0) (G:=G1) (args:=[aA c0 ps,.val (.int l.length)]) sub1 ⟨_,_,rfl,qmJ r2 gs1 hs1,_,_,rfl,by simp![ArR,Rep];rw[rl.len],rfl⟩ (ck.papers c0 ps l.length op) λv G2 H2 hs2 gs2 sub2 fr2 rr=>?_;have hp2:H2 p=some (.ins C dx []):=hs2 _ _ (hs1 _ _ hp);have gp1:G1 p=none:=je fr1 gp hp;have gp2:G2 p=none:=je fr2 gp1 (hs1 _ _ hp);have ga2:H2 a=some (.lst xs):=hs2 _ _ ga1;have hb2:H2 b=some (.lst ys):=hs2 _ _ (hs1 _ _ hb);refine{_,rfl,a,xs,rfl,.inl (SqL.of ga2),λt ht=>?_};have ntp:t≠p:=λz=>by rw[z,hp2]at ht;cases ht
  have gt:G2 t=none:=qo.none sub2 ht;refine{_,rfl,p,C,dx,_,rfl,by rw[qd ntp.symm];exact hp2,tx.cls c C hC,tx.nA c _ C (qeN hrk).1 hC,by decide,?_};have nbt:b≠t:=λz=>by rw[z,ht]at hb2;cases hb2
  have nbp:b≠p:=λz=>by rw[z,hp2]at hb2;cases hb2
  refine{_,rfl,b,ys,rfl,.inl (SqL.of (by rw[qd nbp,qd nbt];exact hb2)),λu hu=>?_};have nup:u≠p:=λz=>by rw[z,qf]at hu;cases hu
  have nut:u≠t:=λz=>by rw[z,qd ntp,qf]at hu;cases hu
  have hu2:H2 u=none:=by rw[qd nup,qd nut]at hu;exact hu
  have gu:G2 u=none:=qo.none sub2 hu2;refine{_,rfl,p,C,dx,_,rfl,by rw[qd nup.symm,qf],tx.cls c C hC,tx.nA c _ C (qeN hrk).2 hC,(by show 1 < 1000;decide),?_};have gut:upd G2 t (.lst xs) u=none:=by rw[qd nut];exact gu
  refine k1 (upd (upd G2 t (.lst xs)) u (.lst ys)) _ [.ref t,.ref u] ?_ ?_ ?_ ?_ ?_ ?_ rfl ?_
  ·exactλb o e=>qo.upd gut b o (qo.upd gt b o (gs2 b o (gs1 b o e)))
  ·intro q o e
   by_cases z:q=u
   ·subst z;rw[qf]at e;cases e;rw[qd nup,qf]
   ·rw[qd z]at e
    by_cases z2:q=t
    ·subst z2;rw[qf]at e;cases e;rw[qd ntp,qd z,qd ntp,qf]
    ·rw[qd z2]at e;have nq:q≠p:=λw=>by rw[w,gp2]at e;cases e
     rw[qd nq,qd z,qd nq,qd z2];exact sub2 q o e
  ·rw[qd nup.symm,qd ntp.symm];exact gp2
  ·intro q o nq e;have e2:=hs2 q o (hs1 q o e);have n1:q≠t:=λw=>by rw[w,ht]at e2;cases e2
   have n2:q≠u:=λw=>by rw[w,hu2]at e2;cases e2
   rw[qd nq,qd n2,qd nq,qd n1];exact e2
  ·intro q o e
   by_cases z:q=u
   ·subst z;exact .inr (qo.none hs1 (qo.none hs2 hu2))
   ·rw[qd z]at e
    by_cases z2:q=t
    ·subst z2;exact .inr (qo.none hs1 (qo.none hs2 ht))
    ·rw[qd z2]at e;exact(yS.trans fr1 hs1 fr2) q o e
  ·rw[qf];rfl
  ·simp![av,aK,ql,Rep];exact{_,_,rfl,{t,xs,rfl,by rw[qd nut.symm];exact qf,((rl.same gs1 |>.same gs2).same (qo.upd gt)).same (qo.upd gut)},_,_,rfl,{u,ys,rfl,qf,((rp.same gs1 |>.same gs2).same (qo.upd gt)).same (qo.upd gut)},rfl}
end
open PySem.W HD
abbrev HP:aE:=PySem.Challenge.rw_daysgate_k61_changed_by_days.row.toRowW.prog
def Hq:aE:=view HP [0,2,3,4,5,6,7,8,9,11,12,13,14,16,17,18,19,21,22,23,24,25,26,27,28,30,31,32,34,35,36,37,38,39,40,42,43,44,45,47,48,49,50,51,52,54,55,56,57,58,59,60,61,62,63,64]
def Hx(s:ag):Bool:=xlAt Hq [] s&&recOk (RowW.records PySem.Challenge.rw_daysgate_k61_changed_by_days.row.toRowW) s
def Has:List ad:=[2,3,27,28,34,35,41,42,48,49,55,56,62,63,69,70,76,77,83,84,95,153,154,160,161,174,175,181,182,184,185,186,187,202,203,209,210,212,213,228,229,235,236,238,239,254,255,261,262,264,265,273,274,280,281,285,286,292,293,299,300,306,307,313,314,320,321,327,328,334,335,341,342,348,349,355,356,362,363,369,370,376,377,390,391,397,398,404,405,409,410,412,413,414,415,423,424,430,431,437,438,444,445,451,452,458,459,465,466,470,471,475,476,482,483,487,488]
def HK(P:ec):Frag:=(nat_lit 2,⟨.none,none,.dict #[] 0,#[]⟩)::(nat_lit 3,⟨(.type "dict"),none,.dict #[dE P "__name__" 165 (.str "law_daysgate_k61_changed_by_days" 769),dE P "__doc__" 166 .none,dE P "__package__" 167 .none,dE P "__loader__" 168 (.builtin "__main__.__loader__#opaque"),dE P "__spec__" 169 .none,dE P "__annotations__" 170 (.ref 6),dE P "__builtins__" 171 (.ref 4),dE P "__file__" 173 (.str "/claim/cut.py" 172),dE P "__cached__" 174 .none,dE P "_wall" 193 (.ref 21),dE P "GREATEST" 197 (.int (1000000000) 196),dE P "LETTERS" 199 (.str "abcdefghijklmnopqrstuvwxyz" 198),dE P "LONGEST_NAME" 201 (.int (8) 200),dE P "is_whole" 208 (.ref 28),dE P "is_between" 217 (.ref 35),dE P "are_days" 225 (.ref 42),dE P "is_made_of" 234 (.ref 49),dE P "is_name" 241 (.ref 56),dE P "spread" 253 (.ref 63),dE P "both" 266 (.ref 70),dE P "outside" 278 (.ref 77),dE P "less" 286 (.ref 84),dE P "DayError" 306 (.ref 94),dE P "NoRule" 322 (.ref 107),dE P "NoPaper" 347 (.ref 126),dE P "NoStay" 372 (.ref 145),dE P "MOST_LANDS" 376 (.int (6) 375),dE P "GREATEST_WEIGHT" 378 (.int (9) 377),dE P "is_land" 385 (.ref 154),dE P "are_lands" 394 (.ref 161),dE P "Rule" 435 (.ref 185),dE P "Within" 469 (.ref 213),dE P "Since" 503 (.ref 239),dE P "InRow" 535 (.ref 265),dE P "MOST_STAYS" 539 (.int (60) 538),dE P "is_stay" 546 (.ref 274),dE P "stays_of" 556 (.ref 281),dE P "pieces_among" 564 (.ref 286),dE P "pieces_of" 573 (.ref 293),dE P "sum_of" 587 (.ref 300),dE P "first_since" 600 (.ref 307),dE P "first_of_window" 609 (.ref 314),dE P "count_among" 618 (.ref 321),dE P "turns_of" 630 (.ref 328),dE P "edges_of" 644 (.ref 335),dE P "difference" 654 (.ref 342),dE P "unlike_days" 668 (.ref 349),dE P "changed_days" 685 (.ref 356),dE P "MOST_RULES" 689 (.int (8) 688),dE P "MOST_PAPERS" 691 (.int (12) 690),dE P "are_rules" 699 (.ref 363),dE P "is_paper" 707 (.ref 370),dE P "check_papers" 717 (.ref 377),dE P "Book" 768 (.ref 413),dE P "_law_cell_at" 778 (.ref 424),dE P "_law_lands" 794 (.ref 431),dE P "_law_rule" 807 (.ref 438),dE P "_law_made" 818 (.ref 445),dE P "_law_paper" 829 (.ref 452),dE P "_law_stays" 844 (.ref 459),dE P "_law_weight" 859 (.ref 466),dE P "_law_counts" 865 (.ref 471),dE P "_law_row" 871 (.ref 476),dE P "_law_spread" 882 (.ref 483),dE P "law" 888 (.ref 488)] 65,#[]⟩)::(nat_lit 27,oB "is_whole" 202 8 1 22 206)::(nat_lit 28,oG (top 5) "is_whole" "daysgate.checks" 194 27)::(nat_lit 34,oB "is_between" 209 10 3 29 215)::(nat_lit 35,oG (top 6) "is_between" "daysgate.checks" 194 34)::(nat_lit 41,oB "are_days" 218 12 2 36 223)::(nat_lit 42,oG (top 7) "are_days" "daysgate.checks" 194 41)::(nat_lit 48,oB "is_made_of" 226 14 2 43 232)::(nat_lit 49,oG (top 8) "is_made_of" "daysgate.checks" 194 48)::(nat_lit 55,oB "is_name" 235 19 1 50 239)::(nat_lit 56,oG (top 9) "is_name" "daysgate.checks" 194 55)::(nat_lit 62,oB "spread" 244 24 1 57 251)::(nat_lit 63,oG (top 11) "spread" "daysgate.days" 242 62)::(nat_lit 69,oB "both" 254 32 2 64 264)::(nat_lit 70,oG (top 12) "both" "daysgate.days" 242 69)::(nat_lit 76,oB "outside" 267 46 3 71 276)::(nat_lit 77,oG (top 13) "outside" "daysgate.days" 242 76)::(nat_lit 83,oB "less" 279 56 2 78 284)::(nat_lit 84,oG (top 14) "less" "daysgate.days" 242 83)::(nat_lit 95,⟨(.type "getset_descriptor"),none,.fields #[(.str "__weakref__" 302),(.ref 94),(.builtin "ExceptionGroup.__weakref__"),.none],#[]⟩)::(nat_lit 153,oB "is_land" 379 78 1 148 383)::(nat_lit 154,oG (top 23) "is_land" "daysgate.rules" 373 153)::(nat_lit 160,oB "are_lands" 386 82 1 155 392)::(nat_lit 161,oG (top 24) "are_lands" "daysgate.rules" 373 160)::(nat_lit 174,oC "__init__" 407 "Rule.__init__" 408 409 93 3 169 170 (.ref 171) (.ref 172) 173 413 414)::(nat_lit 175,oFn none (mem 25 0) "__init__" "Rule.__init__" .none .none .none (.str "daysgate.rules" 373) none (.ref 174) .none)::(nat_lit 181,oC "weight" 416 "Rule.weight" 417 418 101 2 176 177 (.ref 178) (.ref 179) 180 423 424)::(nat_lit 182,oFn none (mem 25 1) "weight" "Rule.weight" .none .none .none (.str "daysgate.rules" 373) none (.ref 181) .none)::(nat_lit 184,⟨(.type "dict"),none,.dict #[dE P "__module__" 402 (.str "daysgate.rules" 373),dE P "__firstlineno__" 406 (.int (91) 405),dE P "__init__" 415 (.ref 175),dE P "weight" 425 (.ref 182),dE P "__static_attributes__" 428 (.ref 183),dE P "__dict__" 430 (.ref 186),dE P "__weakref__" 432 (.ref 187),dE P "__doc__" 433 .none] 4,#[]⟩)::(nat_lit 185,⟨(.type "type"),none,.cls ⟨"Rule",[(.type "object")],[(.ref 185),(.type "object")],184,"Rule",true,[],[(.ref 213),(.ref 239)],false,none,false⟩,#[none,none,some (.str "Rule" 395),some (.str "Rule" 403),some (.builtin "object.__new__"),some (.bool true)]⟩)::(nat_lit 186,⟨(.type "getset_descriptor"),none,.fields #[(.str "__dict__" 429),(.ref 185),(.builtin "function.__dict__"),(.builtin "function.__dict__#set")],#[]⟩)::(nat_lit 187,⟨(.type "getset_descriptor"),none,.fields #[(.str "__weakref__" 431),(.ref 185),(.builtin "ExceptionGroup.__weakref__"),.none],#[]⟩)::(nat_lit 202,oC "__init__" 448 "Within.__init__" 449 450 108 4 197 198 (.ref 199) (.ref 200) 201 455 456)::(nat_lit 203,oFn none (mem 26 0) "__init__" "Within.__init__" .none .none .none (.str "daysgate.rules" 373) none (.ref 202) .none)::(nat_lit 209,oC "line" 458 "Within.line" 459 460 114 1 204 205 (.ref 206) (.ref 207) 208 462 463)::(nat_lit 210,oFn none (mem 26 1) "line" "Within.line" .none .none .none (.str "daysgate.rules" 373) none (.ref 209) .none)::(nat_lit 212,⟨(.type "dict"),none,.dict #[dE P "__module__" 443 (.str "daysgate.rules" 373),dE P "__firstlineno__" 447 (.int (106) 446),dE P "__init__" 457 (.ref 203),dE P "line" 464 (.ref 210),dE P "__static_attributes__" 466 (.ref 211),dE P "__doc__" 467 .none] 2,#[]⟩)::(nat_lit 213,⟨(.type "type"),none,.cls ⟨"Within",[(.ref 185)],[(.ref 213),(.ref 185),(.type "object")],212,"Within",true,[],[],false,none,false⟩,#[some (.ref 190),none,some (.str "Within" 436),some (.str "Within" 444),some (.builtin "object.__new__"),some (.bool true)]⟩)::(nat_lit 228,oC "__init__" 482 "Since.__init__" 483 484 118 4 223 224 (.ref 225) (.ref 226) 227 489 490)::(nat_lit 229,oFn none (mem 27 0) "__init__" "Since.__init__" .none .none .none (.str "daysgate.rules" 373) none (.ref 228) .none)::(nat_lit 235,oC "line" 492 "Since.line" 493 494 124 1 230 231 (.ref 232) (.ref 233) 234 496 497)::(nat_lit 236,oFn none (mem 27 1) "line" "Since.line" .none .none .none (.str "daysgate.rules" 373) none (.ref 235) .none)::(nat_lit 238,⟨(.type "dict"),none,.dict #[dE P "__module__" 477 (.str "daysgate.rules" 373),dE P "__firstlineno__" 481 (.int (116) 480),dE P "__init__" 491 (.ref 229),dE P "line" 498 (.ref 236),dE P "__static_attributes__" 500 (.ref 237),dE P "__doc__" 501 .none] 2,#[]⟩)::(nat_lit 239,⟨(.type "type"),none,.cls ⟨"Since",[(.ref 185)],[(.ref 239),(.ref 185),(.type "object")],238,"Since",true,[],[(.ref 265)],false,none,false⟩,#[some (.ref 216),none,some (.str "Since" 470),some (.str "Since" 478),some (.builtin "object.__new__"),some (.bool true)]⟩)::(nat_lit 254,oC "__init__" 516 "InRow.__init__" 517 518 128 3 249 250 (.ref 251) (.ref 252) 253 522 523)::(nat_lit 255,oFn none (mem 28 0) "__init__" "InRow.__init__" .none .none .none (.str "daysgate.rules" 373) none (.ref 254) .none)::(nat_lit 261,oC "line" 525 "InRow.line" 526 527 131 1 256 257 (.ref 258) (.ref 259) 260 529 530)::(nat_lit 262,oFn none (mem 28 1) "line" "InRow.line" .none .none .none (.str "daysgate.rules" 373) none (.ref 261) .none)::(nat_lit 264,⟨(.type "dict"),none,.dict #[dE P "__module__" 511 (.str "daysgate.rules" 373),dE P "__firstlineno__" 515 (.int (126) 514),dE P "__init__" 524 (.ref 255),dE P "line" 531 (.ref 262),dE P "__static_attributes__" 532 (.ref 263),dE P "__doc__" 533 .none] 2,#[]⟩)::(nat_lit 265,⟨(.type "type"),none,.cls ⟨"InRow",[(.ref 239)],[(.ref 265),(.ref 239),(.ref 185),(.type "object")],264,"InRow",true,[],[],false,none,false⟩,#[some (.ref 242),none,some (.str "InRow" 504),some (.str "InRow" 512),some (.builtin "object.__new__"),some (.bool true)]⟩)::(nat_lit 273,oB "is_stay" 540 135 1 268 544)::(nat_lit 274,oG (top 31) "is_stay" "daysgate.stays" 536 273)::(nat_lit 280,oB "stays_of" 547 139 1 275 554)::(nat_lit 281,oG (top 32) "stays_of" "daysgate.stays" 536 280)::(nat_lit 285,oC "pieces_among" 559 "pieces_among" 560 561 151 3 282 283 .none .none 284 562 563)::(nat_lit 286,oG (top 34) "pieces_among" "daysgate.sums" 557 285)::(nat_lit 292,oB "pieces_of" 565 160 3 287 571)::(nat_lit 293,oG (top 35) "pieces_of" "daysgate.sums" 557 292)::(nat_lit 299,oB "sum_of" 574 162 3 294 585)::(nat_lit 300,oG (top 36) "sum_of" "daysgate.sums" 557 299)::(nat_lit 306,oB "first_since" 588 169 3 301 598)::(nat_lit 307,oG (top 37) "first_since" "daysgate.sums" 557 306)::(nat_lit 313,oB "first_of_window" 601 177 3 308 607)::(nat_lit 314,oG (top 38) "first_of_window" "daysgate.sums" 557 313)::(nat_lit 320,oB "count_among" 610 181 3 315 616)::(nat_lit 321,oG (top 39) "count_among" "daysgate.sums" 557 320)::(nat_lit 327,oB "turns_of" 619 183 2 322 628)::(nat_lit 328,oG (top 40) "turns_of" "daysgate.sums" 557 327)::(nat_lit 334,oB "edges_of" 633 191 2 329 642)::(nat_lit 335,oG (top 42) "edges_of" "daysgate.diary" 631 334)::(nat_lit 341,oB "difference" 645 199 4 336 652)::(nat_lit 342,oG (top 43) "difference" "daysgate.diary" 631 341)::(nat_lit 348,oB "unlike_days" 655 201 5 343 666)::(nat_lit 349,oG (top 44) "unlike_days" "daysgate.diary" 631 348)::(nat_lit 355,oB "changed_days" 669 210 4 350 683)::(nat_lit 356,oG (top 45) "changed_days" "daysgate.diary" 631 355)::(nat_lit 362,oB "are_rules" 692 222 1 357 697)::(nat_lit 363,oG (top 49) "are_rules" "daysgate.books" 686 362)::(nat_lit 369,oB "is_paper" 700 229 2 364 705)::(nat_lit 370,oG (top 50) "is_paper" "daysgate.books" 686 369)::(nat_lit 376,oB "check_papers" 708 233 2 371 715)::(nat_lit 377,oG (top 51) "check_papers" "daysgate.books" 686 376)::(nat_lit 390,oC "__init__" 730 "Book.__init__" 731 732 243 3 385 386 (.ref 387) (.ref 388) 389 736 737)::(nat_lit 391,oFn none (mem 52 0) "__init__" "Book.__init__" .none .none .none (.str "daysgate.books" 686) none (.ref 390) .none)::(nat_lit 397,oC "rules" 739 "Book.rules" 740 741 250 1 392 393 (.ref 394) (.ref 395) 396 743 744)::(nat_lit 398,oFn none (mem 52 1) "rules" "Book.rules" .none .none .none (.str "daysgate.books" 686) none (.ref 397) .none)::(nat_lit 404,oC "papers" 746 "Book.papers" 747 748 253 1 399 400 (.ref 401) (.ref 402) 403 750 751)::(nat_lit 405,oFn none (mem 52 2) "papers" "Book.papers" .none .none .none (.str "daysgate.books" 686) none (.ref 404) .none)::(nat_lit 409,oC "lifted" 753 "Book.lifted" 754 755 256 2 406 407 .none .none 408 756 757)::(nat_lit 410,oFn none (mem 52 3) "lifted" "Book.lifted" .none .none .none (.str "daysgate.books" 686) none (.ref 409) .none)::(nat_lit 412,⟨(.type "dict"),none,.dict #[dE P "__module__" 725 (.str "daysgate.books" 686),dE P "__firstlineno__" 729 (.int (241) 728),dE P "__init__" 738 (.ref 391),dE P "rules" 745 (.ref 398),dE P "papers" 752 (.ref 405),dE P "lifted" 758 (.ref 410),dE P "__static_attributes__" 761 (.ref 411),dE P "__dict__" 763 (.ref 414),dE P "__weakref__" 765 (.ref 415),dE P "__doc__" 766 .none] 4,#[]⟩)::(nat_lit 413,⟨(.type "type"),none,.cls ⟨"Book",[(.type "object")],[(.ref 413),(.type "object")],412,"Book",true,[],[],false,none,false⟩,#[none,none,some (.str "Book" 718),some (.str "Book" 726),some (.builtin "object.__new__"),some (.bool true)]⟩)::(nat_lit 414,⟨(.type "getset_descriptor"),none,.fields #[(.str "__dict__" 762),(.ref 413),(.builtin "function.__dict__"),(.builtin "function.__dict__#set")],#[]⟩)::(nat_lit 415,⟨(.type "getset_descriptor"),none,.fields #[(.str "__weakref__" 764),(.ref 413),(.builtin "ExceptionGroup.__weakref__"),.none],#[]⟩)::(nat_lit 423,oB "_law_cell_at" 771 259 2 418 776)::(nat_lit 424,oG (top 54) "_law_cell_at" "law_daysgate_k61_changed_by_days" 769 423)::(nat_lit 430,oB "_law_lands" 779 263 2 425 792)::(nat_lit 431,oG (top 55) "_law_lands" "law_daysgate_k61_changed_by_days" 769 430)::(nat_lit 437,oB "_law_rule" 795 275 2 432 805)::(nat_lit 438,oG (top 56) "_law_rule" "law_daysgate_k61_changed_by_days" 769 437)::(nat_lit 444,oB "_law_made" 808 287 1 439 816)::(nat_lit 445,oG (top 57) "_law_made" "law_daysgate_k61_changed_by_days" 769 444)::(nat_lit 451,oB "_law_paper" 819 294 3 446 827)::(nat_lit 452,oG (top 58) "_law_paper" "law_daysgate_k61_changed_by_days" 769 451)::(nat_lit 458,oB "_law_stays" 830 298 3 453 842)::(nat_lit 459,oG (top 59) "_law_stays" "law_daysgate_k61_changed_by_days" 769 458)::(nat_lit 465,oB "_law_weight" 845 309 5 460 857)::(nat_lit 466,oG (top 60) "_law_weight" "law_daysgate_k61_changed_by_days" 769 465)::(nat_lit 470,oC "_law_counts" 860 "_law_counts" 861 862 317 2 467 468 .none .none 469 863 864)::(nat_lit 471,oG (top 61) "_law_counts" "law_daysgate_k61_changed_by_days" 769 470)::(nat_lit 475,oC "_law_row" 866 "_law_row" 867 868 332 5 472 473 .none .none 474 869 870)::(nat_lit 476,oG (top 62) "_law_row" "law_daysgate_k61_changed_by_days" 769 475)::(nat_lit 482,oB "_law_spread" 872 334 2 477 880)::(nat_lit 483,oG (top 63) "_law_spread" "law_daysgate_k61_changed_by_days" 769 482)::(nat_lit 487,oC "law" 883 "law" 884 885 342 1 484 485 .none .none 486 886 887)::(nat_lit 488,oG (top 64) "law" "law_daysgate_k61_changed_by_days" 769 487)::[]
def HKe(P:ec):Has=(HK P).map (·.1):=(4:)
def qmM(p q:aE)(rc:ag->Bool)(w:aB)(H0:au)(s0:fT):=(JW gJ p w 11 (some (.ref 6)) 8130 s0 (topStub p)).map (λs=>qhW p q [] (λs=>xlAt q [] s&&rc s) (λs=>Has.map s.heap.get?) true H0 s.abs)
def Hlk(w:aB)(H0:au)(s0:fT):=qmM HP Hq (recOk (RowW.records PySem.Challenge.rw_daysgate_k61_changed_by_days.row.toRowW)) w H0 s0
def qmN(q:aE):=openGood q []
def Hgd:=qmN Hq
def qeQ:qmM=qmM:=rfl
def qeR:qmN=qmN:=rfl
end K61
lay_quick K61.qmM K61.qmN
name_quick hlkQ for K61.qmM by K61.qeQ
name_quick hgdQ for K61.qmN by K61.qeR
namespace K61
open PySem PySem.W HD DG
def qmO(w:aB)(os:OsState):Hlk w (bX w.params) (qhV w.params os)=some (true,Hgd,(HK w.params).map λp=>some p.2):=by
 unfold Hlk Hgd;rw[PySem.W.Fast.hlkQ_eq,PySem.W.Fast.hgdQ_eq]
 kernel_rfl
def qok:LeftO HP Hq [] Hx (λs=>Has.map s.heap.get?) (λw=>(HK w.params).map λp=>some p.2) 8130 true:=
 qhX (boot_open (4:) (2:) (λ_=>(4:))) qc8 qmO
end K61
namespace DG
open PySem PySem.Spec PyProof.Rows L2 DE
def qjo(b:Bool)(l:List D):aA b l=aL b l:=by cases b<;>rfl
def qaY{pg:Pg}[CH pg][RU pg][BO pg](j:Nat):Ck pg (j+5) where
 lands:=λb l h=>by rw[qjo];exact qaI (j+1) b l h
 rules:=λb l h=>by rw[qjo];exact qaJ (j+4) b l h
 papers:=λb ps n h=>by rw[qjo];exact Yz j b ps n h
 btw:=λn a b h=>qmn (j+3) n a b h
def kap(cW cS cI cB:ad):KC:=λc=>if c = "Within" then some cW else if c = "Since" then some cS else if c = "InRow" then some cI else if c = "Book" then some cB else none
def qmP{cW cS cI cB C:ad}{c:Str}(h:kap cW cS cI cB c=some C):(c = "Within"/\C=cW)\/(c = "Since"/\C=cS)\/(c = "InRow"/\C=cI)\/(c = "Book"/\C=cB):=by
 unfold kap at h
 split at h
 ·cases h;exact .inl ⟨‹_›,rfl⟩
 split at h
 ·cases h;exact .inr (.inl ⟨‹_›,rfl⟩)
 split at h
 ·cases h;exact .inr (.inr (.inl ⟨‹_›,rfl⟩))
 split at h
 ·cases h;exact .inr (.inr (.inr ⟨‹_›,rfl⟩))
 cases h
def qcD{c:Str}(h:rk c=true):c = "Within"\/c = "Since"\/c = "InRow":=by
 unfold rk at h
 simpa [or_assoc] using h
def qmQ{c x:Str}(h:(pcs {}).fld c x=true):(rk c=true/\(x = "lands"\/x = "most"))\/(c = "Within"/\x = "span")\/((c = "Since"\/c = "InRow")/\x = "leave")\/(c = "Book"/\(x = "kept_rules"\/x = "kept_papers")):=by
 have h:((rk c&&(x == "lands" || x == "most" || (x == "span" && c == "Within")||(x == "leave" && c != "Within")))||(c == "Book" && (x == "kept_rules" || x == "kept_papers")))=true:=h;simp![eB,aG,beq_iff_eq,bne_iff_ne]at h;rcases h with ⟨h1,((h2|h2)|h2)|h2⟩|h2
 ·exact .inl ⟨h1,.inl h2⟩
 ·exact .inl ⟨h1,.inr h2⟩
 ·exact .inr (.inl ⟨h2.2,h2.1⟩)
 ·refine .inr (.inr (.inl ⟨?_,h2.1⟩));rcases qcD h1 with q|q
  ·exact absurd q h2.2
  ·exact q
 ·exact .inr (.inr (.inr h2))
def qol{c x f:Str}(h:(pcs {}).mt c x=some f):(rk c=true/\x = "weight"/\f = "Rule.weight")\/(c = "Book"/\x = "rules"/\f = "Book.rules")\/(c = "Book"/\x = "lifted"/\f = "Book.lifted")\/(c = "Book"/\x = "papers"/\f = "Book.papers"):=by
 have h:(if (rk c&&x == "weight")=true then some ("Rule.weight" : Str) else if (c == "Book" && x == "rules")=true then some ("Book.rules" : Str) else if (c == "Book" && x == "lifted")=true then some ("Book.lifted" : Str) else if (c == "Book" && x == "papers")=true then some ("Book.papers" : Str) else none)=some f:=h
 split at h
 ·rename_i q;simp![aG,beq_iff_eq]at q;cases h;exact .inl ⟨q.1,q.2,rfl⟩
 split at h
 ·rename_i q;simp![aG,beq_iff_eq]at q;cases h;exact .inr (.inl ⟨q.1,q.2,rfl⟩)
 split at h
 ·rename_i q;simp![aG,beq_iff_eq]at q;cases h;exact .inr (.inr (.inl ⟨q.1,q.2,rfl⟩))
 split at h
 ·rename_i q;simp![aG,beq_iff_eq]at q;cases h;exact .inr (.inr (.inr ⟨q.1,q.2,rfl⟩))
 cases h
def qmR{c t:Str}{b:Bool}(h:(pcs {}).sub c t=some b):rk c=true/\((t = "Within"/\b=(c == "Within"))\/(t = "Since"/\b=(c != "Within"))):=by
 have h:(if (rk c&&t == "Within")=true then some (c == "Within") else if (rk c&&t == "Since")=true then some (c != "Within") else none)=some b:=h
 split at h
 ·rename_i q;simp![aG,beq_iff_eq]at q;cases h;exact{q.1,.inl ⟨q.2,rfl⟩}
 split at h
 ·rename_i q;simp![aG,beq_iff_eq]at q;cases h;exact{q.1,.inr ⟨q.2,rfl⟩}
 cases h
theorem QX{c:Str}{o:Option (List (Str×D))}{r:Rv}(h:qbA c o=.ok r):∃fs,o=some fs/\r=.val (.ins c (fs.map (·.1)) (fs.map (·.2))):=by
 cases o with
 |none=>cases h
 |some fs=>cases h;exact⟨fs,rfl,rfl⟩
def qai(b:Bool)(l l':List D):aA b l≠.scr l':=by cases b<;>(intro z;cases z)
def qgD{k:Nat}{f:Str}{args:List Ar}{c:ad}{l:List (Str×D)}:pnw k f args≠.exc c l:=by
 have o:∀{n:Str} {x:Option (List (Str×D))},qbA n x≠.exc c l:=λ{n x}=>by cases x<;>exact nofun
 unfold pnw
 repeat' first|exact o|(intro h;cases h)|split
def qpL{j:Nat}{args:List Ar}{r:Rv}(h:pnw (j+12) "Within" args=.ok r):(∀a∈args,∀l,a≠.scr l)/\∃fs,jL "span" args=some fs/\r=.val (.ins "Within" (fs.map (·.1)) (fs.map (·.2))):=by
 have h:(if j+12 < 12 then R.no else qbA "Within" (jL "span" args))=.ok r:=h;rw[if_neg (1:)]at h;obtain⟨fs,e,er⟩:=QX h;obtain⟨b,l,m,s,rfl,_⟩:=yT e;refine{λa ha=>?_,fs,e,er};simp![aF,eC,or_false]at ha;rcases ha with rfl|rfl|rfl
 ·exactλl'=>qai b l l'
 ·exactλl' z=>by cases z
 ·exactλl' z=>by cases z
def qpM{j:Nat}{args:List Ar}{r:Rv}(h:pnw (j+12) "Since" args=.ok r):(∀a∈args,∀l,a≠.scr l)/\∃fs,jL "leave" args=some fs/\r=.val (.ins "Since" (fs.map (·.1)) (fs.map (·.2))):=by
 have h:(if j+12 < 12 then R.no else qbA "Since" (jL "leave" args))=.ok r:=h;rw[if_neg (1:)]at h;obtain⟨fs,e,er⟩:=QX h;obtain⟨b,l,m,s,rfl,_⟩:=yT e;refine{λa ha=>?_,fs,e,er};simp![aF,eC,or_false]at ha;rcases ha with rfl|rfl|rfl
 ·exactλl'=>qai b l l'
 ·exactλl' z=>by cases z
 ·exactλl' z=>by cases z
def qpN{j:Nat}{args:List Ar}{r:Rv}(h:pnw (j+12) "InRow" args=.ok r):(∀a∈args,∀l,a≠.scr l)/\∃fs,qcv args=some fs/\r=.val (.ins "InRow" (fs.map (·.1)) (fs.map (·.2))):=by
 have h:(if j+12 < 12 then R.no else qbA "InRow" (qcv args))=.ok r:=h;rw[if_neg (1:)]at h;obtain⟨fs,e,er⟩:=QX h;obtain⟨b,l,m,rfl,_⟩:=QV e;refine{λa ha=>?_,fs,e,er};simp![aF,eC,or_false]at ha;rcases ha with rfl|rfl
 ·exactλl'=>qai b l l'
 ·exactλl' z=>by cases z
def qpO{j:Nat}{args:List Ar}{r:Rv}(h:pnw (j+12) "Book" args=.ok r):(∀a∈args,∀l,a≠.scr l)/\∃fs,YN args=some fs/\r=.val (.ins "Book" (fs.map (·.1)) (fs.map (·.2))):=by
 have h:(if j+12 < 12 then R.no else qbA "Book" (YN args))=.ok r:=h;rw[if_neg (1:)]at h;obtain⟨fs,e,er⟩:=QX h;obtain⟨b,c,l,ps,rfl,_⟩:=Yt e;refine{λa ha=>?_,fs,e,er};simp![aF,eC,or_false]at ha;rcases ha with rfl|rfl
 ·exactλl'=>qai b l l'
 ·exactλl'=>qai c ps l'
structure Kl(K:Frag)(C:ad):Prop where
 cls:Cls K C
 tc:dh K (.ref C) "__class__" = some (some (.builtin "object.__class__"))
 mo:PySem.W.mroIn K C (.type "object")=some true
structure Kr(K:Frag)(fw C cW cS:ad)(x:Str)(b:Bool):Prop where
 kl:Kl K C
 la:ze K C "lands"
 mo:ze K C "most"
 fx:ze K C x
 wt:Meth K C "weight" fw
 iw:di K (.ref C) (.ref cW)=some b
 is:di K (.ref C) (.ref cS)=some (!b)
structure Kb(K:Frag)(fr fl fp C:ad):Prop where
 kl:Kl K C
 a1:ze K C "kept_rules"
 a2:ze K C "kept_papers"
 m1:Meth K C "rules" fr
 m2:Meth K C "lifted" fl
 m3:Meth K C "papers" fp
section
variable{K:Frag}{mg:PR}{cW cS cI cB fw fr fl fp:ad}(W:Kr K fw cW cW cS "span" true)(S:Kr K fw cS cW cS "leave" false)(I:Kr K fw cI cW cS "leave" false)(B:Kb K fr fl fp cB)
include W S I B
theorem qhu(c:Str)(C:ad)(h:kap cW cS cI cB c=some C):Cls K C:=by
 rcases qmP h with ⟨_,rfl⟩|⟨_,rfl⟩|⟨_,rfl⟩|⟨_,rfl⟩
 ·exact W.kl.cls
 ·exact S.kl.cls
 ·exact I.kl.cls
 ·exact B.kl.cls
theorem qeS(c x:Str)(C:ad)(hf:(pcs {}).fld c x=true)(h:kap cW cS cI cB c=some C):ze K C x:=by
 rcases qmQ hf with ⟨hr,rfl|rfl⟩|⟨rfl,rfl⟩|⟨rfl|rfl,rfl⟩|⟨rfl,rfl|rfl⟩
 ·rcases qcD hr with rfl|rfl|rfl
  ·cases h;exact W.la
  ·cases h;exact S.la
  ·cases h;exact I.la
 ·rcases qcD hr with rfl|rfl|rfl
  ·cases h;exact W.mo
  ·cases h;exact S.mo
  ·cases h;exact I.mo
 ·cases h;exact W.fx
 ·cases h;exact S.fx
 ·cases h;exact I.fx
 ·cases h;exact B.a1
 ·cases h;exact B.a2
theorem qcE{C:ad}(k:Kl K C)(n:iP K (.builtin "object.__class__") "__get__" = some (some (.builtin "getset_descriptor.__get__")))(tk:iQ K (.builtin "object.__class__")=some true) :
  ∀(H:Hp) (p dx:ad) (fs:List (Str×V)),H p=some (L2.HO.ins C dx fs)->TyOf K H (.ref p) (.ref C):=λH p dx fs hp=>.ins hp k.cls k.tc n tk k.mo
theorem qjp(n:iP K (.builtin "object.__class__") "__get__" = some (some (.builtin "getset_descriptor.__get__")))(tk:iQ K (.builtin "object.__class__")=some true)(mW:mg "Within" = some (.ref cW))(mS:mg "Since" = some (.ref cS))
  (c t:Str) (b:Bool) (h:(pcs {}).sub c t=some b):∃C T,kap cW cS cI cB c=some C/\(∀H p dx fs,H p=some (L2.HO.ins C dx fs)->TyOf K H (.ref p) (.ref C))/\mg t=some (.ref T)/\di K (.ref C) (.ref T)=some b:=by
 obtain⟨hr,⟨rfl,rfl⟩|⟨rfl,rfl⟩⟩:=qmR h
 ·rcases qcD hr with rfl|rfl|rfl
  ·exact{cW,cW,rfl,qcE W S I B W.kl n tk,mW,W.iw}
  ·exact{cS,cW,rfl,qcE W S I B S.kl n tk,mW,S.iw}
  ·exact{cI,cW,rfl,qcE W S I B I.kl n tk,mW,I.iw}
 ·rcases qcD hr with rfl|rfl|rfl
  ·exact{cW,cS,rfl,qcE W S I B W.kl n tk,mS,W.is}
  ·exact{cS,cS,rfl,qcE W S I B S.kl n tk,mS,S.is}
  ·exact{cI,cS,rfl,qcE W S I B I.kl n tk,mS,I.is}
end
def Q2(K:Frag)(f:ad)(n q:Str)(st:aC):Prop:=∃oc od kV dc pm an cd ct sl,K.lookup f=some ⟨oc,od,.func (cu n q (qW st) (qA st) (qh st) .none kV dc pm an cd ct),sl⟩/\gU K cd q=true/\dz K (.ref f)=true
noncomputable abbrev FG(K:Frag)(f:ad)(n:Str)(st:aC):Prop:=i5 K aV n=some (some (.ref f))/\Q2 K f n n st
section
variable{K:Frag}{f:ad}{n q:Str}{st:aC}{mg:PR}{h:au}
def Q2.fn(i:Q2 K f n q st):∃fd,Fun K n q st f fd:=by obtain⟨oc,od,kV,dc,pm,an,cd,ct,sl,l,c,k⟩:=i;exact{_,qgH l c k}
theorem un1{us:List aa}{a:Str}{l:List Str}(h:us.length=(a::l).length):∃u vs,us=u::vs/\vs.length=l.length:=by
 cases us with
 |nil=>cases h
 |cons u vs=>exact{u,vs,rfl,Nat.succ.inj h}
def Bd(n q:Str)(st:aC)(ps:List Str):Prop:=∀(kV doc pm:aa) (an:Option ad) (cdv ct:aa) (us:List aa),us.length=ps.length->eE (cu n q (qW st) (qA st) (qh st) .none kV doc pm an cdv ct) ⟨us,[]⟩=pure (ps.zip us)
def qmS(X:K.In h)(G:h.Ns aV mg)(a:i5 K aV n=some (some (.ref f)))(i:Q2 K f n n st){ps:List Str}(hp:Yx st=ps)(hb:Bd n n st ps):FnF K mg n st:=by obtain⟨fd,F⟩:=i.fn;exact{f,fd,F,PySem.W.mg_of X G a,hp▸F.binds hb}
def yU(i:Q2 K f n q st){ps:List Str}(hb:Bd n q st ps):∃fd,Fun K n q st f fd/\zp K fd ps []:=by obtain⟨fd,F⟩:=i.fn;exact{fd,F,F.binds hb}
def qmT(i:Q2 K f n n st)(hb:Bd n n st ["_law_script"]):∃fd,Fun K n n st f fd/\∀(s:ag) (v:aa),e6 s fd ⟨[v],[]⟩ [("_law_script",v)]:=by obtain⟨oc,od,kV,dc,pm,an,cd,ct,sl,l,c,k⟩:=i;exact{_,qgH l c k,λs v=>.of_eq (hb _ _ _ _ _ _ [v] rfl)}
end
section
variable{n q:Str}{st:aC}{a b c d e:Str}
def bd1(h:∀(kV doc pm:aa) (an:Option ad) (cdv ct x:aa),eE (cu n q (qW st) (qA st) (qh st) .none kV doc pm an cdv ct) ⟨[x],[]⟩=pure [(a,x)]):Bd n q st [a]:=λ_ _ _ _ _ _ us k0=>by
 obtain⟨_,us,rfl,k1⟩:=un1 k0
 cases dH.mp k1;exact h ..
def bd2(h:∀(kV doc pm:aa) (an:Option ad) (cdv ct x y:aa),eE (cu n q (qW st) (qA st) (qh st) .none kV doc pm an cdv ct) ⟨[x,y],[]⟩=pure [(a,x),(b,y)]):Bd n q st [a,b]:=λ_ _ _ _ _ _ us k0=>by
 obtain⟨_,us,rfl,k1⟩:=un1 k0;obtain⟨_,us,rfl,k2⟩:=un1 k1
 cases dH.mp k2;exact h ..
def bd3(h:∀(kV doc pm:aa) (an:Option ad) (cdv ct x y z:aa),eE (cu n q (qW st) (qA st) (qh st) .none kV doc pm an cdv ct) ⟨[x,y,z],[]⟩=pure [(a,x),(b,y),(c,z)]):Bd n q st [a,b,c]:=λ_ _ _ _ _ _ us k0=>by
 obtain⟨_,us,rfl,k1⟩:=un1 k0;obtain⟨_,us,rfl,k2⟩:=un1 k1;obtain⟨_,us,rfl,k3⟩:=un1 k2
 cases dH.mp k3;exact h ..
def bd4(h:∀(kV doc pm:aa) (an:Option ad) (cdv ct x y z u:aa),eE (cu n q (qW st) (qA st) (qh st) .none kV doc pm an cdv ct) ⟨[x,y,z,u],[]⟩=pure [(a,x),(b,y),(c,z),(d,u)]):Bd n q st [a,b,c,d]:=λ_ _ _ _ _ _ us k0=>by
 obtain⟨_,us,rfl,k1⟩:=un1 k0;obtain⟨_,us,rfl,k2⟩:=un1 k1;obtain⟨_,us,rfl,k3⟩:=un1 k2;obtain⟨_,us,rfl,k4⟩:=un1 k3
 cases dH.mp k4;exact h ..
def bd5(h:∀(kV doc pm:aa) (an:Option ad) (cdv ct x y z u v:aa),eE (cu n q (qW st) (qA st) (qh st) .none kV doc pm an cdv ct) ⟨[x,y,z,u,v],[]⟩=pure [(a,x),(b,y),(c,z),(d,u),(e,v)]):Bd n q st [a,b,c,d,e]:=λ_ _ _ _ _ _ us k0=>by
 obtain⟨_,us,rfl,k1⟩:=un1 k0;obtain⟨_,us,rfl,k2⟩:=un1 k1;obtain⟨_,us,rfl,k3⟩:=un1 k2;obtain⟨_,us,rfl,k4⟩:=un1 k3;obtain⟨_,us,rfl,k5⟩:=un1 k4
 cases dH.mp k5;exact h ..
end
inductive BDs:List (Str×aC)->Prop
 | nil:BDs []
 | cons {n st l ps}:Yx st=ps->Bd n n st ps->BDs l->BDs ((n,st)::l)
inductive FGs(K:Frag):List (Str×aC)->Prop
 | nil:FGs K []
 | cons {f n st l}:FG K f n st->FGs K l->FGs K ((n,st)::l)
inductive ZNs(K:Frag):List Str->Prop
 | nil:ZNs K []
 | cons {n l}:i5 K aV n=some none->ZNs K l->ZNs K (n::l)
section
variable{K:Frag}{mg:PR}{h:au}
theorem FGs.all(X:K.In h)(G:h.Ns aV mg){l:List (Str×aC)}(a:FGs K l)(p:BDs l):AllF K mg l:=by
 induction a with
 |nil=>exact .nil
 |cons i _ ih=>
  cases p with
  |cons e b p=>exact .cons (qmS X G i.1 i.2 e b) (ih p)
theorem ZNs.all(X:K.In h)(G:h.Ns aV mg){l:List Str}(a:ZNs K l):∀f∈l,mg f=none:=by
 induction a with
 |nil=>exact nofun
 |cons i _ ih=>
  intro f hf;rcases aF.mp hf with rfl|hf
  ·exact PySem.W.mg_none_of X G i
  ·exact ih f hf
end
end DG
namespace K61
open PySem PySem.W L2 DE DG
def qmU{l:OpenLaw}{w:aB}{K:Frag}{h:au}{mg:PR}{fa cR cW cS cI cB f37 fiR fiW fiS fiI fiB fmw fmr fmp fml:ad}{t0 t1 t2 t3 t4 t5 t6 t7:Tok}(X:K.In h)(G:h.Ns aV mg)(hfa:mg "law" = some (.ref fa))
  (aL:FG K f37 "law" (top 64))
  (a:FGs K pg.defs)
  (z:ZNs K qdC)
  (v0:nsIn K aV "GREATEST" = some (some (.int 1000000000 t0)))
  (v1:nsIn K aV "LETTERS" = some (some (.str "abcdefghijklmnopqrstuvwxyz" t1)))
  (v2:nsIn K aV "LONGEST_NAME" = some (some (.int 8 t2)))
  (v3:nsIn K aV "MOST_LANDS" = some (some (.int 6 t3)))
  (v4:nsIn K aV "GREATEST_WEIGHT" = some (some (.int 9 t4)))
  (v5:nsIn K aV "MOST_STAYS" = some (some (.int 60 t5)))
  (v6:nsIn K aV "MOST_RULES" = some (some (.int 8 t6)))
  (v7:nsIn K aV "MOST_PAPERS" = some (some (.int 12 t7)))
  (ncR:nsIn K aV "Rule" = some (some (.ref cR)))
  (ncW:nsIn K aV "Within" = some (some (.ref cW)))
  (ncS:nsIn K aV "Since" = some (some (.ref cS)))
  (ncI:nsIn K aV "InRow" = some (some (.ref cI)))
  (ncB:nsIn K aV "Book" = some (some (.ref cB)))
  (inR:eg K (.ref cR) "__init__" = some (some (.ref fiR)))
  (inW:eg K (.ref cW) "__init__" = some (some (.ref fiW)))
  (inS:eg K (.ref cS) "__init__" = some (some (.ref fiS)))
  (inI:eg K (.ref cI) "__init__" = some (some (.ref fiI)))
  (inB:eg K (.ref cB) "__init__" = some (some (.ref fiB)))
  (tmr:eg K (.ref cB) "rules" = some (some (.ref fmr)))
  (tml:eg K (.ref cB) "lifted" = some (some (.ref fml)))
  (tmp:eg K (.ref cB) "papers" = some (some (.ref fmp)))
  (tw:eg K (.ref cW) "weight" = some (some (.ref fmw)))
  (rW:Kr K fmw cW cW cS "span" true)
  (rS:Kr K fmw cS cW cS "leave" false)
  (rI:Kr K fmw cI cW cS "leave" false)
  (rB:Kb K fmr fml fmp cB)
  (hiR:Q2 K fiR "__init__" "Rule.__init__" (mem 25 0))
  (hiW:Q2 K fiW "__init__" "Within.__init__" (mem 26 0))
  (niW:isFn K (.ref fiW)=true)
  (hiS:Q2 K fiS "__init__" "Since.__init__" (mem 27 0))
  (niS:isFn K (.ref fiS)=true)
  (hiI:Q2 K fiI "__init__" "InRow.__init__" (mem 28 0))
  (niI:isFn K (.ref fiI)=true)
  (hiB:Q2 K fiB "__init__" "Book.__init__" (mem 52 0))
  (niB:isFn K (.ref fiB)=true)
  (hmw:Q2 K fmw "weight" "Rule.weight" (mem 25 1))
  (hmr:Q2 K fmr "rules" "Book.rules" (mem 52 1))
  (hmp:Q2 K fmp "papers" "Book.papers" (mem 52 2))
  (hml:Q2 K fml "lifted" "Book.lifted" (mem 52 3))
  (mkW:makesIn K cW=true)
  (kcW:keepIn K (.ref cW)=true)
  (mkS:makesIn K cS=true)
  (kcS:keepIn K (.ref cS)=true)
  (mkI:makesIn K cI=true)
  (kcI:keepIn K (.ref cI)=true)
  (mkB:makesIn K cB=true)
  (kcB:keepIn K (.ref cB)=true)
  (cfR:ClsFn K cR "__init__" fiR)
  (cfS:ClsFn K cS "__init__" fiS)
  (og:specialIn K (.builtin "object.__class__") "__get__" = some (some (.builtin "getset_descriptor.__get__")))
  (ot:takesIn K (.builtin "object.__class__")=some true)
  :
  ∃fd:bO,(∀(s:ag) (v:aa),e6 s fd ⟨[v],[]⟩ [("_law_script",v)])/\∀base:au,K.In base->base.Ns aV mg->FnOk l.prog w K mg base CX0 20 fa fd ["_law_script"] (spL (kap cW cS cI cB) K pg 20):=by
 have e:=hfa.symm.trans (mg_of X G aL.1);cases e;obtain⟨dL,FL,bL⟩:=qmT aL.2 ((bd1 λ_ _ _ _ _ _ _ =>rfl));have z:=z.all X G;obtain⟨diR,FiR,biR⟩:=yU hiR (ps:=["self","lands","most"]) ((bd3 λ_ _ _ _ _ _ _ _ _ =>rfl));obtain⟨diW,FiW,biW⟩:=yU hiW (ps:=["self","lands","most","span"]) ((bd4 λ_ _ _ _ _ _ _ _ _ _ =>rfl));obtain⟨diS,FiS,biS⟩:=yU hiS (ps:=["self","lands","most","leave"]) ((bd4 λ_ _ _ _ _ _ _ _ _ _ =>rfl));obtain⟨diI,FiI,biI⟩:=yU hiI (ps:=["self","lands","most"]) ((bd3 λ_ _ _ _ _ _ _ _ _ =>rfl));obtain⟨diB,FiB,biB⟩:=yU hiB (ps:=["self","rules","papers"]) ((bd3 λ_ _ _ _ _ _ _ _ _ =>rfl));obtain⟨dmw,Fmw,bmw⟩:=yU hmw (ps:=["self","land"]) ((bd2 λ_ _ _ _ _ _ _ _ =>rfl));obtain⟨dmr,Fmr,bmr⟩:=yU hmr (ps:=["self"]) ((bd1 λ_ _ _ _ _ _ _ =>rfl));obtain⟨dmp,Fmp,bmp⟩:=yU hmp (ps:=["self"]) ((bd1 λ_ _ _ _ _ _ _ =>rfl));obtain⟨dml,Fml,bml⟩:=yU hml (ps:=["self","number"]) ((bd2 λ_ _ _ _ _ _ _ _ =>rfl));have mcR:=mg_of X G ncR;have mcW:=mg_of X G ncW;have mcS:=mg_of X G ncS;have mcI:=mg_of X G ncI;have mcB:=mg_of X G ncB;have tx:Tx (kap cW cS cI cB) K mg:={z "tuple" (3:),z "list" (3:),z "len" (3:),{_,mg_of X G v0},qhu rW rS rI rB,qeS rW rS rI rB};refine{dL,bL,λbase _ _=>qlG (k:=19) (st:=top 64) ?ok FL (4:) (4:)}
 case ok=>
 refine { fn:=a.all X G ?q,blt:=z,gl:=?g,cls:=qhu rW rS rI rB,flds:=qeS rW rS rI rB,mts:=?m,mks:=?k,subs:=qjp rW rS rI rB og ot mcW mcS }
 case q=>repeat first|exact .nil |refine .cons (4:) (bd2 λ_ _ _ _ _ _ _ _ =>rfl) ?_ |refine .cons (4:) (bd3 λ_ _ _ _ _ _ _ _ _ =>rfl) ?_ |refine .cons (4:) (bd1 λ_ _ _ _ _ _ _ =>rfl) ?_ |refine .cons (4:) (bd4 λ_ _ _ _ _ _ _ _ _ _ =>rfl) ?_ |refine .cons (4:) (bd5 λ_ _ _ _ _ _ _ _ _ _ _ =>rfl) ?_ |refine .cons (4:) (bd6 λ_ _ _ _ _ _ _ _ _ _ _ _ =>rfl) ?_
 case g=>
  intro x d hd;unfold pg at hd;dsimp only at hd
  repeat (split at hd;· rename_i hx;cases hd;rw[hx];first |exact{.int _,_,mg_of X G (by assumption),{_,rfl},λ_=>by simp![Rep]} |exact{.str _,_,mg_of X G (by assumption),{_,rfl},λ_=>by simp![Rep]})
  cases hd
 case m=>
  intro c x f hm;rcases qol hm with ⟨hr,rfl,rfl⟩|⟨rfl,rfl,rfl⟩|⟨rfl,rfl,rfl⟩|⟨rfl,rfl,rfl⟩
  ·rcases qcD hr with rfl|rfl|rfl
   ·exact{cW,fmw,_,mem 25 1,"weight",rfl,rW.wt,(4:),(4:),Fmw,bmw}
   ·exact{cS,fmw,_,mem 25 1,"weight",rfl,rS.wt,(4:),(4:),Fmw,bmw}
   ·exact{cI,fmw,_,mem 25 1,"weight",rfl,rI.wt,(4:),(4:),Fmw,bmw}
  ·exact{cB,fmr,_,mem 52 1,"rules",rfl,rB.m1,(4:),(4:),Fmr,bmr}
  ·exact{cB,fml,_,mem 52 3,"lifted",rfl,rB.m2,(4:),(4:),Fml,bml}
  ·exact{cB,fmp,_,mem 52 2,"papers",rfl,rB.m3,(4:),(4:),Fmp,bmp}
 case k=>
  intro P wd base k ih f hf
  by_cases hk:k < 12
  ·exact .inl λargs=>if_pos hk
  obtain⟨j,rfl⟩:∃j,k=j+12:={k - 12,by omega};right
  have hf:f = "Within"\/f = "Since"\/f = "InRow"\/f = "Book":=by
   have hf:((["Within","Since","InRow","Book"]:List Str).contains f)=true:=hf
   simpa using hf
  rcases hf with rfl|rfl|rfl|rfl
  ·exact{cW,fiW,_,_,_,⟨mkW,inW,niW,kcW⟩,((QW (j:=j+9) tx FiR biR mcR cfR (ih (j+9) (by omega)) (ih (j+10) (by omega)) (qaY (j+4)) (qaY (j+5))).1 FiW),mcW,biW,by omega,QU (c:="Within") rfl rfl (λa _ _=>qgD (k:=j+12) (f:="Within") (args:=a)) λargs r=>qpL (j:=j)}
  ·exact{cS,fiS,_,_,_,⟨mkS,inS,niS,kcS⟩,((QW (j:=j+9) tx FiR biR mcR cfR (ih (j+9) (by omega)) (ih (j+10) (by omega)) (qaY (j+4)) (qaY (j+5))).2 FiS),mcS,biS,by omega,QU (c:="Since") rfl rfl (λa _ _=>qgD (k:=j+12) (f:="Since") (args:=a)) λargs r=>qpM (j:=j)}
  ·exact{cI,fiI,_,_,_,⟨mkI,inI,niI,kcI⟩,(qeP (j:=j+8) tx FiI FiS biS mcS cfS FiR biR mcR cfR (ih (j+8) (by omega)) (ih (j+9) (by omega)) (qaY (j+3)) (qaY (j+4))),mcI,biI,by omega,QU (c:="InRow") rfl rfl (λa _ _=>qgD (k:=j+12) (f:="InRow") (args:=a)) λargs r=>qpN (j:=j)}
  ·exact{cB,fiB,_,_,_,⟨mkB,inB,niB,kcB⟩,(qgC (j:=j+10) tx FiB (ih (j+10) (by omega)) (qaY (j+5))),mcB,biB,by omega,QU (c:="Book") rfl rfl (λa _ _=>qgD (k:=j+12) (f:="Book") (args:=a)) λargs r=>qpO (j:=j)}
def qpP{l:PySem.W.OpenLaw}{q:aE}{loose:List Str}{XP:(Str->Option aa)->au->Prop}{YP:aB->au->Prop}{d:DefRec}{K:ec->Frag}{U:KC}(hn:l.most=some 63)(hdf:d.params.defaults=[])
  (hY:∀(w:aB) (h:au),YP w h->(K w.params).In h)
  (F:∀(w:aB) (mg:PR) (fa:ad) (h:au),(K w.params).In h->h.Ns aV mg->mg d.name=some (.ref fa)->
   ∃fd:bO,(∀(s:ag) (u:aa),e6 s fd ⟨[u],[]⟩ [("_law_script",u)])/\∀base:au,(K w.params).In base->base.Ns aV mg->FnOk l.prog w (K w.params) mg base CX0 20 fa fd ["_law_script"] (spL U (K w.params) pg 20)) :
  PySem.W.WalkO q loose XP YP l.row.toRowW d [] (λf vs=>PySem.call f vs):=
 L2.qhT (n:=63) (k:=20) (x:="_law_script") (CX:=λ_=>CX0) (sp:=λw=>spL U (K w.params) pg 20) hn (2:) hdf ⟨rfl,by decide,by decide⟩ hY F (λ_ _ a ns hl _ hS=>qlH hS (qgx ns hl)) λ_ _ _ _ _ z=>z
end K61
open PySem PySem.W PyProof.Rows
set_option maxHeartbeats 0 in
theorem PySem.Challenge.cw_daysgate_k61_changed_by_days_holds : PySem.Challenge.rw_daysgate_k61_changed_by_days.Holds := by
 w_on;refine holds_law saidX λsaid=>?_
 refine holds_open (q:=K61.Hq) (loose:=[]) (Xt:=K61.Hx) (XP:=XL K61.Hq []) (Yf:=λs=>K61.Has.map s.heap.get?) (Ya:=λw=>(K61.HK w.params).map λp=>some p.2) (YP:=InK K61.HK) (N:=8130) K61.qok (InK.of K61.HKe) InK.keeps (λs e=>xl_of s (Bool.and_eq_true_iff.mp e).1) XL.keeps (by rfl) (by rfl) (by rfl) (λs e=>recFacts_of (Bool.and_eq_true_iff.mp e).2) (by rfl) (by first|assumption|decide+kernel) (3:) ⟨rfl,rfl,rfl,rfl,rfl,(3:)⟩ ?hw ?hc
 (case hw=>w_witness2)
 k_fill
 refine K61.qpP (l:=PySem.Challenge.rw_daysgate_k61_changed_by_days) (U:=(DG.kap (213:) (239:) (265:) (413:))) rfl rfl (λw h Y=>Y) ?F
 case F=>
  intro w mg fa h KX G hmg
  refine' K61.qmU KX G hmg ?_ ?_ ?_ ?_ ?_ ?_ ?_ ?_ ?_ ?_ ?_ ?_ ?_ ?_ ?_ ?_ ?_ ?_ ?_ ?_ ?_ ?_ ?_ ?_ ?_ ?_ ?_ ?_ ?_ ?_ ?_ ?_ ?_ ?_ ?_ ?_ ?_ ?_ ?_ ?_ ?_ ?_ ?_ ?_ ?_ ?_ ?_ ?_ ?_ ?_ ?_ ?_ ?_ ?_
  all_goals try first|k_is|exact{by k_is,by unfold DG.Q2;exact{_,_,_,_,_,_,_,_,_,by k_is,by k_is,by k_is}}|(unfold DG.Q2;exact{_,_,_,_,_,_,_,_,_,by k_is,by k_is,by k_is})|(refine{{{?_,?_,?_,?_},?_,?_},?_,?_,?_,{?_,?_,?_},?_,?_}<;>first|k_is|kit_is|(unfold L2.ze;k_is))|(refine{{{?_,?_,?_,?_},?_,?_},?_,?_,{?_,?_,?_},{?_,?_,?_},?_,?_,?_}<;>first|k_is|(unfold L2.ze;k_is))|(refine{?_,?_,?_,?_}<;>k_is)|kit_is|(repeat first|exact .nil|refine .cons ⟨by k_is,by unfold DG.Q2;exact{_,_,_,_,_,_,_,_,_,by k_is,by k_is,by k_is}⟩ ?_|refine .cons (by k_is) ?_)
