import PyProof.Rows.All
import Wide.All
import OpenK.AllK
import PySem.Challenge.RW_daysgate_k65_whole_just_these_days
set_option Elab.async false
set_option linter.all false
set_option maxRecDepth 100000
set_option compiler.extract_closed false
set_option bootstrap.genMatcherCode false
set_option genSizeOf false
set_option genInjectivity false
set_option tactic.hygienic false
set_option backward.eqns.nonrecursive false
noncomputable section
abbrev PP:=List (PySem.Addr×PySem.Obj)
abbrev PQ:=PySem.Value->PySem.Shared->Prop
abbrev PR:=PySem.Str->Option PySem.Value
open PySem.W (Frag)
set_option hygiene false
local macro_rules
| `(%[$n:num|0])=>`(.cons (.var $n) .nil)
| `(%[$a|0])=>`(.cons $a .nil)
| `(%[$n:num,$b,*|0])=>`(.cons (.var $n) %[$b,*|0])
| `(%[$a,$b,*|0])=>`(.cons $a %[$b,*|0])
| `(%[$n:num|1])=>`(qm (pg:=pg) (st:=top $n) (4:) λk cl=>(4:))
def saidX:PySem.Challenge.rw_daysgate_k65_whole_just_these_days.wellSaid=true:=by kernel_rfl
local macro_rules|`(($n:num :))=>`(nat_lit $n)
local macro_rules|`((1:))=>`(by lia)|`((5:))=>`(by simp)|`((-$e :))=>`(by simpa using $e)|`((3:))=>`(by decide+kernel)|`((4:))=>`(by kernel_rfl)|`((2:))=>`(by decide)
local macro_rules|`(tactic| simp?![$ls,*]$[$l:location]?)=>do
  let f (s:String) (k:Lean.Name):=(s.splitOn " ").toArray.map λn=>Lean.mkIdent (k++n.toName)
  let b<-(f "Rv.list? Rv.plain? Rv.data Rv.int? Rv.str? Rv.bl? Rv.tup? int2 seqD keyD idxD sliceD truthD rprD lenD listD intD strD tupD maxD minD B1.go B2.go Ty.of Ty.go toAr toSl flR slN runD th_ok of_some slR_s slR_v slR_o slR_b slR_c slX_s slX_v slX_o ownI_s dctI_s dctI_d dctI_v dicI_s dicI_d ownI_o kk_f kk_cs kk_nw at_0 at_1 at_2 ixN_app set_app emp_app xR_var xR_con xR_bin xR_neg xR_not xR_one xR_and xR_cmp xR_ite xR_idx xR_sli xR_lst xR_tup xR_dget yDg yDg2 yDg3 xR_stp xR_call xR_b1 xR_b2 xR_isc xR_fld xR_met xR_new xR_isi xR_comp n_ok n_R ix_ok ix_As yRet yBl yTmp yB1 yB2 yNeg yNot yAnd yC1 yC2 yIf yI1 yI2 yS1 yS2 yS3 yLst yTup yQs1 yQs2 yQs3 yCall yF1 yG1 yG2 yIsc yDat yFld yMt3 yMt2 yMt1 yMtO yNew yIsi yComp xT_not xT_one xT_and xT_or xT_cmp xT_chn xT_val yBo yTn yTa yTo yD1 yD2 yN0 yN1 yN2 yTv xF_yes xF_test xEs_nil xEs_cons yE1 yE2 xAs_nil xAs_cons yA1 yA2 xO_none xO_some yO xI_seq xI_rng xI_rev xI_enum xI_zip ySeq yRng yRev yEnum yZ1 yZ2 yVal yValt yValL yValLt yValLm yX yXt yAv yAx yAxt yCons xE_s xE_v xE_d xE_o xL_s xL_l xL_z xL_o xL_b oGo_some xS_app yApp yApp2 xS_ext yExt yExt2 xS_ret yRt xS_set ySet xS_setT yST yNx xS_setI ySI ySI2 ySI3 ySI4 xS_dnew xS_dput yDP yDG yDP2 yDP3 xS_ite yIte xS_for yFor xS_whl xSs_nil xSs_cons yNext yNextr xFo_cons yFo1 yFo2 yFo2r xWh yWh1 yWh2 xP_cons yP1 yP2 yP3 vc_bin vc_dget vc_neg vc_and vc_cmp vc_ite vc_idx vc_sli vc_lst vc_tup vc_call vc_b1 vc_b2 vc_fld vc_met vc_new vc_comp eE_g eL_g eX_g eA_g eE_var eE_con eL_var eX_var eX_con eA_var eA_con bAdd bAdds bAddtt bAddct bAddcc bSub bMult bDiv bMod bPow cEq cNe cLt cLe cGt cGe cIn iK_d iK_c cNi mIn rgoV rgoT setIs_nil setIs_cons g_mapc g_mapn g_lenc g_lenn g_rep0 g_reps g_appc g_appn g_set0 g_sets g_last g_nott g_notf g_omap g_fe g_and g_dt g_df lend_v" `DE++f "Int.reduceLT Int.reduceLE Nat.reduceAdd Nat.reduceSub" .anonymous).mapM λn=>`(Lean.Parser.Tactic.simpLemma| $n:ident)
  let d<-(f "n_var sA_p sA_R sA_L rA_a rA_l rA_s rA_t rA_y" `DE++f "reduceIte" .anonymous).mapM λn=>`(Lean.Parser.Tactic.simpLemma| ↓ $n:ident)
  let c:Array (Lean.TSyntax [`Lean.Parser.Tactic.simpStar, `Lean.Parser.Tactic.simpErase, `Lean.Parser.Tactic.simpLemma]):=(b++d).map (⟨·.raw⟩)++ls.getElems
  `(tactic| simp only[$c,*]$[$l]?)
local macro_rules|`({$xs:term,*})=>`(⟨$xs,*⟩)
local macro_rules|`(tactic|simp?[$ls,*])=>`(tactic|(refine(qg _).symm.trans ?_;simp?![$ls,*]))
local macro_rules|`(tactic|simp![$ls,*]$[$l:location]?)=>`(tactic|simp only[$ls,*]$[$l]?)
open Lean Parser.Tactic in
local macro_rules|`(tactic|let$d:letDecl)=>do
 let s:=d.raw[0]
 unless s[0].isOfKind ``Parser.Term.tuple do Macro.throwUnsupported
 let N k (a:Array Syntax):Syntax:=.node .none k a
 let M x:=N ``rcasesPatMed #[mkNullNode #[x]]
 let q:=s[0].rewriteBottomUp λs=>if s.isIdent then N ``rcasesPat.one #[s] else if s.isOfKind ``Parser.Term.hole then N ``rcasesPat.ignore #[mkAtom "_"] else if s.isOfKind ``Parser.Term.tuple then N ``rcasesPat.tuple #[mkAtom "⟨",mkSepArray ((#[s[1][0]]++s[1][2].getSepArgs).map λx=>N ``rcasesPatLo #[M x,mkNullNode]) (mkAtom ",")|>mkNullNode,mkAtom "⟩"] else s
 return N ``obtain #[mkAtom "obtain",mkNullNode #[M q],mkNullNode s[2][0].getArgs,mkNullNode #[mkAtom ":=",mkNullNode #[s[4]]]]
open Lean in
local macro_rules|`(command|$d:definition)=>do
  if d.raw.getPos?.isNone then Macro.throwUnsupported
  let r<-`(command|noncomputable $d:definition)
  return r.raw.rewriteBottomUp (·.setInfo .none)
open Lean in
local macro_rules|`(command|$d:theorem)=>do
  if d.raw.getPos?.isNone||d.raw[1][0].getId.getRoot== `PySem then Macro.throwUnsupported
  let r<-`(command|$d:theorem)
  return r.raw.rewriteBottomUp (·.setInfo .none)
open PySem renaming Value->ae,Addr->af,Expr->ag,Shared->ah,wpAny_bind->aj,wpAny->ak,model->av,Heap->aw,wpAny_pure->aB,World->aC,Stmt->aI,Program->aJ,Around->aN,starEach->aP,CmpOp->aY,mainGlobals->a8,Paired->bq,Scope->bw,backTo->bK,compareOp->bO,rawInt->bP,FuncData->bV,sliceBounds->b4,intKind->cj,binaryOp->cm,Model->cG,NameKind->cH,pyNext->cM,codeAny->cN,Operator->cP,Params->cQ,SetTable->cU,holding->dg,wpAny_holding->dh,mem_of_lookup->dk,cLine->du,wpAny_rule->dw,sysModules->dI,wpAny_setState_of->dN,wpAny_mono->dQ,assignEach->dU,codeAny_mono->dW,backToKw->dX,keywordEach->dY,Keyword->dZ,standAt->ej,assign->eo,PyData->eu,scanBound->eA,wpAny_truthy_bool->eS,bindArgs->eT,wpAny_call_entry->eV,codeAny_builtin->eW,swapsWith->fu,wpAny_passesOwn->fC,pyIter->fD,attributeBase->fE,BindsTo->fF,callerA->fH,plainId_quiet->fI,pickOrder->fJ,tupleKind->gc,bootBuiltins->gf,GenState->gg,getMethod->gh,wpAny_Call_Name_kw->gi,slicePick->gj,wpAny_attempt->gm,sliceRange->gn,valueAt->gq,relayAll->gr,setNext->gy,treeTable->gY,wpAny_newObj_type->g7,fits_of_scanBound->g8,wpAny_setField->g9,wpAny_execs_nil->i9,foldedSetIterable->kc,DictEntry->ke,call_meets->kg,wpAny_pyIter_list->ki,wpAny_typeOf->kj,wpAny_callSpecial?_slot->kn,wpAny_fieldsOf->kq,Within->kW,wpAny_eqBool_int->lW,wpAny_standAt->lX,swapsWithSole->lY,PassesOwn->lZ,letOwnedTupleGo->l5,seqIndex_neg->l8,slot_list_getitem->l9,importedModules->ma,wpAny_newList->mf,tupleKind_room_in1->mi,wpAny_seqItems->mj,wpAny_askSetting->mq,isSubtype_type->mr,wpAny_ite_split->mw,wpAny_pyNext_list_item->nJ,wpAny_pyNext_list_end->nK,wpAny_getItem_list_slice->nM,wpAny_comprehension_free->nN,builtinLookup_eq_fast->nO
open PyProof.Rows renaming Keyed->ai,arrOf->ao,wpS_bind->az,wpS_pure->aE,SortSt->aG,pendingOf->aX,KeyOrd->a7,setArr->bh,pairsOf->bW,seqObj->b8,SortKind->cq,wpS_forRange->cu,gallopOf->cx,wpS_mono->cJ,firstMet->di,envOfC->dJ,wpS_get->dM,failedOf->d3,wpS_modify->d6,AllBare->ei,wpS_lift->eU,IntsAre->fG,callWith_type1->gz,mem_zip_self->gZ,boot_list->ip,sortedHeap->kh,subscriptTail->l7,listUpdate_at->me,pairsOf_toList->mh,firstMet_succ->ml,boot_int->mP,boot_sorted->mQ,boot_tuple->mT,boot_isinstance->mU,subscriptTail_builtinR->nL
open List renaming map_cons->au,length_map->aD,mem_cons->aF,map_nil->aH,length_cons->aK,map_append->aR,length_append->aT,mem_singleton->aU,mem_append->aV,mem_append_right->bb,append_assoc->bf,pairwise_cons->bg,nil_append->bp,size_toArray->br,getElem?_map->bu,lookup_cons->bC,getElem?_eq_some_iff->bE,mem_cons_of_mem->bH,mem_append_left->bI,getElem?_eq_getElem->bN,replicate->bT,pairwise_append->bU,mem_cons_self->bX,append_nil->b5,getElem?_set_ne->b9,cons_append->cK,range->cZ,filterMap_cons->c4,getElem?_append_right->c5,any_cons->c8,mem_map->df,getElem?_set_self->dj,sum_cons->dt,getElem?_append_left->dF,mem_of_getElem?->ed,all_eq_true->ee,map->ef,take_sublist->eI,length_singleton->eK,pairwise_iff_getElem->eL,length_nil->eM,not_mem_nil->eN,length_eq_zero_iff->eO,mem_filter->eZ,lookup->e6,length_set->e8,drop_sublist->fe,mem_reverse->ff,drop_eq_getElem_cons->fg,map_map->fh,zip_cons_cons->fo,mergeSort_perm->fq,mem_flatMap->ft,nodup_cons->fL,all_cons->fN,take_of_length_le->fQ,mem_iff_getElem->fT,find?_cons->fY,zipWith->fZ,zipWith_cons_cons->f6,length_take->gB,extract_eq_take_drop->gD,pairwise_reverse->gF,take_length->gH,foldl_cons->gL,pairwise_mergeSort->gM,drop_zero->gN,length_mergeSort->gR,flatMap_cons->gV,of_mem_zip->ir,drop_eq_nil_of_le->iA,take_append_drop->iB,pairwise_map->iK,getElem_mem->iL,any_eq_true->iP,eq_of_mem_replicate->iU,getElem?_of_mem->iX,getD_cons_succ->iY,getD_cons_zero->iZ,pairwise_singleton->i5,getElem?_eq_none_iff->kU,mem_range->kY,length_replicate->lh,length_drop->lq,map_snd_zip->lH,ext_getElem->lN,nodup_append->lP,contains_cons->lT,length_filter_le->lU,head?_drop->lV,getElem?_take_of_lt->mY,sublist_append_left->mZ,perm_append_comm->m7,mem_take_iff_getElem->m8,perm_append_comm_assoc->m9,sublist_append_right->nc,pairwise_lt_range->nj,length_eraseIdx_of_lt->nv,getElem?_toArray->ny,getElem?_zipWith->nB,getD_eq_getElem?_getD->nD,dropLast_eq_take->nE,filter_cons_of_pos->nH,filter_cons_of_neg->nI
open False renaming elim->ax
open Nat renaming le_refl->ay,zero_le->aZ,ne_of_lt->a9,lt_of_lt_of_le->bD,le_trans->bQ,le_add_right->de,lt_irrefl->eE,le_succ->eG,le_of_eq->e7,ne_of_gt->fK,zero_add->fV,add_sub_cancel'->fW,lt_succ_self->gA,min_eq_left->gJ,reduceAdd->gP,reduceSub->gQ,add_zero->iD,lt_trans->iG,add_le_add_left->iH,mul_le_mul->i8,lt_of_le_of_lt->lx,add_lt_add_left->lB,le_antisymm->lC,sub_self->lD,lt_succ_of_lt->lG
open Bool renaming and_eq_true->aM,false_eq_true->bo,not_eq_true'->dH,false_ne_true->d9,or_eq_true->eg,or_eq_false_iff->eP,not_false->fb,not_true->fc,or_false->lr,eq_false_iff->ly,not_eq_false'->lA,eq_iff_iff->lJ,false_or->lK,true_and->lO,and_self->lQ
open True renaming intro->aO
open PySem.Heap renaming lt_size->aQ,get?_push_of_some->aW,get?_push_size->bz,SameBut->dP,size_push->eF,get?_update_self->iu,get?_update_other->iy,get?_none_of_le->kZ
open PySem.Value renaming ref->bj,type->dD,bool->iq,isInt_shape->kT
open Array renaming length_toList->bF,getElem?_eq_some_iff->bY,getElem?_eq_getElem->c9,toList_append->dn,mk->e9,toList_extract->fP,toList_reverse->fU,perm_iff_toList_perm->gI,getElem?_toList->iz,size_extract->iC,toList_map->iJ,toList_push->lE,toArray_toList->lI,size_setIfInBounds->ng,getElem?_eq_none->nz
open Int renaming le_refl->bG,emod_nonneg->bZ,emod_lt_of_pos->cD,toNat_natCast->eJ,one_mul->eR,le_total->f7,mul_comm->f9,sub_zero->iQ,add_zero->i6,neg_mul->i7,fdiv_eq_ediv_of_nonneg->lR,fmod_eq_emod_of_nonneg->lS,eq_ofNat_of_zero_le->nF,mul_fdiv_add_fmod->nG
open PySem.SeqAt renaming shaped->bJ,EqAt->mV
open Option renaming map_eq_some_iff->bM,bind_eq_some_iff->eh,some_ne_none->iE
open PySem.SetTable renaming below->b6,grown->fk,insertAt->lL
open PySem.W renaming boot_heap->b7,fnOf->cY,findIn->dy,kitOne->dz,kia_one->dC,keepIn->dO,emptyDict->d7,findIn->eB,instObj->eC,SharedT->gk,boot_drawn->gW,boot_toks->gX,lookIn->hV,plainGet->hZ,callWith_K->ie,methodCall_KW->ig,codeIn->ij,methodObj->kr,hasDictIn->ky,plainGet_of->kE,isFn->kF,takerIn->kG,specialIn->kH,takesIn->kJ,callWith_K0->kK,nsIn->kR,cellsFrom_some->mC
open PySem.NameKind renaming free->cc,cell->fX
open PySem.PyData renaming eqv->cg,canLay0->dq,strOk->eQ,eqvAll->gO,canLayAll0->iV,depthAll->iW
open Ne renaming symm->cy
open PySem.Obj renaming mapSeq->cz
open Prod renaming mk->dm
open PyProof.Rows.KeyOrd renaming kle_refl->dG,kle_trans->fO,kle_of_klt->gC
open Sum renaming inr->d8,inl->eY
open PySem.F renaming called_set->eD,slot_dict_get->kN,slot_list_getattribute->kP,plainAttrs_list->kQ,entry_dict_get->mE,args_dict_get_3->mF,plain_set_new->mH,slot_set_iter->mI,plain_list_iadd->mK,plain_extend_loop->mN
open PySem.Heap.SameBut renaming update->eX
open PySem.Around renaming under_plainId->fj,under->k7
open Exists renaming elim->fm
open PyProof.Rows.SortSt renaming mk'->gE
open ForInStep renaming yield->gK
open Decidable renaming byContradiction->gU
open List.Perm renaming append_left->ik,append_right->mD,eq_of_pairwise->mO
open List.Pairwise renaming imp_of_mem->il
open PySem.Shared renaming TypeIs->iM
open PySem.Str renaming ofString->iN
open PySem.Builtin.Str renaming occurrences->kx
open PySem.Builtin.List renaming listTooLong->kM,listLengthHint->mJ,listExtendWith->mL,listSameRef->mM
open PySem.Code renaming isFrame->k8
open PySem.Calls renaming spliced_cons->k9,callWith_builtin->lu,Name_function_global->mX,call_function_entry->ni
open PyProof.Rows.F renaming plain_set_update_loop->lM,entry_set_update_loop->nr
open PySem.Builtin.Dict renaming updateFrom->mG
open PySem.Manifest renaming sig_set_iterator->nu
namespace L2
open PySem PySem.Spec PyProof.Rows
abbrev Key:=Sum Int Str
def qdU:Key->ae->Bool
 |.inl k,v=>Value.isInt k v
 |.inr x,v=>Value.isStrOf x v
def qqT(w:aC):Key->Int
 |.inl k=>hashInt k
 |.inr x=>hashStr w x
theorem qv:∀{k:Key} {v:ae},qdU k v=true->(∃i t,k=eY i/\v=Value.int i t)\/(∃x t,k=d8 x/\v=Value.str x t)
 |.inl i,v,h=>by let(t,e):=kT (k:=i) (v:=v) h;exact .inl ⟨i,t,rfl,e⟩
 |.inr x,v,h=>by let(t,e):=Value.isStrOf_shape (x:=x) (v:=v) h;exact .inr ⟨x,t,rfl,e⟩
def qeF(i:Int)(t:Tok):qdU (.inl i) (.int i t)=true:=by simp[qdU,Value.isInt]
def qeG(x:Str)(t:Tok):qdU (.inr x) (.str x t)=true:=by simp[qdU,Value.isStrOf]
def qlu(a b:Int):decide ((eY a:Key)=eY b)=(a == b):=by
 by_cases e:a=b
 .subst e;simp
 .have h:¬ (eY a:Key)=eY b:=λq=>e (Sum.inl.inj q);rw[decide_eq_false h];exact(beq_eq_false_iff_ne.mpr e).symm
def qlv(a b:Str):decide ((d8 a:Key)=d8 b)=decide (a=b):=by
 by_cases e:a=b
 .subst e;simp
 .have h:¬ (d8 a:Key)=d8 b:=λq=>e (Sum.inr.inj q);rw[decide_eq_false h,decide_eq_false e]
def qlw(a:Int)(b:Str):decide ((eY a:Key)=d8 b)=false:=decide_eq_false (λq=>nomatch q)
def qlx(a:Str)(b:Int):decide ((d8 a:Key)=eY b)=false:=decide_eq_false (λq=>nomatch q)
def qq(prog:aJ)(w:aC):PySem.KeyKind prog w Key where
 is:=qdU
 hash:=qqT w
 inj:=λv a b ha hb=>by
  rcases qv ha with ⟨i,t,rfl,rfl⟩|⟨x,t,rfl,rfl⟩
  .rcases qv hb with ⟨j,u,rfl,e⟩|⟨y,u,rfl,e⟩
   .injection e with e1 _;rw[e1]
   .exact nomatch e
  .rcases qv hb with ⟨j,u,rfl,e⟩|⟨y,u,rfl,e⟩
   .exact nomatch e
   .injection e with e1 _;rw[e1]
 byValue:=λk v h=>by rcases qv h with ⟨i,t,rfl,rfl⟩|⟨x,t,rfl,rfl⟩<;>rfl
 pyHash:=λhv h=>by
  rcases qv hv with ⟨i,t,rfl,rfl⟩|⟨x,t,rfl,rfl⟩
  .exact wpAny_pyHash_int h
  .exact wpAny_pyHash_str h
 eqBool:=λhu hv h=>by
  rcases qv hu with ⟨i,t,rfl,rfl⟩|⟨x,t,rfl,rfl⟩
  .rcases qv hv with ⟨j,u,rfl,rfl⟩|⟨y,u,rfl,rfl⟩
   .rw[qlu]at h;exact lW h
   .rw[qlw]at h;exact SeqAt.EqAt.int_str i t y u _ _ _ _ h
  .rcases qv hv with ⟨j,u,rfl,rfl⟩|⟨y,u,rfl,rfl⟩
   .rw[qlx]at h;exact SeqAt.EqAt.str_int x t j u _ _ _ _ h
   .rw[qlv]at h;exact wpAny_eqBool_str h
 «strs»:=λk x t v h=>by
  rcases qv h with ⟨i,u,rfl,e⟩|⟨y,u,rfl,e⟩
  .exact nomatch e
  .injection e with e1 _;subst e1;cases v<;>rfl
def qb1(prog:aJ)(w:aC)(i:Int)(t:Tok):(qq prog w).is (.inl i) (.int i t)=true:=qeF i t
def qb2(prog:aJ)(w:aC)(x:Str)(t:Tok):(qq prog w).is (.inr x) (.str x t)=true:=qeG x t
inductive V where
 | non|bl (b:Bool)|int (i:Int)|str (x:Str)|byt (b:Array UInt8)|flt (b:UInt64)|ref (a:af)|ty (n:String)
 deriving DecidableEq
def qF:V->ae->Prop
 |.non,u=>u=Value.none
 |.bl b,u=>u=iq b
 |.int i,u=>∃t,u=Value.int i t
 |.str x,u=>∃t,u=Value.str x t
 |.byt b,u=>∃t,u=Value.bytes b t
 |.flt b,u=>∃t,u=Value.float b t
 |.ref a,u=>u=bj a
 |.ty n,u=>u=dD n
abbrev qt:List V->List ae->Prop:=bq qF
def qt.length{xs:List V}{us:List ae}(r:qt xs us):xs.length=us.length:=Paired.length r
theorem qt.get:∀{xs:List V} {us:List ae} {i:Nat} {x:V},qt xs us->xs[i]?=some x->∃u,us[i]?=some u/\qF x u
 |_,_,_,_,.nil,e=>by simp at e
 |_,_,0,_,.cons r _,e=>by simp at e;subst e;exact{_,rfl,r}
 | _,_,i+1,x,.cons _ t,e=>by let(u,h1,h2):=qt.get (i:=i) (x:=x) t (-e:);exact{u,(-h1:),h2}
theorem qt.set{x:V}{u:ae}(r:qF x u):∀{xs:List V} {us:List ae} (i:Nat),qt xs us->qt (xs.set i x) (us.set i u)
 |_,_,_,.nil=>.nil
 |_,_,0,.cons _ t=>.cons r t
 | _,_,i+1,.cons q t=>.cons q (qt.set r i t)
theorem qt.append{xs ys:List V}{us ws:List ae}(h:qt xs us)(s:qt ys ws):qt (xs++ys) (us++ws):=by
 induction h with
 |nil=>exact s
 |cons r t ih=>exact .cons r ih
theorem qt.take:∀{xs:List V} {us:List ae} (n:Nat),qt xs us->qt (xs.take n) (us.take n)
 |z,y,0,x=>.nil
 | _,_,_+1,.nil=>.nil
 | _,_,n+1,.cons r t=>.cons r (qt.take n t)
theorem qt.drop:∀{xs:List V} {us:List ae} (n:Nat),qt xs us->qt (xs.drop n) (us.drop n)
 |z,y,0,r=>r
 | _,_,_+1,.nil=>.nil
 | _,_,n+1,.cons _ t=>qt.drop n t
def qt.none_of:∀{xs:List V} {us:List ae} {i:Nat},qt xs us->xs[i]?=none->us[i]?=none:=λ{xs us i} r e=>by have h1:=r.length;have h2:xs.length<=i:=kU.mp e;exact kU.mpr (1:)
def qbX:Option V->Option ae->Prop
 |some v,some u=>qF v u
 |none,none=>True
 |z,y=>False
def KV{U:Type}:List (U×V)->List (U×ae)->Prop:=bq λ(p:U×V) (q:U×ae)=>p.1=q.1/\qF p.2 q.2
def kV:Key->V
 |.inl i=>.int i
 |.inr x=>.str x
inductive HO where
 | lst (xs:List V)
 | tup (xs:List V)
 | dK (kvs:List (Key×V))|dT (kvs:List (List Key×V))
 | set (S:Int->Bool) (n:Nat)
 | ins (C dx:af) (fs:List (Str×V))
 | own (x:af)
 | xd (fs:List (Str×V))
 | met (f x:af)
 | rng (lo hi:Int)
 | frz (o:Obj) (u:HO)
 | tbl (ps:Array ae)
 | ext (φ:aw->Prop)
abbrev Hp:=af->Option HO
def upd(H:Hp)(a:af)(o:HO):Hp:=λb=>if b=a then some o else H b
def qe{H:Hp}{a:af}{o:HO}:upd H a o a=some o:=by unfold upd;rw[if_pos rfl]
def qd{H:Hp}{a b:af}{o:HO}(h:b≠a):upd H a o b=H b:=by unfold upd;rw[if_neg h]
def qo9{H:Hp}{a b:af}{o u:HO}(h:H a=some o)(h':H b=some u)(d:o≠u):a≠b:=by intro e;subst e;rw[h]at h';exact d (Option.some.inj h')
def qR{H:Hp}{a b:af}{o:HO}(h:H a=some o)(h':H b=none):a≠b:=by intro e;subst e;rw[h]at h';cases h'
section
variable(P:aJ)(w:aC)
def qI(H:Hp)(h:aw)(a:af):HO->Prop
 |.lst xs=>xs.length<=sizeLine/\∃(its:List ae) (n:Nat),qt xs its/\h.get? a=some { cls:=.type "list",data:=.seq its.toArray n }
 |.tup xs=>xs.length<=sizeLine/\∃its:List ae,qt xs its/\IsTup h a its.toArray
 |.dK kvs=>kvs.length<=sizeLine/\(a == dI)=false/\∃vs,KV kvs vs/\h.DictOf (qq P w) a vs
 |.dT kvs=>kvs.length<=sizeLine/\(a == dI)=false/\∃xs:List (List Key×af×ae),
   bq (λ(p:List Key×V) (q:List Key×af×ae)=>p.1=q.1/\H q.2.1=some (.tup (p.1.map kV))/\qF p.2 q.2.2) kvs xs/\
   ∃o es ep,h.get? a=some o/\o.ExactDict/\o.data=.dict es ep/\es.toList=xs.map (entryOfKey (gc (qq P w)))/\(xs.map (·.1)).Nodup
 |.set S n=>h.SetOf (cj P w) a S n
 |.ins C dx fs=>H dx=some (.own a)/\fs.length<=1000/\dx≠a/\h.get? a=some (eC C dx)/\
   ∃mA,h.Ns1 dx mA/\(∀f,qbX (fs.lookup f) (mA f))/\kW mA (fs.map (·.1))
 |.own z=>∃o,h.get? a=some o
 |.xd fs=>∃mA,h.Ns1 a mA/\∀f,qbX (fs.lookup f) (mA f)
 |.rng lo hi=>∃t u v,h.get? a=some { cls:=.type "range",data:=.fields #[.int lo t,.int hi u,.int 1 v] }
 |.frz o u=>h.get? a=some o/\qI H h a u
 |.tbl ps=>h.get? a=some { cls:=.none,data:=.fields ps }
 |.met f x=>h.get? a=some (kr (.ref f) (.ref x))
 |.ext φ=>φ h/\(∃o,h.get? a=some o)/\∀h1 h2:aw,φ h1->(∀o,h1.get? a=some o->h2.get? a=some o)->φ h2
def HOk(H:Hp)(h:aw):Prop:=∀a o,H a=some o->qI P w H h a o
end
section
variable{P:aJ}{w:aC}{H H':Hp}{h h':aw}{a:af}{o:HO}
theorem qI.lt(x:qI P w H h a o):a < h.objs.size:=by
 cases o with
 |lst xs=>let(_,_,_,_,e):=x;exact aQ e
 |tup xs=>let(_,_,_,p):=x;exact p.lt
 |dK kvs=>let(_,_,_,_,o,_,_,e,_):=x;exact aQ e
 |dT kvs=>let(_,_,_,_,o,_,_,e,_):=x;exact aQ e
 |set S n=>let(o,_,_,_,e,_):=x;exact aQ e
 |ins C dx fs=>let(_,_,_,e,_):=x;exact aQ e
 |own y=>let(_,e):=x;exact aQ e
 |xd fs=>let(_,(_,_,_,e,_),_):=x;exact aQ e
 |rng lo hi=>let(_,_,_,e):=x;exact aQ e
 |frz ob u=>let(e,_):=x;exact aQ e
 |tbl ps=>exact aQ (show h.get? a=some _ from x)
 |met f y=>exact aQ (show h.get? a=some _ from x)
 |ext φ=>let(_,(_,e),_):=x;exact aQ e
theorem Paired.mapP{α M:Type}{F G:α->M->Prop}{l₁:List α}{l₂:List M}(h:bq F l₁ l₂)(f:∀a b,F a b->G a b):bq G l₁ l₂:=by
 induction h with
 |nil=>exact .nil
 |cons r t ih=>exact .cons (f _ _ r) ih
theorem qI.stay(x:qI P w H h a o)(k:∀b u,(b=a\/H b=some (.own a))->h.get? b=some u->h'.get? b=some u)
  (ho:∀b,H b=some (.own a)->H' b=some (.own a)) (ht:∀b xs,H b=some (.tup xs)->H' b=some (.tup xs)):qI P w H' h' a o:=by
 induction o with
 |lst xs=>let(z,its,n,r,e):=x;exact{z,its,n,r,k _ _ (.inl rfl) e}
 |tup xs=>let(z,its,r,ob,e,c):=x;exact{z,its,r,ob,k _ _ (.inl rfl) e,c}
 |dK kvs=>let(z,y,vs,r,ob,es,ep,e,c):=x;exact{z,y,vs,r,ob,es,ep,k _ _ (.inl rfl) e,c}
 |dT kvs=>let(z,y,xs,r,ob,es,ep,e,c):=x;exact{z,y,xs,Paired.mapP r λp q z=>{z.1,ht _ _ z.2.1,z.2.2},ob,es,ep,k _ _ (.inl rfl) e,c}
 |set S n=>let(ob,es,ep,t,e,c):=x;exact{ob,es,ep,t,k _ _ (.inl rfl) e,c}
 |ins C dx fs=>let(d,z,ne,e,mA,(od,es,ep,e2,c),r):=x;exact{ho _ d,z,ne,k _ _ (.inl rfl) e,mA,{od,es,ep,k _ _ (.inr d) e2,c},r}
 |own y=>let(ob,e):=x;exact{ob,k _ _ (.inl rfl) e}
 |xd fs=>let(mA,(od,es,ep,e,c),r):=x;exact{mA,{od,es,ep,k _ _ (.inl rfl) e,c},r}
 |rng lo hi=>let(t,u,v,e):=x;exact{t,u,v,k _ _ (.inl rfl) e}
 |frz ob u ih=>let(e,q):=x;exact{k _ _ (.inl rfl) e,ih q}
 |tbl ps=>have e:h.get? a=some { cls:=.none,data:=.fields ps }:=x;show h'.get? a=some { cls:=.none,data:=.fields ps };exact k a _ (.inl rfl) e
 |met f y=>have e:h.get? a=some (kr (.ref f) (.ref y)):=x;show h'.get? a=some (kr (.ref f) (.ref y));exact k a _ (.inl rfl) e
 |ext φ=>let(p,(o,e),st):=x;exact{st _ _ p λo q=>k _ _ (.inl rfl) q,{o,k _ _ (.inl rfl) e},st}
def HOk.lt(x:HOk P w H h)(e:H a=some o):a < h.objs.size:=(x a o e).lt
theorem HOk.fresh(x:HOk P w H h)(e:h.objs.size<=a):H a=none:=by
 cases q:H a with
 |none=>rfl
 |some u=>exact absurd (bD (x.lt q) e) (eE _)
def HOk.kept(x:HOk P w H h)(k:∀b u,h.get? b=some u->h'.get? b=some u):HOk P w H h':=λa o e=>(x a o e).stay (λb u z q=>k b u q) (λz q=>q) λz z q=>q
def HOk.laid(x:HOk P w H h)(k:∀b u,h.get? b=some u->h'.get? b=some u)(hp:h.objs.size<=a)(new:qI P w (upd H a o) h' a o):HOk P w (upd H a o) h':=λb u e=>by
 have hn:=x.fresh hp
 by_cases hb:b=a
 .subst hb;rw[qe]at e;cases e;exact new
 .rw[qd hb]at e;exact(x b u e).stay (λc v z q=>k c v q) (λc q=>by rw[qd (qR q hn)];exact q) λc xs q=>by rw[qd (qR q hn)];exact q
end
def Rd(H:Hp)(a:af)(u:HO):Prop:=H a=some u\/∃o,H a=some (.frz o u)
def Rd.ok{P:aJ}{w:aC}{H:Hp}{h:aw}{a:af}{u:HO}(r:Rd H a u)(x:HOk P w H h):qI P w H h a u:=by
 rcases r with r|⟨o,r⟩
 .exact x a u r
 .let(_,q):=x a _ r;exact q
def Mut:Option HO->Prop
 |some (.lst z)=>True
 |some (.dK z)=>True
 |some (.dT z)=>True
 |some (.set z y)=>True
 |some (.ins z y x)=>True
 |some (.ext z)=>True
 |_=>False
section
variable{P:aJ}{w:aC}{H:Hp}{h h':aw}{x e:af}{o':HO}
def HOk.write(ok:HOk P w H h)(mu:Mut (H x))(he:e=x\/H e=some (.own x))(k:∀b u,b≠e->h.get? b=some u->h'.get? b=some u)(heo:∃u,h'.get? e=some u)
  (new:qI P w (upd H x o') h' x o'):HOk P w (upd H x o') h':=λb u q=>by
 have nown:∀c y,H c=some (.own y)->c≠x:=λc y r z=>by subst z;rw[r]at mu;exact mu
 have ntup:∀c xs,H c=some (.tup xs)->c≠x:=λc xs r z=>by subst z;rw[r]at mu;exact mu
 by_cases hb:b=x
 .subst hb;rw[qe]at q;cases q;exact new
 .rw[qd hb]at q
  by_cases hbe:b=e
  .have q':H b=some (.own x):=by
    rcases he with z|z
    .exact absurd (hbe.trans z) hb
    .rw[hbe];exact z
   rw[q]at q';cases q';let(v,hv):=heo;exact{v,by rw[hbe];exact hv}
  .refine(ok b u q).stay (λc v hc r=>k c v ?_ r) (λc r=>by rw[qd (nown c b r)];exact r) λc xs r=>by rw[qd (ntup c xs r)];exact r
   rcases hc with rfl|hc
   .exact hbe
   .rintro rfl;rcases he with z|z
    .exact nown c b hc z
    .rw[hc]at z;cases z;exact hb rfl
end
structure Un(fs ex:List af)(H H':Hp)(h h':aw):Prop where
 keep:∀b o,h.get? b=some o->H b=none->b∉fs->b∉ex->h'.get? b=some o
 slot:∀b o,h.get? b=some o->H b=none->b∈fs->b∉ex->∃sl,h'.get? b=some { o with slots:=sl }
 free:∀b o,h.get? b=some o->H b=none->b∉ex->H' b=none
 there:∀b o,h.get? b=some o->b∉ex->∃o',h'.get? b=some o'
 tups:∀b xs,H b=some (.tup xs)->H' b=some (.tup xs)
 frzs:∀b o u,H b=some (.frz o u)->H' b=some (.frz o u)
 tbls:∀b ps,H b=some (.tbl ps)->∃more,H' b=some (.tbl (ps++more))
section
variable{fs fs' ex ex':List af}{H H1 H2:Hp}{h h1 h2 h':aw}{a x e:af}{o:HO}
def Un.any(u:Un fs ex H H1 h h1){b:af}{ob:Obj}(q:h.get? b=some ob)(n:H b=none)(hx:b∉ex):∃sl,h1.get? b=some { ob with slots:=sl }:=by
 by_cases hb:b∈fs
 .exact u.slot b ob q n hb hx
 .exact{ob.slots,u.keep b ob q n hb hx}
def Un.kept(k:∀b u,h.get? b=some u->h'.get? b=some u):Un fs ex H H h h':=
 ⟨λb ob q z z z=>k b ob q,λb ob q z z z=>{ob.slots,k b ob q},λz z z n z=>n,λb ob q z=>{ob,k b ob q},λz z q=>q,λz z z q=>q,λz ps q=>{#[],by rw[q];simp}⟩
def Un.refl:Un fs ex H H h h:=Un.kept λz z q=>q
def Un.laid(k:∀b u,h.get? b=some u->h'.get? b=some u)(hp:h.objs.size<=a)(hn:H a=none):Un fs ex H (upd H a o) h h' where
 keep:=λb u q z z z=>k b u q
 slot:=λb u q z z z=>{u.slots,k b u q}
 free:=λb u q n z=>by rw[qd (a9 (bD (aQ q) hp))];exact n
 there:=λb u q z=>{u,k b u q}
 tups:=λb xs q=>by rw[qd (qR q hn)];exact q
 frzs:=λb u xs q=>by rw[qd (qR q hn)];exact q
 tbls:=λb ps q=>{#[],by rw[qd (qR q hn),q];simp}
def Un.write(mu:Mut (H x))(he:e=x\/H e=some (.own x))(k:∀b u,b≠e->h.get? b=some u->h'.get? b=some u)(heo:∃u,h'.get? e=some u):Un fs ex H (upd H x o) h h':=by
 have hx:∀b,H b=none->b≠x:=λb n z=>by subst z;rw[n]at mu;exact mu
 have hb:∀b,H b=none->b≠e:=λb n z=>by
  subst z;rcases he with r|r
  .exact hx b n r
  .rw[n]at r;cases r
 have hm:∀b u,H b=some u->¬ Mut (some u)->b≠x:=λb u q nm z=>by subst z;rw[q]at mu;exact nm mu
 refine{λb u q n y y=>k b u (hb b n) q,λb u q n y y=>{u.slots,k b u (hb b n) q},λb u q n y=>by rw[qd (hx b n)];exact n,λb u q y=>?_,
  λb xs q=>by rw[qd (hm b _ q λz=>z)];exact q,λb u xs q=>by rw[qd (hm b _ q λz=>z)];exact q,λb ps q=>{#[],by rw[qd (hm b _ q λz=>z),q];simp}}
 by_cases hbe:b=e
 .subst hbe;exact heo
 .exact{u,k b u hbe q}
end
def trk(h:aw)(H:Hp):List af:=(cZ h.objs.size).filter λa=>(H a).isSome
def qgU(h:aw)(H:Hp):aw:=PySem.W.hideAll h (trk h H)
def qeH(h:aw)(H:Hp):(qgU h H).objs.size=h.objs.size:=PySem.W.hideAll_size _ _
def qgV{h:aw}{H:Hp}{b:af}{o:Obj}(e:h.get? b=some o)(n:H b=none):(qgU h H).get? b=some o:=
 PySem.W.hideAll_get _ e λhm=>by have q:(H b).isSome=true:=(eZ.mp hm).2;rw[n]at q;simp at q
theorem qjw{h:aw}{H:Hp}{b:af}{o:Obj}(e:(qgU h H).get? b=some o):h.get? b=some o/\H b=none:=by
 have e':h.get? b=some o:=PySem.W.of_hideAll (trk h H) e;refine{e',?_}
 cases q:H b with
 |none=>rfl
 |some x=>have hm:b∈trk h H:=eZ.mpr ⟨kY.mpr (aQ e'),by simp[q]⟩;have z:(qgU h H).get? b=none:=PySem.W.hideAll_none (trk h H) hm;rw[z]at e;cases e
structure Mod(K:Frag)(mg:PR)(base:aw):Prop where
 kin:K.In base
 glob:base.Ns a8 mg
 blt:∃mb,base.Ns builtinsNs mb/\∀x:Str,x≠"__name__"->mb x=gf x
 nolimit:base.NoLimit
structure Cx where
 prog:aJ
 w:aC
 K:Frag
 mg:PR
 base:aw
 A:aN
 N:List Str
 s₀:ah
 Hv:Hp
 env:Env
 outer:List Env
 stack:List Env
 ex:List af
 fn:Str->Bool
 calm:Bool
 pn:PP
 xe:PQ
def frs(l:List Env):List af:=l.filterMap (·.frame)
abbrev Cx.fs(X:Cx):List af:=frs X.outer
def Vis(sc:bw)(x:Str):Prop:=sc.names.lookup x=some .local\/sc.names.lookup x=some .cell\/sc.names.lookup x=some .free
def Loc(sc:bw)(x:Str):Prop:=sc.names.lookup x=some .local\/sc.names.lookup x=some .cell
def qqU(env:Env)(h:aw)(m:PR)(x:Str)(u:ae):Prop:=
 (env.kindOf x=some .local/\m x=some u)\/((env.kindOf x=some .cell\/env.kindOf x=some .free)/\∃c,env.cells.lookup x=some c/\h.IsCell c (some u))
structure Cx.Ok(X:Cx):Prop where
 mod:Mod X.K X.mg X.base
 kind:X.env.scope.kind=.function
 glob:X.env.globals=a8
 blt:X.env.builtins=builtinsNs
 above:X.s₀.heap.objs.size<=X.env.locals
 inj:∀x y c,X.env.cells.lookup x=some c->X.env.cells.lookup y=some c->x=y
 has:∀x,(X.env.kindOf x=some .cell\/X.env.kindOf x=some .free)->∃c,X.env.cells.lookup x=some c
 cab:∀x c,X.fn x=true->X.env.cells.lookup x=some c->X.s₀.heap.objs.size<=c
 hd:X.calm=true->X.A.handled=none
 frames:X.A.frames=some X.stack
 stk:X.stack=X.outer\/(X.stack=X.env::X.outer/\X.env.frame=some X.env.locals)
 exf:∀b∈X.ex,b≠X.env.locals/\∀x c,X.env.cells.lookup x=some c->c≠b
 bs:∀b o,X.base.get? b=some o->X.s₀.heap.get? b=some o/\X.Hv b=none
 bsz:X.base.objs.size<=X.s₀.heap.objs.size
 noex:∀b o,X.base.get? b=some o->b∉X.ex
 exfs:∀b∈X.ex,b∉X.fs
 funs:X.s₀.heap.FunFrames X.base X.outer
 frf:∀b∈X.fs,X.Hv b=none
structure Inv(X:Cx)(pins:PP)(Z:List (Option V))(H:Hp)(s:ah):Prop where
 ok:X.Ok
 os:s.os=X.s₀.os
 bare:ei s.gens
 base:Un X.fs X.ex X.Hv H X.s₀.heap s.heap
 loc:∃m,s.heap.Ns X.env.locals m/\∀(i:Nat) (x:Str) (v:V),X.N[i]?=some x->Z[i]?=some (some v)->Vis X.env.scope x->∃u,qF v u/\qqU X.env s.heap m x u
 cell:∀x c,X.env.cells.lookup x=some c->∃v,s.heap.IsCell c v
 free:H X.env.locals=none
 freeC:∀x c,X.env.cells.lookup x=some c->H c=none
 pin:∀p∈X.pn++pins,s.heap.get? p.1=some p.2/\H p.1=none/\p.1≠X.env.locals/\p.1∉X.fs/\∀v,p.2.data≠.cell v
 hok:HOk X.prog X.w H s.heap
 len:Z.length=X.N.length
section
variable{X:Cx}{pins:PP}{Z:List (Option V)}{H H':Hp}{s:ah}{h':aw}
def Cx.Ok.nofr(ok:X.Ok){b:af}{o:Obj}(e:X.base.get? b=some o):b∉X.fs:=λhb=>by
 have:=(ok.funs.mem hb).1
 rw[e]at this;cases this
def Inv.bs(I:Inv X pins Z H s):∀b o,X.base.get? b=some o->s.heap.get? b=some o/\H b=none:=λb o e=>{I.base.keep b o (I.ok.bs b o e).1 (I.ok.bs b o e).2 (I.ok.nofr e) (I.ok.noex b o e),I.base.free b o (I.ok.bs b o e).1 (I.ok.bs b o e).2 (I.ok.noex b o e)}
def Inv.bk(I:Inv X pins Z H s):∀b o,X.base.get? b=some o->s.heap.get? b=some o:=λb o e=>(I.bs b o e).1
def Inv.mod(I:Inv X pins Z H s):Mod X.K X.mg X.base:=I.ok.mod
def Inv.kIn(I:Inv X pins Z H s):X.K.In s.heap:=I.ok.mod.kin.keeps I.bk
def Inv.lt(I:Inv X pins Z H s):X.env.locals < s.heap.objs.size:=let ⟨_,hn,_⟩:=I.loc;hn.lt
def Inv.sz(I:Inv X pins Z H s):X.s₀.heap.objs.size<=s.heap.objs.size:=bQ I.ok.above (Nat.le_of_lt I.lt)
def Inv.nofs(I:Inv X pins Z H s){a:af}(h:s.heap.objs.size<=a):a∉X.fs:=λhb=>by let(_,o,ho,_):=I.ok.funs.mem hb;exact absurd (bD (aQ ho) (bQ I.sz h)) (eE _)
def Inv.cne(I:Inv X pins Z H s):∀x c,X.env.cells.lookup x=some c->c≠X.env.locals:=λx c e z=>by let(v,o,ho,hd):=I.cell x c e;let(m,(o',es,ep,ho',hd',_),_):=I.loc;rw[z,ho']at ho;cases ho;rw[hd']at hd;cases hd
def Inv.funs(I:Inv X pins Z H s):s.heap.FunFrames X.base X.outer:=by
 have all:∀(l:List Env),(∀b∈frs l,b∈X.fs)->X.s₀.heap.FunFrames X.base l->s.heap.FunFrames X.base l:=by
  intro l
  induction l with
  |nil=>intro _ _;trivial
  |cons env r ih=>intro hs hl;let(hk,(L,o,hf,hn,ho,hd),hr):=hl;have hL:L∈X.fs:=hs L (by unfold frs;rw[c4,hf];exact bX);let(sl,e):=I.base.slot L o ho (I.ok.frf L hL) hL λz=>I.ok.exfs L z hL;exact{hk,{L,_,hf,hn,e,hd},ih (λb hb=>hs b (by unfold frs;rw[c4,hf];exact bH _ hb)) hr}
 exact all X.outer (λy hb=>hb) I.ok.funs
def Inv.stack(I:Inv X pins Z H s):s.heap.FunFrames X.base X.stack:=by
 rcases I.ok.stk with e|⟨e,hf⟩
 .rw[e];exact I.funs
 .rw[e];let(m,hn,_):=I.loc;refine .cons (by rw[I.ok.kind];decide) hf hn ?_ I.funs;exact kZ (bQ I.ok.bsz I.ok.above)
def Inv.stkSub(I:Inv X pins Z H s):∀b∈frs X.stack,b∈X.env.locals::X.fs:=λb hb=>by
 rcases I.ok.stk with e|⟨e,hf⟩
 .rw[e]at hb;exact bH _ hb
 .rw[e]at hb;unfold frs at hb;rw[c4,hf]at hb;exact hb
def Inv.stkFree(I:Inv X pins Z H s):∀b∈frs X.stack,H b=none:=λb hb=>by
 rcases aF.mp (I.stkSub b hb) with e|hb
 .rw[e];exact I.free
 .let(_,o,ho,_):=I.ok.funs.mem hb;exact I.base.free b o ho (I.ok.frf b hb) λz=>I.ok.exfs b z hb
def Inv.step{g':Array gg}{t':Nat}{d':Drawn}{ch:List af}(I:Inv X pins Z H s)
  (hch:∀b∈ch,(b∈X.ex\/X.s₀.heap.objs.size<=b)/\b≠X.env.locals/\(∀x c,X.env.cells.lookup x=some c->c≠b)/\∀p∈X.pn++pins,p.1≠b)
  (keep:∀b o,b≠X.env.locals->b∉X.fs->b∉ch->s.heap.get? b=some o->H b=none->h'.get? b=some o)
  (slot:∀b o,b≠X.env.locals->b∈X.fs->b∉ch->s.heap.get? b=some o->H b=none->∃sl,h'.get? b=some { o with slots:=sl }) (free:∀b o,b∉ch->s.heap.get? b=some o->H b=none->H' b=none)
  (there:∀b o,b∉ch->s.heap.get? b=some o->∃o',h'.get? b=some o')
  (tups:∀b xs,H b=some (.tup xs)->H' b=some (.tup xs)) (frzs:∀b o u,H b=some (.frz o u)->H' b=some (.frz o u)) (tbls:∀b ps,H b=some (.tbl ps)->∃more,H' b=some (.tbl (ps++more)))
  (ns:∀m,s.heap.Ns X.env.locals m->h'.Ns X.env.locals m) (hok:HOk X.prog X.w H' h') (hg:ei g') :
  Inv X pins Z H' { s with heap:=h',gens:=g',drawn:=d',toks:=t' }:=by
 have neL:∀b o,X.s₀.heap.get? b=some o->b≠X.env.locals:=λb o e=>a9 (bD (aQ e) I.ok.above)
 have neC:∀b o,X.s₀.heap.get? b=some o->b∉X.ex->b∉ch:=λb o e hx hb=>by
  rcases (hch b hb).1 with z|z
  .exact hx z
  .exact absurd (bD (aQ e) z) (eE _)
 have cellK:∀x c,X.env.cells.lookup x=some c->∀v,s.heap.IsCell c v->h'.IsCell c v:=λx c e v ⟨o,ho,hd⟩=>by
  have nch:c∉ch:=λz=>(hch c z).2.2.1 x c e rfl
  by_cases hc:c∈X.fs
  .let(sl,q):=slot c o (I.cne x c e) hc nch ho (I.freeC x c e);exact{_,q,hd}
  .exact{o,keep c o (I.cne x c e) hc nch ho (I.freeC x c e),hd}
 refine{I.ok,I.os,hg,{λb o e n hb hx=>?_,λb o e n hb hx=>?_,λb o e n hx=>?_,λb o e hx=>?_,λb xs e=>tups b xs (I.base.tups b xs e),λb o xs e=>frzs b o xs (I.base.frzs b o xs e),λb ps e=>?_},?_,λx c e=>?_,?_,λx c e=>?_,λp hp=>?_,hok,I.len}
 .exact keep b o (neL b o e) hb (neC b o e hx) (I.base.keep b o e n hb hx) (I.base.free b o e n hx)
 .let(sl,e1):=I.base.slot b o e n hb hx;let(sl',e2):=slot b _ (neL b o e) hb (neC b o e hx) e1 (I.base.free b o e n hx);exact⟨sl',e2⟩
 .let(o',e1):=I.base.there b o e hx;exact free b o' (neC b o e hx) e1 (I.base.free b o e n hx)
 .let(o',e1):=I.base.there b o e hx;exact there b o' (neC b o e hx) e1
 .let(m1,e1):=I.base.tbls b ps e;let(m2,e2):=tbls b _ e1;exact{m1++m2,by rw[e2,Array.append_assoc]}
 .let(m,hn,hl):=I.loc;refine{m,ns m hn,λi x v e1 e2 e3=>?_};let(u,r,l):=hl i x v e1 e2 e3;refine{u,r,?_};rcases l with l|⟨k,c,e,z⟩
  .exact .inl l
  .exact .inr ⟨k,c,e,cellK x c e _ z⟩
 .let(v,z):=I.cell x c e;exact{v,cellK x c e v z}
 .let(m,(o,_,_,ho,_),_):=I.loc;exact free _ o (λz=>(hch _ z).2.1 rfl) ho I.free
 .let(v,o,ho,hd):=I.cell x c e;exact free c o (λz=>(hch c z).2.2.1 x c e rfl) ho (I.freeC x c e)
 .let(e,n,ne,nf,d):=I.pin p hp;have nch:p.1∉ch:=λz=>(hch p.1 z).2.2.2 p hp rfl;exact{keep p.1 p.2 ne nf nch e n,free p.1 p.2 nch e n,ne,nf,d}
def Inv.un{t':Nat}(I:Inv X pins Z H s)(u:Un X.fs [] H H' s.heap h')(hok:HOk X.prog X.w H' h'):Inv X pins Z H' { s with heap:=h',toks:=t' }:=by
 let(m,(o,es,ep,ho,r),_):=id I.loc;let(sl,hL):=u.any ho I.free (5:)
 exact I.step (g':=s.gens) (d':=s.drawn) (ch:=[]) (λy z=>nomatch z) (λb o y hb y e n=>u.keep b o e n hb (5:)) (λb o y hb y e n=>u.slot b o e n hb (5:)) (λb o y e n=>u.free b o e n (5:)) (λb o y e=>u.there b o e (5:)) u.tups u.frzs u.tbls (λm' hm=>by let(o',es',ep',ho',r'):=hm;rw[ho]at ho';cases ho';exact{_,es',ep',hL,r'}) hok I.bare
def Inv.call{g':Array gg}{t':Nat}{d':Drawn}{ch:List af}(I:Inv X pins Z H s)(u:Un (frs X.stack) ch H H' s.heap h')(hok:HOk X.prog X.w H' h')(hg:ei g')
  (hch:∀b∈ch,(b∈X.ex\/X.s₀.heap.objs.size<=b)/\b≠X.env.locals/\(∀x c,X.env.cells.lookup x=some c->c≠b)/\∀p∈X.pn++pins,p.1≠b) :
  Inv X pins Z H' { s with heap:=h',gens:=g',drawn:=d',toks:=t' }:=by
 let(m,(o,es,ep,ho,r),_):=id I.loc;let(sl,hL):=u.any ho I.free λz=>(hch _ z).2.1 rfl
 exact I.step (ch:=ch) hch (λb o hL hb hc e n=>u.keep b o e n (λz=>(aF.mp (I.stkSub b z)).elim hL hb) hc) (λb o y y hc e n=>u.any e n hc) (λb o hc e n=>u.free b o e n hc) (λb o hc e=>u.there b o e hc) u.tups u.frzs u.tbls (λm' hm=>by let(o',es',ep',ho',r'):=hm;rw[ho]at ho';cases ho';exact{_,es',ep',hL,r'}) hok hg
def Inv.turned{t':Nat}{it:af}(I:Inv X pins Z H s)(k:∀b o,b≠it->s.heap.get? b=some o->h'.get? b=some o)(hn:H it=none)(hL:it≠X.env.locals)
  (h1:it∈X.ex\/X.s₀.heap.objs.size<=it) (h2:∀x c,X.env.cells.lookup x=some c->c≠it) (h3:∀p∈X.pn++pins,p.1≠it):Inv X pins Z H { s with heap:=h',toks:=t' }:=by
 have nit:∀b u,H b=some u->b≠it:=λb u e z=>by rw[z,hn]at e;cases e
 refine I.step (g':=s.gens) (d':=s.drawn) (ch:=[it]) (λb hb=>?_) (λb o y y hc e y=>k b o (λz=>hc (by simp[z])) e) (λb o y y hc e y=>{o.slots,k b o (λz=>hc (by simp[z])) e}) (λy y y y n=>n)
  (λb o hc e=>{o,k b o (λz=>hc (by simp[z])) e}) (λy y e=>e) (λy y y e=>e) (λb ps e=>{#[],by rw[e];simp}) (λm hm=>?_) (λb u e=>?_) I.bare
 .have e:b=it:=(-hb:)
  subst e;exact⟨h1,hL,h2,h3⟩
 .let(o,es,ep,ho,r):=hm;exact{o,es,ep,k _ o (cy hL) ho,r}
 .refine(I.hok b u e).stay (λc v hc q=>k c v ?_ q) (λy q=>q) λy y q=>q;rcases hc with z|z
  .rw[z];exact nit b u e
  .exact nit c _ z
def Inv.tok(I:Inv X pins Z H s)(t:Nat):Inv X pins Z H { s with toks:=t }:=I.un (h':=s.heap) (t':=t) Un.refl I.hok
def Inv.kept{t':Nat}(I:Inv X pins Z H s)(k:∀b u,s.heap.get? b=some u->h'.get? b=some u):Inv X pins Z H { s with heap:=h',toks:=t' }:=I.un (Un.kept k) (I.hok.kept k)
def Inv.laid{a:af}{o:HO}{t':Nat}(I:Inv X pins Z H s)(k:∀b u,s.heap.get? b=some u->h'.get? b=some u)(hp:s.heap.objs.size<=a)(new:qI X.prog X.w (upd H a o) h' a o) :
  Inv X pins Z (upd H a o) { s with heap:=h',toks:=t' }:=I.un (Un.laid k hp (I.hok.fresh hp)) (I.hok.laid k hp new)
def Inv.write{x e:af}{o:HO}{t':Nat}(I:Inv X pins Z H s)(mu:Mut (H x))(he:e=x\/H e=some (.own x))(k:∀b u,b≠e->s.heap.get? b=some u->h'.get? b=some u)(heo:∃u,h'.get? e=some u)
  (new:qI X.prog X.w (upd H x o) h' x o):Inv X pins Z (upd H x o) { s with heap:=h',toks:=t' }:=I.un (Un.write mu he k heo) (I.hok.write mu he k heo new)
def Inv.pins_of{pins':PP}(I:Inv X pins Z H s)(h:∀p∈pins',s.heap.get? p.1=some p.2/\H p.1=none/\p.1≠X.env.locals/\p.1∉X.fs/\∀v,p.2.data≠.cell v):Inv X pins' Z H s:=
 ⟨I.ok,I.os,I.bare,I.base,I.loc,I.cell,I.free,I.freeC,λp hp=>(aV.mp hp).elim (λz=>I.pin p (bI _ z)) (h p),I.hok,I.len⟩
def qcM{N:List Str}(hN:N.Nodup){i j:Nat}{x:Str}(a:N[i]?=some x)(b:N[j]?=some x):i=j:=by let(h1,e1):=bE.mp a;let(h2,e2):=bE.mp b;exact(List.getElem_inj hN).mp (e1.trans e2.symm)
def qaF{M:cG}{A:aN}{E:PQ}{i:Nat}{x:Str}{v:V}{u:ae}{Q:Unit->ah->Prop}(I:Inv X pins Z H s)(hN:X.N.Nodup)(hi:X.N[i]?=some x)(hx:Loc X.env.scope x)(r:qF v u)
  (h:∀s',Inv X pins (Z.set i (some v)) H s'->(∃a,dP a s.heap s'.heap/\(a=X.env.locals\/X.env.cells.lookup x=some a))->Q () s') (hf:X.fn x=true\/X.env.scope.names.lookup x=some .local:=by first|exact .inl rfl|exact .inr rfl|assumption):ak M A (storeName X.env x u) Q E s:=by
 let(m,hn,hl):=id I.loc;have hcls:(X.env.scope.kind == .class||(X.env.scope.kind == .module&&X.env.locals != X.env.globals))=false:=by rw[I.ok.kind];rfl
 have hiσ:i < Z.length:=by rw[I.len];exact(bE.mp hi).1
 have cne:=I.cne
 have tracked:∀{a:af} {h':aw},(∃o,s.heap.get? a=some o/\H a=none)->dP a s.heap h'->HOk X.prog X.w H h':=λ{a h'} ha hs b ob e=>by
  let(_,_,hfree):=ha;refine(I.hok b ob e).stay (λc w' hc q=>(hs.2 c ?_).trans q) (λt q=>q) λt t q=>q;rintro rfl;rcases hc with rfl|hc
  .rw[hfree]at e;cases e
  .rw[hfree]at hc;cases hc
 rcases hx with hk|hk
 .refine wpAny_storeName_local hk hn (λh' hn' hs=>?_) hcls;let(oL,_,_,hoL,_):=id hn;refine h _ ⟨I.ok,I.os,I.bare,⟨λb o e n hb hx=>?_,λb o e n hb hx=>?_,I.base.free,λb o e hx=>?_,I.base.tups,I.base.frzs,I.base.tbls⟩,⟨_,hn',λj y v' e1 e2 e3=>?_⟩,λy c e=>?_,I.free,I.freeC,λp hp=>?_,tracked ⟨oL,hoL,I.free⟩ hs,(-I.len:)⟩ ⟨_,hs,.inl rfl⟩
  .exact(hs.2 b (a9 (bD (aQ e) I.ok.above))).trans (I.base.keep b o e n hb hx)
  .let(sl,e1):=I.base.slot b o e n hb hx;exact{sl,(hs.2 b (a9 (bD (aQ e) I.ok.above))).trans e1}
  .let(o',e1):=I.base.there b o e hx;exact{o',(hs.2 b (a9 (bD (aQ e) I.ok.above))).trans e1}
  .by_cases hj:j=i
   .subst hj;rw[hi]at e1;cases e1;rw[dj hiσ]at e2;cases e2;exact{u,r,.inl {hk,by simp}}
   .rw[b9 (cy hj)]at e2;let(u',r',q):=hl j y v' e1 e2 e3;refine{u',r',?_};rcases q with ⟨k,e⟩|⟨k,c,e,z⟩
    .refine .inl ⟨k,?_⟩
     have:y≠x:=λe=>hj (qcM hN e1 (e▸hi))
     simp[this,e]
    .exact .inr ⟨k,c,e,z.sameBut hs (cne y c e)⟩
  .let(w',z):=I.cell y c e;exact{w',z.sameBut hs (cne y c e)}
  .let(e,n,ne,nf,d):=I.pin p hp;exact{(hs.2 p.1 ne).trans e,n,ne,nf,d}
 .have hfn:X.fn x=true:=by
   rcases hf with z|z
   .exact z
   .rw[z]at hk;cases hk
  let(c,hc):=I.ok.has x (.inl hk);let(w',z):=I.cell x c hc;refine wpAny_storeName_cell I.ok.kind hk hc z (λh' hc' hs=>?_);let(oc,hoc,hocd):=id z;refine h { s with heap:=h' } ⟨I.ok,I.os,I.bare,⟨λb o e n hb hx=>?_,λb o e n hb hx=>?_,I.base.free,λb o e hx=>?_,I.base.tups,I.base.frzs,I.base.tbls⟩,⟨m,hn.sameBut hs (cy (cne x c hc)),λj y v' e1 e2 e3=>?_⟩,λy c' e=>?_,I.free,I.freeC,λp hp=>?_,tracked ⟨oc,hoc,I.freeC x c hc⟩ hs,(-I.len:)⟩ ⟨c,hs,.inr hc⟩
  .exact(hs.2 b (a9 (bD (aQ e) (I.ok.cab x c hfn hc)))).trans (I.base.keep b o e n hb hx)
  .let(sl,e1):=I.base.slot b o e n hb hx;exact{sl,(hs.2 b (a9 (bD (aQ e) (I.ok.cab x c hfn hc)))).trans e1}
  .let(o',e1):=I.base.there b o e hx;exact{o',(hs.2 b (a9 (bD (aQ e) (I.ok.cab x c hfn hc)))).trans e1}
  .by_cases hj:j=i
   .subst hj;rw[hi]at e1;cases e1;rw[dj hiσ]at e2;cases e2;exact{u,r,.inr {.inl hk,c,hc,hc'}}
   .rw[b9 (cy hj)]at e2;let(u',r',q):=hl j y v' e1 e2 e3;refine{u',r',?_};rcases q with q|⟨k,c',e,z'⟩
    .exact .inl q
    .refine .inr ⟨k,c',e,z'.sameBut hs ?_⟩;rintro rfl;exact hj (qcM hN e1 (I.ok.inj _ _ _ e hc▸hi))
  .by_cases hcc:c'=c
   .subst hcc;exact{_,hc'}
   .let(w2,z2):=I.cell y c' e;exact{w2,z2.sameBut hs hcc}
  .let(e,n,ne,nf,d):=I.pin p hp;refine{(hs.2 p.1 ?_).trans e,n,ne,nf,d};intro q;rw[q,hoc]at e;have q':oc=p.2:=Option.some.inj e;exact d w' (by rw[<-q'];exact hocd)
def qcN{M:cG}{A:aN}{E:PQ}{i:Nat}{x:Str}{v:V}{u:ae}{Q:Unit->ah->Prop}(I:Inv X pins Z H s)(hN:X.N.Nodup)(hi:X.N[i]?=some x)(hx:Loc X.env.scope x)(r:qF v u)
  (h:∀s',Inv X pins (Z.set i (some v)) H s'->Q () s') (hf:X.fn x=true\/X.env.scope.names.lookup x=some .local:=by first|exact .inl rfl|exact .inr rfl|assumption):ak M A (storeName X.env x u) Q E s:=
 qaF I hN hi hx r (λs' I' z=>h s' I') hf
def Inv.call'{s':ah}{ch:List af}(I:Inv X pins Z H s)(ho:s'.os=s.os)(u:Un (frs X.stack) ch H H' s.heap s'.heap)(hok:HOk X.prog X.w H' s'.heap)(hg:ei s'.gens)
  (hch:∀b∈ch,(b∈X.ex\/X.s₀.heap.objs.size<=b)/\b≠X.env.locals/\(∀x c,X.env.cells.lookup x=some c->c≠b)/\∀p∈X.pn++pins,p.1≠b):Inv X pins Z H' s':=by
 let(h',g',d',t',o'):=s';have e:o'=s.os:=ho;subst e;exact I.call (g':=g') (t':=t') (d':=d') u hok hg hch
end
abbrev XK:=ae->Option af->Hp->Prop
abbrev St:=List (Option V)
abbrev VK:=V->Hp->Prop
abbrev TE:=St->Hp->VK->Prop
abbrev TT:=St->Hp->(Bool->Hp->Prop)->Prop
abbrev TA:=St->Hp->(List V->Hp->Prop)->Prop
structure Ends where
 nx:St->Hp->Prop
 rt:VK
 bk:St->Hp->Prop:=λ_ _=>False
 ct:St->Hp->Prop:=λ_ _=>False
abbrev TS:=Ends->St->Hp->Prop
def EP(X:Cx)(pins:PP)(Z:St)(Q:VK)(u:ae)(s':ah):Prop:=∃v H',Inv X pins Z H' s'/\qF v u/\Q v H'
def TP(X:Cx)(pins:PP)(Z:St)(Q:Bool->Hp->Prop)(b:Bool)(s':ah):Prop:=∃H',Inv X pins Z H' s'/\Q b H'
def AP(X:Cx)(pins:PP)(Z:St)(Q:List V->Hp->Prop)(us:List ae)(s':ah):Prop:=∃vs H',Inv X pins Z H' s'/\qt vs us/\Q vs H'
def SP(X:Cx)(pins:PP)(D:Ends)(f:Flow)(s':ah):Prop:=
 match f with
 |.next=>∃Z' H',Inv X pins Z' H' s'/\D.nx Z' H'
 |.brk=>∃Z' H',Inv X pins Z' H' s'/\D.bk Z' H'
 |.cont=>∃Z' H',Inv X pins Z' H' s'/\D.ct Z' H'
 |.ret u=>∃v Z' H',Inv X pins Z' H' s'/\qF v u/\D.rt v H'
def PE(X:Cx)(e:ag)(t:TE):Prop:=
 ∀(pins:PP) (s:ah) (Z:St) (H:Hp) (Q:VK),Inv X pins Z H s->t Z H Q->ak (av X.prog X.w) X.A (eval e X.env) (EP X pins Z Q) X.xe s
def PT(X:Cx)(e:ag)(t:TT):Prop:=
 ∀(pins:PP) (s:ah) (Z:St) (H:Hp) (Q:Bool->Hp->Prop),Inv X pins Z H s->t Z H Q->ak (av X.prog X.w) X.A (isTrue e X.env (eval e X.env)) (TP X pins Z Q) X.xe s
def PW(X:Cx)(e:ag)(t:TT):Prop:=
 ∀(whole:Sem ae) (pins:PP) (s:ah) (Z:St) (H:Hp) (Q:Bool->Hp->Prop),Inv X pins Z H s->t Z H Q->ak (av X.prog X.w) X.A (isTrue e X.env whole) (TP X pins Z Q) X.xe s
def PW.pt{X:Cx}{e:ag}{t:TT}(h:PW X e t):PT X e t:=h _
def PA(X:Cx)(es:List ag)(t:TA):Prop:=
 ∀(pos:Pos) (pins:PP) (s:ah) (Z:St) (H:Hp) (Q:List V->Hp->Prop),Inv X pins Z H s->t Z H Q->ak (av X.prog X.w) X.A (spliced (bK pos (aP es X.env))) (AP X pins Z Q) X.xe s
def PS(X:Cx)(st:aI)(t:TS):Prop:=
 ∀(pins:PP) (s:ah) (Z:St) (H:Hp) (D:Ends),Inv X pins Z H s->t D Z H->ak (av X.prog X.w) X.A (exec st X.env) (SP X pins D) X.xe s
def PSs(X:Cx)(st:List aI)(t:TS):Prop:=
 ∀(pins:PP) (s:ah) (Z:St) (H:Hp) (D:Ends),Inv X pins Z H s->t D Z H->ak (av X.prog X.w) X.A (execs st X.env) (SP X pins D) X.xe s
def thn{α:Type}{t:Sem α}{Q Q':α->ah->Prop}{M:cG}{A:aN}{E:PQ}{s:ah}(h:ak M A t Q E s)(hQ:∀a s,Q a s->Q' a s):ak M A t Q' E s:=dQ h hQ λz z x=>x
section
variable{α B:Type}{t:Sem α}{Q':α->ah->Prop}{M:cG}{A:aN}{E:PQ}{s:ah}{X:Cx}{pins:PP}{Z:St}
def th3{Q:α->Hp->Prop}(h:ak M A t (λa s=>∃H,Inv X pins Z H s/\Q a H) E s)(k:∀a s H,Inv X pins Z H s->Q a H->Q' a s):ak M A t Q' E s:=thn h λa s ⟨H,I,q⟩=>k a s H I q
def th4{Q:α->St->Hp->Prop}(h:ak M A t (λa s=>∃Z H,Inv X pins Z H s/\Q a Z H) E s)(k:∀a s Z H,Inv X pins Z H s->Q a Z H->Q' a s):ak M A t Q' E s:=thn h λa s ⟨Z,H,I,q⟩=>k a s Z H I q
def th6{R:B->Prop}{Q:B->Hp->ah->Prop}(h:ak M A t (λz s=>∃x H,Inv X pins Z H s/\R x/\Q x H s) E s)(k:∀a s x H,Inv X pins Z H s->R x->Q x H s->Q' a s):ak M A t Q' E s:=thn h λa s ⟨x,H,I,r,q⟩=>k a s x H I r q
def thS{t:Sem (Option B)}{Q':Option B->ah->Prop}{P:B->ah->Prop}(h:ak M A t (λr s=>∃u,r=some u/\P u s) E s)(k:∀u s,P u s->Q' (some u) s):ak M A t Q' E s:=thn h λz s ⟨u,e,p⟩=>e▸k u s p
def th5{R:B->α->Prop}{Q:B->Hp->Prop}(h:ak M A t (λa s=>∃x H,Inv X pins Z H s/\R x a/\Q x H) E s)(k:∀a s x H,Inv X pins Z H s->R x a->Q x H->Q' a s):ak M A t Q' E s:=thn h λa s ⟨x,H,I,r,q⟩=>k a s x H I r q
end
section
variable{X:Cx}
def bin{a b:ag}{ta tb:TE}(ha:PE X a ta)(hb:PE X b tb){pins:PP}{s:ah}{Z:St}{H:Hp}{R:V->V->Hp->Prop}(I:Inv X pins Z H s)(h:ta Z H λx H1=>tb Z H1 λy H2=>R x y H2)
  {α:Type} {Q:α->ah->Prop} {f:ae->ae->Sem α}
  (hf:∀v u s2 x y H2,Inv X pins Z H2 s2->qF x v->qF y u->R x y H2->ak (av X.prog X.w) X.A (f v u) Q X.xe s2) :
  ak (av X.prog X.w) X.A (eval a X.env) (λv s₁=>ak (av X.prog X.w) X.A (eval b X.env) (λu s₂=>ak (av X.prog X.w) X.A (f v u) Q X.xe s₂) X.xe s₁) X.xe s:=by
 refine th5 (ha pins s Z H _ I h) λv s1 x H1 I1 r1 q1=>?_;refine th5 (hb pins s1 Z H1 _ I1 q1) λu s2 y H2 I2 r2 q2=>?_;exact hf v u s2 x y H2 I2 r1 r2 q2
def qoR(i:Nat):TE:=λZ H Q=>∃v,Z[i]?=some (some v)/\Q v H
def tC(v:V):TE:=λz H Q=>Q v H
def qeI{i:Nat}{x:Str}{pos:Pos}(hN:X.N[i]?=some x)(hv:Vis X.env.scope x)(hd:(x == ("__debug__" : Str))=false:=by decide)(hcd:(x == ("__classdict__" : Str))=false:=by decide):PE X (.Name x pos) (qoR i):=by
 intro pins s Z H Q I h;let(v,e,h):=h;let(m,hn,hl):=I.loc;let(u,r,l):=hl i x v hN e hv;have fin:EP X pins Z Q u s:=⟨v,H,I,r,h⟩;rcases l with ⟨hk,hm⟩|⟨hk,c,hc,hcell⟩
 .exact wpAny_Name (wpAny_loadName_local I.ok.kind hk hn hm fin) hd
 .rcases hk with hk|hk
  .exact wpAny_Name (wpAny_loadName_cell I.ok.kind hk hc hcell fin) hd
  .exact wpAny_Name (wpAny_loadName_free I.ok.kind hk hc hcell fin hcd) hd
def QJ{i j pos}:PE X (.Constant (.int i) j pos) (tC (.int i)):=λz z z H z I h=>wpAny_Constant_int ⟨.int i,H,I.tok _,⟨_,rfl⟩,h⟩
def qpa{b j pos}:PE X (.Constant (.bool b) j pos) (tC (.bl b)):=λz z z H z I h=>Constant_bool ⟨.bl b,H,I,rfl,h⟩
def qly{j pos}:PE X (.Constant .none j pos) (tC .non):=λz z z H z I h=>Constant_none ⟨.non,H,I,rfl,h⟩
def qlz{x j pos}:PE X (.Constant (.str x) j pos) (tC (.str x)):=λz z z H z I h=>Calls.Constant_str ⟨.str x,H,I.tok _,⟨_,rfl⟩,h⟩
def Gl(X:Cx)(x:Str):Prop:=X.env.kindOf x=some .globalImplicit
def Jk{E:PQ}{pins:PP}{s:ah}{Z:St}{H:Hp}{x:Str}{u:ae}{pos:Pos}{Q:PQ}(I:Inv X pins Z H s)(hg:Gl X x)(hm:X.mg x=some u)(h:Q u s)
  (hd:(x == ("__debug__" : Str))=false:=by decide):ak (av X.prog X.w) X.A (eval (.Name x pos) X.env) Q E s:=
 mX I.ok.kind hg (Calls.loadGlobal_global (by rw[I.ok.glob];exact I.mod.glob.keeps I.bk) hm h) hd
def Yw{E:PQ}{pins:PP}{s:ah}{Z:St}{H:Hp}{x:Str}{u:ae}{pos:Pos}{Q:PQ}(I:Inv X pins Z H s)(hg:Gl X x)(hm:X.mg x=none)(hv:gf x=some u)(h:Q u s)
  (hn:x≠"__name__":=by decide) (hd:(x == ("__debug__" : Str))=false:=by decide):ak (av X.prog X.w) X.A (eval (.Name x pos) X.env) Q E s:=by
 let(mb,h1,h2):=I.mod.blt;exact mX I.ok.kind hg (Calls.loadGlobal_builtin (by rw[I.ok.glob];exact I.mod.glob.keeps I.bk) hm (by rw[I.ok.blt];exact h1.keeps I.bk) ((h2 x hn).trans hv) h) hd
def Zq{x:Str}{v:V}{u:ae}{pos:Pos}(hg:Gl X x)(hm:X.mg x=some u)(r:qF v u)(hd:(x == ("__debug__" : Str))=false:=by decide):PE X (.Name x pos) (tC v):=
 λz z z H z I h=>Jk I hg hm ⟨v,H,I,r,h⟩ hd
def Yx{x:Str}{v:V}{u:ae}{pos:Pos}(hg:Gl X x)(hm:X.mg x=none)(hv:gf x=some u)(r:qF v u)(hn:x≠"__name__":=by decide)(hd:(x == ("__debug__" : Str))=false:=by decide):PE X (.Name x pos) (tC v):=
 λz z z H z I h=>Yw I hg hm hv ⟨v,H,I,r,h⟩ hn hd
variable{a b:ag}{ta tb:TE}{pos:Pos}
def tB(t:TE):TT:=λZ H Q=>t Z H λx H1=>∃c,x=.bl c/\Q c H1
def qcO{e:ag}{t:TE}(h:PE X e t)(he:∀whole,isTrue e X.env whole=(do let v<-whole;ej e.pos;dg [v] (truthy v)):=by intro _;rfl):PT X e (tB t):=by intro pins s Z H Q I hw;refine isTrue_plain (thn (h pins s Z H _ I hw) λv s1 hz10=>?_) (he _);let(x,H1,I1,r1,q1):=hz10;let(d,rfl,q):=q1;cases r1;exact eS ⟨H1,I1,q⟩
variable{tA tB':TT}{rest:List ag}
def qqV(t:TT):TT:=λZ H Q=>t Z H λc H1=>Q (!c) H1
theorem qjx(ha:PT X a tA):PW X (.BoolOp .And [a] pos) tA:=by
 intro wh pins s Z H Q I h;refine isTrue_and (thn (ha pins s Z H Q I h) λc s1 e=>?_)
 cases c with
 |true=>exact isTrue_and_nil e
 |false=>exact e
theorem qlA(ha:PT X a tA):PW X (.BoolOp .Or [a] pos) tA:=by
 intro wh pins s Z H Q I h;refine isTrue_or (thn (ha pins s Z H Q I h) λc s1 e=>?_)
 cases c with
 |false=>exact isTrue_or_nil e
 |true=>exact e
def qaG(ha:PT X a tA):PT X (.UnaryOp .Not a pos) (qqV tA):=by intro pins s Z H Q I h;exact isTrue_not (ha pins s Z H (λc H1=>Q (!c) H1) I h)
def qpb(ta tb:TE):TE:=λZ H Q=>ta Z H λx H1=>∃c,x=.bl c/\if c=true then tb Z H1 Q else Q (.bl false) H1
def qpc(ta:TE):TE:=λZ H Q=>ta Z H λx H1=>∃c,x=.bl c/\Q (.bl (!c)) H1
def qlB{op}{t:TE}(h:PE X a t):PE X (.BoolOp op [a] pos) t:=λpins s Z H Q I hw=>BoolOp_one (h pins s Z H Q I hw)
theorem qlC(ha:PE X a ta)(hb:PE X (.BoolOp .And (b::rest) pos) tb):PE X (.BoolOp .And (a::b::rest) pos) (qpb ta tb):=by
 intro pins s Z H Q I h;refine BoolOp_and (th5 (ha pins s Z H _ I h) λv s1 x H1 I1 r1 q1=>?_);let(c,rfl,q1):=q1;cases r1;refine eS ?_
 cases c with
 |true=>exact hb pins s1 Z H1 Q I1 q1
 |false=>exact{.bl false,H1,I1,rfl,q1}
def qlD(ha:PE X a ta):PE X (.UnaryOp .Not a pos) (qpc ta):=by intro pins s Z H Q I h;refine UnaryOp_ (th5 (ha pins s Z H _ I h) λv s1 x H1 I1 r1 q1=>?_);let(c,rfl,q1):=q1;cases r1;exact not_of (eS ⟨.bl (!c),H1,I1,rfl,q1⟩)
def tIf(t:TT)(ta tb:TE):TE:=λZ H Q=>t Z H λc H1=>if c=true then ta Z H1 Q else tb Z H1 Q
theorem qgW{c:ag}(hc:PT X c tA)(ha:PE X a ta)(hb:PE X b tb):PE X (.IfExp c a b pos) (tIf tA ta tb):=by
 intro pins s Z H Q I h;refine wpAny_IfExp (th3 (hc pins s Z H _ I h) λd s1 H1 I1 q1=>?_)
 cases d with
 |true=>exact ha pins s1 Z H1 Q I1 q1
 |false=>exact hb pins s1 Z H1 Q I1 q1
end
def SqL(K:Frag)(H:Hp)(a:af)(xs:List V):Prop:=
 Rd H a (.lst xs)\/
  ∃(o:Obj) (its:Array ae) (n:Nat),K.lookup a=some o/\o.cls=.type "list"/\o.dict=none/\o.data=.seq its n/\its.size<=sizeLine/\qt xs its.toList
def SqT(K:Frag)(H:Hp)(a:af)(xs:List V):Prop:=
 Rd H a (.tup xs)\/
  ∃(o:Obj) (its:Array ae) (n:Nat),K.lookup a=some o/\o.cls=.type "tuple"/\o.data=.seq its n/\its.size<=sizeLine/\qt xs its.toList
def qqW:ae->Option V
 |.none=>some .non
 |.bool b=>some (.bl b)
 |.int i z=>some (.int i)
 |.str x z=>some (.str x)
 |.bytes b z=>some (.byt b)
 |.float b z=>some (.flt b)
 |.ref a=>some (.ref a)
 |.type n=>some (.ty n)
 |_=>none
theorem qF.abs{x:V}{u:ae}(r:qF x u):qqW u=some x:=by
 cases x with
 |non=>cases r;rfl
 |bl z=>cases r;rfl
 |int z=>let(t,rfl):=r;rfl
 |str z=>let(t,rfl):=r;rfl
 |byt z=>let(t,rfl):=r;rfl
 |flt z=>let(t,rfl):=r;rfl
 |ref z=>cases r;rfl
 |ty z=>cases r;rfl
def qF.inj{x y:V}{u:ae}(r:qF x u)(q:qF y u):x=y:=Option.some.inj (r.abs.symm.trans q.abs)
theorem qt.inj{xs ys:List V}{us:List ae}(h:qt xs us)(k:qt ys us):xs=ys:=by
 induction h generalizing ys with
 |nil=>cases k;rfl
 |cons r t ih=>cases k with
  | cons r' t'=>rw[r.inj r',ih t']
section
variable{X:Cx}{pins:PP}{Z:St}{H:Hp}{s:ah}{a:af}{xs ys:List V}
def SqL.of{K:Frag}(h:H a=some (.lst xs)):SqL K H a xs:=.inl (.inl h)
def SqT.of{K:Frag}(h:H a=some (.tup xs)):SqT K H a xs:=.inl (.inl h)
def Inv.list(I:Inv X pins Z H s)(h:SqL X.K H a xs):∃its:List ae,qt xs its/\PlainL s.heap a its.toArray/\xs.length<=sizeLine:=by
 rcases h with h|⟨o,its,n,hk,hc,hd,hs,hz,r⟩
 .let(z,its,n,r,e):=h.ok I.hok;exact{its,r,{_,n,e,rfl,rfl,rfl},z}
 .refine{its.toList,r,{o,n,I.kIn a o hk,hc,hd,(-hs:)},?_};have e:=r.length;simp![bF]at e
  lia
def Inv.tuple(I:Inv X pins Z H s)(h:SqT X.K H a xs):∃its:List ae,qt xs its/\IsTup s.heap a its.toArray/\xs.length<=sizeLine:=by
 rcases h with h|⟨o,its,n,hk,hc,hs,hz,r⟩
 .let(z,its,r,p):=h.ok I.hok;exact⟨its,r,p,z⟩
 .refine{its.toList,r,{o,I.kIn a o hk,hc,n,(-hs:)},?_};have e:=r.length;simp![bF]at e
  lia
def Inv.list_inj(I:Inv X pins Z H s)(h:SqL X.K H a xs)(h':SqL X.K H a ys):xs=ys:=by
 let(its,r,(o,n,e,_,_,d),_):=I.list h;let(its',r',(o',n',e',_,_,d'),_):=I.list h';rw[e]at e';cases e';rw[d]at d';injection d' with d1 _
 have:its=its':=by simpa using congrArg Array.toList d1
 subst this;exact r.inj r'
def Inv.tuple_inj(I:Inv X pins Z H s)(h:SqT X.K H a xs)(h':SqT X.K H a ys):xs=ys:=by
 let(its,r,(o,e,_,n,d),_):=I.tuple h;let(its',r',(o',e',_,n',d'),_):=I.tuple h';rw[e]at e';cases e';rw[d]at d';injection d' with d1 _
 have:its=its':=by simpa using congrArg Array.toList d1
 subst this;exact r.inj r'
end
abbrev Cx.wish(X:Cx)(E:PQ):Cx:={ X with xe:=E }
abbrev Cx.nox(X:Cx):Cx:=X.wish λz z=>False
def Cx.Ok.wish{X:Cx}(ok:X.Ok)(E:PQ):(X.wish E).Ok:=
 ⟨ok.mod,ok.kind,ok.glob,ok.blt,ok.above,ok.inj,ok.has,ok.cab,ok.hd,ok.frames,ok.stk,ok.exf,ok.bs,ok.bsz,ok.noex,ok.exfs,ok.funs,ok.frf⟩
def Cx.Ok.unwish{X:Cx}{E:PQ}(ok:(X.wish E).Ok):X.Ok:=
 ⟨ok.mod,ok.kind,ok.glob,ok.blt,ok.above,ok.inj,ok.has,ok.cab,ok.hd,ok.frames,ok.stk,ok.exf,ok.bs,ok.bsz,ok.noex,ok.exfs,ok.funs,ok.frf⟩
section
variable{X:Cx}{pins:PP}{Z:St}{H:Hp}{s:ah}{E:PQ}
def Inv.wish(I:Inv X pins Z H s)(E:PQ):Inv (X.wish E) pins Z H s:={I.ok.wish E,I.os,I.bare,I.base,I.loc,I.cell,I.free,I.freeC,I.pin,I.hok,I.len}
def Inv.unwish(I:Inv (X.wish E) pins Z H s):Inv X pins Z H s:=⟨I.ok.unwish,I.os,I.bare,I.base,I.loc,I.cell,I.free,I.freeC,I.pin,I.hok,I.len⟩
theorem SP.unwish{D:Ends}{f:Flow}{s':ah}(h:SP (X.wish E) pins D f s'):SP X pins D f s':=by
 cases f with
 |next=>let(Z',H',I,q):=h;exact⟨Z',H',I.unwish,q⟩
 |brk=>let(Z',H',I,q):=h;exact⟨Z',H',I.unwish,q⟩
 |cont=>let(Z',H',I,q):=h;exact⟨Z',H',I.unwish,q⟩
 |ret u=>let(v,Z',H',I,r,q):=h;exact⟨v,Z',H',I.unwish,r,q⟩
def PSs.nox{st:List aI}{t:TS}(h:PSs X.nox st t):PSs X st t:=λpins s Z H D I hw=>dQ (h pins s Z H D (I.wish _) hw) (λy y q=>q.unwish) λy y z=>ax z
end
section
variable{X:Cx}{st:aI}{rest:List aI}{t u:TS}{e:ag}{te:TE}{pos:Pos}
def qpd:TS:=λD Z H=>D.nx Z H
def qqX(t u:TS):TS:=λD Z H=>t { D with nx:=u D } Z H
def Yy:PSs X [] qpd:=λz z Z H z I h=>i9 ⟨Z,H,I,h⟩
theorem zm(h1:PS X st t)(h2:PSs X rest u):PSs X (st::rest) (qqX t u):=by
 intro pins s Z H D I h;refine wpAny_execs_cons (thn (h1 pins s Z H { D with nx:=u D } I h) λf s1 q=>?_)
 cases f with
 |next=>let(Z',H',I',q):=q;exact h2 pins s1 Z' H' D I' q
 |ret v=>exact q
 |brk=>exact q
 |cont=>exact q
theorem jK(h1:PS X st t):PSs X [st] t:=by
 intro pins s Z H D I h;refine wpAny_execs_cons (thn (h1 pins s Z H D I h) λf s1 q=>?_)
 cases f with
 |next=>exact i9 q
 |ret v=>exact q
 |brk=>exact q
 |cont=>exact q
def Inv.quiet{pins:PP}{Z:St}{H:Hp}{s:ah}(I:Inv X pins Z H s):interactive X.env=false:=by simp[interactive,I.ok.kind]
def qpe(te:TE):TS:=λD Z H=>te Z H λz H1=>D.nx Z H1
def Yz(he:PE X e te)(hs:fu e none pos.line X.env=pure false:=by rfl):PS X (.Expr e pos) (qpe te):=by intro pins s Z H D I h;refine wpAny_Expr_any (thn (he pins s Z H _ I h) λv s1 hz11=>?_) I.quiet hs;let(x,H1,I1,r1,q1):=hz11;exact⟨Z,H1,I1,q1⟩
def qqY(te:TE):TS:=λD Z H=>te Z H D.rt
def qeJ(he:PE X e te):PS X (.Return (some e) pos) (qqY te):=by intro pins s Z H D I h;refine wpAny_Return_some (th5 (he pins s Z H _ I h) λv s1 x H1 I1 r1 q1=>?_);exact⟨x,Z,H1,I1,r1,q1⟩
def qqZ(c:TT)(t u:TS):TS:=λD Z H=>c Z H λb H1=>if b=true then t D Z H1 else u D Z H1
theorem qeK{c:ag}{a b:List aI}{tc:TT}(hc:PT X c tc)(ha:PSs X a t)(hb:PSs X b u):PS X (.If c a b pos) (qqZ tc t u):=by
 intro pins s Z H D I h;refine wpAny_If (th3 (hc pins s Z H _ I h) λd s1 H1 I1 q1=>?_)
 cases d with
 |true=>exact ha pins s1 Z H1 D I1 q1
 |false=>exact hb pins s1 Z H1 D I1 q1
def qlE:TS:=λz z z=>False
def Yd:PS X st qlE:=λz z z z z z h=>h.elim
end
abbrev TG:=V->St->Hp->(St->Hp->Prop)->Prop
abbrev TGs:=List V->St->Hp->(St->Hp->Prop)->Prop
def PG(X:Cx)(target:ag)(t:TG):Prop:=
 ∀(pins:PP) (s:ah) (Z:St) (H:Hp) (v:V) (u:ae) (Q:St->Hp->Prop),Inv X pins Z H s->qF v u->t v Z H Q->
  ak (av X.prog X.w) X.A (eo target X.env u) (λz s'=>∃Z' H',Inv X pins Z' H' s'/\Q Z' H') X.xe s
def PGs(X:Cx)(ts:List ag)(t:TGs):Prop:=
 ∀(pins:PP) (s:ah) (Z:St) (H:Hp) (vs:List V) (us:List ae) (Q:St->Hp->Prop),Inv X pins Z H s->qt vs us->t vs Z H Q->
  ak (av X.prog X.w) X.A (assignInOrder ((dU ts X.env).map (·.2)) us) (λz s'=>∃Z' H',Inv X pins Z' H' s'/\Q Z' H') X.xe s
abbrev qpf:=V->V->V->Hp->(Hp->Prop)->Prop
def qqp(X:Cx)(t:qpf):Prop:=
 ∀(pins:PP) (s:ah) (Z:St) (H:Hp) (o i v:V) (ov iv u:ae) (Q:Hp->Prop),Inv X pins Z H s->qF o ov->qF i iv->qF v u->t o i v H Q->
  ak (av X.prog X.w) X.A (setItem ov iv u) (λz s'=>∃H',Inv X pins Z H' s'/\Q H') X.xe s
section
variable{X:Cx}{pos:Pos}
def qgX(i:Nat):TG:=λv Z H Q=>Q (Z.set i (some v)) H
def qjy{i:Nat}{x:Str}(hN:X.N.Nodup)(hi:X.N[i]?=some x)(hx:Loc X.env.scope x)(hf:X.fn x=true\/X.env.scope.names.lookup x=some .local:=by first|exact .inl rfl|exact .inr rfl|assumption):PG X (.Name x pos) (qgX i):=by intro pins s Z H v u Q I r h;exact wpAny_assign_Name (qcN I hN hi hx r (λs' I'=>{_,H,I',h}) hf)
def qq0:TGs:=λvs Z H Q=>vs=[]/\Q Z H
def qpg(t:TG)(u:TGs):TGs:=λvs Z H Q=>∃v r,vs=v::r/\t v Z H λZ' H'=>u r Z' H' Q
def qjz:PGs X [] qq0:=by intro pins s Z H vs us Q I r h;let(e,h):=h;subst e;cases r;exact assignInOrder_nil ⟨Z,H,I,h⟩
theorem qgY{e:ag}{es:List ag}{t:TG}{u:TGs}(h1:PG X e t)(h2:PGs X es u)
  (hs:(dU (e::es) X.env).map (·.2)=eo e X.env::(dU es X.env).map (·.2):=by rfl):PGs X (e::es) (qpg t u):=by
 intro pins s Z H vs us Q I r h;let(v,vr,e1,h):=h;subst e1
 cases r with
 |cons r rr=>rw[hs];refine assignInOrder_cons (th4 (h1 pins s Z H _ _ _ I r h) λz s1 Z1 H1 I1 q1=>?_);exact h2 pins s1 Z1 H1 _ _ Q I1 rr q1
def qq1(K:Frag)(n:Nat)(t:TGs):TG:=λv Z H Q=>∃a xs,v=.ref a/\SqT K H a xs/\xs.length=n/\t xs Z H Q
def qlF{es:List ag}{k:Nat}{t:TGs}{n:Nat}(hc:X.calm=true)(h:PGs X es t)
  (hn:(dU es X.env).length=n:=by rfl) (hst:(dU es X.env).findIdx? (·.1)=none:=by rfl):PG X (.Tuple es k pos) (qq1 X.K n t):=by
 intro pins s Z H v u Q I r hw;let(a,xs,e1,hq,hl,hw):=hw;subst e1;cases r;let(its,rv,ht,hz):=I.tuple hq;refine assign_Tuple_tuple (I.ok.hd hc) ht (by simp[hn,<-hl,rv.length]) hst λh' hx=>?_;have I1:Inv X pins Z H { s with heap:=h' }:=I.kept (t':=s.toks) λb o e=>hx b o (a9 (aQ e)) e;exact h pins _ Z H xs _ Q I1 (-rv:) hw
def qq2(to ti:TE)(t:qpf):TG:=λv Z H Q=>to Z H λo H1=>ti Z H1 λi H2=>t o i v H2 λH3=>Q Z H3
def qlG{o i:ag}{to ti:TE}{t:qpf}(ho:PE X o to)(hi:PE X i ti)(hs:qqp X t)
  (ha:∀v,eo (.Subscript o i pos) X.env v=(do
   let ov<-dg [v] (eval o X.env)
   let iv<-dg [v,ov] (eval i X.env)
   ej pos
   dg [v,ov,iv] (setItem ov iv v)
   release [v,ov,iv] []):=by intro _;rfl):PG X (.Subscript o i pos) (qq2 to ti t):=by
 intro pins s Z H v u Q I r h;rw[ha];refine aj (dh (th5 (ho pins s Z H _ I h) λov s1 x H1 I1 r1 q1=>?_));refine aj (dh (th5 (hi pins s1 Z H1 _ I1 q1) λiv s2 y H2 I2 r2 q2=>?_));refine aj (lX (aj (dh (th3 (hs pins s2 Z H2 x y v ov iv u _ I2 r1 r2 r q2) λz s3 H3 I3 q3=>?_))));exact wpAny_release ⟨Z,H3,I3,q3⟩
def qph(te:TE)(g:TG):TS:=λD Z H=>te Z H λx H1=>g x Z H1 D.nx
def qiI{tg e:ag}{te:TE}{g:TG}(he:PE X e te)(hg:PG X tg g)(hs:lY [tg] e pos.line X.env=pure false:=by rfl)(hw:swappedStores [tg] e X.env=pure none:=by rfl)
  (h1:(dU [tg] X.env).map (·.2)=[eo tg X.env]:=by rfl):PS X (.Assign [tg] e pos) (qph te g):=by
 intro pins s Z H D I h;refine wpAny_Assign_stores (thn (he pins s Z H _ I h) λv s1 hz13=>?_) hs hw;let(x,H1,I1,r1,q1):=hz13;rw[h1];exact thn (hg pins s1 Z H1 x v _ I1 r1 q1) λz s2 q=>q
def qcP{i:Nat}{x:Str}{e:ag}{te:TE}{pos':Pos}(hN:X.N.Nodup)(hi:X.N[i]?=some x)(hx:Loc X.env.scope x)(he:PE X e te)(hs:fu e (some (.Name x pos')) pos.line X.env=pure false:=by rfl)(hf:X.fn x=true\/X.env.scope.names.lookup x=some .local:=by first|exact .inl rfl|exact .inr rfl|assumption) :
  PS X (.Assign [.Name x pos'] e pos) (qph te (qgX i)):=by
 intro pins s Z H D I h;refine wpAny_Assign_Name (thn (he pins s Z H _ I h) λv s1 hz14=>?_) hs;let(y,H1,I1,r1,q1):=hz14;exact qcN I1 hN hi hx r1 (λs2 I2=>{_,H1,I2,q1}) hf
def qlH(c:TT)(tb:TS):TS:=λD Z H=>∃W:Nat->St->Hp->Prop,(∃m,W m Z H)/\∀m Z H,W m Z H->
 c Z H λb H1=>if b=true then∃N:St->Hp->Prop,(∀Z' H',N Z' H'->∃m',m' < m/\W m' Z' H')/\tb { D with nx:=N,ct:=N,bk:=D.nx } Z H1 else D.nx Z H1
theorem qgZ{c:ag}{body:List aI}{tc:TT}{tb:TS}(hp:lZ (av X.prog X.w) X.A X.env X.xe)(hc:PT X c tc)(hb:PSs X body tb):PS X (.While c body [] pos) (qlH tc tb):=by
 intro pins s Z H D I h;let(W,(m0,w0),turn):=h;refine wpAny_While (codeAny_whileLoop (λn s'=>∃Z' H',Inv X pins Z' H' s'/\W n Z' H') ?_ m0 ⟨Z,H,I,w0⟩);rintro n s1 ⟨Z1,H1,I1,w1⟩;refine fC hp (th3 (hc pins s1 Z1 H1 _ I1 (turn n Z1 H1 w1)) λb s2 H2 I2 q2=>?_)
 cases b with
 |true=>
  let(N,hN,q2):=q2;rw[if_pos rfl];refine fC hp (thn (hb pins s2 Z1 H2 _ I2 q2) λf s3 q3=>?_)
  cases f with
  |next=>let(Z3,H3,I3,n3):=q3;let(m',hm,w3):=hN Z3 H3 n3;exact⟨m',hm,Z3,H3,I3,w3⟩
  |cont=>let(Z3,H3,I3,n3):=q3;let(m',hm,w3):=hN Z3 H3 n3;exact⟨m',hm,Z3,H3,I3,w3⟩
  |brk=>exact q3
  |ret v=>exact q3
 |false=>rw[if_neg d9];exact i9 ⟨Z1,H2,I2,q2⟩
end
structure It where
 go:Nat->Hp->Prop
 yld:Nat->Hp->V->Hp->Prop
 stop:Nat->Hp->Prop
def qdV(X:Cx)(pins:PP)(H:Hp)(b:af):Prop:=
 H b=none/\b≠X.env.locals/\b∉X.fs/\(b∈X.ex\/X.s₀.heap.objs.size<=b)/\(∀x c,X.env.cells.lookup x=some c->c≠b)/\∀p∈X.pn++pins,p.1≠b
def Inv.fpOk{X:Cx}{pins:PP}{Z:St}{H H':Hp}{s:ah}{b:af}(I:Inv X pins Z H s)(hb:s.heap.objs.size<=b)(hn:H' b=none):qdV X pins H' b:=by
 refine{hn,fK (bD I.lt hb),I.nofs hb,.inr (bQ I.sz hb),λx c e z=>?_,λp hp z=>?_}
 .let(v,q):=I.cell x c e;exact absurd (bD q.lt (by rw[z];exact hb)) (eE _)
 .exact absurd (bD (aQ (I.pin p hp).1) (by rw[z];exact hb)) (eE _)
structure Turn(P:aJ)(w:aC)(K:Frag)(tg:ag)(J:It)(fp:List af)(it:af)(tn:Nat->aw->Prop):Prop where
 mem:it∈fp
 obj:∀i h,tn i h->∀b∈fp,∃o,h.get? b=some o/\∀v,o.data≠.cell v
 keep:∀i h h',tn i h->(∀b∈fp,∀o,h.get? b=some o->h'.get? b=some o)->tn i h'
 item:∀(X:Cx),X.prog=P->X.w=w->X.K=K->X.calm=true->∀(i:Nat) (pins:PP) (s:ah) (Z:St) (H:Hp) (E:PQ),Inv X pins Z H s->(∀b∈fp,qdV X pins H b)->tn i s.heap->J.go i H->
  ak (av P w) X.A (cM (.ref it)) (λr s1=>∃u,r=some u/\
   ak (av P w) X.A (l5 tg (.ref it) u) (λ_ s2=>∃x H',Inv X pins Z H' s2/\qF x u/\J.yld i H x H'/\tn (i+1) s2.heap/\∀b∈fp,H' b=none) E s1) E s
 done:∀(X:Cx),X.prog=P->X.w=w->X.K=K->X.calm=true->∀(i:Nat) (pins:PP) (s:ah) (Z:St) (H:Hp) (E:PQ),Inv X pins Z H s->(∀b∈fp,qdV X pins H b)->tn i s.heap->J.stop i H->
  ak (av P w) X.A (cM (.ref it)) (λr s1=>r=none/\Inv X pins Z H s1) E s
 self:∀(A:aN) (i:Nat) (s:ah) (Q:PQ) (E:PQ),tn i s.heap->Q (.ref it) s->ak (av P w) A (fD (.ref it)) Q E s
abbrev TI:=St->Hp->(It->Hp->Prop)->Prop
def PIE(X:Cx)(pins:PP)(Z:St)(tg:ag)(R:It->Hp->Prop)(itv:ae)(s2:ah):Prop:=
 ∀G:ae->Prop,(∀(it:af) (fp:List af) (tn:Nat->aw->Prop) (J:It) (H':Hp),Inv X pins Z H' s2->Turn X.prog X.w X.K tg J fp it tn->tn 0 s2.heap->(∀b∈fp,qdV X pins H' b)->R J H'->G (.ref it))->G itv
def PI(X:Cx)(tg iter:ag)(wi:TI):Prop:=
 ∀(pins:PP) (s:ah) (Z:St) (H:Hp) (R:It->Hp->Prop),Inv X pins Z H s->wi Z H R->
  ak (av X.prog X.w) X.A (eval iter X.env) (λv s1=>ak (av X.prog X.w) X.A (fD v) (PIE X pins Z tg R) X.xe s1) X.xe s
def qeL{M:cG}{A:aN}{E:PQ}{s:ah}{tg:ag}{it:af}{u:ae}{o:Obj}{n:String}{vs:Array ae}{Q:Unit->ah->Prop}(ho:s.heap.get? it=some o)(hc:o.cls=.type n)(hd:o.data=.fields vs)
  (hn:["enumerate","zip","dict_itemiterator","dict_reverseitemiterator","odict_iterator","itertools.zip_longest","itertools.pairwise"].contains n=false) (hQ:Q () s):ak M A (l5 tg (.ref it) u) Q E s:=by
 unfold l5
 cases tg<;>first
  | exact aB hQ
  | (cases u<;>first
    | exact aB hQ
    | (refine aj (wpAny_load ho ?_)
       rw[hc,hd];show ak M A (if (["enumerate","zip","dict_itemiterator","dict_reverseitemiterator","odict_iterator","itertools.zip_longest","itertools.pairwise"].contains n&&vs[0]? == some (bP _))=true then _ else _) Q E s;rw[if_neg (by intro h;rw[hn,Bool.false_and]at h;cases h)];exact aB hQ))
def Itl(K:Frag)(a:af):It:=
 ⟨λi H=>∃xs x,SqL K H a xs/\xs[i]?=some x,λi H x H'=>H'=H/\∀xs,SqL K H a xs->xs[i]?=some x,λi H=>∃xs,SqL K H a xs/\xs.length<=i⟩
def Itt(K:Frag)(a:af):It:=
 ⟨λi H=>∃xs x,SqT K H a xs/\xs[i]?=some x,λi H x H'=>H'=H/\∀xs,SqT K H a xs->xs[i]?=some x,λi H=>∃xs,SqT K H a xs/\xs.length<=i⟩
def Itr(lo:Int)(n:Nat):It:={λi z=>i < n,λi H x H'=>H'=H/\x=.int (lo+i),λi z=>n<=i}
def qeM{P:aJ}{w:aC}{K:Frag}{tg:ag}(a it:af):Turn P w K tg (Itl K a) [it] it (λi h=>h.IsListIter it a i) where
 mem:=by simp
 obj:=λi h st b hb=>by
  have e:b=it:=(-hb:)
  subst e;let(o,e,c,d):=st;exact{o,e,λv z=>by rw[d]at z;cases z}
 keep:=λi h h' st k=>st.at λo e=>k it (5:) o e
 item:=by intro X hP hw hK hc i pins s Z H E I hf st hg;subst hP hw hK;let(xs,x,hq,hx):=hg;let(its,rv,p,hz):=I.list hq;let(u,hu,ru):=rv.get hx;let(f0,f1,f2,f3,f4,f5):=hf it (5:);refine nJ st p.isList (x:=u) (-hu:) λh' st' sb=>?_;have I1:Inv X pins Z H { s with heap:=h' }:=I.turned (t':=s.toks) (λb o hb e=>(sb.2 b hb).trans e) f0 f1 f3 f4 f5;let(o,e,c,d):=id st';exact{u,rfl,qeL (s:={ s with heap:=h' }) e c d (2:) ⟨x,H,I1,ru,⟨rfl,λys hy=>by rw[I.list_inj hy hq];exact hx⟩,st',λb hb=>(hf b hb).1⟩}
 done:=by intro X hP hw hK hc i pins s Z H E I hf st hg;subst hP hw hK;let(xs,hq,hx):=hg;let(its,rv,p,hz):=I.list hq;let(f0,f1,f2,f3,f4,f5):=hf it (5:);have hl:=rv.length;exact nK (I.ok.hd hc) st p.isList (by simp;lia) λh' eb=>{rfl,I.turned (t':=s.toks) (λb o hb e=>eb b o hb e) f0 f1 f3 f4 f5}
 self:=λy y y y y st h=>wpAny_pyIter_listiter st h
def qdW{P:aJ}{w:aC}{K:Frag}{tg:ag}(a it:af):Turn P w K tg (Itt K a) [it] it (λi h=>h.IsTupleIter it a i) where
 mem:=by simp
 obj:=λi h st b hb=>by
  have e:b=it:=(-hb:)
  subst e;let(o,e,c,d):=st;exact{o,e,λv z=>by rw[d]at z;cases z}
 keep:=λi h h' st k=>st.at λo e=>k it (5:) o e
 item:=by intro X hP hw hK hc i pins s Z H E I hf st hg;subst hP hw hK;let(xs,x,hq,hx):=hg;let(its,rv,p,hz):=I.tuple hq;let(u,hu,ru):=rv.get hx;let(f0,f1,f2,f3,f4,f5):=hf it (5:);refine wpAny_pyNext_tuple_item st (show s.heap.IsTuple a its.toArray from p) (x:=u) (-hu:) λh' st' sb=>?_;have I1:Inv X pins Z H { s with heap:=h' }:=I.turned (t':=s.toks) (λb o hb e=>(sb.2 b hb).trans e) f0 f1 f3 f4 f5;let(o,e,c,d):=id st';exact{u,rfl,qeL (s:={ s with heap:=h' }) e c d (2:) ⟨x,H,I1,ru,⟨rfl,λys hy=>by rw[I.tuple_inj hy hq];exact hx⟩,st',λb hb=>(hf b hb).1⟩}
 done:=by intro X hP hw hK hc i pins s Z H E I hf st hg;subst hP hw hK;let(xs,hq,hx):=hg;let(its,rv,p,hz):=I.tuple hq;let(f0,f1,f2,f3,f4,f5):=hf it (5:);have hl:=rv.length;exact wpAny_pyNext_tuple_end (I.ok.hd hc) st (show s.heap.IsTuple a its.toArray from p) (by simp;lia) λh' eb=>{rfl,I.turned (t':=s.toks) (λb o hb e=>eb b o hb e) f0 f1 f3 f4 f5}
 self:=λy y y y y st h=>wpAny_pyIter_tupleiter st h
def qdX{P:aJ}{w:aC}{K:Frag}{tg:ag}(it:af)(lo:Int)(n:Nat):Turn P w K tg (Itr lo n) [it] it (λi h=>IsRangeIter h it (lo+(i:Nat) * 1) ((n:Int) - (i:Nat)) 1) where
 mem:=by simp
 obj:=λi h st b hb=>by
  have e:b=it:=(-hb:)
  subst e
  exact{_,st,λv z=>by have z':Data.fields _=Data.cell v:=z;cases z'}
 keep:=λi h h' st k=>k it (5:) _ st
 item:=by intro X hP hw hK hc i pins s Z H E I hf st hg;subst hP hw hK;let(f0,f1,f2,f3,f4,f5):=hf it (5:);have W:=Walks.range (prog:=X.prog) (w:=X.w) (I.ok.hd hc) it lo 1 n;refine W.item i s _ _ hg st λv h' tk hv st' kk=>?_;let(t,rfl):=hv;have I1:Inv X pins Z H { s with heap:=h',toks:=tk }:=I.turned (λb o hb e=>kk b o (-hb:) e) f0 f1 f3 f4 f5;refine{_,rfl,qeL (s:={ s with heap:=h',toks:=tk }) (n:="range_iterator") st' rfl rfl (2:) ⟨.int (lo+i),H,I1,⟨t,?_⟩,⟨rfl,rfl⟩,st',λb hb=>(hf b hb).1⟩};rw[Int.mul_one]
 done:=by intro X hP hw hK hc i pins s Z H E I hf st hg;subst hP hw hK;let(f0,f1,f2,f3,f4,f5):=hf it (5:);exact wpAny_pyNext_range_end (I.ok.hd hc) st (by have:n<=i:=hg;lia) λh' eb=>{rfl,I.turned (t':=s.toks) (λb o hb e=>eb b o hb e) f0 f1 f3 f4 f5}
 self:=λy y y y y st h=>wpAny_pyIter_rangeiter st h
section
variable{X:Cx}{tg:ag}
def PIE.one{pins:PP}{Z:St}{H:Hp}{s:ah}{R:It->Hp->Prop}{J:It}{tn:Nat->aw->Prop}{o:Obj}(I:Inv X pins Z H s)(T:Turn X.prog X.w X.K tg J [s.heap.objs.size] s.heap.objs.size tn)(st:tn 0 (s.heap.push o))(q:R J H) :
  PIE X pins Z tg R (.ref s.heap.objs.size) { s with heap:=s.heap.push o }:=λz h=>by
 refine h _ _ _ _ _ (I.kept (t':=s.toks) λb o e=>aW _ e) T st (λb hb=>?_) q;cases aU.mp hb;exact I.fpOk (ay _) (I.hok.fresh (ay _))
def qg0{pins:PP}{Z:St}{H:Hp}{s:ah}{R:It->Hp->Prop}{E:PQ}{lo hi:Int}{t u v:Tok}{tk:Nat}(I:Inv X pins Z H s)(h1:-(2 ^ 62)<=lo)(h2:lo < 2 ^ 62)(h3:-(2 ^ 62)<=hi)(h4:hi < 2 ^ 62)
  (q:R (Itr lo (hi - lo).toNat) H):ak (av X.prog X.w) X.A (fD (.ref s.heap.objs.size)) (PIE X pins Z tg R) E { s with heap:=s.heap.push { cls:=.type "range",data:=.fields #[.int lo t,.int hi u,.int 1 v] },toks:=tk }:=by
 refine wpAny_pyIter_range (IsRange.new ..) (small_one h1 h2 h3 h4) ?_;have I1:Inv X pins Z H { s with heap:=s.heap.push { cls:=.type "range",data:=.fields #[.int lo t,.int hi u,.int 1 v] },toks:=tk }:=I.kept λb o e=>aW _ e;refine PIE.one I1 (qdX _ lo (hi - lo).toNat) ?_ q
 .have e1:lo+((0:Nat):Int) * 1=lo:=by simp
  have e2:(((hi - lo).toNat:Nat):Int) - ((0:Nat):Int)=Builtin.Range.rangeSize lo hi 1:=by rw[rangeSize_one];split<;>lia
  show IsRangeIter _ _ (lo+((0:Nat):Int) * 1) ((((hi - lo).toNat:Nat):Int) - ((0:Nat):Int)) 1;rw[e1,e2];exact bz _ rfl
def qpi(ta:TA):TI:=λZ H R=>ta Z H λvs H1=>∃j:Int,vs=[.int j]/\-(2 ^ 62)<=j/\j < 2 ^ 62/\R (Itr 0 j.toNat) H1
theorem qeN{a:ag}{ta:TA}{p pos:Pos}(hg:Gl X "range")(hm:X.mg "range" = none)(ha:PA X [a] ta)(hs:aP [a] X.env=[(false,eval a X.env)]:=by rfl):PI X tg (.Call (.Name "range" p) [a] [] pos) (qpi ta):=by
 intro pins s Z H R I h;refine Call_ (Yw I hg hm boot_range (gz (thn (ha pos pins s Z H _ I h) λus s1 hz17=>?_) hs rfl));let(vs,H1,I1,r1,q1):=hz17;let(j,e,q1,q2,q):=q1;subst e
 cases r1 with
 |cons r rr=>cases rr;let(t,rfl):=r;exact call_range_1 (qg0 I1 (1:) (1:) q1 q2 (-q:))
def qq3(wi:TI)(g:TG)(tb:TS):TS:=λD Z H=>wi Z H λJ H1=>∃W:Nat->Nat->St->Hp->Prop,(∃m,W 0 m Z H1)/\∀i m Z H,W i m Z H->
 (J.stop i H/\D.nx Z H)\/(J.go i H/\∃N:St->Hp->Prop,(∀Z' H',N Z' H'->∃m',m' < m/\W (i+1) m' Z' H')/\∀x H',J.yld i H x H'->g x Z H' λZ2 H2=>tb { D with nx:=N,ct:=N,bk:=D.nx } Z2 H2)
def qaH(fp:List af)(h:aw):List (af×Obj):=fp.filterMap λb=>(h.get? b).map λo=>(b,o)
def QK{fp:List af}{h:aw}{b:af}{o:Obj}(hb:b∈fp)(e:h.get? b=some o):(b,o)∈qaH fp h:=List.mem_filterMap.mpr ⟨b,hb,by rw[e];rfl⟩
theorem qeO{fp:List af}{h:aw}{p:af×Obj}(hp:p∈qaH fp h):p.1∈fp/\h.get? p.1=some p.2:=by
 let(b,hb,e):=List.mem_filterMap.mp hp
 cases q:h.get? b with
 |none=>rw[q]at e;cases e
 |some o=>rw[q]at e;have e':(b,o)=p:=Option.some.inj e;subst e';exact⟨hb,q⟩
def Inv.pinned{pins:PP}{Z:St}{H:Hp}{s:ah}{fp:List af}(I:Inv X pins Z H s)(hf:∀b∈fp,qdV X pins H b)(ho:∀b∈fp,∃o,s.heap.get? b=some o/\∀v,o.data≠.cell v):Inv X (pins++qaH fp s.heap) Z H s:=
 I.pins_of λp hp=>(aV.mp hp).elim (λz=>I.pin p (bb _ z)) λz=>by let(hb,e):=qeO z;let(f0,f1,f2,_):=hf p.1 hb;let(o,e',d):=ho p.1 hb;rw[e]at e';cases e';exact⟨e,f0,f1,f2,d⟩
def Inv.unpinned{pins pl:PP}{Z:St}{H:Hp}{s:ah}(I:Inv X (pins++pl) Z H s):Inv X pins Z H s:=I.pins_of λp hp=>I.pin p (bb _ (bI _ hp))
def qlI{iter:ag}{body:List aI}{wi:TI}{g:TG}{tb:TS}{pos:Pos}(hp:lZ (av X.prog X.w) X.A X.env X.xe)(hc:X.calm=true)(hi:PI X tg iter wi)(hg:PG X tg g)(hb:PSs X body tb)
  (hs:∀x,kc iter X.env x=pure x:=by intro _;rfl):PS X (.For tg iter body [] pos) (qq3 wi g tb):=by
 intro pins s Z H D I h;refine wpAny_For (thn (hi pins s Z H _ I h) λv s1 h1=>thn h1 λitv s2 h2=>?_) hs;refine h2 (λitv=>cN _ _ (.forLoop tg itv body [] X.env) _ s2) λit fp tn J H2 I2 T st2 f2 h=>?_;let(W,(m0,w0),turn):=h;have stat:∀{H':Hp},(∀b∈fp,H' b=none)->∀b∈fp,qdV X pins H' b:=λhn b hb=>{hn b hb,(f2 b hb).2};refine codeAny_forLoop_any (λn s'=>∀G:Prop,(∀i Z' H',Inv X pins Z' H' s'->tn i s'.heap->(∀b∈fp,H' b=none)->W i n Z' H'->G)->G) (λn s3 hI=>hI _ λi Z3 H3 I3 st3 fr3 w3=>?_) m0 λ_ k=>k 0 Z H2 I2 st2 (λb hb=>(f2 b hb).1) w0;rcases turn i n Z3 H3 w3 with ⟨stop,qn⟩|⟨go,N,hN,step⟩
 .refine fC hp (thn (T.done X rfl rfl rfl hc i pins s3 Z3 H3 X.xe I3 (stat fr3) st3 stop) λr s4 hq1=>?_);rw[hq1.1];exact i9 ⟨Z3,H3,hq1.2,qn⟩
 .refine fC hp (thS (T.item X rfl rfl rfl hc i pins s3 Z3 H3 X.xe I3 (stat fr3) st3 go) λu s4 h4=>fC hp (th6 h4 λ_ s5 x H5 I5 r5 y5=>?_));refine fC hp (th4 (hg _ s5 Z3 H5 x u _ (I5.pinned (stat y5.2.2) (T.obj _ _ y5.2.1)) r5 (step x H5 y5.1)) λ_ s6 Z6 H6 I6 q6=>fC hp (thn (hb _ s6 Z6 H6 _ I6 q6) λf s7 q7=>?_))
  have again:∀{Z7:St} {H7:Hp},Inv X (pins++qaH fp s5.heap) Z7 H7 s7->N Z7 H7->∃m,m < n/\∀G:Prop,(∀i Z' H',Inv X pins Z' H' s7->tn i s7.heap->(∀b∈fp,H' b=none)->W i m Z' H'->G)->G:=λ{Z7 H7} I7 n7=>by let(m',hm,w7):=hN Z7 H7 n7;have pin:=λb hb o e=>I7.pin (b,o) (bb _ (bb _ (QK hb e)));refine{m',hm,λ_ k=>k (i+1) Z7 H7 I7.unpinned (T.keep _ _ _ y5.2.1 λb hb o e=>(pin b hb o e).1) (λb hb=>?_) w7};let(o,e,d):=T.obj _ _ y5.2.1 b hb;exact(pin b hb o e).2.1
  cases f with
  |next=>let(Z7,H7,I7,n7):=q7;exact again I7 n7
  |cont=>let(Z7,H7,I7,n7):=q7;exact again I7 n7
  |brk=>let(Z7,H7,I7,q7):=q7;exact⟨Z7,H7,I7.unpinned,q7⟩
  |ret v=>let(x7,Z7,H7,I7,r7,q7):=q7;exact⟨x7,Z7,H7,I7.unpinned,r7,q7⟩
end
abbrev R2:=V->V->Hp->VK->Prop
def OpR(X:Cx)(f:ae->ae->Sem ae)(r:R2):Prop:=
 ∀(pins:PP) (s:ah) (Z:St) (H:Hp) (x y:V) (v u:ae) (Q:VK),Inv X pins Z H s->qF x v->qF y u->r x y H Q->
  ak (av X.prog X.w) X.A (f v u) (EP X pins Z Q) X.xe s
def UnR(X:Cx)(f:ae->Sem ae)(r:V->Hp->VK->Prop):Prop:=
 ∀(pins:PP) (s:ah) (Z:St) (H:Hp) (x:V) (v:ae) (Q:VK),Inv X pins Z H s->qF x v->r x H Q->
  ak (av X.prog X.w) X.A (f v) (EP X pins Z Q) X.xe s
def zd(X:Cx)(f:ae)(r:List V->Hp->VK->Prop):Prop:=
 ∀(pins:PP) (s:ah) (Z:St) (H:Hp) (xs:List V) (us:List ae) (Q:VK),Inv X pins Z H s->qt xs us->r xs H Q->
  ak (av X.prog X.w) X.A (call f us) (EP X pins Z Q) X.xe s
def qq4(X:Cx)(r:V->Hp->(Bool->Hp->Prop)->Prop):Prop:=
 ∀(pins:PP) (s:ah) (Z:St) (H:Hp) (x:V) (v:ae) (Q:Bool->Hp->Prop),Inv X pins Z H s->qF x v->r x H Q->
  ak (av X.prog X.w) X.A (truthy v) (TP X pins Z Q) X.xe s
def tOp(r:R2)(ta tb:TE):TE:=λZ H Q=>ta Z H λx H1=>tb Z H1 λy H2=>r x y H2 Q
def tUn(r:V->Hp->VK->Prop)(ta:TE):TE:=λZ H Q=>ta Z H λx H1=>r x H1 Q
def rI(C:Int->Int->Prop)(g:Int->Int->V):R2:=λx y H Q=>∃i j,x=.int i/\y=.int j/\C i j/\Q (g i j) H
def rI0(g:Int->Int->V):R2:=λx y H Q=>∃i j,x=.int i/\y=.int j/\Q (g i j) H
def rU(g:Int->V):V->Hp->VK->Prop:=λx H Q=>∃i,x=.int i/\Q (g i) H
section
variable{X:Cx}{a b c:ag}{ta tb tc:TE}{pos:Pos}
def qpj(ha:PE X a ta)(hb:PE X b tb){pins:PP}{s:ah}{Z:St}{H:Hp}{R:V->V->Hp->Prop}(I:Inv X pins Z H s)
  (h:ta Z H λx H1=>tb Z H1 λy H2=>R x y H2) {Q:PQ} {f:ae->ae->Sem ae}
  (hf:∀v u s2 x y H2,Inv X pins Z H2 s2->qF x v->qF y u->R x y H2->ak (av X.prog X.w) X.A (f v u) Q X.xe s2) :
  ak (av X.prog X.w) X.A (eval a X.env) (λv s₁=>ak (av X.prog X.w) X.A (eval b X.env) (λu s₂=>ak (av X.prog X.w) X.A (f v u) Q X.xe s₂) X.xe s₁) X.xe s:=by
 refine th5 (ha pins s Z H _ I h) λv s1 x H1 I1 r1 q1=>?_;refine th5 (hb pins s1 Z H1 _ I1 q1) λu s2 y H2 I2 r2 q2=>?_;exact hf v u s2 x y H2 I2 r1 r2 q2
def qpk{op:cP}{r:R2}(ho:OpR X (cm op) r)(ha:PE X a ta)(hb:PE X b tb):PE X (.BinOp a op b pos) (tOp r ta tb):=by intro pins s Z H Q I h;exact wpAny_BinOp (qpj ha hb I h λv u s2 x y H2 I2 rx ry q=>ho pins s2 Z H2 x y v u Q I2 rx ry q)
def qpl{op:UnaryOp}{r:V->Hp->VK->Prop}(ho:UnR X (unaryOp op) r)(ha:PE X a ta):PE X (.UnaryOp op a pos) (tUn r ta):=by intro pins s Z H Q I h;refine UnaryOp_ (th5 (ha pins s Z H _ I h) λv s1 x H1 I1 r1 q1=>?_);exact ho pins s1 Z H1 x v Q I1 r1 q1
def opI{f:ae->ae->Sem ae}{C:Int->Int->Prop}{g:Int->Int->Int}
  (rule:∀(i j:Int) (t u:Tok) (s:ah) (Q:PQ) (E:PQ),C i j->Q (.int (g i j) s.toks) { s with toks:=s.toks+1 }->ak (av X.prog X.w) X.A (f (.int i t) (.int j u)) Q E s) :
  OpR X f (rI C λi j=>.int (g i j)):=by
 intro pins s Z H x y v u Q I rx ry h;let(i,j,rfl,rfl,hc,q):=h;let(t,rfl):=rx;let(t',rfl):=ry;exact rule i j t t' s _ _ hc ⟨.int (g i j),H,I.tok _,⟨_,rfl⟩,q⟩
def qqq{f:ae->ae->Sem ae}{g:Int->Int->Int}
  (rule:∀(i j:Int) (t u:Tok) (s:ah) (Q:PQ) (E:PQ),Q (.int (g i j) s.toks) { s with toks:=s.toks+1 }->ak (av X.prog X.w) X.A (f (.int i t) (.int j u)) Q E s) :
  OpR X f (rI0 λi j=>.int (g i j)):=by
 intro pins s Z H x y v u Q I rx ry h;let(i,j,rfl,rfl,q):=h;let(t,rfl):=rx;let(t',rfl):=ry;exact rule i j t t' s _ _ ⟨.int (g i j),H,I.tok _,⟨_,rfl⟩,q⟩
def qoS{f:ae->ae->Sem ae}{g:Int->Int->Bool}
  (rule:∀(i j:Int) (t u:Tok) (s:ah) (Q:PQ) (E:PQ),Q (.bool (g i j)) s->ak (av X.prog X.w) X.A (f (.int i t) (.int j u)) Q E s) :
  OpR X f (rI0 λi j=>.bl (g i j)):=by
 intro pins s Z H x y v u Q I rx ry h;let(i,j,rfl,rfl,q):=h;let(t,rfl):=rx;let(t',rfl):=ry;exact rule i j t t' s _ _ ⟨.bl (g i j),H,I,rfl,q⟩
def qpm(i j:Int):Prop:=j≠0/\j.natAbs < 1073741824
def qq5(i j:Int):Prop:=0<=j/\j<=1000000/\i.natAbs < 2 ^ 64
def qoT(i j:Int):Prop:=(-(2 ^ 64) < i/\i < 2 ^ 64)\/(-(2 ^ 64) < j/\j < 2 ^ 64)
def qoT.ok{i j:Int}(h:qoT i j):IntMulOk i j:=by
 rcases h with ⟨h1,h2⟩|⟨h1,h2⟩
 .exact .of_left (intBits_le_64 h1 h2)
 .exact .of_right (intBits_le_64 h1 h2)
def qlJ:OpR X (cm .Add) (rI0 λi j=>.int (i+j)):=qqq λz z z z z z z q=>add_int q
def qlK:OpR X (cm .Sub) (rI0 λi j=>.int (i - j)):=qqq λz z z z z z z q=>sub_int q
def qlL:OpR X (cm .Mult) (rI qoT λi j=>.int (i * j)):=opI λz z z z z z z hc q=>mul_int q hc.ok
def qg1:OpR X (cm .FloorDiv) (rI qpm λi j=>.int (i.fdiv j)):=opI λz z z z z z z hc q=>floordiv_int hc.1 q (.inl (PyProof.noPylong_small hc.2))
def qjA:OpR X (cm .Mod) (rI (λz j=>j≠0) λi j=>.int (i.fmod j)):=opI λz z z z z z z hc q=>mod_int' hc q
def qlM:OpR X (cm .Pow) (rI qq5 λi j=>.int (i ^ j.toNat)):=opI λz z z z z z z hc q=>pow_int_small hc.1 hc.2.1 hc.2.2 q
def unI{f:ae->Sem ae}{g:Int->Int}
  (rule:∀(i:Int) (t:Tok) (s:ah) (Q:PQ) (E:PQ),Q (.int (g i) s.toks) { s with toks:=s.toks+1 }->ak (av X.prog X.w) X.A (f (.int i t)) Q E s) :
  UnR X f (rU λi=>.int (g i)):=by
 intro pins s Z H x v Q I rx h;let(i,rfl,q):=h;let(t,rfl):=rx;exact rule i t s _ _ ⟨.int (g i),H,I.tok _,⟨_,rfl⟩,q⟩
def qlN:UnR X (unaryOp .USub) (rU λi=>.int (-i)):=unI λz z z z z q=>neg_int q
def qiJ{pins:PP}{Z:St}{H:Hp}{s:ah}{Q:VK}{k k':Bool}(I:Inv X pins Z H s)(q:Q (.bl k) H)(e:k=k'):EP X pins Z Q (.bool k') s:=by subst e;exact{.bl k,H,I,rfl,q}
def qpn:OpR X (bO .Lt) (rI0 λi j=>.bl (decide (i < j))):=qoS λz z z z z z z q=>lt_int q
def qpo:OpR X (bO .LtE) (rI0 λi j=>.bl (decide (i<=j))):=qoS λz z z z z z z q=>le_int q
def qpp:OpR X (bO .Gt) (rI0 λi j=>.bl (decide (j < i))):=qoS λz z z z z z z q=>gt_int q
def qpq:OpR X (bO .GtE) (rI0 λi j=>.bl (decide (j<=i))):=qoS λz z z z z z z q=>ge_int q
def qeP:OpR X (bO .In) (λx y H Q=>∃i j,x=.str i/\y=.str j/\Q (.bl (!(kx j i 0 j.length 1).isEmpty)) H):=by intro pins s Z H x y v u Q I rx ry h;let(i,j,rfl,rfl,q):=h;let(t,rfl):=rx;let(t',rfl):=ry;exact in_str (qiJ I q rfl)
def qaI:OpR X (bO .NotIn) (λx y H Q=>∃i j,x=.str i/\y=.str j/\Q (.bl (!(!(kx j i 0 j.length 1).isEmpty))) H):=by intro pins s Z H x y v u Q I rx ry h;let(i,j,rfl,rfl,q):=h;let(t,rfl):=rx;let(t',rfl):=ry;exact notIn_str (qiJ I q rfl)
def qjB{op:aY}{r:R2}(ho:OpR X (bO op) r)(ha:PE X a ta)(hb:PE X b tb)(hm:behindInMarks op b=false):PE X (.Compare a [op] [b] pos) (tOp r ta tb):=by intro pins s Z H Q I h;exact wpAny_Compare1 (qpj ha hb I h λv u s2 x y H2 I2 rx ry q=>ho pins s2 Z H2 x y v u Q I2 rx ry q) hm
def qlO(t:TE):TT:=λZ H Q=>t Z H λx H'=>∃k,x=.bl k/\Q k H'
def qjC{op:aY}{r:R2}(ho:OpR X (bO op) r)(ha:PE X a ta)(hb:PE X b tb)(hm:behindInMarks op b=false):PT X (.Compare a [op] [b] pos) (qlO (tOp r ta tb)):=by intro pins s Z H Q I h;refine wpAny_isTrue_Compare1 (thn (ha pins s Z H _ I h) λv s1 hz19=>?_) hm;let(x,H1,I1,r1,q1):=hz19;refine th5 (hb pins s1 Z H1 _ I1 q1) λu s2 y H2 I2 r2 q2=>?_;refine thn (ho pins s2 Z H2 x y v u _ I2 r1 r2 q2) λc s3 hz21=>?_;let(z,H3,I3,r3,k,e,q3):=hz21;subst e;cases r3;exact eS ⟨H3,I3,q3⟩
def qlP(r r':R2)(ta tb tc:TE):TE:=λZ H Q=>ta Z H λx H1=>tb Z H1 λy H2=>r x y H2 λz H3=>∃k,z=.bl k/\
 (if k=true then tc Z H3 λw' H4=>r' y w' H4 Q else Q (.bl false) H3)
theorem qg2{op op':aY}{r r':R2}(ho:OpR X (bO op) r)(ho':OpR X (bO op') r')(ha:PE X a ta)(hb:PE X b tb)(hc:PE X c tc)
  (hm:lastMarks [op,op'] [b,c]=false:=by with_unfolding_all rfl):PT X (.Compare a [op,op'] [b,c] pos) (qlO (qlP r r' ta tb tc)):=by
 intro pins s Z H Q I h;refine isTrue_chain (thn (ha pins s Z H _ I h) λv s1 hz25=>?_) hm;let(x,H1,I1,r1,q1):=hz25;refine test_link (th5 (hb pins s1 Z H1 _ I1 q1) λu s2 y H2 I2 r2 q2=>?_);refine thn (ho pins s2 Z H2 x y v u _ I2 r1 r2 q2) λd s3 hz27=>?_;let(z,H3,I3,r3,k,e,q3):=hz27;subst e;cases r3;refine eS ?_
 cases k with
 |false=>let(k',e',q'):=q3;cases e';exact ite_ff ⟨H3,I3,q'⟩
 |true=>refine ite_tt (test_last (thn (hc pins s3 Z H3 _ I3 q3) λw' s4 hz28=>?_));let(z',H4,I4,r4,q4):=hz28;refine thn (ho' pins s4 Z H4 y z' u w' _ I4 r2 r4 q4) λd' s5 hq1=>?_;let(z2,H5,I5,r5,k2,e2,q5):=hq1;subst e2;cases r5;exact eS ⟨H5,I5,q5⟩
def qoU(K:Frag)(x:V)(H:Hp)(k:Bool):Prop:=
 match x with
 |.non=>k=false
 |.bl b=>k=b
 |.int i=>k=(i != 0)
 |.str y=>y.length<=sizeLine/\k=((y.length:Int) != 0)
 |.byt y=>y.size<=sizeLine/\k=((y.size:Int) != 0)
 |.ref p=>(∃xs,SqL K H p xs/\k = !xs.isEmpty)\/(∃xs,SqT K H p xs/\k = !xs.isEmpty)\/∃kvs,H p=some (.dK kvs)/\k = !kvs.isEmpty
 |_=>False
def qdY{U:Type}{kvs:List (U×V)}{vs:List (U×ae)}(r:KV kvs vs):(!vs.isEmpty) = !kvs.isEmpty:=by cases r<;>rfl
def QL{xs:List V}{its:List ae}(r:qt xs its):(!its.toArray.isEmpty) = !xs.isEmpty:=by cases r<;>simp
def YA:(sizeLine:Nat) < 2 ^ 63:=by rw[sizeLine_eq];decide
theorem qlQ:qq4 X (λx H Q=>∃k,qoU X.K x H k/\Q k H):=by
 intro pins s Z H x v Q I rx h;let(k,e,q):=h;have hl:=YA;have hs:sizeLine=16777216:=sizeLine_eq
 cases x with
 |non=>cases rx;have e':k=false:=e;subst e';exact truthy_none ⟨H,I,q⟩
 |bl b=>cases rx;have e':k=b:=e;subst e';exact eS ⟨H,I,q⟩
 |int i=>let(t,rfl):=rx;have e':k=(i != 0):=e;subst e';exact PySem.P.truthy_int ⟨H,I,q⟩
 |str y=>let(t,rfl):=rx;let(hy,e'):y.length<=sizeLine/\k=((y.length:Int) != 0):=e;subst e';exact PySem.P.truthy_str (1:) ⟨H,I.tok _,q⟩
 |byt y=>let(t,rfl):=rx;let(hy,e'):y.size<=sizeLine/\k=((y.size:Int) != 0):=e;subst e';exact PySem.W.truthy_bytes (1:) ⟨H,I.tok _,q⟩
 |ref p=>
  cases rx;have e':(∃xs,SqL X.K H p xs/\k = !xs.isEmpty)\/(∃xs,SqT X.K H p xs/\k = !xs.isEmpty)\/∃kvs,H p=some (.dK kvs)/\k = !kvs.isEmpty:=e;rcases e' with ⟨xs,hx,e'⟩|⟨xs,hx,e'⟩|⟨kvs,hx,e'⟩
  .subst e';let(its,r,pl,hz):=I.list hx;have hlen:=r.length;exact wpAny_truthy_list pl.isList (by simp![br];lia) ⟨H,I.tok _,by rw[QL r];exact q⟩
  .subst e';let(its,r,pl,hz):=I.tuple hx;have hlen:=r.length;exact truthy_tuple pl (by simp![br];lia) ⟨H,I.tok _,by rw[QL r];exact q⟩
  .subst e';let(hz,hS,vs,r,m):kvs.length<=sizeLine/\(p == dI)=false/\∃vs,KV kvs vs/\s.heap.DictOf (qq X.prog X.w) p vs:=I.hok p _ hx;have hlen:kvs.length=vs.length:=Paired.length r;exact wpAny_truthy_dict hS m (1:) ⟨H,I.tok _,by rw[qdY r];exact q⟩
 |_=>exact(show False from e).elim
def qg3(ha:PE X a ta)(he:∀whole,isTrue a X.env whole=(do let v<-whole;ej a.pos;dg [v] (truthy v))) :
  PT X a (λZ H Q=>ta Z H λx H'=>∃k,qoU X.K x H' k/\Q k H'):=by
 intro pins s Z H Q I h;refine isTrue_plain (thn (ha pins s Z H _ I h) λv s1 hz29=>?_) (he _);let(x,H1,I1,r1,q1):=hz29;exact qlQ pins s1 Z H1 x v Q I1 r1 q1
def qdZ:OpR X (cm .Add) (λx y H Q=>∃i j,x=.str i/\y=.str j/\i.length+j.length<=sizeLine/\Q (.str (i++j)) H):=by intro pins s Z H x y v u Q I rx ry h;let(i,j,rfl,rfl,hz,q):=h;let(t,rfl):=rx;let(t',rfl):=ry;exact add_str (λt' tk=>{.str (i++j),H,I.tok _,{_,rfl},q}) hz
theorem yJ{x:V}{us:List ae}(r:qt [x] us):∃u,us=[u]/\qF x u:=by
 cases r with
 |cons r1 r2=>cases r2;exact{_,rfl,r1}
theorem qb3{x y:V}{us:List ae}(r:qt [x,y] us):∃u w',us=[u,w']/\qF x u/\qF y w':=by
 cases r with
 |cons r1 r2=>
  cases r2 with
  |cons r3 r4=>cases r4;exact{_,_,rfl,r1,r3}
def qeQ(hc:X.calm=true):zd X (.builtin "max") (λxs H Q=>∃i j,xs=[.int i,.int j]/\Q (.int (if j > i then j else i)) H):=by
 intro pins s Z H xs us Q I r h;let(i,j,rfl,q):=h;let(u,w',rfl,(t,rfl),(t',rfl)):=qb3 r;refine max_two_ints (I.ok.hd hc) λh' tk k=>{_,H,I.kept k,?_,q}
 by_cases hj:j > i
 .rw[if_pos hj,if_pos hj];exact{_,rfl}
 .rw[if_neg hj,if_neg hj];exact{_,rfl}
def qeR(hc:X.calm=true):zd X (.builtin "min") (λxs H Q=>∃i j,xs=[.int i,.int j]/\Q (.int (if j < i then j else i)) H):=by
 intro pins s Z H xs us Q I r h;let(i,j,rfl,q):=h;let(u,w',rfl,(t,rfl),(t',rfl)):=qb3 r;refine min_two_ints (I.ok.hd hc) λh' tk k=>{_,H,I.kept k,?_,q}
 by_cases hj:j < i
 .rw[if_pos hj,if_pos hj];exact{_,rfl}
 .rw[if_neg hj,if_neg hj];exact{_,rfl}
def qaJ:zd X (.type "int") (λxs H Q=>(∃i,xs=[.int i]/\Q (.int i) H)\/∃k,xs=[.bl k]/\Q (.int (if k then 1 else 0)) H):=by
 intro pins s Z H xs us Q I r h;rcases h with ⟨i,rfl,q⟩|⟨k,rfl,q⟩
 .let(u,rfl,t,rfl):=yJ r;exact call_int_int ⟨.int i,H,I,⟨_,rfl⟩,q⟩
 .let(u,rfl,r1):=yJ r;cases r1;exact call_int_bool ⟨.int (if k then 1 else 0),H,I.tok _,⟨_,rfl⟩,q⟩
end
structure ObjM(h:aw)(x dx C:af)(mA:PR):Prop where
 obj:h.get? x=some (eC C dx)
 ns:h.Ns1 dx mA
 ne:dx≠x
set_option tactic.hygienic true in
def qeS{h:aw}{dx:af}{mA:PR}(n:h.Ns1 dx mA):∃od,h.get? dx=some od/\∀name,hV name od=some (mA name):=by
 let(o,es,ep,ho,hd,hk,_,hm):=n;refine{o,ho,λname=>?_};have e:=hm name;unfold nsFind findBy at e;rw[<-Array.find?_toList]at e;unfold hV;rw[hd];dsimp only;split
 .rename_i y q;rw[q]at e;exact congrArg some e
 .rename_i q;rw[q]at e
  have a:es.toList.any (·.refKey)=false:=by rw[List.any_eq_false];intro y hy;let(z,t,hkey):=hk y (Array.mem_toList_iff.mp hy);simp[DictEntry.refKey,hkey]
  have a':¬ es.toList.any (·.refKey)=true:=by rw[a];exact d9
  rw[if_neg a'];exact congrArg some e
def ObjM.look{h:aw}{x dx C:af}{mA:PR}(I:ObjM h x dx C mA):∃od,PySem.W.InstAt h x (eC C dx) C (some od)/\∀name,hV name od=some (mA name):=
 let ⟨od,ho,hl⟩:=qeS I.ns
 ⟨od,⟨I.obj,rfl,rfl,ho⟩,hl⟩
section
variable{prog:aJ}{w:aC}{A:aN}{E:PQ}{s:ah}{K:Frag}{x dx C f:af}{mA:PR}{name:Str}{v:ae}
def qjD{expr:Bool}{Q:PQ}(X:K.In s.heap)(I:ObjM s.heap x dx C mA)(hg:hZ K C name=true)(hh:ky K C=true)
  (ha:dy K (.ref C) name=some none) (hv:mA name=some v) (hv':PySem.W.handedIn v=true) (h:Q v { s with toks:=s.toks+1 }) :
  ak (av prog w) A (getAttr (.ref x) name expr) Q E s:=by
 let(od,J,hl):=I.look;exact PySem.W.get_value X J (kE hg).1 (PySem.W.findObj_own hh ha rfl (by rw[hl,hv])) hv' h
def qg4{pl:Sem Bool}{Q:ae×List ae->ah->Prop}(X:K.In s.heap)(I:ObjM s.heap x dx C mA)(hg:hZ K C name=true)
  (hf:dy K (.ref C) name=some (some (.ref f))) (ht:kF K (.ref f)=true) (hv:mA name=none) (h:Q (.ref f,[.ref x]) s) :
  ak (av prog w) A (gh (.ref x) name pl) Q E s:=by
 let(od,J,hl):=I.look;exact PySem.W.method_fn X J (kE hg).1 (kE hg).2 hf (beq_iff_eq.mp ht) (by show(hV name od).map (·.isSome)=some false;rw[hl,hv];rfl) h
def qjE{ns:List Str}{Q:Unit->ah->Prop}(X:K.In s.heap)(I:ObjM s.heap x dx C mA)
  (hs:dy K (.ref C) "__setattr__" = some (some (.builtin "object.__setattr__"))) (hp:PySem.W.plainOver K C=true) (ht:kG K C name=some none) (hh:ky K C=true)
  (hw:kW mA ns) (hsz:ns.length<=sizeLine)
  (h:∀h',ObjM h' x dx C (λy=>if y=name then some v else mA y)->dP dx s.heap h'->Q () { s with heap:=h',toks:=s.toks+2 }) :
  ak (av prog w) A (setAttr (.ref x) name v) Q E s:=by
 let(od,J,hl):=I.look;refine PySem.W.set_plain X J hs (PySem.W.osa_open (s:={ s with toks:=s.toks+1 }) (r:=none) X J hp ht λb=>?_);let(cd,hc,hd'):=PySem.W.any_some hh;have hx:s.heap.get? x=some ⟨.ref C,some dx,.plain,#[]⟩:=I.obj;refine aj (aB (aj (aj (wpAny_loadPart hx (aj (PySem.W.Looks.here (s:={ s with toks:=s.toks+1 }) (PySem.W.looks_clsIn X hc) ?_))))));rw[hd'];refine aB (a:=some dx) (aj (aB (aj ?_)));refine wpAny_nsSet1 (s:={ s with toks:=s.toks+1 }) I.ns λh' hn2 hs2=>?_;let(oD,esD,epD,hoD,hdD,hcD):=hn2.count (PySem.Within.cons name v hw);refine aj (wpAny_lookBehind hoD (by rw[hdD];exact pastItsLine_dict (bQ hcD (by rw[aK];lia))) ?_);exact aB (h _ ⟨(hs2.2 _ (cy I.ne)).trans I.obj,hn2,I.ne⟩ hs2)
def qg5{R:Result->ah->Prop}{vs:List ae}{kw:List (Str×ae)}(X:K.In s.heap)(hm:PySem.W.makesIn K C=true)
  (hi:dy K (.ref C) "__init__" = some (some (.ref f))) (hf:PySem.W.typeIn K (.ref f)=some (.type "function"))
  (h:cN (av prog w) (A.under (.builtin "type.__call__" ⟨.ref C::vs,kw⟩)) (.call (.ref f) ⟨.ref (s.heap.objs.size+1)::vs,kw⟩) (PySem.W.InitBack (s.heap.objs.size+1) R)
   { s with heap:=(s.heap.push d7).push (eC C s.heap.objs.size) }) :
  cN (av prog w) A (.call (.ref C) ⟨vs,kw⟩) R s:=by
 let(hh,g,d,t,os):=s;exact PySem.W.make_core (PySem.W.makes_of X hm) (PySem.W.looks_findIn X hi) (λself=>PySem.W.bind_fn X self hf) (.inl rfl) h
end
def qbY(f:Str)(v:V):List (Str×V)->List (Str×V)
 |[]=>[(f,v)]
 | (g,x)::r=>if g=f then (g,v)::r else (g,x)::qbY f v r
theorem YB(f g:Str)(v:V):∀fs:List (Str×V),(qbY f v fs).lookup g=if g=f then some v else fs.lookup g
 |[]=>by
  show e6 g [(f,v)]=_
  by_cases h:g=f
  .have hb:(g == f)=true:=beq_iff_eq.mpr h;simp![e6,hb,if_pos h]
  .have hb:(g == f)=false:=beq_eq_false_iff_ne.mpr h;simp![e6,hb,if_neg h]
 | (k,x)::r=>by
  have ih:=YB f g v r;rw[show qbY f v ((k,x)::r)=(if k=f then (k,v)::r else (k,x)::qbY f v r) from rfl]
  by_cases hk:k=f
  .rw[if_pos hk]
   by_cases h:g=k
   .have hb:(g == k)=true:=beq_iff_eq.mpr h;simp![e6,hb,if_pos (h.trans hk)]
   .have hb:(g == k)=false:=beq_eq_false_iff_ne.mpr h;simp![e6,hb,if_neg (λe:g=f=>h (e.trans hk.symm))]
  .rw[if_neg hk]
   by_cases h:g=k
   .have hb:(g == k)=true:=beq_iff_eq.mpr h;simp![e6,hb,if_neg (λe:g=f=>hk (h.symm.trans e))]
   .have hb:(g == k)=false:=beq_eq_false_iff_ne.mpr h;simp![e6,hb];exact ih
theorem YC(f:Str)(v:V):∀fs:List (Str×V),f∈(qbY f v fs).map (·.1)/\∀g,g∈fs.map (·.1)->g∈(qbY f v fs).map (·.1)
 |[]=>{by simp[qbY],λg h=>by simp at h}
 | (k,x)::r=>by
  let(i1,i2):=YC f v r;rw[show qbY f v ((k,x)::r)=(if k=f then (k,v)::r else (k,x)::qbY f v r) from rfl]
  by_cases hk:k=f
  .rw[if_pos hk];subst hk;exact{by simp,λg h=>(-h:)}
  .rw[if_neg hk];refine{?_,λg h=>?_}
   .rw[au];exact bH _ i1
   .rw[au]at h ⊢;rcases aF.mp h with e|e
    .exact aF.mpr (.inl e)
    .exact bH _ (i2 g e)
theorem YD(f:Str)(v:V):∀fs:List (Str×V),(qbY f v fs).length<=fs.length+1
 |[]=>by simp[qbY]
 | (k,x)::r=>by
  have ih:=YD f v r;rw[show qbY f v ((k,x)::r)=(if k=f then (k,v)::r else (k,x)::qbY f v r) from rfl]
  by_cases hk:k=f
  .rw[if_pos hk,aK,aK];lia
  .rw[if_neg hk,aK,aK];lia
theorem qbX.some_of{v:V}{o:Option ae}(r:qbX (some v) o):∃u,o=some u/\qF v u:=by
 cases o with
 |none=>exact(show False from r).elim
 |some u=>exact⟨u,rfl,r⟩
theorem qbX.none_of{o:Option ae}(r:qbX none o):o=none:=by
 cases o with
 |none=>rfl
 |some u=>exact(show False from r).elim
theorem qeT{v:V}{u:ae}(r:qF v u):PySem.W.handedIn u=true:=by
 cases v with
 |non=>cases (show u=Value.none from r);rfl
 |bl b=>cases (show u=iq b from r);rfl
 |int i=>let(t,e):=(show∃t,u=Value.int i t from r);cases e;rfl
 |str x=>let(t,e):=(show∃t,u=Value.str x t from r);cases e;rfl
 |byt b=>let(t,e):=(show∃t,u=Value.bytes b t from r);cases e;rfl
 |flt b=>let(t,e):=(show∃t,u=Value.float b t from r);cases e;rfl
 |ref a=>cases (show u=bj a from r);rfl
 |ty n=>cases (show u=dD n from r);rfl
section
variable{P:aJ}{w:aC}{H H':Hp}{h h':aw}{a C dx:af}{fs fs':List (Str×V)}
def Zr(hok:HOk P w H h)(e:H a=some (.ins C dx fs)):∃mA,ObjM h a dx C mA/\(∀f,qbX (fs.lookup f) (mA f))/\kW mA (fs.map (·.1))/\fs.length<=1000/\H dx=some (.own a):=by let(d,z,ne,ob,mA,n,r,q):=(show qI P w H h a (.ins C dx fs) from hok a _ e);exact{mA,⟨ob,n,ne⟩,r,q,z,d}
end
structure Cls(K:Frag)(C:af):Prop where
 pg:hZ K C Str.empty=true
 hd:ky K C=true
 po:PySem.W.plainOver K C=true
 sa:dy K (.ref C) "__setattr__" = some (some (.builtin "object.__setattr__"))
def Cls.get{K:Frag}{C:af}(c:Cls K C)(f:Str):hZ K C f=true:=c.pg
def qY(K:Frag)(C:af)(f:Str):Prop:=dy K (.ref C) f=some none
def qY.taker{K:Frag}{C:af}{f:Str}(n:qY K C f):kG K C f=some none:=by unfold kG;rw[show dy K (.ref C) f=some none from n];rfl
structure Meth(K:Frag)(C:af)(m:Str)(f:af):Prop where
 at_:dy K (.ref C) m=some (some (.ref f))
 fn:kF K (.ref f)=true
 kp:dO K (.ref f)=true
section
variable{X:Cx}{pins:PP}{Z:St}{H:Hp}{s:ah}{a C dx:af}{fs:List (Str×V)}{f:Str}{v:V}{A:aN}{E:PQ}
def qd0{b:Bool}{Q:PQ}(I:Inv X pins Z H s)(e:H a=some (.ins C dx fs))(c:Cls X.K C)(n:qY X.K C f)(l:fs.lookup f=some v)
  (h:∀u s',Inv X pins Z H s'->qF v u->Q u s'):ak (av X.prog X.w) A (getAttr (.ref a) f b) Q E s:=by
 let(mA,O,r,_,_,_):=Zr I.hok e;let(u,hu,ru):=qbX.some_of (v:=v) (o:=mA f) (by rw[<-l];exact r f);exact qjD I.kIn O (c.get f) c.hd n hu (qeT ru) (h u _ (I.tok _) ru)
def QM{m:Str}{g:af}{pl:Sem Bool}{Q:ae×List ae->ah->Prop}(I:Inv X pins Z H s)(e:H a=some (.ins C dx fs))(c:Cls X.K C)(k:Meth X.K C m g)(l:fs.lookup m=none)
  (h:Q (.ref g,[.ref a]) s):ak (av X.prog X.w) A (gh (.ref a) m pl) Q E s:=by
 let(mA,O,r,_,_,_):=Zr I.hok e;have hn:mA m=none:=qbX.none_of (by rw[<-l];exact r m);exact qg4 I.kIn O (c.get m) k.at_ k.fn hn h
def qd1{y:V}{u:ae}{Q:Unit->ah->Prop}(I:Inv X pins Z H s)(e:H a=some (.ins C dx fs))(c:Cls X.K C)(n:qY X.K C f)(hl:fs.length < 1000)(ry:qF y u)
  (h:∀s',Inv X pins Z (upd H a (.ins C dx (qbY f y fs))) s'->Q () s'):ak (av X.prog X.w) A (setAttr (.ref a) f u) Q E s:=by
 let(mA,O,r,wi,_,ho):=Zr I.hok e;have hz:(fs.map (·.1)).length<=sizeLine:=by rw[aD,sizeLine_eq];lia
 refine qjE I.kIn O c.sa c.po n.taker c.hd wi hz λh' O' sb=>h _ ?_;have hd:∃o,h'.get? dx=some o:=let ⟨o,_,_,e',_⟩:=O'.ns;⟨o,e'⟩;refine I.write (x:=a) (e:=dx) (by rw[e];exact aO) (.inr ho) (λb q hb z=>(sb.2 b hb).trans z) hd ?_;refine{by rw[qd O.ne];exact ho,?_,O.ne,O'.obj,_,O'.ns,λg=>?_,λg hg=>?_}
 .have:=YD f y fs;lia
 .show qbX ((qbY f y fs).lookup g) (if g=f then some u else mA g);rw[YB]
  by_cases q:g=f
  .rw[if_pos q,if_pos q];exact ry
  .rw[if_neg q,if_neg q];exact r g
 .by_cases q:g=f
  .rw[q];exact(YC f y fs).1
  .refine(YC f y fs).2 g (wi g λz=>hg ?_);show(if g=f then some u else mA g)=none;rw[if_neg q];exact z
def Inv.made(I:Inv X pins Z H s):Inv X pins Z (upd (upd H s.heap.objs.size (.own (s.heap.objs.size+1))) (s.heap.objs.size+1) (.ins C s.heap.objs.size []))
  { s with heap:=(s.heap.push d7).push (eC C s.heap.objs.size) }:=by
 have e1:(s.heap.push d7).get? s.heap.objs.size=some d7:=bz s.heap rfl
 have e2:((s.heap.push d7).push (eC C s.heap.objs.size)).get? (s.heap.objs.size+1)=some (eC C s.heap.objs.size):=by
  have:=bz (s.heap.push d7) (o:=eC C s.heap.objs.size) rfl
  rwa[eF]at this
 have e3:(s.heap.push d7).Ns s.heap.objs.size (λz=>none):={d7,#[],_,e1,rfl,(λe he=>absurd he (5:)),λz=>rfl};have I1:=I.laid (a:=s.heap.objs.size) (o:=.own (s.heap.objs.size+1)) (h':=s.heap.push d7) (t':=s.toks) (λb u q=>aW _ q) (ay _) ⟨_,e1⟩;refine I1.laid (a:=s.heap.objs.size+1) (o:=.ins C s.heap.objs.size []) (t':=s.toks) (λb u q=>aW _ q) (e7 (eF _ _)) ?_;have ne:s.heap.objs.size≠s.heap.objs.size+1:=a9 (gA _);refine{by rw[qd ne,qe],aZ _,ne,e2,λz=>none,(Heap.Ns1.of_empty e3).at λo q=>aW _ q,λz=>aO,λy hy=>absurd rfl hy}
def qjF{prog:aJ}{w:aC}{env:Env}{e:ag}{f:Str}{pos:Pos}{s:ah}{Q:PQ}(hb:fE e f env (eval e env)=eval e env)
  (h:ak (av prog w) A (eval e env) (λo s₁=>ak (av prog w) A (getAttr o f true) Q E s₁) E s):ak (av prog w) A (eval (.Attribute e f pos) env) Q E s:=
 Attribute_any_ h (by rw[arm_eval_Attribute,hb])
end
def qq6(K:Frag)(ta:TE)(f:Str):TE:=λZ H Q=>ta Z H λx H1=>∃a C dx fs v,x=.ref a/\H1 a=some (.ins C dx fs)/\Cls K C/\qY K C f/\fs.lookup f=some v/\Q v H1
def qq7(K:Frag)(ta tv:TE)(f:Str):TS:=λD Z H=>tv Z H λy H1=>ta Z H1 λx H2=>∃a C dx fs,x=.ref a/\H2 a=some (.ins C dx fs)/\Cls K C/\qY K C f/\fs.length < 1000/\
 D.nx Z (upd H2 a (.ins C dx (qbY f y fs)))
section
variable{X:Cx}{o e value:ag}{f:Str}{pos pos' tpos:Pos}{ta tv:TE}
def qlR(he:PE X e ta)(hb:fE e f X.env (eval e X.env)=eval e X.env):PE X (.Attribute e f pos) (qq6 X.K ta f):=by intro pins s Z H Q I h;refine qjF hb (thn (he pins s Z H _ I h) λu s1 hq1=>?_);let(x,H1,I1,rx,a,C,dx,fs,v,ex,ea,c,n,l,q):=hq1;subst ex;obtain rfl:u=bj a:=rx;exact qd0 I1 ea c n l λu' s2 I2 ru=>⟨v,H1,I2,ru,q⟩
def qaK(ha:PE X o ta)(hv:PE X value tv)(hs:fu value (some (.Attribute o f pos')) pos.line X.env=pure false):PS X (.Assign [.Attribute o f pos'] value pos) (qq7 X.K ta tv f):=by intro pins s Z H D I h;refine plainObj_wpAny_Assign_Attribute (thn (hv pins s Z H _ I h) λu s1 hz30=>?_) hs;let(y,H1,I1,ry,q):=hz30;refine thn (ha pins s1 Z H1 _ I1 q) λov s2 hz31=>?_;let(x,H2,I2,rx,a,C,dx,fs,ex,ea,c,n,l,q2):=hz31;subst ex;obtain rfl:ov=bj a:=rx;exact qd1 I2 ea c n l ry λs3 I3=>{Z,_,I3,q2}
end
section
variable{X:Cx}{pins:PP}{Z:St}{H:Hp}{s:ah}{A:aN}{E:PQ}{Q:PQ}{c:ae}{b:Bool}
inductive TyOf(K:Frag)(H:Hp):V->ae->Prop where
 | non:TyOf K H .non (.type "NoneType")
 | bl (x:Bool):TyOf K H (.bl x) (.type "bool")
 | int (i:Int):TyOf K H (.int i) (.type "int")
 | str (x:Str):TyOf K H (.str x) (.type "str")
 | flt (x:UInt64):TyOf K H (.flt x) (.type "float")
 | lst {a:af} {xs:List V} (e:H a=some (.lst xs)):TyOf K H (.ref a) (.type "list")
 | frz {a:af} {o:Obj} {xs:List V} (e:H a=some (.frz o (.lst xs))):TyOf K H (.ref a) (.type "list")
 | tup {a:af} {xs:List V} (e:H a=some (.tup xs)):TyOf K H (.ref a) (.type "tuple")
 | dK {a:af} {kvs:List (Key×V)} (e:H a=some (.dK kvs)):TyOf K H (.ref a) (.type "dict")
 | dT {a:af} {kvs:List (List Key×V)} (e:H a=some (.dT kvs)):TyOf K H (.ref a) (.type "dict")
 | ins {a C dx:af} {fs:List (Str×V)} (e:H a=some (.ins C dx fs)) (cl:Cls K C) (ha:dy K (.ref C) "__class__" = some (some (.builtin "object.__class__")))
   (hn:kH K (.builtin "object.__class__") "__get__" = some (some (.builtin "getset_descriptor.__get__"))) (htk:kJ K (.builtin "object.__class__")=some true)
   (hm:PySem.W.mroIn K C (.type "object")=some true):TyOf K H (.ref a) (.ref C)
theorem qaL{x:V}{u t:ae}(I:Inv X pins Z H s)(rx:qF x u)(ty:TyOf X.K H x t)(e:dz X.K t c=some b)(h:∀tk,Q (.bool b) { s with toks:=tk }) :
  ak (av X.prog X.w) A (call (.builtin "isinstance") [u,c]) Q E s:=by
 cases ty with
 |non=>cases (show u=Value.none from rx);exact dC PySem.W.kitx_none I.kIn aO e (λz=>nomatch z) h
 |bl y=>cases (show u=iq y from rx);exact dC PySem.W.kitx_bool I.kIn aO e (λz=>nomatch z) h
 |int i=>let(t,q):=(show∃t,u=Value.int i t from rx);cases q;exact dC PySem.W.kitx_int I.kIn aO e (λz=>nomatch z) h
 |str y=>let(t,q):=(show∃t,u=Value.str y t from rx);cases q;exact dC PySem.W.kitx_str I.kIn aO e (λz=>nomatch z) h
 |flt y=>let(t,q):=(show∃t,u=Value.float y t from rx);cases q;exact dC PySem.W.kitx_float I.kIn aO e (λz=>nomatch z) h
 |@lst a xs ea=>
  cases (show u=bj a from rx)
  let(_,_,n,_,h1):=(show qI X.prog X.w H s.heap a (.lst xs) from I.hok a _ ea);exact dC PySem.W.kitx_list I.kIn ⟨_,h1,rfl⟩ e (λz=>nomatch z) h
 |@frz a ob xs ea=>
  cases (show u=bj a from rx)
  let(_,_,_,n,_,h1):=(show qI X.prog X.w H s.heap a (.frz ob (.lst xs)) from I.hok a _ ea);exact dC PySem.W.kitx_list I.kIn ⟨_,h1,rfl⟩ e (λz=>nomatch z) h
 |@tup a xs ea=>
  cases (show u=bj a from rx)
  let(_,_,_,p):=(show qI X.prog X.w H s.heap a (.tup xs) from I.hok a _ ea);let(o,h1,h2,_):=p;exact dC PySem.W.kitx_tuple I.kIn ⟨o,h1,h2⟩ e (λz=>nomatch z) h
 |@dK a kvs ea=>
  cases (show u=bj a from rx)
  let(_,_,vs,_,p):=(show qI X.prog X.w H s.heap a (.dK kvs) from I.hok a _ ea);let(o,es,ep,h1,h2,_):=p;exact dC PySem.W.kitx_dict I.kIn ⟨o,h1,h2.1⟩ e (λz=>nomatch z) h
 |@dT a kvs ea=>
  cases (show u=bj a from rx)
  let(_,_,xs,_,o,es,ep,h1,h2,_):=(show qI X.prog X.w H s.heap a (.dT kvs) from I.hok a _ ea);exact dC PySem.W.kitx_dict I.kIn ⟨o,h1,h2.1⟩ e (λz=>nomatch z) h
 |@ins a C dx fs ea cl ha hn htk hm=>
  cases (show u=bj a from rx)
  let(mA,O,_):=Zr I.hok ea;let(od,J,_):=O.look;exact dC (PySem.W.kitx_own (cl.get _) cl.hd ha hn htk hm) I.kIn J e (λz=>nomatch z) h
end
structure Room(k:Nat)(A:aN):Prop where
 hd:A.handled=none
 dp:A.depth+3 * k+5 < recursionLimit
 un:A.units+16 * k+200 < du
def Room.deeper{k:Nat}{A:aN}(r:Room (k+1) A)(env:Env):Room k (A.deeper env):=
 ⟨r.hd,by have:=r.dp;show A.depth+1+3 * k+5 < _;lia,by have:=r.un;show A.units+3+16 * k+200 < _;lia⟩
def qd2{A:aN}{C:af}{us:List ae}{kw:List (Str×ae)}:(A.under (.builtin "type.__call__" ⟨.ref C::us,kw⟩)).depth=A.depth+1:=by first|rfl|simp[k7,Code.weight,Code.isCreation,Code.isGuard,Code.isCaller,Code.frames,k8,guardIds]
def qd3{A:aN}{C:af}{us:List ae}{kw:List (Str×ae)}:(A.under (.builtin "type.__call__" ⟨.ref C::us,kw⟩)).units=A.units+1:=by first|rfl|simp[k7,Code.cUnits,Code.frames,k8]
def Room.make{k:Nat}{A:aN}(r:Room (k+1) A)(C:af)(us:List ae)(kw:List (Str×ae)):Room k (A.under (.builtin "type.__call__" ⟨.ref C::us,kw⟩)):=
 ⟨r.hd,by have:=r.dp;rw[qd2];lia,by have:=r.un;rw[qd3];lia⟩
def Room.depth{k:Nat}{A:aN}(r:Room k A):A.depth < recursionLimit:=by have:=r.dp;lia
def qlo:TA:=λz H Q=>Q [] H
def qg6(ta:TE)(tr:TA):TA:=λZ H Q=>ta Z H λx H1=>tr Z H1 λxs H2=>Q (x::xs) H2
section
variable{X:Cx}{e:ag}{es:List ag}{te:TE}{t:TA}{pos:Pos}
def qD:PA X [] qlo:=λz z z z H Q I h=>Calls.spliced_nil ⟨[],H,I,.nil,h⟩
def qk(ha:PE X e te)(hr:PA X es t)(hs:aP (e::es) X.env=(false,eval e X.env)::aP es X.env:=by rfl):PA X (e::es) (qg6 te t):=by intro pos pins s Z H Q I h;rw[hs];show ak _ _ (spliced ((false,eval e X.env)::bK pos (aP es X.env))) _ _ s;refine k9 (th5 (ha pins s Z H _ I h) λu s1 x H1 I1 r1 q1=>?_);refine th5 (hr pos pins s1 Z H1 _ I1 q1) λus s2 xs H2 I2 r2 q2=>?_;exact{x::xs,H2,I2,.cons r1 r2,q2}
def qq8(t:TA):TE:=λZ H Q=>t Z H λxs H1=>xs.length<=sizeLine/\∀p,H1 p=none->Q (.ref p) (upd H1 p (.tup xs))
def qq9(t:TA):TE:=λZ H Q=>t Z H λxs H1=>xs.length<=sizeLine/\∀p,H1 p=none->Q (.ref p) (upd H1 p (.lst xs))
def qlS{x1}(h:PA X es t):PE X (.Tuple es x1 pos) (qq8 t):=by intro pins s Z H Q I hq;refine wpAny_Tuple_spliced (thn (h pos pins s Z H _ I hq) λus s1 ⟨xs,H1,I1,r,z,q⟩=>{by rw[<-r.length];exact z,?_});have hf:H1 s1.heap.objs.size=none:=I1.hok.fresh (ay _);refine{.ref s1.heap.objs.size,upd H1 s1.heap.objs.size (.tup xs),I1.laid (t':=s1.toks) (λb u e=>aW _ e) (ay _) ?_,rfl,q _ hf};exact{z,us,r,{_,bz _ rfl,rfl,_,rfl}}
def qlT(h:PA X es t):PE X (.List es pos) (qq9 t):=by intro pins s Z H Q I hq;refine wpAny_List_spliced (thn (h pos pins s Z H _ I hq) λus s1 ⟨xs,H1,I1,r,z,q⟩=>{by rw[<-r.length];exact z,?_});have hf:H1 s1.heap.objs.size=none:=I1.hok.fresh (ay _);refine{.ref s1.heap.objs.size,upd H1 s1.heap.objs.size (.lst xs),I1.laid (t':=s1.toks) (λb u e=>aW _ e) (ay _) ?_,rfl,q _ hf};exact{z,us,0,r,bz _ rfl}
end
abbrev Sp:=List V->Hp->VK->XK->Prop
abbrev CXT:=List Env->Hp->ah->XK->ae->ah->Prop
structure Env0(P:aJ)(w:aC)(K:Frag)(mg:PR)(base:aw)(A:aN)(outer:List Env)(s:ah)(H:Hp):Prop where
 frames:A.frames=some outer
 mod:Mod K mg base
 bs:∀b o,base.get? b=some o->s.heap.get? b=some o/\H b=none
 bsz:base.objs.size<=s.heap.objs.size
 funs:s.heap.FunFrames base outer
 frf:∀b∈frs outer,H b=none
 hok:HOk P w H s.heap
 bare:ei s.gens
def CE(outer:List Env)(P:aJ)(w:aC)(H:Hp)(s:ah)(Q:VK)(u:ae)(s':ah):Prop:=
 ∃v H',s'.os=s.os/\ei s'.gens/\Un (frs outer) [] H H' s.heap s'.heap/\HOk P w H' s'.heap/\qF v u/\Q v H'
def CR(CX:CXT)(outer:List Env)(P:aJ)(w:aC)(H:Hp)(s:ah)(Q:VK)(E:XK)(r:Result)(s':ah):Prop:=
 match r with
 |.ok (.ret u)=>CE outer P w H s Q u s'
 |.ok z=>False
 |.error e=>CX outer H s E e s'
structure FnOk(P:aJ)(w:aC)(K:Frag)(mg:PR)(base:aw)(CX:CXT)(k:Nat)(f:af)(fd:bV)(ps:List Str)(sp:Sp):Prop where
 len:∀vs H Q E,sp vs H Q E->vs.length=ps.length
 run:∀(A:aN) (outer:List Env) (s:ah) (H:Hp) (args:Args) (us:List ae) (vs:List V) (Q:VK) (E:XK),Room k A->Env0 P w K mg base A outer s H->fF s fd args (ps.zip us)->qt vs us->sp vs H Q E->
  cN (av P w) A (.call (.ref f) args) (CR CX outer P w H s Q E) s
def Env0.make{P:aJ}{w:aC}{K:Frag}{mg:PR}{base:aw}{A:aN}{outer:List Env}{s:ah}{H:Hp}(e:Env0 P w K mg base A outer s H)(C:af)(us:List ae)(kw:List (Str×ae)) :
  Env0 P w K mg base (A.under (.builtin "type.__call__" ⟨.ref C::us,kw⟩)) outer s H:={by first|exact e.frames|(simpa [k7,Code.envs,k8,pushEnvs] using e.frames),e.mod,e.bs,e.bsz,e.funs,e.frf,e.hok,e.bare}
section
variable{X:Cx}{pins:PP}{Z:St}{H:Hp}{s s':ah}
def Inv.env0(I:Inv X pins Z H s):Env0 X.prog X.w X.K X.mg X.base X.A X.stack s H:=
 ⟨I.ok.frames,I.ok.mod,I.bs,bQ I.ok.bsz I.sz,I.stack,I.stkFree,I.hok,I.bare⟩
def Inv.after{Q:VK}{u:ae}(I:Inv X pins Z H s)(h:CE X.stack X.prog X.w H s Q u s'):EP X pins Z Q u s':=by let(v,H',os,bare,un,hok,r,q):=h;let(hh,g,d,t,os'):=s';obtain rfl:os'=s.os:=os;exact{v,H',I.call (h':=hh) (g':=g) (d':=d) (t':=t) (ch:=[]) un hok bare (λb z=>absurd z (5:)),r,q}
end
def qg7(sp:Sp)(dvs:List V)(E:XK)(t:TA):TE:=λZ H Q=>t Z H λvs H1=>sp (vs++dvs) H1 Q E
def qjG(C:af)(m:Str)(sp:Sp)(dvs:List V)(E:XK)(ta:TE)(t:TA):TE:=λZ H Q=>ta Z H λx H1=>∃a dx fs,x=.ref a/\H1 a=some (.ins C dx fs)/\fs.lookup m=none/\
 t Z H1 λvs H2=>sp (x::(vs++dvs)) H2 Q E
def qjH(C:af)(sp:Sp)(dvs:List V)(E:XK)(t:TA):TE:=λZ H Q=>t Z H λvs H1=>∀x dx,H1 x=none->H1 dx=none->dx≠x->
 sp (.ref x::(vs++dvs)) (upd (upd H1 dx (.own x)) x (.ins C dx [])) (λv H2=>v=.non/\Q (.ref x) H2) E
def zn(K:Frag)(fd:bV)(ps:List Str)(ds:List ae):Prop:=
 ∀(s:ah) (us:List ae),K.In s.heap->(us++ds).length=ps.length->fF s fd ⟨us,[]⟩ (ps.zip (us++ds))
def zn.all{K:Frag}{fd:bV}{ps:List Str}(h:∀us:List ae,us.length=ps.length->eT fd ⟨us,[]⟩=pure (ps.zip us)):zn K fd ps []:=λs us z hl=>by rw[b5]at hl ⊢;exact .of_eq (h us hl)
def jx(CX:CXT)(X:Cx)(E:XK):Prop:=∀(pins:PP) (Z:St) (H:Hp) (s:ah) (e:ae) (s':ah),Inv X pins Z H s->CX X.stack H s E e s'->X.xe e s'
section
variable{X:Cx}{CX:CXT}{k:Nat}{f C:af}{fd:bV}{ps:List Str}{sp:Sp}{dvs:List V}{ds:List ae}{E:XK}{x m:Str}{p pos apos:Pos}{e o:ag}{es:List ag}{ta:TE}{t:TA}
theorem qaM{pins:PP}{Z:St}{H:Hp}{s:ah}{Q:VK}{us:List ae}{vs:List V}(F:FnOk X.prog X.w X.K X.mg X.base CX k f fd ps sp)(hr:Room k X.A)(hb:zn X.K fd ps ds)(hd:qt dvs ds)(hx:jx CX X E)
  (I:Inv X pins Z H s) (r:qt vs us) (h:sp (vs++dvs) H Q E):ak (av X.prog X.w) X.A (call (.ref f) us) (EP X pins Z Q) X.xe s:=by
 have r2:qt (vs++dvs) (us++ds):=r.append hd;have hl:(us++ds).length=ps.length:=by rw[<-r2.length];exact F.len _ _ _ _ h
 refine wpAny_call (dW (F.run X.A X.stack s H ⟨us,[]⟩ (us++ds) (vs++dvs) Q E hr I.env0 (hb s us I.kIn hl) r2 h) λr s' hq=>?_)
 cases r with
 |error e=>exact hx pins Z H s e s' I hq
 |ok fl=>
  cases fl with
  |ret u=>exact I.after hq
  |next=>exact ax hq
  |brk=>exact ax hq
  |cont=>exact ax hq
def Jl(F:FnOk X.prog X.w X.K X.mg X.base CX k f fd ps sp)(hr:Room k X.A)(hg:Gl X x)(hm:X.mg x=some (.ref f))(hk:dO X.K (.ref f)=true)(hb:zn X.K fd ps ds)(hd:qt dvs ds)(hx:jx CX X E)
  (ha:PA X (e::es) t) (hdb:(x == ("__debug__" : Str))=false:=by decide) (he:aP (e::es) X.env=(false,eval e X.env)::aP es X.env:=by rfl) (hpl:(bK pos (aP es X.env)).any (·.1)=false:=by rfl) :
  PE X (.Call (.Name x p) (e::es) [] pos) (qg7 sp dvs E t):=by
 intro pins s Z H Q I h;refine gi (Jk I hg hm ?_ hdb);refine ie (h₀:=X.base) I.ok.mod.kin hk (thn (ha pos pins s Z H _ I h) λus s1 hz35=>?_) he hpl;let(vs,H1,I1,r,q):=hz35;refine{I1.kIn,?_};exact qaM F hr hb hd hx I1 r q
def qg8(F:FnOk X.prog X.w X.K X.mg X.base CX k f fd ps sp)(hr:Room k X.A)(hg:Gl X x)(hm:X.mg x=some (.ref f))(hk:dO X.K (.ref f)=true)(hb:zn X.K fd ps ds)(hd:qt dvs ds)(hx:jx CX X E)
  (hdb:(x == ("__debug__" : Str))=false:=by decide):PE X (.Call (.Name x p) [] [] pos) (qg7 sp dvs E qlo):=by
 intro pins s Z H Q I h;refine gi (Jk I hg hm ?_ hdb);exact kK I.kIn hk (qaM (us:=[]) F hr hb hd hx I .nil h)
def qjI{pl:Sem Bool}(he:PE X o ta)(c:Cls X.K C)(hm:Meth X.K C m f)(F:FnOk X.prog X.w X.K X.mg X.base CX k f fd ps sp)(hr:Room k X.A)(hb:zn X.K fd ps ds)(hd:qt dvs ds)(hx:jx CX X E)(ha:PA X (e::es) t)
  (hst:aP (e::es) X.env=(false,eval e X.env)::aP es X.env:=by rfl) (hpl:(bK pos (aP es X.env)).any (·.1)=false:=by rfl)
  (ht:eval (.Call (.Attribute o m apos) (e::es) [] pos) X.env=(do
   let ov<-eval o X.env
   ej apos.atName
   let (f,first)<-dg [ov] (gh ov m pl)
   callWith pos f first (bK pos (aP (e::es) X.env)) (dX pos (dY [] X.env))):=by rfl) :
  PE X (.Call (.Attribute o m apos) (e::es) [] pos) (qjG C m sp dvs E ta t):=by
 intro pins s Z H Q I h;refine ig (pl:=pl) (thn (he pins s Z H _ I h) λu s1 hz36=>?_) ht;let(x,H1,I1,rx,a,dx,fs,ex,ea,l,q):=hz36;subst ex;obtain rfl:u=bj a:=rx;refine QM I1 ea c hm l ?_;refine ie (first:=[.ref a]) (h₀:=X.base) I.ok.mod.kin hm.kp (thn (ha pos pins s1 Z H1 _ I1 q) λus s2 hz37=>?_) hst hpl;let(vs,H2,I2,r,q2):=hz37;refine{I2.kIn,?_};exact qaM (us:=.ref a::us) (vs:=.ref a::vs) F hr hb hd hx I2 (.cons rfl r) q2
def qg9{pl:Sem Bool}(he:PE X o ta)(c:Cls X.K C)(hm:Meth X.K C m f)(F:FnOk X.prog X.w X.K X.mg X.base CX k f fd ps sp)(hr:Room k X.A)(hb:zn X.K fd ps ds)(hd:qt dvs ds)(hx:jx CX X E)
  (ht:eval (.Call (.Attribute o m apos) [] [] pos) X.env=(do
   let ov<-eval o X.env
   ej apos.atName
   let (f,first)<-dg [ov] (gh ov m pl)
   callWith pos f first (bK pos (aP [] X.env)) (dX pos (dY [] X.env))):=by rfl) :
  PE X (.Call (.Attribute o m apos) [] [] pos) (qjG C m sp dvs E ta qlo):=by
 intro pins s Z H Q I h;refine ig (pl:=pl) (thn (he pins s Z H _ I h) λu s1 hz38=>?_) ht;let(x,H1,I1,rx,a,dx,fs,ex,ea,l,q):=hz38;subst ex;obtain rfl:u=bj a:=rx;refine QM I1 ea c hm l ?_;exact kK (first:=[.ref a]) I1.kIn hm.kp (qaM (us:=[.ref a]) (vs:=[.ref a]) F hr hb hd hx I1 %[rfl|0] q)
structure Mk(K:Frag)(C f:af):Prop where
 makes:PySem.W.makesIn K C=true
 init:dy K (.ref C) "__init__" = some (some (.ref f))
 fn:kF K (.ref f)=true
 kp:dO K (.ref C)=true
theorem qcQ{pins:PP}{Z:St}{H:Hp}{s:ah}{Q:VK}{us:List ae}{vs:List V}(M:Mk X.K C f)(F:FnOk X.prog X.w X.K X.mg X.base CX k f fd ps sp)(hr:Room (k+1) X.A)(hb:zn X.K fd ps ds)(hd:qt dvs ds)
  (hx:jx CX X E) (I:Inv X pins Z H s) (r:qt vs us)
  (h:∀x dx,H x=none->H dx=none->dx≠x->sp (.ref x::(vs++dvs)) (upd (upd H dx (.own x)) x (.ins C dx [])) (λv H2=>v=.non/\Q (.ref x) H2) E) :
  ak (av X.prog X.w) X.A (call (.ref C) us) (EP X pins Z Q) X.xe s:=by
 have hq:=h (s.heap.objs.size+1) s.heap.objs.size (I.hok.fresh (eG _)) (I.hok.fresh (ay _)) (a9 (gA _));have I2:=Inv.made (C:=C) I;have r2:qt (V.ref (s.heap.objs.size+1)::(vs++dvs)) (bj (s.heap.objs.size+1)::(us++ds)):=.cons rfl (r.append hd)
 have hl:(bj (s.heap.objs.size+1)::us++ds).length=ps.length:=by have e:=r2.length;rw[F.len _ _ _ _ hq]at e;exact e.symm
 refine wpAny_call (qg5 (f:=f) I.kIn M.makes M.init (beq_iff_eq.mp M.fn) (dW (F.run _ X.stack _ _ ⟨bj (s.heap.objs.size+1)::us,[]⟩ (bj (s.heap.objs.size+1)::(us++ds)) _ _ E (hr.make C us [])
  (I2.env0.make C us []) (hb _ (bj (s.heap.objs.size+1)::us) I2.kIn hl) r2 hq) λr s' hq'=>?_))
 cases r with
 |error e=>exact hx pins Z _ _ e s' I2 hq'
 |ok fl=>
  cases fl with
  |ret u=>let(v,H',I3,rv,ev,q3):=I2.after hq';subst ev;exact{rv,{V.ref (s.heap.objs.size+1),H',I3,rfl,q3}}
  |next=>exact ax hq'
  |brk=>exact ax hq'
  |cont=>exact ax hq'
def qjJ(M:Mk X.K C f)(F:FnOk X.prog X.w X.K X.mg X.base CX k f fd ps sp)(hr:Room (k+1) X.A)(hg:Gl X x)(hm:X.mg x=some (.ref C))(hb:zn X.K fd ps ds)(hd:qt dvs ds)(hx:jx CX X E)
  (ha:PA X (e::es) t) (hdb:(x == ("__debug__" : Str))=false:=by decide) (he:aP (e::es) X.env=(false,eval e X.env)::aP es X.env:=by rfl) (hpl:(bK pos (aP es X.env)).any (·.1)=false:=by rfl) :
  PE X (.Call (.Name x p) (e::es) [] pos) (qjH C sp dvs E t):=by
 intro pins s Z H Q I h;refine gi (Jk I hg hm ?_ hdb);refine ie (h₀:=X.base) I.ok.mod.kin M.kp (thn (ha pos pins s Z H _ I h) λus s1 hz39=>?_) he hpl;let(vs,H1,I1,r,q):=hz39;refine{I1.kIn,?_};exact qcQ M F hr hb hd hx I1 r q
def qha(M:Mk X.K C f)(F:FnOk X.prog X.w X.K X.mg X.base CX k f fd ps sp)(hr:Room (k+1) X.A)(hg:Gl X x)(hm:X.mg x=some (.ref C))(hb:zn X.K fd ps ds)(hd:qt dvs ds)(hx:jx CX X E)
  (hdb:(x == ("__debug__" : Str))=false:=by decide):PE X (.Call (.Name x p) [] [] pos) (qjH C sp dvs E qlo):=by
 intro pins s Z H Q I h;refine gi (Jk I hg hm ?_ hdb);exact kK I.kIn M.kp (qcQ (us:=[]) M F hr hb hd hx I .nil h)
end
structure FnScope(N P:List Str)(sc:bw):Prop where
 kind:sc.kind=.function
 co:sc.isCoroutine=false
 gen:sc.isGenerator=false
 nd:N.Nodup
 pre:N.take P.length=P
 par:∀x∈P,sc.names.lookup x=some .local\/sc.names.lookup x=some .cell
 nofree:∀y∈sc.names,y.2≠.free
theorem qaN{kindOf:Str->Option cH}{x:Str}:∀{binds:List (Str×ae)} {m:PR},(∀v,(x,v)∉binds)->bindL kindOf binds m x=m x
 |[],z,y=>rfl
 | (n,v)::r,m,h=>by
  unfold bindL;rw[qaN λw hw=>h w (bH _ hw)];split
  .have:x≠n:=by rintro rfl;exact h v bX
   simp[this]
  .rfl
theorem qaO{kindOf:Str->Option cH}{x:Str}:∀{binds:List (Str×ae)} {m:PR},(∀v,(x,v)∉binds)->bindC kindOf binds m x=m x
 |[],z,y=>rfl
 | (n,v)::r,m,h=>by
  unfold bindC;rw[qaO λw hw=>h w (bH _ hw)];split
  .rfl
  .have:x≠n:=by rintro rfl;exact h v bX
   simp[this]
theorem qaP{kindOf:Str->Option cH}{x:Str}{v:ae}:∀{P:List Str} {vs:List ae} {i:Nat} {m:PR},P.Nodup->P[i]?=some x->vs[i]?=some v->kindOf x=some .local->
  bindL kindOf (P.zip vs) m x=some v
 |[],z,y,u,t,h,s,r=>by simp at h
 | z::y,[],u,t,s,r,h,q=>by simp at h
 | p::P,w::vs,0,m,nd,h1,h2,hk=>by simp at h1 h2;subst h1;subst h2;show bindL kindOf ((p,w)::P.zip vs) m p=_;unfold bindL;rw[qaN λv hv=>(fL.mp nd).1 (ir hv).1,if_pos hk];simp
 | p::P,w::vs,i+1,m,nd,h1,h2,hk=>by show bindL kindOf ((p,w)::P.zip vs) m x=_;unfold bindL;exact qaP (i:=i) (fL.mp nd).2 (-h1:) (-h2:) hk
theorem qaQ{kindOf:Str->Option cH}{x:Str}{v:ae}:∀{P:List Str} {vs:List ae} {i:Nat} {m:PR},P.Nodup->P[i]?=some x->vs[i]?=some v->kindOf x≠some .local->
  bindC kindOf (P.zip vs) m x=some v
 |[],z,y,u,t,h,s,r=>by simp at h
 | z::y,[],u,t,s,r,h,q=>by simp at h
 | p::P,w::vs,0,m,nd,h1,h2,hk=>by simp at h1 h2;subst h1;subst h2;show bindC kindOf ((p,w)::P.zip vs) m p=_;unfold bindC;rw[qaO λv hv=>(fL.mp nd).1 (ir hv).1,if_neg hk];simp
 | p::P,w::vs,i+1,m,nd,h1,h2,hk=>by show bindC kindOf ((p,w)::P.zip vs) m x=_;unfold bindC;exact qaQ (i:=i) (fL.mp nd).2 (-h1:) (-h2:) hk
def JS(N:List Str)(vs:List V):St:=vs.map some++bT (N.length - vs.length) none
def qhb(CX:CXT)(P:aJ)(w:aC)(K:Frag)(mg:PR)(base:aw)(N:List Str)(qual:Str)(scope:bw)(f:af)(cd:ae)(A:aN)(outer:List Env)(s:ah)(H:Hp)(E:XK):Cx where
 prog:=P
 w:=w
 K:=K
 mg:=mg
 base:=base
 A:=A.deeper (dJ qual scope s.heap.objs.size f cd)
 N:=N
 s₀:=s
 Hv:=H
 env:=dJ qual scope s.heap.objs.size f cd
 outer:=outer
 stack:=dJ qual scope s.heap.objs.size f cd::outer
 ex:=[]
 calm:=true
 fn:=λz=>true
 pn:=[]
 xe:=λe s'=>ak (av P w) (A.deeper (dJ qual scope s.heap.objs.size f cd)) (leaving (dJ qual scope s.heap.objs.size f cd) e) (λz s''=>CX outer H s E e s'') (λe' s''=>CX outer H s E e' s'') s'
def qcR{sc:bw}{n:Nat}{x:Str}(h:sc.names.lookup x=some .cell):∃c,(cellsFrom n sc.names []).lookup x=some c:=by have q:=mC sc.names n [] (.inl h);exact Option.isSome_iff_exists.mp q
def qeU{CX:CXT}{P:aJ}{w:aC}{K:Frag}{mg:PR}{base:aw}{N ps:List Str}{qual:Str}{scope:bw}{f:af}{cd:ae}{A:aN}{outer:List Env}{s s1:ah}{H:Hp}{E:XK}{us:List ae}{vs:List V}
  (S:FnScope N ps scope) (hd:A.handled=none) (e0:Env0 P w K mg base A outer s H) (hl:vs.length=ps.length) (r:qt vs us)
  (x:InCallC s s.heap.objs.size (bindL (dJ qual scope s.heap.objs.size f cd).kindOf (ps.zip us) λt=>none) (cellsFrom (s.heap.objs.size+1) scope.names []) (bindC (dJ qual scope s.heap.objs.size f cd).kindOf (ps.zip us) λt=>none) s1) :
  Inv (qhb CX P w K mg base N qual scope f cd A outer s H E) [] (JS N vs) H s1:=by
 have hpl:ps.length<=N.length:=by have:=congrArg List.length S.pre;rw[gB]at this;lia
 let(h1,tk,rfl,hk):=x.done;have noA:∀b:af,b∉(qhb CX P w K mg base N qual scope f cd A outer s H E).ex:=λb z=>absurd (show b∈([]:List af) from z) (5:)
 refine{{e0.mod,S.kind,rfl,rfl,ay _,λy z c h1 h2=>?_,λy hy=>?_,λy c t h=>?_,λt=>hd,Around.frames_deeper e0.frames,.inr ⟨rfl,rfl⟩,λb z=>absurd z (noA b),e0.bs,e0.bsz,λb t t=>noA b,λb z=>absurd z (noA b),e0.funs,e0.frf},
  rfl,e0.bare,Un.kept hk,{_,x.toInCall.ns,λi y v h1 h2 h3=>?_},λy c h=>{_,x.cell y c h},e0.hok.fresh (ay _),λy c h=>?_,λp hp=>absurd (show p∈([]:PP) from hp) (5:),e0.hok.kept hk,?_}
 .exact name_of_addr x.apart (dk h1) (dk h2)
 .have hy:scope.names.lookup y=some .cell\/scope.names.lookup y=some .free:=hy;rcases hy with hy|hy
  .exact qcR hy
  .exact absurd rfl (S.nofree _ (dk hy))
 .exact Nat.le_of_lt (x.above y c (dk h))
 .have hi:i < vs.length:=by
   unfold JS at h2
   by_cases hi:i < vs.length
   .exact hi
   .rw[c5 (-hi:)]at h2;rw[List.getElem?_replicate]at h2
    split at h2<;>cases h2
  have ha:vs[i]?=some v:=by
   unfold JS at h2;rw[dF (-hi:),bu]at h2
   cases e:vs[i]? with
   |none=>rw[e]at h2;cases h2
   |some a=>rw[e]at h2;cases h2;rfl
  let(u,hu,rv):=r.get ha
  have hp:ps[i]?=some y:=by rw[<-S.pre,mY (1:)];exact h1
  have ndP:ps.Nodup:=by rw[<-S.pre];exact S.nd.sublist (eI _ _)
  refine{u,rv,?_};rcases S.par y (ed hp) with k|k
  .exact .inl ⟨k,qaP ndP hp hu k⟩
  .let(c,e):=qcR (n:=s.heap.objs.size+1) k;refine .inr ⟨.inl k,c,e,?_⟩;have q:=x.cell y c e;rw[qaQ ndP hp hu (by show scope.names.lookup y≠_;rw[k];decide)]at q;exact q
 .exact e0.hok.fresh (Nat.le_of_lt (x.above y c (dk h)))
 .unfold JS;show _=N.length;rw[aT,aD,lh]
  lia
theorem qlU{CX:CXT}{P:aJ}{w:aC}{K:Frag}{mg:PR}{base:aw}{k:Nat}{f:af}{name qual:Str}{params:Arguments}{body:List aI}{scope:bw}{dV kV doc pm cdv ct oc:ae}{an od:Option af}
  {osl:Array (Option ae)} {N ps:List Str} {sp:Sp} (lk:K.lookup f=some ⟨oc,od,.func (cY name qual params body scope dV kV doc pm an cdv ct),osl⟩) (hcd:ij K cdv qual=true) (S:FnScope N ps scope)
  (len:∀vs H Q E,sp vs H Q E->vs.length=ps.length)
  (hbody:∀(A:aN) (outer:List Env) (s:ah) (H:Hp) (vs:List V) (Q:VK) (E:XK),Room k (A.deeper (dJ qual scope s.heap.objs.size f cdv))->sp vs H Q E->
   ∃t,PSs (qhb CX P w K mg base N qual scope f cdv A outer s H E) body t/\t { nx:=λ_ H'=>Q .non H',rt:=Q } (JS N vs) H) :
  FnOk P w K mg base CX (k+1) f (cY name qual params body scope dV kV doc pm an cdv ct) ps sp:=by
 refine{len,λA outer s H args us vs Q E hr e0 hb r hsp=>?_};have hl:=len _ _ _ _ hsp;have KX:K.In s.heap:=e0.mod.kin.keeps λb o e=>(e0.bs b o e).1;have lim:s.heap.NoLimit:=e0.mod.nolimit.keeps λb o e=>(e0.bs b o e).1
 have hkind:∀y∈ps.zip us,scope.names.lookup y.1=some .local\/(scope.names.lookup y.1=some .cell/\((cellsFrom (s.heap.objs.size+1) scope.names []).lookup y.1).isSome=true):=λ⟨n,v⟩ hy=>by
  rcases S.par n (ir hy).1 with q|q
  .exact .inl q
  .exact .inr ⟨q,mC _ _ _ (.inl q)⟩
 refine codeAny_call_function hr.depth (KX _ _ lk) rfl S.co S.gen rfl (PySem.W.codeRec_of KX hcd) (hb _ _ _ _ ?_);refine wpAny_newFunctionEnv_cells S.kind hkind λenv he s1 x=>?_;subst he;refine{lim.keeps x.toInCall.keep,codeAny_func ?_};let(t,ht,hq):=hbody A outer s H vs Q E (hr.deeper _) hsp;have I:Inv (qhb CX P w K mg base N qual scope f cdv A outer s H E) [] (JS N vs) H s1:=qeU S hr.hd e0 hl r x;refine dQ (ht [] s1 (JS N vs) H _ I hq) (λfl s' hs=>?_) λe s' hs=>hs
 have fin:∀{Z':St} {H':Hp} {v:V} {u:ae},Inv (qhb CX P w K mg base N qual scope f cdv A outer s H E) [] Z' H' s'->qF v u->Q v H'->CE outer P w H s Q u s':=
  λ{Z' H' v u} J rv q=>⟨v,H',J.os,J.bare,J.base,J.hok,rv,q⟩
 cases fl with
 |ret u=>let(v,Z',H',J,rv,q):=hs;exact fin J rv q
 |next=>let(Z',H',J,q):=hs;exact fin (v:=V.non) (u:=Value.none) J rfl q
 |brk=>let(_,_,_,q):=hs;exact ax q
 |cont=>let(_,_,_,q):=hs;exact ax q
section
variable{X:Cx}{x:Str}{p pos:Pos}{e:ag}{es:List ag}{t:TA}{id T:String}{r:List V->Hp->VK->Prop}
def tCB(r:List V->Hp->VK->Prop)(t:TA):TE:=λZ H Q=>t Z H λvs H1=>r vs H1 Q
def zo(hc:zd X (.builtin id) r)(hg:Gl X x)(hm:X.mg x=none)(hv:gf x=some (.builtin id))(ha:PA X (e::es) t)(hn:x≠"__name__":=by decide)(hdb:(x == ("__debug__" : Str))=false:=by decide)
  (he:aP (e::es) X.env=(false,eval e X.env)::aP es X.env:=by rfl) (hpl:(bK pos (aP es X.env)).any (·.1)=false:=by rfl):PE X (.Call (.Name x p) (e::es) [] pos) (tCB r t):=by
 intro pins s Z H Q I h;refine gi (Yw I hg hm hv ?_ hn hdb);refine PyProof.Rows.callWith_builtin1 (thn (ha pos pins s Z H _ I h) λus s1 hz44=>?_) he hpl;let(vs,H1,I1,r1,q1):=hz44;exact hc pins s1 Z H1 vs us Q I1 r1 q1
def zr(hc:zd X (.type T) r)(hg:Gl X x)(hm:X.mg x=none)(hv:gf x=some (.type T))(ha:PA X (e::es) t)(hn:x≠"__name__":=by decide)(hdb:(x == ("__debug__" : Str))=false:=by decide)
  (he:aP (e::es) X.env=(false,eval e X.env)::aP es X.env:=by rfl) (hpl:(bK pos (aP es X.env)).any (·.1)=false:=by rfl):PE X (.Call (.Name x p) (e::es) [] pos) (tCB r t):=by
 intro pins s Z H Q I h;refine gi (Yw I hg hm hv ?_ hn hdb);refine gz (thn (ha pos pins s Z H _ I h) λus s1 hz45=>?_) he hpl;let(vs,H1,I1,r1,q1):=hz45;exact hc pins s1 Z H1 vs us Q I1 r1 q1
end
end L2
namespace HT
open PySem PyProof.Rows
section
variable{prog:aJ}{w:aC}{A:aN}{E:PQ}{s:ah}
def sIx(n d:Nat):Option Int->Nat
 |none=>d
 |some v=>if v < 0 then (v+(n:Int)).toNat else min v.toNat n
def Zs(n d:Nat):sIx n d none=d:=rfl
def YE(n d k:Nat):sIx n d (some (k:Int))=min k n:=by show(if (k:Int) < 0 then ((k:Int)+(n:Int)).toNat else min (k:Int).toNat n)=min k n;rw[if_neg (1:),eJ]
end
end HT
namespace L2
open PySem PySem.Spec PyProof.Rows
abbrev TO:=St->Hp->(Option Int->Hp->Prop)->Prop
def PO(X:Cx)(e:Option ag)(t:TO):Prop:=
 ∀(pins:PP) (s:ah) (Z:St) (H:Hp) (Q:Option Int->Hp->Prop),Inv X pins Z H s->t Z H Q->
  ak (av X.prog X.w) X.A (evalPart e X.env) (λu s'=>∃o H',Inv X pins Z H' s'/\IsPart u o/\Q o H') X.xe s
def qjK:TO:=λz H Q=>Q none H
def qpr(t:TE):TO:=λZ H Q=>t Z H λx H1=>∃i,x=.int i/\Q (some i) H1
section
variable{X:Cx}{e:ag}{te:TE}{lo hi:Option ag}{tl th:TO}{pos p2:Pos}
def qjL:PO X none qjK:=by intro pins s Z H Q I h;rw[evalPart_none];exact aB ⟨none,H,I,.none,h⟩
def qjM(h:PE X e te):PO X (some e) (qpr te):=by intro pins s Z H Q I hw;rw[evalPart_some];refine th5 (h pins s Z H _ I hw) λu s1 x H1 I1 r1 q1=>?_;let(i,rfl,q):=q1;let(t,rfl):=r1;exact{some i,H1,I1,.int i t,q}
def SlR(X:Cx)(r:V->Option Int->Option Int->Hp->VK->Prop):Prop:=
 ∀(pins:PP) (s:ah) (Z:St) (H:Hp) (x:V) (v vl vu:ae) (lo hi:Option Int) (sl:af) (Q:VK),Inv X pins Z H s->qF x v->s.heap.IsSliceOf sl vl vu .none->IsPart vl lo->IsPart vu hi->r x lo hi H Q->
  ∃T id,typeLookup (.type T) "__getitem__" = pure (some (.builtin id))/\s.TypeIs v T/\ak (av X.prog X.w) X.A (getItem v (.ref sl)) (EP X pins Z Q) X.xe s
def tSl(r:V->Option Int->Option Int->Hp->VK->Prop)(te:TE)(tl th:TO):TE:=λZ H Q=>te Z H λx H1=>tl Z H1 λl H2=>th Z H2 λu H3=>r x l u H3 Q
def qhc{r:V->Option Int->Option Int->Hp->VK->Prop}(hr:SlR X r)(he:PE X e te)(hl:PO X lo tl)(hu:PO X hi th):PE X (.Subscript e (.Slice lo hi none p2) pos) (tSl r te tl th):=by intro pins s Z H Q I h;refine Subscript_ (th5 (he pins s Z H _ I h) λv s1 x H1 I1 r1 q1=>?_);refine wpAny_Slice (th5 (hl pins s1 Z H1 _ I1 q1) λvl s2 l H2 I2 pl q2=>?_);refine th5 (hu pins s2 Z H2 _ I2 q2) λvu s3 u H3 I3 pu q3=>?_;rw[evalPart_none];refine aB ?_;have I4:Inv X pins Z H3 { s3 with heap:=s3.heap.push { cls:=.type "slice",data:=.fields #[vl,vu,.none] } }:=I3.kept (t':=s3.toks) λb ob q=>aW _ q;let(T,id,hT,ht,hg):=hr pins { s3 with heap:=s3.heap.push { cls:=.type "slice",data:=.fields #[vl,vu,.none] } } Z H3 x v vl vu l u s3.heap.objs.size Q I4 r1 (Heap.IsSliceOf.new ..) pl pu q3;show ak (av X.prog X.w) X.A (l7 e (.Slice lo hi none p2) v (.ref s3.heap.objs.size)) (EP X pins Z Q) X.xe { s3 with heap:=s3.heap.push { cls:=.type "slice",data:=.fields #[vl,vu,.none] } };exact tail_any (ops:=[.ref s3.heap.objs.size,v]) ht hT hg (by with_unfolding_all rfl)
def qlp(xs:List V)(lo hi:Option Int):List V:=(xs.drop (HT.sIx xs.length 0 lo)).take (HT.sIx xs.length xs.length hi - HT.sIx xs.length 0 lo)
def qb4(xs:List V)(lo hi:Option Int):(qlp xs lo hi).length<=xs.length:=by
 unfold qlp;rw[gB,lq]
 lia
end
def ixN(n:Nat)(i:Int):Option Nat:=if 0<=i then (if i < n then some i.toNat else none) else if -(n:Int)<=i then some (i+n).toNat else none
def atI{α:Type}(xs:List α)(i:Int):Option α:=(ixN xs.length i).bind λj=>xs[j]?
def qeV{n:Nat}{i:Int}{j:Nat}(h:ixN n i=some j):seqIndex? i n=some j/\j < n/\-(n:Int)<=i/\i < n:=by
 unfold ixN at h
 by_cases h0:0<=i
 .rw[if_pos h0]at h
  by_cases h1:i < n
  .rw[if_pos h1]at h;have e:i.toNat=j:=Option.some.inj h;exact{by rw[seqIndex_of h0 h1,e],by lia,by lia,h1}
  .rw[if_neg h1]at h;cases h
 .rw[if_neg h0]at h
  by_cases h1:-(n:Int)<=i
  .rw[if_pos h1]at h;have e:(i+n).toNat=j:=Option.some.inj h;exact{by rw[l8 (1:) h1,e],by lia,h1,by lia}
  .rw[if_neg h1]at h;cases h
theorem qb5{α:Type}{xs:List α}{i:Int}{v:α}(h:atI xs i=some v):∃j,seqIndex? i xs.length=some j/\xs[j]?=some v/\j < xs.length/\-(xs.length:Int)<=i/\i < xs.length:=by
 unfold atI at h
 cases e:ixN xs.length i with
 |none=>rw[e]at h;cases h
 |some j=>rw[e]at h;let(h1,h2,h3,h4):=qeV e;exact⟨j,h1,h,h2,h3,h4⟩
def yw{α:Type}{xs:List α}{j:Nat}{v:α}(h:xs[j]?=some v):atI xs (j:Int)=some v:=by
 have hj:j < xs.length:=(bE.mp h).1
 have e:ixN xs.length (j:Int)=some j:=by unfold ixN;rw[if_pos (1:),if_pos (1:)];simp
 unfold atI;rw[e];exact h
def qhd{α:Type}(xs:List α)(v:α):atI (xs++[v]) (-1)=some v:=by
 have hl:(xs++[v]).length=xs.length+1:=by simp
 have e:ixN (xs++[v]).length (-1)=some xs.length:=by
  unfold ixN;rw[hl,if_neg (2:),if_pos (1:)]
  congr 1
  lia
 unfold atI;rw[e];show(xs++[v])[xs.length]?=some v;simp
def qeW(b:ag):Prop:=∀o i,subscripted b false o i=operate [o,i] (getItem o i)
def IxR(X:Cx)(r:R2):Prop:=
 ∀(value slice:ag) (pins:PP) (s:ah) (Z:St) (H:Hp) (x y:V) (v u:ae) (Q:VK),Inv X pins Z H s->qF x v->qF y u->r x y H Q->
  subscripted slice false v u=operate [v,u] (getItem v u)->ak (av X.prog X.w) X.A (l7 value slice v u) (EP X pins Z Q) X.xe s
def MtR(X:Cx)(id:String)(r:V->List V->Hp->VK->Prop):Prop:=
 ∀(pins:PP) (s:ah) (Z:St) (H:Hp) (x:V) (xs:List V) (v:ae) (us:List ae) (Q:VK),Inv X pins Z H s->qF x v->qt xs us->r x xs H Q->
  ak (av X.prog X.w) X.A (call (.builtin id) (v::us)) (EP X pins Z Q) X.xe s
section
variable{X:Cx}{a b:ag}{ta tb:TE}{pos:Pos}
def qlV{r:R2}(hr:IxR X r)(ha:PE X a ta)(hb:PE X b tb)(hs:qeW b):PE X (.Subscript a b pos) (tOp r ta tb):=by intro pins s Z H Q I h;exact Subscript_ (qpj ha hb I h λv u s2 x y H2 I2 rx ry q=>hr a b pins s2 Z H2 x y v u Q I2 rx ry q (hs _ _))
def qra(K:Frag):R2:=λx y H Q=>∃p xs i v,x=.ref p/\y=.int i/\SqL K H p xs/\atI xs i=some v/\Q v H
def qrb(K:Frag):R2:=λx y H Q=>∃p xs i v,x=.ref p/\y=.int i/\SqT K H p xs/\atI xs i=some v/\Q v H
def qrc:R2:=λx y H Q=>∃z i c,x=.str z/\y=.int i/\z.length<=sizeLine/\atI z.cps.toList i=some c/\Q (.str ⟨#[c]⟩) H
def qjN:IxR X (qra X.K):=by
 intro value slice pins s Z H x y v u Q I rx ry h hs;let(p,xs,i,z,rfl,rfl,hq,he,q):=h;cases rx;let(t,rfl):=ry;let(its,r,pl,hz):=I.list hq;let(j,h1,h2,h3,h4,h5):=qb5 he;let(w,ew,rw'):=r.get h2;have hl:=r.length;have hn:=YA;have fin:EP X pins Z Q w s:=⟨z,H,I,rw',q⟩
 by_cases h0:0<=i
 .have hj:i.toNat=j:=by
   rw[seqIndex_of h0 h5]at h1;exact Option.some.inj h1
  exact item_listR pl.isList h0 (1:) (by rw[hj];simpa using ew) fin hs
 .have hj:(i+(its.toArray.size:Int)).toNat=j:=by
   rw[l8 (1:) h4]at h1;rw[br,<-hl];exact Option.some.inj h1
  exact nL (x:=w) pl.isList.typeIs l9.lookup
   (wpAny_getItem_list_neg (Q:=λr s'=>r=w/\EP X pins Z Q r s') pl.isList (1:) (by rw[br]<;>lia) (1:) (by rw[hj];simpa using ew) ⟨rfl,fin⟩) hs
def qiK:IxR X (qrb X.K):=by
 intro value slice pins s Z H x y v u Q I rx ry h hs;let(p,xs,i,z,rfl,rfl,hq,he,q):=h;cases rx;let(t,rfl):=ry;let(its,r,pl,hz):=I.tuple hq;let(j,h1,h2,h3,h4,h5):=qb5 he;let(w,ew,rw'):=r.get h2;have hl:=r.length;have hn:=YA;have fin:EP X pins Z Q w s:=⟨z,H,I,rw',q⟩
 exact nL (x:=w) pl.typeIs slot_tuple_getitem.lookup
  (getItem_tuple (j:=j) (Q:=λr s'=>r=w/\EP X pins Z Q r s') pl (1:) (1:) (by rw[br,<-hl];exact h1) (-ew:) ⟨rfl,fin⟩) hs
def qlW:IxR X qrc:=by
 intro value slice pins s Z H x y v u Q I rx ry h hs;let(z,i,c,rfl,rfl,hz,he,q):=h;let(t,rfl):=rx;let(t',rfl):=ry;let(j,h1,h2,h3,h4,h5):=qb5 he;have hl:z.cps.toList.length=z.length:=by simp[Str.length]
 rw[hl]at h1 h4 h5;have hn:=YA
 exact tail_any (typeIs_str s z t) slot_str_getitem.lookup (getItem_str (c:=c) (by have e1:decide (i < -(2 ^ 63:Int))=false:=decide_eq_false (1:);have e2:decide (i≥2 ^ 63)=false:=decide_eq_false (1:);rw[e1,e2,lr]) (by rw[h1];simpa using h2) ⟨.str ⟨#[c]⟩,H,I.tok _,⟨_,rfl⟩,q⟩) hs
def qd4(its:List ae)(n j:Nat)(u:ae):cz (·.setIfInBounds j u) { cls:=.type "list",data:=.seq its.toArray n }={ cls:=.type "list",data:=.seq (its.set j u).toArray n }:=by simp[cz]
def Inv.lst{pins:PP}{Z:St}{H:Hp}{s:ah}{p:af}{xs:List V}(I:Inv X pins Z H s)(h:H p=some (.lst xs)) :
  ∃(its:List ae) (n:Nat),qt xs its/\s.heap.get? p=some { cls:=.type "list",data:=.seq its.toArray n }/\xs.length<=sizeLine:=by
 let(z,its,n,r,e):=I.hok p _ h;exact⟨its,n,r,e,z⟩
def Inv.lstUpd{pins:PP}{Z:St}{H:Hp}{s:ah}{p:af}{xs ys:List V}{its its':List ae}{n n':Nat}{f:Obj->Obj}(I:Inv X pins Z H s)(h:H p=some (.lst xs))
  (ho:s.heap.get? p=some { cls:=.type "list",data:=.seq its.toArray n }) (hf:f { cls:=.type "list",data:=.seq its.toArray n }={ cls:=.type "list",data:=.seq its'.toArray n' }) (r:qt ys its') (hz:ys.length<=sizeLine) (t:Nat) :
  Inv X pins Z (upd H p (.lst ys)) { s with heap:=s.heap.update p f,toks:=t }:=by
 have e:(s.heap.update p f).get? p=some { cls:=.type "list",data:=.seq its'.toArray n' }:=by rw[iu f ho (by rw[hf]<;>rfl),hf]
 refine I.write (x:=p) (e:=p) (by rw[h];trivial) (.inl rfl) (λb u hb q=>(iy _ _ (cy hb)).trans q) ⟨_,e⟩ ?_;exact⟨hz,its',n',r,e⟩
def qps:V->V->V->Hp->(Hp->Prop)->Prop:=λo i v H Q=>∃p xs k j,o=.ref p/\i=.int k/\H p=some (.lst xs)/\ixN xs.length k=some j/\Q (upd H p (.lst (xs.set j v)))
def qhe:qqp X qps:=by
 intro pins s Z H o i v ov iv u Q I ro ri rv h;let(p,xs,k,j,rfl,rfl,hp,hj,q):=h;cases ro;let(t,rfl):=ri;let(its,n,r,ho,hz):=I.lst hp;let(h1,h2,h3,h4):=qeV hj;have hl:=r.length;have hn:=YA
 have I':Inv X pins Z (upd H p (.lst (xs.set j v))) { s with heap:=s.heap.update p (cz (·.setIfInBounds j u)) }:=
  I.lstUpd hp ho (qd4 its n j u) (r.set rv j) (by rw[e8];exact hz) s.toks
 by_cases h0:0<=k
 .have hk:k.toNat=j:=by
   rw[seqIndex_of h0 h4]at h1;exact Option.some.inj h1
  exact PySem.W.ki_setAt ho h0 (1:) (by rw[br,<-hl];exact h4) (by rw[hk];exact{_,I',q})
 .have hk:(k+(its.toArray.size:Int)).toNat=j:=by
   rw[l8 (1:) h3]at h1;rw[br,<-hl];exact Option.some.inj h1
  exact PySem.W.ki_setBack ho (1:) (by rw[br,<-hl];exact h3) (1:) (by rw[hk];exact{_,I',q})
def qaR(lo hi:Option Int)(n:Nat):(b4 lo hi none n).1=((HT.sIx n 0 lo:Nat):Int)/\(b4 lo hi none n).2.1=((HT.sIx n n hi:Nat):Int)/\(b4 lo hi none n).2.2=1:=by
 refine{?_,?_,rfl}
 .cases lo with
  |none=>simp[b4,HT.sIx]
  |some i=>
   simp![b4,HT.sIx,Option.getD_none,show(1:Int) > 0 by decide,if_true]
   by_cases h:i < 0
   .simp![h,if_true]<;>lia
   .simp![h,if_false]<;>lia
 .cases hi with
  |none=>simp[b4,HT.sIx]
  |some i=>
   simp![b4,HT.sIx,Option.getD_none,show(1:Int) > 0 by decide,if_true]
   by_cases h:i < 0
   .simp![h,if_true]<;>lia
   .simp![h,if_false]<;>lia
def Zt(its:List ae)(lo hi:Option Int):gj its.toArray lo hi none=((its.drop (HT.sIx its.length 0 lo)).take (HT.sIx its.length its.length hi - HT.sIx its.length 0 lo)).toArray:=by let(h1,h2,h3):=qaR lo hi its.toArray.size;unfold gj;rw[h1,h2,h3];simp![sliceRange_one,pick_run,br]<;>rfl
def qrd(K:Frag):V->Option Int->Option Int->Hp->VK->Prop:=λx lo hi H Q=>∃a xs,x=.ref a/\SqL K H a xs/\∀p,H p=none->Q (.ref p) (upd H p (.lst (qlp xs lo hi)))
def qjO:SlR X (qrd X.K):=by intro pins s Z H x v vl vu lo hi sl Q I rx hs pl pu h;let(a,xs,rfl,hx,q):=h;cases rx;let(its,r,ht,hz):=I.list hx;have hlen:=r.length;refine{"list",_,l9.lookup,ht.isList.typeIs,?_};refine nM ht.isList hs pl pu .none (5:) ?_ (by rw[br]<;>lia);rw[Zt,<-hlen];refine{.ref s.heap.objs.size,_,I.laid (t':=s.toks) (o:=.lst (qlp xs lo hi)) (λb ob q=>aW _ q) (ay _) ?_,rfl,q _ (I.hok.fresh (ay _))};exact{bQ (qb4 xs lo hi) hz,_,0,(r.drop (HT.sIx xs.length 0 lo)).take (HT.sIx xs.length xs.length hi - HT.sIx xs.length 0 lo),bz _ rfl}
def YF:V->Bool
 |.non=>true
 |.bl z=>true
 |.int z=>true
 |.str z=>true
 |_=>false
def eqV:V->V->Bool
 |.non,.non=>true
 |.bl a,.bl b=>a == b
 |.bl a,.int b=>(if a then 1 else 0) == b
 |.int a,.bl b=>a == (if b then 1 else 0)
 |.int a,.int b=>a == b
 |.str a,.str b=>a == b
 |z,y=>false
theorem qlX{A:aN}{s:ah}{y x:V}{u v:ae}(ry:qF y u)(rx:qF x v)(fy:YF y=true)(fx:YF x=true):mV A s u v (eqV y x):=by
 cases y with
 |non=>
  cases ry
  cases x with
  |non=>cases rx;exact SeqAt.EqAt.same _
  |bl b=>cases rx;exact SeqAt.EqAt.none_bool b
  |int b=>let(t,rfl):=rx;exact SeqAt.EqAt.none_int b t
  |str b=>let(t,rfl):=rx;exact SeqAt.EqAt.none_str b t
  |_=>exact absurd (show false=true from fx) d9
 |bl a=>
  cases ry
  cases x with
  |non=>cases rx;exact SeqAt.EqAt.bool_none a
  |bl b=>cases rx;exact SeqAt.EqAt.bool_bool a b
  |int b=>let(t,rfl):=rx;exact SeqAt.EqAt.bool_int a b t
  |str b=>let(t,rfl):=rx;exact SeqAt.EqAt.bool_str a b t
  |_=>exact absurd (show false=true from fx) d9
 |int a=>
  let(t',rfl):=ry
  cases x with
  |non=>cases rx;exact SeqAt.EqAt.int_none a t'
  |bl b=>cases rx;exact SeqAt.EqAt.int_bool a t' b
  |int b=>let(t,rfl):=rx;exact SeqAt.EqAt.int_int a t' b t
  |str b=>let(t,rfl):=rx;exact SeqAt.EqAt.int_str a t' b t
  |_=>exact absurd (show false=true from fx) d9
 |str a=>
  let(t',rfl):=ry
  cases x with
  |non=>cases rx;exact SeqAt.EqAt.str_none a t'
  |bl b=>cases rx;exact SeqAt.EqAt.str_bool a t' b
  |int b=>let(t,rfl):=rx;exact SeqAt.EqAt.str_int a t' b t
  |str b=>let(t,rfl):=rx;exact SeqAt.EqAt.str_str a t' b t
  |_=>exact absurd (show false=true from fx) d9
 |_=>exact absurd (show false=true from fy) d9
def eqU(x:V)(u:ae):Bool:=match u with
 |.none=>eqV .non x
 |.bool b=>eqV (.bl b) x
 |.int i y=>eqV (.int i) x
 |.str z y=>eqV (.str z) x
 |_=>false
theorem qiL{x y:V}{u:ae}(r:qF y u)(f:YF y=true):eqU x u=eqV y x:=by
 cases y with
 |non=>cases r;rfl
 |bl b=>cases r;rfl
 |int i=>let(t,rfl):=r;rfl
 |str z=>let(t,rfl):=r;rfl
 |_=>exact absurd (show false=true from f) d9
theorem YG{x:V}:∀{xs:List V} {us:List ae},qt xs us->xs.all YF=true->us.any (eqU x)=xs.any λy=>eqV y x
 |_,_,.nil,_=>rfl
 | y::xs,u::us,.cons r t,f=>by rw[fN,aM]at f;rw[c8,c8,qiL r f.1,YG t f.2]
theorem Ye{A:aN}{s:ah}{x:V}{v:ae}(rx:qF x v)(fx:YF x=true){xs:List V}{us:List ae}(h:qt xs us)(f:xs.all YF=true):∀u∈us,mV A s u v (eqU x u):=by
 induction h with
 |nil=>intro u hu;cases hu
 |cons r t ih=>
  intro u' hu;rw[fN,aM]at f;rcases aF.mp hu with rfl|hu
  .rw[qiL r f.1];exact qlX r rx f.1 fx
  .exact ih f.2 u' hu
def inV(x:V)(xs:List V):Bool:=xs.any λy=>eqV y x
def rIn(K:Frag)(neg:Bool):R2:=λx y H Q=>∃p xs,y=.ref p/\(SqL K H p xs\/SqT K H p xs)/\YF x=true/\xs.all YF=true/\Q (.bl (if neg then !inV x xs else inV x xs)) H
def qeX:OpR X (bO .In) (rIn X.K false):=by
 intro pins s Z H x y v u Q I rx ry h;let(p,xs,rfl,hq,fx,fs,q):=h;cases ry;rcases hq with hq|hq
 .let(its,r,pl,hz):=I.list hq;refine SeqAt.in_listAt (eqU x) pl.isList (λw hw=>Ye rx fx r fs w (-hw:)) ⟨.bl _,H,I,rfl,?_⟩;rw[show its.toArray.any (eqU x)=its.any (eqU x) by simp,YG r fs];exact q
 .let(its,r,pl,hz):=I.tuple hq;refine SeqAt.in_tupleAt (eqU x) pl (λw hw=>Ye rx fx r fs w (-hw:)) ⟨.bl _,H,I,rfl,?_⟩;rw[show its.toArray.any (eqU x)=its.any (eqU x) by simp,YG r fs];exact q
def qaS:OpR X (bO .NotIn) (rIn X.K true):=by
 intro pins s Z H x y v u Q I rx ry h;let(p,xs,rfl,hq,fx,fs,q):=h;cases ry;rcases hq with hq|hq
 .let(its,r,pl,hz):=I.list hq;refine SeqAt.notIn_listAt (eqU x) pl.isList (λw hw=>Ye rx fx r fs w (-hw:)) ⟨.bl _,H,I,rfl,?_⟩;rw[show its.toArray.any (eqU x)=its.any (eqU x) by simp,YG r fs];exact q
 .let(its,r,pl,hz):=I.tuple hq;refine SeqAt.notIn_tupleAt (eqU x) pl (λw hw=>Ye rx fx r fs w (-hw:)) ⟨.bl _,H,I,rfl,?_⟩;rw[show its.toArray.any (eqU x)=its.any (eqU x) by simp,YG r fs];exact q
def JB:zd X (.builtin "len") (λxs H Q=>∃p ys,xs=[.ref p]/\(SqL X.K H p ys\/SqT X.K H p ys)/\Q (.int ys.length) H):=by
 intro pins s Z H xs us Q I r h;let(p,ys,rfl,hq,q):=h;let(u,rfl,rx):=yJ r;cases rx;have hn:=YA;rcases hq with hq|hq
 .let(its,r',pl,hz):=I.list hq;have hlen:=r'.length;exact Calls.call_len_list pl.isList (by simp![br]<;>lia) ⟨.int ys.length,H,I.tok _,⟨s.toks+1,by rw[br,hlen]⟩,q⟩
 .let(its,r',pl,hz):=I.tuple hq;have hlen:=r'.length;exact len_tuple pl (by simp![br]<;>lia) ⟨.int ys.length,H,I.tok _,⟨s.toks+1,by rw[br,hlen]⟩,q⟩
def qaT:zd X (.builtin "len") (λxs H Q=>∃z,xs=[.str z]/\z.length<=sizeLine/\Q (.int z.length) H):=by intro pins s Z H xs us Q I r h;let(z,rfl,hz,q):=h;let(u,rfl,t,rfl):=yJ r;have hn:=YA;exact len_str (1:) ⟨.int z.length,H,I.tok _,⟨_,rfl⟩,q⟩
def jL:zd X (.type "list") (λxs H Q=>∃p ys,xs=[.ref p]/\(SqL X.K H p ys\/SqT X.K H p ys)/\∀l,H l=none->Q (.ref l) (upd H l (.lst ys))):=by
 intro pins s Z H xs us Q I r h;let(p,ys,rfl,hq,q):=h;let(u,rfl,rx):=yJ r;cases rx
 have fin:∀(its:List ae),qt ys its->ys.length<=sizeLine->∀(h':aw) (c':Nat),(∀b o',s.heap.get? b=some o'->h'.get? b=some o')->
   h'.get? s.heap.objs.size=some { cls:=.type "list",dict:=none,data:=.seq its.toArray c',slots:=#[] }->EP X pins Z Q (.ref s.heap.objs.size) { s with heap:=h' }:=λits r' hz h' c' kp e=>
  ⟨.ref s.heap.objs.size,_,I.laid (t':=s.toks) kp (ay _) (show qI X.prog X.w _ h' _ (.lst ys) from⟨hz,its,c',r',e⟩),rfl,q _ (I.hok.fresh (ay _))⟩
 rcases hq with hq|hq
 .let(its,r',pl,hz):=I.list hq;have hlen:=r'.length;let(o,ho,hc,n,hd):=pl.isList;exact call_list_seq p (.inl rfl) ho hc hd (λh' c' kp e=>fin its r' hz h' c' kp e) (by simp![br]<;>lia)
 .let(its,r',pl,hz):=I.tuple hq;have hlen:=r'.length;let(o,ho,hc,n,hd):=pl;exact call_list_seq p (.inr rfl) ho hc hd (λh' c' kp e=>fin its r' hz h' c' kp e) (by simp![br]<;>lia)
def Zu:zd X (.type "tuple") (λxs H Q=>∃p ys,xs=[.ref p]/\((SqL X.K H p ys/\∀l,H l=none->Q (.ref l) (upd H l (.tup ys)))\/(SqT X.K H p ys/\Q (.ref p) H))):=by
 intro pins s Z H xs us Q I r h;let(p,ys,rfl,h):=h;let(u,rfl,rx):=yJ r;cases rx;rcases h with ⟨hq,q⟩|⟨hq,q⟩
 .let(its,r',pl,hz):=I.list hq;have hlen:=r'.length;refine call_tuple_list pl.isList (λh' kp=>?_) (by simp![br]<;>lia);have I1:Inv X pins Z H { s with heap:=h' }:=I.kept (t':=s.toks) kp
  have I2:Inv X pins Z (upd H h'.objs.size (.tup ys)) { s with heap:=h'.push { cls:=.type "tuple",data:=.seq its.toArray } }:=
   I1.laid (t':=s.toks) (λb o e=>aW _ e) (ay _) (show qI X.prog X.w _ _ _ (.tup ys) from⟨hz,its,r',IsTup.new _ _⟩)
  exact{.ref h'.objs.size,_,I2,rfl,q _ (I1.hok.fresh (ay _))}
 .let(its,r',pl,hz):=I.tuple hq;exact call_tuple_same pl ⟨.ref p,H,I,rfl,q⟩
def tyV(K:Frag)(T:String)(x:V)(H:Hp):Prop:=match x with
 |.str z=>T = "str"
 |.int z=>T = "int"
 |.ref p=>(T = "list"/\∃xs,SqL K H p xs)\/(T = "tuple"/\∃o,K.lookup p=some o/\o.cls=.type "tuple"/\o.dict=none)\/
   (T = "dict"/\((∃kvs,H p=some (.dK kvs))\/∃kvs,H p=some (.dT kvs)))\/(T = "set"/\∃S n,H p=some (.set S n))
 |_=>False
theorem qiM{pins:PP}{Z:St}{H:Hp}{s:ah}{T:String}{x:V}{v:ae}(I:Inv X pins Z H s)(r:qF x v)(ty:tyV X.K T x H) :
  s.TypeIs v T/\∀a,v=.ref a->∃ob,s.heap.get? a=some ob/\ob.dict=none:=by
 cases x with
 |str z=>
  let(t,rfl):=r
  cases (show T = "str" from ty)
  exact{typeIs_str s z t,λy e=>nomatch e}
 |int i=>
  let(t,rfl):=r
  cases (show T = "int" from ty)
  exact{typeIs_int s i t,λy e=>nomatch e}
 |ref p=>
  cases r;rcases ty with ⟨rfl,xs,hq⟩|⟨rfl,o,hk,hc,hd⟩|⟨rfl,hk⟩|⟨rfl,S,n,hk⟩
  .let(its,_,pl,_):=I.list hq;refine{pl.isList.typeIs,λa e=>?_};cases e;let(o,n,e,c,hd,_):=pl;exact⟨o,e,hd⟩
  .refine{{o,I.kIn p o hk,hc},λa e=>?_};cases e;exact{o,I.kIn _ o hk,hd}
  .have z:∃o,s.heap.get? p=some o/\o.ExactDict:=by
    rcases hk with ⟨kvs,hk⟩|⟨kvs,hk⟩
    .let(_,_,_,_,o,_,_,e,ex,_):=I.hok p _ hk;exact⟨o,e,ex⟩
    .let(_,_,_,_,o,_,_,e,ex,_):=I.hok p _ hk;exact⟨o,e,ex⟩
   let(o,e,ex):=z;refine{⟨o,e,ex.1⟩,λa e2=>?_};cases e2;exact⟨o,e,ex.2.1⟩
  .let(o,_,_,_,e,ex,_):=I.hok p _ hk;refine{⟨o,e,ex.1⟩,λa e2=>?_};cases e2;exact⟨o,e,ex.2.1⟩
 |_=>exact ax ty
def qre(K:Frag)(T:String)(r:V->List V->Hp->VK->Prop)(to:TE):TE:=λZ H Q=>to Z H λx H1=>tyV K T x H1/\r x [] H1 Q
def tBM(K:Frag)(T:String)(r:V->List V->Hp->VK->Prop)(to:TE)(t:TA):TE:=λZ H Q=>to Z H λx H1=>tyV K T x H1/\t Z H1 λxs H2=>r x xs H2 Q
variable{o e:ag}{es:List ag}{to:TE}{t:TA}{name:Str}{apos cpos:Pos}{T id:String}{r:V->List V->Hp->VK->Prop}
def qlY(pa:PlainAttrs T)(slot:Slot T name id)(hty:typeOf (.builtin id)=pure (.type "method_descriptor"))(hm:MtR X id r)(ho:PE X o to)
  (hbase:fE o name X.env (eval o X.env)=eval o X.env:=by rfl) (hline:(apos.endLine == cpos.line)=true:=by rfl):PE X (.Call (.Attribute o name apos) [] [] cpos) (qre X.K T r to):=by
 intro pins s Z H Q I h;refine wpAny_Call_method0_late hbase hline (thn (ho pins s Z H _ I h) λv s1 hq1=>?_);let(x,H1,I1,r1,ty,q1):=hq1;let(h1,h2):=qiM I1 r1 ty;exact{T,id,pa,slot,hty,h1,h2,lu rfl (PySem.evalArgs_none (hm pins s1 Z H1 x [] v [] Q I1 r1 .nil q1))}
def qlZ(pa:PlainAttrs T)(slot:Slot T name id)(hty:typeOf (.builtin id)=pure (.type "method_descriptor"))(hm:MtR X id r)(ho:PE X o to)(ha:PA X (e::es) t)
  (hbase:fE o name X.env (eval o X.env)=eval o X.env:=by rfl)
  (hfew:((bK cpos (aP (e::es) X.env)).all (λx=>!x.1)&&(dX cpos (dY [] X.env)).all (λx=>x.1.isSome)
   && decide ((e::es).length+([]:List dZ).length+(if ([]:List dZ).isEmpty then 0 else 1) < 30))=true:=by rfl)
  (hline:(apos.endLine == cpos.line)=true:=by rfl) (hs:aP (e::es) X.env=(false,eval e X.env)::aP es X.env:=by rfl) (hplain:(bK cpos (aP es X.env)).any (·.1)=false:=by rfl) :
  PE X (.Call (.Attribute o name apos) (e::es) [] cpos) (tBM X.K T r to t):=by
 intro pins s Z H Q I h;refine wpAny_Call_method_late hbase hfew hline rfl (thn (ho pins s Z H _ I h) λv s1 hq1=>?_);let(x,H1,I1,r1,ty,q1):=hq1;let(h1,h2):=qiM I1 r1 ty;refine{T,id,pa,slot,hty,h1,h2,?_};have hA:=ha cpos pins s1 Z H1 _ I1 q1;rw[hs]at hA ⊢;refine lu (by show(false||(bK cpos (aP es X.env)).any (·.1))=false;rw[hplain]<;>rfl) (Calls.evalArgs_plain ?_);refine thn hA λus s2 hz47=>?_;let(vs,H2,I2,r2,q2):=hz47;exact hm pins s2 Z H2 x vs v us Q I2 r1 r2 q2
end
def MtM(X:Cx)(id:String)(r:V->List V->Hp->VK->Prop):Prop:=
 ∀(pins:PP) (s:ah) (Z:St) (H:Hp) (x:V) (xs:List V) (v:ae) (us:List ae) (Q:VK),Inv X pins Z H s->qF x v->qt xs us->r x xs H Q->
  ak (av X.prog X.w) X.A (call (.builtin id) (v::us)) (EP X pins Z Q) X.xe s
theorem qt.one{x:V}{us:List ae}(h:qt [x] us):∃u,us=[u]/\qF x u:=by
 cases h with
 |cons r t=>cases t;exact{_,rfl,r}
def qt.zero{us:List ae}(h:qt [] us):us=[]:=by cases h;rfl
theorem qt.dropLast{xs:List V}{us:List ae}(h:qt xs us):qt xs.dropLast us.dropLast:=by
 induction h with
 |nil=>exact .nil
 |cons r t ih=>
  cases t with
  |nil=>exact .nil
  | cons q t'=>exact .cons r ih
theorem qd5{α:Type}(l:List α):l.eraseIdx (l.length - 1)=l.dropLast:=by
 induction l with
 |nil=>rfl
 |cons a r ih=>
  cases r with
  |nil=>rfl
  |cons b r=>
   have e:(a::b::r).length - 1=((b::r).length - 1)+1:=by
    have h1:(a::b::r).length=r.length+2:=rfl;have h2:(b::r).length=r.length+1:=rfl
    lia
   rw[e,List.eraseIdx_cons_succ,ih]
   all_goals rfl
section
variable{X:Cx}{pins:PP}{Z:St}{H:Hp}{s:ah}{l b:af}{xs ys zs:List V}
def Inv.lset{its its':List ae}{n:Nat}{f:Array ae->Array ae}{t':Nat}(I:Inv X pins Z H s)(hH:H l=some (.lst xs))
  (e:s.heap.get? l=some { cls:=.type "list",data:=.seq its.toArray n }) (hf:f its.toArray=its'.toArray) (hv:qt ys its') (hz:ys.length<=sizeLine) :
  Inv X pins Z (upd H l (.lst ys)) { s with heap:=s.heap.update l (cz f),toks:=t' }:=by
 have q:=PySem.IsL.update e f;rw[hf]at q;refine I.write (x:=l) (e:=l) (by rw[hH];exact trivial) (.inl rfl) (λb' u hb hu=>(iy s.heap (cz f) (cy hb)).trans hu) ⟨_,q⟩ ?_;exact{hz,its',_,hv,q}
def Inv.lnew{its:List ae}{t':Nat}(I:Inv X pins Z H s)(hv:qt ys its)(hz:ys.length<=sizeLine) :
  Inv X pins Z (upd H s.heap.objs.size (.lst ys)) { s with heap:=s.heap.push { cls:=.type "list",data:=.seq its.toArray },toks:=t' }:=
 I.laid (λz z q=>aW _ q) (ay _) ⟨hz,its,0,hv,bz _ rfl⟩
def Inv.fresh(I:Inv X pins Z H s):H s.heap.objs.size=none:=I.hok.fresh (ay _)
def Inv.lstM(I:Inv X pins Z H s)(hH:H l=some (.lst xs)):xs.length<=sizeLine/\∃(its:List ae) (n:Nat),qt xs its/\xs.length=its.length/\s.heap.get? l=some { cls:=.type "list",data:=.seq its.toArray n }:=by let(z,its,n,r,e):=I.hok l _ hH;exact⟨z,its,n,r,r.length,e⟩
def qhf{n:Nat}(h:n<=sizeLine):kM n=false:=by unfold kM;exact decide_eq_false (1:)
end
section
variable{X:Cx}
def qjP:V->List V->Hp->VK->Prop:=λx vs H Q=>∃l xs y,x=.ref l/\vs=[y]/\H l=some (.lst xs)/\xs.length < sizeLine/\Q .non (upd H l (.lst (xs++[y])))
def qeY:MtM X "list.append" qjP:=by
 intro pins s Z H x vs v us Q I rx rv h;let(l,xs,y,rfl,rfl,hH,hz,q):=h;cases rx;let(u,rfl,ru):=rv.one;let(z,its,n,r,hl,e):=I.lstM hH;refine kg F.slot_list_append ⟨_,e,rfl⟩ F.entry_list_append (F.args_list_append_2 _ _) (PySem.list_append l its.toArray n u (by rw[br];lia)) ⟨e,?_⟩;refine{.non,_,I.lset (its':=its++[u]) hH e (5:) (r.append %[ru|0]) ?_,rfl,q};rw[aT,eK]
 lia
def qjQ:V->List V->Hp->VK->Prop:=λx vs H Q=>∃l b xs zs,x=.ref l/\vs=[.ref b]/\H l=some (.lst xs)/\H b=some (.lst zs)/\xs.length+zs.length<=sizeLine/\Q .non (upd H l (.lst (xs++zs)))
def qeZ:MtM X "list.extend" qjQ:=by
 intro pins s Z H x vs v us Q I rx rv h;let(l,b,xs,zs,rfl,rfl,hH,hB,hz,q):=h;cases rx;let(u,rfl,ru):=rv.one;cases ru;let(z,its,n,r,hl,e):=I.lstM hH;let(z2,its2,n2,r2,hl2,e2):=I.lstM hB;have hsz:its.toArray.size+its2.toArray.size<=sizeLine:=by rw[br,br];lia
 have hlong:¬ (!its.toArray.isEmpty&&kM (its.toArray.size+its2.toArray.size))=true:=by rw[qhf hsz,Bool.and_false];exact d9
 refine kg F.slot_list_extend ⟨_,e,rfl⟩ F.entry_list_extend (F.args_list_extend_2 _ _)
  (AutoSeq1.list_extend_list_list_0 l its.toArray n b its2.toArray n2 hlong (by rw[br];lia) (1:)) ⟨e,e2,?_⟩
 refine{.non,_,I.lset (its':=its++its2) hH e (5:) (r.append r2) ?_,rfl,q};rw[aT]
 lia
def qrf:V->List V->Hp->VK->Prop:=λx vs H Q=>∃l xs y,x=.ref l/\vs=[]/\H l=some (.lst xs)/\xs[xs.length - 1]?=some y/\Q y (upd H l (.lst xs.dropLast))
def ql0:MtM X "list.pop" qrf:=by
 intro pins s Z H x vs v us Q I rx rv h;let(l,xs,y,rfl,rfl,hH,hy,q):=h;cases rx;have hus:=rv.zero;subst hus;let(z,its,n,r,hl,e):=I.lstM hH;let(u,hu,ru):=r.get hy
 have hy':its.toArray[its.toArray.size - 1]?=some u:=by show its.toArray[its.length - 1]?=some u;rw[<-iz,<-hl];exact hu
 refine kg F.slot_list_pop ⟨_,e,rfl⟩ F.entry_list_pop (F.args_list_pop_1 _) (MeetsSeq.list_pop_last l its.toArray n u hy' (by rw[br];lia)) ⟨e,?_⟩;refine{y,_,I.lset (its':=its.dropLast) hH e ?_ r.dropLast ?_,ru,q}
 .show its.toArray.eraseIdxIfInBounds (its.toArray.size - 1)=its.dropLast.toArray;rw[br,List.eraseIdxIfInBounds_toArray,qd5]
 .rw[List.length_dropLast]
  lia
def qrg:R2:=λx y H Q=>∃l b xs zs,x=.ref l/\y=.ref b/\H l=some (.lst xs)/\H b=some (.lst zs)/\xs.length+zs.length<=sizeLine/\∀p,H p=none->Q (.ref p) (upd H p (.lst (xs++zs)))
def ql1:OpR X (cm .Add) qrg:=by
 intro pins s Z H x y v u Q I rx ry h;let(l,b,xs,zs,rfl,rfl,hH,hB,hz,q):=h;cases rx;cases ry;let(z,its,n,r,hl,e):=I.lstM hH;let(z2,its2,n2,r2,hl2,e2):=I.lstM hB;refine PySem.P.add_list e e2 ?_ (by rw[br,br];lia);have ea:its.toArray++its2.toArray=(its++its2).toArray:=by simp
 rw[ea];exact{.ref _,_,I.lnew (t':=s.toks) (r.append r2) (by rw[aT];lia),rfl,q _ I.fresh}
end
end L2
namespace Att
open PySem PySem.W PySem.Calls PyProof.Rows
theorem YH{P:cQ}{h:aw}:∀(ns:List Int) (vs:List ae),WellAll P h vs (ns.map WData.int)->fG vs ns:=by
 intro ns
 induction ns with
 |nil=>intro vs w;rw[aH]at w;cases w;exact .nil
 |cons n ns ih=>
  intro vs w;rw[au]at w
  cases w with
  |cons a b=>cases a;exact .cons _ _ (ih _ b)
theorem qe0{l:OpenLaw}{n:Nat}(hn:l.most=some n){P:cQ}{h:aw}{args:List WData}{vals:List ae}
  (hpre:l.row.toRowW.claim.pre args=true) (hwl:WellAll P h vals args) :
  ∃a vs ns,vals=[bj a]/\args=[WData.list (ns.map WData.int)]/\h.get? a=some { cls:=.type "list",data:=.seq vs.toArray }/\fG vs ns/\ns.length<=n:=by
 have hsh:WShape.hasAll [] args [.list .int]=true:=(pre_splitW hpre).1;have hc:l.pre.holds [] { args:=args }=true:=(pre_splitW hpre).2;let(d,r,rfl,h1,h2):=hasAllW_cons hsh;cases hasAllW_nil h2;let(xs,rfl,h3):=hasW_list h1;let(ns,rfl):=items_int h3
 have hlen:ns.length<=n:=by
  unfold OpenLaw.pre at hc
  have h4:(WTm.not (.lt (.lit (.int (n:Int))) (.len (.arg 0)))).holds [] { args:=[.list (ns.map .int)] }=true:=by have h4:=(holds_andW hc).1;rw[hn]at h4;exact h4
  have h5:=condW_of h4 (w_not (w_lt w_lit (w_len_list (w_arg rfl))));rw[aD]at h5;refine Nat.le_of_not_lt λq=>?_;have q':(n:Int) < ((ns.length:Nat):Int):=by lia
  first
   | (rw[decide_eq_true q']at h5;exact absurd h5 (2:))
   | (simp at h5;lia)
 cases hwl with
 |cons w1 w2=>
  cases w2
  cases w1 with
  |list ho hall=>exact{_,_,ns,rfl,rfl,ho,YH ns _ hall,hlen}
def qe1(l:OpenLaw)(args:List WData):l.row.toRowW.claim.post args (.bool true) args=true:=
 postW_of (r:=l.row.toRowW) (X:=(true == true))
  (show WShape.has [] (.bool true) .bool=true by first|rfl|decide|simp[WShape.has,WShape.arms,WShape.armsAll])
  (show(WTm.eq .res (.lit (.bool true))).value [] { args:=args,res:=some (.bool true),after:=args }=some (.bool (true == true)) from w_eq_bool (w_res rfl) w_lit) rfl
def qb6{l:OpenLaw}{n:Nat}{q:aJ}{loose:List Str}{XP:(Str->Option ae)->aw->Prop}{YP:aC->aw->Prop}{d:DefRec}
  (hn:l.most=some n) (hdf:d.params.defaults=[])
  (call:∀(w:aC) (s₀ s₁:ah) (mg mb:PR) (fa:af) (o:Obj) (pm cd doc:ae) (a:af) (vs:List ae) (ns:List Int),
   Ground q loose [] XP w s₀ mg mb s₁.heap->YP w s₁.heap->
   s₁.heap.get? fa=some o->o.data=.func (docDef d.name d.params d.body d.scope pm cd doc)->s₁.heap.CodeRec cd d.name->mg d.name=some (.ref fa)->
   s₁.heap.get? a=some { cls:=.type "list",data:=.seq vs.toArray }->fG vs ns->ns.length<=n->s₁.gens=#[]->
   cN (av l.prog w) fH (.call (.ref fa) ⟨[.ref a],[]⟩) (λr s'=>r=.ok (.ret (.bool true))/\OldK s₁.heap s'.heap/\s'.os=s₁.os/\ei s'.gens) s₁) :
  WalkO q loose XP YP l.row.toRowW d [] (λf vs=>PySem.call f vs):=by
 intro w s₀ s₁ mg mb G Y fa o pm cd doc dV kV ho hd hcd hD hmg hg args vals as hpre hlay hrd hwl hlo;obtain rfl:dV=.none:=Dflts.none hD hdf;obtain rfl:kV=.none:=Dflts.noKw hD;let(a,vs,ns,rfl,rfl,hobj,hints,hlen):=qe0 hn hpre hwl;refine enter_call (dW (call w s₀ s₁ mg mb fa o pm cd doc a vs ns G Y ho (fd_plain hd) hcd hmg hobj hints hlen hg) λr s' hq=>?_);let(rfl,h2,h3,h4):=hq;exact{.inl {.bool true,.bool true,[],rfl,λz=>rfl,.bool true,qe1 l _,λz=>{List.Pairwise.nil,λz hm=>(nomatch hm)}},h2,h3,h4}
end Att
namespace L2
open PySem PySem.Spec PyProof.Rows
theorem qe2{vs:List ae}{ns:List Int}(h:fG vs ns):qt (ns.map V.int) vs:=by
 induction h with
 |nil=>exact .nil
 |cons n t h ih=>exact .cons ⟨t,rfl⟩ ih
def qpt(H:Hp):Prop:=∀b,H b=none\/∃o xs,H b=some (.frz o (.lst xs))
theorem qhg{P:aJ}{w:aC}{K:Frag}{mg mb:PR}{CX:CXT}{k:Nat}{fa a:af}{fd:bV}{x:Str}{sp:Sp}{s₁:ah}{vs:List ae}{ns:List Int}
  (KX:K.In s₁.heap) (hns:s₁.heap.Ns a8 mg) (hb:s₁.heap.Ns builtinsNs mb) (hbb:∀x:Str,x≠"__name__"->mb x=gf x) (hlim:s₁.heap.NoLimit) (hg:s₁.gens=#[])
  (ha:s₁.heap.get? a=some { cls:=.type "list",data:=.seq vs.toArray }) (hi:fG vs ns) (hl:ns.length<=sizeLine) (hr:Room k fH)
  (F:∀base:aw,K.In base->base.Ns a8 mg->FnOk P w K mg base CX k fa fd [x] sp) (hbind:∀(s:ah) (u:ae),fF s fd ⟨[u],[]⟩ [(x,u)])
  (hsp:∀H:Hp,qpt H->SqL K H a (ns.map V.int)->sp [.ref a] H (λv _=>v=.bl true) λ_ _ _=>False)
  (hCX:∀H e s',CX [] H s₁ (λ_ _ _=>False) e s'->False) :
  cN (av P w) fH (.call (.ref fa) ⟨[.ref a],[]⟩) (λr s'=>r=.ok (.ret (.bool true))/\OldK s₁.heap s'.heap/\s'.os=s₁.os/\ei s'.gens) s₁:=by
 have rv:=qe2 hi;have lenV:=hi.length
 have core:∀H:Hp,qpt H->SqL K H a (ns.map V.int)->HOk P w H s₁.heap->(∀b,H b≠none->b=a)->(H a≠none->K.lookup a=none)->
   cN (av P w) fH (.call (.ref fa) ⟨[.ref a],[]⟩) (λr s'=>r=.ok (.ret (.bool true))/\OldK s₁.heap s'.heap/\s'.os=s₁.os/\ei s'.gens) s₁:=by
  intro H hO hS hok hA hK;have base_of:∀{b:af} {o:Obj},s₁.heap.get? b=some o->H b=none->(qgU s₁.heap H).get? b=some o:=λe n=>qgV e n
  have noA:∀{b:af} {o:Obj} {es:Array ke} {ep:Nat},s₁.heap.get? b=some o->o.data=.dict es ep->H b=none:=λ{b o es ep} e d=>by
   cases q:H b with
   |none=>rfl
   |some u=>have e':b=a:=hA b (by rw[q];simp);subst e';rw[ha]at e;cases e;have d':Data.seq vs.toArray _=Data.dict es ep:=d;cases d'
  have nsK:∀{b:af} {m:PR},s₁.heap.Ns b m->(qgU s₁.heap H).Ns b m:=λ{b m} ⟨o,es,ep,e,d,r⟩=>{o,es,ep,base_of e (noA e d),d,r}
  have hKb:K.In (qgU s₁.heap H):=λb o e=>base_of (KX b o e) (by
   cases q:H b with
   |none=>rfl
   |some u=>have e':b=a:=hA b (by rw[q];simp);subst e';rw[hK (by rw[q];simp)]at e;cases e)
  have hM:Mod K mg (qgU s₁.heap H):={hKb,nsK hns,{mb,nsK hb,hbb},let ⟨mc,h1,h2⟩:=hlim;⟨mc,nsK h1,h2⟩};have e0:Env0 P w K mg (qgU s₁.heap H) fH [] s₁ H:={rfl,hM,λb o e=>qjw e,e7 (qeH _ _),trivial,λb hb=>absurd (show b∈([]:List af) from hb) (5:),hok,.of_eq hg};refine dW ((F _ hKb (nsK hns)).run fH [] s₁ H ⟨[.ref a],[]⟩ [.ref a] [.ref a] _ _ hr e0 (hbind s₁ (.ref a)) %[rfl|0] (hsp H hO hS)) λr s' h=>?_
  cases r with
  |error e=>exact(hCX H e s' h).elim
  |ok fl=>
   cases fl with
   |next=>exact ax h
   |brk=>exact ax h
   |cont=>exact ax h
   |ret u=>
    let(v,H',os,bare,un,hok',r',q):=h;have q':v=.bl true:=q;subst q';obtain rfl:u=iq true:=r';refine{rfl,OldK.of_keep λb o e=>?_,os,bare}
    cases q:H b with
    |none=>exact un.keep b o e q (by intro z;exact absurd (show b∈([]:List af) from z) (5:)) (5:)
    |some u=>
     rcases hO b with z|⟨ob,xs,z⟩
     .rw[q]at z;cases z
     .have z2:=un.frzs b ob _ z;let(e1,_):=hok b _ z;let(e2,_):=hok' b _ z2;rw[e]at e1;cases e1;exact e2
 cases hk:K.lookup a with
 |some o=>have e:=KX a o hk;rw[ha]at e;cases e;refine core (λ_=>none) (λ_=>.inl rfl) (.inr ⟨_,vs.toArray,_,hk,rfl,rfl,rfl,by rw[br,lenV];exact hl,(-rv:)⟩) (λb u z=>by have z':(none:Option HO)=some u:=z;cases z') (λb z=>absurd rfl z) λz=>absurd rfl z
 |none=>
  refine core (λb=>if b=a then some (.frz { cls:=.type "list",data:=.seq vs.toArray } (.lst (ns.map V.int))) else none) (λb=>?_) (.inl (.inr ⟨{ cls:=.type "list",data:=.seq vs.toArray },if_pos rfl⟩)) (λb u z=>?_) (λb z=>?_) λ_=>hk
  .by_cases hb:b=a
   .exact .inr ⟨_,_,if_pos hb⟩
   .exact .inl (if_neg hb)
  .by_cases hb:b=a
   .have z':=(if_pos hb).symm.trans z;cases z';subst hb;exact{ha,by rw[aD];exact hl,vs,_,rv,ha}
   .have z':=(if_neg hb).symm.trans z;cases z'
  .by_cases hb:b=a
   .exact hb
   .exact absurd (if_neg hb) z
def qjR{l:PySem.W.OpenLaw}{n k:Nat}{q:aJ}{loose:List Str}{XP:(Str->Option ae)->aw->Prop}{YP:aC->aw->Prop}{d:DefRec}{K:cQ->Frag}{CX:aC->CXT}{sp:aC->Sp}{x:Str}
  (hn:l.most=some n) (hn2:n<=sizeLine) (hdf:d.params.defaults=[]) (hr:Room k fH)
  (hY:∀(w:aC) (h:aw),YP w h->(K w.params).In h)
  (F:∀(w:aC) (mg:PR) (fa:af) (h:aw),(K w.params).In h->h.Ns a8 mg->mg d.name=some (.ref fa)->
   ∃fd:bV,(∀(s:ah) (u:ae),fF s fd ⟨[u],[]⟩ [(x,u)])/\
    ∀base:aw,(K w.params).In base->base.Ns a8 mg->FnOk l.prog w (K w.params) mg base (CX w) k fa fd [x] (sp w))
  (hsp:∀(w:aC) (H:Hp) (a:af) (ns:List Int),ns.length<=n->qpt H->SqL (K w.params) H a (ns.map V.int)->sp w [.ref a] H (λv z=>v=.bl true) λz z z=>False)
  (hCX:∀(w:aC) (H:Hp) (s:ah) (e:ae) (s':ah),CX w [] H s (λz z z=>False) e s'->False) :
  PySem.W.WalkO q loose XP YP l.row.toRowW d [] (λf vs=>PySem.call f vs):=by
 refine Att.qb6 hn hdf λw s₀ s₁ mg mb fa o pm cd doc a vs ns G Y ho hd hcd hmg hobj hints hlen hg=>?_;have KX:=hY w _ Y;let(fd,hb,hF):=F w mg fa _ KX G.T.g hmg;exact qhg KX G.T.g G.T.b G.T.builtins G.T.nolimit hg hobj hints (bQ hlen hn2) hr hF hb (λH hO hS=>hsp w H a ns hlen hO hS) λH e s'=>hCX w H s₁ e s'
def qS(s:aI):Arguments:=match s with
 |.FunctionDef z a y x w v u t r q=>a
 |_=>{ posonlyargs:=[],args:=[],vararg:=none,kwonlyargs:=[],kw_defaults:=[],kwarg:=none,defaults:=[] }
def qC(s:aI):List aI:=match s with
 |.FunctionDef z y b x w v u t r q=>b
 |_=>[]
def qh(s:aI):bw:=match s with
 |.FunctionDef z y x w v u sc t r q=>sc
 |_=>{ kind:=.function,names:=[],isGenerator:=false,isCoroutine:=false }
abbrev CX0:CXT:=λz z z z z z=>False
abbrev E0:XK:=λz z z=>False
def qb7{X:Cx}:jx CX0 X E0:=λz z z z z z z h=>h.elim
structure Fun(K:Frag)(x qual:Str)(st:aI)(f:af)(fd:bV):Prop where
 ex:∃(oc:ae) (od:Option af) (kV doc pm:ae) (an:Option af) (cdv ct:ae) (osl:Array (Option ae)),
  fd=cY x qual (qS st) (qC st) (qh st) .none kV doc pm an cdv ct/\K.lookup f=some ⟨oc,od,.func fd,osl⟩/\ij K cdv qual=true
 kp:dO K (.ref f)=true
section
variable{P:aJ}{w:aC}{K:Frag}{mg:PR}{base:aw}
def Fun.ok{x qual:Str}{st:aI}{f:af}{fd:bV}{N ps:List Str}{k:Nat}{sp:Sp}(F:Fun K x qual st f fd)(S:FnScope N ps (qh st))(len:∀vs H Q E,sp vs H Q E->vs.length=ps.length)
  (hbody:∀(cdv:ae) (A:aN) (outer:List Env) (s:ah) (H:Hp) (vs:List V) (Q:VK) (E:XK),Room k (A.deeper (dJ qual (qh st) s.heap.objs.size f cdv))->sp vs H Q E->
   ∃t,PSs (qhb CX0 P w K mg base N qual (qh st) f cdv A outer s H E).nox (qC st) t/\t { nx:=λz H'=>Q .non H',rt:=Q } (JS N vs) H):FnOk P w K mg base CX0 (k+1) f fd ps sp:=by
 let(oc,od,kV,doc,pm,an,cdv,ct,osl,rfl,lk,hcd):=F.ex;refine qlU lk hcd S len λA outer s H vs Q E hr hsp=>?_;let(t,h,q):=hbody cdv A outer s H vs Q E hr hsp;exact⟨t,h.nox,q⟩
def Fun.binds{x qual:Str}{st:aI}{f:af}{fd:bV}{ps:List Str}(F:Fun K x qual st f fd)
  (h:∀(kV doc pm:ae) (an:Option af) (cdv ct:ae) (us:List ae),us.length=ps.length->eT (cY x qual (qS st) (qC st) (qh st) .none kV doc pm an cdv ct) ⟨us,[]⟩=pure (ps.zip us)):zn K fd ps []:=by
 let(oc,od,kV,doc,pm,an,cdv,ct,osl,rfl,lk,hcd):=F.ex;exact .all (h kV doc pm an cdv ct)
def qiN{x qual:Str}{st:aI}{f:af}{oc:ae}{od an:Option af}{osl:Array (Option ae)}{kV doc pm cdv ct:ae}(l:K.lookup f=some ⟨oc,od,.func (cY x qual (qS st) (qC st) (qh st) .none kV doc pm an cdv ct),osl⟩)
  (c:ij K cdv qual=true) (k:dO K (.ref f)=true):Fun K x qual st f (cY x qual (qS st) (qC st) (qh st) .none kV doc pm an cdv ct):={⟨oc,od,kV,doc,pm,an,cdv,ct,osl,rfl,l,c⟩,k}
end
def qaU{n:Nat}(h:n<=1000):n < sizeLine:=lx h (2:)
section
variable{X:Cx}
def pv(i:Nat){x:Str}{pos:Pos}(hN:X.N[i]?=some x:=by rfl)(hv:Vis X.env.scope x:=by first|exact Or.inl rfl|exact Or.inr (Or.inl rfl)|exact Or.inr (Or.inr rfl))(hd:(x == ("__debug__" : Str))=false:=by decide)
  (hcd:(x == ("__classdict__" : Str))=false:=by decide):PE X (.Name x pos) (qoR i):=qeI hN hv hd hcd
end
def qo(H H':Hp):Prop:=∀b o,H b=some o->H' b=some o
def qo.seq{K:Frag}{H H':Hp}{a:af}{xs:List V}(e:qo H H')(h:SqL K H a xs):SqL K H' a xs:=by
 rcases h with (h|⟨o,h⟩)|h
 .exact .inl (.inl (e _ _ h))
 .exact .inl (.inr ⟨o,e _ _ h⟩)
 .exact .inr h
end L2
set_option maxHeartbeats 4000000
namespace DG
open PySem
def qjS:aI->List aI
 |.ClassDef z y x b w v u t s r q=>b
 |_=>[]
end DG
namespace HD
open PySem PySem.W
def YI(tb:String->Option Builtin)(p:aJ)(w:aC)(n₀:Nat)(ann:Option ae):Nat->gk->Thread->Option gk
 |0,z,y=>none
 | n+1,s,t=>match through t with
  |true=>some s
  |false=>match stepOk n₀ ann t with
   |false=>none
   |true=>match stepT (denote tb) p w s t with
    | some (s',t')=>YI tb p w n₀ ann n s' t'
    |none=>none
theorem qaV{tb:String->Option Builtin}{p:aJ}{w:aC}{n₀:Nat}{ann:Option ae}:∀{n:Nat} {s s':gk} {t:Thread},YI tb p w n₀ ann n s t=some s'->topRun tb p w n₀ ann n s.abs t=some s'.abs
 |0,z,y,x,h=>by cases h
 | n+1,s,s',t,h=>by
  unfold YI at h;unfold topRun
  cases ht:through t with
  |true=>rw[ht]at h;cases h;rfl
  |false=>
   rw[ht]at h
   cases hk:stepOk n₀ ann t with
   |false=>rw[hk]at h;cases h
   |true=>
    rw[hk]at h
    cases hs:stepT (denote tb) p w s t with
    |none=>rw[hs]at h;cases h
    |some r=>let(s₂,t₂):=r;rw[hs]at h;dsimp only;rw[stepT_spec hs];exact qaV h
def ofL:List Obj->Nat->BT->BT
 |[],z,t=>t
 | o::r,n,t=>ofL r (n+1) (t.ins n o)
def qjT(P:cQ)(os:OsState):gk:={ofL (b7 P).objs.toList 0 .nil,(b7 P).objs.toList.length,(b7 P).life,e9 [],gW,gX,os}
def qe3(P:cQ)(os:OsState):(qjT P os).abs=⟨b7 P,e9 [],gW,gX,os⟩:=(4:)
def qjU{α:Type}(p q:aJ)(loose:List Str)(Xt:ah->Bool)(Yf:ah->α)(g0:Bool)(Hv:aw)(s:ah):=
 (staticsOk (ma p.main.body) Hv s.heap&&namesBound p s.heap&&gensDone s&&laidKept Hv s.heap,openSeen q loose (ma p.main.body) Xt g0 s,Yf s)
def qjV{p q:aJ}{loose:List Str}{Xt:ah->Bool}{α:Type}{Yf:ah->α}{Ya:aC->α}{N:Nat}{g0:Bool}{m₀:Nat}{ann:Option ae}
  (open_:∀w:aC,(fencedOpening gY p w N).map (λs=>(s.heap,s.gens,s.drawn,s.toks))=some (b7 w.params,e9 [],gW,gX))
  (size:∀w:aC,((b7 w.params).isNs a8&&(e9 []:Array gg).size == 0,(b7 w.params).objs.size,(b7 w.params).nsMap a8 "__annotations__")=(true,m₀,ann))
  (h:∀w os,(YI gY p w m₀ ann N (qjT w.params os) (topStub p)).map (λs=>qjU p q loose Xt Yf g0 (b7 w.params) s.abs)=some (true,openGood q loose,Ya w)):LeftO p q loose Xt Yf Ya N g0:=λw=>by
 let((h0,gs,d,k,os),e,e'):=bM.mp (open_ w);let(rfl,rfl,rfl,rfl):h0=b7 w.params/\gs=e9 []/\d=gW/\k=gX:=(-e':)
 let(z1,z2,z3):_/\_/\_:=by simpa only[Prod.mk.injEq] using size w
 let(s₁,r,l):=bM.mp (h w os);have r':=qaV r;rw[qe3]at r';let(l1,l2,l3):_/\_/\_:=by simpa only[qjU,Prod.mk.injEq] using l
 have t:topFrom gY p w N ⟨b7 w.params,e9 [],gW,gX,os⟩=some s₁.abs:=by unfold topFrom;dsimp only;rw[z1,z2,z3,r'];show(match staticsOk (ma p.main.body) (b7 w.params) s₁.abs.heap&&namesBound p s₁.abs.heap&&gensDone s₁.abs&&laidKept (b7 w.params) s₁.abs.heap with |true=>_ |false=>_)=_;rw[l1]
 unfold openEnds;rw[e];show(topFrom gY p w N _).map _=_;rw[t];exact congrArg some (Prod.ext l2 l3)
def dE(P:cQ)(k:Str)(t:Tok)(v:ae):ke:={PyData.keyHash P k,.str k t,v}
def oFn(d:Option af)(st:aI)(name qual:Str)(dV kV doc pm:ae)(an:Option af)(cd ct:ae):Obj:={.type "function",d,.func (fnOf name qual (L2.qS st) (L2.qC st) (L2.qh st) dV kV doc pm an cd ct),#[]}
def oC(n:Str)(t1:Tok)(q:Str)(t2 t3:Tok)(l ar:Int)(a b:af)(x y:ae)(c:af)(u:Int)(v:Tok):Obj:={.type "code",none,.fields #[.str n t1,.str q t2,.str "/claim/cut.py" t3,.int l 0,.int ar 0,.int 0 0,.int 0 0,.int 3 0,.ref a,.bool true,.int 181 0,.ref b,.none,x,y,.ref c,.int u 0,.int l 0,.str "/claim/cut.py" v],#[]}
def oG(st:aI)(n m:Str)(t:Tok)(a:af):Obj:=oFn none st n n .none .none .none (.str m t) none (.ref a) .none
def oB(n:Str)(t:Tok)(l ar:Int)(a:af)(v:Nat):Obj:=oC n t n (t+1) (t+2) l ar a (a+1) (.ref (a+2)) (.ref (a+3)) (a+4) v (v+1)
def co(a:af)(o:Obj)(r:Frag):Frag:=(a,o)::r
def fB(st:aI)(m:Str)(mt:Tok)(a b:af)(n:Str)(t:Tok)(l ar:Int)(u:Nat)(r:Frag):Frag:=(a,oB n t l ar (a - 5) u)::(b,oG st n m mt a)::r
def fM(st:aI)(m:Str)(mt:Tok)(a b:af)(n q:Str)(t:Tok)(l ar:Int)(u:Nat)(r:Frag):Frag:=(a,oC n t q (t+1) (t+2) l ar (a - 5) (a - 4) (.ref (a - 3)) (.ref (a - 2)) (a - 1) u (u+1))::(b,oFn none st n q .none .none .none (.str m mt) none (.ref a) .none)::r
def dRs(P:cQ)(L:List (Str×Tok×af))(r:List ke):List ke:=L.foldr (λx r=>dE P x.1 x.2.1 (.ref x.2.2)::r) r
def kD(P:cQ)(m:Str)(mt t:Tok)(l:Int)(k:Nat)(L:List (Str×Tok×af))(d:Tok):Obj:={.type "dict",none,.dict {dE P "__module__" (t+7) (.str m mt)::dE P "__firstlineno__" (t+11) (.int l (t+10))::dRs P L [dE P "__doc__" d .none]} k,#[]}
def kO(nw:String)(a b:af)(n:Str)(t:Tok)(e:ae)(ms ss:List ae)(i:Option ae):Obj:={.type "type",none,.cls {n,[e],.ref b::ms,a,n,true,[],ss,false,none,false},#[i,none,some (.str n t),some (.str n (t+8)),some (.builtin nw),some (.bool true)]}
def kC(P:cQ)(m:Str)(mt:Tok)(nw:String)(a b:af)(n:Str)(t:Tok)(l:Int)(k:Nat)(L:List (Str×Tok×af))(d:Tok)(e:ae)(ms ss:List ae)(i:Option ae)(r:Frag):Frag:=
 (a,kD P m mt t l k L d)::(b,kO nw a b n t e ms ss i)::r
def qe4(w:aC):((b7 w.params).isNs a8&&(e9 []:Array gg).size == 0,(b7 w.params).objs.size,(b7 w.params).nsMap a8 "__annotations__")=(true,11,some (.ref 6)):=(4:)
end HD
namespace TS
open PySem PyProof.Rows
def gal:Bool->ai->Array ai->Nat->Nat->Nat->StateT aG Sem (Option Nat):=sortPriv% PySem.Builtin.gallop
def mlo:Array ai->Array ai->StateT aG Sem (Array ai):=sortPriv% PySem.Builtin.mergeLo
def mhi:Array ai->Array ai->StateT aG Sem (Array ai):=sortPriv% PySem.Builtin.mergeHi
def byd(left:Bool)(key:ai)(arr:Array ai)(p:Nat):StateT aG Sem (Option Bool):=do
 let x<-elem' arr p
 if left then lt' x key else return (<-lt' key x).map (!·)
def qhh(left:Bool)(key:ai)(arr:Array ai)(base n:Nat)(lw0 up0:Nat):StateT aG Sem (Option Nat):=do
  let mut lw:=lw0
  let mut up:=up0
  for _ in [0:n] do
   if lw≥up then break
   let mid:=lw+(up - lw) / 2
   let some mo<-byd left key arr (base+mid)|return none
   if mo then lw:=mid+1 else up:=mid
  return some up
def gup(left:Bool)(key:ai)(arr:Array ai)(base n hint:Nat):StateT aG Sem (Option Nat):=do
   let mut la:=0
   let mut of:=1
   for _ in [0:n] do
    if of≥n - hint then break
    let some mo<-byd left key arr (base+(hint+of))|return none
    if !mo then break
    la:=of
    of:=2 * of+1
   qhh left key arr base n (hint+la+1) (hint+min of (n - hint))
def gdn(left:Bool)(key:ai)(arr:Array ai)(base n hint:Nat):StateT aG Sem (Option Nat):=do
   let mut la:=0
   let mut of:=1
   for _ in [0:n] do
    if of≥hint+1 then break
    let some mo<-byd left key arr (base+(hint - of))|return none
    if mo then break
    la:=of
    of:=2 * of+1
   qhh left key arr base n (hint+1 - min of (hint+1)) (hint - la)
def ql2(left:Bool)(key:ai)(arr:Array ai)(base n hint:Nat):gal left key arr base n hint=(do
  let some rt<-byd left key arr (base+hint)|return none
  if rt then gup left key arr base n hint else gdn left key arr base n hint):=rfl
section
variable{M:cG}{A:aN}{E:PQ}{s:ah}{O:a7}{kf:ai->O.α}{U:cq}{G:ai->Prop}
def qb8(M:cG)(A:aN)(E:PQ)(s:ah)(O:a7)(kf:ai->O.α)(U:cq)(G:ai->Prop):Prop:=
 ∀x y,G x->G y->∀(st:aG) (Q:Option Bool->aG->Prop),kindOf st=U->Q (some (O.blt (kf x) (kf y))) st->wpS M A E s (lt' x y) Q st
def pby(O:a7)(kf:ai->O.α)(left:Bool)(key x:ai):Bool:=if left then O.blt (kf x) (kf key) else !(O.blt (kf key) (kf x))
def qN{arr:Array ai}{p:Nat}{x:ai}{st:aG}{Q:ai->aG->Prop}(e:arr[p]?=some x)(h:Q x st):wpS M A E s (elem' arr p) Q st:=by rw[elem'_eq,e];exact aE h
theorem qcS(L:qb8 M A E s O kf U G){left:Bool}{key:ai}{arr:Array ai}{p:Nat}{x:ai}{st:aG}{Q:Option Bool->aG->Prop}(hk:kindOf st=U)(hG:G key)(e:arr[p]?=some x)(hx:G x)
  (h:Q (some (pby O kf left key x)) st):wpS M A E s (byd left key arr p) Q st:=by
 unfold byd;refine az (qN e ?_);unfold pby at h
 cases left with
 |true=>simp![if_true]at h ⊢;exact L x key hx hG st Q hk h
 |false=>simp![bo,if_false]at h ⊢;exact az (L key x hG hx st _ hk (aE h))
variable{left:Bool}{key:ai}{arr:Array ai}{base n hint:Nat}{st:aG}{P:Nat->Bool}
def qcT(L:qb8 M A E s O kf U G){Q:Option Nat->aG->Prop}(hk:kindOf st=U)(hG:G key)(hA:∀i,i < n->∃x,arr[base+i]?=some x/\G x/\pby O kf left key x=P i)
  (mono:∀i j,i<=j->j < n->P j=true->P i=true) {lw up:Nat} (h1:lw<=up) (h2:up<=n) (hl:∀i,i < lw->P i=true) (hu:∀i,up<=i->i < n->P i=false)
  (h:∀k,k<=n->(∀i,i < k->P i=true)->(∀i,k<=i->i < n->P i=false)->Q (some k) st):wpS M A E s (qhh left key arr base n lw up) Q st:=by
 unfold qhh;dsimp only
 refine az (cJ (cu (I:=λx c st'=>st'=st/\∃l u,c=(none,l,u)/\l<=u/\u<=n/\u - l<=n - x/\(∀i,i < l->P i=true)/\(∀i,u<=i->i < n->P i=false))
  (Q:=λc st'=>st'=st/\∃u,c=(none,u,u)/\u<=n/\(∀i,i < u->P i=true)/\(∀i,u<=i->i < n->P i=false)) ?step ?fin ⟨rfl,lw,up,rfl,h1,h2,by omega,hl,hu⟩) ?post)
 case post=>rintro c st' ⟨rfl,u,rfl,a,b,d⟩;exact aE (h u a b d)
 case fin=>
  rintro c st' ⟨rfl,l,u,rfl,a,b,d,e,f⟩
  have:l=u:=by omega
  subst this;exact⟨rfl,l,rfl,b,e,f⟩
 case step=>
  rintro x c st' _ hx ⟨rfl,l,u,rfl,a,b,d,e,f⟩;dsimp only
  by_cases hge:l≥u
  .rw[if_pos hge]
   have:l=u:=by omega
   subst this;exact aE ⟨rfl,l,rfl,b,e,f⟩
  .rw[if_neg hge];let(z,z1,z2,z3):=hA (l+(u - l) / 2) (by omega);refine az (qcS L hk hG z1 z2 ?_);rw[z3]
   cases hp:P (l+(u - l) / 2) with
   |true=>simp![if_true];refine aE ⟨rfl,_,_,rfl,by omega,b,by omega,λi hi=>mono i _ (by omega) (by omega) hp,f⟩
   |false=>
    simp![bo,if_false];refine aE ⟨rfl,_,_,rfl,by omega,by omega,by omega,e,λi hi hn=>?_⟩
    cases q:P i with
    |false=>rfl
    |true=>rw[mono _ i hi hn q]at hp;cases hp
theorem ql3(L:qb8 M A E s O kf U G){Q:Option Nat->aG->Prop}(hk:kindOf st=U)(hG:G key)(hA:∀i,i < n->∃x,arr[base+i]?=some x/\G x/\pby O kf left key x=P i)
  (mono:∀i j,i<=j->j < n->P j=true->P i=true) (hh:hint < n)
  (h:∀k,k<=n->(∀i,i < k->P i=true)->(∀i,k<=i->i < n->P i=false)->Q (some k) st):wpS M A E s (gal left key arr base n hint) Q st:=by
 have monoF:∀i j,i<=j->j < n->P i=false->P j=false:=λi j a b c=>by
  cases q:P j with
  |false=>rfl
  |true=>rw[mono i j a b q]at c;cases c
 rw[ql2];let(z,z1,z2,z3):=hA hint hh;refine az (qcS L hk hG z1 z2 ?_);rw[z3]
 cases hp:P hint with
 |true=>
  simp![if_true];unfold gup;dsimp only
  refine az (cJ (cu (I:=λx c st'=>st'=st/\∃l o,c=(none,l,o)/\l < o/\x < o/\hint+l < n/\P (hint+l)=true)
   (Q:=λc st'=>st'=st/\∃l o,c=(none,l,o)/\l < o/\hint+l < n/\P (hint+l)=true/\(n - hint<=o\/(hint+o < n/\P (hint+o)=false))) ?step ?fin ⟨rfl,0,1,rfl,by omega,by omega,by omega,hp⟩) ?post)
  case fin=>rintro c st' ⟨rfl,l,o,rfl,a,b,d,e⟩;exact{rfl,l,o,rfl,a,d,e,.inl (by omega)}
  case post=>
   rintro c st' ⟨rfl,l,o,rfl,a,d,e,f⟩;dsimp only;refine qcT L hk hG hA mono (by omega) (by omega) (λi hi=>mono i _ (by omega) d e) (λi hi hn=>?_) h;rcases f with f|⟨f,g⟩
   .omega
   .exact monoF _ i (by omega) hn g
  case step=>
   rintro x c st' _ hx ⟨rfl,l,o,rfl,a,b,d,e⟩;dsimp only
   by_cases hge:o≥n - hint
   .rw[if_pos hge];exact aE ⟨rfl,l,o,rfl,a,d,e,.inl hge⟩
   .rw[if_neg hge];let(y,y1,y2,y3):=hA (hint+o) (by omega);refine az (qcS L hk hG y1 y2 ?_);rw[y3]
    cases hq:P (hint+o) with
    |false=>simp![fb,if_true];exact aE ⟨rfl,l,o,rfl,a,d,e,.inr ⟨by omega,hq⟩⟩
    |true=>simp![fc,bo,if_false];exact aE ⟨rfl,o,2 * o+1,rfl,by omega,by omega,by omega,hq⟩
 |false=>
  simp![bo,if_false];unfold gdn;dsimp only
  refine az (cJ (cu (I:=λx c st'=>st'=st/\∃l o,c=(none,l,o)/\l < o/\x < o/\l<=hint/\P (hint - l)=false)
   (Q:=λc st'=>st'=st/\∃l o,c=(none,l,o)/\l < o/\l<=hint/\P (hint - l)=false/\(hint+1<=o\/(o<=hint/\P (hint - o)=true))) ?step ?fin ⟨rfl,0,1,rfl,by omega,by omega,by omega,hp⟩) ?post)
  case fin=>rintro c st' ⟨rfl,l,o,rfl,a,b,d,e⟩;exact{rfl,l,o,rfl,a,d,e,.inl (by omega)}
  case post=>
   rintro c st' ⟨rfl,l,o,rfl,a,d,e,f⟩;dsimp only;refine qcT L hk hG hA mono (by omega) (by omega) (λi hi=>?_) (λi hi hn=>monoF _ i hi hn e) h;rcases f with f|⟨f,g⟩
   .omega
   .exact mono i _ (by omega) (by omega) g
  case step=>
   rintro x c st' _ hx ⟨rfl,l,o,rfl,a,b,d,e⟩;dsimp only
   by_cases hge:o≥hint+1
   .rw[if_pos hge];exact aE ⟨rfl,l,o,rfl,a,d,e,.inl hge⟩
   .rw[if_neg hge];let(y,y1,y2,y3):=hA (hint - o) (by omega);refine az (qcS L hk hG y1 y2 ?_);rw[y3]
    cases hq:P (hint - o) with
    |true=>simp![if_true];exact aE ⟨rfl,l,o,rfl,a,d,e,.inr ⟨by omega,hq⟩⟩
    |false=>simp![bo,if_false];exact aE ⟨rfl,o,2 * o+1,rfl,by omega,by omega,by omega,hq⟩
end
section
variable{O:a7}{kf:ai->O.α}
def le(O:a7)(kf:ai->O.α)(x y:ai):Prop:=O.kle (kf x) (kf y)
def qz{x y z:ai}(h1:le O kf x y)(h2:le O kf y z):le O kf x z:=fO h1 h2
def le_of_lt{x y:ai}(h:O.blt (kf x) (kf y)=true):le O kf x y:=gC h
def qZ{x y:ai}(h:O.blt (kf x) (kf y)=false):le O kf y x:=h
def Srt(O:a7)(kf:ai->O.α)(a:Array ai)(lo hi:Nat):Prop:=∀(i j:Nat) (x y:ai),lo<=i->i<=j->j < hi->a[i]?=some x->a[j]?=some y->le O kf x y
def ji{a:Array ai}{i:Nat}{y:ai}:y∈a.toList.drop i↔∃t:Nat,i<=t/\a[t]?=some y:=by
 rw[List.mem_drop_iff_getElem];constructor
 .rintro⟨t,ht,rfl⟩;refine{i+t,by lia,?_};have h2:i+t < a.size:=by have:=a.length_toList;lia
  rw[c9 h2];simp
 .rintro⟨t,ht,e⟩;let(h2,rfl):=bY.mp e;refine{t - i,by simp;lia,?_}
  have:i+(t - i)=t:=by lia
  simp[this]
def qaW{a:Array ai}{i:Nat}(h:a.size<=i):a.toList.drop i=[]:=iA (-h:)
def yf(a:Array ai)(i:Nat):(a.extract i a.size).toList=a.toList.drop i:=by rw[fP,gD];rw[fQ];simp
def Zv(a:Array ai)(i k:Nat):(a.extract i (i+k)).toList++a.toList.drop (i+k)=a.toList.drop i:=by
 rw[fP,gD]
 have:i+k - i=k:=by lia
 rw[this,<-List.drop_drop];exact iB k _
def qb9{a:Array ai}{i k:Nat}{x:ai}(h:x∈(a.extract i (i+k)).toList):∃t,t < k/\a[i+t]?=some x:=by
 let(t,ht,e):=fT.mp h;have h1:t < (a.extract i (i+k)).size:=by rw[<-bF];exact ht
 have h2:(a.extract i (i+k))[t]'h1=x:=(-e:)
 rw[Array.getElem_extract]at h2;refine{t,?_,?_}
 .rw[iC]at h1;lia
 .rw[<-h2];exact c9 _
def Srt.pw{a:Array ai}(h:Srt O kf a 0 a.size):a.toList.Pairwise (le O kf):=by
 rw[eL];intro i j hi hj hij;have hj':j < a.size:=(-hj:)
 have hi':i < a.size:=(-hi:)
 exact h i j _ _ (1:) (1:) hj' (by simp[hi']) (by simp[hj'])
def Srt.of{a:Array ai}(h:a.toList.Pairwise (le O kf)):Srt O kf a 0 a.size:=by
 rw[eL]at h;intro i j x y _ hij hj e1 e2;let(h1,rfl):=bY.mp e1;let(h2,rfl):=bY.mp e2
 by_cases e:i=j
 .subst e;exact dG _
 .exact h i j (-h1:) (-h2:) (1:)
structure MI(O:a7)(kf:ai->O.α)(a b o:Array ai)(i j:Nat):Prop where
 perm:(o.toList++(a.toList.drop i++b.toList.drop j)).Perm (a.toList++b.toList)
 srt:o.toList.Pairwise (le O kf)
 low:∀x∈o.toList,∀y∈a.toList.drop i++b.toList.drop j,le O kf x y
def Mrg(O:a7)(kf:ai->O.α)(a b r:Array ai):Prop:=r.toList.Perm (a.toList++b.toList)/\r.toList.Pairwise (le O kf)
variable{a b o:Array ai}{i j:Nat}
def qaX{o c ra rb all:List ai}(perm:(o++(c++(ra++rb))).Perm all)(srt:o.Pairwise (le O kf))(low:∀x∈o,∀y∈c++(ra++rb),le O kf x y)(sc:c.Pairwise (le O kf))(hc:∀x∈c,∀y∈ra++rb,le O kf x y) :
  ((o++c)++(ra++rb)).Perm all/\(o++c).Pairwise (le O kf)/\∀x∈o++c,∀y∈ra++rb,le O kf x y:=by
 refine{by rw[bf];exact perm,bU.mpr {srt,sc,λx hx y hy=>low x hx y (bI _ hy)},λx hx y hy=>?_};rcases aV.mp hx with h|h
 .exact low x h y (bb _ hy)
 .exact hc x h y hy
def MI.blockA(h:MI O kf a b o i j)(sa:Srt O kf a 0 a.size){k:Nat}(hc:∀t x,t < k->a[i+t]?=some x->∀y∈b.toList.drop j,le O kf x y):MI O kf a b (o++a.extract i (i+k)) (i+k) j:=by
 have e:=Zv a i k
 have:=qaX (all:=a.toList++b.toList) (o:=o.toList) (c:=(a.extract i (i+k)).toList) (ra:=a.toList.drop (i+k)) (rb:=b.toList.drop j) (by rw[<-bf (a.extract i (i+k)).toList,e];exact h.perm) h.srt (by rw[<-bf (a.extract i (i+k)).toList,e];exact h.low)
  ((sa.pw.sublist (fe i _)).sublist (by rw[<-e];exact mZ _ _)) (λx hx y hy=>by
   let(t,ht,ex):=qb9 hx;rcases aV.mp hy with q|q
   .let(u,hu,ey):=ji.mp q;have hlt:u < a.size:=(bY.mp ey).1;exact sa _ _ _ _ (aZ _) (1:) hlt ex ey
   .exact hc t x ht ex y q)
 exact{by simpa using this.1,(-this.2.1:),(-this.2.2:)}
def MI.blockB(h:MI O kf a b o i j)(sb:Srt O kf b 0 b.size){k:Nat}(hc:∀t x,t < k->b[j+t]?=some x->∀y∈a.toList.drop i,le O kf x y):MI O kf a b (o++b.extract j (j+k)) i (j+k):=by
 have e:=Zv b j k
 have p1:(o.toList++((b.extract j (j+k)).toList++(a.toList.drop i++b.toList.drop (j+k)))).Perm (a.toList++b.toList):=by refine List.Perm.trans (ik _ ?_) h.perm;rw[<-e,<-bf,<-bf];exact mD _ m7
 have:=qaX (all:=a.toList++b.toList) (o:=o.toList) (c:=(b.extract j (j+k)).toList) (ra:=a.toList.drop i) (rb:=b.toList.drop (j+k)) p1 h.srt (λx hx y hy=>h.low x hx y (by
   rw[<-e];rcases aV.mp hy with q|q
   .exact bb _ (bI _ q)
   .rcases aV.mp q with q|q
    .exact bI _ q
    .exact bb _ (bb _ q)))
  ((sb.pw.sublist (fe j _)).sublist (by rw[<-e];exact mZ _ _)) (λx hx y hy=>by
   let(t,ht,ex):=qb9 hx;rcases aV.mp hy with q|q
   .exact hc t x ht ex y q
   .let(u,hu,ey):=ji.mp q;have hlt:u < b.size:=(bY.mp ey).1;exact sb _ _ _ _ (aZ _) (1:) hlt ex ey)
 exact{by simpa using this.1,(-this.2.1:),(-this.2.2:)}
def qca{a:Array ai}{i:Nat}{x:ai}(e:a[i]?=some x):a.extract i (i+1)=#[x]:=by
 let(h,rfl):=bY.mp e;apply Array.ext
 .simp;lia
 .intro t h1 h2
  have:t=0:=by simp at h2;lia
  subst this;simp
def MI.pushA(h:MI O kf a b o i j)(sa:Srt O kf a 0 a.size){x:ai}(e:a[i]?=some x)(hc:∀y∈b.toList.drop j,le O kf x y):MI O kf a b (o.push x) (i+1) j:=by
 have:=h.blockA sa (k:=1) (λt y ht ey z hz=>by
  have:t=0:=by lia
  subst this;rw[iD,e]at ey;cases ey;exact hc z hz)
 rw[qca e]at this;exact this
def MI.pushB(h:MI O kf a b o i j)(sb:Srt O kf b 0 b.size){x:ai}(e:b[j]?=some x)(hc:∀y∈a.toList.drop i,le O kf x y):MI O kf a b (o.push x) i (j+1):=by
 have:=h.blockB sb (k:=1) (λt y ht ey z hz=>by
  have:t=0:=by lia
  subst this;rw[iD,e]at ey;cases ey;exact hc z hz)
 rw[qca e]at this;exact this
def MI.fin(h:MI O kf a b o i j)(sa:Srt O kf a 0 a.size)(sb:Srt O kf b 0 b.size)(z:a.size<=i\/b.size<=j):Mrg O kf a b (o++a.extract i a.size++b.extract j b.size):=by
 have e:(o++a.extract i a.size++b.extract j b.size).toList=o.toList++(a.toList.drop i++b.toList.drop j):=by rw[dn,dn,yf,yf,bf]
 refine{by rw[e];exact h.perm,?_};rw[e];refine bU.mpr ⟨h.srt,?_,h.low⟩;rcases z with z|z
 .rw[qaW z];exact sb.pw.sublist (fe j _)
 .rw[qaW z,b5];exact sa.pw.sublist (fe i _)
def MI.lst(h:MI O kf a b o i j)(sa:Srt O kf a 0 a.size)(sb:Srt O kf b 0 b.size)(z:∀y∈b.toList.drop j,∀x∈a.toList.drop i,le O kf y x):Mrg O kf a b (o++b.extract j b.size++a.extract i a.size):=by
 have e:(o++b.extract j b.size++a.extract i a.size).toList=o.toList++(b.toList.drop j++a.toList.drop i):=by rw[dn,dn,yf,yf,bf]
 refine{by rw[e];exact List.Perm.trans (ik _ m7) h.perm,?_};rw[e]
 refine bU.mpr ⟨h.srt,?_,λx hx y hy=>h.low x hx y (by
  rcases aV.mp hy with q|q
  .exact bb _ q
  .exact bI _ q)⟩
 exact bU.mpr ⟨sb.pw.sublist (fe j _),sa.pw.sublist (fe i _),z⟩
end
section
variable{M:cG}{A:aN}{E:PQ}{s:ah}{O:a7}{kf:ai->O.α}{U:cq}{G:ai->Prop}
def Jm(L:qb8 M A E s O kf U G){left:Bool}{key:ai}{arr:Array ai}{base n hint:Nat}{st:aG}{Q:Option Nat->aG->Prop}(hk:kindOf st=U)(hG:G key)(hA:∀x∈arr.toList,G x)
  (hs:Srt O kf arr base (base+n)) (hn:base+n<=arr.size) (hh:hint < n)
  (h:∀k,k<=n->(∀t x,t < k->arr[base+t]?=some x->pby O kf left key x=true)->(∀t x,k<=t->t < n->arr[base+t]?=some x->pby O kf left key x=false)->Q (some k) st):wpS M A E s (gal left key arr base n hint) Q st:=by
 have at':∀i,i < n->arr[base+i]?=some (arr.getD (base+i) (Value.none,Value.none)):=λi hi=>by
  have:base+i < arr.size:=by lia
  rw[c9 this];simp[this]
 refine ql3 L (P:=λi=>pby O kf left key (arr.getD (base+i) (Value.none,Value.none))) hk hG (λi hi=>{_,at' i hi,hA _ ?_,rfl}) (λi j hij hj hp=>?_) hh (λk hk1 h1 h2=>h k hk1 (λt x ht ex=>?_) (λt x ht htn ex=>?_))
 .let(h1,h2):=bY.mp (at' i hi);rw[<-h2];simp
 .have hle:=hs (base+i) (base+j) _ _ (1:) (1:) (1:) (at' i (1:)) (at' j hj);unfold pby at hp ⊢
  cases left with
  |true=>simp![if_true]at hp ⊢;exact KeyOrd.klt_of_kle_of_klt hle hp
  |false=>simp![bo,if_false,dH]at hp ⊢;exact fO hle hp
 .have:=h1 t ht
  rw[at' t (1:)]at ex;cases ex;exact this
 .have:=h2 t ht htn
  rw[at' t (1:)]at ex;cases ex;exact this
end
def YJ(st:aG)(g:Nat):aG:=gE (kindOf st) (ao st) (aX st) g (d3 st)
section
variable{M:cG}{A:aN}{E:PQ}{s:ah}{α:Type}{Q:α->aG->Prop}{st:aG}
def qA{c:Prop}[Decidable c]{t e:StateT aG Sem α}(h1:c->wpS M A E s t Q st)(h2:¬ c->wpS M A E s e Q st):wpS M A E s (if c then t else e) Q st:=by
 by_cases h:c
 .rw[if_pos h];exact h1 h
 .rw[if_neg h];exact h2 h
def qO{x y:Nat}{t e:StateT aG Sem α}(h1:x=y->wpS M A E s t Q st)(h2:x≠y->wpS M A E s e Q st):wpS M A E s (if (x == y)=true then t else e) Q st:=
 qA (λh=>h1 (beq_iff_eq.mp h)) λh=>h2 λe=>h (beq_iff_eq.mpr e)
theorem Jn{B:Type}{c:Option B}{f:B->StateT aG Sem α}{g:StateT aG Sem α}(h1:∀r,c=some r->wpS M A E s (f r) Q st)(h2:c=none->wpS M A E s g Q st):wpS M A E s (match c with |some r=>f r |none=>g) Q st:=by
 cases c with
 |some r=>exact h1 r rfl
 |none=>exact h2 rfl
def Qy{a:Array ai}{i:Nat}{f:ai->StateT aG Sem α}(h:i < a.size)(k:∀x,a[i]?=some x->x∈a.toList->wpS M A E s (f x) Q st):wpS M A E s (elem' a i >>= f) Q st:=
 az (qN (c9 h) (k a[i] (c9 h) (5:)))
def qqr{ι:Type}{P:ι->Prop}{R:Prop}(h1:(∀i,P i)->R)(h2:∀i,P i):R:=h1 h2
def ql4{ι U:Type}{P:ι->U->Prop}{R:Prop}(H:ι->U->Prop)(h1:(∀i j,H i j->P i j)->R)(h2:∀i j,H i j->P i j):R:=h1 h2
end
section
variable{M:cG}{A:aN}{E:PQ}{s:ah}{O:a7}{kf:ai->O.α}{U:cq}{G:ai->Prop}{a b:Array ai}
structure Two(O:a7)(kf:ai->O.α)(G:ai->Prop)(a b:Array ai):Prop where
 ga:∀x∈a.toList,G x
 gb:∀x∈b.toList,G x
 sa:Srt O kf a 0 a.size
 sb:Srt O kf b 0 b.size
 pa:0 < a.size
 pb:0 < b.size
 first:∀x y,b[0]?=some y->x∈a.toList->le O kf y x
 last:∀x y,a[a.size - 1]?=some x->y∈b.toList->le O kf y x
def Zw{a:Array ai}{i:Nat}(h:i < a.size):∃x,a[i]?=some x/\x∈a.toList:={a[i],c9 h,by simp}
def YK{a:Array ai}{i:Nat}{x:ai}(h:x∈a.toList.drop i):x∈a.toList:=List.mem_of_mem_drop h
def Two.lastOne(T:Two O kf G a b){i j:Nat}(h:i+1=a.size):∀y∈b.toList.drop j,∀x∈a.toList.drop i,le O kf y x:=λy hy x hx=>by
 let(t,ht,e):=ji.mp hx
 have:t < a.size:=(bY.mp e).1
 have e2:t=a.size - 1:=by lia
 subst e2;exact T.last x y e (YK hy)
def Two.leA(T:Two O kf G a b){i:Nat}{x:ai}(e:a[i]?=some x):∀y∈a.toList.drop i,le O kf x y:=λy hy=>by let(t,ht,e'):=ji.mp hy;exact T.sa i t x y (aZ _) ht (bY.mp e').1 e e'
def Two.leB(T:Two O kf G a b){j:Nat}{x:ai}(e:b[j]?=some x):∀y∈b.toList.drop j,le O kf x y:=λy hy=>by let(t,ht,e'):=ji.mp hy;exact T.sb j t x y (aZ _) ht (bY.mp e').1 e e'
def qoV(O:a7)(kf:ai->O.α)(a b:Array ai)(n:Nat)(c:Option (Array ai))(o:Array ai)(i j:Nat):Prop:=
 (∀r,c=some r->Mrg O kf a b r)/\(c=none->MI O kf a b o i j/\i+1 < a.size/\j < b.size/\n<=i+j)
def qcb{O:a7}{kf:ai->O.α}{a b:Array ai}{n:Nat}{r o:Array ai}{i j:Nat}(h:Mrg O kf a b r):qoV O kf a b n (some r) o i j:={λz e=>(by cases e;exact h),λe=>(by cases e)}
def qe5{O:a7}{kf:ai->O.α}{a b:Array ai}{n:Nat}{c:Option (Array ai)}{o:Array ai}{i j:Nat}(e:c=none)(h:MI O kf a b o i j/\i+1 < a.size/\j < b.size/\n<=i+j):qoV O kf a b n c o i j:={λy z=>(by rw[e]at z;cases z),λy=>h}
def ql5(L:qb8 M A E s O kf U G)(T:Two O kf G a b){st:aG}{Q:Array ai->aG->Prop}(hk:kindOf st=U)(h:∀r g,Mrg O kf a b r->Q r (YJ st g)):wpS M A E s (mlo a b) Q st:=by
 have hpa:=T.pa;have hpb:=T.pb;refine az (m:=liftM (rule "list.sort.merge-lo")) (eU (dw ⟨rfl,Qy hpb λy ey my=>?_⟩));have h1:MI O kf a b #[y] 0 1:=(⟨by simp,by simp,by simp⟩:MI O kf a b #[] 0 0).pushB T.sb ey (λx hx=>T.first x y ey (YK hx));refine qO (λhf=>aE (h _ (cx st) (h1.fin T.sa T.sb (.inr (1:))))) λhf1=>qO (λhf=>aE (h _ (cx st) (h1.lst T.sa T.sb (T.lastOne hf)))) λhf2=>az (dM ?_)
 refine az (cJ (cu (I:=λx c st'=>st'=YJ st (cx st')/\MI O kf a b c.2.1 c.2.2.1 c.2.2.2.1/\c.2.2.1+1 < a.size/\c.2.2.2.1 < b.size/\x+1<=c.2.2.1+c.2.2.2.1)
  (Q:=λc st'=>st'=YJ st (cx st')/\c.1≠none/\∀r,c.1=some r->Mrg O kf a b r) (λx c st' v hx hI=>?s0) (λc st' hI=>?f0) ⟨rfl,h1,by lia,by lia,by dsimp only;lia⟩) λc st' hc=>Jn (λr e=>aE (by rw[hc.1];exact h _ _ (hc.2.2 r e))) λe=>absurd e hc.2.1)
 case f0=>
  have:=hI.2.2
  exfalso
  lia
 have hk':kindOf st'=U:=by rw[hI.1];exact hk
 refine az (cJ (cu (I:=λy d st2=>st2=st'/\d.1=none/\MI O kf a b d.2.1 d.2.2.1 d.2.2.2.1/\d.2.2.1+1 < a.size/\d.2.2.2.1 < b.size/\c.2.2.1+c.2.2.2.1+y<=d.2.2.1+d.2.2.2.1)
  (Q:=λd st2=>st2=st'/\qoV O kf a b (c.2.2.1+c.2.2.2.1+1) d.1 d.2.1 d.2.2.1 d.2.2.2.1) (λy d st2 v hy hJ=>?s1) (λd st2 hJ=>?f1) ⟨rfl,rfl,hI.2.1,hI.2.2.1,hI.2.2.2.1,ay _⟩) λd st2 hd=>?p1)
 case f1=>exact{hJ.1,qe5 hJ.2.1 {hJ.2.2.1,hJ.2.2.2.1,hJ.2.2.2.2.1,by have:=hJ.2.2.2.2.2;lia}}
 case s1=>
  have h2:=hJ.2.2.2.1;have h3:=hJ.2.2.2.2.1;have h4:=hJ.2.2.2.2.2;refine Qy h3 λy ey my=>Qy (Nat.lt_of_succ_lt h2) λz ez mz=>az (L y z (T.gb y my) (T.ga z mz) _ _ (by rw[hJ.1];exact hk') ?_);refine qA (λhb=>az (qN ey ?_)) λhb=>az (qN ez ?_)
  .have h5:=hJ.2.2.1.pushB T.sb ey (λw hw=>qz (le_of_lt hb) (T.leA ez w hw));exact qO (λhf=>aE ⟨hJ.1,qcb (h5.fin T.sa T.sb (.inr (1:)))⟩) λhf=>qA (λhg=>aE ⟨hJ.1,qe5 rfl ⟨h5,h2,by dsimp only;lia,by dsimp only;lia⟩⟩) λhg=>aE ⟨hJ.1,rfl,h5,h2,by dsimp only;lia,by dsimp only;lia⟩
  .have h5:=hJ.2.2.1.pushA T.sa ez (λw hw=>qz (qZ (ly.mpr hb)) (T.leB ey w hw));exact qO (λhf=>aE ⟨hJ.1,qcb (h5.lst T.sa T.sb (T.lastOne hf))⟩) λhf=>qA (λhg=>aE ⟨hJ.1,qe5 rfl ⟨h5,by dsimp only;lia,h3,by dsimp only;lia⟩⟩) λhg=>aE ⟨hJ.1,rfl,h5,by dsimp only;lia,h3,by dsimp only;lia⟩
 refine Jn (λr e=>aE ⟨by rw[hd.1];exact hI.1,iE _,λr' e'=>hd.2.1 r' (e.trans e')⟩) λe=>?_;have q:=hd.2.2 e;refine az (eU (dw ⟨rfl,?_⟩))
 refine az (cJ (cu (I:=λv u st3=>st3=YJ st (cx st3)/\u.1=none/\MI O kf a b u.2.1 u.2.2.1 u.2.2.2.1/\u.2.2.1+1 < a.size/\u.2.2.2.1 < b.size/\d.2.2.1+d.2.2.2.1<=u.2.2.1+u.2.2.2.1)
  (Q:=λu st3=>st3=YJ st (cx st3)/\qoV O kf a b (d.2.2.1+d.2.2.2.1) u.1 u.2.1 u.2.2.1 u.2.2.2.1) (λv u st3 v v hJ=>?s2) (λu st3 hJ=>{hJ.1,qe5 hJ.2.1 hJ.2.2}) ⟨by rw[hd.1];exact hI.1,rfl,q.1,q.2.1,q.2.2.1,ay _⟩) λu st3 hu=>Jn (λr e=>aE ⟨hu.1,iE _,λr' e'=>hu.2.1 r' (e.trans e')⟩) λe=>az (d6 (aE ⟨by rw[hu.1];rfl,(hu.2.2 e).1,(hu.2.2 e).2.1,(hu.2.2 e).2.2.1,?l2⟩)))
 case l2=>
  have:=(hu.2.2 e).2.2.2
  have:=q.2.2.2
  dsimp only
  lia
 extract_lets s1 o s2 i s3 j s4 mg s5 ac bc j1 jp
 have h1:MI O kf a b o i j:=hJ.2.2.1;have h2:i+1 < a.size:=hJ.2.2.2.1;have h3:j < b.size:=hJ.2.2.2.2.1;have h4:d.2.2.1+d.2.2.2.1<=i+j:=hJ.2.2.2.2.2;have ej1:j1=j+1:=rfl;refine qqr (P:=λm=>wpS M A E s (jp ⟨⟩ m) _ _) (λgo=>qA (λv=>go _) λv=>go _) λm=>?_;refine az (d6 (f:=λst=>YJ st m) (Qy h3 λy ey my=>az (Jm L (by rw[hJ.1];exact hk) (T.gb y my) T.ga (λi' j' x y h1 h2 h3=>T.sa i' j' x y (aZ _) h2 (1:)) (1:) (1:) λk hk1 ha1 ha2=>?_)));have es:∀g,YJ st3 g=YJ st (cx (YJ st3 g)):=λg=>by rw[hJ.1];rfl
 have h6:=h1.blockA T.sa (k:=k) λt x ht ex w hw=>by
  have:=ha1 t x ht ex
  unfold pby at this;simp![bo,if_false,dH]at this;exact qz (qZ this) (T.leB ey w hw)
 have rest:∀w∈a.toList.drop (i+k),le O kf y w:=λw hw=>by
  let(t,ht,e):=ji.mp hw;have hlt:t < a.size:=(bY.mp e).1
  have:=ha2 (t - i) w (1:) (1:) (by rw[show i+(t - i)=t by lia];exact e)
  unfold pby at this;simp![bo,if_false,lA]at this;exact le_of_lt this
 dsimp -zeta only
 extract_lets ac2 jp2 o2 i2
 have e2:i2=i+k:=rfl
 refine ql4 (P:=λo i=>wpS M A E s (jp2 ⟨⟩ o i) _ _) (λo' i'=>MI O kf a b o' i' j/\i'+1 < a.size/\i<=i'/\∀w∈a.toList.drop i',le O kf y w) (λgo=>qA (λhk0=>
  qO (λhf=>aE ⟨es m,qcb (h6.lst T.sa T.sb (T.lastOne hf))⟩) λhf1=>qO (λhf=>aE ⟨es m,qcb (h6.fin T.sa T.sb (.inl (1:)))⟩) λhf2=>go _ _ ⟨h6,by lia,by lia,rest⟩)
  λhk0=>go _ _ ⟨h1,h2,ay _,by rw[show i+k=i by lia]at rest;exact rest⟩) λo3 i3 g=>az (qN ey ?_)
 have g2:=g.2.1;have g3:=g.2.2.1;have h5:=g.1.pushB T.sb ey g.2.2.2;refine qO (λhf=>aE ⟨es m,qcb (h5.fin T.sa T.sb (.inr (1:)))⟩) λhf1=>Qy (Nat.lt_of_succ_lt g2) λz ez mz=>az (Jm L (by rw[hJ.1];exact hk) (T.ga z mz) T.gb (λi' j' x y h1 h2 h3=>T.sb i' j' x y (aZ _) h2 (1:)) (1:) (1:) λk hk1 hb1 hb2=>?_)
 have h7:=h5.blockB T.sb (k:=k) λt x ht ex w hw=>by
  have:=hb1 t x ht ex
  unfold pby at this;simp![if_true]at this;exact qz (le_of_lt this) (T.leA ez w hw)
 have rest:∀w∈b.toList.drop (j+1+k),le O kf z w:=λw hw=>by
  let(t,ht,e):=ji.mp hw;have hlt:t < b.size:=(bY.mp e).1
  have:=hb2 (t - (j+1)) w (1:) (1:) (by rw[ej1,show j+1+(t - (j+1))=t by lia];exact e)
  unfold pby at this;simp![if_true]at this;exact qZ this
 dsimp -zeta only
 extract_lets bc2 i4 jp3 o4 j4
 have e5:i4=i3+1:=rfl;have e4:j4=j+1+k:=rfl
 refine ql4 (P:=λo j=>wpS M A E s (jp3 ⟨⟩ o j) _ _) (λo' j'=>MI O kf a b o' i3 j'/\j' < b.size/\j < j'/\∀w∈b.toList.drop j',le O kf z w) (λgo=>qA (λhk0=>
  qO (λhf=>aE ⟨es m,qcb (h7.fin T.sa T.sb (.inr (1:)))⟩) λhf=>go _ _ ⟨h7,by lia,by lia,rest⟩)
  λhk0=>go _ _ ⟨h5,by lia,by lia,by rw[show j+1+k=j1 by lia]at rest;exact rest⟩) λo5 j5 f=>az (qN ez ?_)
 have f2:=f.2.1;have f3:=f.2.2.1;have h8:=f.1.pushA T.sa ez f.2.2.2;exact qO (λhf=>aE ⟨es m,qcb (h8.lst T.sa T.sb (T.lastOne hf))⟩) λhf=>qA (λv=>aE ⟨es m,qe5 rfl ⟨h8,by dsimp only;lia,f2,by dsimp only;lia⟩⟩) λv=>aE ⟨es m,rfl,h8,by dsimp only;lia,f2,by dsimp only;lia⟩
end
section
variable{O:a7}{kf:ai->O.α}{G:ai->Prop}{a b o:Array ai}{p q:Nat}
def jk{a:Array ai}{p:Nat}{y:ai}:y∈a.toList.take p↔∃t:Nat,t < p/\a[t]?=some y:=by
 rw[m8];constructor
 .rintro⟨t,ht,rfl⟩;have h2:t < a.size:=by have:=a.length_toList;lia
  exact{t,by lia,by rw[c9 h2];simp}
 .rintro⟨t,ht,e⟩;let(h2,rfl):=bY.mp e;exact{t,by simp;lia,by simp}
def jl(a:Array ai)(p:Nat):(a.extract 0 p).toList=a.toList.take p:=by rw[fP,gD];simp
def qcU(a:Array ai){u p:Nat}(h:u<=p):a.toList.take u++(a.extract u p).toList=a.toList.take p:=by
 rw[fP,gD];have e:p=u+(p - u):=by lia
 conv=>rhs;rw[e,List.take_add]
def zG{a:Array ai}{u p:Nat}{x:ai}(h:x∈(a.extract u p).toList):∃t,u<=t/\t < p/\a[t]?=some x:=by
 by_cases hup:u<=p
 .have e:p=u+(p - u):=by lia
  rw[e]at h;let(t,ht,ex):=qb9 h;exact{u+t,by lia,by lia,ex}
 .rw[fP,gD,show p - u=0 by lia]at h;simp at h
structure HI(O:a7)(kf:ai->O.α)(a b o:Array ai)(p q:Nat):Prop where
 perm:(a.toList.take p++(b.toList.take q++o.toList.reverse)).Perm (a.toList++b.toList)
 srt:o.toList.Pairwise (λx y=>le O kf y x)
 hi:∀x∈o.toList,∀y∈a.toList.take p++b.toList.take q,le O kf y x
def HI.blockA(h:HI O kf a b o p q)(sa:Srt O kf a 0 a.size)(hp:p<=a.size){u:Nat}(hu:u<=p)(hc:∀t x,u<=t->t < p->a[t]?=some x->∀y∈b.toList.take q,le O kf y x):HI O kf a b (o++(a.extract u p).reverse) u q:=by
 have e:=qcU a hu;refine{?_,?_,λx hx y hy=>?_}
 .have e2:(o++(a.extract u p).reverse).toList.reverse=(a.extract u p).toList++o.toList.reverse:=by simp
  rw[e2];refine List.Perm.trans ?_ h.perm;rw[<-e,bf];exact ik _ (m9 _ _ _)
 .rw[dn,fU];refine bU.mpr ⟨h.srt,?_,λx hx y hy=>h.hi x hx y (bI _ (by rw[<-e];exact bb _ (ff.mp hy)))⟩;rw[gF];exact(sa.pw.sublist (eI p _)).sublist (by rw[<-e];exact nc _ _)
 .rw[dn,fU]at hx;rcases aV.mp hx with hx|hx
  .refine h.hi x hx y ?_;rcases aV.mp hy with hy|hy
   .exact bI _ (by rw[<-e];exact bI _ hy)
   .exact bb _ hy
  .let(t,t1,t2,et):=zG (ff.mp hx);rcases aV.mp hy with hy|hy
   .let(w,w1,ew):=jk.mp hy;exact sa w t y x (aZ _) (1:) (1:) ew et
   .exact hc t x t1 t2 et y hy
def HI.blockB(h:HI O kf a b o p q)(sb:Srt O kf b 0 b.size)(hq:q<=b.size){u:Nat}(hu:u<=q)(hc:∀t x,u<=t->t < q->b[t]?=some x->∀y∈a.toList.take p,le O kf y x):HI O kf a b (o++(b.extract u q).reverse) p u:=by
 have e:=qcU b hu;refine{?_,?_,λx hx y hy=>?_}
 .have e2:(o++(b.extract u q).reverse).toList.reverse=(b.extract u q).toList++o.toList.reverse:=by simp
  rw[e2]
  have:=h.perm
  rw[<-e,bf]at this;exact this
 .rw[dn,fU];refine bU.mpr ⟨h.srt,?_,λx hx y hy=>h.hi x hx y (bb _ (by rw[<-e];exact bb _ (ff.mp hy)))⟩;rw[gF];exact(sb.pw.sublist (eI q _)).sublist (by rw[<-e];exact nc _ _)
 .rw[dn,fU]at hx;rcases aV.mp hx with hx|hx
  .refine h.hi x hx y ?_;rcases aV.mp hy with hy|hy
   .exact bI _ hy
   .exact bb _ (by rw[<-e];exact bI _ hy)
  .let(t,t1,t2,et):=zG (ff.mp hx);rcases aV.mp hy with hy|hy
   .exact hc t x t1 t2 et y hy
   .let(w,w1,ew):=jk.mp hy;exact sb w t y x (aZ _) (1:) (1:) ew et
def qe6{a:Array ai}{p:Nat}{x:ai}(h:0 < p)(e:a[p - 1]?=some x):(a.extract (p - 1) p).reverse=#[x]:=by
 have:=qca e
 rw[show p - 1+1=p by lia]at this;rw[this];rfl
def HI.pushA(h:HI O kf a b o p q)(sa:Srt O kf a 0 a.size)(hp:p<=a.size)(h0:0 < p){x:ai}(e:a[p - 1]?=some x)(hc:∀y∈b.toList.take q,le O kf y x):HI O kf a b (o.push x) (p - 1) q:=by
 have:=h.blockA sa hp (u:=p - 1) (1:) (λt y h1 h2 ey z hz=>by
  have:t=p - 1:=by lia
  subst this;rw[e]at ey;cases ey;exact hc z hz)
 rw[qe6 h0 e]at this;exact this
def HI.pushB(h:HI O kf a b o p q)(sb:Srt O kf b 0 b.size)(hq:q<=b.size)(h0:0 < q){x:ai}(e:b[q - 1]?=some x)(hc:∀y∈a.toList.take p,le O kf y x):HI O kf a b (o.push x) p (q - 1):=by
 have:=h.blockB sb hq (u:=q - 1) (1:) (λt y h1 h2 ey z hz=>by
  have:t=q - 1:=by lia
  subst this;rw[e]at ey;cases ey;exact hc z hz)
 rw[qe6 h0 e]at this;exact this
def HI.fin(h:HI O kf a b o p q)(sa:Srt O kf a 0 a.size)(sb:Srt O kf b 0 b.size)(z:p=0\/q=0):Mrg O kf a b (a.extract 0 p++b.extract 0 q++o.reverse):=by
 have e:(a.extract 0 p++b.extract 0 q++o.reverse).toList=a.toList.take p++(b.toList.take q++o.toList.reverse):=by rw[dn,dn,jl,jl,fU,bf]
 refine{by rw[e];exact h.perm,?_};rw[e,<-bf];refine bU.mpr ⟨?_,by rw[gF];exact h.srt,λx hx y hy=>h.hi y (ff.mp hy) x hx⟩;rcases z with z|z
 .subst z
  simpa using sb.pw.sublist (eI q _)
 .subst z
  simpa using sa.pw.sublist (eI p _)
def HI.fst(h:HI O kf a b o p q)(sa:Srt O kf a 0 a.size)(sb:Srt O kf b 0 b.size)(z:∀y∈b.toList.take q,∀x∈a.toList.take p,le O kf y x):Mrg O kf a b (b.extract 0 q++a.extract 0 p++o.reverse):=by
 have e:(b.extract 0 q++a.extract 0 p++o.reverse).toList=b.toList.take q++(a.toList.take p++o.toList.reverse):=by rw[dn,dn,jl,jl,fU,bf]
 refine{by rw[e];exact List.Perm.trans (m9 _ _ _) h.perm,?_};rw[e,<-bf];refine bU.mpr ⟨bU.mpr ⟨sb.pw.sublist (eI q _),sa.pw.sublist (eI p _),z⟩,by rw[gF];exact h.srt,λx hx y hy=>h.hi y (ff.mp hy) x ?_⟩;rcases aV.mp hx with hx|hx
 .exact bb _ hx
 .exact bI _ hx
def Two.firstOne(T:Two O kf G a b){p q:Nat}(h:q=1):∀y∈b.toList.take q,∀x∈a.toList.take p,le O kf y x:=λy hy x hx=>by
 let(t,ht,e):=jk.mp hy
 have:t=0:=by lia
 subst this;exact T.first x y e (List.mem_of_mem_take hx)
def Two.geA(T:Two O kf G a b){p:Nat}{x:ai}(e:a[p - 1]?=some x):∀y∈a.toList.take p,le O kf y x:=λy hy=>by let(t,ht,e'):=jk.mp hy;exact T.sa t (p - 1) y x (aZ _) (1:) (bY.mp e).1 e' e
def Two.geB(T:Two O kf G a b){q:Nat}{x:ai}(e:b[q - 1]?=some x):∀y∈b.toList.take q,le O kf y x:=λy hy=>by let(t,ht,e'):=jk.mp hy;exact T.sb t (q - 1) y x (aZ _) (1:) (bY.mp e).1 e' e
end
section
variable{M:cG}{A:aN}{E:PQ}{s:ah}{O:a7}{kf:ai->O.α}{U:cq}{G:ai->Prop}{a b:Array ai}
def qoW(O:a7)(kf:ai->O.α)(a b:Array ai)(n:Nat)(c:Option (Array ai))(p q:Nat)(o:Array ai):Prop:=
 (∀r,c=some r->Mrg O kf a b r)/\(c=none->HI O kf a b o p q/\0 < p/\p<=a.size/\1 < q/\q<=b.size/\p+q<=n)
def YL{n:Nat}{r o:Array ai}{p q:Nat}(h:Mrg O kf a b r):qoW O kf a b n (some r) p q o:={λz e=>(by cases e;exact h),λe=>(by cases e)}
def qaY{n:Nat}{c:Option (Array ai)}{o:Array ai}{p q:Nat}(e:c=none)(h:HI O kf a b o p q/\0 < p/\p<=a.size/\1 < q/\q<=b.size/\p+q<=n):qoW O kf a b n c p q o:={λy z=>(by rw[e]at z;cases z),λy=>h}
def ql6(L:qb8 M A E s O kf U G)(T:Two O kf G a b){st:aG}{Q:Array ai->aG->Prop}(hk:kindOf st=U)(h:∀r g,Mrg O kf a b r->Q r (YJ st g)):wpS M A E s (mhi a b) Q st:=by
 have hpa:=T.pa;have hpb:=T.pb;refine az (m:=liftM (rule "list.sort.merge-hi")) (eU (dw ⟨rfl,Qy (show a.size - 1 < a.size by lia) λy ey my=>?_⟩));have h0:HI O kf a b #[] a.size b.size:={by rw[<-bF,<-bF,gH,gH];simp,by simp,by simp};have h1:HI O kf a b #[y] (a.size - 1) b.size:=h0.pushA T.sa (ay _) hpa ey (λx hx=>T.last y x ey (List.mem_of_mem_take hx));refine qO (λhf=>aE (h _ (cx st) (h1.fin T.sa T.sb (.inl hf)))) λhf1=>qO (λhf=>aE (h _ (cx st) (h1.fst T.sa T.sb (T.firstOne hf)))) λhf2=>az (dM ?_)
 refine az (cJ (cu (I:=λx c st'=>st'=YJ st (cx st')/\HI O kf a b c.2.2.2.1 c.2.1 c.2.2.1/\0 < c.2.1/\c.2.1<=a.size/\1 < c.2.2.1/\c.2.2.1<=b.size/\c.2.1+c.2.2.1+x+1<=a.size+b.size)
  (Q:=λc st'=>st'=YJ st (cx st')/\c.1≠none/\∀r,c.1=some r->Mrg O kf a b r) (λx c st' v hx hI=>?s0) (λc st' hI=>?f0) ⟨rfl,h1,by dsimp only;lia,by dsimp only;lia,by dsimp only;lia,ay _,by dsimp only;lia⟩) λc st' hc=>Jn (λr e=>aE (by rw[hc.1];exact h _ _ (hc.2.2 r e))) λe=>absurd e hc.2.1)
 case f0=>
  have:=hI.2.2
  exfalso
  lia
 have hk':kindOf st'=U:=by rw[hI.1];exact hk
 have hc:=hI.2.2
 refine az (cJ (cu (I:=λy d st2=>st2=st'/\d.1=none/\HI O kf a b d.2.2.2.1 d.2.1 d.2.2.1/\0 < d.2.1/\d.2.1<=a.size/\1 < d.2.2.1/\d.2.2.1<=b.size/\d.2.1+d.2.2.1+y<=c.2.1+c.2.2.1)
  (Q:=λd st2=>st2=st'/\qoW O kf a b (c.2.1+c.2.2.1 - 1) d.1 d.2.1 d.2.2.1 d.2.2.2.1) (λy d st2 v hy hJ=>?s1) (λd st2 hJ=>?f1) ⟨rfl,rfl,hI.2.1,hc.1,hc.2.1,hc.2.2.1,hc.2.2.2.1,ay _⟩) λd st2 hd=>?p1)
 case f1=>have h6:=hJ.2.2.2.2.2.2.2;exact{hJ.1,qaY hJ.2.1 {hJ.2.2.1,hJ.2.2.2.1,hJ.2.2.2.2.1,hJ.2.2.2.2.2.1,hJ.2.2.2.2.2.2.1,by lia}}
 case s1=>
  have h2:=hJ.2.2.2.1;have h3:=hJ.2.2.2.2.1;have h4:=hJ.2.2.2.2.2.1;have h5:=hJ.2.2.2.2.2.2.1;have h6:=hJ.2.2.2.2.2.2.2;refine Qy (show d.2.2.1 - 1 < b.size by lia) λy ey my=>Qy (show d.2.1 - 1 < a.size by lia) λz ez mz=>az (L y z (T.gb y my) (T.ga z mz) _ _ (by rw[hJ.1];exact hk') ?_);refine qA (λhb=>az (qN ez ?_)) λhb=>az (qN ey ?_)
  .have h7:=hJ.2.2.1.pushA T.sa h3 h2 ez (λw hw=>qz (T.geB ey w hw) (le_of_lt hb));exact qO (λhf=>aE ⟨hJ.1,YL (h7.fin T.sa T.sb (.inl hf))⟩) λhf=>qA (λhg=>aE ⟨hJ.1,qaY rfl ⟨h7,by dsimp only;lia,by dsimp only;lia,h4,h5,by dsimp only;lia⟩⟩) λhg=>aE ⟨hJ.1,rfl,h7,by dsimp only;lia,by dsimp only;lia,h4,h5,by dsimp only;lia⟩
  .have h7:=hJ.2.2.1.pushB T.sb h5 (1:) ey (λw hw=>qz (T.geA ez w hw) (qZ (ly.mpr hb)));exact qO (λhf=>aE ⟨hJ.1,YL (h7.fst T.sa T.sb (T.firstOne hf))⟩) λhf=>qA (λhg=>aE ⟨hJ.1,qaY rfl ⟨h7,h2,h3,by dsimp only;lia,by dsimp only;lia,by dsimp only;lia⟩⟩) λhg=>aE ⟨hJ.1,rfl,h7,h2,h3,by dsimp only;lia,by dsimp only;lia,by dsimp only;lia⟩
 refine Jn (λr e=>aE ⟨by rw[hd.1];exact hI.1,iE _,λr' e'=>hd.2.1 r' (e.trans e')⟩) λe=>?_;have q:=hd.2.2 e;refine az (eU (dw ⟨rfl,?_⟩))
 refine az (cJ (cu (I:=λv u st3=>st3=YJ st (cx st3)/\u.1=none/\HI O kf a b u.2.2.2.1 u.2.1 u.2.2.1/\0 < u.2.1/\u.2.1<=a.size/\1 < u.2.2.1/\u.2.2.1<=b.size/\u.2.1+u.2.2.1<=c.2.1+c.2.2.1 - 1)
  (Q:=λu st3=>st3=YJ st (cx st3)/\qoW O kf a b (c.2.1+c.2.2.1 - 1) u.1 u.2.1 u.2.2.1 u.2.2.2.1) (λv u st3 v v hJ=>?s2) (λu st3 hJ=>{hJ.1,qaY hJ.2.1 hJ.2.2}) ⟨by rw[hd.1];exact hI.1,rfl,q⟩) λu st3 hu=>Jn (λr e=>aE ⟨hu.1,iE _,λr' e'=>hu.2.1 r' (e.trans e')⟩) λe=>az (d6 (aE ⟨by rw[hu.1];rfl,(hu.2.2 e).1,(hu.2.2 e).2.1,(hu.2.2 e).2.2.1,(hu.2.2 e).2.2.2.1,(hu.2.2 e).2.2.2.2.1,?l2⟩)))
 case l2=>
  have:=(hu.2.2 e).2.2.2.2.2
  have:=hc.2.2.2.2
  have:=hc.1
  dsimp only
  lia
 extract_lets s1 p s2 q' s3 o s4 mg s5 ac bc q1 jp
 have h1:HI O kf a b o p q':=hJ.2.2.1;have h2:0 < p:=hJ.2.2.2.1;have h3:p<=a.size:=hJ.2.2.2.2.1;have h4:1 < q':=hJ.2.2.2.2.2.1;have h5:q'<=b.size:=hJ.2.2.2.2.2.2.1;have h6:p+q'<=c.2.1+c.2.2.1 - 1:=hJ.2.2.2.2.2.2.2;have eq1:q1=q' - 1:=rfl;refine qqr (P:=λm=>wpS M A E s (jp ⟨⟩ m) _ _) (λgo=>qA (λv=>go _) λv=>go _) λm=>?_;refine az (d6 (f:=λst=>YJ st m) (Qy (show q' - 1 < b.size by lia) λy ey my=>az (Jm L (by rw[hJ.1];exact hk) (T.gb y my) T.ga (λi' j' x y h1 h2 h3=>T.sa i' j' x y (aZ _) h2 (1:)) (1:) (1:) λu hu1 ha1 ha2=>?_)));have es:∀g,YJ st3 g=YJ st (cx (YJ st3 g)):=λg=>by rw[hJ.1];rfl
 have h8:=h1.blockA T.sa h3 (u:=u) (1:) (λt x t1 t2 ex w hw=>by
  have:=ha2 t x t1 (1:) (by rw[fV];exact ex)
  unfold pby at this;simp![bo,if_false,lA]at this;exact qz (T.geB ey w hw) (le_of_lt this))
 have rest:∀w∈a.toList.take u,le O kf w y:=λw hw=>by
  let(t,ht,e):=jk.mp hw
  have:=ha1 t w ht (by rw[fV];exact e)
  unfold pby at this;simp![bo,if_false,dH]at this;exact qZ this
 dsimp -zeta only
 extract_lets k ac2 jp2 o2 p2
 have ek:k=p - u:=rfl;have e2:p2=u:=rfl
 refine ql4 (P:=λp o=>wpS M A E s (jp2 ⟨⟩ p o) _ _) (λp' o'=>HI O kf a b o' p' q'/\0 < p'/\p'<=p/\∀w∈a.toList.take p',le O kf w y) (λgo=>qA (λhk0=>
  qO (λhf=>aE ⟨es m,YL (h8.fin T.sa T.sb (.inl hf))⟩) λhf1=>go _ _ ⟨h8,by lia,by lia,rest⟩)
  λhk0=>go _ _ ⟨h1,h2,ay _,by rw[show u=p by lia]at rest;exact rest⟩) λp3 o3 g=>az (qN ey ?_)
 have g2:=g.2.1;have g3:=g.2.2.1;have h7:=g.1.pushB T.sb h5 (1:) ey g.2.2.2;refine qO (λhf=>aE ⟨es m,YL (h7.fst T.sa T.sb (T.firstOne hf))⟩) λhf1=>Qy (show p3 - 1 < a.size by lia) λz ez mz=>az (Jm L (by rw[hJ.1];exact hk) (T.ga z mz) T.gb (λi' j' x y h1 h2 h3=>T.sb i' j' x y (aZ _) h2 (1:)) (1:) (1:) λu hu1 hb1 hb2=>?_)
 have h8:=h7.blockB T.sb (1:) (u:=u) (1:) (λt x t1 t2 ex w hw=>by
  have:=hb2 t x t1 (1:) (by rw[fV];exact ex)
  unfold pby at this;simp![if_true]at this;exact qz (T.geA ez w hw) (qZ this))
 have rest:∀w∈b.toList.take u,le O kf w z:=λw hw=>by
  let(t,ht,e):=jk.mp hw
  have:=hb1 t w ht (by rw[fV];exact e)
  unfold pby at this;simp![if_true]at this;exact le_of_lt this
 dsimp -zeta only
 extract_lets k2 bc2 p4 jp3 o4 q4
 have ek:k2=q1 - u:=rfl;have e4:q4=u:=rfl;have e5:p4=p3 - 1:=rfl
 refine ql4 (P:=λq o=>wpS M A E s (jp3 ⟨⟩ q o) _ _) (λq5 o'=>HI O kf a b o' p3 q5/\1 < q5/\q5 < q'/\∀w∈b.toList.take q5,le O kf w z) (λgo=>qA (λhk0=>
  qO (λhf=>aE ⟨es m,YL (h8.fst T.sa T.sb (T.firstOne hf))⟩) λhf1=>qO (λhf=>aE ⟨es m,YL (h8.fin T.sa T.sb (.inr hf))⟩) λhf2=>go _ _ ⟨h8,by lia,by lia,rest⟩)
  λhk0=>go _ _ ⟨h7,by lia,by lia,by rw[show u=q1 by lia]at rest;exact rest⟩) λq5 o5 f=>az (qN ez ?_)
 have f2:=f.2.1;have f3:=f.2.2.1;have h9:=f.1.pushA T.sa (1:) g2 ez f.2.2.2;exact qO (λhf=>aE ⟨es m,YL (h9.fin T.sa T.sb (.inl hf))⟩) λhf=>qA (λv=>aE ⟨es m,qaY rfl ⟨h9,by dsimp only;lia,by dsimp only;lia,f2,by dsimp only;lia,by dsimp only;lia⟩⟩) λv=>aE ⟨es m,rfl,h9,by dsimp only;lia,by dsimp only;lia,f2,by dsimp only;lia,by dsimp only;lia⟩
end
section
variable{O:a7}{kf:ai->O.α}
def KA(O:a7)(kf:ai->O.α)(xs:Array ai)(i:Nat):O.α:=kf (xs[i]?.getD (Value.none,Value.none))
def Inc(O:a7)(kf:ai->O.α)(xs:Array ai)(lo hi:Nat):Prop:=∀i j,lo<=i->i<=j->j < hi->O.kle (KA O kf xs i) (KA O kf xs j)
def Dec(O:a7)(kf:ai->O.α)(xs:Array ai)(lo hi:Nat):Prop:=∀i j,lo<=i->i<=j->j < hi->O.kle (KA O kf xs j) (KA O kf xs i)
def yK{xs ys:Array ai}{i j:Nat}(h:xs[i]?=ys[j]?):KA O kf xs i=KA O kf ys j:=by unfold KA;rw[h]
def qhi{xs:Array ai}{i:Nat}{x:ai}(h:xs[i]?=some x):KA O kf xs i=kf x:=by unfold KA;rw[h];rfl
def Inc.srt{xs:Array ai}{lo hi:Nat}(h:Inc O kf xs lo hi):Srt O kf xs lo hi:=λi j x y h1 h2 h3 e1 e2=>by
 have:=h i j h1 h2 h3
 rw[qhi e1,qhi e2]at this;exact this
def YM{xs:Array ai}{i j:Nat}(hj:j<=xs.size)(k:Nat):KA O kf (mirror xs i j ((j - i) / 2)) k=if i<=k/\k < j then KA O kf xs (i+j - 1 - k) else KA O kf xs k:=by
 have e:=getElem?_mirror_all (i:=i) hj k
 by_cases h:i<=k/\k < j
 .rw[if_pos h]at e ⊢;exact yK e
 .rw[if_neg h]at e ⊢;exact yK e
def zc{xs:Array ai}{i j:Nat}(hj:j<=xs.size)(heq:∀k,i<=k->k < j->KA O kf xs k=KA O kf xs (j - 1))(k:Nat):KA O kf (mirror xs i j ((j - i) / 2)) k=KA O kf xs k:=by
 rw[YM hj];split
 .rw[heq _ (1:) (1:),heq k (1:) (1:)]
 .rfl
def qaZ{xs:Array ai}{src d:Nat}(hs:src < xs.size)(hd:d<=src)(k:Nat) :
  KA O kf (bubble xs src d) k=if k=src - d then KA O kf xs src else if src - d < k/\k<=src then KA O kf xs (k - 1) else KA O kf xs k:=by
 have e:=getElem?_bubble hs d hd k
 by_cases h1:k=src - d
 .rw[if_pos h1]at e ⊢;exact yK e
 .rw[if_neg h1]at e ⊢
  by_cases h2:src - d < k/\k<=src
  .rw[if_pos h2]at e ⊢;exact yK e
  .rw[if_neg h2]at e ⊢;exact yK e
structure Re(lo:Nat)(xs ys:Array ai):Prop where
 perm:ys.Perm xs
 keep:∀k,k < lo->ys[k]?=xs[k]?
def Re.refl(lo:Nat)(xs:Array ai):Re lo xs xs:={Array.Perm.refl _,λz z=>rfl}
def Re.trans{lo:Nat}{xs ys zs:Array ai}(a:Re lo xs ys)(b:Re lo ys zs):Re lo xs zs:={b.perm.trans a.perm,λk h=>(b.keep k h).trans (a.keep k h)}
def Re.size{lo:Nat}{xs ys:Array ai}(a:Re lo xs ys):ys.size=xs.size:=a.perm.size_eq
def Re.mirror{lo i j:Nat}{xs:Array ai}(hi:lo<=i)(hj:j<=xs.size):Re lo xs (mirror xs i j ((j - i) / 2)):={mirror_perm _ _ _ _,λk h=>by rw[getElem?_mirror_all hj k,if_neg (1:)]}
def Re.bubble{lo src d:Nat}{xs:Array ai}(hs:src < xs.size)(hd:lo+d<=src):Re lo xs (bubble xs src d):={bubble_perm _ _ _,λk h=>by rw[getElem?_bubble hs d (1:),if_neg (1:),if_neg (1:)]}
def Re.mem{lo:Nat}{xs ys:Array ai}(a:Re lo xs ys){G:ai->Prop}(h:∀x∈xs.toList,G x):∀x∈ys.toList,G x:=λx hx=>h x ((gI.mp a.perm).mem_iff.mp hx)
end
abbrev ASt:=Option (Option Nat)×Nat
abbrev BSt:=Option (Option Nat)×Nat×Nat
def asc(lo a nrem:Nat):StateT aG Sem ASt:=
 forIn [a:nrem] ((none,a):ASt) λz c=>do
  let r<-ltAt' (lo+c.2) (lo+c.2 - 1)
  match r with
  |some sm=>if sm=true then pure (.done (none,c.2)) else pure (.yield (none,c.2+1))
  |_=>pure (.done (some none,c.2))
def dsc(lo a nrem:Nat):StateT aG Sem BSt:=
 forIn [a:nrem] ((none,a,0):BSt) λz c=>do
  let r<-ltAt' (lo+c.2.1) (lo+c.2.1 - 1)
  match r with
  |some sm=>
   if sm=true then
    if c.2.2 > 0 then do
     reverseSlice' (lo+c.2.1 - (c.2.2+1)) (lo+c.2.1)
     pure (.yield (none,c.2.1+1,0))
    else pure (.yield (none,c.2.1+1,0))
   else do
    let r<-ltAt' (lo+c.2.1 - 1) (lo+c.2.1)
    match r with
    |some lg=>if lg=true then pure (.done (none,c.2.1,c.2.2)) else pure (.yield (none,c.2.1+1,c.2.2+1))
    |_=>pure (.done (some none,c.2.1,c.2.2))
  |_=>pure (.done (some none,c.2.1,c.2.2))
section
variable{M:cG}{A:aN}{E:PQ}{s:ah}{O:a7}{kf:ai->O.α}{U:cq}{G:ai->Prop}
def YN(L:qb8 M A E s O kf U G){st:aG}{i j:Nat}{Q:Option Bool->aG->Prop}(hk:kindOf st=U)(hG:∀x∈(ao st).toList,G x)(hi:i < (ao st).size)(hj:j < (ao st).size)
  (h:Q (some (O.blt (KA O kf (ao st) i) (KA O kf (ao st) j))) st):wpS M A E s (ltAt' i j) Q st:=by
 rw[ltAt'_eq];refine az (dM ?_);let(x,ex,mx):=Zw hi;let(y,ey,my):=Zw hj;rw[qhi ex,qhi ey]at h;exact az (qN ex (az (qN ey (L x y (hG x mx) (hG y my) st Q hk h))))
def qcV{i j:Nat}{st:aG}{Q:Unit->aG->Prop}(h:Q () (bh st (mirror (ao st) i j ((j - i) / 2)))):wpS M A E s (reverseSlice' i j) Q st:=by rw[reverseSlice'_eq];exact d6 h
def qiO(L:qb8 M A E s O kf U G){st:aG}{lo a nrem:Nat}{Q:ASt->aG->Prop}(hk:kindOf st=U)(hG:∀x∈(ao st).toList,G x)(hn:lo+nrem<=(ao st).size)(ha:1<=a)(han:a<=nrem)
  (hs:Inc O kf (ao st) lo (lo+a))
  (h:∀n,a<=n->n<=nrem->Inc O kf (ao st) lo (lo+n)->(n=nrem\/O.klt (KA O kf (ao st) (lo+n)) (KA O kf (ao st) (lo+n - 1)))->Q (none,n) st):wpS M A E s (asc lo a nrem) Q st:=by
 unfold asc;refine cu (I:=λx c st'=>st'=st/\c=(none,x)/\Inc O kf (ao st) lo (lo+x)) ?step ?fin ⟨rfl,rfl,hs⟩
 case fin=>rintro c st' ⟨rfl,rfl,hs'⟩;rw[show max a nrem=nrem by lia]at hs' ⊢;exact h nrem han (ay _) hs' (.inl rfl)
 case step=>
  rintro x c st' hax hxn ⟨rfl,rfl,hs'⟩;dsimp only;refine az (YN L hk hG (1:) (1:) ?_)
  cases hb:O.blt (KA O kf (ao st') (lo+x)) (KA O kf (ao st') (lo+x - 1)) with
  |true=>simp![if_true];exact aE (h x hax (1:) hs' (.inr hb))
  |false=>
   simp![bo,if_false];refine aE ⟨rfl,rfl,λi j h1 h2 h3=>?_⟩
   by_cases hjx:j < lo+x
   .exact hs' i j h1 h2 hjx
   .have:j=lo+x:=by lia
    subst this
    by_cases e:i=lo+x
    .subst e;exact dG _
    .exact fO (hs' i (lo+x - 1) h1 (1:) (1:)) hb
def qd6(O:a7)(kf:ai->O.α)(lo nrem:Nat)(st:aG)(Q:Option Nat->aG->Prop):Prop:=
 ∀m xs,Re lo (ao st) xs->1<=m->m<=nrem->Inc O kf xs lo (lo+m)->Q (some m) (bh st xs)
def qd6.step{lo nrem:Nat}{st:aG}{Q:Option Nat->aG->Prop}{xs:Array ai}(h:qd6 O kf lo nrem st Q)(r:Re lo (ao st) xs):qd6 O kf lo nrem (bh st xs) Q:=
 λm ys r' h1 h2 h3=>h m ys (r.trans r') h1 h2 h3
def ql7(L:qb8 M A E s O kf U G){st:aG}{lo n nrem:Nat}{Q:BSt->aG->Prop}(hk:kindOf st=U)(hG:∀x∈(ao st).toList,G x)(hn:lo+nrem<=(ao st).size)(h1:1<=n)(hnn:n<=nrem)
  (hs:Dec O kf (ao st) lo (lo+n))
  (h:∀m ne xs,Re lo (ao st) xs->n<=m->m<=nrem->Dec O kf xs lo (lo+m)->ne+1<=m->(∀i,lo+m - (ne+1)<=i->i < lo+m->KA O kf xs i=KA O kf xs (lo+m - 1))->Q (none,m,ne) (bh st xs)):wpS M A E s (dsc lo n nrem) Q st:=by
 unfold dsc
 refine cu (I:=λx c st'=>∃ne xs,c=(none,x,ne)/\st'=bh st xs/\Re lo (ao st) xs/\Dec O kf xs lo (lo+x)/\ne+1<=x/\(∀i,lo+x - (ne+1)<=i->i < lo+x->KA O kf xs i=KA O kf xs (lo+x - 1))) ?step ?fin
  ⟨0,ao st,rfl,rfl,Re.refl _ _,hs,by lia,λi a b=>by congr 1;lia⟩
 case fin=>rintro c st' ⟨ne,xs,rfl,rfl,r,hs',hq,he⟩;rw[show max n nrem=nrem by lia]at hs' hq he ⊢;exact h nrem ne xs r hnn (ay _) hs' hq he
 case step=>
  rintro x c st' hax hxn ⟨ne,xs,rfl,rfl,r,hs',hq,he⟩;dsimp only;have hsz:xs.size=(ao st).size:=r.size;refine az (YN L (st:=bh st xs) hk (r.mem hG) (by show lo+x < xs.size;lia) (by show lo+x - 1 < xs.size;lia) ?_);show wpS M A E s _ _ _
  cases hb:O.blt (KA O kf (ao (bh st xs)) (lo+x)) (KA O kf (ao (bh st xs)) (lo+x - 1)) with
  |true=>
   have hb:O.blt (KA O kf xs (lo+x)) (KA O kf xs (lo+x - 1))=true:=hb;simp![if_true]
   have step1:∀ys:Array ai,(∀k,KA O kf ys k=KA O kf xs k)->Dec O kf ys lo (lo+(x+1)):=by
    intro ys hy i j a b d;rw[hy,hy]
    by_cases hjx:j < lo+x
    .exact hs' i j a b hjx
    .have:j=lo+x:=by lia
     subst this
     by_cases e:i=lo+x
     .subst e;exact dG _
     .exact fO (gC hb) (hs' i (lo+x - 1) a (1:) (1:))
   by_cases hneq:ne > 0
   .rw[if_pos hneq];refine az (qcV (aE ⟨0,_,rfl,rfl,r.trans (Re.mirror (xs:=xs) (1:) (1:)),step1 _ (zc (xs:=xs) (1:) he),by lia,λi a b=>by congr 1;lia⟩))
   .rw[if_neg hneq];exact aE ⟨0,xs,rfl,rfl,r,step1 _ (λz=>rfl),by lia,λi a b=>by congr 1;lia⟩
  |false=>
   have hb:O.blt (KA O kf xs (lo+x)) (KA O kf xs (lo+x - 1))=false:=hb;simp![bo,if_false];refine az (YN L (st:=bh st xs) hk (r.mem hG) (by show lo+x - 1 < xs.size;lia) (by show lo+x < xs.size;lia) ?_)
   cases hc:O.blt (KA O kf (ao (bh st xs)) (lo+x - 1)) (KA O kf (ao (bh st xs)) (lo+x)) with
   |true=>simp![if_true];exact aE (h x ne xs r hax (1:) hs' hq he)
   |false=>
    have hc:O.blt (KA O kf xs (lo+x - 1)) (KA O kf xs (lo+x))=false:=hc;simp![bo,if_false];have heqx:KA O kf xs (lo+x)=KA O kf xs (lo+x - 1):=KeyOrd.kle_antisymm hc hb;refine aE ⟨ne+1,xs,rfl,rfl,r,λi j a b d=>?_,by lia,λi a b=>?_⟩
    .by_cases hjx:j < lo+x
     .exact hs' i j a b hjx
     .have:j=lo+x:=by lia
      subst this
      by_cases e:i=lo+x
      .subst e;exact dG _
      .rw[heqx];exact hs' i (lo+x - 1) a (1:) (1:)
    .rw[show lo+(x+1) - 1=lo+x by lia]
     by_cases e:i=lo+x
     .rw[e]
     .rw[heqx];exact he i (1:) (1:)
def qqs{ι:Type}{P:ι->Prop}{R:Prop}(H:ι->Prop)(h1:(∀i,H i->P i)->R)(h2:∀i,H i->P i):R:=h1 h2
def qpu(L:qb8 M A E s O kf U G){st:aG}{lo nrem:Nat}{Q:Option Nat->aG->Prop}(hk:kindOf st=U)(hG:∀x∈(ao st).toList,G x)(hn:lo+nrem<=(ao st).size)(h1:1<=nrem)
  (h:qd6 O kf lo nrem st Q):wpS M A E s (countRun' lo nrem) Q st:=by
 refine az (qiO L hk hG hn (ay 1) h1 (λi j a b d=>by have:i=j:=(1:);subst this;exact dG _) λn hn1 hn2 hsn hor=>?_);refine qO (λz=>aE (h n _ (Re.refl _ _) hn1 hn2 hsn)) λhnn=>?_
 extract_lets n' q' jp
 refine qqs (P:=λst=>wpS M A E s (jp ⟨⟩) Q st) (λst=>kindOf st=U/\(∀x∈(ao st).toList,G x)/\lo+nrem<=(ao st).size/\Dec O kf (ao st) lo (lo+(n+1))/\qd6 O kf lo nrem st Q) (λgo=>qA (λhgt=>az (YN L hk hG (1:) (1:) ?_)) λhgt=>go _ ⟨hk,hG,hn,?_,h⟩) λst ⟨hk,hG,hn,hs,h⟩=>?_
 .refine qA (λz=>aE (h n _ (Re.refl _ _) hn1 hn2 hsn)) λhr=>?_;have hr:=ly.mpr hr;have hlt:=hor.resolve_left hnn;have hall:∀k,lo<=k->k < lo+n->KA O kf (ao st) k=KA O kf (ao st) (lo+n - 1):=λk a b=>KeyOrd.kle_antisymm (hsn k (lo+n - 1) a (1:) (1:)) (fO hr (hsn lo k (ay _) a b));have r:Re lo (ao st) (mirror (ao st) lo (lo+n) ((lo+n - lo) / 2)):=Re.mirror (ay _) (1:);refine az (qcV (go (bh st (mirror (ao st) lo (lo+n) ((lo+n - lo) / 2))) ⟨hk,r.mem hG,bQ hn (e7 r.size.symm),λi j a b d=>?_,h.step r⟩));show O.kle (KA O kf (mirror (ao st) _ _ _) j) (KA O kf (mirror (ao st) _ _ _) i);rw[zc (1:) hall,zc (1:) hall]
  by_cases hjn:j < lo+n
  .rw[hall i (1:) (1:),hall j (1:) hjn];exact dG _
  .have:j=lo+n:=by lia
   subst this
   by_cases e:i=lo+n
   .subst e;exact dG _
   .rw[hall i (1:) (1:)];exact gC hlt
 .intro i j a b d;have hlt:=hor.resolve_left hnn
  by_cases e:i=j
  .subst e;exact dG _
  .rw[show i=lo+n - 1 by lia,show j=lo+n by lia];exact gC hlt
 refine az (eU (dw ⟨rfl,?_⟩));refine az (ql7 L hk hG hn (1:) (1:) hs λm ne xs r h1 h2 h3 h4 h5=>?_)
 extract_lets r1 s1 n1 ne1 jp
 have hsz:xs.size=(ao st).size:=r.size;refine qqs (P:=λst=>wpS M A E s (jp ⟨⟩) Q st) (λst=>kindOf st=U/\(∀x∈(ao st).toList,G x)/\lo+nrem<=(ao st).size/\Dec O kf (ao st) lo (lo+m)/\qd6 O kf lo nrem st Q) (λgo=>qA (λhneq=>?_) λz=>go (bh st xs) ⟨hk,r.mem hG,by show lo+nrem<=xs.size;lia,h3,h.step r⟩) λst ⟨hk,hG,hn,hs,h⟩=>?_
 .have r2:Re lo xs (mirror xs (lo+m - (ne+1)) (lo+m) ((lo+m - (lo+m - (ne+1))) / 2)):=Re.mirror (1:) (1:);refine az (qcV (go (bh st (mirror xs (lo+m - (ne+1)) (lo+m) ((lo+m - (lo+m - (ne+1))) / 2))) ⟨hk,r2.mem (r.mem hG),by have:=r2.size;show lo+nrem<=(mirror xs (lo+m - (ne+1)) (lo+m) ((lo+m - (lo+m - (ne+1))) / 2)).size;lia,λi j a b d=>?_,(h.step r).step r2⟩));show O.kle (KA O kf (mirror xs _ _ _) j) (KA O kf (mirror xs _ _ _) i);rw[zc (1:) h5,zc (1:) h5];exact h3 i j a b d
 refine az (qcV ?_);have r:Re lo (ao st) (mirror (ao st) lo (lo+m) ((lo+m - lo) / 2)):=Re.mirror (ay _) (1:);refine az (qiO L (st:=bh st (mirror (ao st) lo (lo+m) ((lo+m - lo) / 2))) hk (r.mem hG) (bQ hn (e7 r.size.symm)) (1:) h2 (λi j q2 q3 q4=>?_) λm' hm1 hm2 hs2 z=>aE (h m' _ r (1:) hm2 hs2));show O.kle (KA O kf (mirror (ao st) lo (lo+m) ((lo+m - lo) / 2)) i) (KA O kf (mirror (ao st) lo (lo+m) ((lo+m - lo) / 2)) j);rw[YM (1:),YM (1:),if_pos (1:),if_pos (1:)];exact hs _ _ (1:) (1:) (1:)
def ql8{l u k x:Nat}(h:¬ l≥u)(b:u<=k)(d:u - l<=k - x):l<=(l+u) / 2/\(l+u) / 2 < u/\(l+u) / 2 < k/\(l+u) / 2 - l<=k - (x+1)/\u - ((l+u) / 2+1)<=k - (x+1):=by
 have h1:l<=(l+u) / 2:=by omega
 have h2:(l+u) / 2 < u:=by omega
 exact{h1,h2,bD h2 b,Nat.le_sub_one_of_lt (bD (Nat.sub_lt_sub_right h1 h2) d),Nat.sub_le_sub_right (bQ (Nat.sub_le_sub_left h1 u) d) 1}
def qe7{lo k n s:Nat}(h:k < n)(hn:lo+n<=s):lo+k < s:=bD (lB h lo) hn
def qd7{lo t l:Nat}(h1:lo<=t)(h2:t < lo+l):t - lo < l:=by lia
def qjW{lo t l:Nat}(h1:lo+l<=t):l<=t - lo:=by lia
def ql9(L:qb8 M A E s O kf U G){st:aG}{lo n ok:Nat}{Q:Bool->aG->Prop}(hk:kindOf st=U)(hG:∀x∈(ao st).toList,G x)(hn:lo+n<=(ao st).size)(hok:ok<=n)(hs:Inc O kf (ao st) lo (lo+ok))
  (h:∀xs,Re lo (ao st) xs->Inc O kf xs lo (lo+n)->Q true (bh st xs)):wpS M A E s (binarySort' lo n ok) Q st:=by
 rw[binarySort'_eq]
 refine az (cJ (cu (I:=λk c st'=>c=(none,())/\∃xs,st'=bh st xs/\Re lo (ao st) xs/\Inc O kf xs lo (lo+min k n))
  (Q:=λc st'=>c=(none,())/\∃xs,st'=bh st xs/\Re lo (ao st) xs/\Inc O kf xs lo (lo+n)) ?step ?fin ?init) ?post)
 case post=>rintro c st' ⟨rfl,xs,rfl,r,hs'⟩;exact aE (h xs r hs')
 case init=>
  refine{rfl,ao st,rfl,Re.refl _ _,λi j a b d=>?_}
  by_cases h1:ok=0
  .have:i=j:=by lia
   subst this;exact dG _
  .exact hs i j a b (1:)
 case fin=>
  rintro c st' ⟨hc,xs,rfl,r,hs'⟩;refine{hc,xs,rfl,r,?_}
  rwa[show min (max (max ok 1) n) n=n by lia]at hs'
 case step=>
  rintro k c st' hak hkn ⟨rfl,xs,rfl,r,hs'⟩;rw[gJ (Nat.le_of_lt hkn)]at hs';have hsz:xs.size=(ao st).size:=r.size
  refine az (cJ (cu (I:=λx c st''=>st''=bh st xs/\∃l u,c=(none,l,u)/\l<=u/\u<=k/\u - l<=k - x/\
    (∀i,i < l->O.kle (KA O kf xs (lo+i)) (KA O kf xs (lo+k)))/\(∀i,u<=i->i < k->O.klt (KA O kf xs (lo+k)) (KA O kf xs (lo+i))))
   (Q:=λc st''=>st''=bh st xs/\∃l u,c=(none,l,u)/\l<=k/\
    (∀i,i < l->O.kle (KA O kf xs (lo+i)) (KA O kf xs (lo+k)))/\(∀i,l<=i->i < k->O.klt (KA O kf xs (lo+k)) (KA O kf xs (lo+i)))) ?istep ?ifin ?iinit) ?ipost)
  case iinit=>exact{rfl,0,k,rfl,aZ _,ay _,ay _,λi hi=>absurd hi (Nat.not_lt_zero i),λi h1 h2=>absurd h2 (Nat.not_lt.mpr h1)}
  case ifin=>
   rintro c st'' ⟨rfl,l,u,rfl,a,b,d,e,f⟩
   have:l=u:=by lia
   subst this;exact⟨rfl,l,l,rfl,b,e,f⟩
  case istep=>
   rintro x c st'' _ hxk ⟨rfl,l,u,rfl,a,b,d,e,f⟩;dsimp only
   by_cases hge:l≥u
   .rw[if_pos hge];obtain rfl:l=u:=lC a hge;exact aE ⟨rfl,l,l,rfl,b,e,f⟩
   .rw[if_neg hge];let(m1,m2,m3,m4,m5):=ql8 hge b d;have hns:lo+n<=xs.size:=by rw[hsz];exact hn
    refine az (YN L (st:=bh st xs) hk (r.mem hG) (qe7 hkn hns) (qe7 (iG m3 hkn) hns) ?_)
    cases hb:O.blt (KA O kf (ao (bh st xs)) (lo+k)) (KA O kf (ao (bh st xs)) (lo+(l+u) / 2)) with
    |true=>have hb:O.blt (KA O kf xs (lo+k)) (KA O kf xs (lo+(l+u) / 2))=true:=hb;simp![if_true];refine aE ⟨rfl,l,(l+u) / 2,rfl,m1,Nat.le_of_lt m3,m4,e,λi h1 h2=>?_⟩;exact KeyOrd.klt_of_klt_of_kle hb (hs' _ _ (de _ _) (iH h1 lo) (lB h2 lo))
    |false=>have hb:O.blt (KA O kf xs (lo+k)) (KA O kf xs (lo+(l+u) / 2))=false:=hb;simp![bo,if_false];refine aE ⟨rfl,(l+u) / 2+1,u,rfl,m2,b,m5,λi h1=>?_,f⟩;exact fO (hs' (lo+i) (lo+(l+u) / 2) (de _ _) (iH (Nat.le_of_lt_succ h1) lo) (lB m3 lo)) (show O.kle _ _ from hb)
  case ipost=>
   rintro c st'' ⟨rfl,l,u,rfl,hlk,hlo,hhi⟩;show wpS _ _ _ _ (do moveDown' (lo+k) (lo+l);pure (gK (none,()))) _ _;rw[moveDown'_eq];have hks:lo+k < xs.size:=qe7 hkn (by rw[hsz];exact hn);refine az (d6 (aE ⟨rfl,_,rfl,r.trans (Re.bubble hks (d:=lo+k - (lo+l)) (by rw[Nat.add_sub_add_left];exact iH (Nat.sub_le _ _) _)),?_⟩));rw[gJ hkn];intro i j a b d;show O.kle (KA O kf (bubble xs (lo+k) (lo+k - (lo+l))) i) (KA O kf (bubble xs (lo+k) (lo+k - (lo+l))) j);have dl:lo+k - (lo+l)<=lo+k:=Nat.sub_le _ _;rw[qaZ hks dl,qaZ hks dl,Nat.sub_sub_self (iH hlk lo)];clear dl
   have lo':∀t,lo<=t->t < lo+l->O.kle (KA O kf xs t) (KA O kf xs (lo+k)):=λt h1 h2=>by
    have:=hlo (t - lo) (qd7 h1 h2)
    rwa[fW h1]at this
   have hi':∀t,lo+l<=t->t < lo+k->O.klt (KA O kf xs (lo+k)) (KA O kf xs t):=λt h1 h2=>by
    have:=hhi (t - lo) (qjW h1) (qd7 (bQ (de lo l) h1) h2)
    rwa[fW (bQ (de lo l) h1)]at this
   clear hlo hhi hks hsz hn hkn hak hok hs hG hk r
   repeat' split
   all_goals first
    | (exfalso;lia)
    | exact dG _
    | exact lo' _ (1:) (1:)
    | exact gC (hi' _ (1:) (1:))
    | exact hs' _ _ (1:) (1:) (1:)
end
abbrev Pd:=Nat×Nat×Nat
def wrt(a:Array ai)(sa:Nat)(l:List (ai×Nat)):Array ai:=l.foldl (λa (p,j)=>a.setIfInBounds (sa+j) p) a
theorem qcW(sa:Nat):∀(l:List (ai×Nat)) (a:Array ai),(wrt a sa l).size=a.size
 |[],a=>rfl
 | (p,j)::r,a=>by show(wrt (a.setIfInBounds (sa+j) p) sa r).size=a.size;rw[qcW sa r,ng]
theorem qcc(sa:Nat):∀(l:List ai) (n:Nat) (a:Array ai) (k:Nat),sa+n+l.length<=a.size->(wrt a sa (l.zipIdx n))[k]?=if sa+n<=k/\k < sa+n+l.length then l[k - (sa+n)]? else a[k]?
 |[],n,a,k,z=>by rw[if_neg (5:)];rfl
 | p::r,n,a,k,h=>by
  show(wrt (a.setIfInBounds (sa+n) p) sa (r.zipIdx (n+1)))[k]?=_;have h':sa+(n+1)+r.length<=a.size:=by simp at h;lia
  rw[qcc sa r (n+1) _ k (by rw[ng];exact h')]
  by_cases h1:sa+(n+1)<=k/\k < sa+(n+1)+r.length
  .rw[if_pos h1,if_pos (by simp;lia)];rw[show k - (sa+n)=(k - (sa+(n+1)))+1 by lia];simp
  .rw[if_neg h1]
   by_cases h2:k=sa+n
   .subst h2;rw[if_pos (5:)];simp at h;simp[show sa+n < a.size by lia]
   .rw[if_neg (by simp;lia)];rw[Array.getElem?_setIfInBounds_ne (1:)]
def mga:Nat->StateT aG Sem Bool:=mergeAt'
def mst(st:aG)(xs:Array ai)(p:Array Pd)(g:Nat):aG:=gE (kindOf st) xs p g (d3 st)
section
variable{O:a7}{kf:ai->O.α}{G:ai->Prop}
structure Ord(O:a7)(kf:ai->O.α)(lo hi:Nat)(xs ys:Array ai):Prop where
 perm:ys.Perm xs
 keep:∀k,(k < lo\/hi<=k)->ys[k]?=xs[k]?
 srt:Srt O kf ys lo hi
def qcd{a:Array ai}{u p i:Nat}(hp:p<=a.size)(hi:i < p - u):(a.extract u p)[i]?=a[u+i]?:=by rw[Array.getElem?_extract];rw[if_pos (1:)]
def qe8{a:Array ai}{u p:Nat}(hp:p<=a.size)(h:Srt O kf a u p):Srt O kf (a.extract u p) 0 (a.extract u p).size:=λi j x y z hij hj e1 e2=>by
 have hs:(a.extract u p).size=p - u:=by rw[iC];lia
 rw[qcd hp (1:)]at e1 e2;exact h _ _ x y (1:) (1:) (1:) e1 e2
def Ord.merged{xs m:Array ai}{sa sb e:Nat}(h1:sa<=sb)(h2:sb<=e)(h3:e<=xs.size)(M:Mrg O kf (xs.extract sa sb) (xs.extract sb e) m):Ord O kf sa e xs (wrt xs sa m.toList.zipIdx):=by
 have hms:m.size=e - sa:=by
  have:=M.1.length_eq
  simp at this
  lia
 have get:∀k,(wrt xs sa m.toList.zipIdx)[k]?=if sa<=k/\k < e then m[k - sa]? else xs[k]?:=λk=>by
  have:=qcc sa m.toList 0 xs k (by rw[bF];lia)
  rw[this,bF,hms]
  by_cases hc:sa<=k/\k < e
  .rw[if_pos hc,if_pos (1:)];simp
  .rw[if_neg hc,if_neg (1:)]
 have hsz:(wrt xs sa m.toList.zipIdx).size=xs.size:=qcW _ _ _;refine{?_,λk hk=>by rw[get,if_neg (1:)],λi j x y a b c e1 e2=>?_}
 .have e1:(wrt xs sa m.toList.zipIdx).toList=xs.toList.take sa++(m.toList++xs.toList.drop e):=by
   apply List.ext_getElem?;intro k;have hl1:(xs.toList.take sa).length=sa:=by simp;lia
   have:(wrt xs sa m.toList.zipIdx).toList[k]?=(wrt xs sa m.toList.zipIdx)[k]?:=by simp
   rw[this,get]
   by_cases c1:k < sa
   .rw[if_neg (1:),dF (1:),mY c1];simp
   .rw[c5 (1:),hl1]
    by_cases c2:k < e
    .rw[if_pos (1:),dF (by rw[bF];lia)];simp
    .rw[if_neg (1:),c5 (by rw[bF];lia),bF,hms,List.getElem?_drop];rw[show e+(k - sa - (e - sa))=k by lia];simp
  have e2:xs.toList=xs.toList.take sa++((xs.extract sa sb).toList++(xs.extract sb e).toList++xs.toList.drop e):=by have a1:=Zv xs sa (sb - sa);have a2:=Zv xs sb (e - sb);rw[show sa+(sb - sa)=sb by lia]at a1;rw[show sb+(e - sb)=e by lia]at a2;rw[bf,a2,a1,iB]
  rw[gI,e1]
  conv=>rhs;rw[e2]
  exact ik _ (mD _ M.1)
 .rw[get,if_pos (1:)]at e1 e2;exact(Srt.of M.2) _ _ x y (aZ _) (1:) (1:) e1 e2
end
section
variable{M:cG}{A:aN}{E:PQ}{s:ah}{O:a7}{kf:ai->O.α}{U:cq}{G:ai->Prop}
def qma(L:qb8 M A E s O kf U G){st:aG}{i sa na pw sb nb pw2:Nat}{Q:Bool->aG->Prop}(hk:kindOf st=U)(hf:d3 st=none)(hG:∀x∈(ao st).toList,G x)
  (e1:(aX st)[i]?=some (sa,na,pw)) (e2:(aX st)[i+1]?=some (sb,nb,pw2)) (hsb:sb=sa+na) (pa:0 < na) (pb:0 < nb) (hsz:sb+nb<=(ao st).size)
  (s1:Srt O kf (ao st) sa sb) (s2:Srt O kf (ao st) sb (sb+nb))
  (h:∀xs g,Ord O kf sa (sb+nb) (ao st) xs->Q true (mst st xs (((aX st).setIfInBounds i (sa,na+nb,pw)).eraseIdxIfInBounds (i+1)) g)):wpS M A E s (mga i) Q st:=by
 refine az (dM ?_)
 erw[e1,e2]
 have setS:∀{st1:aG} {Q':Unit->aG->Prop},Q' () st1->wpS M A E s (set st1:StateT aG Sem PUnit) Q' st:=λhq=>by unfold wpS;rw[StateT.run_set];exact aB ⟨rfl,hq⟩
 refine az (setS (st1:=mst st (ao st) (((aX st).setIfInBounds i (sa,na+nb,pw)).eraseIdxIfInBounds (i+1)) (cx st)) ?_);generalize hst1:mst st (ao st) (((aX st).setIfInBounds i (sa,na+nb,pw)).eraseIdxIfInBounds (i+1)) (cx st)=st1;have hk1:kindOf st1=U:=by rw[<-hst1];exact hk
 subst hsb;let(y,ey,my):=Zw (show sa+na < (ao st).size by lia);refine az (qN ey (az (Jm L hk1 (hG y my) hG (λi' j' x y a b c=>s1 i' j' x y a b c) (1:) (1:) λk k1 ka kb=>?_)));dsimp only
 have ka':∀t x,sa<=t->t < sa+k->(ao st)[t]?=some x->le O kf x y:=λt x a b ex=>by
  have:=ka (t - sa) x (qd7 a b) (by rw[fW a];exact ex)
  unfold pby at this;simp![bo,if_false,dH]at this;exact qZ this
 have kb':∀t x,sa+k<=t->t < sa+na->(ao st)[t]?=some x->le O kf y x:=λt x a b ex=>by
  have a':=bQ (de sa k) a
  have:=kb (t - sa) x (qjW a) (qd7 a' b) (by rw[fW a'];exact ex)
  unfold pby at this;simp![bo,if_false,lA]at this;exact le_of_lt this
 have yb:∀t x,sa+na<=t->t < sa+na+nb->(ao st)[t]?=some x->le O kf y x:=λt x a b ex=>s2 (sa+na) t y x (ay _) a b ey ex
 by_cases hna:na - k=0
 .rw[if_pos (-hna:)];refine aE ?_;rw[<-hst1];refine h _ _ ⟨Array.Perm.refl _,λv v=>rfl,λi' j' x z a b c f1 f2=>?_⟩
  by_cases hi:i' < sa+na
  .by_cases hj:j' < sa+na
   .exact s1 i' j' x z a b hj f1 f2
   .exact qz (ka' i' x a (1:) f1) (yb j' z (1:) (1:) f2)
  .exact s2 i' j' x z (1:) b (1:) f1 f2
 .rw[if_neg (-hna:)];let(z,ez,mz):=Zw (show sa+k+(na - k) - 1 < (ao st).size by lia);have ez':(ao st)[sa+na - 1]?=some z:=by rw[show sa+na - 1=sa+k+(na - k) - 1 by lia];exact ez
  refine az (qN ez (az (Jm L hk1 (hG z mz) hG (λi' j' x y a b c=>s2 i' j' x y a b c) (1:) (1:) λu u1 ua ub=>?_)));dsimp only
  have ua':∀t x,sa+na<=t->t < sa+na+u->(ao st)[t]?=some x->le O kf x z:=λt x a b ex=>by
   have:=ua (t - (sa+na)) x (qd7 a b) (by rw[fW a];exact ex)
   unfold pby at this;simp![if_true]at this;exact le_of_lt this
  have ub':∀t x,sa+na+u<=t->t < sa+na+nb->(ao st)[t]?=some x->le O kf z x:=λt x a b ex=>by
   have a':=bQ (de (sa+na) u) a
   have:=ub (t - (sa+na)) x (qjW a) (qd7 a' b) (by rw[fW a'];exact ex)
   unfold pby at this;simp![if_true]at this;exact qZ this
  have za:∀t x,sa<=t->t < sa+na->(ao st)[t]?=some x->le O kf x z:=λt x a b ex=>s1 t (sa+na - 1) x z a (1:) (1:) ex ez'
  by_cases hu:u=0
  .rw[if_pos (-hu:)];refine aE ?_;rw[<-hst1];refine h _ _ ⟨Array.Perm.refl _,λv v=>rfl,λi' j' x w a b c f1 f2=>?_⟩
   by_cases hi:i' < sa+na
   .by_cases hj:j' < sa+na
    .exact s1 i' j' x w a b hj f1 f2
    .exact qz (za i' x a hi f1) (ub' j' w (1:) (1:) f2)
   .exact s2 i' j' x w (1:) b (1:) f1 f2
  .rw[if_neg (-hu:)];have sxa:((ao st).extract (sa+k) (sa+na)).size=na - k:=by rw[iC];lia
   have sxb:((ao st).extract (sa+na) (sa+na+u)).size=u:=by rw[iC];lia
   have T:Two O kf G ((ao st).extract (sa+k) (sa+na)) ((ao st).extract (sa+na) (sa+na+u)):=by
    refine{λx hx=>?_,λx hx=>?_,qe8 (1:) (λi' j' x y a b c=>s1 i' j' x y (1:) b c),qe8 (1:) (λi' j' x y a b c=>s2 i' j' x y a b (1:)),by lia,by lia,λx w ew hx=>?_,λx w ex hw=>?_}
    .let(t,_,_,et):=zG hx;exact hG x (by let(h1,h2):=bY.mp et;rw[<-h2];simp)
    .let(t,_,_,et):=zG hx;exact hG x (by let(h1,h2):=bY.mp et;rw[<-h2];simp)
    .rw[qcd (1:) (1:),iD,ey]at ew;cases ew;let(t,t1,t2,et):=zG hx;exact kb' t x t1 t2 et
    .rw[sxa,qcd (1:) (1:),show sa+k+(na - k - 1)=sa+na - 1 by lia,ez']at ex;cases ex;let(t,t1,t2,et):=zG hw;exact ua' t w t1 t2 et
   have post:∀m g,Mrg O kf ((ao st).extract (sa+k) (sa+na)) ((ao st).extract (sa+na) (sa+na+u)) m->
     wpS M A E s (do modify λs=>bh s (wrt (ao s) (sa+k) m.toList.zipIdx);let s<-get;pure (d3 s).isNone) Q (YJ st1 g):=λm g hm=>by
    refine az (d6 (az (dM (aE ?_))));have o1:=Ord.merged (xs:=ao st) (1:) (1:) (1:) hm
    have e3:bh (YJ st1 g) (wrt (ao (YJ st1 g)) (sa+k) m.toList.zipIdx)=mst st (wrt (ao st) (sa+k) m.toList.zipIdx) (((aX st).setIfInBounds i (sa,na+nb,pw)).eraseIdxIfInBounds (i+1)) g:=by rw[<-hst1];rfl
    have e4:(d3 (bh (YJ st1 g) (wrt (ao (YJ st1 g)) (sa+k) m.toList.zipIdx))).isNone=true:=by rw[e3];show(d3 st).isNone=true;rw[hf];rfl
    rw[e4,e3];refine h _ g ⟨o1.perm,λt ht=>o1.keep t (1:),λi' j' x w a b c f1 f2=>?_⟩
    have mid:∀t x,sa+k<=t->t < sa+na+u->(wrt (ao st) (sa+k) m.toList.zipIdx)[t]?=some x->∃r,sa+k<=r/\r < sa+na+u/\(ao st)[r]?=some x:=λt x a b ex=>by
     have hmem:x∈m.toList:=by
      have hms:m.size=na - k+u:=by
       have:=hm.1.length_eq
       simp at this
       lia
      have:=qcc (sa+k) m.toList 0 (ao st) t (by rw[bF];lia)
      rw[if_pos (by rw[bF];lia)]at this;rw[this]at ex;exact ed ex
     rcases aV.mp (hm.1.mem_iff.mp hmem) with q|q
     .let(r,r1,r2,er):=zG q;exact{r,r1,by lia,er}
     .let(r,r1,r2,er):=zG q;exact{r,by lia,r2,er}
    by_cases hi1:i' < sa+k
    .rw[o1.keep i' (.inl hi1)]at f1;have hx:=ka' i' x a hi1 f1
     by_cases hj1:j' < sa+k
     .rw[o1.keep j' (.inl hj1)]at f2;exact s1 i' j' x w a b (1:) f1 f2
     .by_cases hj2:j' < sa+na+u
      .let(r,r1,r2,er):=mid j' w (1:) hj2 f2
       by_cases hr:r < sa+na
       .exact s1 i' r x w a (1:) hr f1 er
       .exact qz hx (yb r w (1:) (1:) er)
      .rw[o1.keep j' (.inr (1:))]at f2;exact qz hx (yb j' w (1:) (1:) f2)
    .by_cases hi2:i' < sa+na+u
     .by_cases hj2:j' < sa+na+u
      .exact o1.srt i' j' x w (1:) b hj2 f1 f2
      .rw[o1.keep j' (.inr (1:))]at f2;let(r,r1,r2,er):=mid i' x (1:) hi2 f1
       by_cases hr:r < sa+na
       .exact qz (za r x (1:) hr er) (ub' j' w (1:) (1:) f2)
       .exact s2 r j' x w (1:) (1:) (1:) er f2
     .rw[o1.keep i' (.inr (1:))]at f1;rw[o1.keep j' (.inr (1:))]at f2;exact s2 i' j' x w (1:) b (1:) f1 f2
   by_cases hle:na - k<=u
   .rw[if_pos hle];exact az (ql5 L T hk1 post)
   .rw[if_neg hle];exact az (ql6 L T hk1 post)
end
section
variable{O:a7}{kf:ai->O.α}{G:ai->Prop}
def yI(O:a7)(kf:ai->O.α)(xs:Array ai):List Pd->Nat->Nat->Prop
 |[],a,b=>a=b
 | (s,n,z)::r,a,b=>s=a/\0 < n/\Srt O kf xs s (s+n)/\yI O kf xs r (s+n) b
theorem yI.le{xs:Array ai}:∀{p:List Pd} {a b:Nat},yI O kf xs p a b->a+p.length<=b
 |[],a,b,h=>e7 h
 | (s,n,w)::r,a,b,h=>by
  let(rfl,h1,_,h2):=h
  have:=yI.le h2
  simp
  lia
theorem yI.app{xs:Array ai}:∀{p q:List Pd} {a c:Nat},yI O kf xs (p++q) a c↔∃b,yI O kf xs p a b/\yI O kf xs q b c
 |[],q,a,c=>{λh=>⟨a,rfl,h⟩,λ⟨b,h1,h2⟩=>by have h1:a=b:=h1;rw[h1];exact h2}
 | (s,n,w)::r,q,a,c=>by
  constructor
  .rintro⟨h1,h2,h3,h4⟩;let(b,h5,h6):=yI.app.mp h4;exact{b,⟨h1,h2,h3,h5⟩,h6}
  .rintro⟨b,⟨h1,h2,h3,h5⟩,h6⟩;exact{h1,h2,h3,yI.app.mpr ⟨b,h5,h6⟩}
def Srt.congr{xs ys:Array ai}{lo hi:Nat}(h:Srt O kf xs lo hi)(k:∀t,lo<=t->t < hi->ys[t]?=xs[t]?):Srt O kf ys lo hi:=λi j x y a b c e1 e2=>by rw[k i a (1:)]at e1;rw[k j (1:) c]at e2;exact h i j x y a b c e1 e2
theorem yI.congr{xs ys:Array ai}:∀{p:List Pd} {a b:Nat},yI O kf xs p a b->(∀t,a<=t->t < b->ys[t]?=xs[t]?)->yI O kf ys p a b
 |[],a,b,h,z=>h
 | (s,n,w)::r,a,b,h,k=>by
  let(rfl,h1,h2,h3):=h
  have:=yI.le h3
  exact{rfl,h1,h2.congr λt c d=>k t c (1:),yI.congr h3 λt c d=>k t (1:) d}
def qmb{p:Array Pd}{i:Nat}(h:i+1 < p.size):∃pre x y post,p.toList=pre++x::y::post/\pre.length=i/\p[i]?=some x/\p[i+1]?=some y:=by
 have h1:i < p.toList.length:=by rw[bF];lia
 have h2:i+1 < p.toList.length:=by rw[bF];lia
 refine{p.toList.take i,p.toList[i],p.toList[i+1],p.toList.drop (i+2),?_,by simp;lia,by simp[show i < p.size by lia],by simp[h]}
 conv=>lhs;rw[<-iB i p.toList]
 rw[fg h1,fg h2]
def QN{p:Array Pd}{pre post:List Pd}{x y v:Pd}(e:p.toList=pre++x::y::post):((p.setIfInBounds pre.length v).eraseIdxIfInBounds (pre.length+1)).toList=pre++v::post:=by rw[Array.toList_eraseIdxIfInBounds,Array.toList_setIfInBounds,e];rw[List.set_append_right _ _ (ay _),lD,List.set_cons_zero,List.eraseIdx_append_of_length_le (1:)];simp
structure Good(O:a7)(kf:ai->O.α)(U:cq)(a0:Array ai)(lo:Nat)(st:aG):Prop where
 kind:kindOf st=U
 ok:d3 st=none
 perm:(ao st).Perm a0
 runs:yI O kf (ao st) (aX st).toList 0 lo
theorem yI.same{xs:Array ai}:∀{p q:List Pd} {a b:Nat},p.map (λv=>(v.1,v.2.1))=q.map (λv=>(v.1,v.2.1))->yI O kf xs p a b->yI O kf xs q a b
 |[],[],z,y,x,h=>h
 | [],z::y,x,u,e,t=>by simp at e
 | z::y,[],x,u,e,t=>by simp at e
 | (s,n,w)::r,(s',n',w')::r',a,b,e,h=>by simp at e;let((rfl,rfl),e):=e;let(h1,h2,h3,h4):=h;exact{h1,h2,h3,yI.same (-e:) h4}
def Good.push{U:cq}{a0:Array ai}{lo n:Nat}{st:aG}(g:Good O kf U a0 lo st)(hs:Srt O kf (ao st) lo (lo+n))(hn:1<=n):Good O kf U a0 (lo+n) (setPending st ((aX st).push (lo,n,0))):=
 ⟨g.kind,g.ok,g.perm,by show yI O kf (ao st) ((aX st).push (lo,n,0)).toList 0 (lo+n);rw[lE];exact yI.app.mpr ⟨lo,g.runs,rfl,hn,hs,rfl⟩⟩
def Good.pow{U:cq}{a0:Array ai}{lo:Nat}{st:aG}(g:Good O kf U a0 lo st)(pw:Nat):Good O kf U a0 lo (setPending st ((aX st).modify ((aX st).size - 1) λx=>(x.1,x.2.1,pw))):=
 ⟨g.kind,g.ok,g.perm,by
  show yI O kf (ao st) ((aX st).modify ((aX st).size - 1) λx=>(x.1,x.2.1,pw)).toList 0 lo;refine yI.same ?_ g.runs;rw[Array.toList_modify];apply List.ext_getElem?;intro k;rw[bu,bu,List.getElem?_modify]
  cases (aX st).toList[k]? with
  |none=>simp
  |some v=>simp;split<;>exact⟨rfl,rfl⟩⟩
def Good.mem{U:cq}{a0:Array ai}{lo:Nat}{st:aG}(g:Good O kf U a0 lo st)(h:∀x∈a0.toList,G x):∀x∈(ao st).toList,G x:=λx hx=>h x ((gI.mp g.perm).mem_iff.mp hx)
def Good.size{U:cq}{a0:Array ai}{lo:Nat}{st:aG}(g:Good O kf U a0 lo st):(ao st).size=a0.size:=g.perm.size_eq
end
section
variable{M:cG}{A:aN}{E:PQ}{s:ah}{O:a7}{kf:ai->O.α}{U:cq}{G:ai->Prop}{a0:Array ai}
def qiP(L:qb8 M A E s O kf U G)(h0:∀x∈a0.toList,G x){st:aG}{lo i:Nat}{Q:Bool->aG->Prop}(g:Good O kf U a0 lo st)(hlo:lo<=a0.size)(hi:i+1 < (aX st).size)
  (h:∀st',Good O kf U a0 lo st'->(aX st').size+1=(aX st).size->(∀k,lo<=k->(ao st')[k]?=(ao st)[k]?)->Q true st'):wpS M A E s (mergeAt' i) Q st:=by
 let(pre,(sa,na,pw),(sb,nb,pw2),post,e,rfl,e1,e2):=qmb hi;have hr:=g.runs;rw[e]at hr;let(b,r1,rfl,pa,s1,r2,pb,s2,r3):=yI.app.mp hr;have l3:=yI.le r3;have hz:=g.size;refine qma L g.kind g.ok (g.mem h0) e1 e2 r2 pa pb (1:) (by rw[r2];exact s1) (by rw[r2]at s2 ⊢;exact s2) λxs gl o=>h _ ⟨g.kind,g.ok,o.perm.trans g.perm,?_⟩ ?_ (λk hk=>o.keep k (.inr (1:)))
 .show yI O kf xs _ 0 lo;show yI O kf xs (((aX st).setIfInBounds pre.length (sa,na+nb,pw)).eraseIdxIfInBounds (pre.length+1)).toList 0 lo;rw[QN e];subst r2;refine yI.app.mpr ⟨sa,r1.congr λt a b=>o.keep t (.inl b),rfl,by lia,?_,?_⟩
  .have:=o.srt
   rwa[Nat.add_assoc]at this
  .rw[<-Nat.add_assoc];exact r3.congr λt a b=>o.keep t (.inr a)
 .show(((aX st).setIfInBounds pre.length (sa,na+nb,pw)).eraseIdxIfInBounds (pre.length+1)).size+1=(aX st).size;rw[<-bF,QN e,<-bF,e];simp
  lia
def qjX(L:qb8 M A E s O kf U G)(h0:∀x∈a0.toList,G x){st:aG}{Q:Unit->aG->Prop}(hk:kindOf st=U)(hf:d3 st=none)(ha:ao st=a0)(hp:aX st=#[])
  (h:∀st',(ao st').Perm a0->d3 st'=none->Srt O kf (ao st') 0 a0.size->Q () st'):wpS M A E s sortRuns' Q st:=by
 rw[sortRuns'_eq];refine az (dM ?_);dsimp -zeta only;rw[ha];have g0:Good O kf U a0 0 st:={hk,hf,by rw[ha],by rw[hp];rfl}
 refine az (cJ (cu
  (I:=λx c st'=>∃lo,c=(none,lo)/\lo<=a0.size/\x<=lo/\Good O kf U a0 lo st')
  (Q:=λc st'=>c=(none,a0.size)/\Good O kf U a0 a0.size st') ?step ?fin ⟨0,rfl,aZ _,aZ _,g0⟩) ?post)
 case fin=>
  rintro c st' ⟨lo,rfl,h1,h2,g⟩
  have:lo=a0.size:=by lia
  subst this;exact⟨rfl,g⟩
 case step=>
  rintro x c st' _ hx ⟨lo,rfl,h1,h2,g⟩;refine qA (λhge=>?_) λhge=>?_
  .have:lo=a0.size:=lC h1 hge
   subst this;exact aE ⟨rfl,g⟩
  .have hge:¬ lo≥a0.size:=hge;have hz:=g.size;refine az (qpu L g.kind (g.mem h0) (1:) (1:) λm xs r m1 m2 im=>?_);have g1:Good O kf U a0 lo (bh st' xs):={g.kind,g.ok,r.perm.trans g.perm,g.runs.congr λt z b=>r.keep t b};have hz1:xs.size=a0.size:=r.size.trans hz;dsimp -zeta only
   extract_lets m' jp f' n'
   refine ql4 (P:=λn st1=>wpS M A E s (jp ⟨⟩ n) _ st1) (λn st1=>Good O kf U a0 lo st1/\Srt O kf (ao st1) lo (lo+n)/\1<=n/\lo+n<=a0.size) (λgo=>qA (λhm=>az (eU (dw ⟨rfl,az (ql9 L (st:=bh st' xs) g.kind (g1.mem h0) (by show _<=xs.size;lia) (1:) im λys r2 im2=>?_)⟩))) λhm=>go m (bh st' xs) ⟨g1,im.srt,m1,by lia⟩) λn st1 hn=>?_
   .exact go (min (a0.size - lo) (minRun' a0.size a0.size 0)) (bh (bh st' xs) ys) ⟨⟨g.kind,g.ok,r2.perm.trans g1.perm,g1.runs.congr λt z b=>r2.keep t b⟩,im2.srt,by lia,by lia⟩
   have g2:=hn.1;have s2:=hn.2.1;have n1:=hn.2.2.1;have n2:=hn.2.2.2;refine az (dM ?_)
   cases hb:(aX st1).back? with
   |none=>dsimp only;exact az (d6 (aE ⟨lo+n,rfl,n2,by lia,g2.push s2 n1⟩))
   |some v=>
    let(v1,v2,v3):=v;dsimp only
    refine az (cJ (cu (I:=λz c st3=>c=(none,())/\Good O kf U a0 lo st3/\Srt O kf (ao st3) lo (lo+n))
     (Q:=λc st3=>c=(none,())/\Good O kf U a0 lo st3/\Srt O kf (ao st3) lo (lo+n)) ?_ (λz z hh=>hh) ⟨rfl,g2,s2⟩) ?_)
    .rintro y c st3 _ _ ⟨rfl,g3,s3⟩;refine az (dM ?_)
     by_cases hp:(aX st3).size > 1
     .rw[if_pos hp]
      cases hv:(aX st3)[(aX st3).size - 2]? with
      |none=>
       exfalso
       have:=Array.getElem?_eq_none_iff.mp hv
       lia
      |some u=>
       let(u1,u2,u3):=u;dsimp only
       by_cases ho:u3<=power' a0.size (2 * v1+v2) (2 * v1+v2+v2+n) a0.size
       .rw[if_pos ho];exact aE ⟨rfl,g3,s3⟩
       .rw[if_neg ho];refine az (qiP L h0 g3 h1 (1:) λst4 g4 z k4=>?_);simp![fc,bo,if_false];exact aE ⟨rfl,g4,s3.congr λt a z=>k4 t a⟩
     .rw[if_neg hp];exact aE ⟨rfl,g3,s3⟩
    .rintro c st3 ⟨rfl,g3,s3⟩;dsimp only;exact az (d6 (az (d6 (aE ⟨lo+n,rfl,n2,by lia,(g3.pow _).push s3 n1⟩))))
 case post=>
  rintro c st1 ⟨rfl,g1⟩;dsimp only
  refine az (cJ (cu (I:=λx c st2=>c=(none,())/\Good O kf U a0 a0.size st2/\((aX st2).size<=1\/(aX st2).size+x<=a0.size))
   (Q:=λc st2=>c=(none,())/\Good O kf U a0 a0.size st2/\(aX st2).size<=1) ?_ ?_ ⟨rfl,g1,.inr ?_⟩) ?_)
  .rintro x c st2 _ hx ⟨rfl,g2,hz⟩;refine az (dM ?_)
   by_cases hp:(aX st2).size<=1
   .rw[if_pos hp];exact aE ⟨rfl,g2,hp⟩
   .rw[if_neg hp]
    have go:∀i,i+1 < (aX st2).size->wpS M A E s (mergeAt' i) (λr st3=>r=true/\Good O kf U a0 a0.size st3/\(aX st3).size+(x+1)<=a0.size) st2:=λi hi=>qiP L h0 g2 (ay _) hi λst3 g3 e3 z=>{rfl,g3,by lia}
    refine az (cJ (go _ ?_) λr st3 hr=>?_)
    .have hite:∀(c:Prop) [Decidable c],(if c then (aX st2).size - 2 - 1 else (aX st2).size - 2)+1 < (aX st2).size:=λc z=>by split<;>lia
     exact hite _
    .let(rfl,g3,e3):=hr;simp![fc,bo,if_false];exact aE ⟨rfl,g3,.inr e3⟩
  .rintro c st2 ⟨rfl,g2,hz⟩;exact{rfl,g2,by lia}
  .have:=yI.le g1.runs
   rw[bF]at this
   lia
  .rintro c st2 ⟨rfl,g2,hz⟩;dsimp only;refine aE (h st2 g2.perm g2.ok ?_);have hr:=g2.runs;have hl:(aX st2).toList.length<=1:=by rw[bF];exact hz
   match hq:(aX st2).toList,hl,hr with
   |[],z,hr=>
    have hr:0=a0.size:=hr;intro i j x y _ _ hj
    lia
   |[(u1,u2,u3)],z,hr=>let(rfl,_,sr,e):=hr;have e:0+u2=a0.size:=e;rw[<-e];exact sr
end
section
variable{prog:aJ}{w:aC}{A:aN}{E:PQ}{s:ah}{O:a7}{kf:ai->O.α}{U:cq}
def qe9(s s1:ah):Prop:=∀b o,s.heap.get? b=some o->s1.heap.get? b=some o
structure Sorts(prog:aJ)(w:aC)(s:ah)(vs:List ae)(O:a7)(kf:ai->O.α)(U:cq):Prop where
 kind:2<=vs.length->∀(A:aN) (E:PQ) (s1:ah) (Q:cq->ah->Prop),qe9 s s1->Q U s1->ak (av prog w) A (keyKind' vs.toArray) Q E s1
 lt:∀(A:aN) (E:PQ) (s1:ah),qe9 s s1->qb8 (av prog w) A E s1 O kf U (λx=>x∈(bW vs).toList)
def qfa{s0:ah}{a:af}{vs:List ae}{n:Nat}{P:PySem.Fin->ah->Prop}(S:Sorts prog w s0 vs O kf U)(ho:s.heap.get? a=some (b8 "list" vs.toArray n))(hsz:vs.length<=sizeLine)
  (hg:∀b o,s0.heap.get? b=some o->s.heap.get? b=some o/\b≠a)
  (h:∀st':aG,(ao st').Perm (bW vs)->Srt O kf (ao st') 0 (bW vs).size->P (.done (.ret .none)) { s with heap:=kh s.heap a vs ((ao st').map (·.2)) }) :
  ak (av prog w) A (Builtin.«list.sort» ⟨[.ref a],[]⟩) P E s:=by
 rw[list_sort_plain];have ha:a < s.heap.objs.size:=aQ ho;have hv:vs.toArray.size=vs.length:=by simp
 refine aj (listItems_at ho rfl (aj (me ho rfl ?_ (by rw[hv];exact hsz) (aZ _))));let(n1,ho1):∃n1,(s.heap.update a (cz λz=>#[])).get? a=some (b8 "list" #[] n1):={_,get?_update_seq ho (λz=>#[])};refine aj (seqEpoch_at ho1 rfl (aj (wpAny_newTuple ?_ (-hsz:))));refine aj (mf (dh ?_) (aZ _));generalize hh:(((s.heap.update a (cz λz=>#[])).push (b8 "tuple" vs.toArray 0)).push (b8 "list" #[] 0))=h6
 have ho6:h6.get? a=some (b8 "list" #[] n1):=by rw[<-hh];exact aW _ (aW _ ho1)
 have grown:qe9 s0 { s with heap:=h6 }:=λb o e=>by let(e1,ne):=hg b o e;show h6.get? b=some o;rw[<-hh];exact aW _ (aW _ (by rw[Heap.get?_update_ne _ _ _ _ ne];exact e1))
 have fin:∀st':aG,(ao st').Perm (bW vs)->Srt O kf (ao st') 0 (bW vs).size->P (.done (.ret .none)) { s with heap:=h6.update a (cz λz=>(ao st').map (·.2)) }:=λst' a1 a2=>by
  have:=h st' a1 a2
  unfold kh at this;rw[hh]at this;exact this
 have small:∀st':aG,(ao st').Perm (bW vs)->((ao st').map (·.2)).size<=sizeLine+1:=λst' hp=>by
  rw[Array.size_map,hp.size_eq,pairsOf_size]
  lia
 show ak (av prog w) A _ P E { s with heap:=h6 };dsimp only
 by_cases h2:vs.toArray.size < 2
 .rw[if_pos h2,if_pos h2];refine aj (aB ?_);rw[StateT.run_pure];refine aj (aB ?_);dsimp only;refine aj (seqEpoch_at ho6 rfl ?_);refine aj (me ho6 rfl ?_ (aZ _) (small (gE general' (vs.toArray.zip vs.toArray) #[] 7 none) (Array.Perm.refl _)));simp![bne_self_eq_false,bo,if_false];refine aB (fin (gE general' (vs.toArray.zip vs.toArray) #[] 7 none) (Array.Perm.refl _) ?_);intro i j x y _ b c d e
  have:i=j:=by rw[pairsOf_size]at c;lia
  subst this;rw[d]at e;cases e;exact dG _
 .rw[if_neg h2,if_neg h2];refine aj (S.kind (1:) A E _ _ grown ?_)
  refine aj (dQ (qjX (S.lt A E _ grown) (a0:=bW vs) (st:=gE U (vs.toArray.zip vs.toArray) #[] 7 none) (λx hx=>hx) rfl rfl rfl rfl
   (Q:=λz st'=>(ao st').Perm (bW vs)/\d3 st'=none/\Srt O kf (ao st') 0 (bW vs).size) λst' a1 a2 a3=>⟨a1,a2,a3⟩) ?_ λz z e=>e)
  rintro⟨⟨⟩,st'⟩ s' ⟨rfl,hp,hf,hs⟩;dsimp only;refine aj (seqEpoch_at ho6 rfl (aj (me ho6 rfl ?_ (aZ _) (small st' hp))));rw[hf];simp![bne_self_eq_false,bo,if_false];exact aB (fin st' hp hs)
def qd8{l:af}{vs:List ae}{Q:PQ}(S:Sorts prog w s vs O kf U)(hl:s.heap.IsList l vs.toArray)(hsz:vs.length<=sizeLine)
  (h:∀st':aG,(ao st').Perm (bW vs)->Srt O kf (ao st') 0 (bW vs).size->Q (.ref (s.heap.objs.size+1)) { s with heap:=sortedAll s.heap vs ((ao st').map (·.2)) }) :
  ak (av prog w) A (call (.builtin "sorted") [.ref l]) Q E s:=by
 refine ni kind_sorted plain_sorted entry_sorted (args_sorted1 _) ?_;unfold Builtin.«sorted»;refine aj (m:=checkCount "sorted" 1 1 _) (aB (aj (collect_list hl ?_ hsz)));refine aj (mf ?_ hsz);have hz:((s.heap.push (b8 "list" #[] 0)).update s.heap.objs.size (cz (· ++ vs.toArray))).objs.size=s.heap.objs.size+1:=by rw[Heap.size_update,size_push']
 show ak _ _ _ _ _ { s with heap:=((s.heap.push (b8 "list" #[] 0)).update s.heap.objs.size (cz (· ++ vs.toArray))).push (b8 "list" vs.toArray 0) };rw[hz];generalize hh:((s.heap.push (b8 "list" #[] 0)).update s.heap.objs.size (cz (· ++ vs.toArray))).push (b8 "list" vs.toArray 0)=h6
 have hoL:h6.get? (s.heap.objs.size+1)=some (b8 "list" vs.toArray 0):=by rw[<-hh,<-hz];exact bz _ rfl
 have old:∀b o,s.heap.get? b=some o->h6.get? b=some o/\b≠s.heap.objs.size+1:=λb o e=>by have hlt:b < s.heap.objs.size:=aQ e;refine{?_,a9 (lG hlt)};rw[<-hh];refine aW _ ?_;rw[Heap.get?_update_ne _ _ _ _ (a9 hlt)];exact aW _ e
 have hr:∀st':aG,(ao st').Perm (bW vs)->Srt O kf (ao st') 0 (bW vs).size->Q (.ref (s.heap.objs.size+1)) { s with heap:=kh h6 (s.heap.objs.size+1) vs ((ao st').map (·.2)) }:=λst' a1 a2=>by
  have:=h st' a1 a2
  unfold sortedAll at this;rw[hh]at this;exact this
 refine aj (dh (eV slot_list_sort ⟨_,hoL,rfl⟩ entry_list_sort (qfa S hoL hsz old λst' a1 a2=>{_,rfl,?_}) (args_list_sort _)));exact aB ⟨_,rfl,hr st' a1 a2⟩
end
def pO:a7 where
 α:=Int×Int
 blt p q:=decide (p.1 < q.1)||(decide (p.1=q.1)&&decide (p.2 < q.2))
 irrefl a:=by simp
 trans a b c h1 h2:=by
  simp at h1 h2 ⊢
  lia
 negTrans a b c h:=by
  simp at h ⊢
  lia
 total a b h1 h2:=by
  let(a1,a2):=a;let(b1,b2):=b;simp at h1 h2;have e1:a1=b1:=by lia
  subst e1;have e2:a2=b2:=by lia
  rw[e2]
def nOf:ae->Int
 |.int n z=>n
 |_=>0
def ym(h:aw)(v:ae):Int×Int:=match v with
 |.ref a=>match h.get? a with
  |some o=>match o.data with
   |.seq xs z=>(nOf (xs.getD 0 .none),nOf (xs.getD 1 .none))
   |_=>(0,0)
  |none=>(0,0)
 |_=>(0,0)
def qcX(h:aw)(v:ae)(p:Int×Int):Prop:=∃a t u,v=.ref a/\IsTup h a #[.int p.1 t,.int p.2 u]
def qcX.pair{h:aw}{v:ae}{p:Int×Int}(e:qcX h v p):ym h v=p:=by let(a,t,u,rfl,o,ho,hc,n,hd):=e;unfold ym;simp![ho,hd];rfl
def qcX.grow{s s1:ah}{v:ae}{p:Int×Int}(e:qcX s.heap v p)(g:qe9 s s1):qcX s1.heap v p:=by let(a,t,u,rfl,o,ho,hc,n,hd):=e;exact{a,t,u,rfl,o,g a o ho,hc,n,hd}
section
variable{prog:aJ}{w:aC}{A:aN}{E:PQ}{s:ah}
def qmc{x y:ae}{p q:Int×Int}{Q:Bool->ah->Prop}(hx:qcX s.heap x p)(hy:qcX s.heap y q)(h:Q (pO.blt p q) s):ak (av prog w) A (keyLt' (tuples' true) x y) Q E s:=by
 let(a,t,u,rfl,o,ho,hc,n,hd):=hx;let(b,t',u',rfl,o',ho',hc',n',hd'):=hy;refine PySem.W.kat_lt ho hd ho' hd' ?_;show PySem.W.KatLex prog w A true _ Q [(.int p.1 t,.int q.1 t'),(.int p.2 u,.int q.2 u')] 0 s;refine PySem.W.kat_cons (lW ?_)
 by_cases e1:p.1=q.1
 .rw[show(p.1 == q.1)=true by simpa using e1];refine PySem.W.kat_yes (PySem.W.kat_cons (lW ?_))
  by_cases e2:p.2=q.2
  .rw[show(p.2 == q.2)=true by simpa using e2];refine PySem.W.kat_yes (PySem.W.kat_nil ?_)
   have:pO.blt p q=false:=by unfold pO;simp[e1,e2]
   rw[this]at h;exact h
  .rw[show(p.2 == q.2)=false by simpa using e2];refine PySem.W.kat_no (PySem.W.kat_one _ _ (lt_int ?_))
   have:pO.blt p q=decide (p.2 < q.2):=by unfold pO;simp[e1]
   rw[this]at h;exact h
 .rw[show(p.1 == q.1)=false by simpa using e1];refine PySem.W.kat_no ?_
  have:pO.blt p q=decide (p.1 < q.1):=by unfold pO;simp[e1]
  rw[this]at h;exact oneLt_int h
theorem qjY{vs:List ae}{ps:List (Int×Int)}(h:bq (qcX s.heap) vs ps):∃fs,PySem.W.KatTups s.heap vs fs/\fs.length=vs.length/\∀v∈fs,∃n t,v=Value.int n t:=by
 induction h with
 |nil=>exact{[],trivial,rfl,λz h=>by cases h}
 |cons r rs ih=>
  let(a,t,u,rfl,o,ho,hc,n,hd):=r;let(fs,h1,h2,h3):=ih;refine{_::fs,PySem.W.KatTups.cons ho hc hd rfl h1,by simp[h2],λv hv=>?_};rcases aF.mp hv with rfl|hv
  .exact{_,_,rfl}
  .exact h3 v hv
def yL{vs:List ae}{x:ai}(h:x∈(bW vs).toList):x.1=x.2/\x.1∈vs:=by rw[mh]at h;exact gZ h
theorem Paired.at_mem{α M:Type}{R:α->M->Prop}{l:List α}{m:List M}(h:bq R l m):∀a∈l,∃b∈m,R a b:=by
 induction h with
 |nil=>intro a h;cases h
 |cons r rs ih=>
  intro a h;rcases aF.mp h with rfl|h
  .exact{_,bX,r}
  .let(b,hb,q):=ih a h;exact{b,bH _ hb,q}
theorem Paired.grow2{s s1:ah}(g:qe9 s s1):∀{vs:List ae} {ps:List (Int×Int)},bq (qcX s.heap) vs ps->bq (qcX s1.heap) vs ps
 |_,_,.nil=>.nil
 |_,_,.cons r rs=>.cons (r.grow g) (Paired.grow2 g rs)
def qfb{vs:List ae}{ps:List (Int×Int)}(h:bq (qcX s.heap) vs ps):Sorts prog w s vs pO (λx=>ym s.heap x.1) (tuples' true) where
 kind:=λh2 A E s1 Q g q=>by let(fs,t1,t2,t3):=qjY (Paired.grow2 g h);refine PySem.W.kat_kind t1 (1:) (T:=dD "int") (λv hv=>?_) rfl q;let(n,t,rfl):=t3 v hv;exact .now
 lt:=λA E s1 g x y hx hy st Q hk q=>by let(p,_,hp):=Paired.at_mem h _ (yL hx).2;let(p',_,hp'):=Paired.at_mem h _ (yL hy).2;have q:Q (some (pO.blt (ym s.heap x.1) (ym s.heap y.1))) st:=q;rw[hp.pair,hp'.pair]at q;rw[lt'_eq];refine az (dM ?_);rw[hk];refine az (eU (gm (qmc (hp.grow g) (hp'.grow g) ⟨rfl,?_⟩)));exact aE q
end
theorem Paired.perm{α M:Type}{R:α->M->Prop}{us us':List M}(p:us'.Perm us):∀{xs:List α},bq R xs us->∃xs',xs'.Perm xs/\bq R xs' us':=by
 induction p with
 |nil=>exactλ{xs} h=>{xs,List.Perm.refl _,h}
 |cons x z ih=>
  intro xs h
  cases h with
  |cons r rs=>let(xs',h1,h2):=ih rs;exact{_::xs',h1.cons _,.cons r h2}
 |swap x y l=>
  intro xs h
  cases h with
  |cons r rs=>
   cases rs with
   | cons r' rs=>exact{_::_::_,List.Perm.swap ..,.cons r' (.cons r rs)}
 |trans z w ih1 ih2=>intro xs h;let(x1,h1,h2):=ih2 h;let(x2,h3,h4):=ih1 h2;exact{x2,h3.trans h1,h4}
end TS
namespace L2
open PySem PySem.Spec PyProof.Rows
def P2(K:Frag)(H:Hp)(v:V)(p:Int×Int):Prop:=∃a,v=.ref a/\H a=some (.tup [.int p.1,.int p.2])
def qfc(p q:Int×Int):Prop:=p.1 < q.1\/(p.1=q.1/\p.2<=q.2)
section
variable{X:Cx}
def P2.raw{pins:PP}{Z:St}{H:Hp}{s:ah}{v:V}{u:ae}{p:Int×Int}(I:Inv X pins Z H s)(h:P2 X.K H v p)(r:qF v u):TS.qcX s.heap u p:=by let(a,rfl,hq):=h;obtain rfl:u=bj a:=r;let(its,rv,pl,_):=I.tuple (SqT.of hq);let(u1,u2,rfl,(t1,rfl),(t2,rfl)):=qb3 rv;exact⟨a,t1,t2,rfl,pl⟩
def qa0:zd X (.builtin "sorted") (λvs H Q=>∃p xs ps,vs=[.ref p]/\SqL X.K H p xs/\bq (P2 X.K H) xs ps/\
  ∀l ys qs,H l=none->bq (P2 X.K H) ys qs->ys.Perm xs->qs.Perm ps->qs.Pairwise qfc->Q (.ref l) (upd H l (.lst ys))):=by
 intro pins s Z H xs us Q I r h;let(p,xs,ps,rfl,hq,hp,q):=h;let(u,rfl,rx):=yJ r;cases rx;let(its,rv,pl,hz):=I.list hq;have hlen:=rv.length
 have three:∀{xs:List V} {its:List ae} {ps:List (Int×Int)},qt xs its->bq (P2 X.K H) xs ps->bq (λ(z:V×(Int×Int)) u=>qF z.1 u/\P2 X.K H z.1 z.2/\TS.qcX s.heap u z.2) (xs.zip ps) its/\bq (TS.qcX s.heap) its ps/\xs.length=ps.length:=by
  intro xs its ps a b
  induction a generalizing ps with
  |nil=>cases b;exact{.nil,.nil,rfl}
  |cons r rs ih=>
   cases b with
   |cons b bs=>let(i1,i2,i3):=ih bs;have t:=P2.raw I b r;exact{.cons ⟨r,b,t⟩ i1,.cons t i2,by simp[i3]}
 let(t1,t2,t3):=three rv hp;refine TS.qd8 (TS.qfb t2) pl.isList (1:) λst' pm sr=>?_
 have hl:(ao st').toList.Perm (its.zip its):=by
  have:=gI.mp pm
  rwa[mh]at this
 have hout:((ao st').map (·.2)).toList.Perm its:=by
  rw[iJ]
  have:=hl.map (·.2)
  rwa[lH (ay _)]at this
 let(zs,z1,z2):=TS.Paired.perm hout t1
 have hys:(zs.map (·.1)).Perm xs:=by
  have:=z1.map (·.1)
  rwa[List.map_fst_zip (1:)]at this
 have hqs:(zs.map (·.2)).Perm ps:=by
  have:=z1.map (·.2)
  rwa[lH (1:)]at this
 have hv:qt (zs.map (·.1)) ((ao st').map (·.2)).toList:=by
  clear z1 hys hqs;generalize ((ao st').map (·.2)).toList=ol at z2
  induction z2 with
  |nil=>exact .nil
  |cons r y ih=>exact .cons r.1 ih
 have hP:bq (P2 X.K H) (zs.map (·.1)) (zs.map (·.2)):=by
  clear z1 hys hqs hv;generalize ((ao st').map (·.2)).toList=ol at z2
  induction z2 with
  |nil=>exact .nil
  |cons r y ih=>exact .cons r.2.1 ih
 have hkeys:((ao st').map (·.2)).toList.map (TS.ym s.heap)=zs.map (·.2):=by
  clear z1 hys hqs hv hP;generalize ((ao st').map (·.2)).toList=ol at z2
  induction z2 with
  |nil=>rfl
  |cons r y ih=>rw[au,au,ih,r.2.2.pair]
 have hsrt:(zs.map (·.2)).Pairwise qfc:=by
  rw[<-hkeys,iJ,fh];have h0:(ao st').size=(bW its).size:=pm.size_eq;rw[<-h0]at sr
  have:=sr.pw
  refine iK.mpr ?_;refine il (λ{a b} ha hb hab=>?_) this;have ea:=(gZ (hl.mem_iff.mp ha)).1;have eb:=(gZ (hl.mem_iff.mp hb)).1;have hab:TS.pO.blt (TS.ym s.heap b.1) (TS.ym s.heap a.1)=false:=hab;rw[ea,eb]at hab;unfold TS.pO at hab;simp at hab;show qfc (TS.ym s.heap a.2) (TS.ym s.heap b.2);unfold qfc
  lia
 let(e,he):=sortedAll_at s.heap its ((ao st').map (·.2));have hz2:(zs.map (·.1)).length<=sizeLine:=by rw[hys.length_eq];exact hz
 refine{.ref (s.heap.objs.size+1),_,I.laid (t':=s.toks) (λb o eb=>sortedAll_old eb) (eG _) (show qI X.prog X.w _ _ _ (.lst (zs.map (·.1))) from{hz2,_,e,hv,?_}),rfl,q _ _ _ (I.hok.fresh (eG _)) hP hys hqs hsrt};rw[lI];exact he
end
def yx(env:Env)(ns:List (Str×cH))(acc:List (Str×af)):List (Str×af):=ns.foldl (λcs x=>if x.2 == .free then (x.1,(env.cells.lookup x.1).getD 0)::cs else cs) acc
theorem qiQ{env:Env}:∀(ns:List (Str×cH)) (acc:List (Str×af)),(∀x∈ns,x.2=.free->∃c,env.cells.lookup x.1=some c)->
  (forIn ns acc λ(x:Str×cH) (cs:List (Str×af))=>(match x with |(name,kind)=>if kind == .free then (do let c<-cellOf env name;pure (gK ((name,c)::cs)):Sem (ForInStep (List (Str×af)))) else pure (gK cs)))=(pure (yx env ns acc):Sem (List (Str×af)))
 |[],acc,z=>by rw[List.forIn_nil];rfl
 | (n,k)::r,acc,h=>by
  rw[List.forIn_cons];have hr:=qiQ (env:=env) r
  by_cases hk:k=.free
  .subst hk;let(c,hc):=h (n,.free) bX rfl;have e1:cellOf env n=pure c:=by unfold cellOf;rw[hc]
   simp![beq_self_eq_true,if_true,e1,pure_bind];rw[hr _ λx hx=>h x (bH _ hx)];unfold yx;simp[hc]
  .have hb:(k == cc)=false:=(-hk:)
   simp![hb,bo,if_false,pure_bind];rw[hr _ λx hx=>h x (bH _ hx)];unfold yx;rw[gL];simp![hb,bo,if_false]
def qiR{env:Env}{scope:bw}(h:∀x∈scope.names,x.2=.free->∃c,env.cells.lookup x.1=some c):closureFor scope env=pure (yx env scope.names []):=by
 unfold closureFor
 have:=qiQ scope.names [] h
 simp![bind_pure_comp]at this;simp![bind_pure_comp,id_map',this];rfl
theorem qfd{env:Env}:∀(ns:List (Str×cH)) (acc:List (Str×af)),(∀x∈ns,x.2=.free->∃c,env.cells.lookup x.1=some c)->(∀x c,acc.lookup x=some c->env.cells.lookup x=some c)->
  ∀x c,(yx env ns acc).lookup x=some c->env.cells.lookup x=some c
 |[],z,y,h=>h
 | (n,k)::r,acc,hf,h=>by
  have ih:=qfd (env:=env) r (if k == .free then (n,(env.cells.lookup n).getD 0)::acc else acc) (λx hx=>hf x (bH _ hx)) (λx c e=>by
   by_cases hk:k=.free
   .subst hk;simp![beq_self_eq_true,if_true]at e;let(c',hc):=hf (n,.free) bX rfl;rw[bC]at e
    by_cases hx:x=n
    .subst hx;simp[hc]at e;rw[hc,e]
    .rw[show(x == n)=false by simpa using hx]at e;exact h x c e
   .rw[show(k == cc)=false by simpa using hk]at e;exact h x c e)
  exact ih
def yM{env:Env}{ns:List (Str×cH)}(h:∀x∈ns,x.2=.free->∃c,env.cells.lookup x.1=some c):∀x c,(yx env ns []).lookup x=some c->env.cells.lookup x=some c:=qfd ns [] h λz z e=>by cases e
theorem Zx{env:Env}:∀(ns:List (Str×cH)) (acc:List (Str×af)) (x:Str) (c:af),acc.lookup x=some c->∃c,(yx env ns acc).lookup x=some c
 |[],z,y,c,h=>⟨c,h⟩
 | (n,k)::r,acc,x,c,h=>by
  show∃c,(yx env r (if k == .free then (n,(env.cells.lookup n).getD 0)::acc else acc)).lookup x=some c
  by_cases hk:k=.free
  .subst hk;simp![beq_self_eq_true,if_true]
   by_cases hx:x=n
   .subst hx;exact Zx r _ x ((env.cells.lookup x).getD 0) (by rw[bC];simp)
   .exact Zx r _ x c (by rw[bC,show(x == n)=false by simpa using hx];exact h)
  .rw[show(k == cc)=false by simpa using hk];exact Zx r _ x c h
theorem qce{env:Env}:∀(ns:List (Str×cH)) (acc:List (Str×af)) (x:Str),(x,cc)∈ns->∃c,(yx env ns acc).lookup x=some c
 | (n,k)::r,acc,x,h=>by
  show∃c,(yx env r (if k == .free then (n,(env.cells.lookup n).getD 0)::acc else acc)).lookup x=some c;rcases aF.mp h with e|h
  .injection e with e1 e2;subst e1 e2;simp![beq_self_eq_true,if_true];exact Zx r _ x ((env.cells.lookup x).getD 0) (by rw[bC];simp)
  .exact qce r _ x h
theorem Yg{env:Env}:∀{names:List (Str×cH)} {x:Str},names.lookup x=some .free->
  (names.map λ(n,k)=>if (k == cc&&env.scope.kind == .function&&env.kindOf n == some .cell) then (n,fX) else (n,k)).lookup x=some .cell\/
  (names.map λ(n,k)=>if (k == cc&&env.scope.kind == .function&&env.kindOf n == some .cell) then (n,fX) else (n,k)).lookup x=some .free
 |[],z,h=>by simp at h
 | (n,k)::r,x,h=>by
  simp![au]
  by_cases hx:x=n
  .subst hx;simp[bC]at h;subst h
   by_cases hc:(cc == cc&&env.scope.kind == .function&&env.kindOf x == some .cell)=true
   .rw[if_pos hc];left;simp[bC]
   .rw[if_neg hc];right;simp[bC]
  .have hb:(x == n)=false:=(-hx:)
   rw[bC,hb]at h;have ih:=Yg (env:=env) h
   by_cases hc:(k == cc&&env.scope.kind == .function&&env.kindOf n == some .cell)=true
   .rw[if_pos hc];simp![bC,hb];exact ih
   .rw[if_neg hc];simp![bC,hb];exact ih
theorem qfe{env:Env}:∀{names:List (Str×cH)} {x:Str} {k':cH},(names.map λ(n,k)=>if (k == cc&&env.scope.kind == .function&&env.kindOf n == some .cell) then (n,fX) else (n,k)).lookup x=some k'->
  k'=.cell\/k'=.free->(x,cc)∈names\/(x,fX)∈names
 |[],z,y,h,w=>by simp at h
 | (n,k)::r,x,k',h,hk=>by
  simp![au]at h
  by_cases hx:x=n
  .subst hx
   by_cases hc:(k == cc&&env.scope.kind == .function&&env.kindOf x == some .cell)=true
   .have:k=.free:=by simp at hc;exact hc.1.1
    subst this;exact .inl bX
   .rw[if_neg hc]at h;simp[bC]at h;subst h;rcases hk with rfl|rfl
    .exact .inr bX
    .exact .inl bX
  .have hb:(x == n)=false:=(-hx:)
   have ih:=qfe (env:=env) (names:=r) (x:=x) (k':=k') (by
    by_cases hc:(k == cc&&env.scope.kind == .function&&env.kindOf n == some .cell)=true
    .rw[if_pos hc]at h;simp![bC,hb]at h;exact h
    .rw[if_neg hc]at h;simp![bC,hb]at h;exact h) hk
   exact ih.imp (bH _) (bH _)
def blk(X:Cx)(N:List Str)(scope:bw)(cl:List (Str×af))(C:af)(fp:List af)(s2:ah)(H2:Hp):Cx:=
 { X with N:=N,s₀:=s2,Hv:=H2,env:=compEnvC scope cl C X.env,outer:=X.stack,stack:=X.stack,ex:=fp,fn:=λz=>false,pn:=[],xe:=λz z=>False }
structure BlkScope(X:Cx)(own:List Str)(fr:List Nat)(scope:bw):Prop where
 kind:scope.kind=.function
 nocell:∀x∈scope.names,x.2≠.cell
 names:∀x∈scope.names,x.2=.local->scope.names.lookup x.1=some .local
 free:∀x∈scope.names,x.2=.free->X.env.kindOf x.1=some .cell\/X.env.kindOf x.1=some .free
 look:∀i∈fr,scope.names.lookup (X.N.getD i "")=some .free
def Zy(X:Cx)(own:List Str)(fr:List Nat):List Str:=own++fr.map λi=>X.N.getD i ""
def Zz(own:List Str)(fr:List Nat)(Z:St):St:=(own.map λz=>none)++fr.map λi=>(Z[i]?).join
section
variable{X:Cx}{pins:PP}{Z:St}{H:Hp}{s:ah}{own:List Str}{fr:List Nat}{scope:bw}
abbrev qcf(its:List ae)(n:Nat):Obj:={ cls:=.type "list",data:=.seq its.toArray n }
def qmd{C:af}{fp:List af}(B:BlkScope X own fr scope)(I:Inv X pins Z H s)(hf:∀b∈fp,qdV X pins H b)(hfo:∀b∈fp,b < s.heap.objs.size)(hC:s.heap.objs.size<=C) :
  (blk X (Zy X own fr) scope (yx X.env scope.names []) C fp s H).Ok where
 mod:=I.ok.mod
 kind:=B.kind
 glob:=I.ok.glob
 blt:=I.ok.blt
 above:=hC
 inj:=λx y c h1 h2=>I.ok.inj x y c (yM (λz hz e=>I.ok.has _ (B.free z hz e)) x c h1) (yM (λz hz e=>I.ok.has _ (B.free z hz e)) y c h2)
 has:=λx h=>by
  have h':(x,cc)∈scope.names\/(x,fX)∈scope.names:=by
   rcases h with h|h
   .exact qfe (env:=X.env) h (.inl rfl)
   .exact qfe (env:=X.env) h (.inr rfl)
  rcases h' with h'|h'
  .exact qce _ _ _ h'
  .exact absurd rfl (B.nocell _ h')
 cab:=λx c h=>nomatch h
 hd:=I.ok.hd
 frames:=I.ok.frames
 stk:=.inl rfl
 exf:=λb hb=>{a9 (bD (hfo b hb) hC),λx c e=>(hf b hb).2.2.2.2.1 x c (yM (λz hz e=>I.ok.has _ (B.free z hz e)) x c e)}
 bs:=I.bs
 bsz:=bQ I.ok.bsz I.sz
 noex:=λb o e hb=>by
  rcases (hf b hb).2.2.2.1 with z|z
  .exact I.ok.noex b o e z
  .exact absurd (bD (aQ (I.ok.bs b o e).1) z) (eE _)
 exfs:=λb hb z=>by
  rcases aF.mp (I.stkSub b z) with e|e
  .exact(hf b hb).2.1 e
  .exact(hf b hb).2.2.1 e
 funs:=I.stack
 frf:=I.stkFree
def qff{C D:af}{fp:List af}{h4:aw}{tk:Nat}{n:Nat}(B:BlkScope X own fr scope)(I:Inv X pins Z H s)(hf:∀b∈fp,qdV X pins H b)(hfo:∀b∈fp,b < s.heap.objs.size)(hC:s.heap.objs.size<=C)(hD:s.heap.objs.size<=D)(hDC:D≠C)
  (k:∀b o,s.heap.get? b=some o->h4.get? b=some o) (hn:h4.Ns C λt=>none) (hl:h4.get? D=some (qcf [] n)) :
  Inv (blk X (Zy X own fr) scope (yx X.env scope.names []) C fp s H) [(D,qcf [] n)] (Zz own fr Z) H { s with heap:=h4,toks:=tk }:=by
 have sub:=yM (env:=X.env) (ns:=scope.names) (λz hz e=>I.ok.has _ (B.free z hz e));refine{qmd B I hf hfo hC,rfl,I.bare,Un.kept k,{_,hn,λi x v h1 h2 h3=>?_},λx c e=>?_,I.hok.fresh hC,λx c e=>I.freeC x c (sub x c e),λp hp=>?_,I.hok.kept k,?_}
 .have h1:(Zy X own fr)[i]?=some x:=h1;unfold Zy at h1;unfold Zz at h2
  by_cases hi:i < own.length
  .rw[dF (-hi:),bu]at h2
   cases q:own[i]? with
   |none=>rw[q]at h2;cases h2
   |some a=>rw[q]at h2;cases h2
  .rw[c5 (-hi:),bu]at h2;rw[c5 (-hi:),bu]at h1;rw[aD]at h2
   cases q:fr[i - own.length]? with
   |none=>rw[q]at h2;cases h2
   |some j=>
    rw[q]at h1 h2;have h1:X.N.getD j "" = x:=Option.some.inj h1;have h2:(Z[j]?).join=some v:=Option.some.inj h2
    have h2':Z[j]?=some (some v):=by
     cases w:Z[j]? with
     |none=>rw[w]at h2;cases h2
     |some y=>rw[w]at h2;cases y with
      |none=>cases h2
      |some y=>cases h2;rfl
    have hjl:j < X.N.length:=by rw[<-I.len];exact(bE.mp h2').1
    have hN:X.N[j]?=some x:=by rw[<-h1,bN hjl];simp[hjl]
    have hfree:scope.names.lookup x=some .free:=by rw[<-h1];exact B.look j (ed q)
    have hk:=B.free (x,.free) (dk hfree) rfl;let(m,_,hloc):=I.loc
    let(u,r,l):=hloc j x v hN h2' (by
     rcases hk with z|z
     .exact .inr (.inl z)
     .exact .inr (.inr z))
    refine{u,r,.inr {?_,?_}}
    .exact Yg (env:=X.env) hfree
    .rcases l with ⟨l,_⟩|⟨_,c,hc,o,ho,hd⟩
     .have hk:X.env.kindOf x=some .cell\/X.env.kindOf x=some .free:=hk;rw[l]at hk;rcases hk with z|z<;>cases z
     .let(c',hc'):=qce (env:=X.env) scope.names [] x (dk hfree)
      have:=sub x c' hc'
      rw[hc]at this;cases this;exact{c,hc',o,k _ _ ho,hd}
 .let(v,o,ho,hd):=I.cell x c (sub x c e);exact{v,o,k _ _ ho,hd}
 .have hp:p∈[(D,qcf [] n)]:=by simpa [blk] using hp
  cases aU.mp hp;refine{hl,I.hok.fresh hD,hDC,λz=>?_,λv e=>by cases e};rcases aF.mp (I.stkSub D z) with e|e
  .exact a9 (bD I.lt hD) e.symm
  .exact I.nofs hD e
 .show(Zz own fr Z).length=(Zy X own fr).length;unfold Zz Zy;simp
end
def PIf(X:Cx)(ifs:List ag)(t:TT):Prop:=
 ∀(pins:PP) (s:ah) (Z:St) (H:Hp) (Q:Bool->Hp->Prop),Inv X pins Z H s->t Z H Q->
  ak (av X.prog X.w) X.A (forIn ifs true λc r=>if r=true then do let ok<-isTrue c X.env (eval c X.env);pure (gK ok) else pure (gK r)) (TP X pins Z Q) X.xe s
def qrh:TT:=λz H Q=>Q true H
section
variable{X:Cx}{pins:PP}{Z:St}{H:Hp}{s:ah}{own:List Str}{fr:List Nat}{scope:bw}
def qjZ:PIf X [] qrh:=λz z z H z I h=>wpAny_tests_nil ⟨H,I,h⟩
def qj0{c:ag}{t:TT}(h:PT X c t):PIf X [c] t:=λpins s Z H Q I hw=>wpAny_tests_one (h pins s Z H Q I hw)
def YO(J:It)(g:TG)(tc:TT)(te:TE)(fin:List V->Hp->Prop)(W:Nat->Nat->List V->St->Hp->Prop):Prop:=
 ∀i m ys Z' H',W i m ys Z' H'->(J.stop i H'/\fin ys H')\/
  (J.go i H'/\ys.length < sizeLine/\∃N:List V->St->Hp->Prop,(∀ys' Z2 H2,N ys' Z2 H2->∃m',m' < m/\W (i+1) m' ys' Z2 H2)/\
   ∀x H2,J.yld i H' x H2->g x Z' H2 λZ2 H3=>tc Z2 H3 λb H4=>if b=true then te Z2 H4 λy H5=>N (ys++[y]) Z2 H5 else N ys Z2 H4)
def qj1(own:List Str)(fr:List Nat)(wi:TI)(g:TG)(tc:TT)(te:TE):TE:=λZ H Q=>wi Z H λJ H1=>∃W:Nat->Nat->List V->St->Hp->Prop,(∃m,W 0 m [] (Zz own fr Z) H1)/\YO J g tc te (λys H'=>∀l,H' l=none->Q (.ref l) (upd H' l (.lst ys))) W
def qj2{N:List Str}{cl:List (Str×af)}{C l:af}{fp:List af}{s4:ah}{H':Hp}{Z':St}{its:List ae}{k:Nat}{ys:List V}(I:Inv X pins Z H s)(hf:∀b∈fp,qdV X pins H b)(hl:s.heap.objs.size<=l)
  (I4:Inv (blk X N scope cl C fp s H) [(l,qcf its k)] Z' H' s4) (rv:qt ys its) (hz:ys.length<=sizeLine):Inv X pins Z (upd H' l (.lst ys)) s4:=by
 have base:Un (frs X.stack) fp H H' s.heap s4.heap:=I4.base;have pin:=I4.pin (l,qcf its k) (bb _ bX);have nl:∀b o,s.heap.get? b=some o->b≠l:=λb o e=>a9 (bD (aQ e) hl);have nh:∀b u,H' b=some u->b≠l:=λb u e=>qR e pin.2.1;refine I.call' (ch:=fp) I4.os ⟨base.keep,base.slot,λb o e n hx=>?_,base.there,λb xs e=>?_,λb o u e=>?_,λb ps e=>?_⟩ (λb u e=>?_) I4.bare (λb hb=>{(hf b hb).2.2.2.1,(hf b hb).2.1,(hf b hb).2.2.2.2.1,(hf b hb).2.2.2.2.2})
 .rw[qd (nl b o e)];exact base.free b o e n hx
 .have:=base.tups b xs e
  rw[qd (nh b _ this)];exact this
 .have:=base.frzs b o u e
  rw[qd (nh b _ this)];exact this
 .let(more,this):=base.tbls b ps e;exact{more,by rw[qd (nh b _ this)];exact this}
 .by_cases hb:b=l
  .subst hb;rw[qe]at e;cases e;exact⟨hz,its,k,rv,pin.1⟩
  .rw[qd hb]at e;exact(I4.hok b u e).stay (λc v z q=>q) (λc q=>by rw[qd (nh c _ q)];exact q) λc xs q=>by rw[qd (nh c _ q)];exact q
def qfg{Y:Cx}{elt iter tg:ag}{ifs:List ag}{pos:Pos}{g:TG}{tc:TT}{te:TE}{it l:af}{fp:List af}{tn:Nat->aw->Prop}{J:It}{fin:List V->Hp->Prop}{W:Nat->Nat->List V->St->Hp->Prop}{m0:Nat}{R:Result->ah->Prop}
  (T:Turn Y.prog Y.w Y.K tg J fp it tn) (hc:Y.calm=true) (hg:PG Y tg g) (ht:PIf Y ifs tc) (he:PE Y elt te) (hE:∀e s,¬Y.xe e s) (stat:∀{H'} {o:Obj},(∀b∈fp,H' b=none)->∀b∈fp,qdV Y [(l,o)] H' b) (hl:Y.s₀.heap.objs.size<=l) (hp:Y.pn=[])
  (hW:YO J g tc te fin W) (post:∀ys its k Z H s,Inv Y [(l,qcf its k)] Z H s->qt ys its->ys.length<=sizeLine->fin ys H->R (.ok .next) s) (I:Inv Y [(l,qcf [] 0)] Z H s) (st:tn 0 s.heap) (fr:∀b∈fp,H b=none) (w:W 0 m0 [] Z H) :
  cN (av Y.prog Y.w) Y.A (.compLoop (.ListComp elt [⟨tg,iter,ifs,0⟩] scope pos) 0 (.ref it) (.ref l) Y.env) R s:=by
 refine codeAny_loop rfl (λn s=>∀G:Prop,(∀i ys Z H its k,Inv Y [(l,qcf its k)] Z H s->qt ys its->ys.length<=sizeLine->tn i s.heap->(∀b∈fp,H b=none)->W i n ys Z H->G)->G)
  (λn s3 hI=>hI _ λi ys Z3 H3 its k I3 rv hz st3 fr3 w3=>wpAny_noted ?_) m0 λ_ h=>h 0 [] Z H [] 0 I .nil (aZ _) st fr w
 show ak _ Y.A (compTurn _ _ _ _ Y.env) _ _ _
 suffices abs:∀(Q:Fin->ah->Prop) E,(∀s4,Inv Y [(l,qcf its k)] Z3 H3 s4->fin ys H3->Q (.done .next) s4)->(∀m ys Z H its k s4,m < n->Inv Y [(l,qcf its k)] Z H s4->qt ys its->ys.length<=sizeLine->tn (i+1) s4.heap->(∀b∈fp,H b=none)->W (i+1) m ys Z H->Q (.again _) s4)->ak (av Y.prog Y.w) Y.A (compTurn (.ListComp elt [⟨tg,iter,ifs,0⟩] scope pos) 0 (.ref it) (.ref l) Y.env) Q E s3 from
  abs _ _ (λs4 I4 q=>post _ _ _ _ _ _ I4 rv hz q) λm ys Z H its k s4 hm I4 rv hz st fr w=>{rfl,m,hm,λ_ h=>h _ _ _ _ _ _ I4 rv hz st fr w}
 intro Q E q1 q2;rw[compTurn_list];refine aj (lX (aj ?_));rcases hW i n ys Z3 H3 w3 with ⟨stop,qn⟩|⟨go,hlt,N,hN,step⟩
 .refine thn (T.done Y rfl rfl rfl hc i _ s3 Z3 H3 _ I3 (stat fr3) st3 stop) λr s4 hq1=>?_;rw[hq1.1];exact aB (q1 s4 hq1.2 qn)
 .refine thS (T.item Y rfl rfl rfl hc i _ s3 Z3 H3 _ I3 (stat fr3) st3 go) λu s4 h4=>aj (th6 h4 λ_ s5 x H5 I5 r5 y5=>?_);refine aj (dQ (hg _ s5 Z3 H5 x u _ (I5.pinned (stat y5.2.2) (T.obj _ _ y5.2.1)) r5 (step x H5 y5.1)) (λ_ s6 hq=>?_) λ_ _ z=>absurd z (hE _ _));let(Z6,H6,I6,q6):=hq;refine aj (dQ (ht _ s6 Z6 H6 _ I6 q6) (λb s7 hq=>?_) λ_ _ z=>absurd z (hE _ _));let(H7,I7,q7):=hq
  have back:∀{Z8:St} {H8:Hp} {s8:ah},Inv Y ([(l,qcf its k)]++qaH fp s5.heap) Z8 H8 s8->∀b∈fp,(∀o,s5.heap.get? b=some o->s8.heap.get? b=some o)/\H8 b=none:=λI8 b hb=>by have pin:=λo e=>I8.pin (b,o) (bb _ (bb _ (QK hb e)));refine{λo e=>(pin o e).1,?_};let(o,e,_):=T.obj _ _ y5.2.1 b hb;exact(pin o e).2.1
  cases b with
  |false=>have k1:=back I7;let(m,hm,w):=hN _ _ _ q7;exact aB (q2 m ys Z6 H7 its k s7 hm I7.unpinned rv hz (T.keep _ _ _ y5.2.1 λb hb=>(k1 b hb).1) (λb hb=>(k1 b hb).2) w)
  |true=>
   refine aj (aj (dQ (he _ s7 Z6 H7 _ I7 q7) (λw s8 hq=>?_) λ_ _ z=>absurd z (hE _ _)));let(y,H8,I8,r8,q8):=hq;have k1:=back I8;let(m,hm,w8):=hN _ _ _ q8;have pin:=I8.pin (l,qcf its k) (bb _ (bI _ bX));refine aj (append_at pin.1 (λh9 hs9 hD9=>?_) (by rw[br,<-rv.length];exact hz));refine aB (aB (q2 m (ys++[y]) Z6 H8 (its++[w]) (k+1) _ hm ?_ (rv.append %[r8|0]) (by rw[aT];exact hlt) (T.keep _ _ _ y5.2.1 λb hb o e=>?_) (λb hb=>(k1 b hb).2) w8))
   .refine Inv.pins_of (pins:=[]) (Inv.turned (t':=s8.toks) (I8.pins_of λp hp=>nomatch hp) (λb o hb e=>hs9.extBut b o hb e) pin.2.1 pin.2.2.1 (.inr hl) (λx c e z=>?_) λp h=>?_) λp hp=>?_
    .let(v,o,ho,hd):=I8.cell x c e;rw[z,pin.1]at ho;cases ho;cases hd
    .rw[hp]at h;cases h
    .cases aU.mp hp;exact{by rw[hD9,List.push_toArray],pin.2.1,pin.2.2.1,pin.2.2.2.1,λv e=>by cases e}
   .exact hs9.extBut b o ((stat (o:=qcf [] 0) y5.2.2 b hb).2.2.2.2.2 _ (bb _ bX)).symm ((k1 b hb).1 o e)
def qa1{elt iter tg:ag}{ifs:List ag}{pos:Pos}{g:TG}{tc:TT}{te:TE}{it:af}{fp:List af}{tn:Nat->aw->Prop}{J:It}{fin:List V->Hp->Prop}{W:Nat->Nat->List V->St->Hp->Prop}{m0:Nat}
  {RR:ae->af->Result->ah->Prop} {E:PQ} (hc:X.calm=true) (B:BlkScope X own fr scope)
  (hg:∀cl C fp s2 H2,PG (blk X (Zy X own fr) scope cl C fp s2 H2) tg g) (ht:∀cl C fp s2 H2,PIf (blk X (Zy X own fr) scope cl C fp s2 H2) ifs tc) (he:∀cl C fp s2 H2,PE (blk X (Zy X own fr) scope cl C fp s2 H2) elt te)
  (I:Inv X pins Z H s) (T:Turn X.prog X.w X.K tg J fp it tn) (st0:tn 0 s.heap) (hf:∀b∈fp,qdV X pins H b) (w0:W 0 m0 [] (Zz own fr Z) H) (hW:YO J g tc te fin W)
  (post:∀(l C:af) (s4:ah) (ys:List V) (H':Hp) (m:PR),s.heap.objs.size<=C->H' C=none->H' l=none->l≠C->s4.heap.Ns C m->Inv X pins Z (upd H' l (.lst ys)) s4->fin ys H'->RR (.ref l) C (.ok .next) s4) :
  ak (av X.prog X.w) X.A (newList []) (λacc s₃=>ak (av X.prog X.w) X.A (newFunctionEnv scope X.env.globals (yx X.env scope.names []) [] X.env.qual none .none (some X.env)) (λcenv s₄=>cN (av X.prog X.w) X.A (.compStart (.ListComp elt [⟨tg,iter,ifs,0⟩] scope pos) 0 (.ref it) acc { cenv with scope:=relabel scope X.env }) (RR acc cenv.locals) s₄) E s₃) E s:=by
 have hfo:∀b∈fp,b < s.heap.objs.size:=λb hb=>by let(o,e,_):=T.obj _ _ st0 b hb;exact aQ e
 refine g7 (wpAny_newFunctionEnv B.nocell (by intro y hy;simp at hy) (λh1 hns hsb=>?_) B.kind);dsimp only at hns hsb ⊢;generalize hH2:s.heap.push { cls:=.type "list",dict:=none,data:=.seq ([]:List ae).toArray }=h2 at hns hsb ⊢;have hC:h2.objs.size=s.heap.objs.size+1:=by rw[<-hH2,eF]
 have hDC:s.heap.objs.size≠h2.objs.size:=by rw[hC];exact a9 (gA _)
 have hCle:s.heap.objs.size<=h2.objs.size:=by rw[hC];exact eG _
 have old:∀b o,s.heap.get? b=some o->h1.get? b=some o:=λb o e=>hsb.extBut b o (by rw[hC];exact a9 (lG (aQ e))) (aW _ (hH2▸aW _ e));have hacc:h1.get? s.heap.objs.size=some (qcf [] 0):=hsb.extBut _ _ hDC (aW _ (hH2▸bz _ rfl));have hns':h1.Ns h2.objs.size λ_=>none:=hns;have I0:=qff (tk:=s.toks+([]:List (Str×ae)).length) B I hf hfo hCle (ay _) hDC old hns' hacc;have st1:tn 0 h1:=T.keep _ _ _ st0 λb hb o e=>old b o e
 have loop:cN (av X.prog X.w) X.A (.compLoop (.ListComp elt [⟨tg,iter,ifs,0⟩] scope pos) 0 (.ref it) (.ref s.heap.objs.size) (compEnvC scope (yx X.env scope.names []) h2.objs.size X.env))
   (RR (.ref s.heap.objs.size) h2.objs.size) { s with heap:=h1,toks:=s.toks+([]:List (Str×ae)).length }:=by
  generalize hl:s.heap.objs.size=l at *;generalize hCC:h2.objs.size=C at *
  exact qfg (Y:=blk X (Zy X own fr) scope (yx X.env scope.names []) C fp s H) T hc (hg _ _ _ _ _) (ht _ _ _ _ _) (he _ _ _ _ _) (λ_ _ z=>z) (λ{H' o} hn b hb=>by
   refine{hn b hb,λe=>?_,λz=>?_,.inl hb,λx c e z=>?_,λp hp z=>?_}
   .exact a9 (bD (hfo b hb) hCle) e
   .rcases aF.mp (I.stkSub b z) with e|e
    .exact(hf b hb).2.1 e
    .exact(hf b hb).2.2.1 e
   .exact(hf b hb).2.2.2.2.1 x c (yM (λz hz e=>I.ok.has _ (B.free z hz e)) x c e) z
   .cases aU.mp hp;exact a9 (hfo b hb) z.symm) (e7 hl) rfl hW (λys its k Z4 H4 s4 I4 rv hz q=>by let(m,hm,_):=I4.loc;exact post l C s4 ys H4 m hCle I4.free (I4.pin (l,qcf its k) (bb _ bX)).2.1 hDC hm (qj2 I hf (e7 hl) I4 rv hz) q) I0 st1 (λb hb=>(hf b hb).1) w0
 exact codeAny_compStart_list loop (T.self _ 0 _ _ _ st1 loop)
def Inv.letgo{s2 s4:ah}{H2 H4:Hp}{C:af}{h':aw}(I2:Inv X pins Z H2 s2){Z4:St}(I4:Inv X pins Z4 H4 s4)(hC:s2.heap.objs.size<=C)(hn:H4 C=none)(hs:dP C s4.heap h'):Inv X pins Z4 H4 { s4 with heap:=h' }:=by let(f0,f1,_,f3,f4,f5):=I2.fpOk hC hn;exact I4.turned (t':=s4.toks) (λb o hb e=>hs.extBut b o hb e) f0 f1 f3 f4 f5
def qj3{elt iter tg:ag}{ifs:List ag}{pos:Pos}{g:TG}{tc:TT}{te:TE}{wi:TI}(own:List Str)(fr:List Nat)(hc:X.calm=true)(B:BlkScope X own fr scope)(hi:PI X tg iter wi)
  (hg:∀cl C fp s2 H2,PG (blk X (Zy X own fr) scope cl C fp s2 H2) tg g) (ht:∀cl C fp s2 H2,PIf (blk X (Zy X own fr) scope cl C fp s2 H2) ifs tc) (he:∀cl C fp s2 H2,PE (blk X (Zy X own fr) scope cl C fp s2 H2) elt te)
  (hs:∀x,kc iter X.env x=pure x:=by intro _;rfl):PE X (.ListComp elt [⟨tg,iter,ifs,0⟩] scope pos) (qj1 own fr wi g tc te):=by
 intro pins s Z H Q I h;rw[eval_ListComp];refine nN (use:=none) rfl hs (qiR λz hz e=>I.ok.has _ (B.free z hz e)) B.kind B.names ?_;refine thn (hi pins s Z H _ I h) λv s1 h1=>thn h1 λitv s2 h2=>?_;apply h2;intro it fp tn J H2 I2 T st2 f2 h;let(W,(m0,w0),hW):=h;refine qa1 hc B hg ht he I2 T st2 f2 w0 hW λl C s4 ys H' m hC nC nl hlC hm I4 fin=>?_;exact{m,hm,λh' hs'=>{.ref l,_,I2.letgo I4 hC (by rw[qd (cy hlC)];exact nC) hs',rfl,fin l nl}}
def qj4{elt iter tg:ag}{ifs:List ag}{pos pos' cpos:Pos}{g:TG}{tc:TT}{te:TE}{wi:TI}{i:Nat}{x:Str}(own:List Str)(fr:List Nat)(hN:X.N.Nodup)(hxi:X.N[i]?=some x)(hx:X.env.scope.names.lookup x=some .local)(hc:X.calm=true)(B:BlkScope X own fr scope)(hi:PI X tg iter wi)
  (hg:∀cl C fp s2 H2,PG (blk X (Zy X own fr) scope cl C fp s2 H2) tg g) (ht:∀cl C fp s2 H2,PIf (blk X (Zy X own fr) scope cl C fp s2 H2) ifs tc) (he:∀cl C fp s2 H2,PE (blk X (Zy X own fr) scope cl C fp s2 H2) elt te)
  (hsw:fu (.ListComp elt [⟨tg,iter,ifs,0⟩] scope cpos) (some (.Name x pos')) pos.line X.env=pure true:=by rfl)
  (hs:∀x,kc iter X.env x=pure x:=by intro _;rfl):PS X (.Assign [.Name x pos'] (.ListComp elt [⟨tg,iter,ifs,0⟩] scope cpos) pos) (qph (qj1 own fr wi g tc te) (qgX i)):=by
 intro pins s Z H D I h;rw[exec_Assign_Name_used _ _ _ _ hsw];refine aj (lX (aj ?_));show ak _ X.A (do let _<-comprehension (.ListComp elt [⟨tg,iter,ifs,0⟩] scope cpos) scope X.env _ (newList []) false (eval iter X.env) (some (eo (.Name x pos') X.env))) _ _ s;refine aj (dQ (nN (use:=some (eo (.Name x pos') X.env)) (Q:=λ_ s'=>SP X pins D .next s') rfl hs (qiR λz hz e=>I.ok.has _ (B.free z hz e)) B.kind B.names ?_) (λ_ s' hq=>aB (aB hq)) λ_ _ e=>e);refine thn (hi pins s Z H _ I h) λv s1 h1=>thn h1 λitv s2 h2=>?_;apply h2;intro it fp tn J H2 I2 T st2 f2 h;let(W,(m0,w0),hW):=h;refine qa1 (RR:=λacc C=>compPost (av X.prog X.w) X.A X.xe (some (eo (.Name x pos') X.env)) (λ_ s'=>SP X pins D .next s') acc C) hc B hg ht he I2 T st2 f2 w0 hW λl C s4 ys H' m hC nC nl hlC hm I4 fin=>?_;show ak _ X.A (eo (.Name x pos') X.env (.ref l)) _ _ s4;refine wpAny_assign_Name (qaF I4 hN hxi (.inl hx) (v:=.ref l) rfl (λs5 I5 hsb=>?_) (.inr hx));let(a,sb,ha):=hsb
 have hCa:C≠a:=by
  rcases ha with rfl|ha
  .exact fK (bD I2.lt hC)
  .let(v,q):=I2.cell x a ha;exact fK (bD q.lt hC)
 exact{m,hm.sameBut sb hCa,λh' hs'=>{_,_,I2.letgo I5 hC (by rw[qd (cy hlC)];exact nC) hs',fin l nl}}
end
mutual
def DV(K:Frag)(H:Hp):eu->V->Prop
 |.none,v=>v=.non
 |.bool b,v=>v=.bl b
 |.int i,v=>v=.int i
 |.str x,v=>v=.str x
 |.list ds,v=>∃a xs,v=.ref a/\SqL K H a xs/\DVs K H ds xs
 |.tuple ds,v=>∃a xs,v=.ref a/\SqT K H a xs/\DVs K H ds xs
 |.dict z,y=>False
def DVs(K:Frag)(H:Hp):List eu->List V->Prop
 |[],xs=>xs=[]
 | d::ds,xs=>∃x r,xs=x::r/\DV K H d x/\DVs K H ds r
end
section
variable{X:Cx}{pins:PP}{Z:St}{H:Hp}{s:ah}
mutual
theorem DV.reads(I:Inv X pins Z H s):∀{d:eu} {v:V} {u:ae},DV X.K H d v->qF v u->∃as,Reads s.heap u d as
 |.none,v,u,h,r=>by
  have h:v=.non:=by simpa [DV] using h
  subst h;cases r;exact{_,Reads.none}
 |.bool b,v,u,h,r=>by
  have h:v=.bl b:=by simpa [DV] using h
  subst h;cases r;exact{_,Reads.bool b}
 |.int i,v,u,h,r=>by
  have h:v=.int i:=by simpa [DV] using h
  subst h;let(t,rfl):=r;exact{_,Reads.int i t}
 |.str x,v,u,h,r=>by
  have h:v=.str x:=by simpa [DV] using h
  subst h;let(t,rfl):=r;exact{_,Reads.str x t}
 |.list ds,v,u,h,r=>by
  have h:∃a xs,v=.ref a/\SqL X.K H a xs/\DVs X.K H ds xs:=by simpa [DV] using h
  let(a,xs,rfl,hq,hd):=h;cases r;let(its,rv,pl,_):=I.list hq;let(as,ra):=DVs.reads I hd rv;let(o,ho,hc,n,hdd):=pl.isList;exact{_,reads_list_at ho hc hdd (-ra:)}
 |.tuple ds,v,u,h,r=>by
  have h:∃a xs,v=.ref a/\SqT X.K H a xs/\DVs X.K H ds xs:=by simpa [DV] using h
  let(a,xs,rfl,hq,hd):=h;cases r;let(its,rv,pl,_):=I.tuple hq;let(as,ra):=DVs.reads I hd rv;let(o,ho,hc,n,hdd):=pl;exact{_,reads_tuple_at ho hc hdd (-ra:)}
 |.dict z,v,u,h,r=>by simp[DV]at h
theorem DVs.reads(I:Inv X pins Z H s):∀{ds:List eu} {vs:List V} {us:List ae},DVs X.K H ds vs->qt vs us->∃as,ReadsAll s.heap us ds as
 |[],vs,us,h,r=>by
  have h:vs=[]:=by simpa [DVs] using h
  subst h;cases r;exact{_,ReadsAll.nil}
 | d::ds,vs,us,h,r=>by
  have h:∃x r,vs=x::r/\DV X.K H d x/\DVs X.K H ds r:=by simpa [DVs] using h
  let(x,rr,rfl,h1,h2):=h
  cases r with
  |cons r1 r2=>let(as,ra):=DV.reads I h1 r1;let(bs,rb):=DVs.reads I h2 r2;exact{_,ReadsAll.cons ra rb}
end
def qri(K:Frag):R2:=λx y H Q=>∃d e,DV K H d x/\DV K H e y/\bJ d=true/\bJ e=true/\Q (.bl (cg d e)) H
def qrj(K:Frag):R2:=λx y H Q=>∃d e,DV K H d x/\DV K H e y/\bJ d=true/\bJ e=true/\Q (.bl (!PyData.eqv d e)) H
def qme(hu:X.A.units+64 < du):OpR X (bO .Eq) (qri X.K):=by intro pins s Z H x y v u Q I rx ry h;let(d,e,hd,he,sd,se,q):=h;let(as,ra):=DV.reads I hd rx;let(bs,rb):=DV.reads I he ry;exact eq_dataH ra rb sd se hu ⟨.bl _,H,I,rfl,q⟩
def qmf(hu:X.A.units+64 < du):OpR X (bO .NotEq) (qrj X.K):=by intro pins s Z H x y v u Q I rx ry h;let(d,e,hd,he,sd,se,q):=h;let(as,ra):=DV.reads I hd rx;let(bs,rb):=DV.reads I he ry;exact ne_dataH ra rb sd se hu ⟨.bl _,H,I,rfl,q⟩
def qhj:zd X (.builtin "isinstance") (λvs H Q=>∃x n t b,vs=[x,.ty n]/\TyOf X.K H x t/\dz X.K t (.type n)=some b/\Q (.bl b) H):=by intro pins s Z H xs us Q I r h;let(x,n,t,b,rfl,ty,e,q):=h;let(u,w,rfl,rx,rn):=qb3 r;cases rn;exact qaL I rx ty e λtk=>{.bl b,H,I.tok tk,rfl,q}
def qa2:∀(bs:List Bool),((cZ bs.length).all λi=>bs.getD i false)=bs.all id:=by
 intro bs;rw[lJ,ee,ee];constructor
 .intro h x hx;let(i,hi,rfl):=fT.mp hx
  have:=h i (kY.mpr hi)
  simpa [hi] using this
 .intro h i hi;have hi:=kY.mp hi
  have:=h bs[i] (iL hi)
  simpa [hi] using this
def qd9{p:af}{bs:List Bool}(hc:X.calm=true)(I:Inv X pins Z H s)(hq:SqL X.K H p (bs.map V.bl)){Q:VK}{k:Bool}(q:Q (.bl k) H)(f:(Nat->Bool)->Bool)(hk:f (λi=>bs.getD i false)=k) :
  ak (av X.prog X.w) X.A.in1 (fD (.ref p)) (λit s2=>∃I fp wr n P St tr,it=.ref I/\Walks X.prog X.w X.A.in1 I fp wr n P St/\St 0 s2.heap/\TruthOf X.prog X.w X.A.in1 P tr/\n=bs.length/\
   ∀h' tk,(∀b o,b∉wr->s2.heap.get? b=some o->h'.get? b=some o)->tr=(λi=>bs.getD i false)/\EP X pins Z Q (.bool k) { s2 with heap:=h',toks:=tk }) X.xe s:=by
 let(its,rv,pl,hz):=I.list hq;have hlt:p < s.heap.objs.size:=by let(_,e,_):=pl.isList;exact aQ e
 refine ki pl.isList ?_;refine{s.heap.objs.size,_,_,_,_,_,λi=>bs.getD i false,rfl,Walks.list (prog:=X.prog) (w:=X.w) (A:=X.A.in1) (show X.A.in1.handled=none from I.ok.hd hc) _ p (a9 hlt) its.toArray,{{_,bz _ rfl,rfl,rfl},pl.isList.push _},?_,?_,λh' tk kp=>{rfl,.bl k,H,?_,rfl,q}}
 .intro i v s' Q' E' hv hq';have hv:its[i]?=some v:=(-hv:)
  have hi:i < its.length:=(bE.mp hv).1;have hl:=rv.length;rw[aD]at hl
  have hb:(bs.map V.bl)[i]?=some (.bl (bs.getD i false)):=by rw[bu,bN (1:)];simp[show i < bs.length by lia]
  let(u,hu,ru):=rv.get hb;rw[hv]at hu;cases hu;cases ru;exact eS hq'
 .have hl:=rv.length;rw[aD]at hl;simp[hl]
 .refine I.kept (t':=tk) λb o e=>kp b o (λhb=>?_) (aW _ e)
  have:b=s.heap.objs.size:=(-hb:)
  exact a9 (aQ e) this
def qfh(hc:X.calm=true):zd X (.builtin "all") (λvs H Q=>∃(p:af) (bs:List Bool),vs=[.ref p]/\SqL X.K H p (bs.map V.bl)/\Q (.bl (bs.all id)) H):=by intro pins s Z H xs us Q I r h;let(p,bs,rfl,hq,q):=h;let(u,rfl,rx):=yJ r;cases rx;refine call_all_walk (thn (qd9 hc I hq q (λf=>(cZ bs.length).all f) (qa2 bs)) λit s2 h2=>?_);let(I',fp,wr,n,P,St,tr,rfl,W,st,tt,hn,fin):=h2;subst hn;refine{I',fp,wr,_,P,St,tr,rfl,W,st,tt,λh' tk kp=>?_};let(rfl,e):=fin h' tk kp;rw[qa2];exact e
def qrk(te:TE)(tl th:TO)(ts:TE)(K:Frag):TE:=λZ H Q=>te Z H λx H1=>tl Z H1 λl H2=>th Z H2 λu H3=>ts Z H3 λz H4=>∃a xs st ys,x=.ref a/\SqL K H4 a xs/\z=.int st/\st≠0/\ys.length<=xs.length/\(∀its:List ae,qt xs its->qt ys (gj its.toArray l u (some st)).toList)/\∀p,H4 p=none->Q (.ref p) (upd H4 p (.lst ys))
def qfi{e st:ag}{te ts:TE}{lo hi:Option ag}{tl th:TO}{pos p2:Pos}(he:PE X e te)(hl:PO X lo tl)(hu:PO X hi th)(hst:PE X st ts):PE X (.Subscript e (.Slice lo hi (some st) p2) pos) (qrk te tl th ts X.K):=by intro pins s Z H Q I h;refine Subscript_ (th5 (he pins s Z H _ I h) λv s1 x H1 I1 r1 q1=>?_);refine wpAny_Slice (th5 (hl pins s1 Z H1 _ I1 q1) λvl s2 l H2 I2 pl q2=>?_);refine th5 (hu pins s2 Z H2 _ I2 q2) λvu s3 u H3 I3 pu q3=>?_;rw[evalPart_some];refine th5 (hst pins s3 Z H3 _ I3 q3) λvs s4 z H4 I4 r4 q4=>?_;let(a,xs,k,ys,rfl,hq,rfl,h0,hle,hys,q):=q4;cases r1;let(t,rfl):=r4;have I5:Inv X pins Z H4 { s4 with heap:=s4.heap.push { cls:=.type "slice",data:=.fields #[vl,vu,.int k t] } }:=I4.kept (t':=s4.toks) λb ob q=>aW _ q;let(its,rv,ht,hz):=I5.list hq;have hlen:=rv.length;show ak (av X.prog X.w) X.A (l7 e (.Slice lo hi (some st) p2) (.ref a) (.ref s4.heap.objs.size)) (EP X pins Z Q) X.xe { s4 with heap:=s4.heap.push { cls:=.type "slice",data:=.fields #[vl,vu,.int k t] } };refine tail_any ht.isList.typeIs l9.lookup ?_ rfl;refine nM ht.isList (Heap.IsSliceOf.new ..) pl pu (.int k t) (λe=>h0 (Option.some.inj e)) ?_ (by rw[br];lia);have hv:=hys its rv;generalize hP:gj its.toArray l u (some k)=P at hv ⊢;refine{.ref _,_,I5.laid (t':=s4.toks) (o:=.lst ys) (λb ob q=>aW _ q) (ay _) ?_,rfl,q _ (I5.hok.fresh (ay _))};exact{by lia,P.toList,0,hv,by rw[lI];exact bz _ rfl}
end
section
variable{X:Cx}
def ZB(xs:List V)(lo hi st:Option Int):List V:=
 (gn (b4 lo hi st xs.length).1 (b4 lo hi st xs.length).2.1 (b4 lo hi st xs.length).2.2).filterMap (xs[·]?)
theorem YQ{xs:List V}{lo hi st:Option Int}:∀its:List ae,qt xs its->qt (ZB xs lo hi st) (gj its.toArray lo hi st).toList:=λits r=>by
 unfold ZB gj;rw[br,r.length];generalize gn _ _ _=l
 induction l with
 |nil=>exact .nil
 |cons i l ih=>
  cases h:xs[i]? with
  |none=>
   have:=r.none_of h
   simpa [c4,h,this] using ih
  |some x=>
   let(u,hu,ru):=r.get h;have ih':qt (l.filterMap (xs[·]?)) (l.filterMap (its[·]?)):=(-ih:)
   have:qt (x::l.filterMap (xs[·]?)) (u::l.filterMap (its[·]?)):=.cons ru ih'
   simpa [c4,h,hu] using this
def qhk(xs:List V)(lo hi st:Option Int):(ZB xs lo hi st).length<=xs.length:=by
 have h:=YQ (xs:=xs) (lo:=lo) (hi:=hi) (st:=st)
 have e:qt (bT xs.length V.non) (bT xs.length Value.none):=by
  generalize xs.length=n
  induction n with
  |zero=>exact .nil
  |succ n ih=>exact .cons rfl ih
 have h2:=YQ (lo:=lo) (hi:=hi) (st:=st) _ e;have h3:=h2.length;have h4:=slicePick_size_le (bT xs.length Value.none).toArray lo hi st;have h5:(bT xs.length Value.none).toArray.size=xs.length:=by simp
 rw[h5]at h4
 have e1:(ZB (bT xs.length V.non) lo hi st).length=(ZB xs lo hi st).length:=by
  unfold ZB;rw[lh];generalize gn _ _ _=l
  induction l with
  |nil=>rfl
  |cons i l ih=>
   by_cases hi:i < xs.length
   .simp[c4,hi,ih]
   .simp[c4,hi,ih]
 rw[<-e1,h3];exact h4
end
section
variable{U:Type}[DecidableEq U]
def qa3(kvs:List (U×V))(k:U):Option V:=(kvs.find? λkv=>decide (kv.1=k)).map (·.2)
def qea(kvs:List (U×V))(k:U)(v:V):List (U×V):=
 if (kvs.any λkv=>decide (kv.1=k))=true then kvs.map (λkv=>if kv.1=k then (kv.1,v) else kv) else kvs++[(k,v)]
def Yh{p:U×V}{r:List (U×V)}{k:U}(e:p.1=k):qa3 (p::r) k=some p.2:=by simp[qa3,fY,e]
def Yi{p:U×V}{r:List (U×V)}{k:U}(e:¬ p.1=k):qa3 (p::r) k=qa3 r k:=by simp[qa3,fY,e]
theorem ZC(k:U):∀kvs:List (U×V),(kvs.any λkv=>decide (kv.1=k))=(qa3 kvs k).isSome
 |[]=>rfl
 | p::r=>by
  rw[c8]
  by_cases e:p.1=k
  .simp![Yh e,decide_eq_true e,Bool.true_or,Option.isSome_some]
  .rw[Yi e,decide_eq_false e,lK];exact ZC k r
def YR(kvs:List (U×V))(k:U)(v:V):(qea kvs k v).length<=kvs.length+1:=by
 unfold qea;split
 .rw[aD];lia
 .rw[aT,aK,eM];lia
theorem qbX.isSome_eq{o:Option V}{u:Option ae}(r:qbX o u):o.isSome=u.isSome:=by
 cases o with
 |none=>cases u with
  |none=>rfl
  |some z=>exact(show False from r).elim
 |some z=>cases u with
  |none=>exact(show False from r).elim
  |some z=>rfl
theorem qbX.getD{o:Option V}{u:Option ae}{d:V}{d':ae}(r:qbX o u)(rd:qF d d'):qF (o.getD d) (u.getD d'):=by
 cases o with
 |none=>cases u with
  |none=>exact rd
  |some z=>exact(show False from r).elim
 |some z=>cases u with
  |none=>exact(show False from r).elim
  |some z=>exact r
theorem KV.val{kvs:List (U×V)}{vs:List (U×ae)}(r:KV kvs vs)(k:U):qbX (qa3 kvs k) (gq vs k):=by
 unfold KV at r
 induction r with
 |nil=>exact aO
 |@cons p q ps qs h t ih=>
  let(h1,h2):=h
  by_cases e:p.1=k
  .have e':q.1=k:=h1.symm.trans e;have b:gq (q::qs) k=some q.2:=by simp[gq,fY,e']
   rw[Yh e,b];exact h2
  .have e':¬ q.1=k:=λz=>e (h1.trans z);have b:gq (q::qs) k=gq qs k:=by simp[gq,fY,e']
   rw[Yi e,b];exact ih
theorem KV.any{kvs:List (U×V)}{vs:List (U×ae)}(r:KV kvs vs)(k:U):(kvs.any λkv=>decide (kv.1=k))=vs.any λkv=>decide (kv.1=k):=by
 unfold KV at r
 induction r with
 |nil=>rfl
 |cons h t ih=>rw[c8,c8,ih,h.1]
theorem KV.repl{kvs:List (U×V)}{vs:List (U×ae)}(r:KV kvs vs)(k:U){y:V}{u:ae}(ry:qF y u) :
  KV (kvs.map λkv=>if kv.1=k then (kv.1,y) else kv) (vs.map λkv=>if kv.1=k then (kv.1,u) else kv):=by
 unfold KV at r ⊢
 induction r with
 |nil=>exact .nil
 |@cons p q ps qs h t ih=>
  rw[au,au];refine .cons ?_ ih;let(h1,h2):=h
  by_cases e:p.1=k
  .rw[if_pos e,if_pos (h1.symm.trans e)];exact⟨h1,ry⟩
  .rw[if_neg e,if_neg (λz=>e (h1.trans z))];exact⟨h1,h2⟩
def KV.put{kvs:List (U×V)}{vs:List (U×ae)}(r:KV kvs vs)(k:U){y:V}{u:ae}(ry:qF y u):KV (qea kvs k y) (stored vs k u):=by
 unfold qea stored;rw[r.any k]
 by_cases e:(vs.any λkv=>decide (kv.1=k))=true
 .rw[if_pos e,if_pos e];exact r.repl k ry
 .rw[if_neg e,if_neg e];exact Paired.snoc r ⟨rfl,ry⟩
theorem KV.keys{kvs:List (U×V)}{vs:List (U×ae)}(r:KV kvs vs):kvs.map (·.1)=vs.map (·.1):=by
 unfold KV at r
 induction r with
 |nil=>rfl
 |cons h t ih=>rw[au,au,ih,h.1]
def KV.length{kvs:List (U×V)}{vs:List (U×ae)}(r:KV kvs vs):kvs.length=vs.length:=Paired.length r
end
theorem qfj{P:aJ}{w:aC}{k:Key}{u:ae}(r:qF (kV k) u):(qq P w).is k u=true:=by
 cases k with
 |inl i=>let(t,e):=(show∃t,u=Value.int i t from r);subst e;exact qb1 P w i t
 |inr x=>let(t,e):=(show∃t,u=Value.str x t from r);subst e;exact qb2 P w x t
theorem qa4{P:aJ}{w:aC}:∀{ks:List Key} {us:List ae},qt (ks.map kV) us->ItemsAre (qq P w) ks us
 |[],z,r=>by rw[aH]at r;cases r;exact .nil
 | k::ks,z,r=>by
  rw[au]at r
  cases r with
  |cons h t=>exact .cons (qfj h) (qa4 t)
noncomputable abbrev KT(H:Hp):List (List Key×V)->List (List Key×af×ae)->Prop:=bq λp q=>p.1=q.1/\H q.2.1=some (.tup (p.1.map kV))/\qF p.2 q.2.2
theorem KT.val{H:Hp}{kvs:List (List Key×V)}{xs:List (List Key×af×ae)}(r:KT H kvs xs)(k:List Key):qbX (qa3 kvs k) ((atKey xs k).map (·.2)):=by
 induction r with
 |nil=>exact aO
 |@cons p q ps qs h t ih=>
  let(h1,_,h2):=h
  by_cases e:p.1=k
  .have e':q.1=k:=h1.symm.trans e;have b:atKey (q::qs) k=some q.2:=by simp[atKey,fY,e']
   rw[Yh e,b];exact h2
  .have e':¬ q.1=k:=λz=>e (h1.trans z);have b:atKey (q::qs) k=atKey qs k:=by simp[atKey,fY,e']
   rw[Yi e,b];exact ih
theorem KT.repl{H:Hp}{kvs:List (List Key×V)}{xs:List (List Key×af×ae)}(r:KT H kvs xs)(k:List Key){y:V}{u:ae}(ry:qF y u) :
  KT H (kvs.map λkv=>if kv.1=k then (kv.1,y) else kv) (xs.map (putAt k u)):=by
 induction r with
 |nil=>exact .nil
 |@cons p q ps qs h t ih=>
  rw[au,au];refine .cons ?_ ih;let(h1,h2,h3):=h;unfold putAt
  by_cases e:p.1=k
  .rw[if_pos e,if_pos (h1.symm.trans e)];exact⟨h1,h2,ry⟩
  .rw[if_neg e,if_neg (λz=>e (h1.trans z))];exact⟨h1,h2,h3⟩
def KT.put{H:Hp}{kvs:List (List Key×V)}{xs:List (List Key×af×ae)}(r:KT H kvs xs)(k:List Key){b:af}{y:V}{u:ae}(hb:H b=some (.tup (k.map kV)))(ry:qF y u) :
  KT H (qea kvs k y) (storedH xs k b u):=by
 have e:(kvs.any λkv=>decide (kv.1=k))=(atKey xs k).isSome:=by rw[ZC,(r.val k).isSome_eq,Option.isSome_map]
 unfold qea storedH;rw[e]
 by_cases q:(atKey xs k).isSome=true
 .rw[if_pos q,if_pos q];exact r.repl k ry
 .rw[if_neg q,if_neg q];exact Paired.snoc r ⟨rfl,hb,ry⟩
def KT.keeps{H H':Hp}{kvs:List (List Key×V)}{xs:List (List Key×af×ae)}(r:KT H kvs xs)(ht:∀b ys,H b=some (.tup ys)->H' b=some (.tup ys)):KT H' kvs xs:=
 Paired.mapP r λy y z=>{z.1,ht _ _ z.2.1,z.2.2}
section
variable{P:aJ}{w:aC}{H:Hp}{h:aw}{a:af}
def qmg{u:HO}(ok:HOk P w H h)(e:Rd H a u):qI P w H h a u:=e.ok ok
def qhl{kvs:List (Key×V)}(ok:HOk P w H h)(e:Rd H a (.dK kvs)):kvs.length<=sizeLine/\(a == dI)=false/\∃vs,KV kvs vs/\h.DictOf (qq P w) a vs:=
 show qI P w H h a (.dK kvs) from qmg ok e
def qmh{kvs:List (Key×V)}(ok:HOk P w H h)(e:H a=some (.dK kvs)):kvs.length<=sizeLine/\(a == dI)=false/\∃vs,KV kvs vs/\h.DictOf (qq P w) a vs:=qhl ok (.inl e)
def qcY{ks:List Key}(ok:HOk P w H h)(e:H a=some (.tup (ks.map kV))):(gc (qq P w)).is h ks a:=by let(_,its,r,o,h1,h2,n,h3):=(show qI P w H h a (.tup (ks.map kV)) from ok a _ e);exact{o,its.toArray,n,h1,h2,h3,by simpa using qa4 r}
def qhm{kvs:List (List Key×V)}(ok:HOk P w H h)(e:Rd H a (.dT kvs)):kvs.length<=sizeLine/\(a == dI)=false/\
  ∃xs,KT H kvs xs/\h.DictOfH (gc (qq P w)) a xs:=by
 let(z,y,xs,r,o,es,ep,h1,h2,h3,h4,h5):=(show qI P w H h a (.dT kvs) from qmg ok e);refine{z,y,xs,r,o,es,ep,h1,h2,h3,h4,λx hx=>?_,h5}
 have all:∀{l:List (List Key×V)} {m:List (List Key×af×ae)},KT H l m->∀x∈m,(gc (qq P w)).is h x.1 x.2.1:=by
  intro l m q
  induction q with
  |nil=>intro x hx;exact nomatch hx
  |@cons p q ps qs hq t ih=>
   intro x hx;rcases aF.mp hx with e|hx
   .subst e;exact qcY ok (by rw[<-hq.1];exact hq.2.1)
   .exact ih x hx
 exact all r x hx
def qpv{kvs:List (List Key×V)}(ok:HOk P w H h)(e:H a=some (.dT kvs)):kvs.length<=sizeLine/\(a == dI)=false/\
  ∃xs,KT H kvs xs/\h.DictOfH (gc (qq P w)) a xs:=qhm ok (.inl e)
end
def qj5(H:Hp)(a:af)(y:V)(r:Option V):Prop:=
 (∃kvs k,Rd H a (.dK kvs)/\y=kV k/\r=qa3 kvs k)\/∃kvs k b,Rd H a (.dT kvs)/\y=.ref b/\H b=some (.tup (k.map kV))/\r=qa3 kvs k
def qmi(H:Hp)(a:af)(y v:V)(H':Hp):Prop:=
 (∃kvs k,H a=some (.dK kvs)/\y=kV k/\kvs.length < sizeLine/\H'=upd H a (.dK (qea kvs k v)))\/
 ∃kvs k b,H a=some (.dT kvs)/\y=.ref b/\H b=some (.tup (k.map kV))/\kvs.length < sizeLine/\H'=upd H a (.dT (qea kvs k v))
def qj5.k{H:Hp}{a:af}{kvs:List (Key×V)}{k:Key}(e:H a=some (.dK kvs)):qj5 H a (kV k) (qa3 kvs k):=.inl ⟨kvs,k,.inl e,rfl,rfl⟩
def qmi.k{H:Hp}{a:af}{kvs:List (Key×V)}{k:Key}{v:V}(e:H a=some (.dK kvs))(hl:kvs.length < sizeLine):qmi H a (kV k) v (upd H a (.dK (qea kvs k v))):=.inl ⟨kvs,k,e,rfl,hl,rfl⟩
section
variable{X:Cx}{pins:PP}{Z:St}{H:Hp}{s:ah}{a:af}{y v:V}{u r:ae}{o:Option V}{A:aN}{E:PQ}
def Inv.big(I:Inv X pins Z H s):dI < s.heap.objs.size:=by have h:a8 < s.heap.objs.size:=(I.mod.glob.keeps I.bk).lt;exact iG (2:) h
def qrl{Q:PQ}(hu:A.units+1 < du)(I:Inv X pins Z H s)(g:qj5 H a y o)(ry:qF y u)(h:∀s',Inv X pins Z H s'->Q (.bool o.isSome) s') :
  ak (av X.prog X.w) A (bO .In u (.ref a)) Q E s:=by
 rcases g with ⟨kvs,k,e,ey,l⟩|⟨kvs,k,b,e,ey,eb,l⟩
 .subst ey;let(z,hd,vs,rel,dd):=qhl I.hok e;refine wpAny_in_of (qfj ry) hd dd.mapOf ?_;rw[<-(rel.val k).isSome_eq,<-l];exact h _ (I.tok _)
 .subst ey
  cases (show u=bj b from ry)
  let(z,hd,xs,rel,dd):=qhm I.hok e;refine wpAny_in_heap (mi hu) (qcY I.hok eb) hd dd ?_;have q:=(rel.val k).isSome_eq;rw[Option.isSome_map]at q;rw[<-q,<-l];exact h _ (I.tok _)
def qfk{h':aw}{t':Nat}{ob:HO}(I:Inv X pins Z H s)(mu:Mut (H a))(hs:dP a s.heap h')(he:∃q,h'.get? a=some q)(new:qI X.prog X.w (upd H a ob) h' a ob) :
  Inv X pins Z (upd H a ob) { s with heap:=h',toks:=t' }:=
 I.write (x:=a) (e:=a) mu (.inl rfl) (λb q hb z=>(hs.2 b hb).trans z) he new
def qiS{P:aJ}{w:aC}{H':Hp}{h':aw}{kvs:List (Key×V)}{vs:List (Key×ae)}(z:kvs.length<=sizeLine)(hd:(a == dI)=false)(rel:KV kvs vs)(dd:h'.DictOf (qq P w) a vs) :
  qI P w H' h' a (.dK kvs):=⟨z,hd,vs,rel,dd⟩
def qfl{H':Hp}{Q:Unit->ah->Prop}(hu:A.units+1 < du)(I:Inv X pins Z H s)(g:qmi H a y v H')(ry:qF y u)(rv:qF v r)(h:∀s',Inv X pins Z H' s'->Q () s') :
  ak (av X.prog X.w) A (setItem (.ref a) u r) Q E s:=by
 rcases g with ⟨kvs,k,e,ey,l,eH⟩|⟨kvs,k,b,e,ey,eb,l,eH⟩
 .subst ey eH;let(z,hd,vs,rel,dd):=qmh I.hok e;have hz:vs.length<=sizeLine:=by rw[<-rel.length];exact z
  have hl:(qea kvs k v).length<=sizeLine:=by have:=YR kvs k v;lia
  refine wpAny_setItem_pairs (hsz:=hz) (qfj ry) dd λh' dd' hs=>h _ ?_;have he:∃q,h'.get? a=some q:=let ⟨q,_,_,hq,_⟩:=dd';⟨q,hq⟩;exact qfk I (by rw[e];exact aO) hs he (qiS hl hd (rel.put k rv) dd')
 .subst ey eH
  cases (show u=bj b from ry)
  let(z,hd,xs,rel,dd):=qpv I.hok e;have hz:xs.length<=sizeLine:=by rw[<-Paired.length rel];exact z
  have hl:(qea kvs k v).length<=sizeLine:=by have:=YR kvs k v;lia
  refine wpAny_setItem_heap (hsz:=hz) (mi hu) (qcY I.hok eb) dd λh' dd' hs=>h _ ?_;let(q,es,ep,hq,h2,h3,h4,_,h5):=dd';refine qfk I (by rw[e];exact aO) hs ⟨q,hq⟩ ⟨hl,hd,_,(rel.put k eb rv).keeps λc ys ec=>?_,q,es,ep,hq,h2,h3,h4,h5⟩;rw[qd (qo9 ec e (λz=>nomatch z))];exact ec
end
def qpw(td ty tv:TE):TS:=λD Z H=>tv Z H λv H1=>td Z H1 λx H2=>ty Z H2 λy H3=>∃a H4,x=.ref a/\qmi H3 a y v H4/\D.nx Z H4
section
variable{X:Cx}{o i e value:ag}{pos pos' tpos:Pos}{td ty tv:TE}
def qj6(hu:X.A.units+1 < du)(ho:PE X o td)(hi:PE X i ty)(hv:PE X value tv)(hs:fu value (some (.Subscript o i pos')) pos.line X.env=pure false) :
  PS X (.Assign [.Subscript o i pos'] value pos) (qpw td ty tv):=by
 intro pins s Z H D I h;refine wpAny_Assign_Subscript (thn (hv pins s Z H _ I h) λr s1 hz51=>?_) hs;let(v,H1,I1,rv,q1):=hz51;refine th5 (ho pins s1 Z H1 _ I1 q1) λu s2 x H2 I2 rx q2=>?_;refine thn (hi pins s2 Z H2 _ I2 q2) λiv s3 hz53=>?_;let(y,H3,I3,ry,a,H4,ex,g,q3):=hz53;subst ex;obtain rfl:u=bj a:=rx;exact qfl hu I3 g ry rv λs4 I4=>⟨Z,H4,I4,q3⟩
end
def qhn{P:aJ}{w:aC}{H:Hp}(h:aw)(hb:dI < h.objs.size):qI P w H (h.push { cls:=.type "dict",data:=.dict #[] }) h.objs.size (.dK []):=
 ⟨aZ _,beq_eq_false_iff_ne.mpr (cy (a9 hb)),[],.nil,Heap.DictOf.new h⟩
def qmj:TE:=λz H Q=>∀p,H p=none->Q (.ref p) (upd H p (.dK []))
section
variable{X:Cx}{pos:Pos}
def qho:PE X (.Dict [] [] pos) qmj:=λpins s Z H Q I h=>wpAny_Dict_empty ⟨.ref s.heap.objs.size,_,I.laid (a:=s.heap.objs.size) (o:=.dK []) (t':=s.toks) (λz z q=>aW _ q) (ay _) (qhn s.heap I.big),rfl,h _ (I.hok.fresh (ay _))⟩
end
structure M2(X:Cx)(o:ag)(m:Str)(apos:Pos)(e f:ag)(cpos:Pos):Prop where
 base:fE o m X.env (eval o X.env)=eval o X.env
 few:((bK cpos (aP [e,f] X.env)).all (λx=>!x.1)&&(dX cpos (dY [] X.env)).all (λx=>x.1.isSome)
  && decide (([e,f]:List ag).length+([]:List dZ).length+(if ([]:List dZ).isEmpty then 0 else 1) < 30))=true
 line:(apos.endLine == cpos.line)=true
 trees:bK cpos (aP [e,f] X.env)=[(false,eval e X.env),(false,eval f X.env)]
def IsD(H:Hp)(a:af):Prop:=(∃kvs,Rd H a (.dK kvs))\/∃kvs,Rd H a (.dT kvs)
def qmk{X:Cx}{pins:PP}{Z:St}{H:Hp}{s:ah}{a:af}(I:Inv X pins Z H s)(d:IsD H a) :
  s.TypeIs (.ref a) "dict"/\(∀b,bj a=.ref b->∃ob,s.heap.get? b=some ob/\ob.dict=none)/\(a == dI)=false:=by
 rcases d with ⟨kvs,e⟩|⟨kvs,e⟩
 .let(_,hd,vs,_,dd):=qhl I.hok e;refine{dd.typeIs,λb q=>?_,hd};cases q;let(ob,_,_,h1,h2,_):=dd;exact⟨ob,h1,h2.2.1⟩
 .let(_,hd,xs,_,dd):=qhm I.hok e;refine{dd.typeIs,λb q=>?_,hd};cases q;let(ob,_,_,h1,h2,_):=dd;exact⟨ob,h1,h2.2.1⟩
section
variable{X:Cx}{pins:PP}{Z:St}{H:Hp}{s:ah}{a:af}{y d:V}{u r:ae}{o:Option V}{A:aN}{E:PQ}
def qml{Q:PQ}(hu:A.units+1 < du)(I:Inv X pins Z H s)(g:qj5 H a y o)(ry:qF y u)(rd:qF d r)(h:∀w' s',Inv X pins Z H s'->qF (o.getD d) w'->Q w' s') :
  ak (av X.prog X.w) A (call (.builtin "dict.get") [.ref a,u,r]) Q E s:=by
 rcases g with ⟨kvs,k,e,ey,l⟩|⟨kvs,k,b,e,ey,eb,l⟩
 .subst ey;let(z,hd,vs,rel,dd):=qhl I.hok e;refine call_meetsIn kN dd.typeIs mE (mF _ _ _) (meets_dict_get_default (qq X.prog X.w) a (qfj ry) hd r) ⟨_,dd.mapOf,h _ _ (I.tok _) ?_⟩;rw[l];exact(rel.val k).getD rd
 .subst ey
  cases (show u=bj b from ry)
  let(z,hd,xs,rel,dd):=qhm I.hok e;refine call_meetsIn kN dd.typeIs mE (mF _ _ _) (meetsH_dict_get_default (gc (qq X.prog X.w)) a b hd r) ⟨mi hu,k,xs,qcY I.hok eb,dd,h _ _ (I.tok _) ?_⟩;rw[l];exact(rel.val k).getD rd
end
def qmm(td ty tx:TE):TE:=λZ H Q=>td Z H λx H1=>∃a,x=.ref a/\IsD H1 a/\ty Z H1 λy H2=>tx Z H2 λz H3=>∃o,qj5 H3 a y o/\Q (o.getD z) H3
section
variable{X:Cx}{o e f:ag}{apos cpos:Pos}{td ty tx:TE}
def qhp(hu:X.A.units+1 < du)(ho:PE X o td)(he:PE X e ty)(hf:PE X f tx)(m:M2 X o "get" apos e f cpos):PE X (.Call (.Attribute o "get" apos) [e,f] [] cpos) (qmm td ty tx):=by intro pins s Z H Q I h;refine wpAny_Call_method m.base m.few m.line PySem.F.plainAttrs_dict kN PySem.F.type_dict_get (thn (ho pins s Z H _ I h) λu s1 hq1=>?_);let(x,H1,I1,rx,a,ex,d,q1):=hq1;subst ex;obtain rfl:u=bj a:=rx;let(t1,t2,_):=qmk I1 d;refine{t1,t2,?_};rw[m.trees];refine lu rfl (Calls.evalArgs_plain (k9 (th5 (he pins s1 Z H1 _ I1 q1) λiv s2 y H2 I2 ry q2=>?_)));refine k9 (thn (hf pins s2 Z H2 _ I2 q2) λfv s3 hz60=>?_);let(z,H3,I3,rz,ov,g,q3):=hz60;refine Calls.spliced_nil ?_;exact qml hu I3 g ry rz λw' s4 I4 rw'=>{_,H3,I4,rw',q3}
end
def Yj(osc:bw)(N:List Str)(fr:List Nat)(sc:bw):Bool:=
 sc.kind == .function&&(sc.names.all λx=>x.2 != .cell&&(x.2 != .local||sc.names.lookup x.1 == some .local)&&(x.2 != .free||(osc.names.lookup x.1 == some .cell||osc.names.lookup x.1 == some .free)))&&fr.all λi=>sc.names.lookup (N.getD i "") == some .free
def qo.upd{H:Hp}{a:af}{o:HO}(h:H a=none):qo H (upd H a o):=λb u e=>by rw[qd (qR e h)];exact e
theorem Paired.snoc{α M:Type}{R:α->M->Prop}:∀{l:List α} {m:List M} {x:α} {y:M},PySem.Paired R l m->R x y->PySem.Paired R (l++[x]) (m++[y])
 |_,_,_,_,.nil,r=>.cons r .nil
 |_,_,_,_,.cons q t,r=>.cons q (Paired.snoc t r)
end L2
namespace TS
open PySem PyProof.Rows
def iO:a7 where
 α:=Int
 blt p q:=decide (p < q)
 irrefl a:=by simp
 trans a b c h1 h2:=by
  simp at h1 h2 ⊢
  lia
 negTrans a b c h:=by
  simp at h ⊢
  lia
 total a b h1 h2:=by
  simp at h1 h2
  lia
theorem ZD:∀{ns:List Int} {vs:List ae},L2.qt (ns.map L2.V.int) vs->fG vs ns
 |[],_,.nil=>.nil
 | n::ns,_,.cons r t=>by let(k,rfl):=r;exact .cons _ _ (ZD t)
theorem Yk:∀{ns:List Int} {vs:List ae},L2.qt (ns.map L2.V.int) vs->∀v∈vs,∃n t,v=Value.int n t
 |[],_,.nil,_,h=>nomatch h
 | n::ns,_,.cons r rs,v,h=>by
  rcases aF.mp h with rfl|h
  .let(k,rfl):=r;exact⟨n,k,rfl⟩
  .exact Yk rs v h
theorem qcZ:∀{ns:List Int} {vs:List ae},L2.qt (ns.map L2.V.int) vs->vs.map nOf=ns
 |[],_,.nil=>rfl
 | n::ns,_,.cons r rs=>by let(k,rfl):=r;rw[au,qcZ rs];rfl
theorem YS:∀{vs:List ae},(∀v∈vs,∃n t,v=Value.int n t)->L2.qt ((vs.map nOf).map L2.V.int) vs
 |[],z=>.nil
 | v::vs,h=>by let(n,t,rfl):=h v bX;exact .cons ⟨t,rfl⟩ (YS λu hu=>h u (bH _ hu))
section
variable{prog:aJ}{w:aC}{A:aN}{E:PQ}{s:ah}
def qeb{vs:List ae}{ns:List Int}(h:L2.qt (ns.map L2.V.int) vs):Sorts prog w s vs iO (λx=>nOf x.1) oneType' where
 kind:=λh2 A E s1 Q g q=>by rw[ksk_kind (keys:=vs.toArray) (kz:=ns) (ZD h) (-h2:)];exact aB q
 lt:=λA E s1 g x y hx hy st Q hk q=>by let(n,t,e1):=Yk h _ (yL hx).2;let(m,u,e2):=Yk h _ (yL hy).2;have q:Q (some (iO.blt (nOf x.1) (nOf y.1))) st:=q;rw[lt'_eq];refine az (dM ?_);rw[hk];rw[e1,e2]at q ⊢;rw[keyLt'_oneType];refine az (eU (gm (oneLt_int ⟨rfl,?_⟩)));exact aE q
def qhq{vs:List ae}{ns:List Int}(h:L2.qt (ns.map L2.V.int) vs){st':aG}(pm:(ao st').Perm (bW vs))(sr:Srt iO (λx=>nOf x.1) (ao st') 0 (bW vs).size) :
  ∃ms:List Int,L2.qt (ms.map L2.V.int) ((ao st').map (·.2)).toList/\ms.Perm ns/\ms.Pairwise (·<=·):=by
 have hl:(ao st').toList.Perm (vs.zip vs):=by
  have:=gI.mp pm
  rwa[mh]at this
 have hout:((ao st').map (·.2)).toList.Perm vs:=by
  rw[iJ]
  have:=hl.map (·.2)
  rwa[lH (ay _)]at this
 refine{((ao st').map (·.2)).toList.map nOf,YS λv hv=>Yk h v (hout.mem_iff.mp hv),?_,?_}
 .have:=hout.map nOf
  rwa[qcZ h]at this
 .rw[iJ,fh];have h0:(ao st').size=(bW vs).size:=pm.size_eq;rw[<-h0]at sr
  have:=sr.pw
  refine iK.mpr ?_;refine il (λ{a b} ha hb hab=>?_) this;have ea:=(gZ (hl.mem_iff.mp ha)).1;have eb:=(gZ (hl.mem_iff.mp hb)).1;have hab:iO.blt (nOf b.1) (nOf a.1)=false:=hab;rw[ea,eb]at hab;unfold iO at hab;simp at hab;exact hab
def qec{v:ae}{Q:PQ}
  (hc:∀A':aN,A'.handled=A.handled->ak (av prog w) A' (collect v) (λvs s1=>∃ns,L2.qt (ns.map L2.V.int) vs/\vs.length<=sizeLine/\
   ∀(h2:aw) (ms:List Int) (ws:Array ae) (e:Nat),L2.qt (ms.map L2.V.int) ws.toList->ms.Perm ns->ms.Pairwise (·<=·)->(∀b o,s1.heap.get? b=some o->h2.get? b=some o)->h2.get? s1.heap.objs.size=some (b8 "list" ws e)->Q (.ref s1.heap.objs.size) { s1 with heap:=h2 }) (λz z=>False) s) :
  ak (av prog w) A (call (.builtin "sorted") [v]) Q E s:=by
 refine ni kind_sorted plain_sorted entry_sorted (args_sorted1 _) ?_;unfold Builtin.«sorted»;refine aj (m:=checkCount "sorted" 1 1 _) (aB (aj ?_));refine dQ (hc _ rfl) (λvs s1 h=>?_) (λz z h=>h.elim);let(ns,hv,hsz,h):=h;refine aj (mf ?_ hsz);show ak _ _ _ _ _ { s1 with heap:=s1.heap.push (b8 "list" vs.toArray 0) };have hoL:(s1.heap.push (b8 "list" vs.toArray 0)).get? s1.heap.objs.size=some (b8 "list" vs.toArray 0):=bz _ rfl
 have old:∀b o,s1.heap.get? b=some o->(s1.heap.push (b8 "list" vs.toArray 0)).get? b=some o/\b≠s1.heap.objs.size:=λb o e=>{aW _ e,a9 (aQ e)}
 have S:Sorts prog w s1 vs iO (λx=>nOf x.1) oneType':=qeb hv
 have fin:∀st':aG,(ao st').Perm (bW vs)->Srt iO (λx=>nOf x.1) (ao st') 0 (bW vs).size->Q (.ref s1.heap.objs.size) { s1 with heap:=kh (s1.heap.push (b8 "list" vs.toArray 0)) s1.heap.objs.size vs ((ao st').map (·.2)) }:=λst' pm sr=>by let(ms,h1,h2,h3):=qhq hv pm sr;let(e,he):=sortedHeap_at (out:=(ao st').map (·.2)) hoL;refine h _ ms _ e h1 h2 h3 (λb o eb=>?_) he;have hlt:=aQ eb;rw[sortedHeap_old (a9 hlt) (by rw[size_push'];exact lG hlt)];exact aW _ eb
 refine aj (dh (eV slot_list_sort ⟨_,hoL,rfl⟩ entry_list_sort (qfa S hoL hsz old λst' a1 a2=>{_,rfl,?_}) (args_list_sort _)));exact aB ⟨_,rfl,fin st' a1 a2⟩
end
end TS
namespace L2
open PySem PySem.Spec PyProof.Rows PySem.W
theorem qhr{P:aJ}{w:aC}{H:Hp}{h:aw}{a:af}{o:HO}(x:qI P w H h a o):∃ob,h.get? a=some ob:=by
 cases o with
 |lst xs=>let(z,its,n,r,e):=x;exact{_,e}
 |tup xs=>let(z,its,r,ob,e,c):=x;exact{_,e}
 |dK kvs=>let(z,y,vs,r,ob,es,ep,e,c):=x;exact{_,e}
 |dT kvs=>let(z,y,xs,r,ob,es,ep,e,c):=x;exact{_,e}
 |set S n=>let(ob,es,ep,t,e,c):=x;exact{_,e}
 |ins C dx fs=>let(d,z,ne,e,_):=x;exact{_,e}
 |own y=>let(ob,e):=x;exact{_,e}
 |xd fs=>let(mA,(od,es,ep,e,c),r):=x;exact{_,e}
 |rng lo hi=>let(t,u,v,e):=x;exact{_,e}
 |frz ob u=>let(e,q):=x;exact{_,e}
 |tbl ps=>exact{_,x}
 |met f y=>exact{_,x}
 |ext φ=>let(p,(o,e),st):=x;exact{_,e}
section
variable{X:Cx}{pins:PP}{Z:St}{H:Hp}{s:ah}
variable{x T':af}{oT:Option af}{oe:Obj}{vs:Array ae}{h':aw}
theorem Inv.newH{x:af}(I:Inv X pins Z H s)(h:s.heap.get? x=none):H x=none:=by
 cases e:H x with
 |none=>rfl
 |some u=>let(o,q):=qhr (I.hok x u e);rw[h]at q;cases q
end
section
variable{P:aJ}{w:aC}{K:Frag}{mg:PR}{base:aw}{N:List Str}{qual:Str}{scope:bw}{f:af}{cd:ae}{A:aN}{outer:List Env}{s:ah}{H:Hp}{E:XK}
def FnOk.lift{fd:bV}{ps:List Str}{k:Nat}{sp:Sp}{CX:CXT}(F:FnOk P w K mg base CX0 k f fd ps sp):FnOk P w K mg base CX k f fd ps sp:=
 ⟨F.len,λA outer s H args us vs Q E hr he hb hv hs=>dW (F.run A outer s H args us vs Q E hr he hb hv hs) λr s' h=>by
  cases r with
  |error e=>exact ax h
  |ok f=>cases f<;>exact h⟩
end
def Its(x:Str):It:={λi z=>i < x.cps.size,λi H v H'=>H'=H/\∃c,x.cps[i]?=some c/\v=.str {#[c]},λi z=>i=x.cps.size}
def qhs{P:aJ}{w:aC}{K:Frag}{tg:ag}{x:Str}{t:Tok}{it:af}{T:String}(hT:T = "str_ascii_iterator"\/T = "str_iterator")(W:∀A':aN,A'.handled=none->Walks P w A' it [it] [it] x.cps.size (SignAt x) (λi h=>h.IsStrIter it T x t i)) :
  Turn P w K tg (Its x) [it] it (λi h=>h.IsStrIter it T x t i) where
 mem:=by simp
 obj:=λi h st b hb=>by
  have e:b=it:=(-hb:)
  subst e;let(o,e,c,d):=st;exact{o,e,λv z=>by rw[d]at z;cases z}
 keep:=λi h h' st k=>let ⟨o,e,r⟩:=st;⟨o,k it (5:) o e,r⟩
 item:=by intro X hP hw hK hc i pins s Z H E I hf st hg;subst hP hw hK;let(f0,f1,f2,f3,f4,f5):=hf it (5:);refine(W X.A (I.ok.hd hc)).item i s _ _ hg st λv h' tk hv st' kk=>?_;let(c,u,hcx,rfl):=hv;have I1:Inv X pins Z H { s with heap:=h',toks:=tk }:=I.turned (λb o hb e=>kk b o (-hb:) e) f0 f1 f3 f4 f5;let(o,e1,e2,e3):=id st';refine{_,rfl,qeL (s:={ s with heap:=h',toks:=tk }) e1 e2 e3 (by rcases hT with z|z<;>(rw[z];decide)) ⟨.str ⟨#[c]⟩,H,I1,⟨u,rfl⟩,⟨rfl,c,hcx,rfl⟩,st',λb hb=>(hf b hb).1⟩}
 done:=by intro X hP hw hK hc i pins s Z H E I hf st hg;subst hP hw hK;obtain rfl:i=x.cps.size:=hg;let(f0,f1,f2,f3,f4,f5):=hf it (5:);exact(W X.A (I.ok.hd hc)).done s _ _ st λh' tk kk=>{rfl,I.turned (λb o hb e=>kk b o (-hb:) e) f0 f1 f3 f4 f5}
 self:=λA i s Q E st h=>by
  rcases hT with z|z
  .subst z;exact wpAny_pyIter_striter_ascii st h
  .subst z;exact wpAny_pyIter_striter_wide st h
structure ClsFn(K:Frag)(C:af)(m:Str)(f:af):Prop where
 reads:readsIn K C (.type "type")=true
 sp:specialIn K (.ref C) "__getattribute__" = some (some (.builtin "type.__getattribute__"))
 at_:findCls K (.ref C) (.type "type") m=some (.val (.ref f))
 kp:keepIn K (.ref f)=true
section
variable{X:Cx}{CX:CXT}{k:Nat}{f C:af}{fd:bV}{ps:List Str}{sp:Sp}{dvs:List V}{ds:List ae}{E:XK}{x m:Str}{p pos apos:Pos}{e:ag}{es:List ag}{t:TA}
def qc0{pl:Sem Bool}(hC:ClsFn X.K C m f)(F:FnOk X.prog X.w X.K X.mg X.base CX k f fd ps sp)(hr:Room k X.A)(hg:Gl X x)(hm:X.mg x=some (.ref C))(hb:zn X.K fd ps ds)(hd:qt dvs ds)(hx:jx CX X E)(ha:PA X (e::es) t)
  (hdb:(x == ("__debug__" : Str))=false:=by decide) (hst:aP (e::es) X.env=(false,eval e X.env)::aP es X.env:=by rfl) (hpl:(bK pos (aP es X.env)).any (·.1)=false:=by rfl)
  (ht:eval (.Call (.Attribute (.Name x p) m apos) (e::es) [] pos) X.env=(do
   let ov<-eval (.Name x p) X.env
   ej apos.atName
   let (f,first)<-dg [ov] (gh ov m pl)
   callWith pos f first (bK pos (aP (e::es) X.env)) (dX pos (dY [] X.env))):=by rfl) :
  PE X (.Call (.Attribute (.Name x p) m apos) (e::es) [] pos) (qg7 sp dvs E t):=by
 intro pins s Z H Q I h;refine ig (pl:=pl) (Jk I hg hm ?_ hdb) ht;refine method_cls I.kIn hC.sp (cls_value I.kIn hC.reads hC.at_ rfl ?_);have I1:=I.tok (s.toks+1);refine ie (first:=[]) (h₀:=X.base) I.ok.mod.kin hC.kp (thn (ha pos pins _ Z H _ I1 h) λus s2 z=>?_) hst hpl;let(vs,H2,I2,r,q):=z;exact{I2.kIn,qaM F hr hb hd hx I2 r q}
end
def Itz(K:Frag)(a b:af):It:=
 ⟨λi H=>∃xs ys x y,SqL K H a xs/\SqL K H b ys/\xs[i]?=some x/\ys[i]?=some y,
  λi H v H'=>∃T x y,v=.ref T/\H T=none/\H'=upd H T (.tup [x,y])/\∀xs ys,SqL K H a xs->SqL K H b ys->xs[i]?=some x/\ys[i]?=some y,
  λi H=>∃xs ys,SqL K H a xs/\SqL K H b ys/\(xs.length<=i\/ys.length<=i)⟩
def ZSt(z TI TO i1 i2 a b:af)(i:Nat)(h:aw):Prop:=IsZip h z TI TO .none/\IsPair h TI (.ref i1) (.ref i2)/\(∃u v,IsPair h TO u v)/\h.IsListIter i1 a i/\h.IsListIter i2 b i
def Inv.turnedAll{X:Cx}{pins:PP}{Z:St}{H:Hp}{s:ah}{h':aw}{t':Nat}{ch:List af}(I:Inv X pins Z H s)(k:∀b o,b∉ch->s.heap.get? b=some o->h'.get? b=some o)(hf:∀b∈ch,qdV X pins H b):Inv X pins Z H { s with heap:=h',toks:=t' }:=by
 have nch:∀{b:af} {u:HO},H b=some u->b∉ch:=λ{b u} e z=>by rw[(hf b z).1]at e;cases e
 refine I.step (g':=s.gens) (d':=s.drawn) (ch:=ch) (λb hb=>?_) (λb o y y hc e y=>k b o hc e) (λb o y y hc e y=>{o.slots,k b o hc e}) (λy y y y n=>n) (λb o hc e=>{o,k b o hc e}) (λy y e=>e) (λy y y e=>e) (λb ps e=>{#[],by rw[e];simp}) (λm hm=>?_) (λb u e=>?_) I.bare
 .let(f0,f1,f2,f3,f4,f5):=hf b hb;exact⟨f3,f1,f4,f5⟩
 .let(o,es,ep,ho,r):=hm;exact{o,es,ep,k _ o (λz=>(hf _ z).2.1 rfl) ho,r}
 .refine(I.hok b u e).stay (λc v hc q=>k c v ?_ q) (λy q=>q) λy y q=>q;rcases hc with z|z
  .rw[z];exact nch e
  .exact nch z
def Inv.turnedNew{X:Cx}{pins:PP}{Z:St}{H:Hp}{s:ah}{h':aw}{t':Nat}{ch:List af}{T:af}{ob:HO}(I:Inv X pins Z H s)(k:∀b o,b∉ch->s.heap.get? b=some o->h'.get? b=some o)(hf:∀b∈ch,qdV X pins H b)
  (hT:s.heap.get? T=none) (new:qI X.prog X.w (upd H T ob) h' T ob):Inv X pins Z (upd H T ob) { s with heap:=h',toks:=t' }:=by
 have hH:H T=none:=I.newH hT;have nch:∀{b:af} {u:HO},H b=some u->b∉ch:=λ{b u} e z=>by rw[(hf b z).1]at e;cases e
 have nT:∀{b:af} {u:HO},H b=some u->b≠T:=λ{b u} e z=>by rw[z,hH]at e;cases e
 have up:∀{b:af} {u:HO},H b=some u->upd H T ob b=some u:=λ{b u} e=>by rw[qd (nT e)];exact e
 refine I.step (g':=s.gens) (d':=s.drawn) (ch:=ch) (λb hb=>?_) (λb o y y hc e y=>k b o hc e) (λb o y y hc e y=>{o.slots,k b o hc e}) (λb o y e n=>?_) (λb o hc e=>{o,k b o hc e}) (λy y e=>up e) (λy y y e=>up e) (λb ps e=>{#[],by rw[up e];simp}) (λm hm=>?_) (λb u e=>?_) I.bare
 .let(f0,f1,f2,f3,f4,f5):=hf b hb;exact⟨f3,f1,f4,f5⟩
 .rw[qd (λz=>by rw[z,hT]at e;cases e)];exact n
 .let(o,es,ep,ho,r):=hm;exact{o,es,ep,k _ o (λz=>(hf _ z).2.1 rfl) ho,r}
 .by_cases hb:b=T
  .subst hb;rw[qe]at e;cases e;exact new
  .rw[qd hb]at e;refine(I.hok b u e).stay (λc v hc q=>k c v ?_ q) (λy q=>up q) λy y q=>up q;rcases hc with z|z
   .rw[z];exact nch e
   .exact nch z
def qht{P:aJ}{w:aC}{K:Frag}{elts:List ag}{kk:Nat}{pos:Pos}{z TI TO i1 i2 a b:af}(D:ZipApart z TI TO i1 i2 a b) :
  Turn P w K (.Tuple elts kk pos) (Itz K a b) [z,TI,TO,i1,i2] z (ZSt z TI TO i1 i2 a b) where
 mem:=by simp
 obj:=λi h st c hc=>by
  let(s1,s2,(u,v,s3),(o4,s4,_,d4),(o5,s5,_,d5)):=st;simp at hc;rcases hc with rfl|rfl|rfl|rfl|rfl
  .exact{_,s1,λv q=>by cases q}
  .exact{_,s2,λv q=>by cases q}
  .exact{_,s3,λv q=>by cases q}
  .exact{_,s4,λv q=>by rw[d4]at q;cases q}
  .exact{_,s5,λv q=>by rw[d5]at q;cases q}
 keep:=λi h h' st k=>by let(s1,s2,(u,v,s3),s4,s5):=st;exact{k z (5:) _ s1,k TI (5:) _ s2,{u,v,k TO (5:) _ s3},s4.at λo e=>k i1 (5:) o e,s5.at λo e=>k i2 (5:) o e}
 item:=by
  intro X hP hw hK hc i pins s Z H E I hf st hg;subst hP hw hK;let(xs,ys,x,y,qa,qb,hx,hy):=hg;let(s1,s2,(u,v,s3),s4,s5):=st;let(ia,ra,pa,za):=I.list qa;let(ib,rb,pb,zb):=I.list qb;let(ux,ex,rx):=ra.get hx;let(uy,ey,ry):=rb.get hy;refine wpAny_pyNext_zip_item D s1 s2 s3 s4 s5 pa.isList pb.isList (x:=ux) (y:=uy) (-ex:) (-ey:) λh' a1 a2 a3 a4 a5 a6 kp=>?_;refine{_,rfl,wpAny_letOwnedTupleGo_zip (s:={ s with heap:=h' }) a1 λh2 b1 b2=>?_};have two:(2:Nat)<=sizeLine:=Nat.le_of_lt (qaU (2:))
  have kp2:∀c o,c∉[z,TI,TO,i1,i2]->s.heap.get? c=some o->h2.get? c=some o:=λc o hc e=>by simp at hc;exact b2.extBut c o hc.1 (kp c o hc.1 hc.2.2.1 hc.2.2.2.1 hc.2.2.2.2 e)
  have I1:Inv X pins Z H { s with heap:=h2 }:=I.turnedAll (t':=s.toks) kp2 hf
  have hnew:s.heap.get? s.heap.objs.size=none:=by
   cases q:s.heap.get? s.heap.objs.size with
   |none=>rfl
   |some o=>exact absurd (aQ q) (eE _)
  have hH:H s.heap.objs.size=none:=I.hok.fresh (ay _);have hTz:s.heap.objs.size≠z:=fK (aQ s1);have hT2:IsPair h2 s.heap.objs.size ux uy:=b2.extBut _ _ hTz a5;have hf2:=hf;have I2:Inv X pins Z (upd H s.heap.objs.size (.tup [x,y])) { s with heap:=h2 }:=I.turnedNew (t':=s.toks) kp2 hf hnew ⟨two,[ux,uy],.cons rx %[ry|0],_,hT2,rfl,0,rfl⟩;refine{.ref s.heap.objs.size,_,I2,rfl,{_,x,y,rfl,hH,rfl,λxs' ys' h1 h2=>?_},?_,λc hc=>?_}
  .rw[I.list_inj h1 qa,I.list_inj h2 qb];exact⟨hx,hy⟩
  .exact{b1,b2.extBut _ _ D.TIz (kp TI _ D.TIz D.TITO D.TIi1 D.TIi2 s2),{_,_,b2.extBut _ _ D.TOz a2},a3.extBut b2.extBut D.i1z,a4.extBut b2.extBut D.i2z}
  .have hc0:=(hf c hc).1;rw[qd]
   .exact hc0
   .intro q
    have e:∃o,s.heap.get? c=some o:=by
     simp at hc;rcases hc with rfl|rfl|rfl|rfl|rfl
     .exact{_,s1}
     .exact{_,s2}
     .exact{_,s3}
     .let(o,e,_):=s4;exact⟨o,e⟩
     .let(o,e,_):=s5;exact⟨o,e⟩
    let(o,e):=e;rw[q,hnew]at e;cases e
 done:=by intro X hP hw hK hc i pins s Z H E I hf st hg;subst hP hw hK;let(xs,ys,qa,qb,hend):=hg;let(s1,s2,(u,v,s3),s4,s5):=st;let(ia,ra,pa,za):=I.list qa;let(ib,rb,pb,zb):=I.list qb;have la:=ra.length;have lb:=rb.length;refine wpAny_pyNext_zip_end (I.ok.hd hc) D s1 s2 s3 s4 s5 pa.isList pb.isList (by simp;lia) λh' kp=>{rfl,I.turnedAll (t':=s.toks) (λc o hc e=>?_) hf};simp at hc;exact kp c o hc.1 hc.2.2.1 hc.2.2.2.1 hc.2.2.2.2 e
 self:=λA i s Q E st h=>wpAny_pyIter_zip st.1 h
def qrm(K:Frag)(ta:TA):TI:=λZ H R=>ta Z H λvs H1=>∃a b,vs=[.ref a,.ref b]/\(∃xs,SqL K H1 a xs)/\(∃ys,SqL K H1 b ys)/\R (Itz K a b) H1
section
variable{X:Cx}
def qmn{ea eb:ag}{elts:List ag}{kk:Nat}{tpos p pos:Pos}{ta:TA}(hg:Gl X "zip")(hm:X.mg "zip" = none)(ha:PA X [ea,eb] ta)(hs:aP [ea,eb] X.env=[(false,eval ea X.env),(false,eval eb X.env)]:=by rfl)(hs2:aP [eb] X.env=[(false,eval eb X.env)]:=by rfl) :
  PI X (.Tuple elts kk tpos) (.Call (.Name "zip" p) [ea,eb] [] pos) (qrm X.K ta):=by
 intro pins s Z H R I h;refine Call_ (Yw I hg hm boot_zip (gz (thn (ha pos pins s Z H _ I h) λus s1 z=>?_) (by rw[hs,hs2]) (by rw[hs2];rfl)));let(vs,H1,I1,r1,a,b,rfl,(xs,qa),(ys,qb),q):=z;let(u,v,rfl,ru,rv):=qb3 r1;cases ru;cases rv;let(ia,ra,pa,za):=I1.list qa;let(ib,rb,pb,zb):=I1.list qb;have la:a < s1.heap.objs.size:=by let(_,e,_):=pa.isList;exact aQ e
 have lb:b < s1.heap.objs.size:=by let(_,e,_):=pb.isList;exact aQ e
 refine call_zip_2 pa.isList pb.isList λh' z1 z2 z3 z4 z5 z6 kp=>wpAny_pyIter_zip z1 ?_
 have D:ZipApart (s1.heap.objs.size+4) (s1.heap.objs.size+2) (s1.heap.objs.size+3) s1.heap.objs.size (s1.heap.objs.size+1) a b:=by constructor<;>(first|exact a9 (bD la (de _ _))|exact a9 (bD lb (de _ _))|exact a9 la|exact a9 lb|exact a9 (1:)|exact fK (1:))
 refineλy k=>k _ [_,_,_,_,_] _ _ _ (I1.kept (t':=s1.toks) kp) (qht D) ⟨z1,z2,⟨_,_,z3⟩,z4,z5⟩ (λc hc=>?_) q
 have:s1.heap.objs.size<=c:=by
  simp at hc;rcases hc with rfl|rfl|rfl|rfl|rfl
  .exact de _ _
  .exact de _ _
  .exact de _ _
  .exact ay _
  .exact de _ _
 exact I1.fpOk this (I1.hok.fresh this)
end
def Ite(K:Frag)(a:af):It:=
 ⟨λi H=>∃xs x,SqL K H a xs/\xs[i]?=some x,
  λi H v H'=>∃T x,v=.ref T/\H T=none/\H'=upd H T (.tup [.int i,x])/\∀xs,SqL K H a xs->xs[i]?=some x,
  λi H=>∃xs,SqL K H a xs/\xs.length<=i⟩
def ESt(e it a:af)(i:Nat)(h:aw):Prop:=(∃old,IsEnum h e it ((i:Nat):Int) old)/\h.IsListIter it a i
def qfm{P:aJ}{w:aC}{K:Frag}{elts:List ag}{kk:Nat}{pos:Pos}{e it a:af}(hne:e≠it) :
  Turn P w K (.Tuple elts kk pos) (Ite K a) [e,it] e (ESt e it a) where
 mem:=by simp
 obj:=λi h st c hc=>by
  let((old,s1),(o4,s4,_,d4)):=st;simp at hc;rcases hc with rfl|rfl
  .exact{_,s1,λv q=>by cases q}
  .exact{_,s4,λv q=>by rw[d4]at q;cases q}
 keep:=λi h h' st k=>by let((old,s1),s4):=st;exact{{old,k e (5:) _ s1},s4.at λo e=>k it (5:) o e}
 item:=by
  intro X hP hw hK hc i pins s Z H E I hf st hg;subst hP hw hK;let(xs,x,qa,hx):=hg;let((old,s1),s4):=st;let(ia,ra,pa,za):=I.list qa;let(ux,ex,rx):=ra.get hx;refine wpAny_pyNext_enum_item s1 s4 pa.isList (x:=ux) (-ex:) hne λh' a1 a2 a3 a4 kp=>?_;refine{_,rfl,wpAny_letOwnedTupleGo_enum (s:={ s with heap:=h',toks:=s.toks+1 }) a1 λh2 b1 b2=>?_};have two:(2:Nat)<=sizeLine:=Nat.le_of_lt (qaU (2:))
  have kp2:∀c o,c∉[e,it]->s.heap.get? c=some o->h2.get? c=some o:=λc o hc q=>by simp at hc;exact b2.extBut c o hc.1 (kp c o hc.1 hc.2 q)
  have hnew:s.heap.get? s.heap.objs.size=none:=by
   cases q:s.heap.get? s.heap.objs.size with
   |none=>rfl
   |some o=>exact absurd (aQ q) (eE _)
  have hH:H s.heap.objs.size=none:=I.hok.fresh (ay _);have hTe:s.heap.objs.size≠e:=fK (aQ s1);have hT2:IsPair h2 s.heap.objs.size (.int i s.toks) ux:=b2.extBut _ _ hTe a3;have I2:Inv X pins Z (upd H s.heap.objs.size (.tup [.int i,x])) { s with heap:=h2,toks:=s.toks+1 }:=I.turnedNew (t':=s.toks+1) kp2 hf hnew ⟨two,[.int i s.toks,ux],.cons ⟨_,rfl⟩ %[rx|0],_,hT2,rfl,0,rfl⟩;refine{.ref s.heap.objs.size,_,I2,rfl,{_,x,rfl,hH,rfl,λxs' h1=>?_},?_,λc hc=>?_}
  .rw[I.list_inj h1 qa];exact hx
  .have e1:((i+1:Nat):Int)=(i:Int)+1:=by lia
   refine{{ux,?_},a2.extBut b2.extBut (cy hne)};rw[e1];exact b1
  .have hc0:=(hf c hc).1;rw[qd]
   .exact hc0
   .intro q
    have e:∃o,s.heap.get? c=some o:=by
     simp at hc;rcases hc with rfl|rfl
     .exact{_,s1}
     .let(o,e,_):=s4;exact⟨o,e⟩
    let(o,e):=e;rw[q,hnew]at e;cases e
 done:=by intro X hP hw hK hc i pins s Z H E I hf st hg;subst hP hw hK;let(xs,qa,hend):=hg;let((old,s1),s4):=st;let(ia,ra,pa,za):=I.list qa;have la:=ra.length;refine wpAny_pyNext_enum_end (I.ok.hd hc) s1 s4 pa.isList (by simp;lia) λh' kp=>{rfl,I.turnedAll (t':=s.toks) (λc o hc e=>?_) hf};simp at hc;exact kp c o hc.2 e
 self:=λA i s Q E st h=>by let((old,s1),_):=st;exact wpAny_pyIter_enum s1 h
def qpx(K:Frag)(ta:TA):TI:=λZ H R=>ta Z H λvs H1=>∃a,vs=[.ref a]/\(∃xs,SqL K H1 a xs)/\R (Ite K a) H1
section
variable{X:Cx}
def qj7{ea:ag}{elts:List ag}{kk:Nat}{tpos p pos:Pos}{ta:TA}(hg:Gl X "enumerate")(hm:X.mg "enumerate" = none)(ha:PA X [ea] ta)(hs:aP [ea] X.env=[(false,eval ea X.env)]:=by rfl) :
  PI X (.Tuple elts kk tpos) (.Call (.Name "enumerate" p) [ea] [] pos) (qpx X.K ta):=by
 intro pins s Z H R I h;refine Call_ (Yw I hg hm boot_enumerate (gz (thn (ha pos pins s Z H _ I h) λus s1 z=>?_) hs rfl));let(vs,H1,I1,r1,a,rfl,(xs,qa),q):=z;let(u,rfl,ru):=yJ r1;cases ru;let(ia,ra,pa,za):=I1.list qa;refine call_enumerate_list pa.isList λh' z1 z2 z3 kp=>wpAny_pyIter_enum z1 ?_;refineλy k=>k _ [_,_] _ _ _ (I1.kept (t':=s1.toks) kp) (qfm (Nat.succ_ne_self _)) ⟨⟨_,z1⟩,z2⟩ (λc hc=>?_) q
 have:s1.heap.objs.size<=c:=by
  simp at hc;rcases hc with rfl|rfl
  .exact de _ _
  .exact ay _
 exact I1.fpOk this (I1.hok.fresh this)
end
def Itv(K:Frag)(a:af)(xs:List V):It:=
 ⟨λi H=>SqL K H a xs/\i < xs.length,λi H x H'=>H'=H/\xs[xs.length - 1 - i]?=some x,λi H=>SqL K H a xs/\xs.length=i⟩
def qhu{P:aJ}{w:aC}{K:Frag}{tg:ag}(a it:af)(xs:List V):Turn P w K tg (Itv K a xs) [it] it (λi h=>h.IsRevIter it a ((xs.length:Int) - 1 - i)) where
 mem:=by simp
 obj:=λi h st b hb=>by
  have e:b=it:=(-hb:)
  subst e;let(o,e,c,d):=st;exact{o,e,λv z=>by rw[d]at z;cases z}
 keep:=λi h h' st k=>st.at λo e=>k it (5:) o e
 item:=by
  intro X hP hw hK hc i pins s Z H E I hf st hg;subst hP hw hK;let(hq,hi):=hg;let(its,rv,p,hz):=I.list hq;have hx:xs[xs.length - 1 - i]?=some xs[xs.length - 1 - i]:=bN (by omega);let(u,hu,ru):=rv.get hx;let(f0,f1,f2,f3,f4,f5):=hf it (5:);have e1:(xs.length:Int) - 1 - i=((xs.length - 1 - i:Nat):Int):=by omega
  rw[e1]at st;refine wpAny_pyNext_rev_item st p.isList (x:=u) (-hu:) λh' st' sb=>?_;have I1:Inv X pins Z H { s with heap:=h' }:=I.turned (t':=s.toks) (λb o hb e=>(sb.2 b hb).trans e) f0 f1 f3 f4 f5;have e2:((xs.length - 1 - i:Nat):Int) - 1=(xs.length:Int) - 1 - ((i+1:Nat):Int):=by omega
  rw[e2]at st';let(o,e,c,d):=id st';exact{u,rfl,qeL (s:={ s with heap:=h' }) e c d (2:) ⟨_,H,I1,ru,⟨rfl,hx⟩,st',λb hb=>(hf b hb).1⟩}
 done:=by
  intro X hP hw hK hc i pins s Z H E I hf st hg;subst hP hw hK;let(hq,hi):=hg;let(f0,f1,f2,f3,f4,f5):=hf it (5:);have e1:(xs.length:Int) - 1 - i = -1:=by omega
  rw[e1]at st;exact wpAny_pyNext_rev_end (I.ok.hd hc) st λh' eb=>{rfl,I.turned (t':=s.toks) (λb o hb e=>eb b o hb e) f0 f1 f3 f4 f5}
 self:=λy y y y y st h=>wpAny_pyIter_revIter st h
def qrn(K:Frag)(ta:TA):TI:=λZ H R=>ta Z H λvs H1=>∃a xs,vs=[.ref a]/\SqL K H1 a xs/\R (Itv K a xs) H1
section
variable{X:Cx}
def qmo{ea tg:ag}{p pos:Pos}{ta:TA}(hg:Gl X "reversed")(hm:X.mg "reversed" = none)(ha:PA X [ea] ta)(hs:aP [ea] X.env=[(false,eval ea X.env)]:=by rfl) :
  PI X tg (.Call (.Name "reversed" p) [ea] [] pos) (qrn X.K ta):=by
 intro pins s Z H R I h;refine Call_ (Yw I hg hm boot_reversed (gz (thn (ha pos pins s Z H _ I h) λus s1 z=>?_) hs rfl));let(vs,H1,I1,r1,a,xs,rfl,qa,q):=z;let(u,rfl,ru):=yJ r1;cases ru;let(ia,ra,pa,za):=I1.list qa;have la:=ra.length;refine call_reversed_list pa.isList ?_;refine wpAny_pyIter_revIter ⟨_,bz _ rfl,rfl,rfl⟩ ?_;refine PIE.one I1 (qhu a _ xs) ⟨_,bz _ rfl,rfl,?_⟩ q
 .show Data.fields #[.ref a,bP ((ia.toArray.size:Int) - 1)]=_
  have:(ia.toArray.size:Int) - 1=(xs.length:Int) - 1 - ((0:Nat):Int):=by simp;omega
  rw[this]
end
section
variable{prog:aJ}{w:aC}{A:aN}{E:PQ}{s:ah}
def qa5:typeLookup (.type "list") "keys" = pure none:=am_miss_of_fast (4:)
def qmp{a:af}{o:Obj}{xs:Array ae}{k:Nat}{Q:Option ae->ah->Prop}(hx:s.heap.get? a=some o)(hc:o.cls=.type "list")(hdat:o.data=.seq xs k)(hd:o.dict=none)(hA:A.handled=none)
  (h:∀h' tk,(∀b ob,s.heap.get? b=some ob->h'.get? b=some ob)->Q none { s with heap:=h',toks:=tk }):ak (av prog w) A (getAttr? (.ref a) "keys") Q E s:=by
 let(c,dct,dat,sl):=o;simp only at hc hdat hd;subst hc hdat hd;let(hp,g,d,tk,os):=s;have hT:∀tk',(⟨hp,g,d,tk',os⟩:ah).TypeIs (.ref a) "list":=λz=>{_,hx,rfl};have f1:=sub_AttributeError;have f3:=kP.lookup;have f4:=kP.bind (.ref a);have f5:=am_list_getattr_none;unfold getAttr? getAttrBy? getAttrBy
 repeat (any_goals (first|assumption|exact hT _|((with_reducible show ak _ _ (call (Value.builtin "list.__getattribute__") _ _) _ _ _);refine kg kP (hT _) am_entry_list_getattribute (PySem.F.args_list_getattribute_2 _ _) (meets_getattribute_miss_list a xs k sl _ _ qa5 (3:)) ⟨hx,hA,λh' tk' e hx'=>?_⟩)|wp_step))
 let(t',u',he):=hx'.there;show ak _ _ (getattributeRaised _ _ _ _ _ _ _) _ _ _;unfold getattributeRaised
 repeat (any_goals (first|assumption|wp_step))
 exact h _ _ hx'.keeps
def qc1:entryFor table "dict.update.loop" = some Builtin.«dict.update.loop»:=entryFor_of_tree (4:)
def Yl:plainId "dict.update.loop" = true:=(3:)
def qj8(prog:aJ)(w:aC)(h:aw)(items:Array ae)(ps:List (Key×ae)):Prop:=items.size=ps.length/\∀(i:Nat) (kv:Key×ae),ps[i]?=some kv->∃(b:af) (ku:ae),items[i]?=some (.ref b)/\h.IsTuple b #[ku,kv.2]/\(qq prog w).is kv.1 ku=true
theorem qmq{h0:aw}{D I l:af}{items:Array ae}{ps:List (Key×ae)}{R:Result->ah->Prop}(hD:h0.get? D=none)(hI:h0.get? I=none)(hne:D≠I)(hl:h0.IsList l items)(hps:qj8 prog w h0 items ps)(hz:ps.length<=sizeLine)(hh:A.handled=none) :
  ∀(k i:Nat) (t:Tok) (s:ah),ps.length - i=k->i<=ps.length->(∀b o,h0.get? b=some o->s.heap.get? b=some o)->s.heap.IsListIter I l i->s.heap.DictOf (qq prog w) D (merged [] (ps.take i))->
   (∀h' tk,(∀b o,h0.get? b=some o->h'.get? b=some o)->h'.DictOf (qq prog w) D (merged [] ps)->R (.ok (.ret .none)) { s with heap:=h',toks:=tk })->
   cN (av prog w) A (.builtin "dict.update.loop" ⟨[.ref D,.ref I,.int i t,.none],[]⟩) R s:=by
 have old:∀{b:af} {o:Obj},h0.get? b=some o->b≠D/\b≠I:=λ{b o} e=>{λz=>(by rw[z,hD]at e;cases e),λz=>(by rw[z,hI]at e;cases e)};intro k
 induction k with
 |zero=>
  intro i t s hk hi ho it dd hR;have hin:i=ps.length:=by lia
  subst hin;refine eW qc1 ?_;rw[fj Yl _];show ak _ A.in1 (cM (.ref I) >>= _) _ _ s;have hl':s.heap.IsList l items:=hl.at λo e=>ho _ _ e;refine aj (nK (-hh:) it hl' (by simp[hps.1]) λh' eb=>?_);rw[gH]at dd;show ak _ A.in1 (Builtin.Dict.addKeywords D [] >>= _) _ _ _;refine aj (aB (aB (hR h' s.toks (λb o e=>eb b o (old e).2 (ho b o e)) ?_)));let(o,es,ep,h1,r):=dd;exact{o,es,ep,eb D o hne h1,r}
 |succ k ih=>
  intro i t s hk hi ho it dd hR;have hlt:i < ps.length:=by lia
  let(kv,hkv):∃kv,ps[i]?=some kv:={ps[i],bN _};let(b,ku,h1,h2,h3):=hps.2 i kv hkv;have hl':s.heap.IsList l items:=hl.at λo e=>ho _ _ e;refine eW qc1 ?_;rw[fj Yl _];show ak _ A.in1 (cM (.ref I) >>= _) _ _ s;refine aj (nJ it hl' h1 λh' it' sb=>?_);have ho':∀b o,h0.get? b=some o->h'.get? b=some o:=λb o e=>(sb.2 b (old e).2).trans (ho b o e)
  have dd':h'.DictOf (qq prog w) D (merged [] (ps.take i)):=by let(o,es,ep,q,r):=dd;exact{o,es,ep,(sb.2 D hne).trans q,r}
  let(ot,q1,q2,n,q3):=h2;have hT:iM { s with heap:=h' } (.ref b) "tuple":={ot,ho' _ _ q1,q2};show ak _ A.in1 (dg [bj b] _ >>= _) _ _ _;refine aj (dh (aj (wpAny_tryCatch ?_)));unfold Builtin.Dict.pairItems;refine aj (kj hT ?_);rw[if_pos (2:)];refine aj (mj (ho' _ _ q1) q3 (aB ?_));show ak _ A.in1 (dg [ku,kv.2] (dictSet D ku kv.2)) _ _ _;unfold dictSet;refine dh (dh (aj ((qq prog w).pyHash (k:=kv.1) h3 ?_)))
  have hmx:(merged [] (ps.take i)).length<=sizeLine:=by
   have e1:=merged_length_le ([]:List (Key×ae)) (ps.take i);have e2:(ps.take i).length<=ps.length:=by rw[gB];lia
   simp![eM]at e1
   lia
  refine wpAny_dictSetHashed_pairs (s:={ s with heap:=h',toks:=s.toks+1 }) (hsz:=hmx) h3 dd' λh'' dd'' sb'=>?_;refine aB ⟨fI Yl _,ih (i+1) _ _ (1:) hlt (λb o e=>(sb'.2 b (old e).1).trans (ho' b o e)) ?_ ?_ hR⟩
  .let(o,z,r):=it';exact{o,(sb'.2 I (cy hne)).trans z,r}
  .rw[merged_take_succ [] ps i kv hkv];exact dd''
def qed{l:af}{ol:Obj}{items:Array ae}{n:Nat}{ps:List (Key×ae)}{Q:PQ}(hh:A.handled=none)(hx:s.heap.get? l=some ol)(hc:ol.cls=.type "list")(hdat:ol.data=.seq items n)(hd:ol.dict=none)(hps:qj8 prog w s.heap items ps)(hz:ps.length<=sizeLine)
  (h:∀h' tk,(∀b o,s.heap.get? b=some o->h'.get? b=some o)->h'.DictOf (qq prog w) s.heap.objs.size (merged [] ps)->Q (.ref s.heap.objs.size) { s with heap:=h',toks:=tk }) :
  ak (av prog w) A (call (.type "dict") [.ref l]) Q E s:=by
 refine callType_codes (Q₁:=λobj s₁=>obj=.ref s.heap.objs.size/\s₁={ s with heap:=s.heap.push { cls:=.type "dict",data:=.dict #[] } }) PySem.F.kt_called_dict (PySem.F.kt_typeCall_dict_1 _) PySem.F.entry_dict_init (kt_code_dict_new _ ⟨rfl,rfl⟩) ?_;rintro obj s₁ ⟨rfl,rfl⟩;have hnew:(s.heap.push { cls:=.type "dict",data:=.dict #[] }).DictOf (qq prog w) s.heap.objs.size []:=Heap.DictOf.new s.heap;have hx':(s.heap.push { cls:=.type "dict",data:=.dict #[] }).get? l=some ol:=aW _ hx;have hT:iM { s with heap:=s.heap.push { cls:=.type "dict",data:=.dict #[] } } (.ref l) "list":=⟨ol,hx',hc⟩;refine{hnew.typeIs,PySem.F.args_dict_init_2 _ _,?_};unfold Builtin.«dict.__init__»;refine aj ?_;unfold Builtin.Dict.selfAndRest;refine aj (wpAny_notOrdered_dict hnew.typeIs ?_);show ak _ _ (pure (s.heap.objs.size,[bj l])) _ _ _;refine aB ?_;show ak _ _ (mG "dict.__init__" s.heap.objs.size (.ref l) [] .none) _ _ _;unfold mG;refine aj (kj hT ?_);rw[if_pos (2:)];refine aj (qmp hx' hc hdat hd (-hh:) λh1 tk1 k1=>?_);rw[if_pos (by rfl)];refine aj (dw ?_);have hl1:h1.IsList l items:={ol,k1 _ _ hx',hc,n,hdat};refine aj (ki hl1 ?_);have k0:∀b o,s.heap.get? b=some o->(h1.push { cls:=.type "list_iterator",data:=.fields #[.ref l,.int 0 0] }).get? b=some o:=λb o e=>aW _ (k1 b o (aW _ e));let(od,es,ep,hod,rd):=hnew;have hlt:s.heap.objs.size < h1.objs.size:=aQ (k1 _ _ hod);have hDI:s.heap.objs.size≠h1.objs.size:=a9 hlt;refine aB ⟨fI Yl _,?_⟩;refine qmq (h0:=s.heap) (l:=l) (items:=items) (ps:=ps) (kZ (ay _)) (kZ (Nat.le_of_lt hlt)) hDI ⟨ol,hx,hc,n,hdat⟩ hps hz (-hh:) _ 0 _ _ rfl (aZ _) k0 ?_ ?_ λh' tk ko dd=>?_
 .exact{_,bz _ rfl,rfl,rfl}
 .exact{od,es,ep,aW _ (k1 _ _ hod),rd}
 .exact{rfl,h h' tk ko dd}
end
section
variable{X:Cx}
def kvV(kv:Str×Int):Key×V:=(.inr kv.1,.int kv.2)
theorem qmr{P:aJ}{w:aC}{H:Hp}{h:aw}(ok:HOk P w H h){xs:List V}{kvs:List (Str×Int)}{its:List ae}(hp:bq (λx (kv:Str×Int)=>∃b,x=V.ref b/\H b=some (.tup [.str kv.1,.int kv.2])) xs kvs)(hv:qt xs its) :
  ∃ps:List (Key×ae),KV (kvs.map kvV) ps/\bq (λu (kv:Key×ae)=>∃b ku,u=bj b/\h.IsTuple b #[ku,kv.2]/\(qq P w).is kv.1 ku=true) its ps:=by
 induction hp generalizing its with
 |nil=>cases hv;exact{[],.nil,.nil}
 |@cons z kv y t hx hr ih=>
  cases hv with
  |cons rx rr=>
  let(ps,h1,h2):=ih rr;let(b,rfl,hb):=hx;let(_,its,rv,tp):=(show qI P w H h b (.tup [.str kv.1,.int kv.2]) from ok b _ hb);let(u,v,rfl,ru,rv):=qb3 rv;exact{(.inr kv.1,v)::ps,.cons ⟨rfl,rv⟩ h1,.cons {b,u,rx,tp,qfj (k:=.inr kv.1) ru} h2}
theorem Paired.ix{α M:Type}{R:α->M->Prop}:∀{l:List α} {m:List M} {i:Nat} {b:M},bq R l m->m[i]?=some b->∃a,l[i]?=some a/\R a b
 |_,_,_,_,.nil,e=>by simp at e
 |_,_,0,_,.cons h t,e=>by simp at e;subst e;exact{_,rfl,h}
 | _,_,i+1,_,.cons h t,e=>by let(a,e1,e2):=Paired.ix (i:=i) t (-e:);exact{a,(-e1:),e2}
def qee(hc:X.calm=true):zd X (.type "dict") (λvs H Q=>∃(p:af) (xs:List V) (kvs:List (Str×Int)),vs=[.ref p]/\SqL X.K H p xs/\bq (λx (kv:Str×Int)=>∃b,x=V.ref b/\H b=some (.tup [.str kv.1,.int kv.2])) xs kvs/\(kvs.map (·.1)).Nodup/\∀q,H q=none->Q (.ref q) (upd H q (.dK (kvs.map kvV)))):=by
 intro pins s Z H xs us Q I r h;let(p,xs,kvs,rfl,hq,hp,nd,q):=h;let(u,rfl,rx):=yJ r;cases rx;let(its,rv,(ol,n,g1,g2,g3,g4),hz):=I.list hq;let(ps,h1,h2):=qmr I.hok hp rv;have e1:=h1.length;have e2:=h2.length;have e3:=rv.length;rw[aD]at e1
 have hps:qj8 X.prog X.w s.heap its.toArray ps:={by simpa using e2,λi kv e=>by let(u,z1,b,ku,z2,z3,z4):=Paired.ix h2 e;exact{b,ku,by rw[<-z2];simpa using z1,z3,z4}}
 refine qed (I.ok.hd hc) g1 g2 g4 g3 hps (1:) λh' tk ko dd=>?_
 have nk:(ps.map (·.1)).Nodup:=by
  rw[<-h1.keys,fh]
  have:((λx:Key×V=>x.1) ∘ kvV)=(d8:Str->Key) ∘ (λkv:Str×Int=>kv.1):=rfl
  rw[this,<-fh];exact nd.map (f:=(d8:Str->Key)) (λa b=>by simp)
 rw[merged_nil_of_nodup ps nk]at dd;refine{.ref _,_,I.laid (a:=s.heap.objs.size) (o:=.dK (kvs.map kvV)) (t':=tk) ko (ay _) (qiS (by rw[aD];lia) (beq_eq_false_iff_ne.mpr (cy (a9 I.big))) h1 dd),rfl,q _ (I.hok.fresh (ay _))}
end
end L2
namespace TW
open PySem PyProof.Rows
def Ri(xs:Array Nat):Prop:=xs.toList.Pairwise (· < ·)
def qj9{xs:Array Nat}(h:Ri xs){i j:Nat}(hij:i < j)(hj:j < xs.size):xs[i]'(1:) < xs[j]:=by
 have:=eL.mp h i j (by simp;lia) (-hj:) hij
 simpa using this
def qms{xs:Array Nat}(h:Ri xs){i j:Nat}(hij:i<=j)(hj:j < xs.size):xs[i]'(1:)<=xs[j]:=by
 rcases Nat.lt_or_ge i j with z|z
 .exact Nat.le_of_lt (qj9 h z hj)
 .obtain rfl:i=j:=by lia
  exact ay _
theorem qka{xs:Array Nat}(h:Ri xs)(j:Nat):∀(f lo hi:Nat),lo<=hi->hi<=xs.size->hi - lo<=f->(∀(i:Nat) (hi:i < xs.size),i < lo->xs[i] < j)->(∀(i:Nat) (hx:i < xs.size),hi<=i->j<=xs[i])->
  SetTable.below.go xs j f lo hi<=xs.size/\(∀(i:Nat) (hx:i < xs.size),i < SetTable.below.go xs j f lo hi->xs[i] < j)/\∀(i:Nat) (hx:i < xs.size),SetTable.below.go xs j f lo hi<=i->j<=xs[i]
 |0,lo,hi,h1,h2,h3,a,b=>by
  rw[SetTable.below.go];obtain rfl:lo=hi:=by lia
  exact{h2,λi hx z=>a i hx z,b}
 | f+1,lo,hi,h1,h2,h3,a,b=>by
  rw[SetTable.below.go]
  by_cases hl:lo < hi
  .rw[if_pos hl];have hm:(lo+hi) / 2 < xs.size:=by lia
   have e:xs.getD ((lo+hi) / 2) j=xs[(lo+hi) / 2]:=by simp[Array.getD,hm]
   dsimp only;rw[e]
   by_cases hc:xs[(lo+hi) / 2] < j
   .rw[if_pos hc];refine qka h j f _ _ (1:) h2 (1:) (λi hx z=>?_) b;exact lx (qms h (1:) hm) hc
   .rw[if_neg hc];refine qka h j f _ _ (1:) (1:) (1:) a (λi hx z=>?_);exact bQ (Nat.not_lt.mp hc) (qms h z hx)
  .rw[if_neg hl];obtain rfl:lo=hi:=by lia
   exact{h2,λi hx z=>a i hx z,b}
def ZE{xs:Array Nat}(h:Ri xs)(j:Nat):b6 xs j<=xs.size/\(∀(i:Nat) (hx:i < xs.size),i < b6 xs j->xs[i] < j)/\∀(i:Nat) (hx:i < xs.size),b6 xs j<=i->j<=xs[i]:=
 qka h j xs.size 0 xs.size (aZ _) (ay _) (1:) (λi y z=>by lia) λi hx z=>by lia
def qef{xs:Array Nat}(h:Ri xs){k:Nat}(hk:k < xs.size):b6 xs (xs[k]+1)=k+1:=by
 let(h1,h2,h3):=ZE h (xs[k]+1);rcases Nat.lt_trichotomy (b6 xs (xs[k]+1)) (k+1) with z|z|z
 .have:=h3 k hk (1:)
  lia
 .exact z
 .have:=h2 (k+1) (1:) z
  have:=qj9 h (gA k) (1:)
  lia
def qeg(xs:Array Nat)(h:Ri xs):b6 xs 0=0:=by
 let(h1,h2,h3):=ZE h 0;rcases Nat.eq_zero_or_pos (b6 xs 0) with z|z
 .exact z
 .have:=h2 0 (1:) z
  lia
def qfn{xs:Array Nat}(h:Ri xs)(j:Nat)(hn:¬ xs[b6 xs j]?=some j):Ri (lL xs (b6 xs j) j):=by
 let(h1,h2,h3):=ZE h j;generalize b6 xs j=p at h1 h2 h3 hn
 have e:(lL xs p j).toList=xs.toList.take p++j::xs.toList.drop p:=by unfold lL;simp[fP,List.extract_eq_drop_take];rw[fQ (5:)]
 unfold Ri;rw[e,bU]
 have hd:∀b∈xs.toList.drop p,j < b:=λb hb=>by
  let(i,hi,rfl):=fT.mp hb;have hi':p+i < xs.size:=by simp at hi;lia
  have e1:(xs.toList.drop p)[i]=xs[p+i]:=by simp
  rw[e1];have hge:=h3 (p+i) hi' (1:);rcases Nat.eq_zero_or_pos i with z|z
  .subst z
   have:xs[p]≠j:=λz=>hn (by rw[c9 (1:)];exact congrArg some z)
   have h4:=h3 p (1:) (ay _);show j < xs[p+0];simp![iD]
   lia
  .have h4:=h3 p (1:) (ay _);have h5:=qj9 h (i:=p) (j:=p+i) (1:) hi'
   lia
 have ht:∀a∈xs.toList.take p,a < j:=λa ha=>by
  let(i,hi,rfl):=fT.mp ha;simp at hi
  have:=h2 i (1:) (1:)
  simpa using this
 refine{h.sublist (eI _ _),bg.mpr {hd,h.sublist (fe _ _)},λa ha b hb=>?_}
 have:=ht a ha
 rcases aF.mp hb with rfl|hb
 .exact this
 .have:=hd b hb
  lia
def qhv(n:Nat):Ri (Array.range n):=by unfold Ri;rw[Array.toList_range];exact nj
def Rt(led:Bool)(t:cU):Prop:=Ri t.place/\t.dummies=#[]/\t.led=led
variable{led:Bool}{t:cU}
def Ym(h:Rt led t)(n:Nat):Rt led (t.standIn n):={qhv n,rfl,h.2.2}
def qhw:Rt led (.fresh 0 0 led):=⟨List.Pairwise.nil,rfl,rfl⟩
def qhx(h:Rt led t):Rt led { t with plain:=false }:=h
def qc2(j:Nat):SetTable.has #[] j=false:=by unfold SetTable.has;simp
theorem qc3(h:Rt led t)(g:Nat->Int)(hh:Int):∀(f:Nat) (p:SetTable.Probe) (j:Nat) (d:Option Nat),p.dummy=none->SetTable.probe.go t g hh f p=some (.empty j d)->d=none/\¬ t.place[b6 t.place j]?=some j
 |0,p,j,d,h0,e=>by rw[SetTable.probe.go]at e;cases e
 | f+1,p,j,d,h0,e=>by
  have adv:∀q:SetTable.Probe,q.dummy=none->(t.advance q).dummy=none:=λq hq=>by
   unfold SetTable.advance;split
   .exact hq
   .exact hq
  rw[SetTable.probe.go]at e
  cases hs:t.slot p.j with
  |empty=>rw[hs]at e;dsimp only at e;cases e;refine{h0,λz=>?_};unfold SetTable.slot at hs;dsimp only at hs;rw[if_pos (-z:)]at hs;cases hs
  |dummy=>
   unfold SetTable.slot at hs;dsimp only at hs;rw[h.2.1,qc2]at hs
   split at hs<;>simp at hs
  |live i=>
   rw[hs]at e;dsimp only at e
   split at e
   .cases e
   .exact qc3 h g hh f _ j d (adv _ h0) e
theorem qkb(h:Rt led t){hh:Int}{j:Nat}{b:Bool}(e:t.freeSlot hh=some (j,b)):¬ t.place[b6 t.place j]?=some j:=by
 unfold SetTable.freeSlot at e
 cases hp:t.probe (λz=>hh+1) hh (t.probeStart hh) with
 |none=>rw[hp]at e;cases e
 |some m=>
  rw[hp]at e
  cases m with
  |candidate=>cases e
  | empty j' d=>let(rfl,h2):=qc3 h _ hh _ _ j' d rfl (show SetTable.probe.go t _ hh _ _=_ from hp);cases e;exact h2
def qpy(h:Rt led t)(n:Nat):Rt led (t.orStandIn n):=by
 unfold SetTable.orStandIn;split
 .exact h
 .exact Ym h n
def qmt(h:Rt led t){j:Nat}(hj:¬ t.place[b6 t.place j]?=some j):Rt led (t.put j).1:=by unfold SetTable.put;refine{qfn h.1 j hj,?_,h.2.2};dsimp only;rw[h.2.1,qc2];rfl
theorem qmu(h:Rt led t)(es:Array (Int×ae))(hh:Int)(x:ae):Rt led (layNew t es hh x).2.1:=by
 unfold layNew
 cases e:t.freeSlot hh with
 |none=>exact Ym h _
 |some p=>let(j,b):=p;exact qpy (qmt h (qkb h e)) _
theorem qkc{m f mv:Nat}{pl:Bool}{hs:Array Int}{p:cU×Array Nat}(e:SetTable.laid m f mv led pl hs=some p):Rt led p.1:=by
 unfold SetTable.laid at e
 cases ho:SetTable.layClean m hs with
 |none=>rw[ho]at e;cases e
 |some ow=>rw[ho]at e;cases e;refine{?_,rfl,rfl};unfold Ri;show List.Pairwise _ (ef _ _).toArray.toList;rw[List.toList_toArray,iK];refine List.Pairwise.filterMap _ (R:=(· < ·)) (λa a' haa b hb b' hb'=>?_) nj;let(_,_,rfl):=bM.mp hb;let(_,_,rfl):=bM.mp hb';exact haa
theorem qhy(h:Rt led t)(es:Array (Int×ae))(n:Nat):Rt led (gr t es n).2.1:=by
 unfold gr
 cases e:t.relaid (es.map (·.1)) n with
 |none=>exact Ym h _
 |some p=>
  dsimp only;split
  .unfold SetTable.relaid at e;rw[h.2.2]at e;exact qkc e
  .exact Ym h _
open PySem.Spec
section
variable{prog:aJ}{w:aC}{A:aN}{E:PQ}{s:ah}{led:Bool}
def qa6(prog:aJ)(w:aC)(led:Bool)(h:aw)(a:af)(S:Int->Bool)(n:Nat):Prop:=
 ∃o es ep t,h.get? a=some o/\o.ExactSet/\o.data=.set es ep t/\ElemsOf (cj prog w) es.toList/\(∀k,S k=true↔∃e∈es.toList,(cj prog w).is k e.2=true)/\es.size < eA/\t.fits es.size=true/\es.size=n/\Rt led t
def qa6.to{h h':aw}{a:af}{S:Int->Bool}{n:Nat}(x:qa6 prog w led h a S n)(k:∀o,h.get? a=some o->h'.get? a=some o):qa6 prog w led h' a S n:=by let(o,es,ep,t,ho,r):=x;exact{o,es,ep,t,k o ho,r}
def qa6.say{h:aw}{a:af}{S S':Int->Bool}{n n':Nat}(x:qa6 prog w led h a S n)(e:∀k,S k=S' k)(en:n=n'):qa6 prog w led h a S' n':=by obtain rfl:S=S':=funext e;subst en;exact x
def qmv{h:aw}{a:af}{o:Obj}{es:Array (Int×ae)}{ep:Nat}{t:cU}(ho:h.get? a=some o)(hx:o.ExactSet)(hd:o.data=.set es ep t){es':Array (Int×ae)}{t':cU}{S':Int->Bool}
  (hel:ElemsOf (cj prog w) es'.toList) (hm:∀k,S' k=true↔∃e∈es'.toList,(cj prog w).is k e.2=true) (hb:es'.size < eA) (hf:t'.fits es'.size=true) (hr:Rt led t') :
  (h.update a (Obj.putSet es' t')).get? a=some { o with data:=.set es' (ep+1) t' }/\qa6 prog w led (h.update a (Obj.putSet es' t')) a S' es'.size:=by
 let(h1,_):=SetOf_store (knd:=cj prog w) ho hx hd hel hm hb hf;exact{h1,_,es',ep+1,t',h1,hx,rfl,hel,hm,hb,hf,rfl,hr}
def qiT{g:Bool->Sem Unit}(hg:∀(b:Bool) (s1:ah) (Q':Unit->ah->Prop),Q' () s1->ak (av prog w) A (g b) Q' E s1){a:af}{o:Obj}{es:Array (Int×ae)}{ep:Nat}{t:cU}
  (ho:s.heap.get? a=some o) (hx:o.ExactSet) (hd:o.data=.set es ep t) {es1:Array (Int×ae)} {t2:cU} {S':Int->Bool} (hel:ElemsOf (cj prog w) es1.toList)
  (hm:∀k',S' k'=true↔∃e∈es1.toList,(cj prog w).is k' e.2=true) (hb:es1.size < eA) (hf:t2.fits es1.size=true) (hr:Rt led t2) {wasDummy:Bool} {R:Option Bool->ah->Prop}
  (h:∀h',dP a s.heap h'->qa6 prog w led h' a S' es1.size->R (some true) { s with heap:=h' }) :
  ak (av prog w) A (do
    storeSet a es1 t2
    if (!wasDummy&&t2.tooFull)=true then do
      g (gr t2 es1 (fk es1.size)).2.2
      storeSet a (gr t2 es1 (fk es1.size)).1 (gr t2 es1 (fk es1.size)).2.1
      pure (some true)
     else pure (some true)) R E s:=by
 refine aj (wpAny_storeSet_of ho hd ?_ (g8 hb));let(o1,S1):=qmv (prog:=prog) (w:=w) ho hx hd hel hm hb hf hr;have k1:=eX s.heap a (Obj.putSet es1 t2);split
 .have hp:=relayAll_perm t2 es1 (fk es1.size);have hf2:=relayAll_fits t2 es1 (fk es1.size);have hr2:=qhy hr es1 (fk es1.size);generalize gr t2 es1 (fk es1.size)=Rl at hp hf2 hr2 ⊢;let(es2,t3,g2):=Rl;dsimp only at hp hf2 hr2 ⊢;have hz:es2.size=es1.size:=by rw[<-bF,hp.length_eq,bF]
  refine aj (hg _ _ _ (aj (wpAny_storeSet_of o1 rfl ?_ (g8 (by rw[hz];exact hb)))));let(_,S2):=qmv (prog:=prog) (w:=w) (S':=S') o1 hx rfl (hel.perm hp) (λk'=>(hm k').trans ⟨λ⟨e,he,q⟩=>{e,hp.mem_iff.mpr he,q},λ⟨e,he,q⟩=>{e,hp.mem_iff.mp he,q}⟩) (by rw[hz];exact hb) hf2 hr2;exact aB (h _ (k1.trans (eX _ a _)) (S2.say (λz=>rfl) hz))
 .exact aB (h _ k1 S1)
theorem qpz{a:af}{S:Int->Bool}{n:Nat}{k:Int}{x:ae}{Q:Bool->ah->Prop}(hk:(cj prog w).is k x=true)(hsc:x.scannable=true)(hS:qa6 prog w led s.heap a S n)(hroom:n+1 < eA)
  (h:∀h' b,dP a s.heap h'->qa6 prog w led h' a (λk'=>S k'||decide (k'=k)) (if S k then n else n+1)->Q b { s with heap:=h' }) :
  ak (av prog w) A (setAddHashed a x ((cj prog w).hash k)) Q E s:=by
 let(o,es,ep,t,ho,hx,hd,hel,hm,hb,hf,hn,hr):=hS;unfold setAddHashed setAddHashedIn;refine dh (aj (dN ho hd hf ?_));dsimp only;rw[byScan_of hsc hb hel];simp![↓reduceIte];unfold setAddByScan;refine aj (aj (dw (aj (wpAny_setScan_of hk ho hd hf hel ?_))))
 cases hi:List.findIdx? (λe=>(cj prog w).is k e.2) es.toList with
 |some j=>
  dsimp only;let(hj,hp,_):=List.findIdx?_eq_some_iff_getElem.mp hi;have hSk:S k=true:=(hm k).mpr ⟨es.toList[j],iL hj,hp⟩;refine aB (aB ?_)
  have q:=h s.heap false (Heap.SameBut.refl a s.heap) ⟨o,es,ep,t,ho,hx,hd,hel,λk'=>by rw[eg,decide_eq_true_eq,<-hm k'];exact{λz=>z.elim id (λe=>e▸hSk),.inl},hb,hf,by rw[hSk];exact hn,hr⟩
  exact q
 |none=>
  dsimp only
  have hSk:S k=false:=by
   cases z:S k with
   |false=>rfl
   |true=>
    let(e,he,hp):=(hm k).mp z
    have:=List.findIdx?_eq_none_iff.mp hi e he
    rw[hp]at this;cases this
  have hp:=layNew_perm t es ((cj prog w).hash k) x;have hf1:=layNew_fits t es ((cj prog w).hash k) x;have hr1:=qmu hr es ((cj prog w).hash k) x;generalize layNew t es ((cj prog w).hash k) x=L at hp hf1 hr1 ⊢;let(es1,t1,wd,gv):=L;dsimp only at hp hf1 hr1 ⊢;rw[lE]at hp;have z1:es1.size=n+1:=by rw[<-bF,hp.length_eq,aT,bF,hn];rfl
  have gw:∀(b:Bool) (s1:ah) (Q':Unit->ah->Prop),Q' () s1->ak (av prog w) A (match b with |true=>rule "set.scan.the-table-gave-way" |false=>pure ()) Q' E s1:=λb s1 Q' hq=>by
   cases b
   .exact aB hq
   .exact dw hq
  have fin:∀h',dP a s.heap h'->qa6 prog w led h' a (λk'=>S k'||decide (k'=k)) es1.size->Q true { s with heap:=h' }:=λh' k1 S1=>h h' true k1 (S1.say (λy=>rfl) (by rw[hSk];exact z1))
  have hel1:=(hel.push hk hsc).perm hp;have hm1:=mem_push_iff hk hm hp;refine aj (gw _ _ _ ?_);split
  .refine aj ?_;rw[hashByValue_scannable 8 hsc];refine aB (qiT (led:=led) (λb s1 Q' hq=>?_) ho hx hd hel1 hm1 (1:) ?_ ?_ ?_)
   .cases b
    .exact aB hq
    .exact dw hq
   .split
    .exact hf1
    .exact SetTable.fits_plain_off hf1
   .split
    .exact hr1
    .exact qhx hr1
   .intro h' k1 S1;dsimp only;exact aB (fin h' k1 S1)
  .refine aj (aB ?_);simp![↓reduceIte];refine qiT (led:=led) (λb s1 Q' hq=>?_) ho hx hd hel1 hm1 (1:) hf1 hr1 ?_
   .cases b
    .exact aB hq
    .exact dw hq
   .intro h' k1 S1;dsimp only;exact aB (fin h' k1 S1)
end
section
variable{prog:aJ}{w:aC}{A:aN}{R:Result->ah->Prop}{I:af}{fp wr:List af}{G:Array gg->Array gg->Prop}{n:Nat}{P:Nat->ae->Prop}{St:Nat->ah->Prop}{led:Bool}
theorem qmw(W:WalksS prog w A.in1 I fp wr G n P St)(S:af)(hSf:S∉fp)(val:Nat->Int)(hv:∀i v,P i v->∃t,v=.int (val i) t)(hb:n+1 < eA):∀(k i:Nat) (s:ah),n - i=k->i<=n->St i s->
  qa6 prog w led s.heap S (λk'=>(di val i).any (· == k')) (di val i).length->
  (∀s',Moved (S::wr) G s s'->qa6 prog w led s'.heap S (λk'=>(di val n).any (· == k')) (di val n).length->R (.ok (.ret .none)) s')->
  cN (av prog w) A (.builtin "set.update.loop" ⟨[.ref S,.ref I],[]⟩) R s:=by
 have hSw:S∉wr:=λh=>hSf (W.sub _ h);have sub:∀b∈wr,b∈S::wr:=λb hb=>bH _ hb;intro k
 induction k with
 |zero=>
  intro i s hk hi st hS hR;obtain rfl:i=n:=by lia
  refine eW nr ?_;rw[fj lM _];show ak _ A.in1 (cM (.ref I) >>= _) _ _ s;refine aj (W.done s _ _ st λs' hm=>?_);show ak _ A.in1 (ret Value.none) _ _ s';exact aB (hR s' (hm.mono sub) (hS.to λo e=>hm.heap S _ hSw e))
 |succ k ih=>
  intro i s hk hi st hS hR;refine eW nr ?_;rw[fj lM _];show ak _ A.in1 (cM (.ref I) >>= _) _ _ s;refine aj (W.item i s _ _ (1:) st λv s' hP st' hm=>?_);let(t,rfl):=hv i v hP;have hS':=hS.to (h':=s'.heap) λo e=>hm.heap S _ hSw e;show ak _ A.in1 (dg [Value.int (val i) t] (setAdd S (.int (val i) t)) >>= _) _ _ s';refine aj (dh ?_);unfold setAdd;refine dh (aj ((cj prog w).pyHash (k:=val i) (intKind_is _ _ _ _) ?_))
  have:=firstMet_length_le val i
  refine qpz (s:={ s' with toks:=s'.toks+1 }) (intKind_is _ _ _ _) rfl hS' (1:) λh' b sb S2=>?_;have S3:qa6 prog w led h' S (λk'=>(di val (i+1)).any (· == k')) (di val (i+1)).length:=S2.say (λk'=>by rw[ml,step_any]) (by rw[ml,step_length]);refine aB ⟨fI lM _,ih (i+1) _ (1:) (1:) (W.frame _ s' _ _ st' (eG _) λb hb o e=>?_) S3 λs2 m2 z=>?_⟩
  .rw[sb.2 b (λq:b=S=>hSf (by rw[<-q];exact hb))];exact e
  .refine hR s2 (Moved.trans W.gtrans ((hm.mono sub).then_heap (eG _) λb o hb e=>?_) m2) z;rw[sb.2 b (λq:b=S=>hb (by rw[q];exact bX))];exact e
end
section
variable{prog:aJ}{w:aC}{A:aN}{E:PQ}{s:ah}
abbrev byT(w:aC):Bool:=w.params.followText "set-order"
abbrev qhz(w:aC):Obj:={ cls:=.type "set",dict:=none,data:=.set #[] 0 (.fresh 0 0 (!byT w)) }
def qpA(a:ae){Q1:PQ}(h:Q1 (.ref s.heap.objs.size) { s with heap:=s.heap.push (qhz w) }) :
  cN (av prog w) A (.call (.builtin "set.__new__") ⟨[.type "set",a],[]⟩) (wants Q1 E) s:=by
 refine codeAny_of_tree ?_;show ak _ A.in1 (do checkBuiltinCall "set.__new__" ⟨[.type "set",a],[]⟩;again (.builtin "set.__new__" ⟨[.type "set",a],[]⟩)) _ _ s;refine aj (wpAny_of_eq (PySem.F.newCall_set_1 a) (aB ⟨fI mH _,eW PySem.F.entry_set_new ?_⟩));rw[fj mH _];unfold Builtin.«set.__new__» Builtin.Frozenset.newClass;have hsub:=sub_set_self;let(hp,g,d,tk,os):=s;dsimp only
 wp_walk
 refine mq (aB ?_);dsimp only;simp![newObj];exact aj (wpAny_alloc (aB (aB h)))
set_option maxHeartbeats 8000000 in
theorem qpB{l:af}{items:Array ae}{ns:List Int}{Q:PQ}(hh:A.handled=none)(hl:s.heap.IsList l items)(hi:fG items.toList ns)(hb:items.size+1 < eA)
  (h:∀(h':aw) (tk:Nat),qa6 prog w (!byT w) h' s.heap.objs.size (λk'=>(di (λi=>ns.getD i 0) items.size).any (· == k')) (di (λi=>ns.getD i 0) items.size).length->
   (∀b o,b < s.heap.objs.size->s.heap.get? b=some o->h'.get? b=some o)->Q (.ref s.heap.objs.size) { s with heap:=h',toks:=tk }) :
  ak (av prog w) A (call (.type "set") [.ref l]) Q E s:=by
 let(c,tl,hmro):=eD.mro;have hmade:=eD.made;have hsub:=eD.sub;refine wpAny_call (codeAny_of_tree ?_);show ak _ _ (callAny (.type "set") _) _ _ _;refine aB ⟨Code.quiet_builtin _ (3:),eW PySem.F.entry_type_call ?_⟩;rw[Around.under_plain (weight_type_call_type "set" [.ref l] []) rfl];have h1:=eD.notType;have h2:=eD.canCreate;have hct:=PySem.F.typeCall_set_1 (.ref l)
 repeat (any_goals (first|assumption|wp_step))
 refine dW (qpA (.ref l) (E:=E) (Q1:=λob s1=>ob=.ref s.heap.objs.size/\s1={ s with heap:=s.heap.push (qhz w) }) ⟨rfl,rfl⟩) λr s1 hr=>?_
 cases r with
 |error e=>exact hr
 |ok fl=>
  cases fl with
  |next=>exact ax hr
  |brk=>exact ax hr
  |cont=>exact ax hr
  |ret ob=>
   let(rfl,rfl):=hr;have hS:(s.heap.push (qhz w)).get? s.heap.objs.size=some (qhz w):=bz _ rfl;have hT:iM { s with heap:=s.heap.push (qhz w) } (.ref s.heap.objs.size) "set":={_,hS,rfl};have hli:=eD.init.lookup;have hbi:=eD.init.bind (.ref s.heap.objs.size)
   repeat (any_goals (first|assumption|wp_step))
   refine dW (codeAny_call_builtin (R:=wants (λr s2=>r=.none/\∃h' tk,s2={ s with heap:=h',toks:=tk }/\
     qa6 prog w (!byT w) h' s.heap.objs.size (λk'=>(di (λi=>ns.getD i 0) items.size).any (· == k')) (di (λi=>ns.getD i 0) items.size).length/\
     (∀b o,b < s.heap.objs.size->s.heap.get? b=some o->h'.get? b=some o)) E) eD.init.plain PySem.F.entry_set_init (check_set_init_1 hT ?_)) λr2 s2 hr2=>?_
   .let(ol,hol,hcl,nl,hdl):=hl;let(oc,od,oda,osl):=ol;simp only at hcl hdl;subst hcl hdl;have hol':(s.heap.push (qhz w)).get? l=some { cls:=.type "list",dict:=od,data:=.seq items nl,slots:=osl }:=aW _ hol;have hsls:=PySem.F.sub_list_set;have hslf:=PySem.F.sub_list_frozenset;have hne:(dD "list" == dD "dict")=false:=by decide
    have hl1:(s.heap.push (qhz w)).IsList l items:={_,hol',rfl,nl,rfl};unfold Builtin.«set.__init__» noKeywords Builtin.Frozenset.updateFrom;generalize hPI:fD=PI
    wp_walk
    subst hPI;refine ki hl1 (aj (wpAny_runValue ?_));have lt:l < s.heap.objs.size:=aQ hol;have hh3:A.in1.in1.in1.handled=none:=by simp[hh]
    have neI:l≠(s.heap.push (qhz w)).objs.size:=by rw[eF];lia
    have hSf:s.heap.objs.size∉[(s.heap.push (qhz w)).objs.size,l]:=by rw[eF];simp![aF,eN,or_false,not_or];exact{by lia,by lia}
    refine qmw (led:=!byT w) ((Walks.list hh3 _ l neI items).toS) s.heap.objs.size hSf (λi=>ns.getD i 0) (λi v hv=>IntsAre.int_at hi i v (by rw[iz];exact hv)) hb (items.size - 0) 0 _ (1:) (aZ _)
     ⟨⟨_,bz _ rfl,rfl,rfl⟩,(hl1.push _)⟩ ?S0 ?R0
    case S0=>exact{_,#[],0,.fresh 0 0 (!byT w),aW _ hS,⟨rfl,rfl,rfl⟩,rfl,λe he=>by simp at he,λk=>by simp[di],by decide,rfl,rfl,qhw}
    case R0=>intro s' hm S';let(h',g',d',tk',os'):=s';obtain rfl:g'=s.gens:=hm.gens;obtain rfl:d'=s.drawn:=hm.drawn;obtain rfl:os'=s.os:=hm.os;show ak _ _ _ _ _ _;refine aB ?_;show ak _ _ (ret Value.none) _ _ _;refine aB ⟨rfl,h',tk',rfl,S',λb o hb e=>hm.heap b o ?_ (aW _ (aW _ e))⟩;simp![aF,eN,or_false,not_or];exact{by lia,by rw[eF];lia}
   .cases r2 with
    |error e=>exact hr2
    |ok f2=>
     cases f2 with
     |next=>exact ax hr2
     |brk=>exact ax hr2
     |cont=>exact ax hr2
     |ret r=>
      let(rfl,h',tk,rfl,S',hk'):=hr2
      repeat (any_goals (first|assumption|wp_step))
      exact h _ _ S' hk'
end
def zL:Slot "set_iterator" "__next__" "set_iterator.__next__":=
 .of (owner:="set_iterator") (n:="__next__") (by rw[typeLookup_type,nO];kernel_rfl) (3:) (3:) (3:) (by first|exact .inl (3:)|exact .inr (3:)) (by rw[mr];kernel_rfl)
def Yn:entryFor table "set_iterator.__next__" = some Builtin.«set_iterator.__next__»:=entryFor_of_tree (4:)
def ZF(a:ae):argsOk "set_iterator.__next__" ⟨[a],[]⟩:=by
 unfold argsOk;rw[signature?_of (id:="set_iterator.__next__") (n:="__next__".toList.reverse) (o:="set_iterator".toList.reverse) (rows:=nu) (4:) (4:)]
 kernel_rfl
def qfo:Slot "set_iterator" "__iter__" "set_iterator.__iter__":=
 .of (owner:="set_iterator") (n:="__iter__") (by rw[typeLookup_type,nO];kernel_rfl) (3:) (3:) (3:) (by first|exact .inl (3:)|exact .inr (3:)) (by rw[mr];kernel_rfl)
def qhA:entryFor table "set_iterator.__iter__" = some Builtin.«dict_keyiterator.__iter__»:=entryFor_alias (id':="dict_keyiterator.__iter__") (4:) rfl (3:) (4:)
def qkd(a:ae):argsOk "set_iterator.__iter__" ⟨[a],[]⟩:=by
 unfold argsOk;rw[signature?_of (id:="set_iterator.__iter__") (n:="__iter__".toList.reverse) (o:="set_iterator".toList.reverse) (rows:=nu) (4:) (4:)]
 kernel_rfl
def qhB:entryFor table "set.__iter__" = some Builtin.«frozenset.__iter__»:=entryFor_alias (id':="frozenset.__iter__") (4:) rfl (3:) (4:)
theorem ZG{α:Type}:∀{l:List α} {i:Nat} (h:i < l.length),(l[i]::l.eraseIdx i).Perm l
 | x::l,0,h=>.refl _
 | x::l,i+1,h=>(List.Perm.swap x (l[i]'(-h:)) _).trans ((ZG (l:=l) (i:=i) (-h:)).cons x)
theorem qfp{α:Type}(f:Nat->Nat):∀(n k:Nat) (l:List α) (o:Array α),l.length=n->(pickOrder.go f n k l o).toList.Perm (o.toList++l)
 |0,k,l,o,h=>by cases eO.mp h;rw[pickOrder.go];simp
 | n+1,k,l,o,h=>by rw[pickOrder.go];have hi:f k % l.length < l.length:=Nat.mod_lt _ (1:);rw[bN hi];dsimp only;refine(qfp f n (k+1) _ _ (by rw[nv hi];lia)).trans ?_;rw[lE,bf];exact(ZG hi).append_left _
def qa7{α:Type}(f:Nat->Nat)(xs:Array α):(fJ f xs).toList.Perm xs.toList:=by
 unfold fJ
 simpa using qfp f xs.size 0 xs.toList #[] (5:)
section
variable{M:cG}{A:aN}{E:PQ}
def qke{src:Source}{n:Nat}{s:ah}{Q:Nat->ah->Prop}(hn:n≠0)(h:∀i dr,i < n->Q i { s with drawn:=dr }):ak M A (choose src n) Q E s:=λL p z=>by show Sem.wp M L (.choose src n .pure) _ _ p s;rw[Sem.wp_choose];exact{hn,h _ _ (Nat.mod_lt _ (Nat.pos_of_ne_zero hn))}
theorem qa8:∀(n:Nat) (xs:List Nat) (s:ah) (Q:List Nat->ah->Prop),xs.length=n->(∀ys dr,ys.Perm xs->Q ys { s with drawn:=dr })->ak M A (drawOrder n xs) Q E s
 |0,xs,s,Q,h,q=>by cases eO.mp h;rw[drawOrder];exact aB (q [] s.drawn .nil)
 | n+1,[],s,Q,h,q=>by cases h
 | n+1,x::xs,s,Q,h,q=>by
  rw[drawOrder]
  case x_2=>simp
  refine aj (qke (5:) λi dr hi=>?_);rw[bN hi];dsimp only;refine aj (qa8 n _ _ _ (by rw[nv hi];simp at h;simp;lia) λys dr2 hp=>?_);refine aB (q _ dr2 ?_);exact(hp.cons _).trans (ZG hi)
end
def SIt(h:aw)(it a:af)(f:ae)(i n ep:Nat):Prop:=∃o,h.get? it=some o/\o.cls=.type "set_iterator"/\o.data=.fields #[f,.int i 0,.ref a,.int n 0,.int ep 0]
def SIt.ty{s:ah}{it a:af}{f:ae}{i n ep:Nat}(x:SIt s.heap it a f i n ep):s.TypeIs (.ref it) "set_iterator":=by let(o,h1,h2,_):=x;exact⟨o,h1,h2⟩
def SIt.to{h h':aw}{it a:af}{f:ae}{i n ep:Nat}(x:SIt h it a f i n ep)(k:∀o,h.get? it=some o->h'.get? it=some o):SIt h' it a f i n ep:=by let(o,h1,r):=x;exact{o,k o h1,r}
section
variable{prog:aJ}{w:aC}{A:aN}{E:PQ}{s:ah}{it a:af}{f:ae}{i n ep:Nat}
def ZH{Q:PQ}(x:SIt s.heap it a f i n ep)(h:Q (.ref it) s):ak (av prog w) A (fD (.ref it)) Q E s:=by refine wpAny_pyIter_slot x.ty qfo (eV qfo x.ty qhA ?_ (qkd _));show ak _ _ (ret (.ref it)) _ _ s;exact aB ⟨_,rfl,"set_iterator",_,x.ty,zL.lookup,h⟩
def ZI{h:aw}{j:Nat}{v f':ae}{i':Nat}{ox:Obj}(hox:h.get? it=some ox)(hcx:ox.cls=.type "set_iterator"){vs:Array ae}(hdx:ox.data=.fields vs)(e:vs.setIfInBounds j v=#[f',.int i' 0,.ref a,.int n 0,.int ep 0]) :
  SIt (h.update it (Obj.mapFields (·.setIfInBounds j v))) it a f' i' n ep:=
 ⟨_,iu _ hox (Obj.isFreed_of_fields (Obj.data_mapFields hdx _)),(Obj.cls_mapFields ..).trans hcx,by rw[Obj.data_mapFields hdx,e]⟩
def qc4{o:Obj}{es:Array (Int×ae)}{t:cU}{k:Nat}{Q:Option ae->ah->Prop}{y:ae}{k':Nat}(x:SIt s.heap it a (.int k 0) i n ep)(ho:s.heap.get? a=some o)(hd:o.data=.set es ep t)(hf:t.fits es.size=true)(hn:es.size=n)
  (hs:∀(A':aN) (E':PQ) (Q':Option (ae×Nat)->ah->Prop),Q' (some (y,k')) s->ak (av prog w) A' (gy a k i ep) Q' E' s)
  (q:∀h',dP it s.heap h'->SIt h' it a (.int k' 0) (i+1) n ep->Q (some y) { s with heap:=h' }):ak (av prog w) A (cM (.ref it)) Q E s:=by
 let(ox,hox,hcx,hdx):=id x;unfold cM;refine aj (gm (kn (name:=iN "__next__") x.ty zL (eV zL x.ty Yn ?_ (ZF _))));unfold Builtin.«set_iterator.__next__»;refine aj (aB (aj (kq hox hdx ?_)));dsimp only;refine aj (aj (dN ho hd hf (aB ?_)));dsimp only;rw[if_neg (by rw[hn];simp)];refine aj (hs _ _ _ ?_);dsimp only;refine aj (g9 hox hdx (5:) ?_);have x1:=ZI (h:=s.heap) (it:=it) (a:=a) (n:=n) (ep:=ep) (f':=.int k' 0) (i':=i) (j:=0) (v:=bP k') hox hcx hdx (by simp[bP]);let(o1,h1,c1,d1):=id x1;refine aj (g9 h1 d1 (5:) ?_);have x2:=ZI (it:=it) (a:=a) (n:=n) (ep:=ep) (f':=.int k' 0) (i':=i+1) (j:=1) (v:=bP ((i:Int)+1)) h1 c1 d1 (by simp[bP]);exact aB ⟨_,rfl,aB (q _ ((eX ..).trans (eX ..)) x2)⟩
def qc5{Q:Option ae->ah->Prop}(hh:A.handled=none){j:Nat}{v:ae}{ox:Obj}{vs:Array ae}(hox:s.heap.get? it=some ox)(hdx:ox.data=.fields vs)(hj:j < vs.size)
  (q:∀h',Heap.ExtBut it s.heap h'->Q none { s with heap:=h' }) :
  ak (av prog w) A.in1 (do setField (bj it) j v;let e<-newExc (dD "StopIteration") [];raiseNew e)
   (λfin s'=>∃v,fin=PySem.Fin.done (Flow.ret v)/\ak (av prog w) A (pure (some v)) Q E s') (λe s'=>ak (av prog w) A (do let b<-isInstance e (dD "StopIteration");if b=true then pure none else throw e) Q E s') s:=by
 refine aj (g9 hox hdx hj (aj ?_));simp![newExc,newTuple];refine aj (g7 ?_ (by size_fits));refine aj (m:=firstArgMember _ _) (wpAny_of_eq (a:=Value.none) (by first|rfl|(simp![firstArgMember];rfl)) ?_);refine g7 ?_ (by size_fits);simp![raiseNew];refine aj (wpAny_handled ?_);rw[show A.in1.handled=none from hh];refine aj (aB (wpAny_throw ?_));refine aj (wpAny_isInstance (T:="StopIteration") (b:=true) ⟨_,bz _ rfl,rfl⟩ isSubtype_stop ?_);exact aB (q _ (((eX ..).extBut.push _).push _))
def qfq{o:Obj}{es:Array (Int×ae)}{t:cU}{k:Nat}{Q:Option ae->ah->Prop}(hh:A.handled=none)(x:SIt s.heap it a (.int k 0) i n ep)(ho:s.heap.get? a=some o)(hd:o.data=.set es ep t)(hf:t.fits es.size=true)(hn:es.size=n)
  (hs:∀(A':aN) (E':PQ) (Q':Option (ae×Nat)->ah->Prop),Q' none s->ak (av prog w) A' (gy a k i ep) Q' E' s)
  (q:∀h',Heap.ExtBut it s.heap h'->Q none { s with heap:=h' }):ak (av prog w) A (cM (.ref it)) Q E s:=by
 let(ox,hox,hcx,hdx):=id x;unfold cM;refine aj (gm (kn (name:=iN "__next__") x.ty zL (eV zL x.ty Yn ?_ (ZF _))));unfold Builtin.«set_iterator.__next__»;refine aj (aB (aj (kq hox hdx ?_)));dsimp only;refine aj (aj (dN ho hd hf (aB ?_)));dsimp only;rw[if_neg (by rw[hn];simp)];refine aj (hs _ _ _ ?_);exact qc5 hh hox hdx (5:) q
def qhC{o ot:Obj}{es:Array (Int×ae)}{t:cU}{T:af}{ps:List Nat}{p:Nat}{c:Nat}{Q:Option ae->ah->Prop}{y:Int×ae}(x:SIt s.heap it a (.ref T) i n ep)(ho:s.heap.get? a=some o)(hd:o.data=.set es ep t)(hf:t.fits es.size=true)(hn:es.size=n)
  (hT:s.heap.get? T=some ot) (hdT:ot.data=.seq (ps.map λj:Nat=>bP j).toArray c) (hp:ps[i]?=some p) (hy:es[p]?=some y)
  (q:∀h',dP it s.heap h'->SIt h' it a (.ref T) (i+1) n ep->Q (some y.2) { s with heap:=h' }):ak (av prog w) A (cM (.ref it)) Q E s:=by
 let(ox,hox,hcx,hdx):=id x;unfold cM;refine aj (gm (kn (name:=iN "__next__") x.ty zL (eV zL x.ty Yn ?_ (ZF _))));unfold Builtin.«set_iterator.__next__»;refine aj (aB (aj (kq hox hdx ?_)));dsimp only;refine aj (aj (dN ho hd hf (aB ?_)));dsimp only;rw[if_neg (by rw[hn];simp)];refine aj (mj hT hdT ?_);dsimp only
 have e:(ps.map λj:Nat=>bP j).toArray[(i:Int).toNat]?=some (Value.int p 0):=by rw[eJ,ny,bu,hp];rfl
 rw[e];dsimp only;refine aj ?_;unfold setNextDrawn;refine aj (dN ho hd hf ?_);dsimp only;rw[if_neg (5:)];rw[eJ,hy];refine aB ?_;refine aj (g9 hox hdx (5:) ?_);have x2:=ZI (it:=it) (a:=a) (n:=n) (ep:=ep) (f':=.ref T) (i':=i+1) (j:=1) (v:=bP ((i:Int)+1)) hox hcx hdx (by simp[bP]);exact aB ⟨_,rfl,aB (q _ (eX ..) x2)⟩
def qfr{o ot:Obj}{es:Array (Int×ae)}{t:cU}{T:af}{ps:List Nat}{c:Nat}{Q:Option ae->ah->Prop}(hh:A.handled=none)(x:SIt s.heap it a (.ref T) i n ep)(ho:s.heap.get? a=some o)(hd:o.data=.set es ep t)(hf:t.fits es.size=true)(hn:es.size=n)
  (hT:s.heap.get? T=some ot) (hdT:ot.data=.seq (ps.map λj:Nat=>bP j).toArray c) (hp:ps[i]?=none)
  (q:∀h',Heap.ExtBut it s.heap h'->Q none { s with heap:=h' }):ak (av prog w) A (cM (.ref it)) Q E s:=by
 let(ox,hox,hcx,hdx):=id x;unfold cM;refine aj (gm (kn (name:=iN "__next__") x.ty zL (eV zL x.ty Yn ?_ (ZF _))));unfold Builtin.«set_iterator.__next__»;refine aj (aB (aj (kq hox hdx ?_)));dsimp only;refine aj (aj (dN ho hd hf (aB ?_)));dsimp only;rw[if_neg (by rw[hn];simp)];refine aj (mj hT hdT ?_);dsimp only
 have e:(ps.map λj:Nat=>bP j).toArray[(i:Int).toNat]?=none:=by rw[eJ,ny,bu,hp];rfl
 rw[e];dsimp only;refine aj (g9 hox hdx (5:) ?_);have x2:=ZI (it:=it) (a:=a) (n:=n) (ep:=ep) (f':=.int 0 0) (i':=i) (j:=0) (v:=bP 0) hox hcx hdx (by simp[bP]);let(o1,h1,c1,d1):=id x2;exact qc5 (s:={ s with heap:=_ }) hh h1 d1 (5:) λh' eb=>q h' λb ob hb e=>eb b ob hb ((eX ..).extBut b ob hb e)
end
section
variable{prog:aJ}{w:aC}{A:aN}{E:PQ}{s:ah}{a:af}{o:Obj}{es:Array (Int×ae)}{ep:Nat}{t:cU}
def ZJ{Q:Bool->ah->Prop}(h:Q (byT w) s):ak (av prog w) A setsByText Q E s:=by unfold setsByText;exact aj (mq (aB h))
def qiU{k i:Nat}{Q:Option (ae×Nat)->ah->Prop}(ho:s.heap.get? a=some o)(hd:o.data=.set es ep t)(hf:t.fits es.size=true)(hb:byT w=true)
  (q:Q (((fJ (w.params.setOrder a ep) es)[i]?).map λe=>(e.2,k)) s):ak (av prog w) A (gy a k i ep) Q E s:=by
 unfold gy;refine aj (dN ho hd hf (aj (ZJ ?_)));rw[hb];simp![↓reduceIte];rw[if_neg (5:)];refine aj ?_;unfold setWalk;refine aj (dN ho hd hf (aj (ZJ ?_)));rw[hb];simp![↓reduceIte];exact aj (mq (aB (aB q)))
def qiV{k i:Nat}{Q:Option (ae×Nat)->ah->Prop}(ho:s.heap.get? a=some o)(hd:o.data=.set es ep t)(hf:t.fits es.size=true)(hb:byT w=false)(hp:t.plain=true\/es.size<=1)(hl:t.led=true)
  (q:Q (match es[b6 t.place k]?,t.place[b6 t.place k]? with |some (_,x),some j=>some (x,j+1) |_,_=>none) s):ak (av prog w) A (gy a k i ep) Q E s:=by
 unfold gy;refine aj (dN ho hd hf (aj (ZJ ?_)));rw[hb];simp![bo,↓reduceIte];split
 .rename_i h;have h:(!t.plain&&decide (es.size > 1))=true:=h;exfalso;simp![aM,dH,decide_eq_true_eq]at h;rcases hp with z|z
  .rw[z]at h;cases h.1
  .lia
 .refine aj (m:=(if (!t.led&&!es.isEmpty)=true then unsupported "set:maker-not-led" else pure ())) ?_;rw[hl];exact aB (aB q)
def WK(prog:aJ)(w:aC)(it a:af)(fp:List af)(vs:List ae)(St:Nat->aw->Prop):Prop:=∀A:aN,A.handled=none->Walks prog w A it fp [it] vs.length (λi v=>vs[i]?=some v) St
def qkf(it:af)(hne:a≠it)(hd:o.data=.set es ep t)(hf:t.fits es.size=true)(hb:byT w=true) :
  WK prog w it a [it,a] ((fJ (w.params.setOrder a ep) es).toList.map (·.2)) (λi h=>SIt h it a (.int (0:Nat) 0) i es.size ep/\h.get? a=some o):=λA hh=>by
 have hsz:(fJ (w.params.setOrder a ep) es).size=es.size:=by
  have:=(qa7 (w.params.setOrder a ep) es).length_eq
  simpa using this
 refine{λb hb=>by simp at hb;simp[hb],λi h h' st k=>{st.1.to λo e=>k it (5:) o e,k a (5:) _ st.2},λi s Q E hi st q=>?_,λs Q E st q=>?_,λi s Q E st q=>ZH st.1 q}
 .have hi':i < (fJ (w.params.setOrder a ep) es).size:=(-hi:)
  refine qc4 (y:=(fJ (w.params.setOrder a ep) es)[i].2) (k':=0) st.1 st.2 hd hf rfl (λA' E' Q' q'=>qiU st.2 hd hf hb ?_) λh' sb x=>q _ h' s.toks ?_ ⟨x,sb.extBut a _ hne st.2⟩ λb ob hb e=>sb.extBut b ob (λz=>hb (by simp[z])) e
  .rw[c9 hi'];exact q'
  .simp[hi']
 .refine qfq hh st.1 st.2 hd hf rfl (λA' E' Q' q'=>qiU st.2 hd hf hb ?_) λh' eb=>q h' s.toks λb ob hb e=>eb b ob (λz=>hb (by simp[z])) e;rw[nz (5:)];exact q'
def slP(t:cU)(i:Nat):Nat:=match i with
 |0=>0
 | j+1=>t.place.getD j 0+1
def qhD(it:af)(hne:a≠it)(hd:o.data=.set es ep t)(hf:t.fits es.size=true)(hb:byT w=false)(hp:t.plain=true\/es.size<=1)(hr:Rt true t) :
  WK prog w it a [it,a] (es.toList.map (·.2)) (λi h=>SIt h it a (.int (slP t i) 0) i es.size ep/\h.get? a=some o):=λA hh=>by
 have hz:t.place.size=es.size:=by simp![SetTable.fits,aM,beq_iff_eq]at hf;exact hf.1
 have bl:∀i,i<=es.size->b6 t.place (slP t i)=i:=λi hi=>by
  cases i with
  |zero=>exact qeg _ hr.1
  |succ j=>
   have hj:j < t.place.size:=by lia
   show b6 t.place (t.place.getD j 0+1)=j+1;rw[show t.place.getD j 0=t.place[j] by simp[Array.getD,hj]];exact qef hr.1 hj
 refine{λb hb=>by simp at hb;simp[hb],λi h h' st k=>{st.1.to λo e=>k it (5:) o e,k a (5:) _ st.2},λi s Q E hi st q=>?_,λs Q E st q=>?_,λi s Q E st q=>ZH st.1 q}
 .have hi':i < es.size:=(-hi:)
  refine qc4 (y:=es[i].2) (k':=slP t (i+1)) st.1 st.2 hd hf rfl (λA' E' Q' q'=>qiV st.2 hd hf hb hp hr.2.2 ?_) λh' sb x=>q _ h' s.toks ?_ ⟨x,sb.extBut a _ hne st.2⟩ λb ob hb e=>sb.extBut b ob (λz=>hb (by simp[z])) e
  .rw[bl i (1:),c9 hi',c9 (1:)]
   have:slP t (i+1)=t.place[i]'(1:)+1:=by show t.place.getD i 0+1=_;rw[show t.place.getD i 0=t.place[i]'(1:) by simp[Array.getD,show i < t.place.size by lia]]
   rw[this]at q';exact q'
  .simp[hi']
 .have e:(es.toList.map (·.2)).length=es.size:=by simp
  rw[e]at st;refine qfq hh st.1 st.2 hd hf rfl (λA' E' Q' q'=>qiV st.2 hd hf hb hp hr.2.2 ?_) λh' eb=>q h' s.toks λb ob hb e=>eb b ob (λz=>hb (by simp[z])) e;rw[bl _ (ay _),nz (ay _)];exact q'
def qkg(it T:af)(hne:a≠it)(hnT:T≠it){ot:Obj}{ps:List Nat}(hd:o.data=.set es ep t)(hf:t.fits es.size=true)(hdT:ot.data=.seq (ps.map λj:Nat=>bP j).toArray 0)(hp:ps.Perm (cZ es.size)) :
  WK prog w it a [it,a,T] (ps.map λp=>(es.getD p default).2) (λi h=>SIt h it a (.ref T) i es.size ep/\h.get? a=some o/\h.get? T=some ot):=λA hh=>by
 have hl:ps.length=es.size:=by simpa using hp.length_eq
 refine{λb hb=>by simp at hb;simp[hb],λi h h' st k=>{st.1.to λo e=>k it (5:) o e,k a (5:) _ st.2.1,k T (5:) _ st.2.2},λi s Q E hi st q=>?_,λs Q E st q=>?_,λi s Q E st q=>ZH st.1 q}
 .have hi':i < ps.length:=(-hi:)
  have hpi:ps[i] < es.size:=by
   have:=hp.mem_iff.mp (iL hi')
   simpa using this
  refine qhC (p:=ps[i]) (y:=es[ps[i]]) st.1 st.2.1 hd hf rfl st.2.2 hdT (bN hi') (c9 hpi) λh' sb x=>q _ h' s.toks ?_ ⟨x,sb.extBut a _ hne st.2.1,sb.extBut T _ hnT st.2.2⟩ λb ob hb e=>sb.extBut b ob (λz=>hb (by simp[z])) e;simp[hi',Array.getD,hpi]
 .have e:(ps.map λp=>(es.getD p default).2).length=ps.length:=by simp
  rw[e]at st;exact qfr hh st.1 st.2.1 hd hf rfl st.2.2 hdT (List.getElem?_eq_none (ay _)) λh' eb=>q h' s.toks λb ob hb e=>eb b ob (λz=>hb (by simp[z])) e
def qhE{ps:List Nat}(hp:ps.Perm (cZ es.size)):(ps.map λp=>(es.getD p default).2).Perm (es.toList.map (·.2)):=by
 refine(hp.map _).trans (List.Perm.of_eq ?_);refine lN (5:) λi h1 h2=>?_
 have:i < es.size:=(-h1:)
 simp[Array.getD,this]
def qhF{Q:PQ}(ho:s.heap.get? a=some o)(hx:o.ExactSet)(hd:o.data=.set es ep t)(hf:t.fits es.size=true)(hr:Rt (!byT w) t)(hb:es.size < eA)
  (q:∀(it:af) (h':aw) (dr:Drawn) (fp:List af) (vs:List ae) (St:Nat->aw->Prop),vs.Perm (es.toList.map (·.2))->WK prog w it a fp vs St->St 0 h'->(∀b o,s.heap.get? b=some o->h'.get? b=some o)->s.heap.objs.size<=it->(∀b∈fp,b=a\/s.heap.objs.size<=b)->Q (.ref it) { s with heap:=h',drawn:=dr }) :
  ak (av prog w) A (fD (.ref a)) Q E s:=by
 have hT:s.TypeIs (.ref a) "set":=⟨o,ho,hx.1⟩
 have ne:∀{b:af},s.heap.objs.size<=b->a≠b:=λ{b} h z=>by
  have:=aQ ho
  lia
 refine wpAny_pyIter_slot hT mI (eV mI hT qhB ?_ (PySem.F.args_set_iter_1 _));unfold Builtin.«frozenset.__iter__»;refine aj (m:=Builtin.Frozenset.slot0 "__iter__" _) (aB ?_);refine aj ?_;unfold Builtin.Frozenset.sizeOf;refine aj (aj (dN ho hd hf (aB (aB ?_))))
 have fin:∀(s2:ah) (fv:ae) (dr:Drawn) (h2:aw),s2={ s with heap:=h2,drawn:=dr }->h2.get? a=some o->
   (Q (.ref h2.objs.size) { s with heap:=h2.push { cls:=.type "set_iterator",data:=.fields #[fv,.int 0 0,.ref a,.int es.size 0,.int ep 0] },drawn:=dr })->
   ak (av prog w) A.in1 (do let e<-setEpoch a;let v<-newFields "set_iterator" [fv,bP 0,.ref a,bP es.size,bP e];ret v)
    (λfin s'=>∃v,fin=PySem.Fin.done (Flow.ret v)/\∃T' r,s'.TypeIs v T'/\typeLookup (.type T') "__next__" = pure (some r)/\Q v s') E s2:=by
  intro s2 fv dr h2 e2 ho2 q2;subst e2;refine aj (wpAny_setEpoch_of (s:={ s with heap:=h2,drawn:=dr }) ho2 hd hf (aj (g7 (aB ⟨_,rfl,"set_iterator",_,⟨_,bz _ rfl,rfl⟩,zL.lookup,q2⟩))))
 refine aj ?_;unfold setDrawn;refine aj (dN ho hd hf (aj (ZJ (aB ?_))));dsimp only;have lo:∀(h2:aw) (x:Obj) (b:af) (ob:Obj),h2.get? b=some ob->(h2.push x).get? b=some ob:=λh2 x b ob e=>aW _ e;split
 .rename_i hc;have hc:(!byT w&&(!t.plain&&decide (es.size > 1)))=true:=hc;refine aj (qa8 es.size (cZ es.size) s _ (5:) λps dr hp=>?_)
  have hz:(ef (λj:Nat=>bP (j:Int)) ps).length<=sizeLine:=by
   have:=hp.length_eq
   simp at this ⊢;rw[this];exact g8 hb
  refine aj (wpAny_newTuple ?_ hz);refine fin _ _ dr _ rfl (lo _ _ _ _ ho) ?_;have s1:(s.heap.push { cls:=.type "tuple",data:=.seq (ef (λj:Nat=>bP (j:Int)) ps).toArray }).objs.size=s.heap.objs.size+1:=eF ..;refine q _ _ dr [_,a,s.heap.objs.size] _ _ (qhE hp) (qkg (ot:={ cls:=.type "tuple",data:=.seq (ef (λj:Nat=>bP (j:Int)) ps).toArray }) _ s.heap.objs.size (ne (1:)) (1:) hd hf rfl hp) ⟨⟨_,bz _ rfl,rfl,rfl⟩,lo _ _ _ _ (lo _ _ _ _ ho),lo _ _ _ _ (bz _ rfl)⟩ (λb ob e=>lo _ _ _ _ (lo _ _ _ _ e)) (1:) λb hb=>?_;simp![aF,eN,or_false]at hb;rcases hb with rfl|rfl|rfl
  .exact .inr (1:)
  .exact .inl rfl
  .exact .inr (ay _)
 .rename_i hc;have hc:¬ (!byT w&&(!t.plain&&decide (es.size > 1)))=true:=hc;refine aj (aB ?_);refine fin s _ s.drawn s.heap rfl ho ?_
  have two:∀b∈[s.heap.objs.size,a],b=a\/s.heap.objs.size<=b:=λb hb=>by
   simp![aF,eN,or_false]at hb;rcases hb with rfl|rfl
   .exact .inr (ay _)
   .exact .inl rfl
  cases hT:byT w with
  |true=>exact q _ _ s.drawn [_,a] _ _ ((qa7 _ es).map _) (qkf _ (ne (ay _)) hd hf hT) ⟨⟨_,bz _ rfl,rfl,rfl⟩,lo _ _ _ _ ho⟩ (λb ob e=>lo _ _ _ _ e) (ay _) two
  |false=>
   rw[hT]at hc hr;refine q _ _ s.drawn [_,a] _ _ (.refl _) (qhD _ (ne (ay _)) hd hf hT ?_ hr) ⟨⟨_,bz _ rfl,rfl,rfl⟩,lo _ _ _ _ ho⟩ (λb ob e=>lo _ _ _ _ e) (ay _) two;simp![fb,lO,aM,dH,decide_eq_true_eq,not_and]at hc
   cases hp:t.plain with
   |true=>exact .inl rfl
   |false=>exact .inr (by have:=hc hp;lia)
end
open PySem.W
section
variable{prog:aJ}{w:aC}{A:aN}{E:PQ}{s:ah}{a:af}{o:Obj}{es:Array (Int×ae)}{ep:Nat}{t:cU}
def qmx{Q:Bool->ah->Prop}(hT:s.TypeIs (.ref a) "set")(h:Q false s):ak (av prog w) A (mJ (.ref a)) Q E s:=by
 unfold mJ;refine aj (wpAny_specialOf hT PySem.F.slot_set_len.lookup ?_);generalize hid:("set.__len__" : String)=id0
 wp_delta
 rw[show splitId id0=some ("set","__len__") from by subst hid;decide+kernel];subst hid;refine aj (wpAny_isInstance (T:="set") (b:=true) hT (by rw[mr];kernel_rfl) ?_);refine mw (λhab=>absurd hab (2:)) (λz=>?_);refine mw (λz=>?_) (λhab=>absurd (3:) hab);exact aj (kj hT (aB h))
def qeh{vs:List ae}{acc:Array ae}(h:ItemsOf (λi v=>vs[i]?=some v) acc vs.length):acc.toList=vs:=by
 refine lN (-h.1:) λi h1 h2=>?_;have h1':i < acc.size:=(-h1:)
 have this:vs[i]?=some acc[i]:=h.2 i acc[i] (c9 h1');rw[bN h2]at this
 simpa using (Option.some.inj this).symm
def qpC{R:List ae->ah->Prop}(hh:A.handled=none)(ho:s.heap.get? a=some o)(hx:o.ExactSet)(hd:o.data=.set es ep t)(hf:t.fits es.size=true)(hr:Rt (!byT w) t)(hb:es.size < eA)
  (q:∀(h':aw) (tk:Nat) (dr:Drawn) (vs:List ae),vs.Perm (es.toList.map (·.2))->(∀b o,s.heap.get? b=some o->h'.get? b=some o)->R vs { s with heap:=h',toks:=tk,drawn:=dr }) :
  ak (av prog w) A (collect (.ref a)) R E s:=by
 unfold collect;refine aj (wpAny_runValue (eW entry_proto_collect' ?_));rw[fj PySem.F.plain_proto_collect _];show ak _ A.in1 (newList [] >>= λl=>again (.builtin "list.__iadd__" ⟨[l,.ref a],[]⟩)) _ _ s;refine aj (g7 (aB ⟨fI mK _,eW entry_list_iadd' ?_⟩));rw[fj mK _];show ak _ A.in1 (mL (.ref s.heap.objs.size) (.ref a) (.ref s.heap.objs.size)) _ _ _;generalize hl:({ cls:=.type "list",data:=.seq ([]:List ae).toArray }:Obj)=l0;have hS1:(s.heap.push l0).get? s.heap.objs.size=some { cls:=.type "list",data:=.seq #[] }:=by subst hl;exact bz _ rfl
 have ho1:(s.heap.push l0).get? a=some o:=aW _ ho;have old1:∀b ob,s.heap.get? b=some ob->(s.heap.push l0).get? b=some ob/\b≠s.heap.objs.size:=λb ob e=>{aW _ e,a9 (aQ e)};have hT1:iM { s with heap:=s.heap.push l0 } (.ref a) "set":=⟨o,ho1,hx.1⟩;have sz1:(s.heap.push l0).objs.size=s.heap.objs.size+1:=eF ..;have hSa:s.heap.objs.size≠a:=λz=>(old1 a o ho).2 z.symm;generalize s.heap.push l0=g1 at hS1 ho1 old1 hT1 sz1;unfold mL;refine aj (kj (T:="set") hT1 ?_);have e1:mM (.ref s.heap.objs.size) (.ref a)=false:=by simp[mM,hSa]
 simp![e1,show(dD "set" == dD "list")=false by decide,show(dD "set" == dD "tuple")=false by decide,lr,bo,if_false];refine aj (qhF ho1 hx hd hf hr hb λit g2 dr fp vs St hp W st old2 nit nfp=>?_);have hS2:=old2 _ _ hS1
 have hSf:s.heap.objs.size∉fp:=λz=>by
  rcases nfp _ z with e|e
  .exact hSa e
  .dsimp only at e;lia
 have hn:vs.length<=sizeLine:=by
  have:=hp.length_eq
  simp at this;rw[this];exact g8 hb
 have key:∀(h:aw) (c1 tk:Nat),St 0 h->(∀b o,b≠s.heap.objs.size->s.heap.get? b=some o->h.get? b=some o)->h.get? s.heap.objs.size=some { cls:=.type "list",data:=.seq #[] c1 }->
   cN (av prog w) A (.builtin "list.extend.loop" ⟨[.ref s.heap.objs.size,.ref it,.ref s.heap.objs.size],[]⟩) (λq' s'=>∃(h':aw) (tk:Nat) (acc':Array ae) (c':Nat),q'=.ok (.ret (.ref s.heap.objs.size))/\s'={ s with heap:=h',toks:=tk,drawn:=dr }/\
    (∀b o,s.heap.get? b=some o->h'.get? b=some o)/\h'.get? s.heap.objs.size=some { cls:=.type "list",dict:=none,data:=.seq acc' c',slots:=#[] }/\acc'.toList=vs) { s with heap:=h,toks:=tk,drawn:=dr }:=by
  intro h c1 tk st' hk hS';refine codeAny_extend_loopS (W A.in1 hh).toS hn s.heap.objs.size hSf _ vs.length 0 _ #[] c1 rfl (aZ _) st' hS' (ItemsOf.nil _) λs' acc' c' hm hS3 hacc=>?_;rw[Moved.eq_with hm];refine{s'.heap,s'.toks,acc',c',rfl,rfl,λb ob e=>hm.heap b ob (λz=>?_) (hk b ob (old1 b ob e).2 e),hS3,qeh hacc};have lt:=aQ e;dsimp only at nit;rcases aF.mp z with z|z
  .lia
  .have:=aU.mp z
   lia
 refine aj (dh (qmx ⟨o,old2 _ _ ho1,hx.1⟩ ?_))
 refine mw (λy=>?_) (λy=>aB ⟨fI mN _,dW (key g2 0 s.toks st (λb ob y e=>old2 b ob (old1 b ob e).1) hS2) λr s' hq=>by
   let(h',tk',acc',c',rfl,rfl,hk',hS',hv):=hq;show ak _ A (load s.heap.objs.size >>= _) _ _ _;refine aj (wpAny_load hS' (aB ?_))
   have:=q h' tk' dr vs hp hk'
   rw[<-hv]at this;exact this⟩)
 refine aj (dw (aj ?_));show ak _ _ (updateSeq s.heap.objs.size (·.push .none) >>= λy=>updateSeq s.heap.objs.size (·.pop)) _ _ _;refine aj (wpAny_updateSeq hS2 rfl ?_);have hS3:=iu (cz (·.push Value.none)) hS2 rfl;refine wpAny_updateSeq (hz:=by seq_fits) hS3 rfl ?_;have hS4:=iu (cz (·.pop)) hS3 rfl;have oth:∀b ob,b≠s.heap.objs.size->g2.get? b=some ob->((g2.update s.heap.objs.size (cz (·.push Value.none))).update s.heap.objs.size (cz (·.pop))).get? b=some ob:=λb ob hb e=>(iy _ _ (cy hb)).trans ((iy _ _ (cy hb)).trans e)
 exact aB ⟨fI mN _,dW (key _ _ s.toks ((W A.in1 hh).frame 0 _ _ st λb hb ob e=>oth b ob (λz=>hSf (z▸hb)) e) (λb ob hb e=>oth b ob hb (old2 b ob (old1 b ob e).1)) hS4) λr s' hq=>by
   let(h',tk',acc',c',rfl,rfl,hk',hS',hv):=hq;show ak _ A (load s.heap.objs.size >>= _) _ _ _;refine aj (wpAny_load hS' (aB ?_))
   have:=q h' tk' dr vs hp hk'
   rw[<-hv]at this;exact this⟩
end
theorem ZK(val:Nat->Int):∀i,(di val i).Nodup
 |0=>List.nodup_nil
 | i+1=>by
  rw[ml];unfold step_dedup;split
  .exact ZK val i
  .rename_i h;rw[lP];refine{ZK val i,by simp,λa ha b hb e=>h ?_};rw[aU.mp hb]at e;rw[iP];exact{a,ha,by simp[e]}
def qmy(ns:List Int)(k:Int):k∈di (λi=>ns.getD i 0) ns.length↔k∈ns:=by
 have e:(cZ ns.length).map (λi=>ns.getD i 0)=ns:=lN (5:) λi h1 h2=>by simp[h2]
 have h:=firstMet_any (λi=>ns.getD i 0) ns.length k;rw[e]at h;have a:∀l:List Int,l.any (· == k)=true↔k∈l:=λl=>by rw[iP];simp
 rw[<-a,h,a]
def qkh{xs ys:List Int}(hy:ys.Nodup)(hm:∀k,k∈ys->k∈xs)(hl:xs.length=ys.length):xs.Perm ys:=by
 have:∀(ys xs:List Int),ys.Nodup->(∀k,k∈ys->k∈xs)->xs.length=ys.length->xs.Perm ys:=by
  intro ys
  induction ys with
  |nil=>intro xs _ _ hl;cases eO.mp hl;exact .refl _
  |cons y ys ih=>
   intro xs hn hm hl;have hy:y∈xs:=hm y (5:);have hp:xs.Perm (y::xs.erase y):=List.perm_cons_erase hy;rw[fL]at hn;refine hp.trans ((ih (xs.erase y) hn.2 (λk hk=>?_) ?_).cons y)
   .have:=(hp.mem_iff (a:=k)).mp (hm k (by simp[hk]))
    rcases aF.mp this with z|z
    .subst z;exact absurd hk hn.1
    .exact z
   .have:=hp.length_eq
    simp at this hl
    lia
 exact this ys xs hy hm hl
end TW
namespace L2
open PySem PySem.Spec PyProof.Rows TW
def qmz(P:aJ)(w:aC)(a:af)(ms:List Int):HO:=.ext λh=>qa6 P w (!byT w) h a (λk=>ms.any (· == k)) ms.length
section
variable{X:Cx}{pins:PP}{Z:St}{H:Hp}{s:ah}
def Inv.drew(I:Inv X pins Z H s)(d:Drawn):Inv X pins Z H { s with drawn:=d }:=⟨I.ok,I.os,I.bare,I.base,I.loc,I.cell,I.free,I.freeC,I.pin,I.hok,I.len⟩
def qcg(hc:X.calm=true):zd X (.type "set") (λvs H Q=>∃p,∃ns:List Int,vs=[.ref p]/\SqL X.K H p (ns.map V.int)/\ns.length < 4000/\∀a,∀ms:List Int,H a=none->ms.Nodup->(∀k,k∈ms↔k∈ns)->Q (.ref a) (upd H a (qmz X.prog X.w a ms))):=by
 intro pins s Z H xs us Q I r h;let(p,ns,rfl,hq,hl,q):=h;let(u,rfl,rx):=yJ r;cases rx;let(its,rv,pl,hz):=I.list hq;have hn:its.length=ns.length:=by have:=rv.length;simp at this;exact this.symm
 have hsz:its.toArray.size=ns.length:=by simp[hn]
 refine qpB (I.ok.hd hc) pl.isList (by simpa using TS.ZD rv) (by rw[hsz];unfold eA;lia) λh' tk S hk=>?_;rw[hsz]at S;have k0:∀b o,s.heap.get? b=some o->h'.get? b=some o:=λb o e=>hk b o (aQ e) e;let(o,es,ep,t,ho,r):=id S;refine{.ref s.heap.objs.size,_,I.laid (t':=tk) k0 (ay _) (show qI X.prog X.w _ _ _ (qmz X.prog X.w s.heap.objs.size _) from{S,⟨o,ho⟩,λh1 h2 z k=>z.to k}),rfl,q _ _ (I.hok.fresh (ay _)) (ZK _ _) (qmy ns)}
def qa9(hc:X.calm=true):zd X (.builtin "sorted") (λvs H Q=>∃a ms,vs=[.ref a]/\H a=some (qmz X.prog X.w a ms)/\ms.Nodup/\∀l (qs:List Int),H l=none->qs.Perm ms->qs.Pairwise (·<=·)->Q (.ref l) (upd H l (.lst (qs.map V.int)))):=by
 intro pins s Z H xs us Q I r h;let(a,ms,rfl,ha,hn,q):=h;let(u,rfl,rx):=yJ r;cases rx;let(S,_):=(show qI X.prog X.w H s.heap a (qmz X.prog X.w a ms) from I.hok a _ ha);let(o,es,ep,t,ho,hx,hd,hel,hm,hb,hf,hz,hr):=S
 have hv:∀v∈es.toList.map (·.2),∃n t,v=Value.int n t:=λv hv=>by let(e,he,rfl):=df.mp hv;let((k,hk,_),_):=hel e he;let(t,ht):=kT hk;exact⟨k,t,ht⟩
 have hsz:ms.length<=sizeLine:=by rw[<-hz];exact g8 hb
 have km:((es.toList.map (·.2)).map TS.nOf).Perm ms:=by refine qkh hn (λk hk=>?_) (by simp[hz]);let(e,he,h1):=(hm k).mp (by rw[iP];exact{k,hk,by simp});let(t,ht):=kT h1;refine df.mpr ⟨e.2,df.mpr ⟨e,he,rfl⟩,?_⟩;rw[ht];rfl
 refine TS.qec λA' hA=>qpC (hA.trans (I.ok.hd hc)) ho hx hd hf hr hb λh' tk dr vs hp hk=>?_;have hv2:∀v∈vs,∃n t,v=Value.int n t:=λv z=>hv v (hp.mem_iff.mp z);have hp2:(vs.map TS.nOf).Perm ms:=(hp.map _).trans km;refine{vs.map TS.nOf,TS.YS hv2,by have:=hp2.length_eq;simp at this;lia,λh2 qs ws e h1 hpq hs old he=>?_}
 have hz2:(qs.map V.int).length<=sizeLine:=by
  have:=(hpq.trans hp2).length_eq
  simp
  lia
 have I2:Inv X pins Z H { s with heap:=h',toks:=tk,drawn:=dr }:=(I.kept (t':=tk) hk).drew dr;refine{.ref h'.objs.size,_,I2.laid (t':=tk) (λb o eb=>old b o eb) (ay _) (show qI X.prog X.w _ _ _ (.lst (qs.map V.int)) from{hz2,_,e,h1,?_}),rfl,q _ _ (I2.hok.fresh (ay _)) (hpq.trans hp2) hs};rw[lI];exact he
end
open PySem.W
variable{X:Cx}
theorem qba{P:aJ}{w:aC}:∀{kvs:List (Key×V)} {vs:List (Key×ae)} {l:List ae},KV kvs vs->l.length=vs.length->(∀(j:Nat) (v:ae),l[j]?=some v->∃k x,vs[j]?=some (k,x)/\(qq P w).is k v=true)->qt (kvs.map λkv=>kV kv.1) l
 |[],vs,l,r,hl,y=>by cases r;cases List.eq_nil_of_length_eq_zero hl;exact .nil
 | p::kvs,vs,l,r,hl,hp=>by
  cases r with
  |@cons y q u vs h t=>
   cases l with
   |nil=>cases hl
   |cons v l=>
    refine .cons ?_ (qba t (-hl:) λj v e=>hp (j+1) v e);let(k,x,e1,e2):=hp 0 v rfl;cases e1;show qF (kV p.1) v;rw[h.1];rcases qv e2 with ⟨i,t,rfl,rfl⟩|⟨z,t,rfl,rfl⟩
    .exact⟨t,rfl⟩
    .exact⟨t,rfl⟩
def qei(hc:X.calm=true):zd X (.type "list") (λxs H Q=>∃p kvs,xs=[.ref p]/\H p=some (.dK kvs)/\∀l,H l=none->Q (.ref l) (upd H l (.lst (kvs.map λkv=>kV kv.1)))):=by intro pins s Z H xs us Q I r h;let(p,kvs,rfl,hp,q):=h;let(u,rfl,rx):=yJ r;cases rx;let(z,hd,vs,rel,dd):=qmh I.hok hp;let(ep,da):=dd.dictAt;have hl:=rel.length;refine kdl_call (kdl_dict (kvs:=vs) (ep:=ep) hd) (I.ok.hd hc) da (1:) λh' tk acc c' kp e it=>?_;refine{.ref s.heap.objs.size,_,I.laid (a:=s.heap.objs.size) (t':=tk) kp (ay _) (show qI X.prog X.w _ h' _ (.lst (kvs.map λkv=>kV kv.1)) from{by rw[aD];exact z,acc.toList,c',qba rel (by rw[bF];exact it.1) λj v e=>it.2 j v (by rw[<-iz];exact e),(-e:)}),rfl,q _ (I.hok.fresh (ay _))}
end L2
namespace DE
open PySem L2
def ex4{α M:Type}{p q:α->M->Prop}{c:Prop}(h:∃a b,p a b/\q a b)(k:∀a b,p a b->q a b->c):c:=let ⟨a,b,x,y⟩:=h;k a b x y
inductive D where
 | non|bl (b:Bool)|int (n:Int)|str (s:Str)|lst (l:List D)|tup (l:List D)|ins (c:Str) (ns:List Str) (l:List D)|exc (C:af) (ns:List Str) (l:List D)|dct (ks:List Key) (l:List D)
 deriving Inhabited
abbrev KC:=Str->Option af
def kvX(ks:List Key)(xs:List V):List (Key×V):=ks.zip xs
mutual
def Rep(U:KC)(G:Hp):D->V->Prop
 |.non,v=>v=.non
 |.bl b,v=>v=.bl b
 |.int n,v=>v=.int n
 |.str s,v=>v=.str s
 |.lst ds,v=>∃a xs,v=.ref a/\G a=some (.lst xs)/\qi U G ds xs
 |.tup ds,v=>∃a xs,v=.ref a/\G a=some (.tup xs)/\qi U G ds xs
 |.ins c ns ds,v=>∃p dx C xs,U c=some C/\v=.ref p/\G p=some (.ins C dx (ns.zip xs))/\xs.length=ns.length/\qi U G ds xs
 |.exc z y x,w=>False
 |.dct ks ds,v=>∃p xs,v=.ref p/\G p=some (.dK (kvX ks xs))/\xs.length=ks.length/\qi U G ds xs
def qi(U:KC)(G:Hp):List D->List V->Prop
 |[],xs=>xs=[]
 | d::ds,xs=>∃x r,xs=x::r/\Rep U G d x/\qi U G ds r
end
mutual
theorem Rep.same{U:KC}{G G':Hp}(e:qo G G'):∀{d:D} {v:V},Rep U G d v->Rep U G' d v
 |.non,v,h=>by simp![Rep]at h ⊢;exact h
 |.bl b,v,h=>by simp![Rep]at h ⊢;exact h
 |.int i,v,h=>by simp![Rep]at h ⊢;exact h
 |.str x,v,h=>by simp![Rep]at h ⊢;exact h
 |.lst ds,v,h=>by simp![Rep]at h ⊢;let(a,xs,rfl,h1,h2):=h;exact{a,xs,rfl,e _ _ h1,qi.same e h2}
 |.tup ds,v,h=>by simp![Rep]at h ⊢;let(a,xs,rfl,h1,h2):=h;exact{a,xs,rfl,e _ _ h1,qi.same e h2}
 |.ins c ns ds,v,h=>by simp![Rep]at h ⊢;let(p,dx,C,xs,hc,rfl,h1,hl,h2):=h;exact{p,dx,C,xs,hc,rfl,e _ _ h1,hl,qi.same e h2}
 |.exc z y w,v,h=>by simp![Rep]at h
 |.dct ks ds,v,h=>by simp![Rep]at h ⊢;let(p,xs,rfl,h1,hl,h2):=h;exact{p,xs,rfl,e _ _ h1,hl,qi.same e h2}
theorem qi.same{U:KC}{G G':Hp}(e:qo G G'):∀{ds:List D} {vs:List V},qi U G ds vs->qi U G' ds vs
 |[],vs,h=>by simp![qi]at h ⊢;exact h
 | d::ds,vs,h=>by simp![qi]at h ⊢;let(x,r,rfl,h1,h2):=h;exact{x,r,rfl,Rep.same e h1,qi.same e h2}
end
section
variable{U:KC}{G G':Hp}
def qi.nil:qi U G [] []:=by simp![qi]
def qi.cons{d:D}{ds:List D}{v:V}{vs:List V}(h:Rep U G d v)(t:qi U G ds vs):qi U G (d::ds) (v::vs):=by simp![qi];exact⟨v,vs,rfl,h,t⟩
theorem qi.len:∀{ds:List D} {vs:List V},qi U G ds vs->ds.length=vs.length
 |[],vs,h=>by simp![qi]at h;subst h;rfl
 | d::ds,vs,h=>by simp![qi]at h;let(x,r,rfl,h1,h2):=h;simp[qi.len h2]
theorem qi.app:∀{ds es:List D} {vs us:List V},qi U G ds vs->qi U G es us->qi U G (ds++es) (vs++us)
 | [],es,vs,us,h,h'=>by simp![qi]at h;subst h;exact h'
 | d::ds,es,vs,us,h,h'=>by simp![qi]at h;let(x,r,rfl,h1,h2):=h;exact qi.cons h1 (qi.app h2 h')
def qi.snoc{ds:List D}{vs:List V}{d:D}{v:V}(h:qi U G ds vs)(h':Rep U G d v):qi U G (ds++[d]) (vs++[v]):=h.app %[h'|0]
theorem qi.drop:∀(n:Nat) {ds:List D} {vs:List V},qi U G ds vs->qi U G (ds.drop n) (vs.drop n)
 |0,z,y,h=>h
 | n+1,[],vs,h=>by simp![qi]at h;subst h;exact .nil
 | n+1,d::ds,vs,h=>by simp![qi]at h;let(x,r,rfl,h1,h2):=h;exact qi.drop n h2
theorem qi.take:∀(n:Nat) {ds:List D} {vs:List V},qi U G ds vs->qi U G (ds.take n) (vs.take n)
 |0,z,y,h=>(-qi.nil:)
 | n+1,[],vs,h=>by simp![qi]at h;subst h;exact .nil
 | n+1,d::ds,vs,h=>by simp![qi]at h;let(x,r,rfl,h1,h2):=h;exact qi.cons h1 (qi.take n h2)
theorem qi.atD:∀{ds:List D} {vs:List V} {i:Nat} {d:D},qi U G ds vs->ds[i]?=some d->∃v,vs[i]?=some v/\Rep U G d v
 |[],vs,i,d,h,e=>by simp at e
 | d::ds,vs,0,d',h,e=>by simp![qi]at h;let(x,r,rfl,h1,h2):=h;simp at e;subst e;exact⟨x,rfl,h1⟩
 | d::ds,vs,i+1,d',h,e=>by simp![qi]at h;let(x,r,rfl,h1,h2):=h;let(v',e1,e2):=qi.atD (i:=i) h2 (-e:);exact{v',(-e1:),e2}
theorem qi.set:∀{ds:List D} {vs:List V} (i:Nat) {d:D} {v:V},qi U G ds vs->Rep U G d v->qi U G (ds.set i d) (vs.set i v)
 | [],vs,i,d,v,h,h'=>by simp![qi]at h;subst h;exact .nil
 | d::ds,vs,0,d',v,h,h'=>by simp![qi]at h;let(x,r,rfl,h1,h2):=h;exact qi.cons h' h2
 | d::ds,vs,i+1,d',v,h,h'=>by simp![qi]at h;let(x,r,rfl,h1,h2):=h;exact qi.cons h1 (qi.set i h2 h')
end
inductive Sl where
 | no|val (d:D)|own (l:List D)|bor (l:List D)|scr (l:List D)|dic (ks:List Key) (ds:List D)
def Sl.isOwn:Sl->Bool
 |.own z=>true
 |.dic ..=>true
 |_=>false
abbrev Env:=List Sl
def SlR(U:KC)(K:Frag)(G H Hv:Hp):Sl->Option (Option V)->Prop
 |.no,z=>True
 |.val d,o=>∃v,o=some (some v)/\Rep U G d v
 |.own ds,o=>∃a xs,o=some (some (.ref a))/\H a=some (.lst xs)/\Hv a=none/\G a=none/\qi U G ds xs
 |.bor ds,o=>∃a xs,o=some (some (.ref a))/\Hv a=some (.lst xs)/\qi U G ds xs
 |.scr ds,o=>∃a xs,o=some (some (.ref a))/\SqL K Hv a xs/\qi U G ds xs
 |.dic ks ds,o=>∃a xs,o=some (some (.ref a))/\H a=some (.dK (kvX ks xs))/\Hv a=none/\G a=none/\xs.length=ks.length/\qi U G ds xs
def qch(N:Env)(Z:St)(a:af):Prop:=∃(i:Nat) (s:Sl),N[i]?=some s/\s.isOwn=true/\Z[i]?=some (some (.ref a))
structure ER(U:KC)(K:Frag)(Gv Hv G H:Hp)(N:Env)(Z:St):Prop where
 len:N.length=Z.length
 sub:qo G H
 base:qo Hv H
 g0:qo Gv G
 fresh:∀a o,G a=some o->(∃o',Gv a=some o')\/Hv a=none
 sl:∀(i:Nat) (s:Sl),N[i]?=some s->SlR U K G H Hv s Z[i]?
 ap:∀(i j:Nat) (a:af) (s t:Sl),N[i]?=some s->s.isOwn=true->N[j]?=some t->t.isOwn=true->Z[i]?=some (some (.ref a))->Z[j]?=some (some (.ref a))->i=j
structure Po(U:KC)(K:Frag)(Gv Hv:Hp)(Z:St)(G H:Hp)(N:Env)(G' H':Hp)(N':Env):Prop where
 er:ER U K Gv Hv G' H' N' Z
 hs:qo H H'
 gs:qo G G'
 new:∀a o,G' a=some o->(∃o',G a=some o')\/H a=none\/qch N Z a
 fz:∀(i:Nat) (s:Sl),N'[i]?=some s->s.isOwn=true->N[i]?=some s
theorem qo.none{H H':Hp}(e:qo H H'){a:af}(h:H' a=none):H a=none:=by
 cases q:H a with
 |none=>rfl
 |some o=>rw[e a o q]at h;cases h
section
variable{U:KC}{K:Frag}{Gv Hv G H G' H' G'' H'':Hp}{N N' N'':Env}{Z:St}
def Po.refl(h:ER U K Gv Hv G H N Z):Po U K Gv Hv Z G H N G H N:={h,λz z e=>e,λz z e=>e,λz o e=>.inl ⟨o,e⟩,λz z e z=>e}
def Po.trans(a:Po U K Gv Hv Z G H N G' H' N')(b:Po U K Gv Hv Z G' H' N' G'' H'' N''):Po U K Gv Hv Z G H N G'' H'' N'':=
 ⟨b.er,λc o e=>b.hs c o (a.hs c o e),λc o e=>b.gs c o (a.gs c o e),λc o e=>by
  rcases b.new c o e with ⟨o',z⟩|z|⟨i,l,z1,z0,z2⟩
  .exact a.new c o' z
  .exact .inr (.inl (qo.none a.hs z))
  .exact .inr (.inr ⟨i,l,a.fz i l z1 z0,z0,z2⟩),λi l e z=>a.fz i l (b.fz i l e z) z⟩
theorem SlR.grow(hs:qo H H')(gs:qo G G')(nw:∀a u,H a=some u->Hv a=none->G a=none->G' a=none){s:Sl}{o:Option (Option V)}(h:SlR U K G H Hv s o):SlR U K G' H' Hv s o:=by
 cases s with
 |no=>trivial
 |val d=>let(v,e,r):=h;exact{v,e,r.same gs}
 |own ds=>let(a,xs,e,h1,h2,h3,h4):=h;exact{a,xs,e,hs _ _ h1,h2,nw a _ h1 h2 h3,h4.same gs}
 |dic ks ds=>let(a,xs,e,h1,h2,h3,h5,h4):=h;exact{a,xs,e,hs _ _ h1,h2,nw a _ h1 h2 h3,h5,h4.same gs}
 |bor ds=>let(a,xs,e,h1,h4):=h;exact{a,xs,e,h1,h4.same gs}
 |scr ds=>let(a,xs,e,h1,h4):=h;exact{a,xs,e,h1,h4.same gs}
theorem SlR.ow{s:Sl}{o:Option (Option V)}(w:s.isOwn=true)(h:SlR U K G H Hv s o):∃a u,o=some (some (.ref a))/\H a=some u/\Hv a=none/\G a=none:=by
 cases s with
 |own ds=>let(a,xs,e,h1,h2,h3,h4):=h;exact{a,_,e,h1,h2,h3}
 |dic ks ds=>let(a,xs,e,h1,h2,h3,h5,h4):=h;exact{a,_,e,h1,h2,h3}
 |_=>cases w
theorem SlR.mv{s:Sl}{o:Option (Option V)}(gs:qo G G')(hs:s.isOwn=true->∀a u,o=some (some (.ref a))->H a=some u->G a=none->H' a=some u/\G' a=none)(h:SlR U K G H Hv s o):SlR U K G' H' Hv s o:=by
 cases s with
 |no=>trivial
 |val d=>let(v,e,r):=h;exact{v,e,r.same gs}
 |own ds=>let(a,xs,e,h1,h2,h3,h4):=h;let(z1,z2):=hs rfl a _ e h1 h3;exact{a,xs,e,z1,h2,z2,h4.same gs}
 |bor ds=>let(a,xs,e,h1,h4):=h;exact{a,xs,e,h1,h4.same gs}
 |scr ds=>let(a,xs,e,h1,h4):=h;exact{a,xs,e,h1,h4.same gs}
 |dic ks ds=>let(a,xs,e,h1,h2,h3,h5,h4):=h;let(z1,z2):=hs rfl a _ e h1 h3;exact{a,xs,e,z1,h2,z2,h5,h4.same gs}
def Po.more(h:ER U K Gv Hv G H N Z)(hs:qo H H')(gs:qo G G')(sub:qo G' H')(new:∀a o,G' a=some o->(∃o',G a=some o')\/H a=none):Po U K Gv Hv Z G H N G' H' N:=by
 refine{{h.len,sub,λb o e=>hs b o (h.base b o e),λb o e=>gs b o (h.g0 b o e),λa o e=>?_,λi s e=>(h.sl i s e).grow hs gs λa xs h1 h2 h3=>?_,h.ap},hs,gs,λa o e=>?_,λy y e y=>e}
 .rcases new a o e with ⟨o',z⟩|z
  .exact h.fresh a o' z
  .exact .inr (qo.none h.base z)
 .cases q:G' a with
  |none=>rfl
  |some o=>
   rcases new a o q with ⟨o',z⟩|z
   .rw[h3]at z;cases z
   .rw[h1]at z;cases z
 .rcases new a o e with z|z
  .exact .inl z
  .exact .inr (.inl z)
def Po.room(h:ER U K Gv Hv G H N Z)(hs:qo H H'):Po U K Gv Hv Z G H N G H' N:=
 Po.more h hs (λz z e=>e) (λb o e=>hs b o (h.sub b o e)) λz o e=>.inl ⟨o,e⟩
def Po.lay(h:ER U K Gv Hv G H N Z){a:af}{o:HO}(ha:H a=none):Po U K Gv Hv Z G H N (upd G a o) (upd H a o) N:=by
 have ga:G a=none:=qo.none h.sub ha;refine Po.more h (qo.upd ha) (qo.upd ga) (λb u e=>?_) λb u e=>?_
 .by_cases hb:b=a
  .subst hb;rw[qe]at e ⊢;exact e
  .rw[qd hb]at e ⊢;exact h.sub b u e
 .by_cases hb:b=a
  .subst hb;exact .inr ha
  .rw[qd hb]at e;exact .inl ⟨u,e⟩
end
inductive Rv where
 | val (d:D)|tmp (l:List D)|cell (l:List D)|scr (l:List D)
def RvR(U:KC)(K:Frag)(Hv Hb G H:Hp)(N:Env)(Z:St):Rv->V->Prop
 |.val d,v=>Rep U G d v
 |.tmp ds,v=>∃a xs,v=.ref a/\H a=some (.lst xs)/\Hb a=none/\Hv a=none/\G a=none/\¬ qch N Z a/\qi U G ds xs
 |.cell ds,v=>∃a xs,v=.ref a/\H a=some (.lst xs)/\qi U G ds xs
 |.scr ds,v=>∃a xs,v=.ref a/\SqL K H a xs/\qi U G ds xs
section
variable{U:KC}{K:Frag}{Gv Hv Hb G H G' H':Hp}{N N':Env}{Z:St}
theorem RvR.keep{r:Rv}{v:V}(h:RvR U K Hv Hb G H N Z r v)(p:Po U K Gv Hv Z G H N G' H' N'):RvR U K Hv Hb G' H' N' Z r v:=by
 cases r with
 |val d=>exact Rep.same p.gs h
 |tmp ds=>
  let(a,xs,rfl,h1,h2,h3,h4,h5,h6):=h;refine{a,xs,rfl,p.hs _ _ h1,h2,h3,?_,λ⟨i,l,z1,z0,z2⟩=>h5 {i,l,p.fz i l z1 z0,z0,z2},h6.same p.gs}
  cases q:G' a with
  |none=>rfl
  |some o=>
   rcases p.new a o q with ⟨o',z⟩|z|z
   .rw[h4]at z;cases z
   .rw[h1]at z;cases z
   .exact absurd z h5
 |cell ds=>let(a,xs,rfl,h1,h6):=h;exact{a,xs,rfl,p.hs _ _ h1,h6.same p.gs}
 |scr ds=>let(a,xs,rfl,h1,h6):=h;exact{a,xs,rfl,p.hs.seq h1,h6.same p.gs}
theorem RvR.back{Hc:Hp}{r:Rv}{v:V}(h:RvR U K Hv Hc G H N Z r v)(e:qo Hb Hc):RvR U K Hv Hb G H N Z r v:=by
 cases r with
 |val d=>exact h
 |tmp ds=>let(a,xs,rfl,h1,h2,h3,h4,h5,h6):=h;exact{a,xs,rfl,h1,qo.none e h2,h3,h4,h5,h6}
 |cell ds=>exact h
 |scr ds=>exact h
def Rv.list?:Rv->Option (List D)
 |.val (.lst l)=>some l
 |.tmp l=>some l
 |.cell l=>some l
 |.scr l=>some l
 |_=>none
def Rv.plain?:Rv->Option (List D)
 |.val (.lst l)=>some l
 |.tmp l=>some l
 |.cell l=>some l
 |_=>none
theorem RvR.plain(er:ER U K Gv Hv G H N Z){r:Rv}{v:V}{l:List D}(h:RvR U K Hv Hb G H N Z r v)(e:r.plain?=some l):∃a xs,v=.ref a/\H a=some (.lst xs)/\qi U G l xs:=by
 cases r with
 |val d=>
  cases d<;>simp![Rv.plain?]at e<;>try (cases e)
  simp![RvR,Rep]at h;let(a,xs,rfl,h1,h2):=h;exact{a,xs,rfl,er.sub _ _ h1,h2}
 |tmp ds=>simp![Rv.plain?]at e;cases e;let(a,xs,rfl,h1,_,_,_,_,h6):=h;exact⟨a,xs,rfl,h1,h6⟩
 |cell ds=>simp![Rv.plain?]at e;cases e;exact h
 |scr ds=>simp![Rv.plain?]at e;cases e
theorem RvR.list(er:ER U K Gv Hv G H N Z){r:Rv}{v:V}{l:List D}(h:RvR U K Hv Hb G H N Z r v)(e:r.list?=some l):∃a xs,v=.ref a/\SqL K H a xs/\qi U G l xs:=by
 cases r with
 |scr ds=>simp![Rv.list?]at e;cases e;exact h
 |val d=>
  have e':(Rv.val d).plain?=some l:=by cases d<;>simp![Rv.list?]at e<;>first|(cases e;rfl)|cases e
  let(a,xs,h1,h2,h3):=h.plain er e';exact{a,xs,h1,SqL.of h2,h3}
 |tmp ds=>let(a,xs,h1,h2,h3):=h.plain er (l:=l) e;exact{a,xs,h1,SqL.of h2,h3}
 |cell ds=>let(a,xs,h1,h2,h3):=h.plain er (l:=l) e;exact{a,xs,h1,SqL.of h2,h3}
def Po.freeze{a:af}{xs:List V}{G1 H1:Hp}{N1:Env}(p:Po U K Gv Hv Z G H N G1 H1 N1)(h1:H1 a=some (.lst xs))(h2:H a=none)(h3:Hv a=none)(h4:G1 a=none)(h5:¬ qch N1 Z a):Po U K Gv Hv Z G H N (upd G1 a (.lst xs)) H1 N1:=by
 have gs:qo G1 (upd G1 a (.lst xs)):=qo.upd h4;have er:=p.er;refine{{er.len,λb u e=>?_,er.base,λb o e=>gs b o (er.g0 b o e),λb o e=>?_,λi s e=>?_,er.ap},p.hs,λb o e=>gs b o (p.gs b o e),λb o e=>?_,p.fz}
 .by_cases hb:b=a
  .subst hb;rw[qe]at e;cases e;exact h1
  .rw[qd hb]at e;exact er.sub b u e
 .by_cases hb:b=a
  .subst hb;exact .inr h3
  .rw[qd hb]at e;exact er.fresh b o e
 .exact(er.sl i s e).mv gs λw b u e1 e2 e3=>{e2,by have hb:b≠a:=λy=>h5 ⟨i,s,e,w,by rw[<-y];exact e1⟩;rw[qd hb];exact e3}
 .by_cases hb:b=a
  .subst hb;exact .inr (.inl h2)
  .rw[qd hb]at e;exact p.new b o e
def ER.frz{i:Nat}{s:Sl}{a:af}{u:HO}{d:D}(h:ER U K Gv Hv G H N Z)(e:N[i]?=some s)(w:s.isOwn=true)(z:Z[i]?=some (some (.ref a)))(h1:H a=some u)(h2:Hv a=none)(h3:G a=none)(rp:Rep U (upd G a u) d (.ref a)) :
  Po U K Gv Hv Z G H N (upd G a u) H (N.set i (.val d)):=by
 have gs:qo G (upd G a u):=qo.upd h3;have hi:i < N.length:=(bE.mp e).1
 have f:∀{j:Nat} {t:Sl},(N.set i (.val d))[j]?=some t->t.isOwn=true->N[j]?=some t:=λ{j t} q y=>by
  by_cases hj:i=j
  .subst hj;rw[dj hi]at q;cases q;cases y
  .rw[b9 hj]at q;exact q
 refine{{by rw[e8];exact h.len,λb v q=>?_,h.base,λb o q=>gs b o (h.g0 b o q),λb o q=>?_,λj t q=>?_,λj k b m n q1 y1 q2 y2=>h.ap j k b m n (f q1 y1) y1 (f q2 y2) y2},λr r q=>q,gs,λb o q=>?_,λj m q y=>f q y}
 .by_cases hb:b=a
  .subst hb;rw[qe]at q;cases q;exact h1
  .rw[qd hb]at q;exact h.sub b v q
 .by_cases hb:b=a
  .subst hb;exact .inr h2
  .rw[qd hb]at q;exact h.fresh b o q
 .by_cases hj:i=j
  .subst hj;rw[dj hi]at q;cases q;exact{_,z,rp}
  .rw[b9 hj]at q
   exact(h.sl j t q).mv gs λy b v e1 e2 e3=>{e2,by have hb:b≠a:=λx=>hj (h.ap i j a s t e w q y z (by rw[<-x];exact e1));rw[qd hb];exact e3}
 .by_cases hb:b=a
  .subst hb;exact .inr (.inr ⟨i,s,e,w,z⟩)
  .rw[qd hb]at q;exact .inl ⟨o,q⟩
def ER.froze{i:Nat}{l:List D}(h:ER U K Gv Hv G H N Z)(e:N[i]?=some (.own l)):∃a xs,Z[i]?=some (some (.ref a))/\Po U K Gv Hv Z G H N (upd G a (.lst xs)) H (N.set i (.val (.lst l)))/\Rep U (upd G a (.lst xs)) (.lst l) (.ref a):=by
 let(a,xs,z,h1,h2,h3,h4):=h.sl i _ e;have rp:Rep U (upd G a (.lst xs)) (.lst l) (.ref a):=by simp![Rep];exact{a,xs,rfl,qe,h4.same (qo.upd h3)}
 exact{a,xs,z,h.frz e rfl z h1 h2 h3 rp,rp}
def ER.frozeD{i:Nat}{ks:List Key}{l:List D}(h:ER U K Gv Hv G H N Z)(e:N[i]?=some (.dic ks l)):∃a u,Z[i]?=some (some (.ref a))/\Po U K Gv Hv Z G H N (upd G a u) H (N.set i (.val (.dct ks l)))/\Rep U (upd G a u) (.dct ks l) (.ref a):=by
 let(a,xs,z,h1,h2,h3,h5,h4):=h.sl i _ e;have rp:Rep U (upd G a (.dK (kvX ks xs))) (.dct ks l) (.ref a):=by simp![Rep];exact{a,xs,rfl,qe,h5,h4.same (qo.upd h3)}
 exact{a,_,z,h.frz e rfl z h1 h2 h3 rp,rp}
def ER.setVal{i:Nat}{d:D}{v:V}(h:ER U K Gv Hv G H N Z)(r:Rep U G d v):ER U K Gv Hv G H (N.set i (.val d)) (Z.set i (some v)):=by
 refine{by rw[e8,e8];exact h.len,h.sub,h.base,h.g0,h.fresh,λj s q=>?_,λj k b m n q1 y1 q2 y2 q3 q4=>?_}
 .by_cases hj:i=j
  .subst hj;have hi:i < N.length:=by simpa using (bE.mp q).1
   rw[dj hi]at q;cases q;exact{v,by rw[dj (by rw[<-h.len];exact hi)],r}
  .rw[b9 hj]at q ⊢;exact h.sl j s q
 .have f:∀{j:Nat} {m:Sl},(N.set i (.val d))[j]?=some m->m.isOwn=true->i≠j/\N[j]?=some m:=λ{j m} q y=>by
   by_cases hj:i=j
   .subst hj;have hi:i < N.length:=by simpa using (bE.mp q).1
    rw[dj hi]at q;cases q;cases y
   .rw[b9 hj]at q;exact⟨hj,q⟩
  let(n1,e1):=f q1 y1;let(n2,e2):=f q2 y2;rw[b9 n1]at q3;rw[b9 n2]at q4;exact h.ap j k b m n e1 y1 e2 y2 q3 q4
def ER.setO{i:Nat}{t:Sl}{a:af}(h:ER U K Gv Hv G H N Z)(w:t.isOwn=true)(r:SlR U K G H Hv t (some (some (.ref a))))(h4:¬ qch N Z a):ER U K Gv Hv G H (N.set i t) (Z.set i (some (.ref a))):=by
 have f:∀{j:Nat} {m:Sl},(N.set i t)[j]?=some m->i≠j->N[j]?=some m:=λ{j m} q hj=>by rw[b9 hj]at q;exact q
 refine{by rw[e8,e8];exact h.len,h.sub,h.base,h.g0,h.fresh,λj s q=>?_,λj k b m n q1 y1 q2 y2 q3 q4=>?_}
 .by_cases hj:i=j
  .subst hj;have hi:i < N.length:=by simpa using (bE.mp q).1
   rw[dj hi]at q;cases q;rw[dj (by rw[<-h.len];exact hi)];exact r
  .rw[b9 hj]at q ⊢;exact h.sl j s q
 .by_cases hj:i=j
  .by_cases hk:i=k
   .lia
   .subst hj;have hi:i < Z.length:=by simpa using (bE.mp q3).1
    rw[dj hi]at q3;rw[b9 hk]at q4;cases q3;exact absurd ⟨k,n,f q2 hk,y2,q4⟩ h4
  .by_cases hk:i=k
   .subst hk;have hi:i < Z.length:=by simpa using (bE.mp q4).1
    rw[dj hi]at q4;rw[b9 hj]at q3;cases q4;exact absurd ⟨j,m,f q1 hj,y1,q3⟩ h4
   .rw[b9 hj]at q3;rw[b9 hk]at q4;exact h.ap j k b m n (f q1 hj) y1 (f q2 hk) y2 q3 q4
def ER.setOwn{i:Nat}{l:List D}{a:af}{xs:List V}(h:ER U K Gv Hv G H N Z)(h1:H a=some (.lst xs))(h2:Hv a=none)(h3:G a=none)(h4:¬ qch N Z a)(r:qi U G l xs):ER U K Gv Hv G H (N.set i (.own l)) (Z.set i (some (.ref a))):=
 h.setO rfl ⟨a,xs,rfl,h1,h2,h3,r⟩ h4
def ER.wr{i:Nat}{s t:Sl}{a:af}{u:HO}(h:ER U K Gv Hv G H N Z)(e:N[i]?=some s)(w:s.isOwn=true)(z:Z[i]?=some (some (.ref a)))(y:t.isOwn=true)(r:Hv a=none->G a=none->SlR U K G (upd H a u) Hv t (some (some (.ref a)))):ER U K Gv Hv G (upd H a u) (N.set i t) Z:=by
 let(a',o,z',h1,h2,h3):=(h.sl i _ e).ow w;have ea:a'=a:=by rw[z']at z;injection z with z;injection z with z;injection z
 subst ea;have hi:i < N.length:=(bE.mp e).1
 have f:∀{j:Nat} {n:Sl},(N.set i t)[j]?=some n->n.isOwn=true->∃n',N[j]?=some n'/\n'.isOwn=true:=λ{j n} q x=>by
  by_cases hj:i=j
  .subst hj;exact⟨s,e,w⟩
  .rw[b9 hj]at q;exact⟨n,q,x⟩
 refine{by rw[e8];exact h.len,λb v q=>?_,λb v q=>?_,h.g0,h.fresh,λj n q=>?_,λj k b m n q1 x1 q2 x2=>?_}
 .have hb:b≠a':=λx=>by rw[x,h3]at q;cases q
  rw[qd hb];exact h.sub b v q
 .have hb:b≠a':=λx=>by rw[x,h2]at q;cases q
  rw[qd hb];exact h.base b v q
 .by_cases hj:i=j
  .subst hj;rw[dj hi]at q;cases q;rw[z'];exact r h2 h3
  .rw[b9 hj]at q;refine(h.sl j n q).mv (λp p x=>x) λx b v e1 e2 e3=>{?_,e3};have hb:b≠a':=λk=>hj (h.ap i j a' s n e w q x z' (by rw[<-k];exact e1));rw[qd hb];exact e2
 .let(_,e1,x3):=f q1 x1;let(_,e2,x4):=f q2 x2;exact h.ap j k b _ _ e1 x3 e2 x4
def ER.write{i:Nat}{l m:List D}{a:af}{ys:List V}(h:ER U K Gv Hv G H N Z)(e:N[i]?=some (.own l))(z:Z[i]?=some (some (.ref a)))(r:qi U G m ys):ER U K Gv Hv G (upd H a (.lst ys)) (N.set i (.own m)) Z:=
 h.wr e rfl z rfl λh2 h3=>⟨a,ys,rfl,qe,h2,h3,r⟩
end
inductive Sk where
 | lst|tup|str
def qhG(s:Str):List D:=s.cps.toList.map λc=>D.str ⟨#[c]⟩
inductive R(α:Type) where
 | ok (a:α)|exc (c:af) (l:List (Str×D))|no
def R.th{α M:Type}:R α->(α->R M)->R M
 |.ok a,f=>f a
 |.exc c l,z=>.exc c l
 |.no,z=>.no
def noX{α:Type}:R α->R α
 |.ok a=>.ok a
 |_=>.no
def R.of{α:Type}:Option α->R α
 |some a=>.ok a
 |none=>.no
mutual
def toP:D->Option eu
 |.non=>some .none
 |.bl b=>some (.bool b)
 |.int n=>some (.int n)
 |.str s=>some (.str s)
 |.lst l=>(qeC l).map .list
 |.tup l=>(qeC l).map .tuple
 |.ins ..=>none
 |.exc ..=>none
 |.dct ..=>none
def qeC:List D->Option (List eu)
 |[]=>some []
 | d::l=>(toP d).bind λp=>(qeC l).map (p :: ·)
end
def Rv.data:Rv->D
 |.val d=>d
 |.tmp l=>.lst l
 |.cell l=>.lst l
 |.scr l=>.lst l
inductive Ar where
 | val (d:D)|bor (l:List D)|scr (l:List D)
structure Xs where
 xa:Str->af:=λ_=>0
 xn:Str->Option (List Str):=λ_=>none
 xs:af->Str->Option Bool:=λ_ _=>none
 xg:af->Str->Bool:=λ_ _=>false
 xt:List Str:=[]
structure Cs extends Xs where
 tab:List Str
 fld:Str->Str->Bool
 mt:Str->Str->Option Str
 sub:Str->Str->Option Bool
def Cs.non:Cs:={ tab:=[],fld:=λz z=>false,mt:=λz z=>none,sub:=λz z=>none }
structure Ct where
 N:List Str
 sc:bw
 tab:List Str
 gl:Str->Option D
 cl:Str->List Ar->R Rv
 cs:Cs
 nw:Str->List Ar->R Rv
 z:Bool:=false
 x:Bool:=true
 y:Bool:=true
def qeD:List Str->Str->Option Nat
 |[],z=>none
 | y::r,x=>if y=x then some 0 else (qeD r x).map (· + 1)
def qmA(sc:bw)(x:Str):Bool:=match sc.names.lookup x with
 |some .local=>true
 |some .cell=>true
 |some .free=>true
 |_=>false
def qmB(sc:bw)(x:Str):Bool:=match sc.names.lookup x with
 |some .local=>true
 |some .cell=>true
 |_=>false
def glB(sc:bw)(x:Str):Bool:=sc.names.lookup x == some .globalImplicit
def jM(x:Str):Bool:=!(x == ("__debug__" : Str))&&!(x == ("__classdict__" : Str))&&!(x == ("__name__" : Str))
def oif{α:Type}(c:Bool)(a:Option α):Option α:=match c with
 |true=>a
 |false=>none
def qbZ(L:Ct)(x:Str):Option Nat:=oif (jM x&&qmA L.sc x) (qeD L.N x)
def Rv.int?:Rv->Option Int
 |.val (.int i)=>some i
 |_=>none
def Rv.str?:Rv->Option Str
 |.val (.str i)=>some i
 |_=>none
def Rv.bl?:Rv->Option Bool
 |.val (.bl i)=>some i
 |_=>none
def Rv.tup?:Rv->Option (List D)
 |.val (.tup i)=>some i
 |_=>none
def Qz(i j:Int):Bool:=(decide (-(2 ^ 64) < i)&&decide (i < 2 ^ 64))||(decide (-(2 ^ 64) < j)&&decide (j < 2 ^ 64))
def int2(x y:Rv)(f:Int->Int->R Rv):R Rv:=match x.int?,y.int? with
 |some i,some j=>f i j
 |z,w=>.no
def qpD(x y:Rv):R Rv:=match x.int?,y.int? with
 |some i,some j=>.ok (.val (.int (i+j)))
 |z,w=>match x.str?,y.str? with
  |some a,some b=>if a.length+b.length<=sizeLine then .ok (.val (.str (a++b))) else .no
  |z,w=>match x.plain?,y.plain? with
   |some l,some m=>if l.length+m.length<=sizeLine then .ok (.tmp (l++m)) else .no
   |z,w=>.no
def qpE(x y:Rv):R Rv:=match x.int?,y.int? with
 |some i,some j=>if Qz i j=true then .ok (.val (.int (i * j))) else .no
 |z,w=>.no
def QO(op:cP)(x y:Rv):R Rv:=match op with
 |.Add=>qpD x y
 |.Sub=>int2 x y λi j=>.ok (.val (.int (i - j)))
 |.Mult=>qpE x y
 |.FloorDiv=>int2 x y λi j=>if 0 < j/\j < 1073741824 then .ok (.val (.int (i / j))) else if j < 0/\-1073741824 < j then .ok (.val (.int (i.fdiv j))) else .no
 |.Mod=>int2 x y λi j=>if 0 < j then .ok (.val (.int (i % j))) else if j < 0 then .ok (.val (.int (i.fmod j))) else .no
 |.Pow=>int2 x y λi j=>if 0<=j/\j<=1000000/\i.natAbs < 2 ^ 64 then .ok (.val (.int (i ^ j.toNat))) else .no
 |_=>.no
def eqD(x y:D):Option Bool:=match toP x,toP y with
 |some p,some q=>if bJ p&&bJ q then some (cg p q) else none
 |z,w=>none
def QA:D->Bool
 |.non=>true
 |.bl z=>true
 |.int z=>true
 |.str z=>true
 |_=>false
def seqD(r:Rv):Option (List D):=match r.tup? with
 |some l=>some l
 |none=>r.list?
def flV:D->V
 |.bl b=>.bl b
 |.int n=>.int n
 |.str s=>.str s
 |_=>.non
def inD(x:D)(l:List D):Option Bool:=if (QA x&&l.all QA)=true then some (inV (flV x) (l.map flV)) else none
def qlq(x y:Rv)(f:Int->Int->Bool):Option Bool:=match x.int?,y.int? with
 |some i,some j=>some (f i j)
 |z,w=>none
def qlr(a b:Str):Bool:=!(kx b a 0 b.length 1).isEmpty
def qgQ(x y:Rv):Option Bool:=match x.str?,y.str? with
 |some a,some b=>some (qlr a b)
 |z,w=>(seqD y).bind (inD x.data)
def qbb:List D->Option (List Int)
 |[]=>some []
 | .int i::l=>(qbb l).map (i :: ·)
 |_=>none
def ltD(x y:Rv):Option Bool:=qlq x y λi j=>decide (i < j)
def keyD:Rv->Option Key
 |.val (.int n)=>some (.inl n)
 |.val (.str z)=>some (.inr z)
 |_=>none
def QP(ks:List Key)(k:Key):Bool:=ks.any λa=>decide (a=k)
def inK(x y:Rv):Option Bool:=match y with
 |.val (.dct ks z)=>(keyD x).map (QP ks)
 |_=>qgQ x y
def Yo(op:aY)(x y:Rv):Option Bool:=match op with
 |.Eq=>eqD x.data y.data
 |.NotEq=>(eqD x.data y.data).map (!·)
 |.Lt=>ltD x y
 |.LtE=>qlq x y λi j=>decide (i<=j)
 |.Gt=>qlq x y λi j=>decide (j < i)
 |.GtE=>qlq x y λi j=>decide (j<=i)
 |.Is=>none
 |.IsNot=>none
 |.In=>inK x y
 |.NotIn=>(qgQ x y).map (!·)
def qro(x y:Rv):R Rv:=.no
def idxD(x y:Rv):R Rv:=match y.int? with
 |some i=>(match x.str? with
  |some z=>if z.length<=sizeLine then (match atI z.cps.toList i with |some c=>.ok (.val (.str ⟨#[c]⟩)) |none=>.no) else .no
  |none=>match seqD x with
   |some l=>(match atI l i with |some d=>.ok (.val d) |none=>.no)
   |none=>.no)
 |none=>qro x y
def qaB(l:List D)(lo hi:Option Int):List D:=(l.drop (HT.sIx l.length 0 lo)).take (HT.sIx l.length l.length hi - HT.sIx l.length 0 lo)
def sliceD(r:Rv)(lo hi:Option Int):R Rv:=match r.str? with
 |some z=>.no
 |none=>(R.of r.list?).th λl=>.ok (.tmp (qaB l lo hi))
def truthD(r:Rv):Option Bool:=match r with
 |.val .non=>some false
 |.val (.bl b)=>some b
 |.val (.int i)=>some (i != 0)
 |.val (.str s)=>if s.length<=sizeLine then some ((s.length:Int) != 0) else none
 |r=>(seqD r).map λl=>!l.isEmpty
def qhH(cs:Cs)(r:Rv)(t:Str):Option Bool:=match r with
 |.val (.ins c z y)=>cs.sub c t
 |_=>none
def qfs(cs:Cs)(r:Rv)(x:Str):Option D:=match r with
 |.val (.ins c ns ds)=>if cs.fld c x then (ns.zip ds).lookup x else none
 |_=>none
def mtD(cs:Cs)(r:Rv)(x:Str):Option Str:=match r with
 |.val (.ins c ns z)=>if ns.contains x then none else cs.mt c x
 |_=>none
def qhI:List D->Option (List Bool)
 |[]=>some []
 | .bl i::l=>(qhI l).map (i :: ·)
 |_=>none
def ifX{α:Type}(b:Bool)(r:R α):R α:=if b=true then r else noX r
def qbc:ag->Bool
 |.Constant (.str z) y x=>true
 |.Name ..=>true
 |.Subscript ..=>true
 |_=>false
def rprD(r:Rv):R Rv:=match r.str? with
 |some z=>if (reprText z).length<=sizeLine then .ok (.val (.str (reprText z))) else .no
 |none=>.no
def lenD(r:Rv):R Rv:=match r.str? with
 |some s=>if s.length<=sizeLine then .ok (.val (.int s.length)) else .no
 |none=>match seqD r with
  |some l=>.ok (.val (.int l.length))
  |none=>.no
def qmC:Key->D
 |.inl n=>.int n
 |.inr z=>.str z
def qhJ(r:Rv):R Rv:=match r with
 |.val (.dct ks z)=>.ok (.tmp (ks.map qmC))
 |_=>.no
def listD(r:Rv):R Rv:=match seqD r with
 |some l=>.ok (.tmp l)
 |none=>qhJ r
def qrp(r:Rv):R Rv:=.no
def intD(r:Rv):R Rv:=match r.int? with
 |some i=>.ok (.val (.int i))
 |none=>match r.bl? with
  |some b=>.ok (.val (.int (if b then 1 else 0)))
  |none=>qrp r
def prD:D->Option (Int×Int)
 |.tup [.int a,.int b]=>some (a,b)
 |_=>none
theorem qrq(d:D):(prD d).elim True λp=>d=.tup [.int p.1,.int p.2]:=by
 cases d with
 |tup l=>cases l with
  |nil=>exact aO
  |cons a l=>cases a with
   |int x=>cases l with
    |nil=>exact aO
    |cons b l=>cases b with
     |int y=>cases l with
      |nil=>exact rfl
      |cons z w=>exact aO
     |_=>exact aO
   |_=>exact aO
 |_=>exact aO
def qmD{d:D}{p:Int×Int}(h:prD d=some p):d=.tup [.int p.1,.int p.2]:=by have b:=qrq d;rw[h]at b;exact b
def qhK:List D->Option (List (Int×Int))
 |[]=>some []
 | d::l=>match prD d,qhK l with
  |some p,some ps=>some (p::ps)
  |z,y=>none
def pD(p:Int×Int):D:=.tup [.int p.1,.int p.2]
def QQ(p q:Int×Int):Bool:=decide (p.1 < q.1)||(decide (p.1=q.1)&&decide (p.2<=q.2))
def qK(ps:List (Int×Int)):List (Int×Int):=ps.mergeSort QQ
def YT(r:Rv):R Rv:=match r.list? with
 |some l=>(match qhK l with |some ps=>if ps.length < 4000 then .ok (.tmp ((qK ps).map pD)) else .no |none=>.no)
 |none=>.no
def ddI:List Int->List Int
 |[]=>[]
 | a::l=>if a∈l then ddI l else a::ddI l
theorem qbd(k:Int):∀l:List Int,k∈ddI l↔k∈l
 |[]=>.rfl
 | a::l=>by
  rw[ddI];split
  .rename_i h;rw[qbd k l,aF];exact{.inr,λz=>z.elim (λe=>e▸h) id}
  .rw[aF,aF,qbd k l]
theorem Yp:∀l:List Int,(ddI l).Nodup
 |[]=>List.nodup_nil
 | a::l=>by
  rw[ddI];split
  .exact Yp l
  .rename_i h;exact fL.mpr ⟨λz=>h ((qbd a l).mp z),Yp l⟩
def sdI(ns:List Int):List Int:=(ddI ns).mergeSort λa b=>decide (a<=b)
def qhL(r:Rv):R Rv:=match r.list? with
 |some l=>(match qbb l with |some ns=>if ns.length < 4000 then .ok (.tmp ((sdI ns).map D.int)) else .no |none=>.no)
 |none=>.no
def qrr(r:Rv):R Rv:=match r.list? with
 |some l=>(match qbb l with |some ns=>.ok (.val (.int ns.sum)) |none=>.no)
 |none=>.no
def revB:Option ag->Option ag->ag->Bool
 |none,none,.UnaryOp .USub (.Constant (.int 1) z y) x=>true
 |z,y,x=>false
def QB(xs:List D)(lo hi:Option Int)(n:Int):List D:=(gn (b4 lo hi (some n) xs.length).1 (b4 lo hi (some n) xs.length).2.1 (b4 lo hi (some n) xs.length).2.2).filterMap (xs[·]?)
def inV:ag->Option Int
 |.Constant (.int n) z y=>some n
 |_=>none
theorem qrs(e:ag):(inV e).elim True λn=>∃j p,e=.Constant (.int n) j p:=by
 cases e with
 |Constant c j p=>cases c with
  |int n=>exact⟨j,p,rfl⟩
  |_=>exact aO
 |_=>exact aO
def qft{e:ag}{n:Int}(h:inV e=some n):∃j p,e=.Constant (.int n) j p:=by have b:=qrs e;rw[h]at b;exact b
def stN(e:ag):Option Int:=(inV e).bind λn=>if 2<=n then some n else none
def qE:ag->Bool
 |.Starred ..=>true
 |_=>false
def strD(r:Rv):R Rv:=.no
def tupD(r:Rv):R Rv:=.no
def qoX(r:Rv):R Rv:=match r.list? with
 |some l=>(match qhI l with |some bs=>.ok (.val (.bl (bs.all id))) |none=>.no)
 |none=>.no
def qrt(r:Rv):R Rv:=.no
def kvD:D->Option (Str×Int)
 |.tup [.str s,.int n]=>some (s,n)
 |_=>none
theorem qru(d:D):(kvD d).elim True λp=>d=.tup [.str p.1,.int p.2]:=by
 cases d with
 |tup l=>cases l with
  |nil=>exact aO
  |cons a l=>cases a with
   |str x=>cases l with
    |nil=>exact aO
    |cons b l=>cases b with
     |int y=>cases l with
      |nil=>exact rfl
      |cons z w=>exact aO
     |_=>exact aO
   |_=>exact aO
 |_=>exact aO
def qmE{d:D}{p:Str×Int}(h:kvD d=some p):d=.tup [.str p.1,.int p.2]:=by have b:=qru d;rw[h]at b;exact b
def qgR:List D->Option (List (Str×Int))
 |[]=>some []
 | d::l=>match kvD d,qgR l with
  |some p,some ps=>some (p::ps)
  |z,y=>none
def qrv(kvs:List (Str×Int))(k:Str):Option Int:=(kvs.find? λkv=>decide (kv.1=k)).map (·.2)
def qpF(n:Int)(x y:Rv):R Rv:=match x.list?,y.str? with
 |some l,some k=>(match qgR l with |some kvs=>if (kvs.map (·.1)).Nodup then .ok (.val (.int ((qrv kvs k).getD n))) else .no |none=>.no)
 |z,w=>.no
def caV:ag->Option (Str×List ag)
 |.Call (.Name f z) as [] y=>some (f,as)
 |_=>none
theorem qrw(e:ag):(caV e).elim True λt=>∃p q,e=.Call (.Name t.1 p) t.2 [] q:=by
 cases e with
 |Call f as ks q=>cases f with
  |Name f p=>cases ks with
   |nil=>exact⟨p,q,rfl⟩
   |cons z y=>exact aO
  |_=>exact aO
 |_=>exact aO
def Jo{α:Type}{o:Option α}{P:α->Prop}{a:α}(b:o.elim True P)(h:o=some a):P a:=by rw[h]at b;exact b
def qmF{e:ag}{t:Str×List ag}(h:caV e=some t):∃p q,e=.Call (.Name t.1 p) t.2 [] q:=by have b:=qrw e;rw[h]at b;exact b
def one?{α:Type}:List α->Option α
 |[a]=>some a
 |_=>none
def two?{α:Type}:List α->Option (α×α)
 |[a,b]=>some (a,b)
 |_=>none
theorem qrx{α:Type}(l:List α):(one? l).elim True λa=>l=[a]:=by
 cases l with
 |nil=>exact aO
 |cons a l=>cases l with
  |nil=>exact rfl
  |cons z y=>exact aO
theorem qry{α:Type}(l:List α):(two? l).elim True λp=>l=[p.1,p.2]:=by
 cases l with
 |nil=>exact aO
 |cons a l=>cases l with
  |nil=>exact aO
  |cons b l=>cases l with
   |nil=>exact rfl
   |cons z y=>exact aO
def qoY(r:Rv):R Rv:=match r.list? with
 |some l=>(match qgR l with |some kvs=>if (kvs.map (·.1)).Nodup then .ok (.val (.dct (kvs.map λp=>.inr p.1) (kvs.map λp=>.int p.2))) else .no |none=>.no)
 |none=>.no
def nmO:ag->Option Str
 |.Name x z=>some x
 |_=>none
theorem qqt(e:ag):(nmO e).elim True λx=>∃p,e=.Name x p:=by
 cases e with
 |Name x p=>exact⟨p,rfl⟩
 |_=>exact aO
def dgE(L:Ct)(o:ag)(x:Str)(es:List ag)(b:Bool):Option (Nat×ag×Int):=(nmO o).bind λz=>(two? es).bind λq=>(inV q.2).bind λn=>(qbZ L z).bind λi=>if x = "get"/\b=true/\qE q.1=false then some (i,q.1,n) else none
def YU(N:Env)(i:Nat):Option (List Key×List D):=match N[i]? with
 |some (.dic ks l)=>some (ks,l)
 |_=>none
def atK:List Key->List D->Key->Option D
 | a::ks,d::ds,k=>if a=k then some d else atK ks ds k
 |z,y,x=>none
def qeE(N:Env)(i:Nat):Option (List Key×List D):=match N[i]? with
 |some (.dic ks l)=>some (ks,l)
 |some (.val (.dct ks l))=>some (ks,l)
 |_=>none
def maxD(x y:Rv):R Rv:=int2 x y λi j=>.ok (.val (.int (if j > i then j else i)))
def minD(x y:Rv):R Rv:=int2 x y λi j=>.ok (.val (.int (if j < i then j else i)))
def qbe:ag->Bool
 |.Set ..=>false
 |_=>true
def zt:ag->Option (List Str)
 |.Name x z=>some [x]
 |.Tuple es z y=>es.foldr (λe r=>match e,r with |.Name x _,some l=>some (x::l) |_,_=>none) (some [])
 |_=>none
def qhM:ag->Bool
 |.Tuple ..=>true
 |_=>false
def qmG:Sl->Sl
 |.own l=>.bor l
 |.dic ..=>.no
 |s=>s
def QR(N:List Str)(sc:bw):List Nat:=(cZ N.length).filter λi=>sc.names.lookup (N.getD i "") == some .free
def YV(l:List D):List D:=(cZ l.length).zipWith (λ(i:Nat) d=>D.tup [.int i,d]) l
def qej(l m:List D):List D:=fZ (λa b=>D.tup [a,b]) l m
def zH(lo hi:Int):List D:=(cZ (hi - lo).toNat).map λi:Nat=>D.int (lo+i)
def qiW(i:Int):Bool:=decide (-(2 ^ 62)<=i)&&decide (i < 2 ^ 62)
def ssE(L:Ct)(f:Str)(a:ag):Option ag:=(caV a).bind λt=>(one? t.2).bind λx=>if f = "sorted"/\t.1 = "set"/\glB L.sc "set" = true/\qE x=false then some x else none
def lrD(x y:Rv):R Rv:=match x.int?,y.int? with
 |some i,some j=>if qiW i=true/\qiW j=true/\(j - i).toNat<=10000 then .ok (.tmp (zH i j)) else .no
 |z,w=>.no
def irE(L:Ct)(op:aY)(b:ag):Option ag:=none
def qrz(x y:Rv):R Rv:=match x.int?,y.int? with
 |some i,some j=>.ok (.val (.bl (!decide (0<=i/\i < j))))
 |z,w=>.no
def qP(i:Int):Bool:=decide (-(2 ^ 62)<=i)&&decide (i < 2 ^ 62)
def qfu(asg:D->Env->R Env)(test:Env->R (Bool×Env))(elt:Env->R (D×Env)):List D->Env->List D->R (List D)
 |[],z,acc=>.ok acc
 | d::ds,N,acc=>(asg d N).th λN1=>(test N1).th λbt=>if bt.1 then (elt bt.2).th λx=>if acc.length < sizeLine then qfu asg test elt ds x.2 (acc++[x.1]) else .no else qfu asg test elt ds bt.2 acc
inductive Fl where
 | next (N:Env)|ret (r:Rv)
def Jp:ag->Bool
 |.ListComp ..=>false
 |.SetComp ..=>false
 |.DictComp ..=>false
 |_=>true
def qfv:ag->Bool
 |.Tuple ..=>false
 |_=>true
def ZL:ag->Bool
 |.Slice ..=>false
 |_=>true
def qoZ(step:D->Env->R Fl):List D->Env->R Fl
 |[],N=>.ok (.next N)
 | d::ds,N=>(step d N).th λf=>match f with
  |.next N1=>qoZ step ds N1
  |.ret r=>.ok (.ret r)
def whL(test:Env->R (Bool×Env))(body:Env->R Fl):Nat->Env->R Fl
 |0,_=>.no
 | n+1,N=>(test N).th λb=>if b.1 then (body b.2).th λf=>(match f with
  |.next N1=>whL test body n N1
  |.ret r=>.ok (.ret r)) else .ok (.next b.2)
inductive B1 where
 | len|list|int|srt|sum|all|str|tup|any|sst|rpr|dic
inductive B2 where
 | max|min|get (n:Int)|rng|inr
inductive Ty where
 | int|bool|str|list|tuple
inductive Tg where
 | one (i:Nat)|many (l:List Nat)
structure Cl where
 f:Str->List Ar->R Rv
 cs:Cs
 nw:Str->List Ar->R Rv
 x:Bool:=true
 y:Bool:=true
instance:CoeFun Cl (λz=>Str->List Ar->R Rv):=⟨Cl.f⟩
set_option genCtorIdx false in
mutual
inductive E where
 | var (i:Nat)|con (d:D)|bin (op:cP) (a b:E)|neg (a:E)|not (a:E)|one (a:E)|and (a b:E)|cmp (op:aY) (a b:E)|ite (c:T) (a b:E)
 | idx (a i:E)|sli (a:E) (lo hi:O)|stp (n:Int) (a:E) (lo hi:O)|dget (i:Nat) (a:E) (n:Int)|lst (l:Es)|tup (l:Es)|call (f:Str) (l:Es)|b1 (f:B1) (a:E)|b2 (f:B2) (a b:E)|isi (t:Ty) (a:E)|isc (t:Str) (a:E)|fld (a:E) (x:Str)|met (a:E) (x:Str) (l:Es)|new (f:Str) (l:Es)|comp (x:E) (src:I) (tg:Tg) (c:F) (n:Nat) (fr:List Nat)
inductive Es where
 | nil|cons (a:E) (l:Es)
inductive T where
 | not (a:T)|one (a:T)|and (a b:T)|or (a b:T)|cmp (op:aY) (a b:E)|chn (op op':aY) (a b c:E)|val (a:E)
inductive O where
 | none|some (a:E)
inductive F where
 | yes|test (c:T)
inductive I where
 | seq (a:E)|rng (a:E)|rng2 (a b:E)|enum (a:E)|zip (a b:E)|rev (a:E)
end
def slR(N:Env)(i:Nat):R Rv:=match N[i]? with
 |some (.val d)=>.ok (.val d)
 |some (.own l)=>.ok (.cell l)
 |some (.bor l)=>.ok (.cell l)
 |some (.scr l)=>.ok (.scr l)
 |_=>.no
def slE(N:Env)(i:Nat):R (D×Env):=match N[i]? with
 |some (.val d)=>.ok (d,N)
 |some (.own l)=>.ok (.lst l,N.set i (.val (.lst l)))
 |some (.dic ks l)=>.ok (.dct ks l,N.set i (.val (.dct ks l)))
 |_=>.no
def slL(N:Env)(i:Nat):R ((Sk×List D)×Env):=match N[i]? with
 |some (.val (.lst l))=>.ok ((.lst,l),N)
 |some (.val (.tup l))=>.ok ((.tup,l),N)
 |some (.val (.str z))=>.ok ((.str,qhG z),N)
 |some (.own l)=>.ok ((.lst,l),N.set i (.val (.lst l)))
 |some (.bor l)=>.ok ((.lst,l),N)
 |some (.scr l)=>.ok ((.lst,l),N)
 |_=>.no
def slX(N:Env)(i:Nat):R Rv:=match N[i]? with
 |some (.val d)=>.ok (.val d)
 |some (.own l)=>.ok (.tmp l)
 |_=>.no
def B1.go:B1->Rv->R Rv
 |.len=>lenD
 |.list=>listD
 |.int=>intD
 |.srt=>YT
 |.sum=>qrr
 |.all=>qoX
 |.str=>strD
 |.tup=>tupD
 |.any=>qrt
 |.sst=>qhL
 |.rpr=>rprD
 |.dic=>qoY
def B2.go:B2->Rv->Rv->R Rv
 |.max=>maxD
 |.min=>minD
 |.get n=>qpF n
 |.rng=>lrD
 |.inr=>qrz
def Ty.of:Ty->D->Option Bool
 |z,.ins ..=>none
 |z,.exc ..=>none
 |z,.dct ..=>none
 |.int,.int z=>some true
 |.int,.bl z=>some true
 |.bool,.bl z=>some true
 |.str,.str z=>some true
 |.list,.lst z=>some true
 |.tuple,.tup z=>some true
 |z,y=>some false
def Ty.go(t:Ty):Rv->Option Bool
 |.scr z=>none
 |r=>t.of r.data
def ZM:List Nat->List D->Env->R Env
 |[],[],N=>.ok N
 | i::l,d::ds,N=>ZM l ds (N.set i (.val d))
 |z,y,x=>.no
def Tg.go:Tg->D->Env->R Env
 |.one i,d,N=>.ok (N.set i (.val d))
 |.many l,.tup ds,N=>ZM l ds N
 |z,y,x=>.no
def toAr:Rv->Ar
 |.val d=>.val d
 |.tmp l=>.val (.lst l)
 |.cell l=>.bor l
 |.scr l=>.scr l
def qb0(n:Nat)(fr:List Nat)(N:Env):Env:=bT n Sl.no++fr.map λi=>qmG (N.getD i .no)
def qo0(x:Rv×Env):R (D×Env):=match x.1 with
 |.val d=>.ok (d,x.2)
 |.tmp l=>.ok (.lst l,x.2)
 |_=>.no
def qo1(x:Rv×Env):R ((Sk×List D)×Env):=match x.1 with
 |.val (.lst l)=>.ok ((.lst,l),x.2)
 |.val (.tup l)=>.ok ((.tup,l),x.2)
 |.val (.str z)=>.ok ((.str,qhG z),x.2)
 |.tmp l=>.ok ((.lst,l),x.2)
 |_=>.no
def jh(e:E)(r:Env->R (Rv×Env))(N:Env):R (D×Env):=match e with
 |.var i=>slE N i
 |.con d=>.ok (d,N)
 |_=>(r N).th qo0
def yN(e:E)(r:Env->R (Rv×Env))(N:Env):R ((Sk×List D)×Env):=match e with
 |.var i=>slL N i
 |_=>(r N).th qo1
mutual
def iR(cl:Cl):E->Env->R (Rv×Env)
 |.var i,N=>(slR N i).th λr=>.ok (r,N)
 |.con d,N=>.ok (.val d,N)
 |.bin op a b,N=>(iR cl a N).th λx=>(iR cl b x.2).th λy=>(QO op x.1 y.1).th λr=>.ok (r,y.2)
 |.neg a,N=>(iR cl a N).th λx=>match x.1 with
  |.val (.int i)=>.ok (.val (.int (-i)),x.2)
  |_=>.no
 |.not a,N=>(iR cl a N).th λx=>match x.1 with
  |.val (.bl b)=>.ok (.val (.bl (!b)),x.2)
  |_=>.no
 |.one a,N=>iR cl a N
 |.and a b,N=>(iR cl a N).th λx=>match x.1 with
  |.val (.bl true)=>iR cl b x.2
  |.val (.bl false)=>.ok (.val (.bl false),x.2)
  |_=>.no
 |.cmp op a b,N=>(iR cl a N).th λx=>(iR cl b x.2).th λy=>(R.of (Yo op x.1 y.1)).th λr=>.ok (.val (.bl r),y.2)
 |.ite c a b,N=>(iT cl c N).th λt=>if t.1 then iR cl a t.2 else iR cl b t.2
 |.idx a i,N=>(iR cl a N).th λx=>(iR cl i x.2).th λy=>(idxD x.1 y.1).th λr=>.ok (r,y.2)
 |.sli a lo hi,N=>(iR cl a N).th λx=>(iO cl lo x.2).th λl=>(iO cl hi l.2).th λh=>(sliceD x.1 l.1 h.1).th λr=>.ok (r,h.2)
 |.dget i a n,N=>(match qeE N i with
  |none=>.no
  |some p=>(noX (iR cl a N)).th λy=>(match keyD y.1 with
   |some k=>.ok (.val ((atK p.1 p.2 k).getD (.int n)),y.2)
   |none=>.no))
 |.stp n a lo hi,N=>(iR cl a N).th λx=>(iO cl lo x.2).th λl=>(iO cl hi l.2).th λh=>(R.of x.1.list?).th λd=>.ok (.tmp (QB d l.1 h.1 n),h.2)
 |.lst l,N=>(iEs cl l N).th λx=>if x.1.length<=sizeLine then .ok (.tmp x.1,x.2) else .no
 |.tup l,N=>(iEs cl l N).th λx=>if x.1.length<=sizeLine then .ok (.val (.tup x.1),x.2) else .no
 |.call f l,N=>(iAs cl l N).th λx=>(cl f x.1).th λr=>.ok (r,x.2)
 |.b1 f a,N=>(iR cl a N).th λx=>(f.go x.1).th λr=>.ok (r,x.2)
 |.b2 f a b,N=>(iR cl a N).th λx=>(noX (iR cl b x.2)).th λy=>(f.go x.1 y.1).th λr=>.ok (r,y.2)
 |.isi t a,N=>(iR cl a N).th λx=>(R.of (t.go x.1)).th λb=>.ok (.val (.bl b),x.2)
 |.isc t a,N=>(noX (iR cl a N)).th λx=>(R.of (qhH cl.cs x.1 t)).th λb=>.ok (.val (.bl b),x.2)
 |.fld a x,N=>(noX (iR cl a N)).th λy=>(R.of (qfs cl.cs y.1 x)).th λd=>.ok (.val d,y.2)
 |.met a x l,N=>(iR cl a N).th λy=>match mtD cl.cs y.1 x with
  |some f=>(iAs cl l y.2).th λz=>(cl f (toAr y.1::z.1)).th λr=>.ok (r,z.2)
  |none=>.no
 |.new f l,N=>(ifX cl.y (iAs cl l N)).th λx=>(cl.nw f x.1).th λr=>.ok (r,x.2)
 |.comp e src tg c n fr,N=>(iI cl src N).th λx=>if x.1.length<=sizeLine then (noX (qfu tg.go (λN1=>iF cl c N1) (jh e (iR cl e)) x.1 (qb0 n fr x.2) [])).th λl=>.ok (.tmp l,x.2) else .no
def iT(cl:Cl):T->Env->R (Bool×Env)
 |.not a,N=>(iT cl a N).th λt=>.ok (!t.1,t.2)
 |.one a,N=>iT cl a N
 |.and a b,N=>(iT cl a N).th λt=>if t.1 then iT cl b t.2 else .ok (false,t.2)
 |.or a b,N=>(iT cl a N).th λt=>if t.1 then .ok (true,t.2) else iT cl b t.2
 |.cmp op a b,N=>(iR cl a N).th λx=>(iR cl b x.2).th λy=>(R.of (Yo op x.1 y.1)).th λr=>.ok (r,y.2)
 | .chn op op' a b c,N=>(iR cl a N).th λx=>(iR cl b x.2).th λy=>(R.of (Yo op x.1 y.1)).th λr=>if r=true then (iR cl c y.2).th λz=>(R.of (Yo op' y.1 z.1)).th λr'=>.ok (r',z.2) else .ok (false,y.2)
 |.val a,N=>(iR cl a N).th λx=>(R.of (truthD x.1)).th λb=>.ok (b,x.2)
def iEs(cl:Cl):Es->Env->R (List D×Env)
 |.nil,N=>.ok ([],N)
 |.cons e l,N=>(jh e (iR cl e) N).th λx=>(iEs cl l x.2).th λy=>.ok (x.1::y.1,y.2)
def iAs(cl:Cl):Es->Env->R (List Ar×Env)
 |.nil,N=>.ok ([],N)
 |.cons e l,N=>(iR cl e N).th λx=>(iAs cl l x.2).th λy=>.ok (toAr x.1::y.1,y.2)
def iO(cl:Cl):O->Env->R (Option Int×Env)
 |.none,N=>.ok (none,N)
 |.some e,N=>(iR cl e N).th λx=>match x.1 with
  |.val (.int i)=>.ok (some i,x.2)
  |_=>.no
def iF(cl:Cl):F->Env->R (Bool×Env)
 |.yes,N=>.ok (true,N)
 |.test c,N=>iT cl c N
def iI(cl:Cl):I->Env->R (List D×Env)
 |.seq a,N=>(yN a (iR cl a) N).th λx=>.ok (x.1.2,x.2)
 |.rng a,N=>(iR cl a N).th λx=>(match x.1.int? with
  |some n=>if qP n=true then .ok (zH 0 n,x.2) else .no
  |none=>.no)
 |.rng2 a b,N=>(iR cl a N).th λx=>(iR cl b x.2).th λy=>(match x.1.int?,y.1.int? with
  |some i,some j=>if qP i=true/\qP j=true then .ok (zH i j,y.2) else .no
  |z,w=>.no)
 |.enum a,N=>(yN a (iR cl a) N).th λx=>match x.1.1 with |.lst=>.ok (YV x.1.2,x.2) |_=>.no
 |.rev a,N=>(yN a (iR cl a) N).th λx=>match x.1.1 with |.lst=>.ok (x.1.2.reverse,x.2) |_=>.no
 |.zip a b,N=>(yN a (iR cl a) N).th λx=>(yN b (iR cl b) x.2).th λy=>match x.1.1,y.1.1 with |.lst,.lst=>.ok (qej x.1.2 y.1.2,y.2) |_,_=>.no
end
set_option genCtorIdx false in
mutual
inductive S where
 | app (i:Nat) (e:E)|ext (i:Nat) (e:E)|ret (e:E)|set (i:Nat) (e:E)|setT (tg:Tg) (e:E)|setI (i:Nat) (x e:E)|dnew (i:Nat)|popI (i j:Nat) (c:Int)|dput (i:Nat) (x e:E)|ite (c:T) (a b:Ss)|for_ (tg:Tg) (src:I) (b:Ss)|whl (c:T) (b:Ss)|stuck
inductive Ss where
 | nil|cons (s:S) (l:Ss)
end
def zj(N:Env)(i:Nat):Option (List D):=match N[i]? with
 |some (.own l)=>some l
 |_=>none
def qhN(e:E)(r:Env->R (Rv×Env))(N:Env):R Rv:=match e with
 |.var i=>slX N i
 |.con d=>.ok (.val d)
 |_=>(r N).th λx=>match x.1 with
  |.val d=>.ok (.val d)
  |.tmp l=>.ok (.tmp l)
  |_=>.no
def qek(e:E)(r:Env->R (Rv×Env))(N:Env):R (Sl×Env):=match e with
 |.var i=>(slE N i).th λr=>.ok (.val r.1,r.2)
 |.con d=>.ok (.val d,N)
 |_=>(r N).th λx=>match x.1 with
  |.val d=>.ok (.val d,x.2)
  |.tmp l=>.ok (.own l,x.2)
  |_=>.no
def JT(ks:List Key)(k:Key):List Key:=if QP ks k=true then ks else ks++[k]
def yy{α:Type}(ks:List Key)(ds:List α)(k:Key)(d:α):List α:=if QP ks k=true then fZ (λa x=>if a=k then d else x) ks ds else ds++[d]
def qls(N:Env)(i j:Nat)(c:Int):R Fl:=match zj N j with
 |some l=>(match l.getLast? with
  |some (.tup ds)=>(match atI ds c with
   |some d=>.ok (.next ((N.set j (.own l.dropLast)).set i (.val d)))
   |none=>.no)
  |_=>.no)
 |none=>.no
mutual
def iS(cl:Cl)(w:Nat):S->Env->R Fl
 |.app i e,N=>(match zj N i with
  |none=>.no
  |some _=>(jh e (iR cl e) N).th λy=>(match zj y.2 i with
   |some l=>if l.length < sizeLine then .ok (.next (y.2.set i (.own (l++[y.1])))) else .no
   |none=>.no))
 |.ext i e,N=>(match zj N i with
  |none=>.no
  |some _=>(iR cl e N).th λy=>(match zj y.2 i,y.1.plain? with
   |some l,some n=>if l.length+n.length<=sizeLine then .ok (.next (y.2.set i (.own (l++n)))) else .no
   |_,_=>.no))
 |.ret e,N=>(qhN e (iR cl e) N).th λr=>.ok (.ret r)
 |.set i e,N=>(qek e (iR cl e) N).th λs=>.ok (.next (s.2.set i s.1))
 |.setT tg e,N=>(jh e (iR cl e) N).th λx=>(tg.go x.1 x.2).th λN1=>.ok (.next N1)
 |.setI i x e,N=>(jh e (iR cl e) N).th λy=>(match zj y.2 i with
  |none=>.no
  |some _=>(iR cl x y.2).th λz=>(match zj z.2 i,z.1.int? with
   |some l,some n=>(match ixN l.length n with
    |some k=>.ok (.next (z.2.set i (.own (l.set k y.1))))
    |none=>.no)
   |_,_=>.no))
 |.popI i j c,N=>qls N i j c
 |.dnew i,N=>.ok (.next (N.set i (.dic [] [])))
 |.dput i x e,N=>(jh e (iR cl e) N).th λy=>(match YU y.2 i with
  |none=>.no
  |some _=>(iR cl x y.2).th λz=>(match YU z.2 i,keyD z.1 with
   |some p,some k=>if p.1.length < sizeLine then .ok (.next (z.2.set i (.dic (JT p.1 k) (yy p.1 p.2 k y.1)))) else .no
   |_,_=>.no))
 |.ite c a b,N=>(iT cl c N).th λt=>if t.1 then iSs cl w a t.2 else iSs cl w b t.2
 |.for_ tg src b,N=>(iI cl src N).th λx=>qoZ (λd N1=>(tg.go d N1).th λN2=>iSs cl w b N2) x.1 x.2
 |.whl c b,N=>whL (λN1=>iT cl c N1) (λN1=>iSs cl w b N1) w N
 |.stuck,_=>.no
def iSs(cl:Cl)(w:Nat):Ss->Env->R Fl
 |.nil,N=>.ok (.next N)
 |.cons s l,N=>(iS cl w s N).th λf=>match f with
  |.next N1=>iSs cl w l N1
  |.ret r=>.ok (.ret r)
end
def o2{α M γ:Type}(a:Option α)(b:Option M)(f:α->M->γ):Option γ:=match a,b with
 |some x,some y=>some (f x y)
 |z,w=>none
theorem qj{α M γ:Type}{a:Option α}{b:Option M}{f:α->M->γ}{z:γ}(h:o2 a b f=some z):∃x y,a=some x/\b=some y/\f x y=z:=by
 cases a with
 |none=>cases h
 |some x=>
  cases b with
  |none=>cases h
  |some y=>exact{x,y,rfl,rfl,Option.some.inj h}
def yP{α:Type}{c:Prop}[Decidable c]{a:Option α}{z:α}(h:(if c then a else none)=some z):c/\a=some z:=by
 by_cases hc:c
 .rw[if_pos hc]at h;exact⟨hc,h⟩
 .rw[if_neg hc]at h;cases h
theorem ql{α:Type}{c:Bool}{a:Option α}{z:α}(h:oif c a=some z):c=true/\a=some z:=by
 cases c with
 |true=>exact⟨rfl,h⟩
 |false=>cases h
def Ct.k(L:Ct):Cl:=⟨L.cl,L.cs,L.nw,L.x,L.y⟩
def cC(L:Ct)(it:ag)(r:Option I):Option I:=r
def qci(L:Ct)(x:Str):Option E:=oif (jM x) (match qeD L.N x with
 |some i=>oif (qmA L.sc x) (some (.var i))
 |none=>oif (glB L.sc x) ((L.gl x).map .con))
def qiX:Const->Option E
 |.none=>some (.con .non)
 |.bool b=>some (.con (.bl b))
 |.int i=>some (.con (.int i))
 |.str s=>some (.con (.str s))
 |_=>none
def qo2(t:Str):Option Ty:=if t = "int" then some .int else if t = "bool" then some .bool else if t = "str" then some .str else if t = "list" then some .list else if t = "tuple" then some .tuple else none
def qpG(f:Str):Option B1:=if f = "len" then some .len else if f = "list" then some .list else if f = "int" then some .int else if f = "sorted" then some .srt else if f = "all" then some .all else if f = "dict" then some .dic else none
def qpH(f:Str):Option B2:=if f = "max" then some .max else if f = "min" then some .min else none
def qfw(L:Ct)(x:Str):Option Nat:=oif (qmB L.sc x&&jM x) (qeD L.N x)
def qhO(L:Ct):List Str->Option (List Nat)
 |[]=>some []
 | x::l=>o2 (qfw L x) (qhO L l) (· :: ·)
def cTg(L:Ct)(tg:ag):Option Tg:=match tg with
 |.Name x z=>(qfw L x).map .one
 |.Tuple es j p=>oif (!es.any qE) (match zt (.Tuple es j p) with
  |some xs=>(qhO L xs).map .many
  |none=>none)
 |_=>none
def ZO:E->Option E
 |.var z=>none
 |e=>some e
def isNm:ag->Bool
 |.Name ..=>true
 |_=>false
def cVs(g:ag->Option E):List ag->Option Es
 |[]=>some .nil
 | e::l=>o2 (g e) (cVs g l) .cons
mutual
def cE:Nat->Ct->ag->Option E
 |0,z,w=>none
 | m+1,L,e=>match e with
  |.Name x z=>qci L x
  |.Constant c z w=>qiX c
  |.BinOp a op b z=>o2 (cE m L a) (cE m L b) (E.bin op)
  |.UnaryOp .USub a z=>(cE m L a).map .neg
  |.UnaryOp .Not a z=>(cE m L a).map .not
  |.BoolOp z [a] w=>(cE m L a).map .one
  | .BoolOp .And (a::b::l) p=>o2 (cE m L a) (cE m L (.BoolOp .And (b::l) p)) .and
  | .BoolOp .Or (a::b::l) p=>none
  |.Compare a [op] [b] z=>oif (!behindInMarks op b) (o2 (cE m L a) (cE m L b) (E.cmp op))
  |.IfExp c a b z=>o2 (cT m L c) (o2 (cE m L a) (cE m L b) dm) λc p=>.ite c p.1 p.2
  |.Subscript a (.Slice lo hi none z) w=>o2 (cE m L a) (o2 (cO m L lo) (cO m L hi) dm) λa p=>.sli a p.1 p.2
  |.Subscript a (.Slice lo hi (some st) z) w=>(stN st).bind λn=>o2 (cE m L a) (o2 (cO m L lo) (cO m L hi) dm) λa p=>.stp n a p.1 p.2
  |.Subscript a i z=>o2 (cE m L a) (cE m L i) .idx
  |.List es z=>(cEs m L es).map .lst
  |.Tuple es z w=>(cEs m L es).map .tup
  |.Call (.Name f p) es [] z=>oif (jM f&&glB L.sc f&&(qeD L.N f).isNone) (
    if f = "isinstance" then (match es with
     |[a,b]=>(match b with
      |.Name t z=>oif (jM t&&glB L.sc t&&(qeD L.N t).isNone&&!qE a) (match qo2 t with |some y=>(cE m L a).map (.isi y) |none=>(cE m L a).map (.isc t))
      |_=>none)
     |_=>none)
    else if L.tab.contains f=true then (cAs m L es).map (.call f)
    else if L.cs.tab.contains f=true then (cAs m L es).map (.new f)
    else match es with
     |[a]=>(match ssE L f a with
       |some t=>(cE m L t).map (.b1 .sst)
       |none=>oif (!qE a) (o2 (qpG f) (cE m L a) .b1))
     |[a,b]=>oif (!(qE a||qE b)) (o2 (qpH f) (o2 (cE m L a) (cE m L b) dm) λf p=>.b2 f p.1 p.2)
     |_=>none)
  |.Attribute o x z=>oif (qbc o) ((cE m L o).map λa=>.fld a x)
  |.Call (.Attribute o x ap) es [] q=>match dgE L o x es (ap.endLine == q.line) with
   |some t=>(cE m L t.2.1).map λk=>.dget t.1 k t.2.2
   |none=>if (qbc o&&(ap.endLine == q.line)&&decide (es.length < 30))=true then (o2 (cE m L o) (cAs m L es) λa l=>.met a x l) else none
  |.ListComp elt [g] sc z=>oif (decide (g.is_async=0)) (match zt g.target with
   |some own=>oif (Yj L.sc L.N (QR L.N sc) sc&&decide (own++(QR L.N sc).map λi=>L.N.getD i "").Nodup&&qbe g.iter)
     (o2 (o2 (cC L g.iter (cI m L (qhM g.target) g.iter)) (cTg { L with N:=own++(QR L.N sc).map λi=>L.N.getD i "",sc:=sc } g.target) dm)
      (o2 (cF m { L with N:=own++(QR L.N sc).map λi=>L.N.getD i "",sc:=sc } g.ifs) (cX m { L with N:=own++(QR L.N sc).map λi=>L.N.getD i "",sc:=sc } elt) dm)
      λp q=>.comp q.2 p.1 p.2 q.1 own.length (QR L.N sc))
   |none=>none)
  |_=>none
def cX:Nat->Ct->ag->Option E
 |0,z,y=>none
 | m+1,L,e=>match e with
  |.Name x z=>qci L x
  |e=>(cE m L e).bind ZO
def cT:Nat->Ct->ag->Option T
 |0,z,w=>none
 | m+1,L,e=>match e with
  |.UnaryOp .Not a z=>(cT m L a).map .not
  |.BoolOp z [a] w=>(cT m L a).map .one
  | .BoolOp .And (a::b::l) p=>o2 (cT m L a) (cT m L (.BoolOp .And (b::l) p)) .and
  | .BoolOp .Or (a::b::l) p=>o2 (cT m L a) (cT m L (.BoolOp .Or (b::l) p)) .or
  |.BoolOp z [] w=>none
  |.IfExp ..=>none
  |.Compare a [op] [b] z=>(match irE L op b with
   |some t=>o2 (cE m L a) (cE m L t) (λx y=>.val (.b2 .inr x y))
   |none=>oif (!behindInMarks op b) (o2 (cE m L a) (cE m L b) (T.cmp op)))
  | .Compare a [op,op'] [b,c] z=>oif (!lastMarks [op,op'] [b,c]) (o2 (cE m L a) (o2 (cE m L b) (cE m L c) dm) λa p=>.chn op op' a p.1 p.2)
  |.Compare ..=>none
  |e=>(cE m L e).map .val
def cEs:Nat->Ct->List ag->Option Es
 |0,z,y=>none
 | m+1,L,es=>match es with
  |[]=>some .nil
  | e::l=>oif (!qE e) (o2 (cX m L e) (cEs m L l) .cons)
def cAs:Nat->Ct->List ag->Option Es
 |0,z,y=>none
 | m+1,L,es=>match es with
  |[]=>some .nil
  | e::l=>oif (!qE e) (o2 (cE m L e) (cAs m L l) .cons)
def cO:Nat->Ct->Option ag->Option O
 |0,z,y=>none
 | m+1,L,o=>match o with
  |none=>some .none
  |some e=>(cE m L e).map .some
def cF:Nat->Ct->List ag->Option F
 |0,z,y=>none
 | m+1,L,es=>match es with
  |[]=>some .yes
  |[c]=>(cT m L c).map .test
  |_=>none
def cL:Nat->Ct->ag->Option E
 |0,z,y=>none
 | m+1,L,e=>match e with
  |.Name x z=>(qbZ L x).map .var
  |e=>(cE m L e).bind ZO
def cI:Nat->Ct->Bool->ag->Option I
 |0,z,y,x=>none
 | m+1,L,tb,e=>match e with
  |.Call (.Name f p) es [] q=>if f = "range" || f = "enumerate" || f = "zip" || f = "reversed" then oif (jM f&&glB L.sc f&&(qeD L.N f).isNone) (match es with
    |[a]=>oif (!qE a) (if f = "range" then (cE m L a).map .rng else if f = "enumerate" then oif tb ((cL m L a).map .enum) else if f = "reversed" then (cL m L a).map .rev else none)
    |[a,b]=>oif (!(qE a||qE b)) (if f = "zip" then oif tb (o2 (cL m L a) (cL m L b) .zip) else none)
    |_=>none)
   else (cL m L (.Call (.Name f p) es [] q)).map .seq
  |e=>(cL m L e).map .seq
end
def cV(m:Nat)(L:Ct)(e:ag):Option E:=match e with
 |.Name x z=>qci L x
 |e=>(cE m L e).bind ZO
def map_some{α M:Type}{o:Option α}{f:α->M}{z:M}(h:o.map f=some z):∃x,o=some x/\f x=z:=bM.mp h
theorem qB{α M:Type}{x:Option α}{f:α->Option M}{b:M}(h:x.bind f=some b):∃a,x=some a/\f a=some b:=by
 cases x with
 |none=>cases h
 |some a=>exact⟨a,rfl,h⟩
def poA:ag->Option (ag×ag)
 |.Subscript a i z=>some (a,i)
 |_=>none
theorem qrA(e:ag):(poA e).elim True λt=>∃p,e=.Subscript t.1 t.2 p:=by
 cases e with
 |Subscript a i p=>exact⟨p,rfl⟩
 |_=>exact aO
def poC:ag->Option (ag×Str×Pos×Pos)
 |.Call (.Attribute o m ap) [] [] cp=>some (o,m,ap,cp)
 |_=>none
theorem qrB(e:ag):(poC e).elim True λt=>e=.Call (.Attribute t.1 t.2.1 t.2.2.1) [] [] t.2.2.2:=by
 cases e with
 |Call f es ks cp=>cases f with
  |Attribute o m ap=>cases es with
   |nil=>cases ks with
    |nil=>rfl
    |cons z y=>exact aO
   |cons z y=>exact aO
  |_=>exact aO
 |_=>exact aO
def qpI(L:Ct)(e:ag):Option (Nat×Int):=(poA e).bind λt=>(inV t.2).bind λc=>(poC t.1).bind λq=>(nmO q.1).bind λl=>(qbZ L l).bind λj=>if q.2.1 = "pop"/\(q.2.2.1.endLine == q.2.2.2.line)=true then some (j,c) else none
def qki{L:Ct}{e:ag}{t:Nat×Int}(h:qpI L e=some t):∃l lp ap cp kp sp jj,e=.Subscript (.Call (.Attribute (.Name l lp) "pop" ap) [] [] cp) (.Constant (.int t.2) jj kp) sp/\qbZ L l=some t.1/\(ap.endLine == cp.line)=true:=by let(u,e1,h):=qB h;let(sp,e1):=Jo (qrA e) e1;let(c,e2,h):=qB h;let(jj,kp,e2):=qft e2;let(q,e3,h):=qB h;have e3:=Jo (qrB u.1) e3;let(l,e4,h):=qB h;let(lp,e4):=Jo (qqt q.1) e4;let(j,e5,h):=qB h;let((h1,h2),h):=yP h;cases h;exact{l,lp,q.2.2.1,q.2.2.2,kp,sp,jj,by rw[e1,e2,e3,e4,h1],e5,h2}
def qpJ:ag->Bool
 |.Dict [] [] z=>true
 |_=>false
def qqu:ag->Bool
 |.UnaryOp .USub z y=>true
 |_=>false
mutual
def cS:Nat->Ct->aI->Option S
 |0,y,w=>none
 | m+1,L,st=>match st with
  |.Expr e y=>(match e with
   |.Call (.Attribute (.Name x y) meth ap) [a] [] cp=>oif (ap.endLine == cp.line&&!qE a) (
     if meth = "append" then o2 (qbZ L x) (cX m L a) .app
     else if meth = "extend" then o2 (qbZ L x) (cE m L a) .ext
     else none)
   |_=>none)
  |.Return (some e) y=>(cV m L e).map .ret
  |.Assign [tg] e y=>(match tg with
   |.Name x y=>if qpJ e=true then (qfw L x).map .dnew else match qpI L e with |some q=>(qfw L x).map λi=>.popI i q.1 q.2 |none=>o2 (qfw L x) (cV m L e) .set
   |.Tuple es j p=>oif (Jp e&&qfv e) (o2 (cTg L (.Tuple es j p)) (cX m L e) .setT)
   |.Subscript (.Name x y) i w=>oif (Jp e&&ZL i) (o2 (qbZ L x) (o2 (cE m L i) (cX m L e) dm) λx p=>if qqu i=true then .setI x p.1 p.2 else .dput x p.1 p.2)
   |_=>none)
  |.If c a b y=>o2 (cT m L c) (o2 (cSs m L a) (cSs m L b) dm) λc p=>.ite c p.1 p.2
  |.For tg it body [] y=>oif (!L.z&&qbe it) (o2 (o2 (cTg L tg) (cI m L (qhM tg) it) dm) (cSs m L body) λp b=>.for_ p.1 p.2 b)
  |.While c body [] y=>oif (!L.z) (o2 (cT m L c) (cSs m L body) .whl)
  |.Raise ..=>some .stuck
  |_=>none
def cSs:Nat->Ct->List aI->Option Ss
 |0,z,y=>none
 | m+1,L,l=>match l with
  |[]=>some .nil
  | st::l=>o2 (cS m L st) (cSs m L l) .cons
end
def qrC:E->Bool
 |.var z=>true
 |_=>false
def qmH(e:E):(ZO e).elim True λz=>e=z/\qrC z=false:=by cases e<;>first|exact aO|exact⟨rfl,rfl⟩
def zU{e z:E}(h:ZO e=some z):e=z/\∀i,z≠.var i:=by have b:=qmH e;rw[h]at b;exact{b.1,λi q=>by rw[q]at b;cases b.2}
def qkj{z:E}(h:∀i,z≠.var i)(cl:Cl)(N:Env):jh z (iR cl z) N=(iR cl z N).th qo0:=by cases z<;>first|rfl|exact absurd rfl (h _)
def qkk{z:E}(h:∀i,z≠.var i)(cl:Cl)(N:Env):yN z (iR cl z) N=(iR cl z N).th qo1:=by cases z<;>first|rfl|exact absurd rfl (h _)
def qkl{z:E}(h:∀i,z≠.var i)(cl:Cl)(N:Env):qhN z (iR cl z) N=(iR cl z N).th λx=>match x.1 with
  |.val d=>.ok (.val d)
  |.tmp l=>.ok (.tmp l)
  |_=>.no:=by
 cases z<;>first|rfl|exact absurd rfl (h _)
def qkm{z:E}(h:∀i,z≠.var i)(cl:Cl)(N:Env):qek z (iR cl z) N=(iR cl z N).th λx=>match x.1 with
  |.val d=>.ok (.val d,x.2)
  |.tmp l=>.ok (.own l,x.2)
  |_=>.no:=by
 cases z<;>first|rfl|exact absurd rfl (h _)
abbrev XW:=af->List (Str×D)->Prop
def X0:XW:=λz z=>False
def Wx{α:Type}(Ξ:XW)(x:R α)(f:α->Prop):Prop:=match x with
 |.ok a=>f a
 |.exc c l=>Ξ c l
 |.no=>False
section
variable{α M:Type}{Ξ Ξ':XW}
def Wx.th{x:R α}{g:α->R M}{f:M->Prop}(h:Wx Ξ (x.th g) f):Wx Ξ x λa=>Wx Ξ (g a) f:=by cases x<;>exact h
theorem Wx.mono{x:R α}{f g:α->Prop}(h:Wx Ξ x f)(i:∀a,f a->g a):Wx Ξ x g:=by
 cases x with
 |ok a=>exact i a h
 |exc c l=>exact h
 |no=>exact h
theorem Wx.mono2{x:R α}{f g:α->Prop}(h:Wx Ξ x f)(j:∀c l,Ξ c l->Ξ' c l)(i:∀a,f a->g a):Wx Ξ' x g:=by
 cases x with
 |ok a=>exact i a h
 |exc c l=>exact j c l h
 |no=>exact h
theorem Wx.of{x:Option α}{f:α->Prop}(h:Wx Ξ (R.of x) f):∃a,x=some a/\f a:=by
 cases x with
 |none=>exact h.elim
 |some a=>exact⟨a,rfl,h⟩
def Wx.iff{c:Prop}[Decidable c]{x:R α}{f:α->Prop}(h:Wx Ξ (if c then x else .no) f):c/\Wx Ξ x f:=by
 by_cases hc:c
 .rw[if_pos hc]at h;exact⟨hc,h⟩
 .rw[if_neg hc]at h;exact h.elim
theorem Wx.ifx{b:Bool}{x:R α}{f:α->Prop}(h:Wx Ξ (ifX b x) f):Wx Ξ x f:=by
 cases b with
 |true=>exact h
 |false=>
  cases x with
  |ok a=>exact h
  |exc c l=>exact h.elim
  |no=>exact h
theorem Wx.nox{x:R α}{f:α->Prop}(h:Wx Ξ (noX x) f):Wx Ξ' x f:=by
 cases x with
 |ok a=>exact h
 |exc c l=>exact h.elim
 |no=>exact h
end
def qrD(U:KC)(G:Hp)(od:Option af)(l:List (Str×D)):Prop:=False
def XP(U:KC)(Gv Hv:Hp)(ε:XK):XW:=λC l=>∀od G' H',qo Hv H'->qo Gv G'->qo G' H'->(∀a o,G' a=some o->(∃o',Gv a=some o')\/Hv a=none)->qrD U G' od l->ε (.ref C) od H'
section
variable(U:KC)(K:Frag)(ε:XK)(Gv Hv:Hp)
def tR(f:Env->R (Rv×Env)):TE:=λZ H Q=>∃N G,ER U K Gv Hv G H N Z/\Wx (XP U Gv Hv ε) (f N) λx=>∀v G' H',Po U K Gv Hv Z G H N G' H' x.2->RvR U K Hv H G' H' x.2 Z x.1 v->Q v H'
def tE(f:Env->R (D×Env)):TE:=λZ H Q=>∃N G,ER U K Gv Hv G H N Z/\Wx (XP U Gv Hv ε) (f N) λx=>∀v G' H',Po U K Gv Hv Z G H N G' H' x.2->Rep U G' x.1 v->Q v H'
def tT(f:Env->R (Bool×Env)):TT:=λZ H Q=>∃N G,ER U K Gv Hv G H N Z/\Wx (XP U Gv Hv ε) (f N) λx=>∀G' H',Po U K Gv Hv Z G H N G' H' x.2->Q x.1 H'
def tEs(f:Env->R (List D×Env)):TA:=λZ H Q=>∃N G,ER U K Gv Hv G H N Z/\Wx (XP U Gv Hv ε) (f N) λx=>∀vs G' H',Po U K Gv Hv Z G H N G' H' x.2->qi U G' x.1 vs->Q vs H'
def ArR(G H:Hp):Ar->V->Prop
 |.val d,v=>Rep U G d v
 |.bor ds,v=>∃a xs,v=.ref a/\H a=some (.lst xs)/\qi U G ds xs
 |.scr ds,v=>∃a xs,v=.ref a/\SqL K H a xs/\qi U G ds xs
def Yq(G H:Hp):List Ar->List V->Prop
 |[],vs=>vs=[]
 | a::l,vs=>∃v r,vs=v::r/\ArR U K G H a v/\Yq G H l r
def tAs(f:Env->R (List Ar×Env)):TA:=λZ H Q=>∃N G,ER U K Gv Hv G H N Z/\Wx (XP U Gv Hv ε) (f N) λx=>∀vs G' H',Po U K Gv Hv Z G H N G' H' x.2->Yq U K G' H' x.1 vs->Q vs H'
def tO(f:Env->R (Option Int×Env)):TO:=λZ H Q=>∃N G,ER U K Gv Hv G H N Z/\Wx (XP U Gv Hv ε) (f N) λx=>∀G' H',Po U K Gv Hv Z G H N G' H' x.2->Q x.1 H'
def SrR(G:Hp)(s:Sk×List D)(v:V):Prop:=match s.1 with
 |.str=>∃x,v=.str x/\s.2=qhG x
 |.tup=>∃a xs,v=.ref a/\qi U G s.2 xs/\G a=some (.tup xs)
 |.lst=>∃a xs,v=.ref a/\qi U G s.2 xs/\(G a=some (.lst xs)\/SqL K Hv a xs)
def tL(f:Env->R ((Sk×List D)×Env)):TE:=λZ H Q=>∃N G,ER U K Gv Hv G H N Z/\Wx (XP U Gv Hv ε) (f N) λx=>∀v G' H',Po U K Gv Hv Z G H N G' H' x.2->SrR U K Hv G' x.1 v->Q v H'
def ItR(G₁:Hp)(J:It)(l:List D):Prop:=∀(i:Nat) (G H:Hp),qo G₁ G->qo Hv H->qo G H->
 (∀d,l[i]?=some d->J.go i H/\∀x H',J.yld i H x H'->∃G',qo H H'/\qo G G'/\qo G' H'/\(∀a o,G' a=some o->(∃o',G a=some o')\/H a=none)/\Rep U G' d x)/\(l.length=i->J.stop i H)
def tI(f:Env->R (List D×Env)):TI:=λZ H Q=>∃N G,ER U K Gv Hv G H N Z/\Wx (XP U Gv Hv ε) (f N) λx=>∀J G' H',Po U K Gv Hv Z G H N G' H' x.2->ItR U Hv G' J x.1->Q J H'
def ReR(G' H' H:Hp):Rv->V->Prop
 |.val d,v=>Rep U G' d v
 |.tmp ds,v=>∃a xs,v=.ref a/\H' a=some (.lst xs)/\H a=none/\G' a=none/\qi U G' ds xs
 |z,y=>False
def spF(cl:Str->List Ar->R Rv)(f:Str):Sp:=λvs H Q E=>∃G args,qo G H/\Yq U K G H args vs/\
 Wx (XP U G H E) (cl f args) λr=>∀v G' H',qo H H'->qo G G'->qo G' H'->(∀a o,G' a=some o->(∃o',G a=some o')\/H a=none)->ReR U G' H' H r v->Q v H'
end
def qfx:List Str:=["len","list","tuple","int","bool","str","max","min","isinstance","range","enumerate","zip","sorted","sum","reversed","all","any","dict","set"]
structure Gd(U:KC)(K:Frag)(ε:XK)(k:Nat)(X:Cx)(L:Ct):Prop where
 ps:jx CX0 X ε
 hN:X.N=L.N
 vis:∀x,qmA L.sc x=true->Vis X.env.scope x
 loc:∀x,qmB L.sc x=true->L2.Loc X.env.scope x/\(X.fn x=true\/X.env.scope.names.lookup x=some .local)
 glo:∀x,glB L.sc x=true->Gl X x
 cf:∀x,(L.sc.names.lookup x=some .cell\/L.sc.names.lookup x=some .free)->X.env.kindOf x=some .cell\/X.env.kindOf x=some .free
 nd:L.N.Nodup
 calm:X.calm=true
 hK:X.K=K
 room:Room k X.A
 fns:∀f,L.tab.contains f=true->∃fa fd ps,FnOk X.prog X.w X.K X.mg X.base CX0 k fa fd ps (spF U K L.cl f)/\X.mg f=some (.ref fa)/\dO X.K (.ref fa)=true/\zn X.K fd ps []
 blt:∀f∈qfx,X.mg f=none
 gl:∀x d,L.gl x=some d->∃v u,X.mg x=some u/\qF v u/\∀G,Rep U G d v
 cls:∀c C,U c=some C->Cls X.K C
 flds:∀c x C,L.cs.fld c x=true->U c=some C->qY X.K C x
 mts:∀c x f,L.cs.mt c x=some f->∃C fa fd ps,U c=some C/\Meth X.K C x fa/\FnOk X.prog X.w X.K X.mg X.base CX0 k fa fd ps (spF U K L.cl f)/\zn X.K fd ps []
 mks:∀f,L.cs.tab.contains f=true->(L.y=false/\∀args,L.nw f args=.no)\/∃C fa fd ps sp,Mk X.K C fa/\FnOk X.prog X.w X.K X.mg X.base CX0 (k - 1) fa fd ps sp/\X.mg f=some (.ref C)/\zn X.K fd ps []/\0 < k/\
  ∀vs H Q E,spF U K L.nw f vs H Q E->∀x dx,H x=none->H dx=none->dx≠x->sp (.ref x::vs) (upd (upd H dx (.own x)) x (.ins C dx [])) (λv H2=>v=.non/\Q (.ref x) H2) E
 subs:∀c t b,L.cs.sub c t=some b->∃C T,U c=some C/\(∀H p dx fs,H p=some (HO.ins C dx fs)->TyOf X.K H (.ref p) (.ref C))/\X.mg t=some (.ref T)/\dz X.K (.ref C) (.ref T)=some b
def PE.imp{X:Cx}{e:ag}{t t':TE}(h:PE X e t')(i:∀Z H Q,t Z H Q->t' Z H Q):PE X e t:=λpins s Z H Q I hw=>h pins s Z H Q I (i Z H Q hw)
def PT.imp{X:Cx}{e:ag}{t t':TT}(h:PT X e t')(i:∀Z H Q,t Z H Q->t' Z H Q):PT X e t:=λpins s Z H Q I hw=>h pins s Z H Q I (i Z H Q hw)
def PA.imp{X:Cx}{es:List ag}{t t':TA}(h:PA X es t')(i:∀Z H Q,t Z H Q->t' Z H Q):PA X es t:=λpos pins s Z H Q I hw=>h pos pins s Z H Q I (i Z H Q hw)
def PO.imp{X:Cx}{o:Option ag}{t t':TO}(h:PO X o t')(i:∀Z H Q,t Z H Q->t' Z H Q):PO X o t:=λpins s Z H Q I hw=>h pins s Z H Q I (i Z H Q hw)
def PIf.imp{X:Cx}{es:List ag}{t t':TT}(h:PIf X es t')(i:∀Z H Q,t Z H Q->t' Z H Q):PIf X es t:=λpins s Z H Q I hw=>h pins s Z H Q I (i Z H Q hw)
def PI.imp{X:Cx}{tg e:ag}{t t':TI}(h:PI X tg e t')(i:∀Z H Q,t Z H Q->t' Z H Q):PI X tg e t:=λpins s Z H Q I hw=>h pins s Z H Q I (i Z H Q hw)
theorem ZQ:∀{N:List Str} {x:Str} {i:Nat},qeD N x=some i->N[i]?=some x
 |[],x,i,h=>by cases h
 | y::r,x,i,h=>by
  unfold qeD at h
  by_cases e:y=x
  .rw[if_pos e]at h;cases h;rw[e];rfl
  .rw[if_neg e]at h
   cases q:qeD r x with
   |none=>rw[q]at h;cases h
   |some j=>rw[q]at h;cases h;show(y::r)[j+1]?=some x;rw[List.getElem?_cons_succ];exact ZQ q
def jN{x:Str}(h:jM x=true):(x == ("__debug__" : Str))=false/\(x == ("__classdict__" : Str))=false/\x≠"__name__":=by unfold jM at h;simp![aM,dH]at h;refine{h.1.1,h.1.2,λz=>?_};rw[z]at h;exact absurd h.2 (2:)
def qiY{sc:bw}{x:Str}(h:qmA sc x=true):Vis sc x:=by
 unfold qmA at h;unfold Vis
 split at h
 .rename_i e;exact .inl e
 .rename_i e;exact .inr (.inl e)
 .rename_i e;exact .inr (.inr e)
 .cases h
def qfy{sc:bw}{x:Str}(h:qmB sc x=true):L2.Loc sc x:=by
 unfold qmB at h;unfold L2.Loc
 split at h
 .rename_i e;exact .inl e
 .rename_i e;exact .inr e
 .cases h
def qf{e:ag}{es:List ag}{env:PySem.Env}(h:qE e=false):aP (e::es) env=(false,eval e env)::aP es env:=by cases e<;>first|rfl|(simp[qE]at h)
section
variable{U:KC}{ε:XK}{K:Frag}{Gv Hv:Hp}{k:Nat}{X:Cx}{L:Ct}
def ER.notOwn{G H:Hp}{N:Env}{Z:St}(er:ER U K Gv Hv G H N Z){a:af}(h:H a=none):¬ qch N Z a:=λ⟨i,l,e,w,z⟩=>by let(b,u,z',h1,_):=(er.sl i _ e).ow w;rw[z]at z';cases z';rw[h]at h1;cases h1
def ER.newList{G H:Hp}{N:Env}{Z:St}(er:ER U K Gv Hv G H N Z){a:af}{xs:List V}{l:List D}(h:H a=none)(r:qi U G l xs) :
  Po U K Gv Hv Z G H N G (upd H a (.lst xs)) N/\RvR U K Hv H G (upd H a (.lst xs)) N Z (.tmp l) (.ref a):=
 ⟨Po.room er (qo.upd h),a,xs,rfl,qe,h,qo.none er.base h,qo.none er.sub h,er.notOwn h,r⟩
def YW(gd:Gd U K ε k X L){x:Str}{i:Nat}(h:qbZ L x=some i)(pos:Pos):PE X (.Name x pos) (qoR i):=by unfold qbZ at h;let(hc,h):=ql h;rw[aM]at hc;let(n1,n2,n3):=jN hc.1;exact qeI (i:=i) (by rw[gd.hN];exact ZQ h) (gd.vis x hc.2) n1 n2
theorem ZU(gd:Gd U K ε k X L){x:Str}{z:E}(h:qci L x=some z)(pos:Pos):(∃i,z=.var i/\PE X (.Name x pos) (qoR i))\/∃d v,z=.con d/\(∀G,Rep U G d v)/\PE X (.Name x pos) (tC v):=by
 unfold qci at h;let(hok,h):=ql h;let(n1,n2,n3):=jN hok
 cases hi:qeD L.N x with
 |some i=>rw[hi]at h;let(hv,h):=ql h;cases h;exact .inl ⟨i,rfl,qeI (i:=i) (by rw[gd.hN];exact ZQ hi) (gd.vis x hv) n1 n2⟩
 |none=>rw[hi]at h;let(hg,h):=ql h;let(d,hd,rfl):=map_some h;let(v,u,e1,e2,e3):=gd.gl x d hd;exact .inr ⟨d,v,rfl,e3,Zq (gd.glo x hg) e1 e2 n1⟩
def qhP(gd:Gd U K ε k X L){x:Str}{z:E}(h:qci L x=some z)(pos:Pos):PE X (.Name x pos) (tR U K ε Gv Hv (iR L.k z)):=by
 rcases ZU gd h pos with ⟨i,rfl,P⟩|⟨d,v,rfl,e3,P⟩
 .refine PE.imp P λZ H Q hq1=>?_;refine ex4 hq1 λN G er h=>?_;have h:=Wx.th (x:=slR N i) h;unfold slR at h
  cases q:N[i]? with
  |none=>rw[q]at h;exact h.elim
  |some s=>
   rw[q]at h;have w:=er.sl i s q
   cases s with
   |no=>exact h.elim
   |dic ks l=>exact h.elim
   |val d=>let(v,z,r):=w;exact{v,z,h v G H (Po.refl er) r}
   |own l=>let(a,xs,z,r1,r2,r3,r4):=w;exact{_,z,h _ G H (Po.refl er) ⟨a,xs,rfl,r1,r4⟩}
   |bor l=>let(a,xs,z,r1,r4):=w;exact{_,z,h _ G H (Po.refl er) {a,xs,rfl,er.base _ _ r1,r4}}
   |scr l=>let(a,xs,z,r1,r4):=w;exact{_,z,h _ G H (Po.refl er) {a,xs,rfl,er.base.seq r1,r4}}
 .refine PE.imp P λZ H Q hz3=>?_;refine ex4 hz3 λN G er h=>?_;exact h v G H (Po.refl er) (e3 G)
def qc6(gd:Gd U K ε k X L){x:Str}{z:E}(h:qci L x=some z)(pos:Pos):PE X (.Name x pos) (tE U K ε Gv Hv (jh z (iR L.k z))):=by
 rcases ZU gd h pos with ⟨i,rfl,P⟩|⟨d,v,rfl,e3,P⟩
 .refine PE.imp P λZ H Q hq1=>?_;refine ex4 hq1 λN G er h=>?_;have h:Wx _ (slE N i) _:=h;unfold slE at h
  cases q:N[i]? with
  |none=>rw[q]at h;exact h.elim
  |some s=>
   rw[q]at h;have w:=er.sl i s q
   cases s with
   |val d=>let(v,z,r):=w;exact{v,z,h v G H (Po.refl er) r}
   |own l=>let(a,xs,z,p,r):=er.froze q;exact{_,z,h _ _ H p r}
   |dic ks l=>let(a,xs,z,p,r):=er.frozeD q;exact{_,z,h _ _ H p r}
   |_=>exact h.elim
 .refine PE.imp P λZ H Q hz4=>?_;refine ex4 hz4 λN G er h=>?_;exact h v G H (Po.refl er) (e3 G)
end
section
variable{U:KC}{ε:XK}{Ξ:XW}{K:Frag}{Gv Hv Hb Hc G H:Hp}{N:Env}{Z:St}{r s:Rv}{x y:V}
theorem RvR.int{i:Int}(h:RvR U K Hv Hb G H N Z r x)(e:r.int?=some i):x=.int i:=by
 cases r with
 |val d=>cases d<;>simp![Rv.int?]at e<;>first|(cases e;simpa only[RvR,Rep] using h)|cases e
 |_=>cases e
theorem RvR.str{i:Str}(h:RvR U K Hv Hb G H N Z r x)(e:r.str?=some i):x=.str i:=by
 cases r with
 |val d=>cases d<;>simp![Rv.str?]at e<;>first|(cases e;simpa only[RvR,Rep] using h)|cases e
 |_=>cases e
theorem RvR.bl{i:Bool}(h:RvR U K Hv Hb G H N Z r x)(e:r.bl?=some i):x=.bl i:=by
 cases r with
 |val d=>cases d<;>simp![Rv.bl?]at e<;>first|(cases e;simpa only[RvR,Rep] using h)|cases e
 |_=>cases e
theorem RvR.tup{l:List D}(h:RvR U K Hv Hb G H N Z r x)(e:r.tup?=some l):∃a xs,x=.ref a/\G a=some (.tup xs)/\qi U G l xs:=by
 cases r with
 |val d=>cases d<;>simp![Rv.tup?]at e<;>first|(cases e;simpa only[RvR,Rep] using h)|cases e
 |_=>cases e
theorem RvR.seq(er:ER U K Gv Hv G H N Z){l:List D}(h:RvR U K Hv Hb G H N Z r x)(e:seqD r=some l):∃a xs,x=.ref a/\(SqL K H a xs\/SqT K H a xs)/\qi U G l xs:=by
 unfold seqD at e
 cases q:r.tup? with
 | some l'=>rw[q]at e;cases e;let(a,xs,e1,e2,e3):=h.tup q;exact{a,xs,e1,.inr (SqT.of (er.sub _ _ e2)),e3}
 |none=>rw[q]at e;let(a,xs,e1,e2,e3):=h.list er e;exact{a,xs,e1,.inl e2,e3}
mutual
theorem Rep.dv(sub:qo G H):∀{d:D} {v:V} {p:eu},Rep U G d v->toP d=some p->DV K H p v
 |.non,v,p,h,e=>by simp![toP]at e;cases e;simp![Rep]at h;simp![DV];exact h
 |.bl b,v,p,h,e=>by simp![toP]at e;cases e;simp![Rep]at h;simp![DV];exact h
 |.int b,v,p,h,e=>by simp![toP]at e;cases e;simp![Rep]at h;simp![DV];exact h
 |.str b,v,p,h,e=>by simp![toP]at e;cases e;simp![Rep]at h;simp![DV];exact h
 |.lst l,v,p,h,e=>by simp![toP]at e;let(ps,e1,rfl):=bM.mp e;simp![Rep]at h;let(a,xs,rfl,h1,h2):=h;simp![DV];exact{a,xs,rfl,SqL.of (sub _ _ h1),qi.dvs sub h2 e1}
 |.tup l,v,p,h,e=>by simp![toP]at e;let(ps,e1,rfl):=bM.mp e;simp![Rep]at h;let(a,xs,rfl,h1,h2):=h;simp![DV];exact{a,xs,rfl,SqT.of (sub _ _ h1),qi.dvs sub h2 e1}
 |.ins c ns l,v,p,h,e=>by simp![toP]at e;cases e
 |.exc c ns l,v,p,h,e=>by simp![toP]at e;cases e
 |.dct ns l,v,p,h,e=>by simp![toP]at e;cases e
theorem qi.dvs(sub:qo G H):∀{ds:List D} {vs:List V} {ps:List eu},qi U G ds vs->qeC ds=some ps->DVs K H ps vs
 |[],vs,ps,h,e=>by simp![qeC]at e;cases e;simp![qi]at h;simp![DVs];exact h
 | d::ds,vs,ps,h,e=>by simp![qeC]at e;let(p,e1,e2):=eh.mp e;let(qs,e3,rfl):=bM.mp e2;simp![qi]at h;let(x,r,rfl,h1,h2):=h;simp![DVs];exact{x,r,rfl,Rep.dv sub h1 e1,qi.dvs sub h2 e3}
end
theorem RvR.dv(er:ER U K Gv Hv G H N Z){p:eu}(h:RvR U K Hv Hb G H N Z r x)(e:toP r.data=some p):DV K H p x:=by
 have lst:∀{l:List D} {a:af} {xs:List V},SqL K H a xs->qi U G l xs->toP (.lst l)=some p->DV K H p (.ref a):=λ{l a xs} hq hr e=>by simp![toP]at e;let(ps,e1,rfl):=bM.mp e;simp![DV];exact{a,xs,rfl,hq,qi.dvs er.sub hr e1}
 cases r with
 |val d=>exact Rep.dv er.sub h e
 |tmp l=>let(a,xs,rfl,h1,_,_,_,_,h6):=h;exact lst (SqL.of h1) h6 e
 |cell l=>let(a,xs,rfl,h1,h6):=h;exact lst (SqL.of h1) h6 e
 |scr l=>let(a,xs,rfl,h1,h6):=h;exact lst h1 h6 e
def qc7{d:D}{v:V}(h:Rep U G d v)(f:QA d=true):v=flV d/\YF v=true:=by
 cases d<;>simp![QA]at f<;>try (exact absurd f (2:))
 all_goals (simp![Rep]at h;subst h;exact⟨rfl,rfl⟩)
theorem qbf:∀{l:List D} {vs:List V},qi U G l vs->l.all QA=true->vs=l.map flV/\vs.all YF=true
 |[],vs,h,f=>by simp![qi]at h;subst h;exact⟨rfl,rfl⟩
 | d::l,vs,h,f=>by simp![qi]at h;let(x,r,rfl,h1,h2):=h;simp![fN,aM]at f;let(e1,e2):=qc7 h1 f.1;let(e3,e4):=qbf h2 f.2;subst e1 e3;exact{rfl,by simp![fN,e2,e4,lQ]}
theorem qkn(h:RvR U K Hv Hb G H N Z r x)(f:QA r.data=true):x=flV r.data/\YF x=true:=by
 cases r with
 |val d=>exact qc7 h f
 |_=>simp![Rv.data,QA]at f;exact absurd f (2:)
theorem qcj{f:Int->Int->R Rv}{F:Rv->Prop}(h:Wx Ξ (int2 r s f) F):∃i j,r.int?=some i/\s.int?=some j/\Wx Ξ (f i j) F:=by
 unfold int2 at h
 cases e1:r.int? with
 |none=>rw[e1]at h;exact h.elim
 |some i=>
  cases e2:s.int? with
  |none=>rw[e1,e2]at h;exact h.elim
  |some j=>rw[e1,e2]at h;exact⟨i,j,rfl,rfl,h⟩
def qc8{l:List D}{xs:List V}{i:Int}{d:D}(h:qi U G l xs)(e:atI l i=some d):∃v,atI xs i=some v/\Rep U G d v:=by unfold atI at e ⊢;rw[<-h.len];let(j,e1,e2):=eh.mp e;let(v,e3,e4):=h.atD e2;exact{v,by rw[e1];exact e3,e4}
def qhQ{l:List D}{xs:List V}{lo hi:Option Int}(h:qi U G l xs):qi U G (qaB l lo hi) (qlp xs lo hi):=by unfold qaB qlp;rw[h.len];exact(h.drop _).take _
end
section
variable(U:KC)(K:Frag)(Ξ:XW)(Gv Hv:Hp)
def qo3(op:cP):R2:=λx y H Q=>∃(N:Env) (Z:St) (G Hb Hc:Hp) (r s:Rv),ER U K Gv Hv G H N Z/\RvR U K Hv Hb G H N Z r x/\RvR U K Hv Hc G H N Z s y/\
 Wx Ξ (QO op r s) λz=>∀v G' H',Po U K Gv Hv Z G H N G' H' N->RvR U K Hv H G' H' N Z z v->Q v H'
def qqv(op:aY):R2:=λx y H Q=>∃(N:Env) (Z:St) (G Hb Hc:Hp) (r s:Rv) (b:Bool),ER U K Gv Hv G H N Z/\RvR U K Hv Hb G H N Z r x/\RvR U K Hv Hc G H N Z s y/\Yo op r s=some b/\Q (.bl b) H
def qrE(neg:Bool):R2:=λx y H Q=>∃(N:Env) (Z:St) (G Hb Hc:Hp) (r s:Rv) (b:Bool),ER U K Gv Hv G H N Z/\RvR U K Hv Hb G H N Z r x/\RvR U K Hv Hc G H N Z s y/\qgQ r s=some b/\Q (.bl (if neg then !b else b)) H
def qrF:R2:=λx y H Q=>∃(N:Env) (Z:St) (G Hb Hc:Hp) (r s:Rv),ER U K Gv Hv G H N Z/\RvR U K Hv Hb G H N Z r x/\RvR U K Hv Hc G H N Z s y/\
 Wx Ξ (idxD r s) λz=>∀v G' H',Po U K Gv Hv Z G H N G' H' N->RvR U K Hv H G' H' N Z z v->Q v H'
def qrG:V->Option Int->Option Int->Hp->VK->Prop:=λx lo hi H Q=>∃(N:Env) (Z:St) (G Hb:Hp) (r:Rv),ER U K Gv Hv G H N Z/\RvR U K Hv Hb G H N Z r x/\
 Wx Ξ (sliceD r lo hi) λz=>∀v G' H',Po U K Gv Hv Z G H N G' H' N->RvR U K Hv H G' H' N Z z v->Q v H'
def rC1(f:Rv->R Rv):List V->Hp->VK->Prop:=λxs H Q=>∃(N:Env) (Z:St) (G Hb:Hp) (r:Rv) (x:V),xs=[x]/\ER U K Gv Hv G H N Z/\RvR U K Hv Hb G H N Z r x/\
 Wx Ξ (f r) λz=>∀v G' H',Po U K Gv Hv Z G H N G' H' N->RvR U K Hv H G' H' N Z z v->Q v H'
def rC2(f:Rv->Rv->R Rv):List V->Hp->VK->Prop:=λxs H Q=>∃(N:Env) (Z:St) (G Hb Hc:Hp) (r s:Rv) (x y:V),xs=[x,y]/\ER U K Gv Hv G H N Z/\RvR U K Hv Hb G H N Z r x/\RvR U K Hv Hc G H N Z s y/\
 Wx Ξ (f r s) λz=>∀v G' H',Po U K Gv Hv Z G H N G' H' N->RvR U K Hv H G' H' N Z z v->Q v H'
end
section
variable{U:KC}{ε:XK}{Ξ:XW}{K:Frag}{Gv Hv:Hp}{k:Nat}{X:Cx}{L:Ct}
def ZV(op:cP){f:Int->Int->R Rv}{C:Int->Int->Prop}{g:Int->Int->Int}(hop:OpR X (cm op) (rI C λi j=>.int (g i j)))(hf:∀r s,QO op r s=int2 r s f)(hw:∀i j F,Wx Ξ (f i j) F->C i j/\F (.val (.int (g i j)))) :
  OpR X (cm op) (qo3 U K Ξ Gv Hv op):=by
 rintro pins st Z' H x y v u Q I rx ry ⟨N,Z,G,Hb,Hc,r,s,er,h1,h2,h⟩;rw[hf]at h;let(i,j,e1,e2,h):=qcj h;let(hc,h):=hw i j _ h;exact hop pins st Z' H x y v u Q I rx ry ⟨i,j,h1.int e1,h2.int e2,hc,h _ G H (Po.refl er) (by simp![RvR,Rep])⟩
def qpK{f:ae->ae->Sem ae}{g:Int->Int->V}(h:OpR X f (rI0 g)):OpR X f (rI (λz z=>True) g):=λpins st Z' H x y v u Q I rx ry ⟨i,j,e1,e2,z,q⟩=>h pins st Z' H x y v u Q I rx ry ⟨i,j,e1,e2,q⟩
theorem qmI:OpR X (cm .Add) (qo3 U K Ξ Gv Hv .Add):=by
 rintro pins st Z' H x y v u Q I rx ry ⟨N,Z,G,Hb,Hc,r,s,er,h1,h2,h⟩;have h:Wx Ξ (qpD r s) _:=h;unfold qpD at h
 have cat:Wx Ξ (match r.plain?,s.plain? with
   |some l,some m=>if l.length+m.length<=sizeLine then R.ok (Rv.tmp (l++m)) else .no
   |t,q=>.no) (λz=>∀v G' H',Po U K Gv Hv Z G H N G' H' N->RvR U K Hv H G' H' N Z z v->Q v H')->ak (av X.prog X.w) X.A (cm .Add v u) (EP X pins Z' Q) X.xe st:=λh=>by
  cases e1:r.plain? with
  |none=>rw[e1]at h;exact h.elim
  |some l=>
   cases e2:s.plain? with
   |none=>rw[e1,e2]at h;exact h.elim
   |some m=>rw[e1,e2]at h;let(hz,h):=Wx.iff h;let(a,xs,q1,q2,q3):=h1.plain er e1;let(b,ys,p1,p2,p3):=h2.plain er e2;refine ql1 pins st Z' H x y v u Q I rx ry ⟨a,b,xs,ys,q1,p1,q2,p2,by rw[<-q3.len,<-p3.len];exact hz,λp hp=>?_⟩;let(z1,z2):=er.newList hp (q3.app p3);exact h _ _ _ z1 z2
 have txt:Wx Ξ (match r.str?,s.str? with
   |some a,some b=>if a.length+b.length<=sizeLine then R.ok (Rv.val (.str (a++b))) else .no
   |t,q=>match r.plain?,s.plain? with
    |some l,some m=>if l.length+m.length<=sizeLine then R.ok (Rv.tmp (l++m)) else .no
    |t,q=>.no) (λz=>∀v G' H',Po U K Gv Hv Z G H N G' H' N->RvR U K Hv H G' H' N Z z v->Q v H')->ak (av X.prog X.w) X.A (cm .Add v u) (EP X pins Z' Q) X.xe st:=λh=>by
  cases e1:r.str? with
  |none=>rw[e1]at h;exact cat h
  |some l=>
   cases e2:s.str? with
   |none=>rw[e1,e2]at h;exact cat h
   |some m=>rw[e1,e2]at h;let(hz,h):=Wx.iff h;exact qdZ pins st Z' H x y v u Q I rx ry ⟨l,m,h1.str e1,h2.str e2,hz,h _ G H (Po.refl er) (by simp![RvR,Rep])⟩
 cases e1:r.int? with
 |none=>rw[e1]at h;exact txt h
 |some i=>
  cases e2:s.int? with
  |none=>rw[e1,e2]at h;exact txt h
  |some j=>rw[e1,e2]at h;exact qlJ pins st Z' H x y v u Q I rx ry ⟨i,j,h1.int e1,h2.int e2,h _ G H (Po.refl er) (by simp![RvR,Rep])⟩
def qko{i j:Int}(h:Qz i j=true):qoT i j:=by unfold Qz at h;simp![eg,aM,decide_eq_true_eq]at h;exact h
theorem qmJ:OpR X (cm .Mult) (qo3 U K Ξ Gv Hv .Mult):=by
 rintro pins st Z' H x y v u Q I rx ry ⟨N,Z,G,Hb,Hc,r,s,er,h1,h2,h⟩;have h:Wx Ξ (qpE r s) _:=h;unfold qpE at h
 cases e2:s.int? with
 |none=>cases e1:r.int?<;>rw[e1,e2]at h<;>exact h.elim
 |some j=>
  cases e1:r.int? with
  |some i=>rw[e1,e2]at h;let(hm,h):=Wx.iff h;exact qlL pins st Z' H x y v u Q I rx ry ⟨i,j,h1.int e1,h2.int e2,qko hm,h _ G H (Po.refl er) (by simp![RvR,Rep])⟩
  |none=>rw[e1,e2]at h;exact h.elim
theorem qmK(op:cP):OpR X (cm op) (qo3 U K Ξ Gv Hv op):=by
 cases op with
 |Add=>exact qmI
 |Sub=>exact ZV .Sub (qpK qlK) (λz z=>rfl) λi j F h=>⟨trivial,h⟩
 |Mult=>exact qmJ
 |FloorDiv=>
  refine ZV .FloorDiv qg1 (λz z=>rfl) λi j F h=>?_
  by_cases hp:0 < j/\j < 1073741824
  .rw[if_pos hp]at h;rw[lR i (1:)];exact{{by lia,by lia},h}
  .rw[if_neg hp]at h;let(hc,h):=Wx.iff h;exact{{by lia,by lia},h}
 |Mod=>
  refine ZV .Mod qjA (λz z=>rfl) λi j F h=>?_
  by_cases hp:0 < j
  .rw[if_pos hp]at h;rw[lS i (1:)];exact{by lia,h}
  .rw[if_neg hp]at h;let(hc,h):=Wx.iff h;exact{by lia,h}
 |Pow=>exact ZV .Pow qlM (λz z=>rfl) λi j F h=>{(Wx.iff h).1,(Wx.iff h).2}
 |_=>exactλz z z z z z z z z z z z h=>fm h λz h=>fm h λz h=>fm h λz h=>fm h λz h=>fm h λz h=>fm h λz h=>fm h λz h=>h.2.2.2.elim
theorem ZX(op:aY){g:Int->Int->Bool}(hop:OpR X (bO op) (rI0 λi j=>.bl (g i j)))(hf:∀r s,Yo op r s=qlq r s g):OpR X (bO op) (qqv U K Gv Hv op):=by
 rintro pins st Z' H x y v u Q I rx ry ⟨N,Z,G,Hb,Hc,r,s,b,er,h1,h2,h,q⟩;rw[hf]at h;unfold qlq at h
 cases e1:r.int? with
 |none=>rw[e1]at h;cases h
 |some i=>
  cases e2:s.int? with
  |none=>rw[e1,e2]at h;cases h
  |some j=>rw[e1,e2]at h;cases h;exact hop pins st Z' H x y v u Q I rx ry ⟨i,j,h1.int e1,h2.int e2,q⟩
theorem qiZ{x y:D}{b:Bool}(h:eqD x y=some b):∃p q,toP x=some p/\toP y=some q/\bJ p=true/\bJ q=true/\b=cg p q:=by
 unfold eqD at h
 cases e1:toP x with
 |none=>rw[e1]at h;cases h
 |some p=>
  cases e2:toP y with
  |none=>rw[e1,e2]at h;cases h
  |some q=>
   rw[e1,e2]at h;dsimp only at h
   by_cases hs:(bJ p&&bJ q)=true
   .rw[if_pos hs]at h;cases h;rw[aM]at hs;exact⟨p,q,rfl,rfl,hs.1,hs.2,rfl⟩
   .rw[if_neg hs]at h;cases h
theorem qck{G H Hb:Hp}{N:Env}{Z:L2.St}{r:Rv}{v:V}{k:Key}(h:RvR U K Hv Hb G H N Z r v)(e:keyD r=some k):v=kV k:=by
 cases r with
 |val d=>cases d<;>simp![keyD]at e<;>cases e<;>(simp![RvR,Rep]at h;subst h;rfl)
 |_=>cases e
theorem qcl(k:Key):∀(ks:List Key) (xs:List V),xs.length=ks.length->((ks.zip xs).any λkv=>decide (kv.1=k))=QP ks k
 |[],z,y=>rfl
 | a::ks,x::xs,h=>by rw[fo,c8,qcl k ks xs (-h:),QP,QP,c8]
 | z::y,[],h=>by cases h
theorem qi0(gd:Gd U K ε k X L)(neg:Bool)(op:aY)(hs:OpR X (bO op) (λx y H Q=>∃i j,x=.str i/\y=.str j/\Q (.bl (if neg then !qlr i j else qlr i j)) H))(hl:OpR X (bO op) (rIn X.K neg)):OpR X (bO op) (qrE U K Gv Hv neg):=by
 rintro pins st Z' H x y v u Q I rx ry ⟨N,Z,G,Hb,Hc,r,s,b',er,h1,h2,h,q⟩;unfold qgQ at h
 have sq:(seqD s).bind (inD r.data)=some b'->ak (av X.prog X.w) X.A (bO op v u) (EP X pins Z' Q) X.xe st:=λh=>by
  let(l,e1,e2):=eh.mp h;unfold inD at e2
  by_cases hc:(QA r.data&&l.all QA)=true
  .rw[if_pos hc]at e2;cases e2;rw[aM]at hc;let(a,xs,p1,p2,p3):=h2.seq er e1;let(f1,f2):=qkn h1 hc.1;let(f3,f4):=qbf p3 hc.2;refine hl pins st Z' H x y v u Q I rx ry ⟨a,xs,p1,by rw[gd.hK];exact p2,f2,f4,?_⟩;rw[f1,f3];exact q
  .rw[if_neg hc]at e2;cases e2
 cases e1:r.str? with
 |none=>rw[e1]at h;exact sq h
 |some i=>
  cases e2:s.str? with
  |none=>rw[e1,e2]at h;exact sq h
  |some j=>rw[e1,e2]at h;cases h;exact hs pins st Z' H x y v u Q I rx ry ⟨i,j,h1.str e1,h2.str e2,q⟩
theorem qfz{G:Hp}:∀{l:List D} {xs:List V} {ns:List Int},qi U G l xs->qbb l=some ns->xs=ns.map V.int
 |[],xs,ns,r,h=>by simp![qi]at r;subst r;cases h;rfl
 | d::l,xs,ns,r,h=>by
  simp![qi]at r;let(x,us,rfl,r1,r2):=r
  cases d with
  |int i=>unfold qbb at h;let(ms,e1,rfl):=bM.mp h;simp![Rep]at r1;rw[r1,qfz r2 e1];rfl
  |_=>cases h
theorem qc9(gd:Gd U K ε k X L)(op:aY):OpR X (bO op) (qqv U K Gv Hv op):=by
 have hu:X.A.units+64 < du:=by have:=gd.room.un;lia
 cases op with
 |Eq=>rintro pins st Z' H x y v u Q I rx ry ⟨N,Z,G,Hb,Hc,r,s,b,er,h1,h2,h,q⟩;let(p,p',e1,e2,e3,e4,rfl):=qiZ h;exact qme hu pins st Z' H x y v u Q I rx ry ⟨p,p',by rw[gd.hK];exact h1.dv er e1,by rw[gd.hK];exact h2.dv er e2,e3,e4,q⟩
 |NotEq=>rintro pins st Z' H x y v u Q I rx ry ⟨N,Z,G,Hb,Hc,r,s,b,er,h1,h2,h,q⟩;let(b',h',rfl):=bM.mp h;let(p,p',e1,e2,e3,e4,rfl):=qiZ h';exact qmf hu pins st Z' H x y v u Q I rx ry ⟨p,p',by rw[gd.hK];exact h1.dv er e1,by rw[gd.hK];exact h2.dv er e2,e3,e4,q⟩
 |Lt=>exact ZX .Lt qpn λz z=>rfl
 |LtE=>exact ZX .LtE qpo λz z=>rfl
 |Gt=>exact ZX .Gt qpp λz z=>rfl
 |GtE=>exact ZX .GtE qpq λz z=>rfl
 |Is=>rintro pins st Z' H x y v u Q I rx ry ⟨N,Z,G,Hb,Hc,r,s,b,er,h1,h2,h,q⟩;cases h
 |IsNot=>rintro pins st Z' H x y v u Q I rx ry ⟨N,Z,G,Hb,Hc,r,s,b,er,h1,h2,h,q⟩;cases h
 |In=>
  rintro pins st Z' H x y v u Q I rx ry ⟨N,Z,G,Hb,Hc,r,s,b,er,h1,h2,h,q⟩
  by_cases hd:∃ks ds,s=.val (.dct ks ds)
  .let(ks,ds,rfl):=hd;have h:(keyD r).map (QP ks)=some b:=h;let(k',e1,rfl):=bM.mp h;simp![RvR,Rep]at h2;let(a,xs,rfl,g1,g2,g3):=h2;obtain rfl:u=bj a:=ry;have hu:X.A.units+1 < du:=by have:=gd.room.un;omega
   rw[qck h1 e1]at rx;have e2:(qa3 (kvX ks xs) k').isSome=QP ks k':=(ZC k' (kvX ks xs)).symm.trans (qcl k' ks xs g2);exact qrl hu I (qj5.k (k:=k') (er.sub _ _ g1)) rx λs' I'=>{.bl (QP ks k'),H,I',by rw[e2];rfl,q}
  .have e:inK r s=qgQ r s:=by
    cases s with
    |val d=>cases d<;>first|rfl|exact absurd ⟨_,_,rfl⟩ hd
    |_=>rfl
   exact qi0 gd false .In qeP qeX pins st Z' H x y v u Q I rx ry ⟨N,Z,G,Hb,Hc,r,s,b,er,h1,h2,e.symm.trans h,q⟩
 |NotIn=>rintro pins st Z' H x y v u Q I rx ry ⟨N,Z,G,Hb,Hc,r,s,b,er,h1,h2,h,q⟩;let(b',e,rfl):=bM.mp (show(qgQ r s).map (!·)=some b from h);exact qi0 gd true .NotIn qaI qaS pins st Z' H x y v u Q I rx ry ⟨N,Z,G,Hb,Hc,r,s,b',er,h1,h2,e,q⟩
theorem qda{G:Hp}{x:Str}{d:D}:∀{ns:List Str} {ds:List D} {xs:List V},qi U G ds xs->(ns.zip ds).lookup x=some d->∃v,(ns.zip xs).lookup x=some v/\Rep U G d v
 |[],z,y,w,h=>by simp at h
 | n::ns,[],z,y,h=>by simp at h
 | n::ns,e::ds,xs,r,h=>by
  simp![qi]at r;let(v,us,rfl,r1,r2):=r;rw[fo,bC]at h
  cases hx:(x == n) with
  |true=>rw[hx]at h;cases h;exact{v,by rw[fo,bC,hx],r1}
  |false=>rw[hx]at h;let(u,z1,z2):=qda r2 h;exact{u,by rw[fo,bC,hx];exact z1,z2}
theorem qfA{G:Hp}(k:Key):∀{ks:List Key} {ds:List D} {xs:List V},qi U G ds xs->match atK ks ds k with |some d=>∃u,qa3 (kvX ks xs) k=some u/\Rep U G d u |none=>qa3 (kvX ks xs) k=none
 |[],ds,xs,h=>rfl
 | a::ks,[],xs,h=>by simp![qi]at h;subst h;rfl
 | a::ks,d::ds,xs,h=>by
  simp![qi]at h;let(x,r,rfl,h1,h2):=h;have ih:=qfA (ks:=ks) k h2;show match (if a=k then some d else atK ks ds k) with |some d=>∃u,qa3 ((a,x)::kvX ks r) k=some u/\Rep U G d u |none=>qa3 ((a,x)::kvX ks r) k=none
  by_cases e:a=k
  .rw[if_pos e,Yh e];exact⟨x,rfl,h1⟩
  .rw[if_neg e,Yi e];exact ih
def qkp{G H:Hp}{N:Env}{Z:L2.St}{j:Nat}{p:List Key×List D}(er:ER U K Gv Hv G H N Z)(e:qeE N j=some p):∃a xs,Z[j]?=some (some (.ref a))/\H a=some (.dK (kvX p.1 xs))/\xs.length=p.1.length/\qi U G p.2 xs:=by
 unfold qeE at e
 split at e
 .rename_i e1;cases e;let(a,xs,z,h1,_,_,h5,h4):=er.sl j _ e1;exact⟨a,xs,z,h1,h5,h4⟩
 .rename_i e1;cases e;let(v,z,r):=er.sl j _ e1;simp![Rep]at r;let(a,xs,rfl,h1,h5,h4):=r;exact{a,xs,z,er.sub _ _ h1,h5,h4}
 .cases e
theorem qmL(gd:Gd U K ε k X L):IxR X (qrF U K Ξ Gv Hv):=by
 rintro value slice pins st Z' H x y v u Q I rx ry ⟨N,Z,G,Hb,Hc,r,s,er,h1,h2,h⟩ hs;unfold idxD at h
 cases e1:s.int? with
 |none=>rw[e1]at h;exact ax h
 |some i=>
  rw[e1]at h;dsimp only at h
  cases e2:r.str? with
  |some z=>
   rw[e2]at h;dsimp only at h;let(hz,h):=Wx.iff h
   cases e3:atI z.cps.toList i with
   |none=>rw[e3]at h;exact h.elim
   |some c=>rw[e3]at h;exact qlW value slice pins st Z' H x y v u Q I rx ry ⟨z,i,c,h1.str e2,h2.int e1,hz,e3,h _ G H (Po.refl er) (by simp![RvR,Rep])⟩ hs
  |none=>
   rw[e2]at h;dsimp only at h
   cases e3:seqD r with
   |none=>rw[e3]at h;exact h.elim
   |some l=>
    rw[e3]at h;dsimp only at h
    cases e4:atI l i with
    |none=>rw[e4]at h;exact h.elim
    |some d=>
     rw[e4]at h;let(a,xs,p1,p2,p3):=h1.seq er e3;let(w,p4,p5):=qc8 p3 e4;rcases p2 with p2|p2
     .exact qjN value slice pins st Z' H x y v u Q I rx ry ⟨a,xs,i,w,p1,h2.int e1,by rw[gd.hK];exact p2,p4,h w G H (Po.refl er) p5⟩ hs
     .exact qiK value slice pins st Z' H x y v u Q I rx ry ⟨a,xs,i,w,p1,h2.int e1,by rw[gd.hK];exact p2,p4,h w G H (Po.refl er) p5⟩ hs
theorem qmM(gd:Gd U K ε k X L):L2.SlR X (qrG U K Ξ Gv Hv):=by
 rintro pins st Z' H x v vl vu lo hi sl Q I rx hs pl pu ⟨N,Z,G,Hb,r,er,h1,h⟩;unfold sliceD at h
 cases e2:r.str? with
 |some z=>rw[e2]at h;exact ax h
 |none=>rw[e2]at h;dsimp only at h;let(l,e1,h):=Wx.of (Wx.th h);let(a,xs,p1,p2,p3):=h1.list er e1;refine qjO pins st Z' H x v vl vu lo hi sl Q I rx hs pl pu ⟨a,xs,p1,by rw[gd.hK];exact p2,λp hp=>?_⟩;let(z1,z2):=er.newList hp (qhQ (lo:=lo) (hi:=hi) p3);exact h _ _ _ z1 z2
theorem qmN(gd:Gd U K ε k X L):zd X (.builtin "len") (rC1 U K Ξ Gv Hv lenD):=by
 rintro pins st Z' H xs us Q I rs ⟨N,Z,G,Hb,r,x,hx,er,h1,h⟩;unfold lenD at h
 cases e2:r.str? with
 |some z=>rw[e2]at h;dsimp only at h;let(hz,h):=Wx.iff h;exact qaT pins st Z' H xs us Q I rs ⟨z,by rw[hx,h1.str e2],hz,h _ G H (Po.refl er) (by simp![RvR,Rep])⟩
 |none=>
  rw[e2]at h;dsimp only at h
  cases e3:seqD r with
  |none=>rw[e3]at h;exact h.elim
  |some l=>rw[e3]at h;let(a,ys,p1,p2,p3):=h1.seq er e3;refine JB pins st Z' H xs us Q I rs ⟨a,ys,by rw[hx,p1],by rw[gd.hK];exact p2,?_⟩;rw[<-p3.len];exact h _ G H (Po.refl er) (by simp![RvR,Rep])
theorem qkq(gd:Gd U K ε k X L):zd X (.type "list") (rC1 U K Ξ Gv Hv listD):=by
 rintro pins st Z' H xs us Q I rs ⟨N,Z,G,Hb,r,x,hx,er,h1,h⟩;unfold listD at h
 cases e3:seqD r with
 |none=>
  rw[e3]at h;have h:Wx _ (qhJ r) _:=h
  by_cases hd:∃ks ds,r=.val (.dct ks ds)
  .let(ks,ds,rfl):=hd;have h:Wx _ (R.ok (.tmp (ks.map qmC)):R Rv) _:=h;simp![RvR,Rep]at h1;let(a,ys,rfl,g1,g2,g3):=h1;refine qei gd.calm pins st Z' H xs us Q I rs ⟨a,_,hx,er.sub _ _ g1,λp hp=>?_⟩
   have rk:∀(ks:List Key) (ys:List V),ys.length=ks.length->qi U G (ks.map qmC) ((kvX ks ys).map λkv=>kV kv.1):=by
    intro ks
    induction ks with
    |nil=>intro ys _;cases ys<;>simp![kvX,List.zip_nil_left,aH,qi]
    |cons k ks ih=>
     intro ys hl
     cases ys with
     |nil=>cases hl
     |cons y ys=>exact qi.cons (by cases k<;>simp![qmC,Rep]<;>rfl) (ih ys (-hl:))
   let(z1,z2):=er.newList hp (rk ks ys g2);exact h _ _ _ z1 z2
  .have e:qhJ r=.no:=by
    cases r with
    |val d=>cases d<;>first|rfl|exact absurd ⟨_,_,rfl⟩ hd
    |_=>rfl
   rw[e]at h;exact h.elim
 |some l=>rw[e3]at h;let(a,ys,p1,p2,p3):=h1.seq er e3;refine jL pins st Z' H xs us Q I rs ⟨a,ys,by rw[hx,p1],by rw[gd.hK];exact p2,λp hp=>?_⟩;let(z1,z2):=er.newList hp p3;exact h _ _ _ z1 z2
def qel(a b c:Int×Int)(h1:QQ a b=true)(h2:QQ b c=true):QQ a c=true:=by
 simp![QQ,eg,aM,decide_eq_true_eq]at *
 lia
def qem(a b:Int×Int):(QQ a b||QQ b a)=true:=by
 simp![QQ,eg,aM,decide_eq_true_eq]at *
 lia
def qhR{ps qs:List (Int×Int)}(p:qs.Perm ps)(s:qs.Pairwise qfc):qK ps=qs:=by
 have s1:(qK ps).Pairwise λa b=>QQ a b=true:=gM qel qem ps
 have s2:qs.Pairwise λa b=>QQ a b=true:=s.imp λ{a b} h=>by simp![QQ,eg,aM,decide_eq_true_eq];exact h
 refine mO (λa b z z h1 h2=>?_) s1 s2 ((fq ps QQ).trans p.symm);simp![QQ,eg,aM,decide_eq_true_eq]at h1 h2;exact Prod.ext (1:) (1:)
theorem qdb{G:Hp}:∀{l:List D} {xs:List V} {ps:List (Int×Int)},qi U G l xs->qhK l=some ps->bq (λx (p:Int×Int)=>∃a,x=V.ref a/\G a=some (.tup [.int p.1,.int p.2])) xs ps
 |[],xs,ps,r,h=>by simp![qi]at r;subst r;cases h;exact .nil
 | d::l,xs,ps,r,h=>by
  simp![qi]at r;let(x,us,rfl,r1,r2):=r;unfold qhK at h
  cases e1:prD d with
  |none=>rw[e1]at h;cases h
  |some p=>
   cases e2:qhK l with
   |none=>rw[e1,e2]at h;cases h
   |some qs=>
    rw[e1,e2]at h;cases h;refine .cons ?_ (qdb r2 e2)
    cases qmD e1
    simp![Rep,qi]at r1;let(a,ys,rfl,h1,x1,z1,rfl,rfl,x2,z2,rfl,rfl,rfl):=r1;exact⟨a,rfl,h1⟩
theorem Paired.memL{α M:Type}{R:α->M->Prop}:∀{l:List α} {m:List M},bq R l m->∀a∈l,∃b,R a b
 |_,_,.nil,a,h=>by cases h
 |_,_,.cons r rs,a,h=>by
  cases h with
  |head=>exact{_,r}
  |tail z h=>exact Paired.memL rs a h
theorem qen{G H:Hp}(sub:qo G H){xs:List V}(f:∀x∈xs,∃p:Int×Int,∃a,x=V.ref a/\G a=some (.tup [.int p.1,.int p.2])){ys:List V}{qs:List (Int×Int)}(hm:∀y∈ys,y∈xs)(h:bq (P2 K H) ys qs):qi U G (qs.map pD) ys:=by
 induction h with
 |nil=>exact .nil
 |cons r rs ih=>refine .cons ?_ (ih λz hz=>hm z (bH _ hz));let(p,a,rfl,ga):=f _ (hm _ (bX ..));let(b,eb,hb):=r;cases eb;rw[sub _ _ ga]at hb;rw[hb]at ga;simp![pD,Rep,qi];exact{a,_,rfl,ga,_,_,rfl,rfl,_,_,rfl,rfl,rfl}
theorem qfB(gd:Gd U K ε k X L):zd X (.builtin "sorted") (rC1 U K Ξ Gv Hv YT):=by
 rintro pins st Z' H xs us Q I rs ⟨N,Z,G,Hb,r,x,hx,er,h1,h⟩;unfold YT at h
 cases e3:r.list? with
 |none=>rw[e3]at h;exact h.elim
 |some l=>
  rw[e3]at h;dsimp only at h
  cases e4:qhK l with
  |none=>rw[e4]at h;exact h.elim
  |some ps=>
   rw[e4]at h;dsimp only at h;let(h64,h):=Wx.iff h;let(a,ys,p1,p2,p3):=h1.list er e3;have pr:=qdb p3 e4
   have pr2:bq (P2 X.K H) ys ps:=by
    have:∀{ys:List V} {ps:List (Int×Int)},bq (λx (p:Int×Int)=>∃a,x=V.ref a/\G a=some (.tup [.int p.1,.int p.2])) ys ps->bq (P2 X.K H) ys ps:=by
     intro ys ps q
     induction q with
     |nil=>exact .nil
     |cons r rs ih=>let(a,e,ga):=r;exact .cons ⟨a,e,er.sub _ _ ga⟩ ih
    exact this pr
   refine qa0 pins st Z' H xs us Q I rs ⟨a,ys,ps,by rw[hx,p1],by rw[gd.hK];exact p2,pr2,λp zs qs hp z1 z2 z3 z4=>?_⟩;have e5:qK ps=qs:=qhR z3 z4
   have rr:qi U G ((qK ps).map pD) zs:=by rw[e5];refine qen (K:=X.K) er.sub (λx hx=>?_) (λy hy=>z2.mem_iff.mp hy) z1;let(p,hp):=Paired.memL pr x hx;exact⟨p,hp⟩
   let(w1,w2):=er.newList hp rr;exact h _ _ _ w1 w2
theorem qi1{G:Hp}:∀{l:List D} {xs:List V} {ns:List Bool},qi U G l xs->qhI l=some ns->xs=ns.map V.bl
 |[],xs,ns,r,h=>by simp![qi]at r;subst r;cases h;rfl
 | d::l,xs,ns,r,h=>by
  simp![qi]at r;let(x,us,rfl,r1,r2):=r
  cases d with
  |bl i=>unfold qhI at h;let(ms,e1,rfl):=bM.mp h;simp![Rep]at r1;rw[r1,qi1 r2 e1];rfl
  |_=>cases h
theorem qmO(gd:Gd U K ε k X L):zd X (.builtin "all") (rC1 U K Ξ Gv Hv qoX):=by
 rintro pins st Z' H xs us Q I rs ⟨N,Z,G,Hb,r,x,hx,er,h1,h⟩;unfold qoX at h
 cases e3:r.list? with
 |none=>rw[e3]at h;exact h.elim
 |some l=>
  rw[e3]at h;dsimp only at h
  cases e4:qhI l with
  |none=>rw[e4]at h;exact h.elim
  |some ns=>rw[e4]at h;let(a,ys,p1,p2,p3):=h1.list er e3;rw[qi1 p3 e4]at p2;exact qfh gd.calm pins st Z' H xs us Q I rs ⟨a,ns,by rw[hx,p1],by rw[gd.hK];exact p2,h _ G H (Po.refl er) (by simp![RvR,Rep])⟩
theorem qdc{G:Hp}:∀{l:List D} {xs:List V} {ps:List (Str×Int)},qi U G l xs->qgR l=some ps->bq (λx (p:Str×Int)=>∃a,x=V.ref a/\G a=some (.tup [.str p.1,.int p.2])) xs ps
 |[],xs,ps,r,h=>by simp![qi]at r;subst r;cases h;exact .nil
 | d::l,xs,ps,r,h=>by
  simp![qi]at r;let(x,us,rfl,r1,r2):=r;unfold qgR at h
  cases e1:kvD d with
  |none=>rw[e1]at h;cases h
  |some p=>
   cases e2:qgR l with
   |none=>rw[e1,e2]at h;cases h
   |some qs=>
    rw[e1,e2]at h;cases h;refine .cons ?_ (qdc r2 e2)
    cases qmE e1
    simp![Rep,qi]at r1;let(a,ys,rfl,h1,x1,z1,rfl,rfl,x2,z2,rfl,rfl,rfl):=r1;exact⟨a,rfl,h1⟩
theorem qdd{G:Hp}:∀kvs:List (Str×Int),qi U G (kvs.map λp=>D.int p.2) (kvs.map λp=>V.int p.2)
 |[]=>by simp![aH,qi]
 | p::kvs=>qi.cons (by simp![Rep]) (qdd kvs)
theorem qkr(gd:Gd U K ε k X L):zd X (.type "dict") (rC1 U K Ξ Gv Hv qoY):=by
 rintro pins st Z' H xs us Q I rs ⟨N,Z,G,Hb,r,x,hx,er,h1,h⟩;unfold qoY at h
 cases e3:r.list? with
 |none=>rw[e3]at h;exact h.elim
 |some l=>
  rw[e3]at h;dsimp only at h
  cases e4:qgR l with
  |none=>rw[e4]at h;exact h.elim
  |some kvs=>rw[e4]at h;let(hn,h):=Wx.iff h;let(a,ys,p1,p2,p3):=h1.list er e3;refine qee gd.calm pins st Z' H xs us Q I rs ⟨a,ys,kvs,by rw[hx,p1],by rw[gd.hK];exact p2,Paired.mapP (qdc p3 e4) λz y ⟨c,w1,w2⟩=>{c,w1,er.sub _ _ w2},hn,λq hq=>?_⟩;refine h _ _ _ (Po.lay er hq) ?_;simp![RvR,Rep];refine{q,kvs.map λp=>.int p.2,rfl,by rw[qe];unfold kvX;rw[List.zip_map'];rfl,by simp,qdd kvs}
theorem qmP:zd X (.type "int") (rC1 U K Ξ Gv Hv intD):=by
 rintro pins st Z' H xs us Q I rs ⟨N,Z,G,Hb,r,x,hx,er,h1,h⟩;unfold intD at h
 cases e3:r.int? with
 |some i=>rw[e3]at h;exact qaJ pins st Z' H xs us Q I rs (.inl ⟨i,by rw[hx,h1.int e3],h _ G H (Po.refl er) (by simp![RvR,Rep])⟩)
 |none=>
  rw[e3]at h;dsimp only at h
  cases e4:r.bl? with
  |none=>rw[e4]at h;exact ax h
  |some b=>rw[e4]at h;exact qaJ pins st Z' H xs us Q I rs (.inr ⟨b,by rw[hx,h1.bl e4],h _ G H (Po.refl er) (by simp![RvR,Rep])⟩)
def qmQ(gd:Gd U K ε k X L):zd X (.builtin "max") (rC2 U K Ξ Gv Hv maxD):=by rintro pins st Z' H xs us Q I rs ⟨N,Z,G,Hb,Hc,r,s,x,y,hx,er,h1,h2,h⟩;let(i,j,e1,e2,h):=qcj h;exact qeQ gd.calm pins st Z' H xs us Q I rs ⟨i,j,by rw[hx,h1.int e1,h2.int e2],h _ G H (Po.refl er) (by simp![RvR,Rep])⟩
def qmR(gd:Gd U K ε k X L):zd X (.builtin "min") (rC2 U K Ξ Gv Hv minD):=by rintro pins st Z' H xs us Q I rs ⟨N,Z,G,Hb,Hc,r,s,x,y,hx,er,h1,h2,h⟩;let(i,j,e1,e2,h):=qcj h;exact qeR gd.calm pins st Z' H xs us Q I rs ⟨i,j,by rw[hx,h1.int e1,h2.int e2],h _ G H (Po.refl er) (by simp![RvR,Rep])⟩
theorem qhS(gd:Gd U K ε k X L){G H Hb:Hp}{N:Env}{Z:St}{r:Rv}{x:V}{b:Bool}(er:ER U K Gv Hv G H N Z)(h:RvR U K Hv Hb G H N Z r x)(e:truthD r=some b):qoU X.K x H b:=by
 have sq:∀{r:Rv},RvR U K Hv Hb G H N Z r x->(seqD r).map (λl=>!l.isEmpty)=some b->qoU X.K x H b:=λ{r} h e=>by
  let(l,e1,rfl):=bM.mp e;let(a,xs,rfl,p2,p3):=h.seq er e1
  have hl:(!l.isEmpty) = !xs.isEmpty:=by
   have:=p3.len
   cases l<;>cases xs<;>simp_all
  rw[hl,gd.hK];rcases p2 with p2|p2
  .exact .inl ⟨xs,p2,rfl⟩
  .exact .inr (.inl ⟨xs,p2,rfl⟩)
 cases r with
 |val d=>
  cases d with
  |non=>simp![RvR,Rep]at h;subst h;simp![truthD]at e;cases e;exact rfl
  |bl c=>simp![RvR,Rep]at h;subst h;simp![truthD]at e;cases e;exact rfl
  |int c=>simp![RvR,Rep]at h;subst h;simp![truthD]at e;cases e;exact rfl
  |str c=>
   simp![RvR,Rep]at h;subst h;simp![truthD]at e
   by_cases hz:c.length<=sizeLine
   .rw[if_pos hz]at e;cases e;exact⟨hz,rfl⟩
   .rw[if_neg hz]at e;cases e
  |lst l=>exact sq h e
  |tup l=>exact sq h e
  |ins c ns l=>exact sq h e
  |exc c ns l=>exact sq h e
  |dct ns l=>exact sq h e
 |tmp l=>exact sq h e
 |cell l=>exact sq h e
 |scr l=>exact sq h e
end
open PySem.Spec PyProof.Rows
structure All(U:KC)(K:Frag)(ε:XK)(k:Nat)(X:Cx)(L:Ct)(m:Nat):Prop where
 r:∀Gv Hv e x,cE m L e=some x->PE X e (tR U K ε Gv Hv (iR L.k x))
 e:∀Gv Hv e x,cX m L e=some x->PE X e (tE U K ε Gv Hv (jh x (iR L.k x)))
 t:∀Gv Hv e x,cT m L e=some x->PT X e (tT U K ε Gv Hv (iT L.k x))
 es:∀Gv Hv e x,cEs m L e=some x->PA X e (tEs U K ε Gv Hv (iEs L.k x))
 as:∀Gv Hv e x,cAs m L e=some x->PA X e (tAs U K ε Gv Hv (iAs L.k x))
 o:∀Gv Hv e x,cO m L e=some x->PO X e (tO U K ε Gv Hv (iO L.k x))
 f:∀Gv Hv e x,cF m L e=some x->PIf X e (tT U K ε Gv Hv (iF L.k x))
 l:∀Gv Hv e x,cL m L e=some x->PE X e (tL U K ε Gv Hv (yN x (iR L.k x)))
 i:∀Gv Hv tg e x,cI m L (qhM tg) e=some x->PI X tg e (tI U K ε Gv Hv (iI L.k x))
section
variable{U:KC}{ε:XK}{K:Frag}{Gv Hv:Hp}{k m:Nat}{X:Cx}{L:Ct}{x:E}
def qrH:All U K ε k X L 0:={ r:=(λz z z z h=>nomatch h),e:=(λz z z z h=>nomatch h),t:=(λz z z z h=>nomatch h),es:=(λz z z z h=>nomatch h),as:=(λz z z z h=>nomatch h),o:=(λz z z z h=>nomatch h),f:=(λz z z z h=>nomatch h),l:=(λz z z z h=>nomatch h),i:=(λz z z z z h=>nomatch h) }
theorem qde(c:Const)(j:Nat)(pos:Pos)(h:qiX c=some x):PE X (.Constant c j pos) (tR U K ε Gv Hv (iR L.k x)):=by
 cases c with
 |none=>cases h;exact PE.imp qly λZ H Q ⟨N,G,er,h⟩=>h _ G H (Po.refl er) (by simp![RvR,Rep])
 |bool b=>cases h;exact PE.imp qpa λZ H Q ⟨N,G,er,h⟩=>h _ G H (Po.refl er) (by simp![RvR,Rep])
 |int b=>cases h;exact PE.imp QJ λZ H Q ⟨N,G,er,h⟩=>h _ G H (Po.refl er) (by simp![RvR,Rep])
 |str b=>cases h;exact PE.imp qlz λZ H Q ⟨N,G,er,h⟩=>h _ G H (Po.refl er) (by simp![RvR,Rep])
 |_=>cases h
def qhT(A:All U K ε k X L m)(a b:ag)(op:cP)(pos:Pos)(h:cE (m+1) L (.BinOp a op b pos)=some x):PE X (.BinOp a op b pos) (tR U K ε Gv Hv (iR L.k x)):=by let(a',b',h1,h2,rfl):=qj h;refine PE.imp (qpk (qmK (Ξ:=XP U Gv Hv ε) (U:=U) (K:=K) (Gv:=Gv) (Hv:=Hv) op) (A.r Gv Hv _ _ h1) (A.r Gv Hv _ _ h2)) λZ H Q hq1=>?_;refine ex4 hq1 λN G er h=>?_;refine{N,G,er,Wx.mono (Wx.th (x:=iR L.k a' N) h) λx h v G1 H1 p1 r1=>{x.2,G1,p1.er,Wx.mono (Wx.th (x:=iR L.k b' x.2) h) λy h w G2 H2 p2 r2=>?_}};exact{y.2,Z,G2,H,H1,x.1,y.1,p2.er,r1.keep p2,r2,Wx.mono (Wx.th h) λz h u G3 H3 p3 r3=>h u G3 H3 (p1.trans (p2.trans p3)) (r3.back (p1.trans p2).hs)}
theorem qmS(A:All U K ε k X L m)(a:ag)(pos:Pos)(h:cE (m+1) L (.UnaryOp .USub a pos)=some x):PE X (.UnaryOp .USub a pos) (tR U K ε Gv Hv (iR L.k x)):=by
 let(a',h1,rfl):=map_some h;refine PE.imp (qpl qlN (A.r Gv Hv _ _ h1)) λZ H Q hq1=>?_;refine ex4 hq1 λN G er h=>?_;refine{N,G,er,Wx.mono (Wx.th (x:=iR L.k a' N) h) λx h v G1 H1 p1 r1=>?_};let(rv,N1):=x
 cases rv with
 |val d=>
  cases d with
  |int i=>exact{i,by simpa only[RvR,Rep] using r1,h _ G1 H1 p1 (by simp![RvR,Rep])}
  |_=>exact ax h
 |_=>exact ax h
theorem qks(A:All U K ε k X L m)(a:ag)(pos:Pos)(h:cE (m+1) L (.UnaryOp .Not a pos)=some x):PE X (.UnaryOp .Not a pos) (tR U K ε Gv Hv (iR L.k x)):=by
 let(a',h1,rfl):=map_some h;refine PE.imp (qlD (A.r Gv Hv _ _ h1)) λZ H Q hq1=>?_;refine ex4 hq1 λN G er h=>?_;refine{N,G,er,Wx.mono (Wx.th (x:=iR L.k a' N) h) λx h v G1 H1 p1 r1=>?_};let(rv,N1):=x
 cases rv with
 |val d=>
  cases d with
  |bl i=>exact{i,by simpa only[RvR,Rep] using r1,h _ G1 H1 p1 (by simp![RvR,Rep])}
  |_=>exact ax h
 |_=>exact ax h
def qkt(gd:Gd U K ε k X L)(A:All U K ε k X L m)(a b:ag)(op:aY)(pos:Pos)(h:cE (m+1) L (.Compare a [op] [b] pos)=some x):PE X (.Compare a [op] [b] pos) (tR U K ε Gv Hv (iR L.k x)):=by let(hm,h):=ql h;let(a',b',h1,h2,rfl):=qj h;refine PE.imp (qjB (qc9 (Gv:=Gv) (Hv:=Hv) gd op) (A.r Gv Hv _ _ h1) (A.r Gv Hv _ _ h2) (-hm:)) λZ H Q hq1=>?_;refine ex4 hq1 λN G er h=>?_;refine{N,G,er,Wx.mono (Wx.th (x:=iR L.k a' N) h) λx h v G1 H1 p1 r1=>{x.2,G1,p1.er,Wx.mono (Wx.th (x:=iR L.k b' x.2) h) λy h w G2 H2 p2 r2=>?_}};let(c,e,h):=Wx.of (Wx.th h);exact{y.2,Z,G2,H,H1,x.1,y.1,c,p2.er,r1.keep p2,r2,e,h _ G2 H2 (p1.trans p2) (by simp![RvR,Rep])}
def qku(gd:Gd U K ε k X L)(A:All U K ε k X L m)(a b:ag)(op:aY)(pos:Pos){x:T}(h:cT (m+1) L (.Compare a [op] [b] pos)=some x):PT X (.Compare a [op] [b] pos) (tT U K ε Gv Hv (iT L.k x)):=by let(hm,h):=ql h;let(a',b',h1,h2,rfl):=qj h;refine PT.imp (qjC (qc9 (Gv:=Gv) (Hv:=Hv) gd op) (A.r Gv Hv _ _ h1) (A.r Gv Hv _ _ h2) (-hm:)) λZ H Q hq1=>?_;refine ex4 hq1 λN G er h=>?_;refine{N,G,er,Wx.mono (Wx.th (x:=iR L.k a' N) h) λx h v G1 H1 p1 r1=>{x.2,G1,p1.er,Wx.mono (Wx.th (x:=iR L.k b' x.2) h) λy h w G2 H2 p2 r2=>?_}};let(c,e,h):=Wx.of (Wx.th h);exact{y.2,Z,G2,H,H1,x.1,y.1,c,p2.er,r1.keep p2,r2,e,c,rfl,h G2 H2 (p1.trans p2)}
theorem qfC(gd:Gd U K ε k X L)(A:All U K ε k X L m)(a b c:ag)(op op':aY)(pos:Pos){x:T}(h:cT (m+1) L (.Compare a [op,op'] [b,c] pos)=some x):PT X (.Compare a [op,op'] [b,c] pos) (tT U K ε Gv Hv (iT L.k x)):=by
 let(hm,h):=ql h;let(a',q,h1,h2,rfl):=qj h;let(b',c',h3,h4,rfl):=qj h2;refine PT.imp (qg2 (qc9 (Gv:=Gv) (Hv:=Hv) gd op) (qc9 (Gv:=Gv) (Hv:=Hv) gd op') (A.r Gv Hv _ _ h1) (A.r Gv Hv _ _ h3) (A.r Gv Hv _ _ h4) (-hm:)) λZ H Q hq1=>?_;refine ex4 hq1 λN G er h=>?_;refine{N,G,er,Wx.mono (Wx.th (x:=iR L.k a' N) h) λx h v G1 H1 p1 r1=>{x.2,G1,p1.er,Wx.mono (Wx.th (x:=iR L.k b' x.2) h) λy h w G2 H2 p2 r2=>?_}};let(c1,e,h):=Wx.of (Wx.th h);refine{y.2,Z,G2,H,H1,x.1,y.1,c1,p2.er,r1.keep p2,r2,e,c1,rfl,?_}
 cases c1 with
 |true=>rw[if_pos rfl]at h ⊢;refine{y.2,G2,p2.er,Wx.mono (Wx.th (x:=iR L.k c' y.2) h) λz h w' G3 H3 p3 r3=>?_};let(c2,e2,h):=Wx.of (Wx.th h);exact{z.2,Z,G3,H1,H2,y.1,z.1,c2,p3.er,r2.keep p3,r3,e2,c2,rfl,h G3 H3 (p1.trans (p2.trans p3))}
 |false=>rw[if_neg (5:)]at h ⊢;exact{false,rfl,h G2 H2 (p1.trans p2)}
theorem qmT(A:All U K ε k X L m)(a b:ag)(l:List ag)(pos:Pos)(h:cE (m+1) L (.BoolOp .And (a::b::l) pos)=some x):PE X (.BoolOp .And (a::b::l) pos) (tR U K ε Gv Hv (iR L.k x)):=by
 let(a',b',h1,h2,rfl):=qj h;refine PE.imp (qlC (A.r Gv Hv _ _ h1) (A.r Gv Hv _ _ h2)) λZ H Q hq1=>?_;refine ex4 hq1 λN G er h=>?_;refine{N,G,er,Wx.mono (Wx.th (x:=iR L.k a' N) h) λx h v G1 H1 p1 r1=>?_};let(rv,N1):=x
 cases rv with
 |val d=>
  cases d with
  |bl c=>
   refine{c,by simpa only[RvR,Rep] using r1,?_}
   cases c with
   |true=>rw[if_pos rfl];exact{N1,G1,p1.er,Wx.mono h λy h w G2 H2 p2 r2=>h w G2 H2 (p1.trans p2) (r2.back p1.hs)}
   |false=>rw[if_neg (λz=>by cases z)];exact h _ G1 H1 p1 (by simp![RvR,Rep])
  |_=>exact ax h
 |_=>exact ax h
theorem qmU(A:All U K ε k X L m)(c a b:ag)(pos:Pos)(h:cE (m+1) L (.IfExp c a b pos)=some x):PE X (.IfExp c a b pos) (tR U K ε Gv Hv (iR L.k x)):=by
 let(c',q,h1,h2,rfl):=qj h;let(a',b',h3,h4,rfl):=qj h2;refine PE.imp (qgW (A.t Gv Hv _ _ h1) (A.r Gv Hv _ _ h3) (A.r Gv Hv _ _ h4)) λZ H Q hq1=>?_;refine ex4 hq1 λN G er h=>?_;refine{N,G,er,Wx.mono (Wx.th (x:=iT L.k c' N) h) λx h G1 H1 p1=>?_};let(d,N1):=x
 cases d with
 |true=>rw[if_pos rfl];exact{N1,G1,p1.er,Wx.mono h λy h w G2 H2 p2 r2=>h w G2 H2 (p1.trans p2) (r2.back p1.hs)}
 |false=>rw[if_neg (λz=>by cases z)];exact{N1,G1,p1.er,Wx.mono h λy h w G2 H2 p2 r2=>h w G2 H2 (p1.trans p2) (r2.back p1.hs)}
def QS{b:ag}(h:∀lo hi st p,b≠.Slice lo hi st p):qeW b:=λo i=>by cases b<;>first|rfl|exact absurd rfl (h _ _ _ _)
theorem qfD{G:Hp}{l:List D}{xs:List V}(r:qi U G l xs)(lo hi:Option Int)(n:Int):qi U G (QB l lo hi n) (ZB xs lo hi (some n)):=by
 unfold QB ZB;rw[r.len];generalize gn _ _ _=is
 induction is with
 |nil=>exact .nil
 |cons i is ih=>
  cases h:l[i]? with
  |none=>
   have h2:xs[i]?=none:=by rw[kU]at h ⊢;rw[<-r.len];exact h
   rw[c4,c4,h,h2];exact ih
  |some d=>let(v,h2,r2):=r.atD h;rw[c4,c4,h,h2];exact .cons r2 ih
def qmV{st:ag}{n:Int}(h:stN st=some n):2<=n/\∃j p,st=.Constant (.int n) j p:=by let(m,h1,h):=qB h;let(j,p,rfl):=qft h1;let(hn,h):=yP h;cases h;exact{hn,_,_,rfl}
def qmW(gd:Gd U K ε k X L)(A:All U K ε k X L m){a:ag}{lo hi:Option ag}{st:ag}(p pos:Pos)(h:((stN st).bind λn=>o2 (cE m L a) (o2 (cO m L lo) (cO m L hi) dm) λa p=>.stp n a p.1 p.2)=some x):PE X (.Subscript a (.Slice lo hi (some st) p) pos) (tR U K ε Gv Hv (iR L.k x)):=by let(n,hn,h6):=qB h;clear h;let(h2,j,sp,rfl):=qmV hn;let(a',q,h1,h3,rfl):=qj h6;let(l',u',h4,h5,rfl):=qj h3;refine PE.imp (qfi (A.r Gv Hv _ _ h1) (A.o Gv Hv _ _ h4) (A.o Gv Hv _ _ h5) QJ) λZ H Q hq1=>?_;refine ex4 hq1 λN G er h=>?_;refine{N,G,er,Wx.mono (Wx.th (x:=iR L.k a' N) h) λx h v G1 H1 p1 r1=>{x.2,G1,p1.er,Wx.mono (Wx.th (x:=iO L.k l' x.2) h) λy h G2 H2 p2=>{y.2,G2,p2.er,Wx.mono (Wx.th (x:=iO L.k u' y.2) h) λz h G3 H3 p3=>?_}}};let(l,e1,h):=Wx.of (Wx.th h);let(b,xs,rfl,q1,q2):=((r1.keep p2).keep p3).list p3.er e1;refine{b,xs,n,ZB xs y.1 z.1 (some n),rfl,by rw[gd.hK];exact q1,rfl,by lia,qhk _ _ _ _,YQ,λc hc=>?_};let(w1,w2):=p3.er.newList hc (qfD q2 y.1 z.1 n);exact h _ _ _ (p1.trans (p2.trans (p3.trans w1))) (w2.back (p1.trans (p2.trans p3)).hs)
theorem qmX(gd:Gd U K ε k X L)(A:All U K ε k X L m)(a b:ag)(pos:Pos)(h:cE (m+1) L (.Subscript a b pos)=some x):PE X (.Subscript a b pos) (tR U K ε Gv Hv (iR L.k x)):=by
 have gen:(∀lo hi st p,b≠.Slice lo hi st p)->o2 (cE m L a) (cE m L b) .idx=some x->PE X (.Subscript a b pos) (tR U K ε Gv Hv (iR L.k x)):=λhb h=>by let(a',b',h1,h2,rfl):=qj h;refine PE.imp (qlV (qmL (Ξ:=XP U Gv Hv ε) (Gv:=Gv) (Hv:=Hv) gd) (A.r Gv Hv _ _ h1) (A.r Gv Hv _ _ h2) (QS hb)) λZ H Q hq1=>?_;refine ex4 hq1 λN G er h=>?_;refine{N,G,er,Wx.mono (Wx.th (x:=iR L.k a' N) h) λx h v G1 H1 p1 r1=>{x.2,G1,p1.er,Wx.mono (Wx.th (x:=iR L.k b' x.2) h) λy h w G2 H2 p2 r2=>?_}};exact{y.2,Z,G2,H,H1,x.1,y.1,p2.er,r1.keep p2,r2,Wx.mono (Wx.th h) λz h u G3 H3 p3 r3=>h u G3 H3 (p1.trans (p2.trans p3)) (r3.back (p1.trans p2).hs)}
 cases b with
 |Slice lo hi st p=>
  cases st with
  |some st=>exact qmW gd A p pos h
  |none=>let(a',q,h1,h2,rfl):=qj h;let(l',u',h3,h4,rfl):=qj h2;refine PE.imp (qhc (qmM (Ξ:=XP U Gv Hv ε) (Gv:=Gv) (Hv:=Hv) gd) (A.r Gv Hv _ _ h1) (A.o Gv Hv _ _ h3) (A.o Gv Hv _ _ h4)) λZ H Q hq1=>?_;refine ex4 hq1 λN G er h=>?_;refine{N,G,er,Wx.mono (Wx.th (x:=iR L.k a' N) h) λx h v G1 H1 p1 r1=>{x.2,G1,p1.er,Wx.mono (Wx.th (x:=iO L.k l' x.2) h) λy h G2 H2 p2=>{y.2,G2,p2.er,Wx.mono (Wx.th (x:=iO L.k u' y.2) h) λz h G3 H3 p3=>?_}}};exact{z.2,Z,G3,H,x.1,p3.er,(r1.keep p2).keep p3,Wx.mono (Wx.th h) λu h w G4 H4 p4 r4=>h w G4 H4 (p1.trans (p2.trans (p3.trans p4))) (r4.back (p1.trans (p2.trans p3)).hs)}
 |_=>exact gen (λt t t t z=>by cases z) h
def qmY(A:All U K ε k X L m)(es:List ag)(pos:Pos)(h:cE (m+1) L (.List es pos)=some x):PE X (.List es pos) (tR U K ε Gv Hv (iR L.k x)):=by let(l,h1,rfl):=map_some h;refine PE.imp (qlT (A.es Gv Hv _ _ h1)) λZ H Q hq1=>?_;refine ex4 hq1 λN G er h=>?_;refine{N,G,er,Wx.mono (Wx.th (x:=iEs L.k l N) h) λx h vs G1 H1 p1 r1=>?_};let(hz,h):=Wx.iff h;refine{by rw[<-r1.len];exact hz,λp hp=>?_};let(z1,z2):=p1.er.newList hp r1;exact h _ _ _ (p1.trans z1) (z2.back p1.hs)
def qmZ(A:All U K ε k X L m)(es:List ag)(j:Nat)(pos:Pos)(h:cE (m+1) L (.Tuple es j pos)=some x):PE X (.Tuple es j pos) (tR U K ε Gv Hv (iR L.k x)):=by let(l,h1,rfl):=map_some h;refine PE.imp (qlS (A.es Gv Hv _ _ h1)) λZ H Q hq1=>?_;refine ex4 hq1 λN G er h=>?_;refine{N,G,er,Wx.mono (Wx.th (x:=iEs L.k l N) h) λx h vs G1 H1 p1 r1=>?_};let(hz,h):=Wx.iff h;refine{by rw[<-r1.len];exact hz,λp hp=>?_};have z1:=Po.lay (o:=.tup vs) p1.er hp;refine h _ _ _ (p1.trans z1) ?_;simp![RvR,Rep];exact{p,vs,rfl,qe,r1.same z1.gs}
theorem qrI(gd:Gd U K ε k X L)(A:All U K ε k X L m)(e:ag)(x:E)(h:cX (m+1) L e=some x):PE X e (tE U K ε Gv Hv (jh x (iR L.k x))):=by
 have gen:(cE m L e).bind ZO=some x->PE X e (tE U K ε Gv Hv (jh x (iR L.k x))):=λh=>by
  let(y,h1,h2):=eh.mp h;let(rfl,hv):=zU h2;refine PE.imp (A.r Gv Hv _ _ h1) λZ H Q hq1=>?_;refine ex4 hq1 λN G er h=>?_;rw[qkj hv]at h;refine{N,G,er,Wx.mono (Wx.th h) λx h v G1 H1 p1 r1=>?_};let(rv,N1):=x
  cases rv with
  |val d=>exact h v G1 H1 p1 r1
  |tmp l=>let(a,xs,rfl,h1,h2,h3,h4,h5,h6):=r1;have p2:=p1.freeze h1 h2 h3 h4 h5;refine h _ _ H1 p2 ?_;simp![Rep];exact{a,xs,rfl,qe,h6.same (qo.upd h4)}
  |_=>exact ax h
 cases e with
 |Name x pos=>exact qc6 gd h pos
 |_=>exact gen h
theorem qpL(A:All U K ε k X L m):∀es x,cEs (m+1) L es=some x->PA X es (tEs U K ε Gv Hv (iEs L.k x))
 |[],z,h=>by cases h;exact PA.imp qD λZ H Q ⟨N,G,er,h⟩=>h [] G H (Po.refl er) .nil
 | e::l,z,h=>by let(hs,h):=ql h;let(a',l',h1,h2,rfl):=qj h;refine PA.imp (qk (A.e Gv Hv _ _ h1) (A.es Gv Hv _ _ h2) (qf (-hs:))) λZ H Q hq1=>?_;refine ex4 hq1 λN G er h=>?_;refine{N,G,er,Wx.mono (Wx.th (x:=jh a' (iR L.k a') N) h) λx h v G1 H1 p1 r1=>{x.2,G1,p1.er,Wx.mono (Wx.th (x:=iEs L.k l' x.2) h) λy h vs G2 H2 p2 r2=>?_}};exact h _ G2 H2 (p1.trans p2) (.cons (r1.same p2.gs) r2)
theorem qpM(A:All U K ε k X L m):∀es x,cAs (m+1) L es=some x->PA X es (tAs U K ε Gv Hv (iAs L.k x))
 |[],z,h=>by cases h;exact PA.imp qD λZ H Q ⟨N,G,er,h⟩=>h [] G H (Po.refl er) rfl
 | e::l,z,h=>by
  let(hs,h):=ql h;let(a',l',h1,h2,rfl):=qj h;refine PA.imp (qk (A.r Gv Hv _ _ h1) (A.as Gv Hv _ _ h2) (qf (-hs:))) λZ H Q hq1=>?_;refine ex4 hq1 λN G er h=>?_;refine{N,G,er,Wx.mono (Wx.th (x:=iR L.k a' N) h) λx h v G1 H1 p1 r1=>?_};have h:=Wx.th (x:=iAs L.k l' x.2) h;let(rv,N1):=x
  cases rv with
  |val d=>exact{N1,G1,p1.er,Wx.mono h λy h vs G2 H2 p2 r2=>h _ G2 H2 (p1.trans p2) {v,vs,rfl,Rep.same p2.gs r1,r2}}
  |tmp ds=>let(a,xs,rfl,h1,h2,h3,h4,h5,h6):=r1;have p1':=p1.freeze h1 h2 h3 h4 h5;refine{N1,_,p1'.er,Wx.mono h λy h vs G2 H2 p2 r2=>h _ G2 H2 (p1'.trans p2) {_,vs,rfl,?_,r2}};show Rep U G2 (.lst ds) (.ref a);simp![Rep];exact{a,xs,rfl,p2.gs _ _ qe,(h6.same (qo.upd h4)).same p2.gs}
  |cell ds=>let(a,xs,rfl,h1,h6):=r1;exact{N1,G1,p1.er,Wx.mono h λy h vs G2 H2 p2 r2=>h _ G2 H2 (p1.trans p2) {_,vs,rfl,{a,xs,rfl,p2.hs _ _ h1,h6.same p2.gs},r2}}
  |scr ds=>let(a,xs,rfl,h1,h6):=r1;exact{N1,G1,p1.er,Wx.mono h λy h vs G2 H2 p2 r2=>h _ G2 H2 (p1.trans p2) {_,vs,rfl,{a,xs,rfl,p2.hs.seq h1,h6.same p2.gs},r2}}
theorem qrJ(A:All U K ε k X L m):∀o x,cO (m+1) L o=some x->PO X o (tO U K ε Gv Hv (iO L.k x))
 |none,z,h=>by cases h;exact PO.imp qjL λZ H Q ⟨N,G,er,h⟩=>h G H (Po.refl er)
 |some e,z,h=>by
  let(a',h1,rfl):=map_some h;refine PO.imp (qjM (A.r Gv Hv _ _ h1)) λZ H Q hq1=>?_;refine ex4 hq1 λN G er h=>?_;refine{N,G,er,Wx.mono (Wx.th (x:=iR L.k a' N) h) λx h v G1 H1 p1 r1=>?_};let(rv,N1):=x
  cases rv with
  |val d=>
   cases d with
   |int i=>exact{i,by simpa only[RvR,Rep] using r1,h G1 H1 p1}
   |_=>exact ax h
  |_=>exact ax h
theorem qrK(A:All U K ε k X L m):∀es x,cF (m+1) L es=some x->PIf X es (tT U K ε Gv Hv (iF L.k x))
 |[],z,h=>by cases h;exact PIf.imp qjZ λZ H Q ⟨N,G,er,h⟩=>h G H (Po.refl er)
 |[c],z,h=>by let(a',h1,rfl):=map_some h;exact qj0 (A.t Gv Hv _ _ h1)
 | z::y::w,v,h=>by cases h
def qi2:ag->Bool
 |.UnaryOp .Not z y=>false
 |.BoolOp ..=>false
 |.IfExp ..=>false
 |.Compare ..=>false
 |_=>true
theorem qfE{e:ag}(h:qi2 e=true)(env:PySem.Env):∀whole,isTrue e env whole=(do let v<-whole;ej e.pos;dg [v] (truthy v)):=by
 intro whole
 cases e with
 |UnaryOp op a pos=>cases op<;>first|rfl|cases h
 |BoolOp=>cases h
 |IfExp=>cases h
 |Compare=>cases h
 |_=>rfl
theorem qrL(gd:Gd U K ε k X L)(A:All U K ε k X L m)(e:ag)(x:T)(h:cT (m+1) L e=some x):PT X e (tT U K ε Gv Hv (iT L.k x)):=by
 have gen:qi2 e=true->(cE m L e).map .val=some x->PT X e (tT U K ε Gv Hv (iT L.k x)):=λhp h=>by let(a',h1,rfl):=map_some h;refine PT.imp (qg3 (A.r Gv Hv _ _ h1) (qfE hp X.env)) λZ H Q hq1=>?_;refine ex4 hq1 λN G er h=>?_;refine{N,G,er,Wx.mono (Wx.th (x:=iR L.k a' N) h) λx h v G1 H1 p1 r1=>?_};let(b,e1,h):=Wx.of (Wx.th h);exact{b,qhS gd p1.er r1 e1,h G1 H1 p1}
 cases e with
 |UnaryOp op a pos=>
  cases op with
  |Not=>let(a',h1,rfl):=map_some h;refine PT.imp (qaG (A.t Gv Hv _ _ h1)) λZ H Q hq1=>?_;refine ex4 hq1 λN G er h=>?_;exact{N,G,er,Wx.mono (Wx.th (x:=iT L.k a' N) h) λx h G1 H1 p1=>h G1 H1 p1}
  |_=>exact gen rfl h
 |BoolOp op vs pos=>
  cases vs with
  |nil=>cases op<;>cases h
  |cons a vs=>
   cases vs with
   |nil=>
    cases op with
    |And=>let(a',h1,rfl):=map_some h;exact PT.imp (PW.pt (qjx (A.t Gv Hv _ _ h1))) λZ H Q h=>h
    |Or=>let(a',h1,rfl):=map_some h;exact PT.imp (PW.pt (qlA (A.t Gv Hv _ _ h1))) λZ H Q h=>h
   |cons b l=>
    cases op with
    |And=>
     let(a',b',h1,h2,rfl):=qj h;intro pins s Z H Q I hw;refine ex4 hw λN G er h=>?_;refine isTrue_and (thn (A.t Gv Hv _ _ h1 pins s Z H (λc H1=>if c=true then tT U K ε Gv Hv (iT L.k b') Z H1 Q else Q false H1) I ?_) λc s1 ⟨H1,I1,q1⟩=>?_)
     .refine{N,G,er,Wx.mono (Wx.th (x:=iT L.k a' N) h) λx h G1 H1 p1=>?_};let(d,N1):=x
      cases d with
      |true=>rw[if_pos rfl];exact{N1,G1,p1.er,Wx.mono h λy h G2 H2 p2=>h G2 H2 (p1.trans p2)}
      |false=>rw[if_neg (λz=>by cases z)];exact h G1 H1 p1
     .cases c with
      |true=>exact A.t Gv Hv _ _ h2 pins s1 Z H1 Q I1 q1
      |false=>exact⟨H1,I1,q1⟩
    |Or=>
     let(a',b',h1,h2,rfl):=qj h;intro pins s Z H Q I hw;refine ex4 hw λN G er h=>?_;refine isTrue_or (thn (A.t Gv Hv _ _ h1 pins s Z H (λc H1=>if c=true then Q true H1 else tT U K ε Gv Hv (iT L.k b') Z H1 Q) I ?_) λc s1 ⟨H1,I1,q1⟩=>?_)
     .refine{N,G,er,Wx.mono (Wx.th (x:=iT L.k a' N) h) λx h G1 H1 p1=>?_};let(d,N1):=x
      cases d with
      |false=>rw[if_neg (λz=>by cases z)];exact{N1,G1,p1.er,Wx.mono h λy h G2 H2 p2=>h G2 H2 (p1.trans p2)}
      |true=>rw[if_pos rfl];exact h G1 H1 p1
     .cases c with
      |true=>exact⟨H1,I1,q1⟩
      |false=>exact A.t Gv Hv _ _ h2 pins s1 Z H1 Q I1 q1
 |IfExp c a b pos=>cases h
 |Compare a ops bs pos=>
  match ops,bs,h with
  |[op],[b],h=>exact qku gd A a b op pos h
  | [op,op'],[b,c],h=>exact qfC gd A a b c op op' pos h
  |[],[],h=>cases h
  | [],w::u,h=>cases h
  |[w],[],h=>cases h
  | [w],u::q::p,h=>cases h
  |[w,u],[],h=>cases h
  |[w,u],[q],h=>cases h
  | [w,u],q::p::o::n,h=>cases h
  | w::u::q::p,o,h=>cases h
 |_=>exact gen rfl h
end
section
variable{U:KC}{ε:XK}{K:Frag}{Gv Hv:Hp}{k m:Nat}{X:Cx}{L:Ct}
def qm0{tg l:ag}{tl:TE}(hl:PE X l tl):PI X tg l (λZ H R=>tl Z H λx H1=>(∃a,x=.ref a/\(((∃xs,SqL X.K H1 a xs)/\R (Itl X.K a) H1)\/((∃xs,SqT X.K H1 a xs)/\R (Itt X.K a) H1)))\/∃z,x=.str z/\R (Its z) H1):=by
 intro pins s Z H R I h;refine th5 (hl pins s Z H _ I h) λv s1 x H1 I1 r1 q1=>?_;rcases q1 with ⟨a,e,q⟩|⟨x,rfl,q⟩
 .subst e;cases r1;rcases q with ⟨⟨xs,hq⟩,q⟩|⟨⟨xs,hq⟩,q⟩
  .let(its,rv,p,hz):=I1.list hq;refine ki p.isList ?_;exact PIE.one I1 (qeM a _) ⟨_,bz _ rfl,rfl,rfl⟩ q
  .let(its,rv,p,hz):=I1.tuple hq;refine wpAny_pyIter_tuple (show s1.heap.IsTuple a its.toArray from p) ?_;exact PIE.one I1 (qdW a _) ⟨_,bz _ rfl,rfl,rfl⟩ q
 .let(t,rfl):=r1
  have fin:∀(T:String) (o:Obj),(T = "str_ascii_iterator"\/T = "str_iterator")->(∀A':aN,A'.handled=none->Walks X.prog X.w A' s1.heap.objs.size [s1.heap.objs.size] [s1.heap.objs.size] x.cps.size (SignAt x) (λi h=>h.IsStrIter s1.heap.objs.size T x t i))->
    (s1.heap.push o).IsStrIter s1.heap.objs.size T x t 0->PIE X pins Z tg R (.ref s1.heap.objs.size) { s1 with heap:=s1.heap.push o }:=λT o hT W st=>by
   exact PIE.one I1 (qhs hT W) st q
  cases ha:x.cps.all (· < 128)
  .exact wpAny_pyIter_wide ha (fin _ _ (.inr rfl) (λA' hA=>Walks.strWide hA _ x t) ⟨_,bz _ rfl,rfl,rfl⟩)
  .exact wpAny_pyIter_ascii ha (fin _ _ (.inl rfl) (λA' hA=>Walks.strAscii hA _ x t) ⟨_,bz _ rfl,rfl,rfl⟩)
theorem qhU(gd:Gd U K ε k X L){x:Str}{i:Nat}(hi:qbZ L x=some i)(pos:Pos):PE X (.Name x pos) (tL U K ε Gv Hv (yN (.var i) (iR L.k (.var i)))):=by
 refine PE.imp (YW gd hi pos) λZ H Q hq1=>?_;refine ex4 hq1 λN G er h=>?_;have h:Wx _ (slL N i) _:=h;unfold slL at h
 cases q:N[i]? with
 |none=>rw[q]at h;exact ax h
 |some s=>
  rw[q]at h;have w:=er.sl i s q
  cases s with
  |dic ks l=>exact ax h
  |no=>exact ax h
  |val d=>
   let(v,z,r):=w
   cases d with
   |lst l=>simp![Rep]at r;let(a,xs,rfl,r1,r2):=r;exact{_,z,h _ G H (Po.refl er) {a,xs,rfl,r2,.inl r1}}
   |str y=>simp![Rep]at r;subst r;exact{_,z,h _ G H (Po.refl er) ⟨y,rfl,rfl⟩}
   |tup l=>simp![Rep]at r;let(a,xs,rfl,r1,r2):=r;exact{_,z,h _ G H (Po.refl er) ⟨a,xs,rfl,r2,r1⟩}
   |_=>exact ax h
  |own l=>let(a,xs,z,p,r):=er.froze q;simp![Rep]at r;let(a',xs',e,r1,r2):=r;cases e;exact{_,z,h _ _ H p {a,xs',rfl,r2,.inl r1}}
  |bor l=>let(a,xs,z,r1,r4):=w;exact{_,z,h _ G H (Po.refl er) {a,xs,rfl,r4,.inr (SqL.of r1)}}
  |scr l=>let(a,xs,z,r1,r4):=w;exact{_,z,h _ G H (Po.refl er) {a,xs,rfl,r4,.inr r1}}
theorem qrM(gd:Gd U K ε k X L)(A:All U K ε k X L m)(e:ag)(x:E)(h:cL (m+1) L e=some x):PE X e (tL U K ε Gv Hv (yN x (iR L.k x))):=by
 have gen:(cE m L e).bind ZO=some x->PE X e (tL U K ε Gv Hv (yN x (iR L.k x))):=λh=>by
  let(y,h1,h2):=eh.mp h;let(rfl,hv):=zU h2;refine PE.imp (A.r Gv Hv _ _ h1) λZ H Q hq1=>?_;refine ex4 hq1 λN G er h=>?_;rw[qkk hv]at h;refine{N,G,er,Wx.mono (Wx.th h) λx h v G1 H1 p1 r1=>?_};let(rv,N1):=x
  cases rv with
  |val d=>
   cases d with
   |lst l=>simp![RvR,Rep]at r1;let(a,xs,rfl,q1,q2):=r1;exact h _ G1 H1 p1 ⟨a,xs,rfl,q2,.inl q1⟩
   |str y=>simp![RvR,Rep]at r1;subst r1;exact h _ G1 H1 p1 ⟨y,rfl,rfl⟩
   |tup l=>simp![RvR,Rep]at r1;let(a,xs,rfl,q1,q2):=r1;exact h _ G1 H1 p1 ⟨a,xs,rfl,q2,q1⟩
   |_=>exact ax h
  |tmp l=>let(a,xs,rfl,h1,h2,h3,h4,h5,h6):=r1;exact h _ _ H1 (p1.freeze h1 h2 h3 h4 h5) ⟨a,xs,rfl,h6.same (qo.upd h4),.inl qe⟩
  |_=>exact ax h
 cases e with
 |Name x pos=>let(i,h1,rfl):=map_some h;exact qhU gd h1 pos
 |_=>exact gen h
def qm1{G:Hp}{a:af}{xs:List V}{l:List D}(h:G a=some (.lst xs)\/SqL K Hv a xs)(r:qi U G l xs):ItR U Hv G (Itl K a) l:=by
 intro i G1 H1 s1 s2 s3;have hq:SqL K H1 a xs:=h.elim (λz=>SqL.of (s3 _ _ (s1 _ _ z))) λz=>s2.seq z;refine{λd e=>?_,λe=>{xs,hq,by rw[<-r.len];omega}};let(v,e1,e2):=r.atD e;refine{⟨xs,v,hq,e1⟩,λx H' ⟨z1,z2⟩=>{G1,by rw[z1];exactλy y q=>q,λy y q=>q,by rw[z1];exact s3,λy o q=>.inl ⟨o,q⟩,?_}}
 have:=z2 xs hq
 rw[e1]at this;cases this;exact e2.same s1
def qm2{G:Hp}{a:af}{xs:List V}{l:List D}(h:G a=some (.lst xs)\/SqL K Hv a xs)(r:qi U G l xs):ItR U Hv G (Itv K a xs) l.reverse:=by
 intro i G1 H1 s1 s2 s3;have hq:SqL K H1 a xs:=h.elim (λz=>SqL.of (s3 _ _ (s1 _ _ z))) λz=>s2.seq z;have hl:=r.len;refine{λd e=>?_,λe=>{hq,by simp at e;omega}};have hi:i < l.length:=by simpa using (bE.mp e).1
 rw[List.getElem?_reverse hi]at e;let(v,e1,e2):=r.atD e;refine{{hq,by omega},λx H' ⟨z1,z2⟩=>{G1,by rw[z1];exactλy y q=>q,λy y q=>q,by rw[z1];exact s3,λy o q=>.inl ⟨o,q⟩,?_}};rw[<-hl,e1]at z2;cases z2;exact e2.same s1
def qm3{G:Hp}{a:af}{xs:List V}{l:List D}(h:G a=some (.tup xs))(r:qi U G l xs):ItR U Hv G (Itt K a) l:=by
 intro i G1 H1 s1 s2 s3;have hq:SqT K H1 a xs:=SqT.of (s3 _ _ (s1 _ _ h));refine{λd e=>?_,λe=>{xs,hq,by rw[<-r.len];omega}};let(v,e1,e2):=r.atD e;refine{⟨xs,v,hq,e1⟩,λx H' ⟨z1,z2⟩=>{G1,by rw[z1];exactλz z q=>q,λz z q=>q,by rw[z1];exact s3,λz o q=>.inl ⟨o,q⟩,?_}}
 have:=z2 xs hq
 rw[e1]at this;cases this;exact e2.same s1
def qm4{G:Hp}{x:Str}:ItR U Hv G (Its x) (qhG x):=by
 intro i G1 H1 s1 s2 s3;have hl:(qhG x).length=x.cps.size:=by simp[qhG]
 refine{λd e=>?_,λe=>by rw[<-e,hl];rfl};unfold qhG at e;rw[bu]at e;let(c,e1,rfl):=bM.mp e;rw[iz]at e1;refine{(bY.mp e1).1,λv H' ⟨z1,c',z2,z3⟩=>{G1,by rw[z1];exactλz z q=>q,λz z q=>q,by rw[z1];exact s3,λz o q=>.inl ⟨o,q⟩,?_}};rw[e1]at z2;cases z2;rw[z3];simp![Rep]
def qm5{G:Hp}{lo hi:Int}:ItR U Hv G (Itr lo (hi - lo).toNat) (zH lo hi):=by
 intro i G1 H1 s1 s2 s3;refine{λd e=>?_,λe=>?_}
 .unfold zH at e;rw[bu]at e;let(j,e1,rfl):=bM.mp e;let(h1,h2):=bE.mp e1;have hi':i < (hi - lo).toNat:=(-h1:)
  have hj:j=i:=by rw[<-h2];simp
  subst hj;refine{hi',λx H' ⟨z1,z2⟩=>{G1,by rw[z1];exactλz z q=>q,λz z q=>q,by rw[z1];exact s3,λz o q=>.inl ⟨o,q⟩,?_}};rw[z2];simp![Rep]
 .have hl:(zH lo hi).length=(hi - lo).toNat:=by simp![zH,aD,List.length_range]
  show(hi - lo).toNat<=i;omega
def qfF{G H:Hp}{T:af}{x y:V}{d e:D}(sub:qo G H)(hT:H T=none)(hx:Rep U G d x)(hy:Rep U G e y) :
  ∃G',qo H (upd H T (.tup [x,y]))/\qo G G'/\qo G' (upd H T (.tup [x,y]))/\(∀a o,G' a=some o->(∃o',G a=some o')\/H a=none)/\Rep U G' (.tup [d,e]) (.ref T):=by
 have gT:G T=none:=qo.none sub hT;have gs:qo G (upd G T (.tup [x,y])):=qo.upd gT;refine{upd G T (.tup [x,y]),qo.upd hT,gs,λb u q=>?_,λb u q=>?_,?_}
 .by_cases hb:b=T
  .subst hb;rw[qe]at q ⊢;exact q
  .rw[qd hb]at q ⊢;exact sub b u q
 .by_cases hb:b=T
  .subst hb;exact .inr hT
  .rw[qd hb]at q;exact .inl ⟨u,q⟩
 .simp![Rep];exact{T,_,rfl,qe,.cons (hx.same gs) %[hy.same gs|0]}
def qm6{G:Hp}{a:af}{xs:List V}{l:List D}(h:G a=some (.lst xs)\/SqL K Hv a xs)(r:qi U G l xs):ItR U Hv G (Ite K a) (YV l):=by
 intro i G1 H1 s1 s2 s3;have hq:SqL K H1 a xs:=h.elim (λz=>SqL.of (s3 _ _ (s1 _ _ z))) λz=>s2.seq z;have hlen:(YV l).length=l.length:=by simp[YV]
 refine{λd e=>?_,λe=>{xs,hq,by rw[<-r.len];omega}};have hi:i < l.length:=by rw[<-hlen];exact(bE.mp e).1
 have e0:(YV l)[i]?=some (.tup [.int i,l[i]]):=by unfold YV;rw[nB];simp[hi]
 rw[e0]at e;cases e;let(v,e1,e2):=r.atD (bN hi);refine{⟨xs,v,hq,e1⟩,λx H' z=>?_};let(T,x',rfl,hT,rfl,z2):=z
 have:=z2 xs hq
 rw[e1]at this;cases this;exact qfF s3 hT (by simp![Rep]) (e2.same s1)
def qm7{G:Hp}{a b:af}{xs ys:List V}{l n:List D}(h:G a=some (.lst xs)\/SqL K Hv a xs)(r:qi U G l xs)(h':G b=some (.lst ys)\/SqL K Hv b ys)(r':qi U G n ys):ItR U Hv G (Itz K a b) (qej l n):=by
 intro i G1 H1 s1 s2 s3;have hq:SqL K H1 a xs:=h.elim (λz=>SqL.of (s3 _ _ (s1 _ _ z))) λz=>s2.seq z;have hq':SqL K H1 b ys:=h'.elim (λz=>SqL.of (s3 _ _ (s1 _ _ z))) λz=>s2.seq z;have hlen:(qej l n).length=min l.length n.length:=by simp[qej]
 have l1:=r.len;have l2:=r'.len;refine{λd e=>?_,λe=>{xs,ys,hq,hq',by omega}};have hi:i < min l.length n.length:=by rw[<-hlen];exact(bE.mp e).1
 have i1:i < l.length:=by omega
 have i2:i < n.length:=by omega
 have e0:(qej l n)[i]?=some (.tup [l[i],n[i]]):=by unfold qej;rw[nB];simp[i1,i2]
 rw[e0]at e;cases e;let(v,e1,e2):=r.atD (bN i1);let(w,e3,e4):=r'.atD (bN i2);refine{⟨xs,ys,v,w,hq,hq',e1,e3⟩,λx H' z=>?_};let(T,x',y',rfl,hT,rfl,z2):=z;let(z3,z4):=z2 xs ys hq hq';rw[e1]at z3;rw[e3]at z4;cases z3;cases z4;exact qfF s3 hT (e2.same s1) (e4.same s1)
def qfG{i:Int}(h:qP i=true):-(2 ^ 62)<=i/\i < 2 ^ 62:=by
 unfold qP at h
 simpa [aM] using h
theorem qhV(gd:Gd U K ε k X L)(A:All U K ε k X L m)(tg e:ag)(x:I)(h:(cL m L e).map .seq=some x):PI X tg e (tI U K ε Gv Hv (iI L.k x)):=by
 let(a',h1,rfl):=map_some h;refine PI.imp (qm0 (A.l Gv Hv _ _ h1)) λZ H Q hq1=>?_;refine ex4 hq1 λN G er h=>?_;refine{N,G,er,Wx.mono (Wx.th (x:=yN a' (iR L.k a') N) h) λx h v G1 H1 p1 r1=>?_};let((b,l),N1):=x
 cases b with
 |str=>let(y,rfl,rfl):=r1;exact .inr ⟨y,rfl,h _ G1 H1 p1 qm4⟩
 |tup=>let(a,xs,rfl,r2,r3):=r1;exact .inl ⟨a,rfl,.inr ⟨⟨xs,SqT.of (p1.er.sub _ _ r3)⟩,h _ G1 H1 p1 (by rw[gd.hK];exact qm3 r3 r2)⟩⟩
 |lst=>let(a,xs,rfl,r2,r3):=r1;refine .inl ⟨a,rfl,.inl ⟨⟨xs,?_⟩,h _ G1 H1 p1 (by rw[gd.hK];exact qm1 r3 r2)⟩⟩;rw[gd.hK];exact r3.elim (λz=>SqL.of (p1.er.sub _ _ z)) λz=>p1.er.base.seq z
def qhW{a b:ag}{env:PySem.Env}(h1:qE a=false)(h2:qE b=false):aP [a,b] env=[(false,eval a env),(false,eval b env)]:=by rw[qf h1,qf h2];rfl
def qfH{G H:Hp}{N:Env}{Z:L2.St}{a:af}{xs:List V}(gd:Gd U K ε k X L)(er:ER U K Gv Hv G H N Z)(r:G a=some (.lst xs)\/SqL K Hv a xs):∃xs,SqL X.K H a xs:=by rw[gd.hK];exact{xs,r.elim (λz=>SqL.of (er.sub _ _ z)) λz=>er.base.seq z}
def qkv(gd:Gd U K ε k X L)(A:All U K ε k X L m)(tg a:ag)(f:Str)(p q:Pos)(x:I)(hg:Gl X f)(h:oif (!qE a) (if f = "range" then (cE m L a).map .rng else if f = "enumerate" then oif (qhM tg) ((cL m L a).map .enum) else if f = "reversed" then (cL m L a).map .rev else none)=some x) :
  PI X tg (.Call (.Name f p) [a] [] q) (tI U K ε Gv Hv (iI L.k x)):=by
 let(hs,h):=ql h;have hs:qE a=false:=(-hs:)
 by_cases h1:f = "range"
 .subst h1;rw[if_pos rfl]at h;let(a',h1,rfl):=map_some h;refine PI.imp (qeN hg (gd.blt _ (2:)) (qk (A.r Gv Hv _ _ h1) qD (qf hs)) (qf hs)) λZ H Q hq1=>?_;refine ex4 hq1 λN G er h=>?_;refine{N,G,er,Wx.mono (Wx.th (x:=iR L.k a' N) h) λx h v G1 H1 p1 r1=>?_}
  cases e1:x.1.int? with
  |none=>rw[e1]at h;exact ax h
  |some n=>
   rw[e1]at h;let(hz,h):=Wx.iff h;let(z1,z2):=qfG hz;refine{n,by rw[r1.int e1],z1,z2,h _ G1 H1 p1 ?_}
   have:=qm5 (U:=U) (Hv:=Hv) (G:=G1) (lo:=0) (hi:=n)
   rw[iQ]at this;exact this
 rw[if_neg h1]at h
 by_cases h2:f = "enumerate"
 .subst h2;rw[if_pos rfl]at h;let(ht,h):=ql h;let(a',h1,rfl):=map_some h
  cases tg with
  |Tuple es j tp=>
   refine PI.imp (qj7 hg (gd.blt _ (2:)) (qk (A.l Gv Hv _ _ h1) qD (qf hs)) (qf hs)) λZ H Q hq1=>?_;refine ex4 hq1 λN G er h=>?_;refine{N,G,er,Wx.mono (Wx.th (x:=yN a' (iR L.k a') N) h) λx h v G1 H1 p1 r1=>?_};let((b,l),N1):=x
   cases b with
   |lst=>let(c,xs,rfl,r2,r3):=r1;exact{c,rfl,qfH gd p1.er r3,h _ G1 H1 p1 (by rw[gd.hK];exact qm6 r3 r2)}
   |_=>exact ax h
  |_=>cases ht
 rw[if_neg h2]at h
 by_cases h3:f = "reversed"
 .subst h3;rw[if_pos rfl]at h;let(a',h1,rfl):=map_some h;refine PI.imp (qmo hg (gd.blt _ (2:)) (qk (A.l Gv Hv _ _ h1) qD (qf hs)) (qf hs)) λZ H Q hq1=>?_;refine ex4 hq1 λN G er h=>?_;refine{N,G,er,Wx.mono (Wx.th (x:=yN a' (iR L.k a') N) h) λx h v G1 H1 p1 r1=>?_};let((b,l),N1):=x
  cases b with
  |lst=>let(c,xs,rfl,r2,r3):=r1;refine{c,xs,rfl,?_,h _ G1 H1 p1 (by rw[gd.hK];exact qm2 r3 r2)};rw[gd.hK];exact r3.elim (λz=>SqL.of (p1.er.sub _ _ z)) λz=>p1.er.base.seq z
  |_=>exact ax h
 rw[if_neg h3]at h;cases h
def qkw(gd:Gd U K ε k X L)(A:All U K ε k X L m)(tg a b:ag)(f:Str)(p q:Pos)(x:I)(hg:Gl X f)(h:oif (!(qE a||qE b)) (if f = "zip" then oif (qhM tg) (o2 (cL m L a) (cL m L b) .zip) else none)=some x) :
  PI X tg (.Call (.Name f p) [a,b] [] q) (tI U K ε Gv Hv (iI L.k x)):=by
 let(hs,h):=ql h;have hs:(qE a||qE b)=false:=(-hs:)
 rw[eP]at hs;let(s1,s2):=hs
 by_cases h2:f = "zip"
 .subst h2;rw[if_pos rfl]at h;let(ht,h):=ql h;let(a',b',h1,h2,rfl):=qj h
  cases tg with
  |Tuple es j tp=>
   refine PI.imp (qmn hg (gd.blt _ (2:)) (qk (A.l Gv Hv _ _ h1) (qk (A.l Gv Hv _ _ h2) qD (qf s2)) (qf s1)) (qhW s1 s2) (qf s2)) λZ H Q hq1=>?_;refine ex4 hq1 λN G er h=>?_;refine{N,G,er,Wx.mono (Wx.th (x:=yN a' (iR L.k a') N) h) λx h v G1 H1 p1 r1=>{x.2,G1,p1.er,Wx.mono (Wx.th (x:=yN b' (iR L.k b') x.2) h) λy h w G2 H2 p2 r2=>?_}};let((bx,l),N1):=x;let((by',n),N2):=y
   cases bx with
   |lst=>
    cases by' with
    |lst=>let(c,xs,rfl,r3,r4):=r1;let(d,ys,rfl,r5,r6):=r2;have r4':G2 c=some (.lst xs)\/SqL K Hv c xs:=r4.imp (λz=>p2.gs _ _ z) id;exact{c,d,rfl,qfH gd p2.er r4',qfH gd p2.er r6,h _ G2 H2 (p1.trans p2) (by rw[gd.hK];exact qm7 r4' (r3.same p2.gs) r6 r5)}
    |_=>exact ax h
   |_=>exact ax h
  |_=>cases ht
 rw[if_neg h2]at h;cases h
theorem qrN(gd:Gd U K ε k X L)(A:All U K ε k X L m)(tg e:ag)(x:I)(h:cI (m+1) L (qhM tg) e=some x):PI X tg e (tI U K ε Gv Hv (iI L.k x)):=by
 cases e with
 |Call fn es kws q=>
  cases fn with
  |Name f p=>
   cases kws with
   |nil=>
    have h:(if (decide (f = "range")||decide (f = "enumerate")||decide (f = "zip")||decide (f = "reversed"))=true then _ else _)=some x:=h
    by_cases hf:(decide (f = "range")||decide (f = "enumerate")||decide (f = "zip")||decide (f = "reversed"))=true
    .rw[if_pos hf]at h;let(hn,h):=ql h;simp![aM]at hn;have hg:=gd.glo _ hn.1.2
     match es,h with
     |[a],h=>exact qkv gd A tg a f p q x hg h
     |[a,b],h=>exact qkw gd A tg a b f p q x hg h
     |[z,y,w],h=>cases h
     |[],h=>cases h
     | z::y::w::v::u,h=>cases h
    .rw[if_neg hf]at h;exact qhV gd A tg _ x h
   |cons kw kws=>exact qhV gd A tg _ x h
  |_=>exact qhV gd A tg _ x h
 |_=>exact qhV gd A tg _ x h
end
section
variable{U:KC}{ε:XK}{K:Frag}{Gv Hv:Hp}{k m:Nat}{X:Cx}{L:Ct}{x:E}
theorem qbg:∀{m:Nat} {es:List ag} {l:Es},cAs m L es=some l->es.any qE=false
 |0,z,y,h=>nomatch h
 | m+1,[],z,y=>rfl
 | m+1,e::es,z,h=>by
  let(hs,h):=ql h;let(a,b,_,h2,_):=qj h;rw[c8,qbg h2,lr]
  simpa using hs
def qcm{m:Nat}{l:Es}(h:cAs m L []=some l):l=.nil:=by
 cases m<;>cases h
 rfl
theorem yg{env:PySem.Env}{pos:Pos}:∀{es:List ag},es.any qE=false->(bK pos (aP es env)).any (·.1)=false
 |[],z=>rfl
 | e::l,h=>by simp![c8,eP]at h;rw[qf h.1];show(false||(bK pos (aP l env)).any (·.1))=false;rw[yg h.2];rfl
def XP.call{G H G1 H1:Hp}{N N1:Env}{Z:L2.St}(p:Po U K Gv Hv Z G H N G1 H1 N1):∀c l,XP U Gv Hv ε c l->XP U G1 H1 ε c l:=λc l h od G' H' h1 g1 s n x=>
 h od G' H' (λb o q=>h1 b o (p.er.base b o q)) (λb o q=>g1 b o (p.er.g0 b o q)) s (λa o q=>by
  rcases n a o q with ⟨o',z⟩|z
  .exact p.er.fresh a o' z
  .exact .inr (qo.none p.er.base z)) x
theorem ReR.rv{G H G1 H1 G2 H2:Hp}{N N1:Env}{Z:L2.St}{r:Rv}{v:V}(p:Po U K Gv Hv Z G H N G1 H1 N1)(hs:qo H1 H2)(gs:qo G1 G2)(sub:qo G2 H2)(new:∀a o,G2 a=some o->(∃o',G1 a=some o')\/H1 a=none)(h:ReR U G2 H2 H1 r v) :
  Po U K Gv Hv Z G H N G2 H2 N1/\RvR U K Hv H G2 H2 N1 Z r v:=by
 refine{p.trans (Po.more p.er hs gs sub new),?_}
 cases r with
 |val d=>exact h
 |tmp ds=>let(a,xs,rfl,h1,h2,h3,h4):=h;exact{a,xs,rfl,h1,qo.none p.hs h2,qo.none p.er.base h2,h3,p.er.notOwn h2,h4}
 |cell ds=>exact ax h
 |scr ds=>exact ax h
theorem qhX(gd:Gd U K ε k X L)(A:All U K ε k X L m)(f:Str)(es:List ag)(p q:Pos)(hok:jM f=true)(hgl:glB L.sc f=true)(ht:L.tab.contains f=true)(h:(cAs m L es).map (.call f)=some x):PE X (.Call (.Name f p) es [] q) (tR U K ε Gv Hv (iR L.k x)):=by
 let(l',h1,rfl):=map_some h;have hs:=qbg h1;let(fa,fd,ps,F,hm,hk,hb):=gd.fns f ht;let(n1,n2,n3):=jN hok
 have key:∀Z H Q,tR U K ε Gv Hv (iR L.k (.call f l')) Z H Q->qg7 (spF U K L.cl f) [] ε (tAs U K ε Gv Hv (iAs L.k l')) Z H Q:=λZ H Q ⟨N,G,er,h⟩=>by refine{N,G,er,Wx.mono (Wx.th (x:=iAs L.k l' N) h) λx h vs G1 H1 p1 r1=>?_};show spF U K L.cl f (vs++[]) H1 Q ε;rw[b5];refine{G1,x.1,p1.er.sub,r1,Wx.mono2 (Wx.th h) (XP.call p1) λr h v G2 H2 hs gs sub new rr=>?_};let(z1,z2):=ReR.rv p1 hs gs sub new rr;exact h v G2 H2 z1 z2
 cases es with
 |nil=>cases qcm h1;refine PE.imp (qg8 F gd.room (gd.glo f hgl) hm hk hb .nil gd.ps n1) λZ H Q h=>?_;let(N,G,er,h):=key Z H Q h;exact h [] G H (Po.refl er) rfl
 |cons e l=>simp![c8,eP]at hs;exact PE.imp (Jl F gd.room (gd.glo f hgl) hm hk hb .nil gd.ps (A.as Gv Hv _ _ h1) n1 (qf hs.1) (yg hs.2)) key
def qhY(gd:Gd U K ε k X L)(A:All U K ε k X L m)(f:Str)(a:ag)(p q:Pos)(hgl:glB L.sc f=true)(h:oif (!qE a) (o2 (qpG f) (cE m L a) E.b1)=some x):PE X (.Call (.Name f p) [a] [] q) (tR U K ε Gv Hv (iR L.k x)):=by
 let(hs,h):=ql h;have s1:qE a=false:=(-hs:)
 let(y,a',h1,h2,rfl):=qj h
 have key:∀Z H Q,tR U K ε Gv Hv (iR L.k (.b1 y a')) Z H Q->tCB (rC1 U K (XP U Gv Hv ε) Gv Hv y.go) (qg6 (tR U K ε Gv Hv (iR L.k a')) qlo) Z H Q:=λZ H Q ⟨N,G,er,h⟩=>{N,G,er,Wx.mono (Wx.th (x:=iR L.k a' N) h) λx h v G1 H1 p1 r1=>{x.2,Z,G1,H,x.1,v,rfl,p1.er,r1,Wx.mono (Wx.th h) λz h u G2 H2 p2 r2=>h u G2 H2 (p1.trans p2) (r2.back p1.hs)}}
 have pa:=qk (A.r Gv Hv _ _ h2) qD (qf s1);unfold qpG at h1
 split at h1
 .rename_i e;cases h1;subst e;exact PE.imp (zo (qmN (Ξ:=XP U Gv Hv ε) (Gv:=Gv) (Hv:=Hv) gd) (gd.glo _ hgl) (gd.blt _ (2:)) PySem.boot_len pa (2:) (2:) (qf s1) rfl) key
 split at h1
 .rename_i e;cases h1;subst e;exact PE.imp (zr (qkq (Ξ:=XP U Gv Hv ε) (Gv:=Gv) (Hv:=Hv) gd) (gd.glo _ hgl) (gd.blt _ (2:)) ip pa (2:) (2:) (qf s1) rfl) key
 split at h1
 .rename_i e;cases h1;subst e;exact PE.imp (zr (qmP (Ξ:=XP U Gv Hv ε) (U:=U) (K:=K) (Gv:=Gv) (Hv:=Hv)) (gd.glo _ hgl) (gd.blt _ (2:)) mP pa (2:) (2:) (qf s1) rfl) key
 split at h1
 .rename_i e;cases h1;subst e;exact PE.imp (zo (qfB (Ξ:=XP U Gv Hv ε) (Gv:=Gv) (Hv:=Hv) gd) (gd.glo _ hgl) (gd.blt _ (2:)) mQ pa (2:) (2:) (qf s1) rfl) key
 split at h1
 .rename_i e;cases h1;subst e;exact PE.imp (zo (qmO (Ξ:=XP U Gv Hv ε) (Gv:=Gv) (Hv:=Hv) gd) (gd.glo _ hgl) (gd.blt _ (2:)) PyProof.Rows.boot_all pa (2:) (2:) (qf s1) rfl) key
 split at h1
 .rename_i e;cases h1;subst e;exact PE.imp (zr (qkr (Ξ:=XP U Gv Hv ε) (Gv:=Gv) (Hv:=Hv) gd) (gd.glo _ hgl) (gd.blt _ (2:)) PyProof.Rows.boot_dict pa (2:) (2:) (qf s1) rfl) key
 cases h1
def qm8{f:Str}{a t:ag}(h:ssE L f a=some t):f = "sorted"/\∃p q,a=.Call (.Name "set" p) [t] [] q/\glB L.sc "set" = true/\qE t=false:=by let(t',e,h):=qB h;let(p,q,ea):=qmF e;let(r,e2,h):=qB h;have e2:=Jo (qrx t'.2) e2;let((h0,h4,h1,h2),h):=yP h;cases h;exact{h0,p,q,by rw[ea,e2,h4],h1,h2}
def qm9{ns ms qs:List Int}(hn:ms.Nodup)(hm:∀k,k∈ms↔k∈ns)(hp:qs.Perm ms)(hs:qs.Pairwise (·<=·)):sdI ns=qs:=by
 have h1:(sdI ns).Perm (ddI ns):=fq _ _;have h2:(sdI ns).Pairwise (λa b=>decide (a<=b)=true):=gM (λa b c x y=>by simp at *;lia) (λa b=>by simp;lia) _;have h3:(ddI ns).Perm ms:=(List.perm_ext_iff_of_nodup (Yp ns) hn).mpr λk=>by rw[qbd,hm]
 exact mO (le:=λa b:Int=>a<=b) (λa b z z x y=>by lia) (h2.imp λh=>(-h:)) hs ((h1.trans h3).trans hp.symm)
theorem qna(gd:Gd U K ε k X L)(A:All U K ε k X L m)(f:Str)(a:ag)(p q:Pos)(hgl:glB L.sc f=true){t:ag}(ht:ssE L f a=some t)(h:(cE m L t).map (.b1 .sst)=some x):PE X (.Call (.Name f p) [a] [] q) (tR U K ε Gv Hv (iR L.k x)):=by
 let(a',h1,rfl):=map_some h;let(rfl,p',q',rfl,hg,s1):=qm8 ht;refine PE.imp (zo (qa9 gd.calm) (gd.glo _ hgl) (gd.blt _ (2:)) mQ (qk (zr (qcg gd.calm) (gd.glo _ hg) (gd.blt _ (2:)) PyProof.Rows.boot_set (qk (A.r Gv Hv _ _ h1) qD (qf s1)) (2:) (2:) (qf s1) rfl) qD rfl) (2:) (2:) rfl rfl) λZ H Q hq1=>?_;refine ex4 hq1 λN G er h=>?_;refine{N,G,er,Wx.mono (Wx.th (x:=iR L.k a' N) h) λy h v G1 H1 p1 r1=>?_};have h:=Wx.th (x:=qhL y.1) h;unfold qhL at h
 cases e1:y.1.list? with
 |none=>rw[e1]at h;exact ax h
 |some l=>
  rw[e1]at h;dsimp only at h
  cases e2:qbb l with
  |none=>rw[e2]at h;exact ax h
  |some ns=>
   rw[e2]at h;dsimp only at h;let(hz,h):=Wx.iff h;let(b,ys,z1,z2,z3):=r1.list p1.er e1;have z4:=qfz z3 e2;subst z1 z4;refine{b,ns,rfl,by rw[gd.hK];exact z2,hz,λsa ms hsa hn hm=>{sa,ms,rfl,qe,hn,λc qs hc hp hs=>?_}};have p2:=Po.room p1.er (qo.upd (o:=qmz X.prog X.w sa ms) hsa)
   have rr:qi U G1 ((sdI ns).map D.int) (qs.map V.int):=by
    rw[qm9 hn hm hp hs];clear hp hs
    induction qs with
    |nil=>exact .nil
    |cons k l ih=>exact .cons (by simp![Rep]) ih
   let(y1,y2):=p2.er.newList hc rr;exact h _ _ _ (p1.trans (p2.trans y1)) (y2.back (p1.trans p2).hs)
def qhZ(gd:Gd U K ε k X L)(A:All U K ε k X L m)(f:Str)(a b:ag)(p q:Pos)(hgl:glB L.sc f=true)(h:oif (!(qE a||qE b)) (o2 (qpH f) (o2 (cE m L a) (cE m L b) dm) λf p=>E.b2 f p.1 p.2)=some x):PE X (.Call (.Name f p) [a,b] [] q) (tR U K ε Gv Hv (iR L.k x)):=by
 let(hs,h):=ql h;have hs:(qE a||qE b)=false:=(-hs:)
 rw[eP]at hs;let(s1,s2):=hs;let(y,z,h1,h2,rfl):=qj h;let(a',b',h3,h4,rfl):=qj h2
 have key:∀Z H Q,tR U K ε Gv Hv (iR L.k (.b2 y a' b')) Z H Q->tCB (rC2 U K (XP U Gv Hv ε) Gv Hv y.go) (qg6 (tR U K ε Gv Hv (iR L.k a')) (qg6 (tR U K ε Gv Hv (iR L.k b')) qlo)) Z H Q:=λZ H Q ⟨N,G,er,h⟩=>{N,G,er,Wx.mono (Wx.th (x:=iR L.k a' N) h) λx h v G1 H1 p1 r1=>{x.2,G1,p1.er,Wx.mono (Wx.nox (Wx.th (x:=noX (iR L.k b' x.2)) h)) λy h w G2 H2 p2 r2=>{y.2,Z,G2,H,H1,x.1,y.1,v,w,rfl,p2.er,r1.keep p2,r2,Wx.mono (Wx.th h) λz h u G3 H3 p3 r3=>h u G3 H3 (p1.trans (p2.trans p3)) (r3.back (p1.trans p2).hs)}}}
 have sa:(bK q (aP [b] X.env)).any (·.1)=false:=yg (by simp[s2]);have pa:=qk (A.r Gv Hv _ _ h3) (qk (A.r Gv Hv _ _ h4) qD (qf s2)) (qf s1);unfold qpH at h1
 split at h1
 .rename_i e;cases h1;subst e;exact PE.imp (zo (qmQ (Ξ:=XP U Gv Hv ε) (Gv:=Gv) (Hv:=Hv) gd) (gd.glo _ hgl) (gd.blt _ (2:)) PyProof.Rows.boot_max pa (2:) (2:) (qf s1) sa) key
 split at h1
 .rename_i e;cases h1;subst e;exact PE.imp (zo (qmR (Ξ:=XP U Gv Hv ε) (Gv:=Gv) (Hv:=Hv) gd) (gd.glo _ hgl) (gd.blt _ (2:)) PyProof.Rows.boot_min pa (2:) (2:) (qf s1) sa) key
 cases h1
def tyN:D->String
 |.non=>"NoneType" |.bl _=>"bool" |.int _=>"int" |.str _=>"str" |.lst _=>"list" |.tup _=>"tuple" |.ins ..=>"object" |.exc ..=>"object" |.dct ..=>"object"
def Ty.nm:Ty->String
 |.int=>"int" |.bool=>"bool" |.str=>"str" |.list=>"list" |.tuple=>"tuple"
theorem qpN{G H Hb:Hp}{N:Env}{Z:L2.St}{r:Rv}{x:V}{t:Ty}{b:Bool}(er:ER U K Gv Hv G H N Z)(h:RvR U K Hv Hb G H N Z r x)(e:t.go r=some b):TyOf K H x (.type (tyN r.data)):=by
 cases r with
 |val d=>
  cases d<;>simp![RvR,Rep]at h
  .subst h;exact .non
  .subst h;exact .bl _
  .subst h;exact .int _
  .subst h;exact .str _
  .let(a,xs,rfl,h1,_):=h;exact .lst (er.sub _ _ h1)
  .let(a,xs,rfl,h1,_):=h;exact .tup (er.sub _ _ h1)
  .cases t<;>cases e
  .cases t<;>cases e
 |tmp l=>let(a,xs,rfl,h1,_):=h;exact .lst h1
 |cell l=>let(a,xs,rfl,h1,_):=h;exact .lst h1
 |scr l=>cases e
theorem qnb{r:Rv}{t:Ty}{b:Bool}(e:t.go r=some b):dz K (.type (tyN r.data)) (.type t.nm)=some b:=by
 have main:∀d:D,t.of d=some b->dz K (.type (tyN d)) (.type t.nm)=some b:=λd e=>by
  have q:(t.of d).elim True λb=>dz K (.type (tyN d)) (.type t.nm)=some b:=by cases t<;>cases d<;>first|exact aO|rfl
  rw[e]at q;exact q
 cases r with
 |val d=>exact main d e
 |tmp l=>exact main (.lst l) e
 |cell l=>exact main (.lst l) e
 |scr l=>cases e
def qfI{X:Cx}:zd X (.builtin "isinstance") (λvs H Q=>∃x c t cv b,vs=[x,c]/\TyOf X.K H x t/\qF c cv/\(∀u,qF c u->u=cv)/\dz X.K t cv=some b/\Q (.bl b) H):=by intro pins s Z H xs us Q I r h;let(x,c,t,cv,b,rfl,ty,rc,uq,e,q):=h;let(u,v,rfl,ru,rv):=qb3 r;obtain rfl:v=cv:=uq v rv;exact qaL I ru ty e λtk=>{.bl b,H,I.tok tk,rfl,q}
theorem qnc(gd:Gd U K ε k X L)(A:All U K ε k X L m)(a:ag)(t:Str)(p tp q:Pos)(hgl:glB L.sc "isinstance" = true)
  (h:oif (jM t&&glB L.sc t&&(qeD L.N t).isNone&&!qE a) (match qo2 t with |some y=>(cE m L a).map (E.isi y) |none=>(cE m L a).map (.isc t))=some x):PE X (.Call (.Name "isinstance" p) [a,.Name t tp] [] q) (tR U K ε Gv Hv (iR L.k x)):=by
 let(hc,h):=ql h;simp![aM,dH]at hc;let(((c1,c2),c3),s1):=hc
 cases hy:qo2 t with
 |some y=>
  rw[hy]at h;let(a',h1,rfl):=map_some h
  have hb:PE X (.Name t tp) (tC (.ty y.nm)):=by
   unfold qo2 at hy
   split at hy
   .rename_i e;cases hy;subst e;exact Yx (gd.glo _ c2) (gd.blt _ (2:)) mP rfl
   split at hy
   .rename_i e;cases hy;subst e;exact Yx (gd.glo _ c2) (gd.blt _ (2:)) PyProof.Rows.boot_bool rfl
   split at hy
   .rename_i e;cases hy;subst e;exact Yx (gd.glo _ c2) (gd.blt _ (2:)) PyProof.Rows.boot_str rfl
   split at hy
   .rename_i e;cases hy;subst e;exact Yx (gd.glo _ c2) (gd.blt _ (2:)) ip rfl
   split at hy
   .rename_i e;cases hy;subst e;exact Yx (gd.glo _ c2) (gd.blt _ (2:)) mT rfl
   cases hy
  refine PE.imp (zo qhj (gd.glo _ hgl) (gd.blt _ (2:)) mU (qk (A.r Gv Hv _ _ h1) (qk hb qD rfl) (qf s1)) (2:) (2:) (qf s1) rfl) λZ H Q hq1=>?_;refine ex4 hq1 λN G er h=>?_;refine{N,G,er,Wx.mono (Wx.th (x:=iR L.k a' N) h) λx h v G1 H1 p1 r1=>?_};let(b,e1,h):=Wx.of (Wx.th h);exact{v,y.nm,_,b,rfl,by rw[gd.hK];exact qpN p1.er r1 e1,by rw[gd.hK];exact qnb e1,h _ G1 H1 p1 (by simp![RvR,Rep])}
 |none=>
  rw[hy]at h;let(a',h1,rfl):=map_some h;refineλpins s Z H Q I hq=>ex4 hq λN G er h=>?_;have h2:=Wx.th (x:=noX (iR L.k a' N)) h
  cases e1:iR L.k a' N with
  |exc c l=>rw[e1]at h2;exact ax h2
  |no=>rw[e1]at h2;exact ax h2
  |ok x=>
   rw[e1]at h2;let(b,e2,h3):=Wx.of (Wx.th (x:=R.of (qhH L.cs x.1 t)) h2)
   let(c,ns,ds,ex,e2):∃c ns ds,x.1=.val (.ins c ns ds)/\L.cs.sub c t=some b:=by
    let(r,env):=x
    cases r with
    |val d=>
     cases d with
     |ins c ns ds=>exact⟨c,ns,ds,rfl,e2⟩
     |_=>cases e2
    |_=>cases e2
   let(C,T,hC,hty,hT,kt):=gd.subs c t b e2;refine(zo qfI (gd.glo _ hgl) (gd.blt _ (2:)) mU (qk (A.r Gv Hv _ _ h1) (qk (Zq (v:=.ref T) (gd.glo _ c2) hT rfl (jN c1).1) qD rfl) (qf s1)) (2:) (2:) (qf s1) rfl) pins s Z H Q I ⟨N,G,er,?_⟩;rw[e1];intro v G1 H1 p1 r1;rw[ex]at r1;simp![RvR,Rep]at r1;let(p',dx,C',xs,hc',rfl,h4,hl,h5):=r1;rw[hC]at hc';cases hc';exact{.ref p',.ref T,.ref C,.ref T,b,rfl,hty _ _ _ _ (p1.er.sub _ _ h4),rfl,λu hu=>hu,kt,h3 _ G1 H1 p1 (by simp![RvR,Rep])}
theorem qfJ{o:ag}(h:qbc o=true)(x:Str)(env:PySem.Env):fE o x env (eval o env)=eval o env:=by
 cases o with
 |_=>first|rfl|cases h
theorem qkx{cs:Cs}{r:Rv}{x:Str}{d:D}(h:qfs cs r x=some d):∃c ns ds,r=.val (.ins c ns ds)/\cs.fld c x=true/\(ns.zip ds).lookup x=some d:=by
 cases r with
 |val e=>
  cases e with
  |ins c ns ds=>
   have h:(if cs.fld c x=true then (ns.zip ds).lookup x else none)=some d:=h
   by_cases hf:cs.fld c x=true
   .rw[if_pos hf]at h;exact⟨c,ns,ds,rfl,hf,h⟩
   .rw[if_neg hf]at h;cases h
  |_=>cases h
 |_=>cases h
theorem qnd{cs:Cs}{r:Rv}{x f:Str}(h:mtD cs r x=some f):∃c ns ds,r=.val (.ins c ns ds)/\ns.contains x=false/\cs.mt c x=some f:=by
 cases r with
 |val e=>
  cases e with
  |ins c ns ds=>
   have h:(if ns.contains x=true then none else cs.mt c x)=some f:=h
   by_cases hf:ns.contains x=true
   .rw[if_pos hf]at h;cases h
   .rw[if_neg hf]at h;exact{c,ns,ds,rfl,(-hf:),h}
  |_=>cases h
 |_=>cases h
theorem qdf{x:Str}:∀{ns:List Str} {xs:List V},ns.contains x=false->(ns.zip xs).lookup x=none
 |[],z,y=>by simp
 | n::ns,[],z=>by simp
 | n::ns,v::xs,h=>by simp![lT,eP]at h;rw[fo,bC,h.1];exact qdf h.2
theorem qne(gd:Gd U K ε k X L)(A:All U K ε k X L m)(o:ag)(y:Str)(pos:Pos)(h:cE (m+1) L (.Attribute o y pos)=some x):PE X (.Attribute o y pos) (tR U K ε Gv Hv (iR L.k x)):=by
 let(ho,h):=ql h;let(a',h1,rfl):=map_some h;refineλpins s Z H Q I hq=>ex4 hq λN G er h=>?_;have h2:=Wx.th (x:=noX (iR L.k a' N)) h
 cases e0:iR L.k a' N with
 |exc c l=>rw[e0]at h2;exact ax h2
 |no=>rw[e0]at h2;exact ax h2
 |ok z=>
  rw[e0]at h2;let(d,e1,h):=Wx.of (Wx.th (x:=R.of (qfs L.cs z.1 y)) h2);let(c,ns,ds,e2,e3,e4):=qkx e1
  .refine qlR (A.r Gv Hv _ _ h1) (qfJ ho y X.env) pins s Z H Q I ⟨N,G,er,?_⟩;rw[e0];intro v G1 H1 p1 r1;rw[e2]at r1;simp![RvR,Rep]at r1;let(p,dx,C,xs,hc,rfl,h1,hl,h2):=r1;let(u,e5,ru):=qda h2 e4;exact{p,C,dx,_,u,rfl,p1.er.sub _ _ h1,gd.cls c C hc,gd.flds c y C e3 hc,e5,h u G1 H1 p1 ru}
def YX{o:ag}{x:Str}{ap q:Pos}{es:List ag}{env:PySem.Env}(ho:qbc o=true)(hs:es.any qE=false)(hl:es.length < 30)(hp:(ap.endLine == q.line)=true) :
  eval (.Call (.Attribute o x ap) es [] q) env=(do
   let ov<-eval o env
   ej ap.atName
   let (f,first)<-dg [ov] (gh ov x (do return (<-importBound o env).getD true))
   callWith q f first (bK q (aP es env)) (dX q (dY [] env))):=by
 have hm:methodCallForm (es.length+([]:List dZ).length) (bK q (aP es env)) (dX q (dY [] env))=true:=by
  have e:=yg (pos:=q) (env:=env) hs;unfold methodCallForm;simp![aM,decide_eq_true_eq];refine{{?_,rfl},?_}
  .rw[ee];intro y hy
   have:=List.any_eq_false.mp e y hy
   simpa using this
  .show es.length+0+0 < 30;omega
 show(do
  let ov<-fE o x env (eval o env)
  ej ap.atName
  methodCall o x ap q env ov (es.length+([]:List dZ).length) (bK q (aP es env)) (dX q (dY [] env)))=_
 rw[qfJ ho];unfold methodCall;simp![hm,calleeOf,methodCallPos,if_true,hp,fc,lK];rfl
def qnf{o:ag}{x:Str}{es:List ag}{b:Bool}{t:Nat×ag×Int}(h:dgE L o x es b=some t):∃z p i j,o=.Name z p/\qbZ L z=some t.1/\x = "get"/\es=[t.2.1,.Constant (.int t.2.2) i j]/\b=true/\qE t.2.1=false:=by let(z,e,h):=qB h;let(p,ea):=Jo (qqt o) e;let(r,e3,h):=qB h;have e3:=Jo (qry es) e3;let(n,e4,h):=qB h;let(i,j,e4):=qft e4;let(s,e5,h):=qB h;let((h1,h2,h3),h):=yP h;cases h;exact{z,p,i,j,ea,e5,h1,by rw[e3,e4],h2,h3}
def qky(gd:Gd U K ε k X L)(A:All U K ε k X L m)(o:ag)(y:Str)(ap:Pos)(es:List ag)(q:Pos){t:Nat×ag×Int}(hd:dgE L o y es (ap.endLine == q.line)=some t)(h:((cE m L t.2.1).map λk=>.dget t.1 k t.2.2)=some x):PE X (.Call (.Attribute o y ap) es [] q) (tR U K ε Gv Hv (iR L.k x)):=by
  let(s,e,n):=t;let(b',h2,rfl):=map_some h;let(z,p',i,j,rfl,hj,rfl,rfl,hl,s2):=qnf hd;have hu:X.A.units+1 < du:=by have:=gd.room.un;omega
  have st:aP [e,Expr.Constant (.int n) i j] X.env=[(false,eval e X.env),(false,eval (Expr.Constant (.int n) i j) X.env)]:=by rw[qf s2];rfl
  refine PE.imp (qhp hu (YW gd hj p') (A.r Gv Hv _ _ h2) (qde (U:=U) (ε:=ε) (K:=K) (Gv:=Gv) (Hv:=Hv) (L:=L) (.int n) i j rfl) ⟨rfl,?_,hl,?_⟩) λZ H Q hq1=>?_
  .rw[st];rfl
  .rw[st];rfl
  refine ex4 hq1 λN G er h=>?_;have h:Wx _ (match qeE N s with |none=>R.no |some p=>_) _:=h
  cases e1:qeE N s with
  |none=>rw[e1]at h;exact ax h
  |some p=>
  rw[e1]at h;let(a,xs,z1,z2,z3,z4):=qkp er e1;refine{_,z1,a,rfl,.inl {_,.inl z2},N,G,er,?_};have h:=Wx.th (x:=noX (iR L.k b' N)) h
  cases e2:iR L.k b' N with
  |exc c l=>rw[e2]at h;exact ax h
  |no=>rw[e2]at h;exact ax h
  |ok y=>
  rw[e2]at h;have h:Wx _ (match keyD y.1 with |some k=>_ |none=>R.no) _:=h
  cases e3:keyD y.1 with
  |none=>rw[e3]at h;exact ax h
  | some k'=>
  rw[e3]at h;intro u G3 H3 p3 r3;refine{y.2,G3,p3.er,λw G4 H4 p4 r4=>?_};have hw:w=.int n:=by simpa only[RvR,Rep] using r4
  subst hw;rw[qck r3 e3];refine{_,qj5.k (k:=k') (p4.hs _ _ (p3.hs _ _ z2)),?_};have kl:=qfA k' z4 (ks:=p.1);refine h _ G4 H4 (p3.trans p4) ?_
  cases e4:atK p.1 p.2 k' with
  |none=>rw[e4]at kl;rw[show qa3 _ k'=none from kl];simp![RvR,Rep,Option.getD]
  |some d=>rw[e4]at kl;let(u',k1,k2):=kl;rw[k1];exact k2.same (p3.trans p4).gs
theorem qkz(gd:Gd U K ε k X L)(A:All U K ε k X L m)(o:ag)(y:Str)(ap:Pos)(es:List ag)(q:Pos)(h:cE (m+1) L (.Call (.Attribute o y ap) es [] q)=some x):PE X (.Call (.Attribute o y ap) es [] q) (tR U K ε Gv Hv (iR L.k x)):=by
 have h:(match dgE L o y es (ap.endLine == q.line) with |some t=>_ |none=>if (qbc o&&(ap.endLine == q.line)&&decide (es.length < 30))=true then _ else none)=_:=h
 cases hd:dgE L o y es (ap.endLine == q.line) with
 |some t=>rw[hd]at h;exact qky gd A o y ap es q hd h
 |none=>
 rw[hd]at h;let(hc,h):=yP h;let(a',l',h1,h2,rfl):=qj h;refineλpins s Z H Q I hq=>ex4 hq λN G er h=>?_;have h:=Wx.th (x:=iR L.k a' N) h;simp![aM,decide_eq_true_eq]at hc;let((ho,hp),hl):=hc
 cases e1:iR L.k a' N with
 |exc c l=>rw[e1]at h;exact ig (dQ (A.r Gv Hv _ _ h1 pins s Z H (λu u=>False) I ⟨N,G,er,by rw[e1];exact h⟩) (λv s1 z=>by let(_,_,_,_,q):=z;exact q.elim) λu u x=>x) (YX ho (qbg h2) hl hp)
 |no=>rw[e1]at h;exact ax h
 |ok w=>
  rw[e1]at h
  have h:Wx _ (match mtD L.cs w.1 y with
   |some f=>(iAs L.k l' w.2).th λz=>(L.cl f (toAr w.1::z.1)).th λr=>R.ok (r,z.2)
   |none=>R.no) _:=h
  cases e2:mtD L.cs w.1 y with
  |none=>rw[e2]at h;exact ax h
  |some f=>
  rw[e2]at h;let(c,ns,ds,e3,e4,e5):=qnd e2;let(C,fa,fd,ps,hC,M,F,B):=gd.mts c y f e5;have h:=Wx.th (x:=iAs L.k l' w.2) h;have hs:=qbg h2;have hs0:=hs
  have all:qjG C y (spF U K L.cl f) [] ε (tR U K ε Gv Hv (iR L.k a')) (tAs U K ε Gv Hv (iAs L.k l')) Z H Q:=by
   refine{N,G,er,?_};rw[e1];intro v G1 H1 p1 r1;have r1':=r1;rw[e3]at r1';simp![RvR,Rep]at r1';let(p',dx,C',xs,hc',rfl,h4,hl,h5):=r1';rw[hC]at hc';cases hc';refine{p',dx,_,rfl,p1.er.sub _ _ h4,qdf e4,w.2,G1,p1.er,Wx.mono h λz h vs G2 H2 p2 r2=>?_};show spF U K L.cl f (V.ref p'::(vs++[])) H2 Q ε;rw[b5];refine{G2,toAr w.1::z.1,p2.er.sub,{_,_,rfl,?_,r2},Wx.mono2 (Wx.th h) (XP.call p2) λr h v G3 H3 hs gs sub new rr=>?_}
   .rw[e3]at r1 ⊢;exact Rep.same p2.gs r1
   .let(z1,z2):=ReR.rv (p1.trans p2) hs gs sub new rr;exact h v G3 H3 z1 z2
  cases es with
  |nil=>cases qcm h2;refine qg9 (A.r Gv Hv _ _ h1) (gd.cls c C hC) M F gd.room B .nil gd.ps (ht:=YX ho hs0 hl hp) pins s Z H Q I ?_;let(N',G',er',z):=all;refine{N',G',er',Wx.mono z λx z v G1 H1 p1 r1=>?_};let(a,dx,fs,z1,z2,z3,N2,G2,er2,z):=z v G1 H1 p1 r1;exact{a,dx,fs,z1,z2,z3,z [] G2 H1 (Po.refl er2) rfl}
  |cons e l=>simp![c8,eP]at hs;exact qjI (A.r Gv Hv _ _ h1) (gd.cls c C hC) M F gd.room B .nil gd.ps (A.as Gv Hv _ _ h2) (qf hs.1) (yg hs.2) (ht:=YX ho hs0 hl hp) pins s Z H Q I all
theorem qkA(gd:Gd U K ε k X L)(A:All U K ε k X L m)(f:Str)(es:List ag)(p q:Pos)(hok:jM f=true)(hgl:glB L.sc f=true)(ht:L.cs.tab.contains f=true)(h:(cAs m L es).map (.new f)=some x):PE X (.Call (.Name f p) es [] q) (tR U K ε Gv Hv (iR L.k x)):=by
 let(l',h1,rfl):=map_some h;have hs:=qbg h1;rcases gd.mks f ht with ⟨hy,hno⟩|⟨C,fa,fd,ps,sp,M,F,hm,hb,hk,hsp⟩
 .refineλpins s Z H Q I hq=>ex4 hq λN G er h=>?_;have h:=Wx.th (x:=ifX L.y (iAs L.k l' N)) h;rw[hy]at h;have h:Wx _ (noX (iAs L.k l' N)) _:=h
  cases e1:iAs L.k l' N with
  |ok x=>rw[e1]at h;have h:Wx _ ((L.nw f x.1).th _) _:=h;rw[hno]at h;exact ax h
  |exc c l=>rw[e1]at h;exact ax h
  |no=>rw[e1]at h;exact ax h
 let(n1,n2,n3):=jN hok
 have rm:Room (k - 1+1) X.A:=by rw[show k - 1+1=k by omega];exact gd.room
 have key:∀Z H Q,tR U K ε Gv Hv (iR L.k (.new f l')) Z H Q->qjH C sp [] ε (tAs U K ε Gv Hv (iAs L.k l')) Z H Q:=λZ H Q ⟨N,G,er,h⟩=>by refine{N,G,er,Wx.mono (Wx.ifx (Wx.th (x:=ifX L.y (iAs L.k l' N)) h)) λx h vs G1 H1 p1 r1=>?_};show∀x dx,H1 x=none->H1 dx=none->dx≠x->sp (.ref x::(vs++[])) _ _ ε;rw[b5];refine hsp vs H1 Q ε ⟨G1,x.1,p1.er.sub,r1,Wx.mono2 (Wx.th h) (XP.call p1) λr h v G2 H2 hs gs sub new rr=>?_⟩;let(z1,z2):=ReR.rv p1 hs gs sub new rr;exact h v G2 H2 z1 z2
 cases es with
 |nil=>cases qcm h1;refine PE.imp (qha M F rm (gd.glo f hgl) hm hb .nil gd.ps n1) λZ H Q h=>?_;let(N,G,er,h):=key Z H Q h;exact h [] G H (Po.refl er) rfl
 |cons e l=>simp![c8,eP]at hs;exact PE.imp (qjJ M F rm (gd.glo f hgl) hm hb .nil gd.ps (A.as Gv Hv _ _ h1) n1 (qf hs.1) (yg hs.2)) key
end
def gT(U:KC)(K:Frag)(Ξ:XW)(t:Tg):TG:=λv Z H Q=>∃(Gv Hv:Hp) (N:Env) (G:Hp) (d:D),ER U K Gv Hv G H N Z/\Rep U G d v/\Wx Ξ (t.go d N) λN'=>∀Z',ER U K Gv Hv G H N' Z'->Q Z' H
def gNs(U:KC)(K:Frag)(Ξ:XW)(l:List Nat):TGs:=λvs Z H Q=>∃(Gv Hv:Hp) (N:Env) (G:Hp) (ds:List D),ER U K Gv Hv G H N Z/\qi U G ds vs/\Wx Ξ (ZM l ds N) λN'=>∀Z',ER U K Gv Hv G H N' Z'->Q Z' H
def PG.imp{X:Cx}{tg:ag}{t t':TG}(h:PG X tg t')(i:∀v Z H Q,t v Z H Q->t' v Z H Q):PG X tg t:=λpins s Z H v u Q I r hw=>h pins s Z H v u Q I r (i v Z H Q hw)
def PGs.imp{X:Cx}{tg:List ag}{t t':TGs}(h:PGs X tg t')(i:∀v Z H Q,t v Z H Q->t' v Z H Q):PGs X tg t:=λpins s Z H v u Q I r hw=>h pins s Z H v u Q I r (i v Z H Q hw)
section
variable{U:KC}{ε:XK}{Ξ:XW}{K:Frag}{Gv Hv:Hp}{k m:Nat}{X:Cx}{L:Ct}{x:E}
def qdg(gd:Gd U K ε k X L){y:Str}{i:Nat}(h:qfw L y=some i):L2.Loc X.env.scope y/\(X.fn y=true\/X.env.scope.names.lookup y=some .local)/\X.N.Nodup/\X.N[i]?=some y:=by unfold qfw at h;let(hc,h):=ql h;rw[aM]at hc;let(l1,l2):=gd.loc y hc.1;exact{l1,l2,by rw[gd.hN];exact gd.nd,by rw[gd.hN];exact ZQ h}
def qng(gd:Gd U K ε k X L){y:Str}{i:Nat}(h:qfw L y=some i)(pos:Pos):PG X (.Name y pos) (gT U K Ξ (.one i)):=by let(l1,l2,l3,l4):=qdg gd h;refine PG.imp (qjy (i:=i) l3 l4 l1 l2) λv Z H Q hq1=>?_;let(Gv,Hv,N,G,d,er,r,h):=hq1;exact h _ (er.setVal r)
theorem qdh{e:ag}{es:List ag}{j:Nat}{p:Pos}{xs:List Str}(h:zt (.Tuple (e::es) j p)=some xs):∃x pos r,e=.Name x pos/\xs=x::r/\zt (.Tuple es j p)=some r:=by
 have q0:zt (.Tuple es j p)=(es.foldr (λe r=>match e,r with |.Name x _,some l=>some (x::l) |_,_=>none) (some []):Option (List Str)):=rfl
 cases e with
 |Name x pos=>
  cases q:(es.foldr (λe r=>match e,r with |.Name x _,some l=>some (x::l) |_,_=>none) (some []):Option (List Str)) with
  |none=>have h':(match (Expr.Name x pos:ag),(es.foldr (λe r=>match e,r with |.Name x _,some l=>some (x::l) |_,_=>none) (some []):Option (List Str)) with |.Name x _,some l=>some (x::l) |_,_=>none)=some xs:=h;rw[q]at h';cases h'
  |some l=>have h':(match (Expr.Name x pos:ag),(es.foldr (λe r=>match e,r with |.Name x _,some l=>some (x::l) |_,_=>none) (some []):Option (List Str)) with |.Name x _,some l=>some (x::l) |_,_=>none)=some xs:=h;rw[q]at h';cases h';exact{x,pos,l,rfl,rfl,q0.trans q}
 |_=>cases h
theorem qi3(gd:Gd U K ε k X L){j:Nat}{p:Pos}:∀{es:List ag} {xs:List Str} {l:List Nat},zt (.Tuple es j p)=some xs->qhO L xs=some l->PGs X es (gNs U K Ξ l)
 | [],xs,l,h,h'=>by
  have e:xs=[]:=by unfold zt at h;cases h;rfl
  subst e;cases h';refine PGs.imp qjz λvs Z H Q hq1=>?_;let(Gv,Hv,N,G,ds,er,r,h):=hq1
  cases ds with
  |nil=>simp![qi]at r;exact{r,h Z er}
  |cons d ds=>exact ax h
 | e::es,xs,l,h,h'=>by
  let(x,pos,r,rfl,rfl,h0):=qdh h;let(i,l,h1,h2,rfl):=qj h';refine PGs.imp (qgY (qng (Ξ:=Ξ) gd h1 pos) (qi3 gd h0 h2)) λvs Z H Q hq1=>?_;let(Gv,Hv,N,G,ds,er,rr,h):=hq1
  cases ds with
  |nil=>exact ax h
  |cons d ds=>simp![qi]at rr;let(v,vr,rfl,r1,r2):=rr;exact{v,vr,rfl,Gv,Hv,N,G,d,er,r1,λZ1 er1=>{Gv,Hv,_,G,ds,er1,r2,h}}
theorem qbh{env:PySem.Env}{j:Nat}{p:Pos}:∀{es:List ag} {xs:List Str} {l:List Nat},zt (.Tuple es j p)=some xs->qhO L xs=some l->(dU es env).length=l.length/\(dU es env).findIdx? (·.1)=none
 | [],xs,l,h,h'=>by unfold zt at h;cases h;cases h';exact⟨rfl,rfl⟩
 | e::es,xs,l,h,h'=>by let(x,pos,r,rfl,rfl,h0):=qdh h;let(i,l,h1,h2,rfl):=qj h';let(h1,h2):=qbh (env:=env) h0 h2;have e:dU (.Name x pos::es) env=(false,eo (.Name x pos) env)::dU es env:=rfl;rw[e];refine{by simp[h1],?_};rw[List.findIdx?_cons];simp[h2]
theorem qbi{Ξ:XW}:∀{l:List Nat} {ds:List D} {N:Env} {F:Env->Prop},Wx Ξ (ZM l ds N) F->ds.length=l.length
 |[],[],z,y,x=>rfl
 | [],z::y,x,w,h=>ax h
 | z::y,[],x,w,h=>ax h
 | i::l,d::ds,N,F,h=>congrArg (· + 1) (qbi (l:=l) (ds:=ds) (N:=N.set i (.val d)) h)
theorem qh0(gd:Gd U K ε k X L)(tg:ag){t:Tg}(h:cTg L tg=some t):PG X tg (gT U K Ξ t):=by
 cases tg with
 |Name x pos=>let(i,h1,rfl):=map_some h;exact qng gd h1 pos
 |Tuple es j p=>
  let(hs,h):=ql h
  cases hx:zt (.Tuple es j p) with
  |none=>rw[hx]at h;cases h
  |some xs=>
   rw[hx]at h;let(l,h2,rfl):=map_some h;let(t1,t2):=qbh (env:=X.env) hx h2;refine PG.imp (qlF (n:=l.length) gd.calm (qi3 (Ξ:=Ξ) gd hx h2) t1 t2) λv Z H Q hq1=>?_;let(Gv,Hv,N,G,d,er,r,h):=hq1
   cases d with
   |tup ds=>have h:Wx _ (ZM l ds N) _:=h;simp![Rep]at r;let(a,ys,rfl,r1,r2):=r;exact{a,ys,rfl,SqT.of (er.sub _ _ r1),by rw[<-r2.len];exact qbi h,Gv,Hv,N,G,ds,er,r2,h}
   |_=>exact ax h
 |_=>cases h
theorem qi4{env:PySem.Env}:∀{names:List (Str×cH)} {x:Str},names.lookup x=some .globalImplicit->
  (names.map λ(n,k)=>if (k == cc&&env.scope.kind == .function&&env.kindOf n == some .cell) then (n,fX) else (n,k)).lookup x=some .globalImplicit
 |[],z,h=>by simp at h
 | (n,k)::r,x,h=>by
  simp![au]
  by_cases hx:x=n
  .subst hx;simp[bC]at h;subst h;rw[if_neg (5:)];simp[bC]
  .have hb:(x == n)=false:=(-hx:)
   rw[bC,hb]at h;have ih:=qi4 (env:=env) h
   by_cases hc:(k == cc&&env.scope.kind == .function&&env.kindOf n == some .cell)=true
   .rw[if_pos hc];simp![bC,hb];exact ih
   .rw[if_neg hc];simp![bC,hb];exact ih
def qbj(gd:Gd U K ε k X L){own:List Str}{fr:List Nat}{sc:bw}(h:Yj L.sc L.N fr sc=true):BlkScope X own fr sc:=by
 unfold Yj at h;simp![aM,ee]at h;let((hk,hn),hf):=h;refine{by simpa using hk,λx hx=>by simpa using (hn x hx).1.1,λx hx e=>?_,λx hx e=>?_,λi hi=>?_}
 .have:=(hn x hx).1.2
  simpa [e] using this
 .have:=(hn x hx).2
  exact gd.cf x.1 (by simpa [e] using this)
 .rw[gd.hN]
  simpa using hf i hi
def qnh:jx CX0 X E0:=λz z z z z z z c=>ax c
def QT(gd:Gd U K ε k X L){own:List Str}{fr:List Nat}{sc:bw}(B:BlkScope X own fr sc)(hnd:(own++fr.map λi=>L.N.getD i "").Nodup)(cl:List (Str×af))(C:af)(fp:List af)(s2:ah)(H2:Hp) :
  Gd U K E0 k (blk X (Zy X own fr) sc cl C fp s2 H2) { L with N:=own++fr.map λi=>L.N.getD i "",sc:=sc } where
 ps:=qnh
 hN:=by show Zy X own fr=_;unfold Zy;rw[gd.hN]
 vis:=λx h=>by
  have h:=qiY h;rcases h with h|h|h
  .exact .inl (lookup_relabel_local h)
  .exact absurd rfl (B.nocell _ (dk h))
  .rcases Yg (env:=X.env) h with z|z
   .exact .inr (.inl z)
   .exact .inr (.inr z)
 loc:=λx h=>by
  have h:=qfy h;rcases h with h|h
  .have z:(relabel sc X.env).names.lookup x=some .local:=lookup_relabel_local h;exact{.inl z,.inr z}
  .exact absurd rfl (B.nocell _ (dk h))
 glo:=λx h=>by unfold glB at h;exact qi4 (env:=X.env) (-h:)
 cf:=λx h=>by
  rcases h with h|h
  .exact absurd rfl (B.nocell _ (dk h))
  .exact Yg (env:=X.env) h
 nd:=hnd
 calm:=gd.calm
 hK:=gd.hK
 room:=gd.room
 fns:=gd.fns
 blt:=gd.blt
 gl:=gd.gl
 cls:=gd.cls
 flds:=gd.flds
 mts:=gd.mts
 mks:=gd.mks
 subs:=gd.subs
def qni{G H:Hp}{N:Env}{Z:L2.St}(er:ER U K Gv Hv G H N Z)(own:List Str)(fr:List Nat):ER U K G H G H (qb0 own.length fr N) (Zz own fr Z):=by
 refine{by simp[qb0,Zz],er.sub,λy y e=>e,λy y e=>e,λa o e=>.inl ⟨o,e⟩,λi s e=>?_,λi j a l n e1 y1=>?_}
 .unfold qb0 at e;unfold Zz
  by_cases hi:i < own.length
  .rw[dF (-hi:)]at e;obtain rfl:=iU (ed e);trivial
  .rw[c5 (-hi:)]at e ⊢;simp![aD,lh]at e ⊢;rw[bu]at e ⊢;let(j,e1,rfl):=bM.mp e;rw[e1];show SlR U K G H H (qmG (N.getD j .no)) (some (Z[j]?).join)
   cases q:N[j]? with
   |none=>rw[nD,q];trivial
   |some s=>
    rw[nD,q];have w:=er.sl j s q
    cases s with
    |no=>trivial
    |val d=>let(v,z,r):=w;exact{v,by rw[z];rfl,r}
    |own l=>let(a,xs,z,r1,r2,r3,r4):=w;exact{a,xs,by rw[z];rfl,r1,r4}
    |dic ks l=>trivial
    |bor l=>let(a,xs,z,r1,r4):=w;exact{a,xs,by rw[z];rfl,er.base _ _ r1,r4}
    |scr l=>let(a,xs,z,r1,r4):=w;exact{a,xs,by rw[z];rfl,er.base.seq r1,r4}
 .exfalso;unfold qb0 at e1
  by_cases hi:i < own.length
  .rw[dF (-hi:)]at e1;rw[iU (ed e1)]at y1;cases y1
  .rw[c5 (-hi:),bu]at e1;let(j,_,z):=bM.mp e1
   cases q:N.getD j .no<;>rw[q]at z<;>cases z<;>cases y1
def qcn{it:ag}(h:qbe it=true)(env:PySem.Env):∀x,kc it env x=pure x:=by
 intro x
 cases it<;>first|rfl|(simp[qbe]at h)
def qnj(A:All U K ε k X L m)(e:ag){x:E}(hx:cX m L e=some x):PE X e (λZ H Q=>∃Gv Hv,tE U K ε Gv Hv (jh x (iR L.k x)) Z H Q):=λpins s Z H Q I ⟨Gv,Hv,h⟩=>A.e Gv Hv e x hx pins s Z H Q I h
def qi5(A:All U K ε k X L m)(es:List ag){x:F}(hx:cF m L es=some x):PIf X es (λZ H Q=>∃Gv Hv,tT U K ε Gv Hv (iF L.k x) Z H Q):=λpins s Z H Q I ⟨Gv,Hv,h⟩=>A.f Gv Hv es x hx pins s Z H Q I h
structure CompS(L:Ct)(m:Nat)(elt tg it:ag)(ifs:List ag)(sc:bw)(own:List Str)(el:E)(src:I)(t:Tg)(c:F):Prop where
 chk:Yj L.sc L.N (QR L.N sc) sc=true
 nd:(own++(QR L.N sc).map λi=>L.N.getD i "").Nodup
 fold:qbe it=true
 src:cC L it (cI m L (qhM tg) it)=some src
 tg:cTg { L with N:=own++(QR L.N sc).map λi=>L.N.getD i "",sc:=sc } tg=some t
 c:cF m { L with N:=own++(QR L.N sc).map λi=>L.N.getD i "",sc:=sc } ifs=some c
 el:cX m { L with N:=own++(QR L.N sc).map λi=>L.N.getD i "",sc:=sc } elt=some el
theorem qnk{elt:ag}{gs:List Comprehension}{sc:bw}{pos:Pos}(h:cE (m+1) L (.ListComp elt gs sc pos)=some x):∃tg it ifs own el src t c,gs=[⟨tg,it,ifs,0⟩]/\CompS L m elt tg it ifs sc own el src t c/\x=.comp el src t c own.length (QR L.N sc):=by
 match gs,h with
 |[⟨tg,it,ifs,as⟩],h=>
  let(ha,h):=ql h;obtain rfl:as=0:=of_decide_eq_true ha;dsimp only at h
  cases hx:zt tg with
  |none=>rw[hx]at h;cases h
  |some own=>rw[hx]at h;let(hc,h):=ql h;let(p1,p2,h1,h2,rfl):=qj h;let(src,t,h3,h4,rfl):=qj h1;let(c,el,h5,h6,rfl):=qj h2;simp![aM]at hc;exact{tg,it,ifs,own,el,src,t,c,rfl,{hc.1.1,of_decide_eq_true hc.1.2,hc.2,h3,h4,h5,h6},rfl}
 |[],h=>cases h
 | z::y::w,h=>cases h
def tC(U:KC)(K:Frag)(ε:XK)(Gv Hv:Hp)(f:Env->R (List D×Env)):TI:=λZ H Q=>∃N G,ER U K Gv Hv G H N Z/\Wx (XP U Gv Hv ε) (f N) λx=>∀J G' H',Po U K Gv Hv Z G H N G' H' x.2->ItR U H' G' J x.1->Q J H'
def qqw(gd:Gd U K ε k X L)(A:All U K ε k X L m)(tg it:ag){src:I}(hs:cC L it (cI m L (qhM tg) it)=some src):PI X tg it (tC U K ε Gv Hv (iI L.k src)):=by refineλpins s Z H Q I hq=>ex4 hq λN G er h=>?_;have hs:cI m L (qhM tg) it=some src:=hs;exact A.i Gv Hv tg it src hs pins s Z H Q I ⟨N,G,er,Wx.mono h λx h J G' H' p it1=>h J G' H' p λi G2 H2 g hh sub=>it1 i G2 H2 g (λb o e=>hh b o (p.er.base b o e)) sub⟩
def qdi{elt tg it:ag}{ifs:List ag}{sc:bw}{own:List Str}{el:E}{src:I}{t:Tg}{c:F}(S:CompS L m elt tg it ifs sc own el src t c):∀Z H Q,tR U K ε Gv Hv (iR L.k (.comp el src t c own.length (QR L.N sc))) Z H Q->
  qj1 own (QR L.N sc) (tC U K ε Gv Hv (iI L.k src)) (gT U K X0 t) (λZ H Q=>∃Gv Hv,tT U K E0 Gv Hv (iF L.k c) Z H Q) (λZ H Q=>∃Gv Hv,tE U K E0 Gv Hv (jh el (iR L.k el)) Z H Q) Z H Q:=λZ H Q ⟨N,G,er,h⟩=>by
 refine{N,G,er,Wx.mono (Wx.th (x:=iI L.k src N) h) λx h J G1 H1 p1 it1=>?_};let(hz,h):=Wx.iff h;have h:=Wx.nox (Ξ':=X0) (Wx.th h)
 refine{λi mm ys Z' H'=>mm=x.1.length - i/\i<=x.1.length/\∃Nb Gb ds,ER U K G1 H1 Gb H' Nb Z'/\qi U Gb ds ys/\ds.length<=i/\
   Wx X0 (qfu t.go (λN1=>iF L.k c N1) (jh el (iR L.k el)) (x.1.drop i) Nb ds)
    (λl=>∀v G' H',Po U K Gv Hv Z G H N G' H' x.2->RvR U K Hv H G' H' x.2 Z (.tmp l) v->Q v H'),
  {x.1.length,by simp,aZ _,qb0 own.length (QR L.N sc) x.2,G1,[],qni p1.er own (QR L.N sc),.nil,ay _,?_},?_}
 .rw[gN];exact h
 rintro i mm ys Z' H' ⟨rfl,hi,Nb,Gb,ds,erb,rds,hdl,hw⟩;have it2:=it1 i Gb H' erb.g0 erb.base erb.sub
 by_cases hlt:i < x.1.length
 .let(go,yl):=it2.1 x.1[i] (bN hlt);have hyl:=rds.len;refine .inr ⟨go,by lia,_,λys' Z2 H2 w=>{x.1.length - (i+1),by lia,w},λv H2 hy=>?_⟩;let(G',hs,gs,sub,new,rep):=yl v H2 hy;have p2:=Po.more erb hs gs sub new;rw[fg hlt]at hw;refine{G1,H1,Nb,G',x.1[i],p2.er,rep,Wx.mono (Wx.th hw) λN1 hw Z1 er1=>{G1,H1,N1,G',er1,Wx.mono2 (Wx.th hw) (λu u z=>ax z) λbt hw G2 H3 p3=>?_}};let(b,N2):=bt
  cases b with
  |true=>rw[if_pos rfl];refine{G1,H1,N2,G2,p3.er,Wx.mono2 (Wx.th hw) (λu u z=>ax z) λy hw w G3 H4 p4 rep4=>{rfl,hlt,y.2,G3,ds++[y.1],p4.er,?_,by simp;lia,(Wx.iff hw).2}};exact(((rds.same gs).same p3.gs).same p4.gs).snoc rep4
  |false=>rw[if_neg (λz=>by cases z)];exact{rfl,hlt,N2,G2,ds,p3.er,(rds.same gs).same p3.gs,by lia,hw}
 .have e:i=x.1.length:=by lia
  subst e;refine .inl ⟨it2.2 rfl,λp hp=>?_⟩;rw[List.drop_length]at hw;have p2:=p1.trans (Po.more p1.er erb.base erb.g0 erb.sub erb.fresh);let(z1,z2):=p2.er.newList hp rds;exact hw _ _ _ (p2.trans z1) (z2.back p2.hs)
def qkB(gd:Gd U K ε k X L)(A:All U K ε k X L m)(ih:∀ε' X' L',Gd U K ε' k X' L'->All U K ε' k X' L' m)(elt:ag)(gs:List Comprehension)(sc:bw)(pos:Pos)(h:cE (m+1) L (.ListComp elt gs sc pos)=some x):PE X (.ListComp elt gs sc pos) (tR U K ε Gv Hv (iR L.k x)):=by
 let(tg,it,ifs,own,el,src,t,c,rfl,S,rfl):=qnk h;have B:BlkScope X own (QR L.N sc) sc:=qbj gd S.chk
 exact PE.imp (qj3 own (QR L.N sc) gd.calm B (qqw (Gv:=Gv) (Hv:=Hv) gd A tg it S.src) (λcl C fp s2 H2=>qh0 (QT gd B S.nd cl C fp s2 H2) tg S.tg) (λcl C fp s2 H2=>qi5 (ih _ _ _ (QT gd B S.nd cl C fp s2 H2)) ifs S.c)
  (λcl C fp s2 H2=>qnj (ih _ _ _ (QT gd B S.nd cl C fp s2 H2)) elt S.el) (qcn S.fold X.env)) (qdi S)
theorem qkC(gd:Gd U K ε k X L)(A:All U K ε k X L m)(f:Str)(es:List ag)(p q:Pos)(h:cE (m+1) L (.Call (.Name f p) es [] q)=some x):PE X (.Call (.Name f p) es [] q) (tR U K ε Gv Hv (iR L.k x)):=by
 let(hn,h):=ql h;simp![aM]at hn;let((h1,h2),h3):=hn
 by_cases hi:f = "isinstance"
 .subst hi;rw[if_pos rfl]at h
  match es,h with
  |[a,b],h=>
   cases b with
   |Name t tp=>exact qnc gd A a t p tp q h2 h
   |_=>cases h
  |[],h=>cases h
  |[z],h=>cases h
  | z::y::w::v,h=>cases h
 rw[if_neg hi]at h
 by_cases ht:L.tab.contains f=true
 .rw[if_pos ht]at h;exact qhX gd A f es p q h1 h2 ht h
 rw[if_neg ht]at h
 by_cases hk:L.cs.tab.contains f=true
 .rw[if_pos hk]at h;exact qkA gd A f es p q h1 h2 hk h
 rw[if_neg hk]at h
 match es,h with
 |[a],h=>
  have h:(match ssE L f a with |some t=>_ |none=>_)=_:=h
  cases hs:ssE L f a with
  |some t=>rw[hs]at h;exact qna gd A f a p q h2 hs h
  |none=>rw[hs]at h;exact qhY gd A f a p q h2 h
 |[a,b],h=>exact qhZ gd A f a b p q h2 h
 |[],h=>cases h
 | z::y::w::v,h=>cases h
theorem qrO(gd:Gd U K ε k X L)(A:All U K ε k X L m)(ih:∀ε' X' L',Gd U K ε' k X' L'->All U K ε' k X' L' m)(e:ag)(x:E)(h:cE (m+1) L e=some x):PE X e (tR U K ε Gv Hv (iR L.k x)):=by
 cases e with
 |Name x pos=>exact qhP gd h pos
 |Constant c j pos=>exact qde c j pos h
 |BinOp a op b pos=>exact qhT A a b op pos h
 |UnaryOp op a pos=>
  cases op with
  |USub=>exact qmS A a pos h
  |Not=>exact qks A a pos h
  |_=>cases h
 |BoolOp op vs pos=>
  match vs,h with
  |[],h=>cases op<;>cases h
  |[a],h=>cases op<;>(let(a',h1,rfl):=map_some h;exact PE.imp (qlB (A.r Gv Hv _ _ h1)) λZ H Q h=>h)
  | a::b::l,h=>
   cases op with
   |And=>exact qmT A a b l pos h
   |Or=>cases h
 |Compare a ops bs pos=>
  match ops,bs,h with
  |[op],[b],h=>exact qkt gd A a b op pos h
  |[],z,h=>cases h
  |[z],[],h=>cases h
  | [z],y::w::v,h=>cases h
  | z::y::w,v,h=>cases h
 |IfExp c a b pos=>exact qmU A c a b pos h
 |Subscript a b pos=>exact qmX gd A a b pos h
 |List es pos=>exact qmY A es pos h
 |Tuple es j pos=>exact qmZ A es j pos h
 |Call fn es kws q=>
  cases fn with
  |Name f p=>
   cases kws with
   |nil=>exact qkC gd A f es p q h
   |cons kw kws=>cases h
  |Attribute o x ap=>
   cases kws with
   |nil=>exact qkz gd A o x ap es q h
   |cons kw kws=>cases h
  |_=>cases h
 |Attribute o x pos=>exact qne gd A o x pos h
 |ListComp elt gens sc pos=>exact qkB gd A ih elt gens sc pos h
 |_=>cases h
theorem all:∀(m:Nat) (ε:XK) (X:Cx) (L:Ct),Gd U K ε k X L->All U K ε k X L m
 |0,z,y,x,w=>qrH
 | m+1,ε,X,L,gd=>
  have A:=all m ε X L gd
  ⟨λGv Hv=>qrO gd A (all m),λGv Hv=>qrI gd A,λGv Hv=>qrL gd A,λGv Hv=>qpL A,λGv Hv=>qpM A,λGv Hv=>qrJ A,λGv Hv=>qrK A,λGv Hv=>qrM gd A,λGv Hv=>qrN gd A⟩
end
section
variable(U:KC)(K:Frag)(Gv Hv:Hp)
def FlP(G:Hp)(D:Ends):Fl->Prop
 | .next N'=>∀Z' G' H',ER U K Gv Hv G' H' N' Z'->qo G G'->D.nx Z' H'
 |.ret r=>∀v G' H',qo Hv H'->qo Gv G'->qo G' H'->(∀a o,G' a=some o->(∃o',Gv a=some o')\/Hv a=none)->ReR U G' H' Hv r v->D.rt v H'
def tS(ε:XK)(f:Env->R Fl):TS:=λD Z H=>∃N G,ER U K Gv Hv G H N Z/\Wx (XP U Gv Hv ε) (f N) (FlP U K Gv Hv G D)
end
structure Gs(U:KC)(K:Frag)(ε:XK)(k:Nat)(X:Cx)(L:Ct):Prop extends Gd U K ε k X L where
 own:L.z=false->lZ (av X.prog X.w) X.A X.env X.xe
 ex:X.ex=[]
 stk:X.stack=X.env::X.outer/\X.env.frame=some X.env.locals
 sceq:X.env.scope=L.sc
 fnk:L.sc.kind=.function
def PS.imp{X:Cx}{st:aI}{t t':TS}(h:PS X st t')(i:∀D Z H,t D Z H->t' D Z H):PS X st t:=λpins s Z H D I hw=>h pins s Z H D I (i D Z H hw)
def PSs.imp{X:Cx}{st:List aI}{t t':TS}(h:PSs X st t')(i:∀D Z H,t D Z H->t' D Z H):PSs X st t:=λpins s Z H D I hw=>h pins s Z H D I (i D Z H hw)
def QU{e:ag}(h:Jp e=true)(t:Option ag)(l:Nat)(env:PySem.Env):fu e t l env=pure false:=by cases e<;>first|rfl|(simp[Jp]at h)
section
variable{U:KC}{ε:XK}{K:Frag}{Gv Hv:Hp}{k m w:Nat}{X:Cx}{L:Ct}
def zu{N:Env}{i:Nat}{l:List D}(h:zj N i=some l):N[i]?=some (.own l):=by
 unfold zj at h
 split at h
 .rename_i e;cases h;exact e
 .cases h
def ER.ownSlot{G H:Hp}{N:Env}{Z:L2.St}{i:Nat}{l:List D}(er:ER U K Gv Hv G H N Z)(e:N[i]?=some (.own l)):∃a xs,Z[i]?=some (some (.ref a))/\H a=some (.lst xs)/\qi U G l xs:=by let(a,xs,z,h1,h2,h3,h4):=er.sl i _ e;exact⟨a,xs,z,h1,h4⟩
theorem qfK(gd:Gd U K ε k X L)(A:All U K ε k X L m)(x:Str)(a:ag)(xp ap cp p:Pos){i:Nat}{a':E}(hl:(ap.endLine == cp.line)=true)(s1:qE a=false)(hi:qbZ L x=some i)(ha:cX m L a=some a') :
  PS X (.Expr (.Call (.Attribute (.Name x xp) "append" ap) [a] [] cp) p) (tS U K Gv Hv ε (iS L.k w (.app i a'))):=by
 have few:((bK cp (aP [a] X.env)).all (λx=>!x.1)&&(dX cp (dY [] X.env)).all (λx=>x.1.isSome)&&decide (([a]:List ag).length+([]:List dZ).length+(if ([]:List dZ).isEmpty then 0 else 1) < 30))=true:=by rw[qf s1];rfl
 refine PS.imp (Yz (qlZ kQ PySem.F.slot_list_append PySem.F.type_list_append qeY (YW gd hi xp) (qk (A.e Gv Hv _ _ ha) qD (qf s1)) rfl few hl (qf s1) rfl) rfl) λD Z H hq1=>?_;refine ex4 hq1 λN G er h=>?_;have h:Wx _ (α:=Fl) (match zj N i with |none=>R.no |some _=>(jh a' (iR L.k a') N).th λy=>match zj y.2 i with |some l=>if l.length < sizeLine then .ok (.next (y.2.set i (.own (l++[y.1])))) else .no |none=>.no) _:=h
 cases e1:zj N i with
 |none=>rw[e1]at h;exact ax h
 |some l0=>
  rw[e1]at h;let(b,xs,z,h1,h2):=er.ownSlot (zu e1);refine{_,z,.inl {rfl,xs,SqL.of h1},N,G,er,Wx.mono (Wx.th h) λy h v G1 H1 p1 r1=>?_}
  cases e2:zj y.2 i with
  |none=>rw[e2]at h;exact ax h
  |some l=>rw[e2]at h;let(hz,h):=Wx.iff h;let(b',ys,z',h3,h4):=p1.er.ownSlot (zu e2);rw[z]at z';cases z';refine{b,ys,v,rfl,rfl,h3,by rw[<-h4.len];exact hz,?_};exact h Z G1 _ (p1.er.write (zu e2) z (h4.snoc r1)) p1.gs
theorem qfL(gd:Gd U K ε k X L)(A:All U K ε k X L m)(x:Str)(a:ag)(xp ap cp p:Pos){i:Nat}{a':E}(hl:(ap.endLine == cp.line)=true)(s1:qE a=false)(hi:qbZ L x=some i)(ha:cE m L a=some a') :
  PS X (.Expr (.Call (.Attribute (.Name x xp) "extend" ap) [a] [] cp) p) (tS U K Gv Hv ε (iS L.k w (.ext i a'))):=by
 have few:((bK cp (aP [a] X.env)).all (λx=>!x.1)&&(dX cp (dY [] X.env)).all (λx=>x.1.isSome)&&decide (([a]:List ag).length+([]:List dZ).length+(if ([]:List dZ).isEmpty then 0 else 1) < 30))=true:=by rw[qf s1];rfl
 refine PS.imp (Yz (qlZ kQ PySem.F.slot_list_extend PySem.F.type_list_extend qeZ (YW gd hi xp) (qk (A.r Gv Hv _ _ ha) qD (qf s1)) rfl few hl (qf s1) rfl) rfl) λD Z H hq1=>?_;refine ex4 hq1 λN G er h=>?_;have h:Wx _ (α:=Fl) (match zj N i with |none=>R.no |some _=>(iR L.k a' N).th λy=>match zj y.2 i,y.1.plain? with |some l,some n=>if l.length+n.length<=sizeLine then .ok (.next (y.2.set i (.own (l++n)))) else .no |_,_=>.no) _:=h
 cases e1:zj N i with
 |none=>rw[e1]at h;exact ax h
 |some l0=>
  rw[e1]at h;let(b,xs,z,h1,h2):=er.ownSlot (zu e1);refine{_,z,.inl {rfl,xs,SqL.of h1},N,G,er,Wx.mono (Wx.th h) λy h v G1 H1 p1 r1=>?_}
  cases e2:zj y.2 i with
  |none=>rw[e2]at h;exact ax h
  |some l=>
   cases e3:y.1.plain? with
   |none=>rw[e2,e3]at h;exact ax h
   |some n=>rw[e2,e3]at h;let(hz,h):=Wx.iff h;let(b',ys,z',h3,h4):=p1.er.ownSlot (zu e2);let(c,zs,rfl,h5,h6):=r1.plain p1.er e3;rw[z]at z';cases z';refine{b,c,ys,zs,rfl,rfl,h3,h5,by rw[<-h4.len,<-h6.len];exact hz,?_};exact h Z G1 _ (p1.er.write (zu e2) z (h4.app h6)) p1.gs
theorem qnl(gd:Gd U K ε k X L)(A:All U K ε k X L m)(e:ag)(p:Pos){z:E}(h:cV m L e=some z):PS X (.Return (some e) p) (tS U K Gv Hv ε (iS L.k w (.ret z))):=by
 have gen:(cE m L e).bind ZO=some z->PS X (.Return (some e) p) (tS U K Gv Hv ε (iS L.k w (.ret z))):=λh=>by
  let(y,h1,h2):=eh.mp h;let(rfl,hv):=zU h2;refine PS.imp (qeJ (A.r Gv Hv _ _ h1)) λD Z H hq1=>?_;refine ex4 hq1 λN G er h=>?_;have h:=Wx.th (x:=qhN y (iR L.k y) N) h;rw[qkl hv]at h;refine{N,G,er,Wx.mono (Wx.th h) λx h v G1 H1 p1 r1=>?_};let(rv,N1):=x
  cases rv with
  |val d=>exact h v G1 H1 p1.er.base p1.er.g0 p1.er.sub p1.er.fresh r1
  |tmp l=>let(a,xs,rfl,h1,h2,h3,h4,h5,h6):=r1;exact h _ G1 H1 p1.er.base p1.er.g0 p1.er.sub p1.er.fresh ⟨a,xs,rfl,h1,h3,h4,h6⟩
  |_=>exact ax h
 cases e with
 |Name x pos=>
  rcases ZU gd h pos with ⟨i,rfl,P⟩|⟨d,v,rfl,e3,P⟩
  .refine PS.imp (qeJ P) λD Z H hq1=>?_;refine ex4 hq1 λN G er h=>?_;have h:=Wx.th (x:=slX N i) h;unfold slX at h
   cases q:N[i]? with
   |none=>rw[q]at h;exact ax h
   |some s=>
    rw[q]at h;have w:=er.sl i s q
    cases s with
    |val d=>let(v,z,r):=w;exact{v,z,h v G H er.base er.g0 er.sub er.fresh r}
    |own l=>let(a,xs,z,r1,r2,r3,r4):=w;exact{_,z,h _ G H er.base er.g0 er.sub er.fresh ⟨a,xs,rfl,r1,r2,r3,r4⟩}
    |_=>exact ax h
  .refine PS.imp (qeJ P) λD Z H hz7=>?_;refine ex4 hz7 λN G er h=>?_;exact h v G H er.base er.g0 er.sub er.fresh (e3 G)
 |_=>exact gen h
def AsR(U:KC)(K:Frag)(Hv G H:Hp)(N:Env)(Z:L2.St):Sl->V->Prop
 |.val d,v=>Rep U G d v
 |.own l,v=>∃a xs,v=.ref a/\H a=some (.lst xs)/\Hv a=none/\G a=none/\¬ qch N Z a/\qi U G l xs
 |z,y=>False
def tA(U:KC)(K:Frag)(ε:XK)(Gv Hv:Hp)(f:Env->R (Sl×Env)):TE:=λZ H Q=>∃N G,ER U K Gv Hv G H N Z/\Wx (XP U Gv Hv ε) (f N) λs=>∀v G' H',Po U K Gv Hv Z G H N G' H' s.2->AsR U K Hv G' H' s.2 Z s.1 v->Q v H'
theorem qkD{G H:Hp}{N:Env}{Z:L2.St}{s:Sl}{v:V}{i:Nat}(er:ER U K Gv Hv G H N Z)(h:AsR U K Hv G H N Z s v):ER U K Gv Hv G H (N.set i s) (Z.set i (some v)):=by
 cases s with
 |val d=>exact er.setVal h
 |own l=>let(a,xs,rfl,h1,h2,h3,h4,h5):=h;exact er.setOwn h1 h2 h3 h4 h5
 |_=>exact ax h
theorem qqx{z:E}(hv:∀i,z≠.var i)(Z:L2.St)(H:Hp)(Q:VK)(h:tA U K ε Gv Hv (qek z (iR L.k z)) Z H Q):tR U K ε Gv Hv (iR L.k z) Z H Q:=by
 refine ex4 h λN G er h=>?_;rw[qkm hv]at h;refine{N,G,er,Wx.mono (Wx.th h) λx h v G1 H1 p1 r1=>?_};let(rv,N1):=x
 cases rv with
 |val d=>exact h v G1 H1 p1 r1
 |tmp l=>let(a,xs,rfl,h1,h2,h3,h4,h5,h6):=r1;exact h _ G1 H1 p1 ⟨a,xs,rfl,h1,h3,h4,h5,h6⟩
 |_=>exact ax h
theorem qqy(gd:Gd U K ε k X L)(A:All U K ε k X L m)(e:ag){z:E}(h:cV m L e=some z):PE X e (tA U K ε Gv Hv (qek z (iR L.k z))):=by
 have gen:(cE m L e).bind ZO=some z->PE X e (tA U K ε Gv Hv (qek z (iR L.k z))):=λh=>by let(y,h1,h2):=eh.mp h;let(rfl,hv):=zU h2;exact PE.imp (A.r Gv Hv _ _ h1) (qqx hv)
 cases e with
 |Name x pos=>
  have P:=qc6 (Gv:=Gv) (Hv:=Hv) gd h pos;rcases ZU gd h pos with ⟨i,rfl,_⟩|⟨d,v,rfl,_,_⟩
  .refine PE.imp P λZ H Q hq1=>?_;refine ex4 hq1 λN G er h=>?_;exact{N,G,er,Wx.mono (Wx.th (x:=slE N i) h) λy h v G1 H1 p1 r1=>h v G1 H1 p1 r1}
  .refine PE.imp P λZ H Q hz8=>?_;refine ex4 hz8 λN G er h=>?_;exact⟨N,G,er,h⟩
 |_=>exact gen h
theorem qnm(gs:Gs U K ε k X L)(A:All U K ε k X L m)(x:Str)(e:ag)(xp p:Pos){i:Nat}{z:E}(hi:qfw L x=some i)(hz:cV m L e=some z):PS X (.Assign [.Name x xp] e p) (tS U K Gv Hv ε (iS L.k w (.set i z))):=by
 have gd:=gs.toGd;let(l1,l2,hN,hxi):=qdg gd hi
 have fin:∀(D:Ends) (Z:L2.St) (H:Hp),tS U K Gv Hv ε (iS L.k w (.set i z)) D Z H->tA U K ε Gv Hv (qek z (iR L.k z)) Z H (λy H1=>qgX i y Z H1 D.nx):=λD Z H ⟨N,G,er,h⟩=>{N,G,er,Wx.mono (Wx.th (x:=qek z (iR L.k z) N) h) λs h v G1 H1 p1 r1=>h _ G1 H1 (qkD p1.er r1) p1.gs}
 by_cases hn:Jp e=true
 .exact PS.imp (qcP (i:=i) hN hxi l1 (qqy gd A e hz) (QU hn _ _ _) l2) fin
 cases e with
 |ListComp elt gens sc cp=>
  have hsw:∀b:Bool,(X.env.blockKind == .function&&X.env.kindOf x == some .local&&xp.line == cp.line&&!(sc.names.any λ(n,k)=>n == x&&(k == .local||k == .cell)))=b->fu (.ListComp elt gens sc cp) (some (.Name x xp)) p.line X.env=pure b:=λb hb=>by rw[<-hb];rfl
  cases hb:(X.env.blockKind == .function&&X.env.kindOf x == some .local&&xp.line == cp.line&&!(sc.names.any λ(n,k)=>n == x&&(k == .local||k == .cell))) with
  |false=>exact PS.imp (qcP (i:=i) hN hxi l1 (qqy gd A _ hz) (hsw false hb) l2) fin
  |true=>
   have hloc:X.env.scope.names.lookup x=some .local:=by
    simp![aM]at hb
    have:=hb.1.1.2
    unfold PySem.Env.kindOf at this
    simpa using this
   let(y,h1,h2):=eh.mp hz;let(rfl,hv):=zU h2
   cases m with
   |zero=>cases h1
   |succ m=>
    let(tg,it,ifs,own,el,src,t,c,rfl,S,rfl):=qnk h1;have B:BlkScope X own (QR L.N sc) sc:=qbj gd S.chk
    exact PS.imp (qj4 (i:=i) own (QR L.N sc) hN hxi hloc gd.calm B (qqw (Gv:=Gv) (Hv:=Hv) gd (all m _ X L gd) tg it S.src) (λcl C fp s2 H2=>qh0 (QT gd B S.nd cl C fp s2 H2) tg S.tg) (λcl C fp s2 H2=>qi5 (all m _ _ _ (QT gd B S.nd cl C fp s2 H2)) ifs S.c)
     (λcl C fp s2 H2=>qnj (all m _ _ _ (QT gd B S.nd cl C fp s2 H2)) elt S.el) (hsw true hb) (qcn S.fold X.env)) λD Z H h=>qdi S Z H _ (qqx hv Z H _ (fin D Z H h))
 |SetComp=>cases m<;>cases hz
 |DictComp=>cases m<;>cases hz
 |_=>exact absurd rfl hn
def qkE(gs:Gs U K ε k X L)(x:Str)(xp cp p:Pos){i:Nat}(hi:qfw L x=some i):PS X (.Assign [.Name x xp] (.Dict [] [] cp) p) (tS U K Gv Hv ε (iS L.k w (.dnew i))):=by let(l1,l2,hN,hxi):=qdg gs.toGd hi;refine PS.imp (qcP (i:=i) hN hxi l1 qho (QU rfl _ _ _) l2) λD Z H hq=>?_;refine ex4 hq λN G er h=>?_;intro q hq;have p1:=Po.room er (qo.upd (o:=HO.dK []) hq);exact h _ G _ (p1.er.setO rfl ⟨q,[],rfl,qe,qo.none er.base hq,qo.none er.sub hq,rfl,by simp![qi]⟩ (er.notOwn hq)) p1.gs
structure AllS(U:KC)(K:Frag)(ε:XK)(X:Cx)(L:Ct)(m w:Nat):Prop where
 s:∀Gv Hv st x,cS m L st=some x->PS X st (tS U K Gv Hv ε (iS L.k w x))
 ss:∀Gv Hv l x,cSs m L l=some x->PSs X l (tS U K Gv Hv ε (iSs L.k w x))
theorem FlP.back{G G1:Hp}{D:Ends}{f:Fl}(h:FlP U K Gv Hv G D f)(g:qo G G1):FlP U K Gv Hv G1 D f:=by
 cases f with
 |next N=>exactλZ' G' H' er g'=>h Z' G' H' er λb o e=>g' b o (g b o e)
 |ret r=>exact h
def qh1{e:ag}(h:qfv e=true)(es:List ag)(j:Nat)(p:Pos)(env:PySem.Env):swappedStores [.Tuple es j p] e env=pure none:=by cases e<;>first|rfl|(simp[qfv]at h)
def qfM(gd:Gd U K ε k X L)(A:All U K ε k X L m)(es:List ag)(j:Nat)(tp:Pos)(e:ag)(p:Pos){x:S}(h:cS (m+1) L (.Assign [.Tuple es j tp] e p)=some x):PS X (.Assign [.Tuple es j tp] e p) (tS U K Gv Hv ε (iS L.k w x)):=by let(hc,h):=ql h;let(t,a',h1,h2,rfl):=qj h;rw[aM]at hc;refine PS.imp (qiI (A.e Gv Hv _ _ h2) (qh0 (Ξ:=XP U Gv Hv ε) gd (.Tuple es j tp) h1) (show lY [.Tuple es j tp] e p.line X.env=pure false from QU hc.1 (some (.Tuple es j tp)) p.line X.env) (qh1 hc.2 es j tp _) rfl) λD Z H hq1=>?_;refine ex4 hq1 λN G er h=>?_;refine{N,G,er,Wx.mono (Wx.th (x:=jh a' (iR L.k a') N) h) λx h v G1 H1 p1 r1=>?_};exact{Gv,Hv,x.2,G1,x.1,p1.er,r1,Wx.mono (Wx.th h) λN1 h Z1 er1=>h Z1 G1 H1 er1 p1.gs}
def qpO(r:Env->R (Rv×Env))(i:Nat)(d:D)(N:Env):R Fl:=match zj N i with
 |none=>.no
 |some _=>(r N).th λz=>match zj z.2 i,z.1.int? with
  |some l,some n=>(match ixN l.length n with
   |some k=>.ok (.next (z.2.set i (.own (l.set k d))))
   |none=>.no)
  |_,_=>.no
def gS(U:KC)(K:Frag)(ε:XK)(Gv Hv:Hp)(r:Env->R (Rv×Env))(i:Nat):TG:=λv Z H Q=>∃(N:Env) (G:Hp) (d:D) (D:Ends),ER U K Gv Hv G H N Z/\Rep U G d v/\Wx (XP U Gv Hv ε) (qpO r i d N) (FlP U K Gv Hv G D)/\∀H',D.nx Z H'->Q Z H'
theorem qpP(gd:Gd U K ε k X L)(A:All U K ε k X L m)(x:Str)(i:ag)(xp p:Pos)(hs:ZL i=true){j:Nat}{i':E}(hj:qbZ L x=some j)(hi:cE m L i=some i'):PG X (.Subscript (.Name x xp) i p) (gS U K ε Gv Hv (iR L.k i') j):=by
 refine PG.imp (qlG (YW gd hj xp) (A.r Gv Hv _ _ hi) qhe (λv=>by cases i<;>first|rfl |(simp[ZL]at hs))) λv Z H Q hq1=>?_;let(N,G,d,D,er,r,h,hQ):=hq1;unfold qpO at h
 cases e1:zj N j with
 |none=>rw[e1]at h;exact ax h
 |some l0=>
  rw[e1]at h;let(b,xs,z,h1,h2):=er.ownSlot (zu e1);refine{_,z,N,G,er,Wx.mono (Wx.th h) λy h u G1 H1 p1 r1=>?_}
  cases e2:zj y.2 j with
  |none=>rw[e2]at h;exact ax h
  |some l=>
   cases e3:y.1.int? with
   |none=>rw[e2,e3]at h;exact ax h
   |some n=>
    rw[e2,e3]at h;dsimp only at h
    cases e4:ixN l.length n with
    |none=>rw[e4]at h;exact ax h
    |some c=>rw[e4]at h;let(b',ys,z',h3,h4):=p1.er.ownSlot (zu e2);rw[z]at z';cases z';refine{b,ys,n,c,rfl,r1.int e3,h3,by rw[<-h4.len];exact e4,hQ _ ?_};exact h Z G1 _ (p1.er.write (zu e2) z (h4.set c (r.same p1.gs))) p1.gs
def qi.dropLast{G:Hp}{ds:List D}{vs:List V}(h:qi U G ds vs):qi U G ds.dropLast vs.dropLast:=by rw[nE,nE,h.len];exact h.take _
def qi.last{G:Hp}{ds:List D}{vs:List V}{d:D}(h:qi U G ds vs)(e:ds.getLast?=some d):∃v,vs[vs.length - 1]?=some v/\Rep U G d v:=by
 rw[List.getLast?_eq_getElem?]at e
 have:=h.len
 let(v,h1,h2):=qi.atD h e;exact{v,by rw[<-this];exact h1,h2}
theorem qnn(gs:Gs U K ε k X L)(x l:Str)(c:Int)(xp lp ap cp kp sp p:Pos)(jj:Nat){i j:Nat}(hi:qfw L x=some i)(hj:qbZ L l=some j)(hl:(ap.endLine == cp.line)=true) :
  PS X (.Assign [.Name x xp] (.Subscript (.Call (.Attribute (.Name l lp) "pop" ap) [] [] cp) (.Constant (.int c) jj kp) sp) p) (tS U K Gv Hv ε (iS L.k w (.popI i j c))):=by
 let(l1,l2,hN,hxi):=qdg gs.toGd hi;refine PS.imp (qcP (i:=i) hN hxi l1 (qlV qiK (qlY kQ PySem.F.slot_list_pop PySem.F.type_list_pop ql0 (YW gs.toGd hj lp) rfl hl) QJ (QS λy y y y z=>by cases z)) (QU rfl _ _ _) l2) λD Z H hq=>?_;refine ex4 hq λN G er h=>?_;have h:Wx _ (qls N i j c) _:=h;unfold qls at h
 cases e1:zj N j with
 |none=>rw[e1]at h;exact ax h
 |some L=>
  rw[e1]at h;dsimp only at h
  cases e2:L.getLast? with
  |none=>rw[e2]at h;exact ax h
  |some d0=>
   rw[e2]at h
   cases d0 with
   |tup ds=>
    dsimp only at h
    cases e3:atI ds c with
    |none=>rw[e3]at h;exact ax h
    |some d=>rw[e3]at h;let(b,xs,z,h1,h2):=er.ownSlot (zu e1);let(v,g1,g2):=qi.last h2 e2;simp![Rep]at g2;let(a,us,rfl,g3,g4):=g2;let(u,g5,g6):=qc8 g4 e3;have er1:=er.write (zu e1) z h2.dropLast;refine{_,z,.inl {rfl,xs,SqL.of h1},b,xs,_,rfl,rfl,h1,g1,a,us,c,u,rfl,rfl,SqT.of (er1.sub _ _ g3),g5,?_};exact h _ G _ (er1.setVal g6) λy y x=>x
   |_=>exact ax h
def qco{N:Env}{i:Nat}{q:List Key×List D}(h:YU N i=some q):N[i]?=some (.dic q.1 q.2):=by
 unfold YU at h
 split at h
 .rename_i e;cases h;exact e
 .cases h
theorem qfN(k:Key)(v:V):∀(ks:List Key) (xs:List V),(ks.zip xs).map (λkv=>if kv.1=k then (kv.1,v) else kv)=ks.zip (fZ (λa x=>if a=k then v else x) ks xs)
 |[],z=>rfl
 | z::y,[]=>rfl
 | a::ks,x::xs=>by
  rw[fo,au,qfN k v ks xs,f6,fo]
  congr 1
  dsimp only
  split<;>rfl
def qno{ks:List Key}{xs:List V}(hl:xs.length=ks.length)(k:Key)(v:V):qea (kvX ks xs) k v=kvX (JT ks k) (yy ks xs k v):=by
 unfold qea kvX JT yy;rw[qcl k ks xs hl];split
 .exact qfN k v ks xs
 .rw[List.zip_append hl.symm];rfl
def qcp{α:Type}{ks:List Key}{xs:List α}(hl:xs.length=ks.length)(k:Key)(v:α):(yy ks xs k v).length=(JT ks k).length:=by
 unfold yy JT;split
 .rw[List.length_zipWith];lia
 .simp[hl]
def qh2{G:Hp}{d:D}{v:V}(k:Key)(h:Rep U G d v){ks:List Key}{ds:List D}{xs:List V}(r:qi U G ds xs):qi U G (yy ks ds k d) (yy ks xs k v):=by
 unfold yy;split
 .have:∀(ks:List Key) {ds:List D} {xs:List V},qi U G ds xs->qi U G (fZ (λa x=>if a=k then d else x) ks ds) (fZ (λa x=>if a=k then v else x) ks xs):=by
   intro ks
   induction ks with
   |nil=>intro ds xs _;simp![List.zipWith_nil_left,qi]
   |cons a ks ih=>
    intro ds xs r
    cases ds with
    |nil=>simp![qi]at r;subst r;simp![List.zipWith_nil_right,qi]
    |cons b ds=>
     simp![qi]at r;let(x,us,rfl,r1,r2):=r;rw[f6,f6];refine qi.cons ?_ (ih r2);split
     .exact h
     .exact r1
  exact this ks r
 .exact r.snoc h
theorem qkF(gd:Gd U K ε k X L)(A:All U K ε k X L m)(x:Str)(i e:ag)(xp sp p:Pos){j:Nat}{i' a':E}(hc:Jp e=true)(hj:qbZ L x=some j)(h3:cE m L i=some i')(h4:cX m L e=some a') :
  PS X (.Assign [.Subscript (.Name x xp) i sp] e p) (tS U K Gv Hv ε (iS L.k w (.dput j i' a'))):=by
 have hu:X.A.units+1 < du:=by have:=gd.room.un;omega
 refine PS.imp (qj6 hu (YW gd hj xp) (A.r Gv Hv _ _ h3) (A.e Gv Hv _ _ h4) (QU hc _ _ _)) λD Z H hq=>?_;refine ex4 hq λN G er h=>?_;refine{N,G,er,Wx.mono (Wx.th (x:=jh a' (iR L.k a') N) h) λy h v G1 H1 p1 r1=>?_};have h:Wx _ (match YU y.2 j with |none=>R.no |some _=>_) _:=h
 cases e1:YU y.2 j with
 |none=>rw[e1]at h;exact ax h
 |some q0=>
  rw[e1]at h;let(b,xs,z,h1,_):=p1.er.sl j _ (qco e1);refine{_,z,y.2,G1,p1.er,Wx.mono (Wx.th (x:=iR L.k i' y.2) h) λu h w' G2 H2 p2 r2=>?_};have h:Wx _ (match YU u.2 j,keyD u.1 with |some p,some k=>_ |_,_=>R.no) _:=h
  cases e2:YU u.2 j with
  |none=>rw[e2]at h;exact ax h
  |some q=>
   cases e3:keyD u.1 with
   |none=>rw[e2,e3]at h;exact ax h
   | some k'=>rw[e2,e3]at h;let(hl,h):=Wx.iff h;let(b',ys,z',g1,g2,g3,g4,g5):=p2.er.sl j _ (qco e2);rw[z]at z';cases z';rw[qck r2 e3];refine{b,_,rfl,qmi.k (k:=k') g1 (by unfold kvX;rw[List.length_zip];lia),?_};rw[qno g4];exact h Z G2 _ (p2.er.wr (qco e2) rfl z rfl λa1 a2=>{b,_,rfl,qe,a1,a2,qcp g4 _ _,qh2 k' (r1.same p2.gs) g5}) (p1.trans p2).gs
def qfO(gd:Gd U K ε k X L)(A:All U K ε k X L m)(x:Str)(i e:ag)(xp sp p:Pos){y:S}(h:cS (m+1) L (.Assign [.Subscript (.Name x xp) i sp] e p)=some y):PS X (.Assign [.Subscript (.Name x xp) i sp] e p) (tS U K Gv Hv ε (iS L.k w y)):=by
 let(hc,h):=ql h;let(j,q,h1,h2,rfl):=qj h;let(i',a',h3,h4,e4):=qj h2;subst e4;rw[aM]at hc
 by_cases hn:qqu i=true
 case neg=>rw[if_neg hn];exact qkF gd A x i e xp sp p hc.1 h1 h3 h4
 rw[if_pos hn];refine PS.imp (qiI (A.e Gv Hv _ _ h4) (qpP (Gv:=Gv) (Hv:=Hv) gd A x i xp sp hc.2 h1 h3) (show lY [.Subscript (.Name x xp) i sp] e p.line X.env=pure false from QU hc.1 (some (.Subscript (.Name x xp) i sp)) p.line X.env) rfl rfl) λD Z H hq1=>?_;refine ex4 hq1 λN G er h=>?_;exact{N,G,er,Wx.mono (Wx.th (x:=jh a' (iR L.k a') N) h) λy h v G1 H1 p1 r1=>{y.2,G1,y.1,D,p1.er,r1,Wx.mono (show Wx _ (qpO (iR L.k i') j y.1 y.2) _ from h) λf hf=>hf.back p1.gs,λz h=>h}}
theorem qpQ(A:All U K ε k X L m)(S:AllS U K ε X L m w)(c:ag)(a b:List aI)(p:Pos){x:DE.S}(h:cS (m+1) L (.If c a b p)=some x):PS X (.If c a b p) (tS U K Gv Hv ε (iS L.k w x)):=by
 let(c',q,h1,h2,rfl):=qj h;let(a',b',h3,h4,rfl):=qj h2;refine PS.imp (qeK (A.t Gv Hv _ _ h1) (S.ss Gv Hv _ _ h3) (S.ss Gv Hv _ _ h4)) λD Z H hq1=>?_;refine ex4 hq1 λN G er h=>?_;refine{N,G,er,Wx.mono (Wx.th (x:=iT L.k c' N) h) λt h G1 H1 p1=>?_};let(d,N1):=t
 cases d with
 |true=>rw[if_pos rfl];exact{N1,G1,p1.er,Wx.mono h λf hf=>hf.back p1.gs}
 |false=>rw[if_neg (λz=>by cases z)];exact{N1,G1,p1.er,Wx.mono h λf hf=>hf.back p1.gs}
def qnp(gs:Gs U K ε k X L)(A:All U K ε k X L m)(S:AllS U K ε X L m w)(tg it:ag)(body:List aI)(p:Pos){x:DE.S}(h:cS (m+1) L (.For tg it body [] p)=some x):PS X (.For tg it body [] p) (tS U K Gv Hv ε (iS L.k w x)):=by
 let(hf,h):=ql h;rw[aM]at hf;let(hz,hf):=hf;have hz:L.z=false:=(-hz:)
 let(q,b',h1,h2,rfl):=qj h;let(t,src,h3,h4,rfl):=qj h1;refine PS.imp (qlI (gs.own hz) gs.calm (A.i Gv Hv _ _ _ h4) (qh0 (Ξ:=XP U Gv Hv ε) gs.toGd tg h3) (S.ss Gv Hv _ _ h2) (qcn hf X.env)) λD Z H hq1=>?_;refine ex4 hq1 λN G er h=>?_;refine{N,G,er,Wx.mono (Wx.th (x:=iI L.k src N) h) λx h J G1 H1 p1 it1=>?_}
 refine{λi mm Z' H'=>mm=x.1.length - i/\i<=x.1.length/\∃Nb Gb,ER U K Gv Hv Gb H' Nb Z'/\qo G1 Gb/\Wx (XP U Gv Hv ε) (qoZ (λd N1=>(t.go d N1).th λN2=>iSs L.k w b' N2) (x.1.drop i) Nb) (FlP U K Gv Hv G D),
  {x.1.length,by simp,aZ _,x.2,G1,p1.er,λ_ _ e=>e,by rw[gN];exact h},?_}
 rintro i mm Z' H' ⟨rfl,hi,Nb,Gb,erb,g1,hw⟩;have it2:=it1 i Gb H' g1 erb.base erb.sub
 by_cases hlt:i < x.1.length
 .let(go,yl):=it2.1 x.1[i] (bN hlt);refine .inr ⟨go,_,λZ2 H2 w=>{x.1.length - (i+1),by omega,w},λv H2 hy=>?_⟩;let(G',hs,gss,sub,new,rep):=yl v H2 hy;have p2:=Po.more erb hs gss sub new;rw[fg hlt]at hw;refine{Gv,Hv,Nb,G',x.1[i],p2.er,rep,Wx.mono (Wx.th (Wx.th hw)) λN2 hw Z2 er2=>{N2,G',er2,Wx.mono hw λf hf=>?_}}
  cases f with
  |next N3=>exactλZ3 G3 H3 er3 g3=>{rfl,hlt,N3,G3,er3,λb o e=>g3 b o (gss b o (g1 b o e)),hf}
  |ret r=>exact hf
 .have e:i=x.1.length:=by omega
  subst e;rw[List.drop_length]at hw;exact .inl ⟨it2.2 rfl,hw Z' Gb H' erb λb o e=>g1 b o (p1.gs b o e)⟩
theorem qh3(gs:Gs U K ε k X L)(A:All U K ε k X L m)(S:AllS U K ε X L m w)(c:ag)(body:List aI)(p:Pos){x:DE.S}(h:cS (m+1) L (.While c body [] p)=some x):PS X (.While c body [] p) (tS U K Gv Hv ε (iS L.k w x)):=by
 let(hz,h):=ql h;have hz:L.z=false:=(-hz:)
 let(c',b',h1,h2,rfl):=qj h;refine PS.imp (qgZ (gs.own hz) (A.t Gv Hv _ _ h1) (S.ss Gv Hv _ _ h2)) λD Z H hq1=>?_;refine ex4 hq1 λN G er h=>?_;refine{λn Z' H'=>∃Nb Gb,ER U K Gv Hv Gb H' Nb Z'/\qo G Gb/\Wx (XP U Gv Hv ε) (whL (λN1=>iT L.k c' N1) (λN1=>iSs L.k w b' N1) n Nb) (FlP U K Gv Hv G D),{w,N,G,er,λ_ _ e=>e,h},?_};rintro n Z' H' ⟨Nb,Gb,erb,g1,hw⟩
 cases n with
 |zero=>exact ax hw
 |succ n=>
  refine{Nb,Gb,erb,Wx.mono (Wx.th (x:=iT L.k c' Nb) hw) λb hw G2 H2 p2=>?_};let(d,N2):=b
  cases d with
  |false=>rw[if_neg (λz=>by cases z)];exact hw Z' G2 H2 p2.er λb o e=>p2.gs b o (g1 b o e)
  |true=>
   rw[if_pos rfl];refine{_,λZ3 H3 w=>{n,gA n,w},N2,G2,p2.er,Wx.mono (Wx.th hw) λf hf=>?_}
   cases f with
   |next N3=>exactλZ3 G3 H3 er3 g3=>{N3,G3,er3,λb o e=>g3 b o (p2.gs b o (g1 b o e)),hf}
   |ret r=>exact hf
theorem qkG(gd:Gd U K ε k X L)(A:All U K ε k X L m)(e:ag)(p:Pos){x:S}(h:cS (m+1) L (.Expr e p)=some x):PS X (.Expr e p) (tS U K Gv Hv ε (iS L.k w x)):=by
 cases e with
 |Call fn es kws cp=>
  cases fn with
  |Attribute o meth ap=>
   cases o with
   |Name y yp=>
    cases kws with
    |cons kw kws=>exact match es,h with |[],h=>by cases h |[_],h=>by cases h|_::_::_,h=>by cases h
    |nil=>
     match es,h with
     |[a],h=>
      let(hc,h):=ql h;rw[aM]at hc;have hs:qE a=false:=(-hc.2:)
      by_cases h1:meth = "append"
      .subst h1;rw[if_pos rfl]at h;let(i,a',h2,h3,rfl):=qj h;exact qfK gd A y a yp ap cp p hc.1 hs h2 h3
      rw[if_neg h1]at h
      by_cases h2:meth = "extend"
      .subst h2;rw[if_pos rfl]at h;let(i,a',h2,h3,rfl):=qj h;exact qfL gd A y a yp ap cp p hc.1 hs h2 h3
      rw[if_neg h2]at h;cases h
     |[],h=>cases h
     | z::v::u,h=>cases h
   |_=>cases h
  |_=>cases h
 |_=>cases h
theorem qrP(gs:Gs U K ε k X L)(A:All U K ε k X L m)(S:AllS U K ε X L m w)(Sz:∀ε' X',Gs U K ε' k X' { L with z:=true }->AllS U K ε' X' { L with z:=true } m w)(st:aI)(x:DE.S)(h:cS (m+1) L st=some x):PS X st (tS U K Gv Hv ε (iS L.k w x)):=by
 cases st with
 |Pass p=>cases h
 |Raise ex ca p=>cases h;refineλpins s Z H D I hz1=>?_;refine ex4 hz1 λN G er h=>?_;exact ax h
 |Expr e p=>exact qkG gs.toGd A e p h
 |Return o p=>
  cases o with
  |some e=>let(y,h1,rfl):=map_some h;exact qnl gs.toGd A e p h1
  |none=>cases h
 |Assign tgs e p=>
  match tgs,h with
  |[],h=>cases h
  | v::u::t,h=>cases h
  |[tg],h=>
   cases tg with
   |Name x xp=>
    have h:(if qpJ e=true then _ else _)=_:=h
    by_cases hd:qpJ e=true
    .rw[if_pos hd]at h;let(i,h1,rfl):=map_some h
     let(cp,rfl):∃cp,e=.Dict [] [] cp:=by
      cases e with
      |Dict a b cp=>cases a with
       |nil=>cases b with
        |nil=>exact⟨cp,rfl⟩
        |cons v u=>cases hd
       |cons v u=>cases hd
      |_=>cases hd
     exact qkE gs x xp cp p h1
    .rw[if_neg hd]at h
     cases e0:qpI L e with
     |some q=>rw[e0]at h;let(i,h1,rfl):=map_some h;let(l,lp,ap,cp,kp,sp,jj,rfl,h3,h4):=qki e0;exact qnn gs x l q.2 xp lp ap cp kp sp p jj h1 h3 h4
     |none=>
     rw[e0]at h;let(i,z,h1,h2,rfl):=qj h;exact qnm gs A x e xp p h1 h2
   |Tuple es j tp=>exact qfM gs.toGd A es j tp e p h
   |Subscript o i sp=>
    cases o with
    |Name x xp=>exact qfO gs.toGd A x i e xp sp p h
    |_=>cases h
   |_=>cases h
 |If c a b p=>exact qpQ A S c a b p h
 |For tg it body orelse p=>
  cases orelse with
  |nil=>exact qnp gs A S tg it body p h
  |cons s l=>cases h
 |While c body orelse p=>
  cases orelse with
  |nil=>exact qh3 gs A S c body p h
  |cons s l=>cases h
 |_=>cases h
theorem qpR(S:AllS U K ε X L m w):∀l x,cSs (m+1) L l=some x->PSs X l (tS U K Gv Hv ε (iSs L.k w x))
 |[],_,h=>by cases h;exact PSs.imp Yy λD Z H ⟨N,G,er,h⟩=>h Z G H er λ_ _ e=>e
 | st::l,_,h=>by
  let(s',l',h1,h2,rfl):=qj h;refine PSs.imp (zm (S.s Gv Hv _ _ h1) (S.ss Gv Hv _ _ h2)) λD Z H hq1=>?_;refine ex4 hq1 λN G er h=>?_;refine{N,G,er,Wx.mono (Wx.th (x:=iS L.k w s' N) h) λf hf=>?_}
  cases f with
  |next N1=>exactλZ1 G1 H1 er1 g1=>{N1,G1,er1,Wx.mono hf λf hf=>hf.back g1}
  |ret r=>exact hf
theorem qpS:∀(m:Nat) (ε:XK) (X:Cx) (L:Ct),Gs U K ε k X L->AllS U K ε X L m w
 |0,z,y,x,v=>{(λz z z z h=>nomatch h),(λz z z z h=>nomatch h)}
 | m+1,ε,X,L,gs=>
  have S:=qpS m ε X L gs
  ⟨λGv Hv=>qrP gs (all m _ X L gs.toGd) S λε' X' g=>qpS m ε' X' _ g,λGv Hv=>qpR S⟩
end
def QC(st:aI):List Str:=(qS st).args.map (·.arg)
def fnN(st:aI):List Str:=QC st++(qh st).names.filterMap λx=>if ((x.2 == .local||x.2 == .cell)&&!(QC st).contains x.1)=true then some x.1 else none
def Jq(st:aI):Bool:=(qh st).kind == .function&&!(qh st).isCoroutine&&!(qh st).isGenerator&&decide (fnN st).Nodup&&(QC st).all (qmB (qh st))&&(qh st).names.all λy=>y.2 != .free
def toSl:Ar->Sl
 |.val d=>.val d
 |.bor l=>.bor l
 |.scr l=>.scr l
def yz(N:List Str)(args:List Ar):Env:=args.map toSl++bT (N.length - args.length) .no
structure Pg where
 defs:List (Str×aI)
 gl:Str->Option D
 m:Nat
 w:Nat
 meths:List (Str×aI):=[]
 cs:Cs:=Cs.non
 nw:Nat->Str->List Ar->R Rv:=λ_ _ _=>.no
 xx:Xs:={}
def Pg.ct(pg:Pg)(k:Nat)(cl:Str->List Ar->R Rv)(st:aI):Ct:={fnN st,qh st,pg.defs.map (·.1),pg.gl,cl,pg.cs,pg.nw k,false,decide (2<=k),decide (12<=k)}
def flR:Fl->R Rv
 |.next _=>.ok (.val .non)
 |.ret r=>.ok r
def evF(pg:Pg)(k:Nat)(cl:Str->List Ar->R Rv)(st:aI)(args:List Ar):R Rv:=
 if (Jq st&&args.length == (QC st).length)=true then (match cSs pg.m (pg.ct k cl st) (qC st) with
  |some b=>(iSs (pg.ct k cl st).k pg.w b (yz (fnN st) args)).th flR
  |none=>.no) else .no
def clK(pg:Pg):Nat->Str->List Ar->R Rv
 |0,z,y=>.no
 | k+1,f,args=>match (pg.defs++pg.meths).lookup f with
  |some st=>evF pg k (clK pg k) st args
  |none=>.no
def FnF(K:Frag)(mg:PR)(f:Str)(st:aI):Prop:=∃fa fd,Fun K f f st fa fd/\mg f=some (.ref fa)/\zn K fd (QC st) []
inductive AllF(K:Frag)(mg:PR):List (Str×aI)->Prop where
 | nil:AllF K mg []
 | cons {f:Str} {st:aI} {l:List (Str×aI)} (h:FnF K mg f st) (t:AllF K mg l):AllF K mg ((f,st)::l)
theorem AllF.mem{K:Frag}{mg:PR}:∀{l:List (Str×aI)} {f:Str} {st:aI},AllF K mg l->(f,st)∈l->FnF K mg f st
 |_,_,_,.nil,h=>by cases h
 |_,_,_,.cons h t,m=>by
  cases m with
  |head=>exact h
  |tail z m=>exact t.mem m
def qaC(P:aJ)(wd:aC)(U:KC)(K:Frag)(mg:PR)(base:aw)(pg:Pg)(k:Nat):Prop:=
 (∀(f:Str) (st:aI),pg.defs.lookup f=some st->∃fa fd,FnOk P wd K mg base CX0 k fa fd (QC st) (spF U K (clK pg k) f)/\mg f=some (.ref fa)/\dO K (.ref fa)=true/\zn K fd (QC st) [])/\
 (∀(f:Str) (st:aI),pg.meths.lookup f=some st->pg.defs.lookup f=none->∀nm fa fd,Fun K nm f st fa fd->FnOk P wd K mg base CX0 k fa fd (QC st) (spF U K (clK pg k) f))
structure PgOk(U:KC)(K:Frag)(mg:PR)(pg:Pg):Prop where
 fn:AllF K mg pg.defs
 blt:∀f∈qfx,mg f=none
 gl:∀x d,pg.gl x=some d->∃v u,mg x=some u/\qF v u/\∀G,Rep U G d v
 cls:∀c C,U c=some C->Cls K C
 flds:∀c x C,pg.cs.fld c x=true->U c=some C->qY K C x
 mts:∀c x f,pg.cs.mt c x=some f->∃C fa fd st nm,U c=some C/\Meth K C x fa/\pg.meths.lookup f=some st/\pg.defs.lookup f=none/\Fun K nm f st fa fd/\zn K fd (QC st) []
 mks:∀P wd base k,(∀j,j < k->qaC P wd U K mg base pg j)->∀f,pg.cs.tab.contains f=true->(¬ 12<=k/\∀args,pg.nw k f args=.no)\/∃C fa fd ps sp,Mk K C fa/\FnOk P wd K mg base CX0 (k - 1) fa fd ps sp/\mg f=some (.ref C)/\zn K fd ps []/\0 < k/\
  ∀vs H Q E,spF U K (pg.nw k) f vs H Q E->∀x dx,H x=none->H dx=none->dx≠x->sp (.ref x::vs) (upd (upd H dx (.own x)) x (.ins C dx [])) (λv H2=>v=.non/\Q (.ref x) H2) E
 subs:∀c t b,pg.cs.sub c t=some b->∃C T,U c=some C/\(∀H p dx fs,H p=some (HO.ins C dx fs)->TyOf K H (.ref p) (.ref C))/\mg t=some (.ref T)/\dz K (.ref C) (.ref T)=some b
section
variable{P:aJ}{wd:aC}{U:KC}{K:Frag}{mg:PR}{base:aw}{pg:Pg}
theorem Yq.len{G H:Hp}:∀{args:List Ar} {vs:List V},Yq U K G H args vs->args.length=vs.length
 |[],vs,h=>by simp![Yq]at h;subst h;rfl
 | a::l,vs,h=>by simp![Yq]at h;let(v,r,rfl,_,h2):=h;simp[Yq.len h2]
theorem Yq.at{G H:Hp}:∀{args:List Ar} {vs:List V} {i:Nat} {a:Ar},Yq U K G H args vs->args[i]?=some a->∃v,vs[i]?=some v/\ArR U K G H a v
 |[],vs,i,a,h,e=>by simp at e
 | b::l,vs,0,a,h,e=>by simp![Yq]at h;let(v,r,rfl,h1,h2):=h;simp at e;subst e;exact⟨v,rfl,h1⟩
 | b::l,vs,i+1,a,h,e=>by simp![Yq]at h;let(v,r,rfl,h1,h2):=h;let(v',e1,e2):=Yq.at (i:=i) h2 (-e:);exact{v',(-e1:),e2}
def qh4{G H:Hp}{args:List Ar}{vs:List V}{N:List Str}(sub:qo G H)(h:Yq U K G H args vs):ER U K G H G H (yz N args) (L2.JS N vs):=by
 have hl:=h.len;refine{by simp[yz,L2.JS,hl],sub,λy y e=>e,λy y e=>e,λa o e=>.inl ⟨o,e⟩,λi s e=>?_,λi j a l n e1 y1=>?_}
 .unfold yz at e;unfold L2.JS
  by_cases hi:i < args.length
  .rw[dF (-hi:),bu]at e;let(b,e1,rfl):=bM.mp e;let(v,e2,e3):=h.at e1;rw[dF (by rw[aD,<-hl];exact hi),bu,e2]
   cases b with
   |val d=>exact⟨v,rfl,e3⟩
   |bor l=>let(a,xs,rfl,h1,h2):=e3;exact⟨a,xs,rfl,h1,h2⟩
   |scr l=>let(a,xs,rfl,h1,h2):=e3;exact⟨a,xs,rfl,h1,h2⟩
  .rw[c5 (-hi:)]at e
   have:s=.no:=by
    have:=ed e
    exact iU this
   subst this;trivial
 .exfalso;unfold yz at e1
  by_cases hi:i < args.length
  .rw[dF (-hi:),bu]at e1;let(b,_,z):=bM.mp e1
   cases b<;>cases z<;>cases y1
  .rw[c5 (-hi:)]at e1;rw[iU (ed e1)]at y1;cases y1
def QV{st:aI}(h:Jq st=true):FnScope (fnN st) (QC st) (qh st):=by unfold Jq at h;simp![aM,dH,ee]at h;let(((((h1,h2),h3),h4),h5),h6):=h;refine{by simpa using h1,h2,h3,of_decide_eq_true h4,by simp[fnN],λx hx=>qfy (h5 x hx),λy hy=>by simpa using h6 y hy}
def Yr{k:Nat}{f:Str}{st:aI}{args:List Ar}(h:(pg.defs++pg.meths).lookup f=some st):clK pg (k+1) f args=evF pg k (clK pg k) st args:=by show(match (pg.defs++pg.meths).lookup f with |some st=>_ |none=>R.no)=_;rw[h]
theorem qfP{f:Str}{st:aI}:∀{l m:List (Str×aI)},l.lookup f=some st->(l++m).lookup f=some st
 |[],m,h=>by cases h
 | (g,s)::l,m,h=>by
  rw[bC]at h;rw[cK,bC]
  cases e:(f == g) with
  |true=>rw[e]at h;exact h
  |false=>rw[e]at h;exact qfP h
theorem qi6{f:Str}:∀{l m:List (Str×aI)},l.lookup f=none->(l++m).lookup f=m.lookup f
 |[],m,h=>rfl
 | (g,s)::l,m,h=>by
  rw[bC]at h;rw[cK,bC]
  cases e:(f == g) with
  |true=>rw[e]at h;cases h
  |false=>rw[e]at h;exact qi6 h
theorem qbk{f:Str}:∀{l:List (Str×aI)},(l.map (·.1)).contains f=true->∃st,l.lookup f=some st
 |[],h=>by simp at h
 | (g,st)::l,h=>by
  by_cases e:f=g
  .subst e;exact{st,by simp[bC]}
  .have hb:(f == g)=false:=(-e:)
   let(s,hs):=qbk (l:=l) (f:=f) (by simp![au,lT,hb,lK]at h;exact h)
   exact{s,by rw[bC,hb];exact hs}
def qpT(ok:PgOk U K mg pg){k:Nat}(ih:∀j,j<=k->qaC P wd U K mg base pg j){f:Str}{st:aI}{fa:af}{cdv:ae}{A:aN}{outer:List PySem.Env}{s:ah}{H:Hp}{E:XK}(S:FnScope (fnN st) (QC st) (qh st))(hr:Room k (A.deeper (dJ f (qh st) s.heap.objs.size fa cdv))) :
  Gs U K E k (qhb CX0 P wd K mg base (fnN st) f (qh st) fa cdv A outer s H E) (pg.ct k (clK pg k) st):=
 {ps:=λy y y y y y y h=>ax h
  hN:=rfl
  vis:=λx h=>qiY h
  loc:=λx h=>{qfy h,.inl rfl}
  glo:=λx h=>by have h:((qh st).names.lookup x == some NameKind.globalImplicit)=true:=h;exact(by simpa using h:(qh st).names.lookup x=some .globalImplicit)
  cf:=λx h=>h
  nd:=S.nd
  calm:=rfl
  hK:=rfl
  room:=hr
  fns:=λg hg=>by let(st',hl):=qbk (l:=pg.defs) hg;let(ga,gd,G1,G2,G3,G4):=(ih k (ay k)).1 g st' hl;exact{ga,gd,QC st',G1,G2,G3,G4}
  blt:=ok.blt
  gl:=ok.gl
  cls:=ok.cls
  flds:=ok.flds
  mts:=λc x f h=>by let(C,fa,fd,st',nm,m1,m2,m3,m4,m5,m6):=ok.mts c x f h;exact{C,fa,fd,_,m1,m2,(ih k (ay k)).2 f st' m3 m4 nm fa fd m5,m6}
  mks:=λf hf=>(ok.mks P wd base k (λj hj=>ih j (Nat.le_of_lt hj)) f hf).imp (λz=>{decide_eq_false z.1,z.2}) id
  subs:=ok.subs
  own:=λy=>PassesOwn.leaving
  ex:=rfl
  stk:=⟨rfl,rfl⟩
  sceq:=rfl
  fnk:=S.kind }
def qdj{k:Nat}{fa:af}{fd:bV}{ps:List Str}{sp sp':Sp}(F:FnOk P wd K mg base CX0 k fa fd ps sp)(h:∀vs H Q E,sp' vs H Q E->sp vs H Q E0):FnOk P wd K mg base CX0 k fa fd ps sp':=
 ⟨λvs H Q E q=>F.len vs H Q E0 (h vs H Q E q),λA outer s H args us vs Q E hr he hb hv hs=>dW (F.run A outer s H args us vs Q E0 hr he hb hv (h vs H Q E hs)) λr s' q=>by
  cases r with
  |error e=>exact ax q
  |ok fl=>cases fl<;>exact q⟩
def qfQ{k:Nat}{st:aI}{args:List Ar}{cl:Str->List Ar->R Rv}{Ξ:XW}{g:Rv->Prop}(z:Wx Ξ (evF pg k cl st args) g):(Jq st=true/\args.length=(QC st).length)/\
  Wx Ξ (match cSs pg.m (pg.ct k cl st) (qC st) with |some b=>(iSs (pg.ct k cl st).k pg.w b (yz (fnN st) args)).th flR |none=>.no) g:=by
 unfold evF at z;let(hc,z):=Wx.iff z;simp![aM,beq_iff_eq]at hc;exact⟨hc,z⟩
def Fun.ok0{x qual:Str}{st:aI}{f:af}{fd:bV}{N ps:List Str}{k:Nat}{sp:Sp}(F:Fun K x qual st f fd)(S:FnScope N ps (qh st))(len:∀vs H Q E,sp vs H Q E->vs.length=ps.length)
  (body:∀(cdv:ae) (A:aN) (outer:List PySem.Env) (s:ah) (H:Hp) (vs:List V) (Q:VK) (E:XK),Room k (A.deeper (dJ qual (qh st) s.heap.objs.size f cdv))->sp vs H Q E->
   ∃t,PSs (qhb CX0 P wd K mg base N qual (qh st) f cdv A outer s H E) (qC st) t/\t { nx:=λz H'=>Q .non H',rt:=Q } (JS N vs) H):FnOk P wd K mg base CX0 (k+1) f fd ps sp:=by
 let(oc,od,kV,doc,pm,an,cdv,ct,osl,rfl,lk,hcd):=F.ex;exact qlU lk hcd S len λA outer s H vs Q E hr hsp=>body cdv A outer s H vs Q E hr hsp
def qcq(ok:PgOk U K mg pg){k:Nat}(ih:∀j,j<=k->qaC P wd U K mg base pg j){nm f:Str}{st:aI}{fa:af}{fd:bV}(F:Fun K nm f st fa fd)(h:(pg.defs++pg.meths).lookup f=some st):FnOk P wd K mg base CX0 (k+1) fa fd (QC st) (spF U K (clK pg (k+1)) f):=by
 by_cases hc:Jq st=true
 case neg=>
  have no:∀{vs:List V} {H:Hp} {Q:VK} {E:XK},spF U K (clK pg (k+1)) f vs H Q E->False:=λ{vs H Q E} ⟨G,args,_,_,z⟩=>by rw[Yr h]at z;exact hc (qfQ z).1.1
  exact{λvs H Q E z=>(no z).elim,λA outer s H args us vs Q E _ _ _ _ z=>(no z).elim}
 refine Fun.ok0 F (QV hc) (λvs H Q E z=>?_) (λcdv A outer s H vs Q E hr z=>?_)
 .let(G,args,_,ha,z):=z;rw[Yr h]at z;rw[<-ha.len];exact(qfQ z).1.2
 .let(G,args,sub,ha,z):=z;rw[Yr h]at z;have z:=(qfQ z).2;have gs:Gs U K E k (qhb CX0 P wd K mg base (fnN st) f (qh st) fa cdv A outer s H E) (pg.ct k (clK pg k) st):=qpT ok ih (QV hc) hr
  cases hb:cSs pg.m (pg.ct k (clK pg k) st) (qC st) with
  |none=>rw[hb]at z;exact z.elim
  |some b=>
   rw[hb]at z;refine{_,(qpS (w:=pg.w) pg.m _ _ _ gs).ss G H (qC st) b hb,yz (fnN st) args,G,qh4 sub ha,Wx.mono (Wx.th z) λfl hf=>?_}
   cases fl with
   |next N=>exactλZ' G' H' er g'=>hf .non G' H' er.base er.g0 er.sub er.fresh (by simp![ReR,Rep])
   |ret r=>exact hf
theorem qnq(ok:PgOk U K mg pg):∀k j:Nat,j<=k->qaC P wd U K mg base pg j:=by
 have zero:qaC P wd U K mg base pg 0:=by
  refine{λf st h=>?_,λf st h y nm fa fd F=>{λvs H Q E ⟨G,args,y,x,z⟩=>ax z,λA outer s H args us vs Q E y x w v ⟨G,args',u,t,z⟩=>ax z}}
  .let(fa,fd,F,hm,hb):=ok.fn.mem (dk h);refine{fa,fd,{λvs H Q E hz2=>?_,λA outer s H args us vs Q E y x w v ⟨G,args',u,t,z⟩=>ax z},hm,F.kp,hb};let(G,args,_,_,z):=hz2;exact ax z
 intro k
 induction k with
 |zero=>intro j hj;rw[Nat.le_zero.mp hj];exact zero
 |succ k ih=>
  intro j hj;rcases Nat.lt_or_ge j (k+1) with h|h
  .exact ih j (Nat.le_of_lt_succ h)
  .obtain rfl:j=k+1:=lC hj h;refine{λf st h=>?_,λf st h h0 nm fa fd F=>?_}
   .let(fa,fd,F,hm,hb):=ok.fn.mem (dk h);exact{fa,fd,qcq ok ih F (qfP h),hm,F.kp,hb}
   .exact qcq ok ih F ((qi6 h0).trans h)
theorem qbl(G:Hp):∀ns:List Int,qi U G (ns.map D.int) (ns.map V.int)
 |[]=>.nil
 | n::ns=>.cons (by simp![Rep]) (qbl G ns)
def spL(U:KC)(K:Frag)(pg:Pg)(k:Nat):Sp:=λvs H Q z=>spF U K (clK pg k) "law" vs H Q E0
def qnr{st:aI}{k:Nat}{fa:af}{fd:bV}(ok:PgOk U K mg pg)(F:Fun K "law" "law" st fa fd)(hl:pg.defs.lookup ("law" : Str)=some st)(hp:QC st=(["_law_script"]:List Str)) :
  FnOk P wd K mg base CX0 (k+1) fa fd (["_law_script"]:List Str) (spL U K pg (k+1)):=by
 have:=qcq (P:=P) (wd:=wd) (base:=base) ok (qnq ok k) F (qfP hl)
 rw[hp]at this;exact qdj this λy y y y z=>z
def qns{k:Nat}{H:Hp}{a:af}{ns:List Int}(hq:SqL K H a (ns.map V.int))(h:clK pg k "law" [.scr (ns.map D.int)]=.ok (.val (.bl true))):spL U K pg k [.ref a] H (λv z=>v=.bl true) λz z z=>False:=by
 refine{λz=>none,[.scr (ns.map D.int)],λz z e=>(by cases e),⟨_,_,rfl,⟨a,_,rfl,hq,qbl _ ns⟩,rfl⟩,?_};rw[h];intro v G' H' _ _ _ _ r
 simpa only[ReR,Rep] using r
end
def qrQ(pg:Pg)(k:Nat)(cl:Str->List Ar->R Rv)(st:aI):Option (Nat×Nat×Ss):=oif (Jq st) ((cSs pg.m (pg.ct k cl st) (qC st)).map λb=>((QC st).length,(fnN st).length,b))
def slN(n:Nat)(args:List Ar):Env:=args.map toSl++bT (n - args.length) .no
def runD(cl:Cl)(w:Nat)(c:Nat×Nat×Ss)(args:List Ar):R Rv:=if args.length=c.1 then (iSs cl w c.2.2 (slN c.2.1 args)).th flR else .no
def Pg.kk(pg:Pg)(k:Nat):Cl:={clK pg k,pg.cs,pg.nw k,decide (2<=k),decide (12<=k)}
def qm{pg:Pg}{f:Str}{st:aI}{c:Nat×Nat×Ss}(hl:(pg.defs++pg.meths).lookup f=some st)(hc:∀k cl,qrQ pg k cl st=some c)(k:Nat)(args:List Ar):clK pg (k+1) f args=runD (pg.kk k) pg.w c args:=by
 let(h1,h2):=ql (hc k (clK pg k));let(b,h3,rfl):=map_some h2;rw[Yr hl];unfold evF runD
 by_cases hn:args.length=(QC st).length
 .rw[if_pos (by rw[h1,hn];simp),if_pos hn];rw[h3];rfl
 .rw[if_neg (by simp[hn]),if_neg hn]
variable{cl:Cl}{w:Nat}
def th_ok{α M:Type}(a:α)(f:α->R M):(R.ok a).th f=f a:=(rfl)
def of_some{α:Type}(a:α):R.of (some a)=.ok a:=(rfl)
def jy(cl:Cl)(w:Nat)(tg:Tg)(b:Ss)(l:List D)(N:Env):R Fl:=qoZ (λd N1=>(tg.go d N1).th λN2=>iSs cl w b N2) l N
def whD(cl:Cl)(w:Nat)(c:T)(b:Ss)(n:Nat)(N:Env):R Fl:=whL (λN1=>iT cl c N1) (λN1=>iSs cl w b N1) n N
def ze(cl:Cl)(e:E)(tg:Tg)(c:F)(l:List D)(N:Env)(acc:List D):R (List D):=qfu tg.go (λN1=>iF cl c N1) (jh e (iR cl e)) l N acc
def qeo(f:Fl)(g:Env->R Fl):R Fl:=match f with
 |.next N1=>g N1
 |.ret r=>.ok (.ret r)
section
variable(cl:Cl)(w:Nat)(N:Env)
def qW(tg:Tg)(b:Ss):jy cl w tg b [] N=.ok (.next N):=(rfl)
def qfR(tg:Tg)(b:Ss)(d:D)(l:List D):jy cl w tg b (d::l) N=((tg.go d N).th λN2=>iSs cl w b N2).th λf=>qeo f λN1=>jy cl w tg b l N1:=(rfl)
def qh5(c:T)(b:Ss)(n:Nat):whD cl w c b (n+1) N=(iT cl c N).th λt=>if t.1=true then (iSs cl w b t.2).th λf=>qeo f λN1=>whD cl w c b n N1 else .ok (.next t.2):=(rfl)
def qL(e:E)(tg:Tg)(c:F)(acc:List D):ze cl e tg c [] N acc=.ok acc:=(rfl)
def qep(e:E)(tg:Tg)(c:F)(d:D)(l acc:List D):ze cl e tg c (d::l) N acc=(tg.go d N).th λN1=>(iF cl c N1).th λbt=>if bt.1=true then (jh e (iR cl e) bt.2).th λx=>if acc.length < sizeLine then ze cl e tg c l x.2 (acc++[x.1]) else .no else ze cl e tg c l bt.2 acc:=(rfl)
def qnt(i:Nat)(e:E):iS cl w (.app i e) N=(match zj N i with
  |none=>.no
  |some _=>(jh e (iR cl e) N).th λy=>(match zj y.2 i with
   |some l=>if l.length < sizeLine then .ok (.next (y.2.set i (.own (l++[y.1])))) else .no
   |none=>.no)):=(rfl)
def qnu(i:Nat)(e:E):iS cl w (.ext i e) N=(match zj N i with
  |none=>.no
  |some _=>(iR cl e N).th λy=>(match zj y.2 i,y.1.plain? with
   |some l,some n=>if l.length+n.length<=sizeLine then .ok (.next (y.2.set i (.own (l++n)))) else .no
   |_,_=>.no)):=(rfl)
def qkH(i j:Nat)(c:Int):iS cl w (.popI i j c) N=qls N i j c:=(rfl)
def qkI(i:Nat)(x e:E):iS cl w (.dput i x e) N=(jh e (iR cl e) N).th λy=>(match YU y.2 i with
  |none=>.no
  |some _=>(iR cl x y.2).th λz=>(match YU z.2 i,keyD z.1 with
   |some p,some k=>if p.1.length < sizeLine then .ok (.next (z.2.set i (.dic (JT p.1 k) (yy p.1 p.2 k y.1)))) else .no
   |_,_=>.no)):=(rfl)
def qnv(e:E):iS cl w (.ret e) N=(qhN e (iR cl e) N).th λr=>.ok (.ret r):=(rfl)
def qnw(i:Nat)(e:E):iS cl w (.set i e) N=(qek e (iR cl e) N).th λs=>.ok (.next (s.2.set i s.1)):=(rfl)
def qkJ(tg:Tg)(e:E):iS cl w (.setT tg e) N=(jh e (iR cl e) N).th λx=>(tg.go x.1 x.2).th λN1=>.ok (.next N1):=(rfl)
def qkK(i:Nat)(x e:E):iS cl w (.setI i x e) N=(jh e (iR cl e) N).th λy=>(match zj y.2 i with
  |none=>.no
  |some _=>(iR cl x y.2).th λz=>(match zj z.2 i,z.1.int? with
   |some l,some n=>(match ixN l.length n with
    |some k=>.ok (.next (z.2.set i (.own (l.set k y.1))))
    |none=>.no)
   |_,_=>.no)):=(rfl)
def qnx(c:T)(a b:Ss):iS cl w (.ite c a b) N=(iT cl c N).th λt=>if t.1=true then iSs cl w a t.2 else iSs cl w b t.2:=(rfl)
def qny(tg:Tg)(src:I)(b:Ss):iS cl w (.for_ tg src b) N=(iI cl src N).th λx=>jy cl w tg b x.1 x.2:=(rfl)
def qh6(s:S)(l:Ss):iSs cl w (.cons s l) N=(iS cl w s N).th λf=>qeo f λN1=>iSs cl w l N1:=(rfl)
def qnz(op:cP)(a b:E):iR cl (.bin op a b) N=(iR cl a N).th λx=>(iR cl b x.2).th λy=>(QO op x.1 y.1).th λr=>.ok (r,y.2):=(rfl)
def qnA(a:E):iR cl (.neg a) N=(iR cl a N).th λx=>match x.1 with
  |.val (.int i)=>.ok (.val (.int (-i)),x.2)
  |_=>.no:=(rfl)
def qnB(a:E):iR cl (.not a) N=(iR cl a N).th λx=>match x.1 with
  |.val (.bl b)=>.ok (.val (.bl (!b)),x.2)
  |_=>.no:=(rfl)
def qnC(a b:E):iR cl (.and a b) N=(iR cl a N).th λx=>match x.1 with
  |.val (.bl true)=>iR cl b x.2
  |.val (.bl false)=>.ok (.val (.bl false),x.2)
  |_=>.no:=(rfl)
def qnD(op:aY)(a b:E):iR cl (.cmp op a b) N=(iR cl a N).th λx=>(iR cl b x.2).th λy=>(R.of (Yo op x.1 y.1)).th λr=>.ok (.val (.bl r),y.2):=(rfl)
def qnE(c:T)(a b:E):iR cl (.ite c a b) N=(iT cl c N).th λt=>if t.1=true then iR cl a t.2 else iR cl b t.2:=(rfl)
def qnF(a i:E):iR cl (.idx a i) N=(iR cl a N).th λx=>(iR cl i x.2).th λy=>(idxD x.1 y.1).th λr=>.ok (r,y.2):=(rfl)
def qkL(i:Nat)(a:E)(n:Int):iR cl (.dget i a n) N=(match qeE N i with
  |none=>.no
  |some p=>(noX (iR cl a N)).th λy=>(match keyD y.1 with
   |some k=>.ok (.val ((atK p.1 p.2 k).getD (.int n)),y.2)
   |none=>.no)):=(rfl)
def qnG(n:Int)(a:E)(lo hi:O):iR cl (.stp n a lo hi) N=(iR cl a N).th λx=>(iO cl lo x.2).th λl=>(iO cl hi l.2).th λh=>(R.of x.1.list?).th λd=>.ok (.tmp (QB d l.1 h.1 n),h.2):=(rfl)
def qnH(a:E)(lo hi:O):iR cl (.sli a lo hi) N=(iR cl a N).th λx=>(iO cl lo x.2).th λl=>(iO cl hi l.2).th λh=>(sliceD x.1 l.1 h.1).th λr=>.ok (r,h.2):=(rfl)
def qnI(l:Es):iR cl (.lst l) N=(iEs cl l N).th λx=>if x.1.length<=sizeLine then .ok (.tmp x.1,x.2) else .no:=(rfl)
def qnJ(l:Es):iR cl (.tup l) N=(iEs cl l N).th λx=>if x.1.length<=sizeLine then .ok (.val (.tup x.1),x.2) else .no:=(rfl)
def qkM(f:Str)(l:Es):iR cl (.call f l) N=(iAs cl l N).th λx=>(cl f x.1).th λr=>.ok (r,x.2):=(rfl)
def qpU(f:B1)(a:E):iR cl (.b1 f a) N=(iR cl a N).th λx=>(f.go x.1).th λr=>.ok (r,x.2):=(rfl)
def qpV(f:B2)(a b:E):iR cl (.b2 f a b) N=(iR cl a N).th λx=>(noX (iR cl b x.2)).th λy=>(f.go x.1 y.1).th λr=>.ok (r,y.2):=(rfl)
def qnK(t:Ty)(a:E):iR cl (.isi t a) N=(iR cl a N).th λx=>(R.of (t.go x.1)).th λb=>.ok (.val (.bl b),x.2):=(rfl)
def qnL(t:Str)(a:E):iR cl (.isc t a) N=(noX (iR cl a N)).th λx=>(R.of (qhH cl.cs x.1 t)).th λb=>.ok (.val (.bl b),x.2):=(rfl)
def qnM(a:E)(x:Str):iR cl (.fld a x) N=(noX (iR cl a N)).th λy=>(R.of (qfs cl.cs y.1 x)).th λd=>.ok (.val d,y.2):=(rfl)
def goM(cl:Cl)(x:Str)(l:Es)(v:Rv)(N:Env):Option Str->R (Rv×Env)
 |some f=>(iAs cl l N).th λz=>(cl f (toAr v::z.1)).th λr=>.ok (r,z.2)
 |none=>.no
def qnN(a:E)(x:Str)(l:Es):iR cl (.met a x l) N=(iR cl a N).th λy=>goM cl x l y.1 y.2 (mtD cl.cs y.1 x):=by
 show(iR cl a N).th _=_
 congr 1
def qnO(f:Str)(l:Es):iR cl (.new f l) N=(ifX cl.y (iAs cl l N)).th λx=>(cl.nw f x.1).th λr=>.ok (r,x.2):=(rfl)
def qkN(e:E)(src:I)(tg:Tg)(c:F)(n:Nat)(fr:List Nat):iR cl (.comp e src tg c n fr) N=(iI cl src N).th λx=>if x.1.length<=sizeLine then (noX (ze cl e tg c x.1 (qb0 n fr x.2) [])).th λl=>.ok (.tmp l,x.2) else .no:=(rfl)
def qnP(a:T):iT cl (.not a) N=(iT cl a N).th λt=>.ok (!t.1,t.2):=(rfl)
def qnQ(a b:T):iT cl (.and a b) N=(iT cl a N).th λt=>if t.1=true then iT cl b t.2 else .ok (false,t.2):=(rfl)
def qpW(a b:T):iT cl (.or a b) N=(iT cl a N).th λt=>if t.1=true then .ok (true,t.2) else iT cl b t.2:=(rfl)
def qnR(op:aY)(a b:E):iT cl (.cmp op a b) N=(iR cl a N).th λx=>(iR cl b x.2).th λy=>(R.of (Yo op x.1 y.1)).th λr=>.ok (r,y.2):=(rfl)
def qnS(op op':aY)(a b c:E):iT cl (.chn op op' a b c) N=(iR cl a N).th λx=>(iR cl b x.2).th λy=>(R.of (Yo op x.1 y.1)).th λr=>if r=true then (iR cl c y.2).th λz=>(R.of (Yo op' y.1 z.1)).th λr'=>.ok (r',z.2) else .ok (false,y.2):=(rfl)
def qnT(a:E):iT cl (.val a) N=(iR cl a N).th λx=>(R.of (truthD x.1)).th λb=>.ok (b,x.2):=(rfl)
def qh7(e:E)(l:Es):iEs cl (.cons e l) N=(jh e (iR cl e) N).th λx=>(iEs cl l x.2).th λy=>.ok (x.1::y.1,y.2):=(rfl)
def qh8(e:E)(l:Es):iAs cl (.cons e l) N=(iR cl e N).th λx=>(iAs cl l x.2).th λy=>.ok (toAr x.1::y.1,y.2):=(rfl)
def qkO(e:E):iO cl (.some e) N=(iR cl e N).th λx=>match x.1 with
  |.val (.int i)=>.ok (some i,x.2)
  |_=>.no:=(rfl)
def qnU(a:E):iI cl (.seq a) N=(yN a (iR cl a) N).th λx=>.ok (x.1.2,x.2):=(rfl)
def qnV(a:E):iI cl (.rng a) N=(iR cl a N).th λx=>(match x.1.int? with
  |some n=>if qP n=true then .ok (zH 0 n,x.2) else .no
  |none=>.no):=(rfl)
def qkP(a:E):iI cl (.enum a) N=(yN a (iR cl a) N).th λx=>match x.1.1 with |.lst=>.ok (YV x.1.2,x.2) |_=>.no:=(rfl)
def qnW(a:E):iI cl (.rev a) N=(yN a (iR cl a) N).th λx=>match x.1.1 with |.lst=>.ok (x.1.2.reverse,x.2) |_=>.no:=(rfl)
def qnX(a b:E):iI cl (.zip a b) N=(yN a (iR cl a) N).th λx=>(yN b (iR cl b) x.2).th λy=>match x.1.1,y.1.1 with |.lst,.lst=>.ok (qej x.1.2 y.1.2,y.2) |_,_=>.no:=(rfl)
variable(s:Sl)(i:Nat)(d:D)(l:List D)
def slR_s:slR (s::N) (i+1)=slR N i:=(rfl)
def slR_v:slR (.val d::N) 0=.ok (.val d):=(rfl)
def slR_o:slR (.own l::N) 0=.ok (.cell l):=(rfl)
def slR_b:slR (.bor l::N) 0=.ok (.cell l):=(rfl)
def slR_c:slR (.scr l::N) 0=.ok (.scr l):=(rfl)
def slX_s:slX (s::N) (i+1)=slX N i:=(rfl)
def slX_v:slX (.val d::N) 0=.ok (.val d):=(rfl)
def slX_o:slX (.own l::N) 0=.ok (.tmp l):=(rfl)
theorem qpX:slE (s::N) (i+1)=(slE N i).th λx=>.ok (x.1,s::x.2):=by
 show(match N[i]? with |some (.val d)=>_ |some (.own l)=>_ |some (.dic ks l)=>_ |_=>_)=R.th (match N[i]? with |some (.val d)=>_ |some (.own l)=>_ |some (.dic ks l)=>_ |_=>_) _
 cases N[i]? with
 |none=>rfl
 |some z=>cases z<;>rfl
theorem qpY:slL (s::N) (i+1)=(slL N i).th λx=>.ok (x.1,s::x.2):=by
 show(match N[i]? with |some (.val (.lst l))=>_ |some (.val (.tup l))=>_ |some (.val (.str z))=>_ |some (.own l)=>_ |some (.bor l)=>_ |some (.scr l)=>_ |_=>_)=R.th (match N[i]? with |some (.val (.lst l))=>_ |some (.val (.tup l))=>_ |some (.val (.str z))=>_ |some (.own l)=>_ |some (.bor l)=>_ |some (.scr l)=>_ |_=>_) _
 cases N[i]? with
 |none=>rfl
 |some z=>
  cases z with
  |val d=>cases d<;>rfl
  |_=>rfl
def ownI_s:zj (s::N) (i+1)=zj N i:=(rfl)
def dctI_s:qeE (s::N) (i+1)=qeE N i:=(rfl)
def dctI_d(ks:List Key):qeE (.dic ks l::N) 0=some (ks,l):=(rfl)
def dctI_v(ks:List Key):qeE (.val (.dct ks l)::N) 0=some (ks,l):=(rfl)
def dicI_s:YU (s::N) (i+1)=YU N i:=(rfl)
def dicI_d(ks:List Key):YU (.dic ks l::N) 0=some (ks,l):=(rfl)
def ownI_o:zj (.own l::N) 0=some l:=(rfl)
end
mutual
def okD:D->Bool
 |.str s=>eQ s
 |.lst l=>qeq l
 |.tup l=>qeq l
 |.ins ..=>false
 |.exc ..=>false
 |.dct ..=>false
 |.non=>true
 |.bl z=>true
 |.int z=>true
def qeq:List D->Bool
 |[]=>true
 | d::l=>okD d&&qeq l
end
mutual
def dpD:D->Nat
 |.lst l=>qdk l+1
 |.tup l=>qdk l+1
 |.str z=>0
 |.ins ..=>0
 |.exc ..=>0
 |.dct ..=>0
 |.non=>0
 |.bl z=>0
 |.int z=>0
def qdk:List D->Nat
 |[]=>0
 | d::l=>max (dpD d) (qdk l)
end
mutual
theorem qi7:∀d:D,okD d=true->∃p,toP d=some p/\p.canLay0=true/\p.depth=dpD d/\cg p p=true
 |.non,z=>{_,by rw[toP],by rw[dq],by rw[PyData.depth,dpD],by rw[cg]}
 |.bl b,z=>{_,by rw[toP],by rw[dq],by rw[PyData.depth,dpD],by rw[cg];simp}
 |.int n,z=>{_,by rw[toP],by rw[dq],by rw[PyData.depth,dpD],by rw[cg];simp}
 |.str s,h=>{_,by rw[toP],by rw[dq];rw[okD]at h;exact h,by rw[PyData.depth,dpD],by rw[cg];simp}
 |.lst l,h=>by rw[okD]at h;let(p,h1,h2,h3,h4):=qcr l h;exact{.list p,by rw[toP,h1];rfl,by rw[dq];exact h2,by rw[PyData.depth,dpD,h3],by rw[cg];exact h4}
 |.tup l,h=>by rw[okD]at h;let(p,h1,h2,h3,h4):=qcr l h;exact{.tuple p,by rw[toP,h1];rfl,by rw[dq];exact h2,by rw[PyData.depth,dpD,h3],by rw[cg];exact h4}
 |.ins ..,h=>by rw[okD]at h;cases h
 |.exc ..,h=>by rw[okD]at h;cases h
 |.dct ..,h=>by rw[okD]at h;cases h
theorem qcr:∀l:List D,qeq l=true->∃p,qeC l=some p/\iV p=true/\iW p=qdk l/\gO p p=true
 |[],z=>{[],by rw[qeC],by rw[iV],by rw[iW,qdk],by rw[gO]}
 | d::l,h=>by rw[qeq,aM]at h;let(p,h1,h2,h3,h4):=qi7 d h.1;let(q,h5,h6,h7,h8):=qcr l h.2;exact{p::q,by rw[qeC,h1,h5];rfl,by rw[iV,h2,h6];rfl,by rw[iW,qdk,h3,h7],by rw[gO,h4,h8];rfl}
end
def qi8{d:D}(h:okD d=true)(hd:dpD d<=64):∃p,toP d=some p/\bJ p=true/\cg p p=true:=by let(p,h1,h2,h3,h4):=qi7 d h;exact{p,h1,by unfold bJ;rw[h2,h3];simpa using hd,h4}
def qdl{d:D}(h:okD d=true)(hd:dpD d<=64):eqD d d=some true:=by let(p,h1,h2,h3):=qi8 h hd;unfold eqD;rw[h1];dsimp only;rw[h2,h3];rfl
def qfS{a b:Str}(ha:eQ a=true)(hb:eQ b=true):eqD (.str a) (.str b)=some (a == b):=by unfold eqD;simp![toP];rw[show bJ (.str a)=true by unfold bJ;simp[dq,PyData.depth,ha],show bJ (.str b)=true by unfold bJ;simp[dq,PyData.depth,hb]];simp[cg]
def qnY:bJ .none=true:=by unfold bJ;simp[dq,PyData.depth]
def qnZ(n:Int):bJ (.int n)=true:=by unfold bJ;simp[dq,PyData.depth]
def qn0{a:Str}(ha:eQ a=true):bJ (.str a)=true:=by unfold bJ;simp[dq,PyData.depth,ha]
def qw(a b:Int):eqD (.int a) (.int b)=some (a == b):=by unfold eqD;simp![toP,qnZ,lQ,if_true,cg]
def qn1{a:Str}(ha:eQ a=true):eqD (.str a) .non=some false:=by unfold eqD;simp![toP,qnY,qn0 ha,lQ,if_true,cg]
theorem qfT{l:List D}(h:qeq l=true)(hd:qdk l<=63):eqD (.lst l) (.lst [])=some l.isEmpty:=by
 let(p,h1,h2,h3):=qi8 (d:=.lst l) (by rw[okD];exact h) (by rw[dpD];lia);unfold eqD;have e:toP (.lst [])=some (.list []):=by simp[toP,qeC]
 rw[h1,e];dsimp only;rw[h2,show bJ (.list [])=true by unfold bJ;simp[dq,iV,PyData.depth,iW]];rw[toP]at h1;let(q,h4,rfl):=bM.mp h1
 cases l with
 |nil=>rw[qeC]at h4;cases h4;simp[cg,gO]
 |cons d l=>rw[qeC]at h4;let(x,h5,h6):=eh.mp h4;let(y,h7,rfl):=bM.mp h6;simp[cg,gO]
def yw{α:Type}{l:List α}{i:Int}{j:Nat}(h:i=(j:Int))(hj:j < l.length):atI l i=some l[j]:=by subst h;unfold atI ixN;rw[if_pos (1:),if_pos (1:)];simp[hj]
def qh9{n:Nat}:ixN (n+1) (-1)=some n:=by unfold ixN;rw[if_neg (1:),if_pos (1:),show((-1:Int)+((n+1:Nat):Int)).toNat=n by lia]
def kk_f(pg:Pg)(k:Nat)(f:Str)(args:List Ar):(pg.kk k).f f args=clK pg k f args:=(rfl)
def kk_cs(pg:Pg)(k:Nat):(pg.kk k).cs=pg.cs:=(rfl)
def kk_nw(pg:Pg)(k:Nat)(f:Str)(args:List Ar):(pg.kk k).nw f args=pg.nw k f args:=(rfl)
def at_0{α:Type}(a:α)(l:List α):atI (a::l) 0=some a:=by exact yw (i:=0) (j:=0) rfl (5:)
def at_1{α:Type}(a b:α)(l:List α):atI (a::b::l) 1=some b:=by exact yw (i:=1) (j:=1) rfl (5:)
def at_2{α:Type}(a b c:α)(l:List α):atI (a::b::c::l) 2=some c:=by exact yw (i:=2) (j:=2) rfl (5:)
def qia{α:Type}{l:List α}{j:Nat}{x:α}(h:l[j]?=some x):atI l (j:Int)=some x:=by let(h1,h2):=bE.mp h;rw[yw rfl h1,h2]
def enF(i:Nat):List D->List D
 |[]=>[]
 | d::l=>.tup [.int i,d]::enF (i+1) l
theorem qi9:∀(l:List D) (i:Nat),(List.range' i l.length).zipWith (λ(i:Nat) d=>D.tup [.int i,d]) l=enF i l
 |[],i=>rfl
 | d::l,i=>by rw[aK,List.range'_succ,f6,qi9 l (i+1)];rfl
def Ys(l:List D):YV l=enF 0 l:=by unfold YV;rw[List.range_eq_range',qi9]
def rgF(i:Int):Nat->List D
 |0=>[]
 | n+1=>.int i::rgF (i+1) n
theorem qja:∀(n:Nat) (lo:Int) (s:Nat),(List.range' s n).map (λi:Nat=>D.int (lo+i))=rgF (lo+s) n
 |0,z,y=>rfl
 | n+1,lo,s=>by rw[List.range'_succ,au,qja n lo (s+1)];show _=D.int (lo+s)::rgF (lo+s+1) n;rw[show lo+((s+1:Nat):Int)=lo+s+1 by lia]
def yQ(lo hi:Int):zH lo hi=rgF lo (hi - lo).toNat:=by
 unfold zH;rw[List.range_eq_range',qja]
 congr 1
 lia
def ixN_app{α:Type}(l:List α)(x:α):ixN (l++[x]).length (-1)=some l.length:=by rw[aT];exact qh9
def set_app{α:Type}(l:List α)(x y:α):(l++[x]).set l.length y=l++[y]:=by simp
def emp_app{α:Type}(l:List α)(x:α):(l++[x]).isEmpty=false:=by cases l<;>rfl
def qc{α M γ:Type}(x:R α)(f:α->R M)(g:M->R γ):(x.th f).th g=x.th λa=>(f a).th g:=by cases x<;>rfl
def qg{α:Type}(x:R α):x.th R.ok=x:=by cases x<;>rfl
section
variable{M:Type}(cl:Cl)(w:Nat)
def ZZ(N:Env)(K:Rv×Env->R M)(r:Rv):R M:=K (r,N)
def kBl(N:Env)(K:Rv×Env->R M)(b:Bool):R M:=K (.val (.bl b),N)
def kBo(N:Env)(K:Bool×Env->R M)(b:Bool):R M:=K (b,N)
def qpZ(N:Env)(K:Rv×Env->R M)(l:List D):R M:=K (.tmp l,N)
def kB2(op:cP)(u:Rv)(K:Rv×Env->R M)(y:Rv×Env):R M:=(QO op u y.1).th (ZZ y.2 K)
def kB1(op:cP)(b:E)(K:Rv×Env->R M)(x:Rv×Env):R M:=(iR cl b x.2).th (kB2 op x.1 K)
def qqz(K:Rv×Env->R M)(x:Rv×Env):R M:=R.th (match x.1 with
  |.val (.int i)=>.ok (.val (.int (-i)),x.2)
  |_=>.no) K
def qqA(K:Rv×Env->R M)(x:Rv×Env):R M:=R.th (match x.1 with
  |.val (.bl b)=>.ok (.val (.bl (!b)),x.2)
  |_=>.no) K
def qqB(b:E)(K:Rv×Env->R M)(x:Rv×Env):R M:=R.th (match x.1 with
  |.val (.bl true)=>iR cl b x.2
  |.val (.bl false)=>.ok (.val (.bl false),x.2)
  |_=>.no) K
def kC2(op:aY)(u:Rv)(K:Rv×Env->R M)(y:Rv×Env):R M:=(R.of (Yo op u y.1)).th (kBl y.2 K)
def kC1(op:aY)(b:E)(K:Rv×Env->R M)(x:Rv×Env):R M:=(iR cl b x.2).th (kC2 op x.1 K)
def kIf(a b:E)(K:Rv×Env->R M)(t:Bool×Env):R M:=if t.1=true then (iR cl a t.2).th K else (iR cl b t.2).th K
def kI2(u:Rv)(K:Rv×Env->R M)(y:Rv×Env):R M:=(idxD u y.1).th (ZZ y.2 K)
def kI1(b:E)(K:Rv×Env->R M)(x:Rv×Env):R M:=(iR cl b x.2).th (kI2 x.1 K)
def kS3(v:Rv)(l:Option Int)(K:Rv×Env->R M)(h:Option Int×Env):R M:=(sliceD v l h.1).th (ZZ h.2 K)
def kS2(v:Rv)(hi:O)(K:Rv×Env->R M)(l:Option Int×Env):R M:=(iO cl hi l.2).th (kS3 v l.1 K)
def kS1(lo hi:O)(K:Rv×Env->R M)(x:Rv×Env):R M:=(iO cl lo x.2).th (kS2 cl x.1 hi K)
def qqC(K:Rv×Env->R M)(x:List D×Env):R M:=if x.1.length<=sizeLine then K (.tmp x.1,x.2) else .no
def qqD(K:Rv×Env->R M)(x:List D×Env):R M:=if x.1.length<=sizeLine then K (.val (.tup x.1),x.2) else .no
def qp0(n:Int)(v:Rv)(l:Option Int)(K:Rv×Env->R M)(h:Option Int×Env):R M:=(R.of v.list?).th λd=>K (.tmp (QB d l h.1 n),h.2)
def qp1(n:Int)(v:Rv)(hi:O)(K:Rv×Env->R M)(l:Option Int×Env):R M:=(iO cl hi l.2).th (qp0 n v l.1 K)
def qqE(n:Int)(lo hi:O)(K:Rv×Env->R M)(x:Rv×Env):R M:=(iO cl lo x.2).th (qp1 cl n x.1 hi K)
def qn2(f:Str)(K:Rv×Env->R M)(x:List Ar×Env):R M:=(cl f x.1).th (ZZ x.2 K)
def kF1(f:B1)(K:Rv×Env->R M)(x:Rv×Env):R M:=(f.go x.1).th (ZZ x.2 K)
def kG2(f:B2)(u:Rv)(K:Rv×Env->R M)(y:Rv×Env):R M:=(f.go u y.1).th (ZZ y.2 K)
def kG1(f:B2)(b:E)(K:Rv×Env->R M)(x:Rv×Env):R M:=(noX (iR cl b x.2)).th (kG2 f x.1 K)
def qqF(t:Str)(K:Rv×Env->R M)(x:Rv×Env):R M:=(R.of (qhH cl.cs x.1 t)).th (kBl x.2 K)
def qp2(N:Env)(K:Rv×Env->R M)(d:D):R M:=K (.val d,N)
def qqG(x:Str)(K:Rv×Env->R M)(y:Rv×Env):R M:=(R.of (qfs cl.cs y.1 x)).th (qp2 y.2 K)
def qp3(f:Str)(v:Rv)(K:Rv×Env->R M)(z:List Ar×Env):R M:=(cl f (toAr v::z.1)).th (ZZ z.2 K)
def qp4(v:Rv)(l:Es)(N:Env)(K:Rv×Env->R M)(f:Str):R M:=(iAs cl l N).th (qp3 cl f v K)
def qp5(x:Str)(v:Rv)(l:Es)(N:Env)(K:Rv×Env->R M)(o:Option Str):R M:=match o with
 |some f=>qp4 cl v l N K f
 |none=>.no
def qp6(x:Str)(l:Es)(K:Rv×Env->R M)(y:Rv×Env):R M:=qp5 cl x y.1 l y.2 K (mtD cl.cs y.1 x)
def qqH(f:Str)(K:Rv×Env->R M)(x:List Ar×Env):R M:=(cl.nw f x.1).th (ZZ x.2 K)
def qqI(t:Ty)(K:Rv×Env->R M)(x:Rv×Env):R M:=(R.of (t.go x.1)).th (kBl x.2 K)
def qn3(e:E)(tg:Tg)(c:F)(n:Nat)(fr:List Nat)(K:Rv×Env->R M)(x:List D×Env):R M:=if x.1.length<=sizeLine then (noX (ze cl e tg c x.1 (qb0 n fr x.2) [])).th (qpZ x.2 K) else .no
def kTn(K:Bool×Env->R M)(t:Bool×Env):R M:=K (!t.1,t.2)
def kTa(b:T)(K:Bool×Env->R M)(t:Bool×Env):R M:=if t.1=true then (iT cl b t.2).th K else K (false,t.2)
def kTo(b:T)(K:Bool×Env->R M)(t:Bool×Env):R M:=if t.1=true then K (true,t.2) else (iT cl b t.2).th K
def kD2(op:aY)(u:Rv)(K:Bool×Env->R M)(y:Rv×Env):R M:=(R.of (Yo op u y.1)).th (kBo y.2 K)
def kD1(op:aY)(b:E)(K:Bool×Env->R M)(x:Rv×Env):R M:=(iR cl b x.2).th (kD2 op x.1 K)
def kN2(op:aY)(c:E)(v:Rv)(N:Env)(K:Bool×Env->R M)(r:Bool):R M:=if r=true then (iR cl c N).th (kD2 op v K) else K (false,N)
def kN1(op op':aY)(c:E)(u:Rv)(K:Bool×Env->R M)(y:Rv×Env):R M:=(R.of (Yo op u y.1)).th (kN2 cl op' c y.1 y.2 K)
def kN0(op op':aY)(b c:E)(K:Bool×Env->R M)(x:Rv×Env):R M:=(iR cl b x.2).th (kN1 cl op op' c x.1 K)
def kTv(K:Bool×Env->R M)(x:Rv×Env):R M:=(R.of (truthD x.1)).th (kBo x.2 K)
def kE2(d:D)(K:List D×Env->R M)(y:List D×Env):R M:=K (d::y.1,y.2)
def kE1(l:Es)(K:List D×Env->R M)(x:D×Env):R M:=(iEs cl l x.2).th (kE2 x.1 K)
def kA2(v:Rv)(K:List Ar×Env->R M)(y:List Ar×Env):R M:=K (toAr v::y.1,y.2)
def kA1(l:Es)(K:List Ar×Env->R M)(x:Rv×Env):R M:=(iAs cl l x.2).th (kA2 x.1 K)
def kO(K:Option Int×Env->R M)(x:Rv×Env):R M:=R.th (match x.1 with
  |.val (.int i)=>.ok (some i,x.2)
  |_=>.no) K
def qqJ(K:List D×Env->R M)(x:(Sk×List D)×Env):R M:=K (x.1.2,x.2)
def qqK(K:List D×Env->R M)(x:Rv×Env):R M:=R.th (match x.1.int? with
  |some n=>if qP n=true then .ok (zH 0 n,x.2) else .no
  |none=>.no) K
def kR2(u:Rv)(K:List D×Env->R M)(y:Rv×Env):R M:=R.th (match u.int?,y.1.int? with
  |some i,some j=>if qP i=true/\qP j=true then .ok (zH i j,y.2) else .no
  |z,x=>.no) K
def qn4(K:List D×Env->R M)(x:(Sk×List D)×Env):R M:=R.th (match x.1.1 with |.lst=>.ok (YV x.1.2,x.2) |_=>.no) K
def qqL(K:List D×Env->R M)(x:(Sk×List D)×Env):R M:=R.th (match x.1.1 with |.lst=>.ok (x.1.2.reverse,x.2) |_=>.no) K
def kZ2(x:Sk×List D)(K:List D×Env->R M)(y:(Sk×List D)×Env):R M:=R.th (match x.1,y.1.1 with |.lst,.lst=>.ok (qej x.2 y.1.2,y.2) |_,_=>.no) K
def kZ1(b:E)(K:List D×Env->R M)(x:(Sk×List D)×Env):R M:=(yN b (iR cl b) x.2).th (kZ2 x.1 K)
def qp7(K:D×Env->R M)(x:Rv×Env):R M:=(qo0 x).th K
def qib(K:(Sk×List D)×Env->R M)(x:Rv×Env):R M:=(qo1 x).th K
def kX(K:Rv->R M)(x:Rv×Env):R M:=R.th (match x.1 with
  |.val d=>.ok (.val d)
  |.tmp l=>.ok (.tmp l)
  |_=>.no) K
def kAv(K:Sl×Env->R M)(x:D×Env):R M:=K (.val x.1,x.2)
def kAx(K:Sl×Env->R M)(x:Rv×Env):R M:=R.th (match x.1 with
  |.val d=>.ok (.val d,x.2)
  |.tmp l=>.ok (.own l,x.2)
  |_=>.no) K
def qkQ{α:Type}(s:Sl)(K:α×Env->R M)(x:α×Env):R M:=K (x.1,s::x.2)
def oGo(o:Option (List D))(x:R M):R M:=match o with
 |none=>.no
 |some z=>x
def qo4(i:Nat)(d:D)(N:Env)(K:Fl->R M)(o:Option (List Key×List D))(v:Option Key):R M:=match o,v with
 |some p,some k=>if p.1.length < sizeLine then K (.next (N.set i (.dic (JT p.1 k) (yy p.1 p.2 k d)))) else .no
 |_,_=>.no
def qp8(i:Nat)(d:D)(K:Fl->R M)(z:Rv×Env):R M:=qo4 i d z.2 K (YU z.2 i) (keyD z.1)
def dGo(o:Option (List Key×List D))(x:R M):R M:=match o with
 |none=>.no
 |some z=>x
def qkR(i:Nat)(d:D)(N:Env)(K:Fl->R M)(o:Option (List D)):R M:=R.th (match o with
   |some l=>if l.length < sizeLine then .ok (.next (N.set i (.own (l++[d])))) else .no
   |none=>.no) K
def qqM(i:Nat)(K:Fl->R M)(y:D×Env):R M:=qkR i y.1 y.2 K (zj y.2 i)
def qkS(i:Nat)(N:Env)(K:Fl->R M)(o p:Option (List D)):R M:=R.th (match o,p with
   |some l,some n=>if l.length+n.length<=sizeLine then .ok (.next (N.set i (.own (l++n)))) else .no
   |_,_=>.no) K
def qqN(i:Nat)(K:Fl->R M)(y:Rv×Env):R M:=qkS i y.2 K (zj y.2 i) y.1.plain?
def kRt(K:Fl->R M)(r:Rv):R M:=K (.ret r)
def qqO(i:Nat)(K:Fl->R M)(s:Sl×Env):R M:=K (.next (s.2.set i s.1))
def kNx(K:Fl->R M)(N:Env):R M:=K (.next N)
def kST(tg:Tg)(K:Fl->R M)(x:D×Env):R M:=(tg.go x.1 x.2).th (kNx K)
def qp9(i:Nat)(d:D)(N:Env)(K:Fl->R M)(l:List D)(o:Option Nat):R M:=R.th (match o with
    |some k=>.ok (.next (N.set i (.own (l.set k d))))
    |none=>.no) K
def qo5(i:Nat)(d:D)(N:Env)(K:Fl->R M)(o:Option (List D))(v:Option Int):R M:=match o,v with
 |some l,some n=>qp9 i d N K l (ixN l.length n)
 |z,y=>.no
def qqa(i:Nat)(d:D)(K:Fl->R M)(z:Rv×Env):R M:=qo5 i d z.2 K (zj z.2 i) z.1.int?
def kSI(i:Nat)(x:E)(K:Fl->R M)(y:D×Env):R M:=oGo (zj y.2 i) ((iR cl x y.2).th (qqa i y.1 K))
def qqP(a b:Ss)(K:Fl->R M)(t:Bool×Env):R M:=if t.1=true then (iSs cl w a t.2).th K else (iSs cl w b t.2).th K
def qqQ(tg:Tg)(b:Ss)(K:Fl->R M)(x:List D×Env):R M:=(jy cl w tg b x.1 x.2).th K
def qkT(l:Ss)(K:Fl->R M)(f:Fl):R M:=(qeo f λN1=>iSs cl w l N1).th K
def qo6(tg:Tg)(b:Ss)(l:List D)(K:Fl->R M)(f:Fl):R M:=(qeo f λN1=>jy cl w tg b l N1).th K
def qqR(tg:Tg)(b:Ss)(l:List D)(K:Fl->R M)(N:Env):R M:=(iSs cl w b N).th (qo6 cl w tg b l K)
def qqb(c:T)(b:Ss)(n:Nat)(K:Fl->R M)(f:Fl):R M:=(qeo f λN1=>whD cl w c b n N1).th K
def qqS(c:T)(b:Ss)(n:Nat)(K:Fl->R M)(t:Bool×Env):R M:=if t.1=true then (iSs cl w b t.2).th (qqb cl w c b n K) else K (.next t.2)
def kP3(e:E)(tg:Tg)(c:F)(l acc:List D)(K:List D->R M)(x:D×Env):R M:=if acc.length < sizeLine then (ze cl e tg c l x.2 (acc++[x.1])).th K else .no
def kP2(e:E)(tg:Tg)(c:F)(l acc:List D)(K:List D->R M)(t:Bool×Env):R M:=if t.1=true then (jh e (iR cl e) t.2).th (kP3 cl e tg c l acc K) else (ze cl e tg c l t.2 acc).th K
def kP1(e:E)(tg:Tg)(c:F)(l acc:List D)(K:List D->R M)(N:Env):R M:=(iF cl c N).th (kP2 cl e tg c l acc K)
def zI{α:Type}{c:Prop}[Decidable c](x y:R α)(K:α->R M):(if c then x else y).th K=if c then x.th K else y.th K:=by split<;>rfl
def qr{α:Type}(x:R α){f g:α->R M}(h:∀a,f a=g a):x.th f=x.th g:=by cases x<;>first|rfl|exact h _
section
variable(N:Env)(K:Rv×Env->R M)
def xR_var(i:Nat):(iR cl (.var i) N).th K=(slR N i).th (ZZ N K):=(qc (slR N i) _ _)
def xR_con(d:D):(iR cl (.con d) N).th K=K (.val d,N):=(rfl)
def xR_bin(op:cP)(a b:E):(iR cl (.bin op a b) N).th K=(iR cl a N).th (kB1 cl op b K):=by rw[qnz,qc];refine qr _ λx=>?_;rw[qc];refine qr _ λy=>?_;rw[qc];rfl
def xR_neg(a:E):(iR cl (.neg a) N).th K=(iR cl a N).th (qqz K):=by rw[qnA,qc];rfl
def xR_not(a:E):(iR cl (.not a) N).th K=(iR cl a N).th (qqA K):=by rw[qnB,qc];rfl
def xR_one(a:E):(iR cl (.one a) N).th K=(iR cl a N).th K:=(rfl)
def xR_and(a b:E):(iR cl (.and a b) N).th K=(iR cl a N).th (qqB cl b K):=by rw[qnC,qc];rfl
def xR_cmp(op:aY)(a b:E):(iR cl (.cmp op a b) N).th K=(iR cl a N).th (kC1 cl op b K):=by rw[qnD,qc];refine qr _ λx=>?_;rw[qc];refine qr _ λy=>?_;rw[qc];rfl
def xR_ite(c:T)(a b:E):(iR cl (.ite c a b) N).th K=(iT cl c N).th (kIf cl a b K):=by rw[qnE,qc];refine qr _ λt=>?_;rw[zI];rfl
def xR_idx(a b:E):(iR cl (.idx a b) N).th K=(iR cl a N).th (kI1 cl b K):=by rw[qnF,qc];refine qr _ λx=>?_;rw[qc];refine qr _ λy=>?_;rw[qc];rfl
def xR_sli(a:E)(lo hi:O):(iR cl (.sli a lo hi) N).th K=(iR cl a N).th (kS1 cl lo hi K):=by rw[qnH,qc];refine qr _ λx=>?_;rw[qc];refine qr _ λy=>?_;rw[qc];refine qr _ λz=>?_;rw[qc];rfl
def xR_lst(l:Es):(iR cl (.lst l) N).th K=(iEs cl l N).th (qqC K):=by rw[qnI,qc];refine qr _ λx=>?_;rw[zI];rfl
def xR_tup(l:Es):(iR cl (.tup l) N).th K=(iEs cl l N).th (qqD K):=by rw[qnJ,qc];refine qr _ λx=>?_;rw[zI];rfl
def qo7(p:List Key×List D)(n:Int)(N:Env)(K:Rv×Env->R M)(o:Option Key):R M:=match o with
 |some k=>K (.val ((atK p.1 p.2 k).getD (.int n)),N)
 |none=>.no
def qqc(p:List Key×List D)(n:Int)(K:Rv×Env->R M)(y:Rv×Env):R M:=qo7 p n y.2 K (keyD y.1)
def kDg(a:E)(n:Int)(N:Env)(K:Rv×Env->R M)(o:Option (List Key×List D)):R M:=match o with
 |some p=>(noX (iR cl a N)).th (qqc p n K)
 |none=>.no
theorem xR_dget(i:Nat)(a:E)(n:Int):(iR cl (.dget i a n) N).th K=kDg cl a n N K (qeE N i):=by
 rw[qkL]
 cases qeE N i with
 |none=>rfl
 |some p=>
  show R.th (R.th (noX (iR cl a N)) _) K=R.th _ _;rw[qc];refine qr _ λy=>?_;show R.th (match keyD y.1 with |some k=>_ |none=>_) K=qo7 p n y.2 K (keyD y.1)
  cases keyD y.1<;>rfl
def yDg(a:E)(n:Int)(p:List Key×List D):kDg cl a n N K (some p)=(noX (iR cl a N)).th (qqc p n K):=(rfl)
def yDg2(p:List Key×List D)(n:Int)(v:Rv):qqc p n K (v,N)=qo7 p n N K (keyD v):=(rfl)
def yDg3(p:List Key×List D)(n:Int)(k:Key):qo7 p n N K (some k)=K (.val ((atK p.1 p.2 k).getD (.int n)),N):=(rfl)
def xR_stp(n:Int)(a:E)(lo hi:O):(iR cl (.stp n a lo hi) N).th K=(iR cl a N).th (qqE cl n lo hi K):=by rw[qnG,qc];refine qr _ λx=>?_;rw[qc];refine qr _ λy=>?_;rw[qc];refine qr _ λz=>?_;rw[qc];rfl
def xR_call(f:Str)(l:Es):(iR cl (.call f l) N).th K=(iAs cl l N).th (qn2 cl f K):=by rw[qkM,qc];refine qr _ λx=>?_;rw[qc];rfl
def xR_b1(f:B1)(a:E):(iR cl (.b1 f a) N).th K=(iR cl a N).th (kF1 f K):=by rw[qpU,qc];refine qr _ λx=>?_;rw[qc];rfl
def xR_b2(f:B2)(a b:E):(iR cl (.b2 f a b) N).th K=(iR cl a N).th (kG1 cl f b K):=by rw[qpV,qc];refine qr _ λx=>?_;rw[qc];refine qr _ λy=>?_;rw[qc];rfl
def xR_isc(t:Str)(a:E):(iR cl (.isc t a) N).th K=(noX (iR cl a N)).th (qqF cl t K):=by rw[qnL,qc];refine qr _ λx=>?_;rw[qc];rfl
def xR_fld(a:E)(x:Str):(iR cl (.fld a x) N).th K=(noX (iR cl a N)).th (qqG cl x K):=by rw[qnM,qc];refine qr _ λy=>?_;rw[qc];rfl
theorem xR_met(a:E)(x:Str)(l:Es):(iR cl (.met a x l) N).th K=(iR cl a N).th (qp6 cl x l K):=by
 rw[qnN,qc];refine qr _ λy=>?_;unfold qp6
 cases mtD cl.cs y.1 x with
 |some f=>unfold goM;rw[qc];refine qr _ λz=>?_;rw[qc];rfl
 |none=>rfl
def xR_new(f:Str)(l:Es):(iR cl (.new f l) N).th K=(ifX cl.y (iAs cl l N)).th (qqH cl f K):=by rw[qnO,qc];refine qr _ λx=>?_;rw[qc];rfl
def xR_isi(t:Ty)(a:E):(iR cl (.isi t a) N).th K=(iR cl a N).th (qqI t K):=by rw[qnK,qc];refine qr _ λx=>?_;rw[qc];rfl
def xR_comp(e:E)(src:I)(tg:Tg)(c:F)(n:Nat)(fr:List Nat):(iR cl (.comp e src tg c n fr) N).th K=(iI cl src N).th (qn3 cl e tg c n fr K):=by rw[qkN,qc];refine qr _ λx=>?_;rw[zI,qc];rfl
def n_ok{α:Type}(a:α):noX (R.ok a)=.ok a:=(rfl)
def n_R(e:E):noX (iR cl e N)=noX ((iR cl e N).th R.ok):=by rw[qg]
def ix_ok{α:Type}(b:Bool)(x:α):ifX b (R.ok x)=.ok x:=by cases b<;>rfl
def ix_As(b:Bool)(l:Es):ifX b (iAs cl l N)=ifX b ((iAs cl l N).th R.ok):=by rw[qg]
theorem n_var(i:Nat):(noX (iR cl (.var i) N)).th K=(slR N i).th (ZZ N K):=by
 show(noX ((slR N i).th _)).th K=_
 cases e:slR N i with
 |ok r=>rfl
 |no=>rfl
 |exc c l=>unfold slR at e;split at e<;>cases e
end
section
variable(N:Env)(K:Rv×Env->R M)(v u:Rv)
def yRet:ZZ N K v=K (v,N):=(rfl)
def yBl(b:Bool):kBl N K b=K (.val (.bl b),N):=(rfl)
def yTmp(l:List D):qpZ N K l=K (.tmp l,N):=(rfl)
def yB1(op:cP)(b:E):kB1 cl op b K (v,N)=(iR cl b N).th (kB2 op v K):=(rfl)
def yB2(op:cP):kB2 op u K (v,N)=(QO op u v).th (ZZ N K):=(rfl)
def yNeg(i:Int):qqz K (.val (.int i),N)=K (.val (.int (-i)),N):=(rfl)
def yNot(b:Bool):qqA K (.val (.bl b),N)=K (.val (.bl (!b)),N):=(rfl)
def yAnd(b:E)(t:Bool):qqB cl b K (.val (.bl t),N)=if t=true then (iR cl b N).th K else K (.val (.bl false),N):=by cases t<;>rfl
def yC1(op:aY)(b:E):kC1 cl op b K (v,N)=(iR cl b N).th (kC2 op v K):=(rfl)
def yC2(op:aY):kC2 op u K (v,N)=(R.of (Yo op u v)).th (kBl N K):=(rfl)
def yIf(a b:E)(t:Bool):kIf cl a b K (t,N)=if t=true then (iR cl a N).th K else (iR cl b N).th K:=(rfl)
def yI1(b:E):kI1 cl b K (v,N)=(iR cl b N).th (kI2 v K):=(rfl)
def yI2:kI2 u K (v,N)=(idxD u v).th (ZZ N K):=(rfl)
def yS1(lo hi:O):kS1 cl lo hi K (v,N)=(iO cl lo N).th (kS2 cl v hi K):=(rfl)
def yS2(hi:O)(l:Option Int):kS2 cl v hi K (l,N)=(iO cl hi N).th (kS3 v l K):=(rfl)
def yS3(l h:Option Int):kS3 v l K (h,N)=(sliceD v l h).th (ZZ N K):=(rfl)
def yLst(l:List D):qqC K (l,N)=if l.length<=sizeLine then K (.tmp l,N) else .no:=(rfl)
def yTup(l:List D):qqD K (l,N)=if l.length<=sizeLine then K (.val (.tup l),N) else .no:=(rfl)
def yQs1(n:Int)(lo hi:O):qqE cl n lo hi K (v,N)=(iO cl lo N).th (qp1 cl n v hi K):=(rfl)
def yQs2(n:Int)(hi:O)(l:Option Int):qp1 cl n v hi K (l,N)=(iO cl hi N).th (qp0 n v l K):=(rfl)
def yQs3(n:Int)(l h:Option Int)(d:List D):qp0 n (.scr d) l K (h,N)=K (.tmp (QB d l h n),N):=(rfl)
def yCall(f:Str)(l:List Ar):qn2 cl f K (l,N)=(cl f l).th (ZZ N K):=(rfl)
def yF1(f:B1):kF1 f K (v,N)=(f.go v).th (ZZ N K):=(rfl)
def yG1(f:B2)(b:E):kG1 cl f b K (v,N)=(noX (iR cl b N)).th (kG2 f v K):=(rfl)
def yG2(f:B2):kG2 f u K (v,N)=(f.go u v).th (ZZ N K):=(rfl)
def yIsc(t:Str):qqF cl t K (v,N)=(R.of (qhH cl.cs v t)).th (kBl N K):=(rfl)
def yDat(d:D):qp2 N K d=K (.val d,N):=(rfl)
def yFld(x:Str):qqG cl x K (v,N)=(R.of (qfs cl.cs v x)).th (qp2 N K):=(rfl)
def yMt3(f:Str)(l:List Ar):qp3 cl f v K (l,N)=(cl f (toAr v::l)).th (ZZ N K):=(rfl)
def yMt2(f:Str)(l:Es):qp4 cl v l N K f=(iAs cl l N).th (qp3 cl f v K):=(rfl)
def yMt1(x:Str)(l:Es):qp6 cl x l K (v,N)=qp5 cl x v l N K (mtD cl.cs v x):=(rfl)
def yMtO(x:Str)(l:Es)(f:Str):qp5 cl x v l N K (some f)=qp4 cl v l N K f:=(rfl)
def yNew(f:Str)(l:List Ar):qqH cl f K (l,N)=(cl.nw f l).th (ZZ N K):=(rfl)
def yIsi(t:Ty):qqI t K (v,N)=(R.of (t.go v)).th (kBl N K):=(rfl)
def yComp(e:E)(tg:Tg)(c:F)(n:Nat)(fr:List Nat)(l:List D):qn3 cl e tg c n fr K (l,N)=if l.length<=sizeLine then (noX (ze cl e tg c l (qb0 n fr N) [])).th (qpZ N K) else .no:=(rfl)
end
section
variable(N:Env)(K:Bool×Env->R M)(v u:Rv)(t:Bool)
def xT_not(a:T):(iT cl (.not a) N).th K=(iT cl a N).th (kTn K):=by rw[qnP,qc];rfl
def xT_one(a:T):(iT cl (.one a) N).th K=(iT cl a N).th K:=(rfl)
def xT_and(a b:T):(iT cl (.and a b) N).th K=(iT cl a N).th (kTa cl b K):=by rw[qnQ,qc];refine qr _ λt=>?_;rw[zI];rfl
def xT_or(a b:T):(iT cl (.or a b) N).th K=(iT cl a N).th (kTo cl b K):=by rw[qpW,qc];refine qr _ λt=>?_;rw[zI];rfl
def xT_cmp(op:aY)(a b:E):(iT cl (.cmp op a b) N).th K=(iR cl a N).th (kD1 cl op b K):=by rw[qnR,qc];refine qr _ λx=>?_;rw[qc];refine qr _ λy=>?_;rw[qc];rfl
def xT_chn(op op':aY)(a b c:E):(iT cl (.chn op op' a b c) N).th K=(iR cl a N).th (kN0 cl op op' b c K):=by
 rw[qnS,qc];refine qr _ λx=>?_;rw[qc];refine qr _ λy=>?_;rw[qc];refine qr _ λr=>?_;rw[zI];show(if r=true then _ else _)=kN2 cl op' c y.1 y.2 K r;unfold kN2;split
 .rw[qc];refine qr _ λz=>?_;rw[qc];rfl
 .rfl
def xT_val(a:E):(iT cl (.val a) N).th K=(iR cl a N).th (kTv K):=by rw[qnT,qc];refine qr _ λx=>?_;rw[qc];rfl
def yBo:kBo N K t=K (t,N):=(rfl)
def yTn:kTn K (t,N)=K (!t,N):=(rfl)
def yTa(b:T):kTa cl b K (t,N)=if t=true then (iT cl b N).th K else K (false,N):=(rfl)
def yTo(b:T):kTo cl b K (t,N)=if t=true then K (true,N) else (iT cl b N).th K:=(rfl)
def yD1(op:aY)(b:E):kD1 cl op b K (v,N)=(iR cl b N).th (kD2 op v K):=(rfl)
def yD2(op:aY):kD2 op u K (v,N)=(R.of (Yo op u v)).th (kBo N K):=(rfl)
def yN0(op op':aY)(b c:E):kN0 cl op op' b c K (v,N)=(iR cl b N).th (kN1 cl op op' c v K):=(rfl)
def yN1(op op':aY)(c:E):kN1 cl op op' c u K (v,N)=(R.of (Yo op u v)).th (kN2 cl op' c v N K):=(rfl)
def yN2(op:aY)(c:E):kN2 cl op c v N K t=if t=true then (iR cl c N).th (kD2 op v K) else K (false,N):=(rfl)
def yTv:kTv K (v,N)=(R.of (truthD v)).th (kBo N K):=(rfl)
def xF_yes:(iF cl .yes N).th K=K (true,N):=(rfl)
def xF_test(c:T):(iF cl (.test c) N).th K=(iT cl c N).th K:=(rfl)
end
section
variable(N:Env)
def xEs_nil(K:List D×Env->R M):(iEs cl .nil N).th K=K ([],N):=(rfl)
def xEs_cons(K:List D×Env->R M)(e:E)(l:Es):(iEs cl (.cons e l) N).th K=(jh e (iR cl e) N).th (kE1 cl l K):=by rw[qh7,qc];refine qr _ λx=>?_;rw[qc];rfl
def yE1(K:List D×Env->R M)(l:Es)(d:D):kE1 cl l K (d,N)=(iEs cl l N).th (kE2 d K):=(rfl)
def yE2(K:List D×Env->R M)(d:D)(ds:List D):kE2 d K (ds,N)=K (d::ds,N):=(rfl)
def xAs_nil(K:List Ar×Env->R M):(iAs cl .nil N).th K=K ([],N):=(rfl)
def xAs_cons(K:List Ar×Env->R M)(e:E)(l:Es):(iAs cl (.cons e l) N).th K=(iR cl e N).th (kA1 cl l K):=by rw[qh8,qc];refine qr _ λx=>?_;rw[qc];rfl
def yA1(K:List Ar×Env->R M)(l:Es)(v:Rv):kA1 cl l K (v,N)=(iAs cl l N).th (kA2 v K):=(rfl)
def yA2(K:List Ar×Env->R M)(v:Rv)(l:List Ar):kA2 v K (l,N)=K (toAr v::l,N):=(rfl)
def xO_none(K:Option Int×Env->R M):(iO cl .none N).th K=K (none,N):=(rfl)
def xO_some(K:Option Int×Env->R M)(e:E):(iO cl (.some e) N).th K=(iR cl e N).th (kO K):=by rw[qkO,qc];rfl
def yO(K:Option Int×Env->R M)(i:Int):kO K (.val (.int i),N)=K (some i,N):=(rfl)
variable(K:List D×Env->R M)
def xI_seq(a:E):(iI cl (.seq a) N).th K=(yN a (iR cl a) N).th (qqJ K):=by rw[qnU,qc];rfl
def xI_rng(a:E):(iI cl (.rng a) N).th K=(iR cl a N).th (qqK K):=by rw[qnV,qc];rfl
def xI_rev(a:E):(iI cl (.rev a) N).th K=(yN a (iR cl a) N).th (qqL K):=by rw[qnW,qc];rfl
def xI_enum(a:E):(iI cl (.enum a) N).th K=(yN a (iR cl a) N).th (qn4 K):=by rw[qkP,qc];rfl
def xI_zip(a b:E):(iI cl (.zip a b) N).th K=(yN a (iR cl a) N).th (kZ1 cl b K):=by rw[qnX,qc];refine qr _ λx=>?_;rw[qc];rfl
def ySeq(s:Sk)(l:List D):qqJ K ((s,l),N)=K (l,N):=(rfl)
def yRng(n:Int):qqK K (.val (.int n),N)=if qP n=true then K (zH 0 n,N) else .no:=by show R.th (if qP n=true then _ else _) K=_;rw[zI];rfl
def yRev(l:List D):qqL K ((.lst,l),N)=K (l.reverse,N):=(rfl)
def yEnum(l:List D):qn4 K ((.lst,l),N)=K (YV l,N):=(rfl)
def yZ1(b:E)(x:Sk×List D):kZ1 cl b K (x,N)=(yN b (iR cl b) N).th (kZ2 x K):=(rfl)
def yZ2(l n:List D):kZ2 (.lst,l) K ((.lst,n),N)=K (qej l n,N):=(rfl)
end
section
variable(N:Env)(s:Sl)(i:Nat)(d:D)(l:List D)
def yVal(K:D×Env->R M):qp7 K (.val d,N)=K (d,N):=(rfl)
def yValt(K:D×Env->R M):qp7 K (.tmp l,N)=K (.lst l,N):=(rfl)
def yValL(K:(Sk×List D)×Env->R M):qib K (.val (.lst l),N)=K ((.lst,l),N):=(rfl)
def yValLt(K:(Sk×List D)×Env->R M):qib K (.val (.tup l),N)=K ((.tup,l),N):=(rfl)
def yValLm(K:(Sk×List D)×Env->R M):qib K (.tmp l,N)=K ((.lst,l),N):=(rfl)
def yX(K:Rv->R M):kX K (.val d,N)=K (.val d):=(rfl)
def yXt(K:Rv->R M):kX K (.tmp l,N)=K (.tmp l):=(rfl)
def yAv(K:Sl×Env->R M):kAv K (d,N)=K (.val d,N):=(rfl)
def yAx(K:Sl×Env->R M):kAx K (.val d,N)=K (.val d,N):=(rfl)
def yAxt(K:Sl×Env->R M):kAx K (.tmp l,N)=K (.own l,N):=(rfl)
def yCons{α:Type}(K:α×Env->R M)(x:α):qkQ s K (x,N)=K (x,s::N):=(rfl)
def xE_s(K:D×Env->R M):(slE (s::N) (i+1)).th K=(slE N i).th (qkQ s K):=by rw[qpX,qc];rfl
def xE_v(K:D×Env->R M):(slE (.val d::N) 0).th K=K (d,.val d::N):=(rfl)
def xE_d(ks:List Key)(K:D×Env->R M):(slE (.dic ks l::N) 0).th K=K (.dct ks l,.val (.dct ks l)::N):=(rfl)
def xE_o(K:D×Env->R M):(slE (.own l::N) 0).th K=K (.lst l,.val (.lst l)::N):=(rfl)
variable(K:(Sk×List D)×Env->R M)
def xL_s:(slL (s::N) (i+1)).th K=(slL N i).th (qkQ s K):=by rw[qpY,qc];rfl
def xL_l:(slL (.val (.lst l)::N) 0).th K=K ((.lst,l),.val (.lst l)::N):=(rfl)
def xL_z(z:Str):(slL (.val (.str z)::N) 0).th K=K ((.str,qhG z),.val (.str z)::N):=(rfl)
def xL_o:(slL (.own l::N) 0).th K=K ((.lst,l),.val (.lst l)::N):=(rfl)
def xL_b:(slL (.bor l::N) 0).th K=K ((.lst,l),.bor l::N):=(rfl)
end
section
variable(N:Env)(K:Fl->R M)(i:Nat)
def oGo_some(l:List D)(x:R M):oGo (some l) x=x:=(rfl)
theorem xS_app(e:E):(iS cl w (.app i e) N).th K=oGo (zj N i) ((jh e (iR cl e) N).th (qqM i K)):=by
 rw[qnt]
 cases zj N i with
 |none=>rfl
 |some l=>show R.th (R.th (jh e (iR cl e) N) _) K=_;rw[qc];rfl
def yApp(d:D):qqM i K (d,N)=qkR i d N K (zj N i):=(rfl)
def yApp2(d:D)(l:List D):qkR i d N K (some l)=if l.length < sizeLine then K (.next (N.set i (.own (l++[d])))) else .no:=by show R.th (if l.length < sizeLine then _ else _) K=_;rw[zI];rfl
theorem xS_ext(e:E):(iS cl w (.ext i e) N).th K=oGo (zj N i) ((iR cl e N).th (qqN i K)):=by
 rw[qnu]
 cases zj N i with
 |none=>rfl
 |some l=>show R.th (R.th (iR cl e N) _) K=_;rw[qc];rfl
def yExt(v:Rv):qqN i K (v,N)=qkS i N K (zj N i) v.plain?:=(rfl)
def yExt2(l n:List D):qkS i N K (some l) (some n)=if l.length+n.length<=sizeLine then K (.next (N.set i (.own (l++n)))) else .no:=by show R.th (if l.length+n.length<=sizeLine then _ else _) K=_;rw[zI];rfl
def xS_ret(e:E):(iS cl w (.ret e) N).th K=(qhN e (iR cl e) N).th (kRt K):=by rw[qnv,qc];rfl
def yRt(r:Rv):kRt K r=K (.ret r):=(rfl)
def xS_set(e:E):(iS cl w (.set i e) N).th K=(qek e (iR cl e) N).th (qqO i K):=by rw[qnw,qc];rfl
def ySet(s:Sl):qqO i K (s,N)=K (.next (N.set i s)):=(rfl)
def xS_setT(tg:Tg)(e:E):(iS cl w (.setT tg e) N).th K=(jh e (iR cl e) N).th (kST tg K):=by rw[qkJ,qc];refine qr _ λx=>?_;rw[qc];rfl
def yST(tg:Tg)(d:D):kST tg K (d,N)=(tg.go d N).th (kNx K):=(rfl)
def yNx:kNx K N=K (.next N):=(rfl)
theorem xS_setI(x e:E):(iS cl w (.setI i x e) N).th K=(jh e (iR cl e) N).th (kSI cl i x K):=by
 rw[qkK,qc];refine qr _ λy=>?_;show R.th (match zj y.2 i with |none=>_ |some _=>_) K=oGo (zj y.2 i) _
 cases zj y.2 i with
 |none=>rfl
 |some l=>
  show R.th (R.th (iR cl x y.2) _) K=R.th _ _;rw[qc];refine qr _ λz=>?_;show R.th (match zj z.2 i,z.1.int? with |some l,some n=>_ |_,_=>_) K=qo5 i y.1 z.2 K (zj z.2 i) z.1.int?
  cases zj z.2 i with
  |none=>rfl
  |some l=>cases z.1.int?<;>rfl
def ySI(x:E)(d:D):kSI cl i x K (d,N)=oGo (zj N i) ((iR cl x N).th (qqa i d K)):=(rfl)
def ySI2(d:D)(v:Rv):qqa i d K (v,N)=qo5 i d N K (zj N i) v.int?:=(rfl)
def ySI3(d:D)(l:List D)(n:Int):qo5 i d N K (some l) (some n)=qp9 i d N K l (ixN l.length n):=(rfl)
def ySI4(d:D)(l:List D)(k:Nat):qp9 i d N K l (some k)=K (.next (N.set i (.own (l.set k d)))):=(rfl)
def kDP(i:Nat)(x:E)(K:Fl->R M)(y:D×Env):R M:=dGo (YU y.2 i) ((iR cl x y.2).th (qp8 i y.1 K))
def xS_dnew:(iS cl w (.dnew i) N).th K=K (.next (N.set i (.dic [] []))):=(rfl)
theorem xS_dput(x e:E):(iS cl w (.dput i x e) N).th K=(jh e (iR cl e) N).th (kDP cl i x K):=by
 rw[qkI,qc];refine qr _ λy=>?_;show R.th (match YU y.2 i with |none=>_ |some _=>_) K=dGo (YU y.2 i) _
 cases YU y.2 i with
 |none=>rfl
 |some l=>
  show R.th (R.th (iR cl x y.2) _) K=R.th _ _;rw[qc];refine qr _ λz=>?_;show R.th (match YU z.2 i,keyD z.1 with |some p,some k=>_ |_,_=>_) K=qo4 i y.1 z.2 K (YU z.2 i) (keyD z.1)
  cases YU z.2 i with
  |none=>rfl
  |some p=>cases keyD z.1 with
   |none=>rfl
   |some k=>
    show R.th (if p.1.length < sizeLine then _ else _) K=if p.1.length < sizeLine then _ else _
    split<;>rfl
def yDP(x:E)(d:D):kDP cl i x K (d,N)=dGo (YU N i) ((iR cl x N).th (qp8 i d K)):=(rfl)
def yDG(p:List Key×List D)(x:R M):dGo (some p) x=x:=(rfl)
def yDP2(d:D)(v:Rv):qp8 i d K (v,N)=qo4 i d N K (YU N i) (keyD v):=(rfl)
def yDP3(d:D)(p:List Key×List D)(k:Key):qo4 i d N K (some p) (some k)=if p.1.length < sizeLine then K (.next (N.set i (.dic (JT p.1 k) (yy p.1 p.2 k d)))) else .no:=(rfl)
def xS_ite(c:T)(a b:Ss):(iS cl w (.ite c a b) N).th K=(iT cl c N).th (qqP cl w a b K):=by rw[qnx,qc];refine qr _ λt=>?_;rw[zI];rfl
def yIte(a b:Ss)(t:Bool):qqP cl w a b K (t,N)=if t=true then (iSs cl w a N).th K else (iSs cl w b N).th K:=(rfl)
def xS_for(tg:Tg)(src:I)(b:Ss):(iS cl w (.for_ tg src b) N).th K=(iI cl src N).th (qqQ cl w tg b K):=by rw[qny,qc];rfl
def yFor(tg:Tg)(b:Ss)(l:List D):qqQ cl w tg b K (l,N)=(jy cl w tg b l N).th K:=(rfl)
def xS_whl(c:T)(b:Ss):(iS cl w (.whl c b) N).th K=(whD cl w c b w N).th K:=(rfl)
def xSs_nil:(iSs cl w .nil N).th K=K (.next N):=(rfl)
def xSs_cons(s:S)(l:Ss):(iSs cl w (.cons s l) N).th K=(iS cl w s N).th (qkT cl w l K):=by rw[qh6,qc];rfl
def yNext(l:Ss):qkT cl w l K (.next N)=(iSs cl w l N).th K:=(rfl)
def yNextr(l:Ss)(r:Rv):qkT cl w l K (.ret r)=K (.ret r):=(rfl)
def xFo_cons(tg:Tg)(b:Ss)(d:D)(l:List D):(jy cl w tg b (d::l) N).th K=(tg.go d N).th (qqR cl w tg b l K):=by rw[qfR,qc,qc];refine qr _ λN2=>?_;rfl
def yFo1(tg:Tg)(b:Ss)(l:List D):qqR cl w tg b l K N=(iSs cl w b N).th (qo6 cl w tg b l K):=(rfl)
def yFo2(tg:Tg)(b:Ss)(l:List D):qo6 cl w tg b l K (.next N)=(jy cl w tg b l N).th K:=(rfl)
def yFo2r(tg:Tg)(b:Ss)(l:List D)(r:Rv):qo6 cl w tg b l K (.ret r)=K (.ret r):=(rfl)
def xWh(c:T)(b:Ss)(n:Nat):(whD cl w c b (n+1) N).th K=(iT cl c N).th (qqS cl w c b n K):=by rw[qh5,qc];refine qr _ λt=>?_;rw[zI,qc];rfl
def yWh1(c:T)(b:Ss)(n:Nat)(t:Bool):qqS cl w c b n K (t,N)=if t=true then (iSs cl w b N).th (qqb cl w c b n K) else K (.next N):=(rfl)
def yWh2(c:T)(b:Ss)(n:Nat):qqb cl w c b n K (.next N)=(whD cl w c b n N).th K:=(rfl)
end
section
variable(N:Env)(K:List D->R M)(e:E)(tg:Tg)(c:F)(l acc:List D)(d:D)
def xP_cons:(ze cl e tg c (d::l) N acc).th K=(tg.go d N).th (kP1 cl e tg c l acc K):=by
 rw[qep,qc];refine qr _ λN1=>?_;rw[qc];refine qr _ λbt=>?_;rw[zI,qc];show(if bt.1=true then _ else _)=(if bt.1=true then _ else _)
 by_cases h:bt.1=true
 .rw[if_pos h,if_pos h];refine qr _ λx=>?_;rw[zI];rfl
 .rw[if_neg h,if_neg h]
def yP1:kP1 cl e tg c l acc K N=(iF cl c N).th (kP2 cl e tg c l acc K):=(rfl)
def yP2(t:Bool):kP2 cl e tg c l acc K (t,N)=if t=true then (jh e (iR cl e) N).th (kP3 cl e tg c l acc K) else (ze cl e tg c l N acc).th K:=(rfl)
def yP3:kP3 cl e tg c l acc K (d,N)=if acc.length < sizeLine then (ze cl e tg c l N (acc++[d])).th K else .no:=(rfl)
end
end
def vc:E->Bool
 |.var z=>true
 |.con z=>true
 |_=>false
def vc_bin(op:cP)(a b:E):vc (.bin op a b)=false:=(rfl)
def vc_dget(i:Nat)(a:E)(n:Int):vc (.dget i a n)=false:=(rfl)
def vc_neg(a:E):vc (.neg a)=false:=(rfl)
def vc_and(a b:E):vc (.and a b)=false:=(rfl)
def vc_cmp(op:aY)(a b:E):vc (.cmp op a b)=false:=(rfl)
def vc_ite(c:T)(a b:E):vc (.ite c a b)=false:=(rfl)
def vc_idx(a b:E):vc (.idx a b)=false:=(rfl)
def vc_sli(a:E)(lo hi:O):vc (.sli a lo hi)=false:=(rfl)
def vc_lst(l:Es):vc (.lst l)=false:=(rfl)
def vc_tup(l:Es):vc (.tup l)=false:=(rfl)
def vc_call(f:Str)(l:Es):vc (.call f l)=false:=(rfl)
def vc_b1(f:B1)(a:E):vc (.b1 f a)=false:=(rfl)
def vc_b2(f:B2)(a b:E):vc (.b2 f a b)=false:=(rfl)
def vc_fld(a:E)(x:Str):vc (.fld a x)=false:=(rfl)
def vc_met(a:E)(x:Str)(l:Es):vc (.met a x l)=false:=(rfl)
def vc_new(f:Str)(l:Es):vc (.new f l)=false:=(rfl)
def vc_comp(e:E)(src:I)(tg:Tg)(c:F)(n:Nat)(fr:List Nat):vc (.comp e src tg c n fr)=false:=(rfl)
section
variable{M:Type}(r:Env->R (Rv×Env))(N:Env)
def eE_g{e:E}(h:vc e=false)(K:D×Env->R M):(jh e r N).th K=(r N).th (qp7 K):=by rw[show jh e r N=(r N).th qo0 from(by cases e<;>first|rfl|(cases h)),qc];rfl
def eL_g{e:E}(h:vc e=false)(K:(Sk×List D)×Env->R M):(yN e r N).th K=(r N).th (qib K):=by rw[show yN e r N=(r N).th qo1 from(by cases e<;>first|rfl|(cases h)),qc];rfl
def eX_g{e:E}(h:vc e=false)(K:Rv->R M):(qhN e r N).th K=(r N).th (kX K):=by rw[show qhN e r N=(r N).th λx=>match x.1 with |.val d=>R.ok (.val d) |.tmp l=>.ok (.tmp l) |_=>.no from(by cases e<;>first|rfl|(cases h)),qc];rfl
def eA_g{e:E}(h:vc e=false)(K:Sl×Env->R M):(qek e r N).th K=(r N).th (kAx K):=by rw[show qek e r N=(r N).th λx=>match x.1 with |.val d=>R.ok (.val d,x.2) |.tmp l=>.ok (.own l,x.2) |_=>.no from(by cases e<;>first|rfl|(cases h)),qc];rfl
def eE_var(K:D×Env->R M)(i:Nat):(jh (.var i) r N).th K=(slE N i).th K:=(rfl)
def eE_con(K:D×Env->R M)(d:D):(jh (.con d) r N).th K=K (d,N):=(rfl)
def eL_var(K:(Sk×List D)×Env->R M)(i:Nat):(yN (.var i) r N).th K=(slL N i).th K:=(rfl)
def eX_var(K:Rv->R M)(i:Nat):(qhN (.var i) r N).th K=(slX N i).th K:=(rfl)
def eX_con(K:Rv->R M)(d:D):(qhN (.con d) r N).th K=K (.val d):=(rfl)
def eA_var(K:Sl×Env->R M)(i:Nat):(qek (.var i) r N).th K=(slE N i).th (kAv K):=qc (slE N i) _ _
def eA_con(K:Sl×Env->R M)(d:D):(qek (.con d) r N).th K=K (.val d,N):=(rfl)
end
def bAdd(a b:Int):QO .Add (.val (.int a)) (.val (.int b))=.ok (.val (.int (a+b))):=(rfl)
def bAdds(a b:Str):QO .Add (.val (.str a)) (.val (.str b))=if a.length+b.length<=sizeLine then .ok (.val (.str (a++b))) else .no:=(rfl)
def bAddtt(a b:List D):QO .Add (.tmp a) (.tmp b)=if a.length+b.length<=sizeLine then .ok (.tmp (a++b)) else .no:=(rfl)
def bAddct(a b:List D):QO .Add (.cell a) (.tmp b)=if a.length+b.length<=sizeLine then .ok (.tmp (a++b)) else .no:=(rfl)
def bAddcc(a b:List D):QO .Add (.cell a) (.cell b)=if a.length+b.length<=sizeLine then .ok (.tmp (a++b)) else .no:=(rfl)
def bSub(a b:Int):QO .Sub (.val (.int a)) (.val (.int b))=.ok (.val (.int (a - b))):=(rfl)
def bMult(a b:Int):QO .Mult (.val (.int a)) (.val (.int b))=if Qz a b=true then .ok (.val (.int (a * b))) else .no:=(rfl)
def bDiv(a b:Int):QO .FloorDiv (.val (.int a)) (.val (.int b))=if 0 < b/\b < 1073741824 then .ok (.val (.int (a / b))) else if b < 0/\-1073741824 < b then .ok (.val (.int (a.fdiv b))) else .no:=(rfl)
def bMod(a b:Int):QO .Mod (.val (.int a)) (.val (.int b))=if 0 < b then .ok (.val (.int (a % b))) else if b < 0 then .ok (.val (.int (a.fmod b))) else .no:=(rfl)
def bPow(a b:Int):QO .Pow (.val (.int a)) (.val (.int b))=if 0<=b/\b<=1000000/\a.natAbs < 2 ^ 64 then .ok (.val (.int (a ^ b.toNat))) else .no:=(rfl)
def cEq(x y:Rv):Yo .Eq x y=eqD x.data y.data:=(rfl)
def cNe(x y:Rv):Yo .NotEq x y=(eqD x.data y.data).map (!·):=(rfl)
def cLt(a b:Int):Yo .Lt (.val (.int a)) (.val (.int b))=some (decide (a < b)):=(rfl)
def cLe(a b:Int):Yo .LtE (.val (.int a)) (.val (.int b))=some (decide (a<=b)):=(rfl)
def cGt(a b:Int):Yo .Gt (.val (.int a)) (.val (.int b))=some (decide (b < a)):=(rfl)
def cGe(a b:Int):Yo .GtE (.val (.int a)) (.val (.int b))=some (decide (b<=a)):=(rfl)
def cIn(x y:Rv):Yo .In x y=inK x y:=(rfl)
def iK_d(x:Rv)(ks:List Key)(l:List D):inK x (.val (.dct ks l))=(keyD x).map (QP ks):=(rfl)
def iK_c(x:Rv)(l:List D):inK x (.cell l)=qgQ x (.cell l):=(rfl)
def cNi(x y:Rv):Yo .NotIn x y=(qgQ x y).map (!·):=(rfl)
def mIn(a b:Str):qgQ (.val (.str a)) (.val (.str b))=some (qlr a b):=(rfl)
def rgoV(i:Nat)(d:D)(N:Env):Tg.go (.one i) d N=.ok (N.set i (.val d)):=(rfl)
def rgoT(l:List Nat)(ds:List D)(N:Env):Tg.go (.many l) (.tup ds) N=ZM l ds N:=(rfl)
def setIs_nil(N:Env):ZM [] [] N=.ok N:=(rfl)
def setIs_cons(i:Nat)(l:List Nat)(d:D)(ds:List D)(N:Env):ZM (i::l) (d::ds) N=ZM l ds (N.set i (.val d)):=(rfl)
section
variable{α M:Type}(f:α->M)(a b:α)(l m:List α)(n:Nat)
def g_mapc:ef f (a::l)=f a::ef f l:=(rfl)
def g_mapn:ef f []=[]:=(rfl)
def g_lenc:(a::l).length=l.length+1:=(rfl)
def g_lenn:([]:List α).length=0:=(rfl)
def g_rep0:bT 0 a=[]:=(rfl)
def g_reps:bT (n+1) a=a::bT n a:=(rfl)
def g_appc:(a::l)++m=a::(l++m):=(rfl)
def g_appn:[]++m=m:=(rfl)
def g_set0:(a::l).set 0 b=b::l:=(rfl)
def g_sets:(a::l).set (n+1) b=a::l.set n b:=(rfl)
def g_last(l:List α)(x:α):atI (l++[x]) (-1)=some x:=L2.qhd ..
def g_nott:(!true)=false:=(rfl)
def g_notf:(!false)=true:=(rfl)
def g_omap:Option.map f (some a)=some (f a):=(rfl)
def g_fe:(false=true)=False:=bo
def g_and(p:Prop):(p/\p)=p:=and_self p
def g_dt(h:Decidable True):@decide True h=true:=decide_true ..
def g_df(h:Decidable False):@decide False h=false:=decide_false ..
end
def aL(b:Bool)(l:List D):Ar:=match b with
 |true=>.bor l
 |false=>.val (.lst l)
def rA(b:Bool)(l:List D):Rv:=match b with
 |true=>.cell l
 |false=>.val (.lst l)
def pS(b:Bool)(l:List D):Sl:=match b with
 |true=>.bor l
 |false=>.val (.lst l)
section
variable{M:Type}(b:Bool)(l:List D)(N:DE.Env)
def lend_v(d:D):qmG (.val d)=.val d:=(rfl)
def qn5:aL true l=.bor l:=rfl
def qn6:aL false l=.val (.lst l):=rfl
def sA_p:toSl (aL b l)=pS b l:=by cases b<;>rfl
def sA_R:slR (pS b l::N) 0=.ok (rA b l):=by cases b<;>rfl
def sA_L(K:(Sk×List D)×DE.Env->R M):(slL (pS b l::N) 0).th K=K ((.lst,l),pS b l::N):=by cases b<;>rfl
def rA_a:toAr (rA b l)=aL b l:=by cases b<;>rfl
def rA_l:(rA b l).list?=some l:=by cases b<;>rfl
def rA_s:(rA b l).str?=none:=by cases b<;>rfl
def rA_t:(rA b l).tup?=none:=by cases b<;>rfl
def rA_y:Ty.list.go (rA b l)=some true:=by cases b<;>rfl
end
noncomputable abbrev RW(pg:Pg)(f:Str)(c:Nat×Nat×Ss):Prop:=∀(k:Nat) (args:List Ar),clK pg (k+1) f args=runD (pg.kk k) 1000 c args
noncomputable abbrev USs(b c:Ss):Prop:=∀{M:Type} (cl:Cl) (w:Nat) (N:DE.Env) (K:Fl->R M),(iSs cl w b N).th K=(iSs cl w c N).th K
noncomputable abbrev UT(b c:T):Prop:=∀{M:Type} (cl:Cl) (N:DE.Env) (K:Bool×DE.Env->R M),(iT cl b N).th K=(iT cl c N).th K
noncomputable abbrev UE(b c:E):Prop:=∀{M:Type} (cl:Cl) (N:DE.Env) (K:D×DE.Env->R M),(jh b (iR cl b) N).th K=(jh c (iR cl c) N).th K
end DE
namespace DG
open PySem L2 DE
def rk(c:Str):Bool:=c == "Within" || c == "Since" || c == "InRow"
def pcs(x:Xs:={}):Cs where
 toXs:=x
 tab:=["Within","Since","InRow","Book"]
 fld:=λc x=>(rk c&&(x == "lands" || x == "most" || (x == "span" && c == "Within")||(x == "leave" && c != "Within")))||(c == "Book" && (x == "kept_rules" || x == "kept_papers"))
 mt:=λc x=>if rk c&&x == "weight" then some "Rule.weight" else if c == "Book" && x == "rules" then some "Book.rules" else if c == "Book" && x == "lifted" then some "Book.lifted" else if c == "Book" && x == "papers" then some "Book.papers" else none
 sub:=λc t=>if rk c&&t == "Within" then some (c == "Within") else if rk c&&t == "Since" then some (c != "Within") else none
def qbm(s:Str):Bool:=decide (1<=s.length)&&decide (s.length<=8)&&s.cps.toList.all λc=>decide (97<=c)&&decide (c<=122)
def qfU:D->Option (Str×Int)
 |.tup [.str s,.int w]=>if qbm s&&decide (1<=w)&&decide (w<=9) then some (s,w) else none
 |_=>none
def QW:List Str->List D->Bool
 |z,[]=>true
 | acc,d::l=>match qfU d with
  |some p=>!acc.contains p.1&&QW (acc++[p.1]) l
  |none=>false
def qu(l:List D):Bool:=decide (1<=l.length)&&decide (l.length<=6)&&QW [] l
def btw(n a b:Int):Bool:=decide (a<=n)&&decide (n<=b)
def qbn:D->Bool
 |.ins c z y=>rk c
 |_=>false
def jz(many:Int):D->Bool
 |.tup [.int o,.int a,.int b]=>btw o 0 (many - 1)&&btw a 0 1000000000&&btw b 0 1000000000&&decide (a<=b)
 |_=>false
def arL:Ar->Option (List D)
 |.val (.lst l)=>some l
 |.bor l=>some l
 |_=>none
def arI:Ar->Option Int
 |.val (.int n)=>some n
 |_=>none
def qdm:List Ar->Option (List (Str×D))
 |[a,b]=>match arL a,arI b with
  |some l,some m=>if (qu l&&btw m 0 1000000000)=true then some [("lands",.tup l),("most",.int m)] else none
  |z,y=>none
 |_=>none
def jO(x:Str):List Ar->Option (List (Str×D))
 |[a,b,c]=>match arL a,arI b,arI c with
  |some l,some m,some s=>if (qu l&&btw m 0 1000000000&&btw s 1 1000000000)=true then some [("lands",.tup l),("most",.int m),(x,.int s)] else none
  |z,y,w=>none
 |_=>none
def qer:List Ar->Option (List (Str×D))
 |[a,b]=>match arL a,arI b with
  |some l,some m=>if (qu l&&btw m 0 1000000000)=true then some [("lands",.tup l),("most",.int m),("leave",.int 1)] else none
  |z,y=>none
 |_=>none
def QX:List Ar->Option (List (Str×D))
 |[a,b]=>match arL a,arL b with
  |some l,some ps=>if ((decide (l.length<=8)&&l.all qbn)&&(decide (ps.length<=12)&&ps.all (jz l.length)))=true then some [("kept_rules",.lst l),("kept_papers",.lst ps)] else none
  |z,y=>none
 |_=>none
def qdn(c:Str):Option (List (Str×D))->R Rv
 |some fs=>.ok (.val (.ins c (fs.map (·.1)) (fs.map (·.2))))
 |none=>.no
def pnw(k:Nat)(f:Str)(args:List Ar):R Rv:=if k < 12 then .no else
 if f = "Within" then qdn "Within" (jO "span" args) else if f = "Since" then qdn "Since" (jO "leave" args) else if f = "InRow" then qdn "InRow" (qer args) else if f = "Book" then qdn "Book" (QX args) else .no
def QY:Nat×Nat×Ss:=(1,1,%[.ret (.and (.isi Ty.int (.var 0)) (.one (.not (.isi Ty.bool (.var 0)))))|0])
def JC:Nat×Nat×Ss:=(3,3,%[.ret (.and (.call "is_whole" %[0|0]) (.and (.cmp .LtE (.var 1) (.var 0)) (.one (.cmp .LtE (.var 0) (.var 2)))))|0])
def QZ:Nat×Nat×Ss:=(2,2,%[.ret (.and (.call "is_between" %[0,.con (.int 0),.con (.int 1000000000)|0]) (.and (.call "is_between" %[1,.con (.int 0),.con (.int 1000000000)|0]) (.one (.cmp .LtE (.var 0) (.var 1)))))|0])
noncomputable abbrev jP:Ss:=%[.ite (.cmp .NotIn (.var 2) (.var 1)) %[.ret (.con (.bl false))|0] .nil|0]
def zM:Ss:=jP
def JU:USs zM jP:=λz z z z=>(rfl)
def JD:Nat×Nat×Ss:=(2,3,%[.for_ (.one 2) (.seq (.var 0)) zM,.ret (.con (.bl true))|0])
def qbo:Nat×Nat×Ss:=(1,1,%[.ite (.not (.val (.isi Ty.str (.var 0)))) %[.ret (.con (.bl false))|0] .nil,.ret (.and (.cmp .LtE (.con (.int 1)) (.b1 .len (.var 0))) (.and (.cmp .LtE (.b1 .len (.var 0)) (.con (.int 8))) (.one (.call "is_made_of" %[0,.con (.str "abcdefghijklmnopqrstuvwxyz")|0]))))|0])
class CH(pg:Pg):Prop where
 r_is_whole:RW pg "is_whole" QY
 r_is_between:RW pg "is_between" JC
 r_are_days:RW pg "are_days" QZ
 r_is_made_of:RW pg "is_made_of" JD
 r_is_name:RW pg "is_name" qbo
def qbp:Nat×Nat×Ss:=(1,1,%[.ite (.or (.not (.val (.isi Ty.tuple (.var 0)))) (.one (.cmp .NotEq (.b1 .len (.var 0)) (.con (.int 3))))) %[.ret (.con (.bl false))|0] .nil,.ret (.and (.call "is_name" %[.idx (.var 0) (.con (.int 0))|0]) (.one (.call "are_days" %[.idx (.var 0) (.con (.int 1)),.idx (.var 0) (.con (.int 2))|0])))|0])
noncomputable abbrev yR:Ss:=%[.ite (.or (.not (.val (.call "is_stay" %[3|0]))) (.one (.cmp .LtE (.idx (.var 3) (.con (.int 1))) (.var 1)))) %[.stuck|0] .nil,.set 1 (.idx (.var 3) (.con (.int 2)))|0]
def jQ:Ss:=yR
def QD:USs jQ yR:=λz z z z=>(rfl)
def Za:Nat×Nat×Ss:=(1,4,%[.ite (.not (.val (.isi Ty.list (.var 0)))) %[.stuck|0] .nil,.set 1 (.neg (.con (.int 1))),.for_ (.many [2,3]) (.enum (.var 0)) jQ,.ite (.cmp .Gt (.b1 .len (.var 0)) (.con (.int 60))) %[.stuck|0] .nil,.ret (.b1 .list (.var 0))|0])
class ST(pg:Pg):Prop where
 r_is_stay:RW pg "is_stay" qbp
 r_stays_of:RW pg "stays_of" Za
noncomputable abbrev YY:Ss:=%[.ite (.and (.val (.var 1)) (.one (.cmp .LtE (.var 2) (.bin .Add (.idx (.idx (.var 1) (.neg (.con (.int 1)))) (.con (.int 1))) (.con (.int 1)))))) %[.setI 1 (.neg (.con (.int 1))) (.tup %[.idx (.idx (.var 1) (.neg (.con (.int 1)))) (.con (.int 0)),.b2 .max (.idx (.idx (.var 1) (.neg (.con (.int 1)))) (.con (.int 1))) (.var 3)|0])|0] %[.app 1 (.tup %[2,3|0])|0]|0]
def Jr:Ss:=YY
def jR:USs Jr YY:=λz z z z=>(rfl)
def qdo:Nat×Nat×Ss:=(1,4,%[.set 1 (.lst .nil),.for_ (.many [2,3]) (.seq (.b1 .srt (.var 0))) Jr,.ret (.var 1)|0])
class SP(pg:Pg):Prop where
 r_spread:RW pg "spread" qdo
def qbq:Nat×Nat×Ss:=(1,1,%[.ite (.or (.not (.val (.isi Ty.tuple (.var 0)))) (.one (.cmp .NotEq (.b1 .len (.var 0)) (.con (.int 2))))) %[.ret (.con (.bl false))|0] .nil,.ret (.and (.call "is_name" %[.idx (.var 0) (.con (.int 0))|0]) (.one (.call "is_between" %[.idx (.var 0) (.con (.int 1)),.con (.int 1),.con (.int 9)|0])))|0])
noncomputable abbrev yn:Ss:=%[.ite (.or (.not (.val (.call "is_land" %[2|0]))) (.one (.cmp .In (.idx (.var 2) (.con (.int 0))) (.var 1)))) %[.ret (.con (.bl false))|0] .nil,.app 1 (.idx (.var 2) (.con (.int 0)))|0]
def jm:Ss:=yn
def YZ:USs jm yn:=λz z z z=>(rfl)
def Qa:Nat×Nat×Ss:=(1,3,%[.ite (.or (.not (.val (.isi Ty.list (.var 0)))) (.or (.cmp .Lt (.b1 .len (.var 0)) (.con (.int 1))) (.one (.cmp .Gt (.b1 .len (.var 0)) (.con (.int 6)))))) %[.ret (.con (.bl false))|0] .nil,.set 1 (.lst .nil),.for_ (.one 2) (.seq (.var 0)) jm,.ret (.con (.bl true))|0])
abbrev jA:Ss:=%[.ite (.cmp .Eq (.var 2) (.var 1)) %[.ret (.var 3)|0] .nil|0]
def zv:Ss:=jA
def zV:USs zv jA:=λz z z z=>(rfl)
def jn:Nat×Nat×Ss:=(2,4,%[.for_ (.many [2,3]) (.seq (.fld (.var 0) "lands")) zv,.ret (.con (.int 0))|0])
class RU(pg:Pg):Prop where
 cs:pg.cs=pcs pg.xx
 nw:pg.nw=pnw
 r_is_land:RW pg "is_land" qbq
 r_are_lands:RW pg "are_lands" Qa
 r_Rule_weight:RW pg "Rule.weight" jn
noncomputable abbrev yo:Ss:=%[.ite (.and (.not (.val (.isc "Within" (.var 1)))) (.one (.not (.val (.isc "Since" (.var 1)))))) %[.ret (.con (.bl false))|0] .nil|0]
def jo:Ss:=yo
def jS:USs jo yo:=λz z z z=>(rfl)
def Qb:Nat×Nat×Ss:=(1,2,%[.ite (.or (.not (.val (.isi Ty.list (.var 0)))) (.one (.cmp .Gt (.b1 .len (.var 0)) (.con (.int 8))))) %[.ret (.con (.bl false))|0] .nil,.for_ (.one 1) (.seq (.var 0)) jo,.ret (.con (.bl true))|0])
def Zb:Nat×Nat×Ss:=(2,2,%[.ite (.or (.not (.val (.isi Ty.tuple (.var 0)))) (.one (.cmp .NotEq (.b1 .len (.var 0)) (.con (.int 3))))) %[.ret (.con (.bl false))|0] .nil,.ret (.and (.call "is_between" %[.idx (.var 0) (.con (.int 0)),.con (.int 0),.bin .Sub (.var 1) (.con (.int 1))|0]) (.one (.call "are_days" %[.idx (.var 0) (.con (.int 1)),.idx (.var 0) (.con (.int 2))|0])))|0])
noncomputable abbrev zW:Ss:=%[.ite (.not (.val (.call "is_paper" %[3,1|0]))) %[.stuck|0] .nil|0]
def zf:Ss:=zW
def yS:USs zf zW:=λz z z z=>(rfl)
def yq:Nat×Nat×Ss:=(2,4,%[.ite (.not (.val (.isi Ty.list (.var 0)))) %[.stuck|0] .nil,.for_ (.many [2,3]) (.enum (.var 0)) zf,.ite (.cmp .Gt (.b1 .len (.var 0)) (.con (.int 12))) %[.stuck|0] .nil|0])
def JE:Nat×Nat×Ss:=(1,1,%[.ret (.b1 .list (.fld (.var 0) "kept_rules"))|0])
abbrev jB:E:=(.tup %[1,2|0])
def zw:E:=jB
def zX:UE zw jB:=λz z z=>(rfl)
def yT:Nat×Nat×Ss:=(2,2,%[.ret (.call "spread" %[.comp zw (.seq (.fld (.var 0) "kept_papers")) (.many [0,1,2]) (.test (.cmp .Eq (.var 0) (.var 3))) 3 [1]|0])|0])
class BO(pg:Pg):Prop where
 r_are_rules:RW pg "are_rules" Qb
 r_is_paper:RW pg "is_paper" Zb
 r_check_papers:RW pg "check_papers" yq
 r_Book_rules:RW pg "Book.rules" JE
 r_Book_lifted:RW pg "Book.lifted" yT
end DG
namespace FA
open PySem L2 DE DG
def zN:Nat×Nat×Ss:=(2,2,%[.ite (.cmp .Lt (.var 1) (.b1 .len (.var 0))) %[.ret (.idx (.var 0) (.var 1))|0] .nil,.ret (.con (.int 0))|0])
class LC(pg:Pg):Prop where
 r__law_cell_at:RW pg "_law_cell_at" zN
noncomputable abbrev jT:Ss:=%[.set 9 (.bin .Add (.bin .Add (.bin .FloorDiv (.var 0) (.con (.int 64))) (.bin .Mult (.bin .Mult (.con (.int 5)) (.var 8)) (.var 8))) (.bin .Mult (.bin .Mult (.con (.int 3)) (.var 6)) (.b1 .int (.cmp .Eq (.var 8) (.var 4))))),.set 7 (.bin .Add (.var 7) (.idx (.var 2) (.bin .Mod (.var 9) (.con (.int 26)))))|0]
def qX:Ss:=jT
def JV:USs qX jT:=λz z z z=>(rfl)
noncomputable abbrev jU:Ss:=%[.set 7 (.con (.str "")),.for_ (.one 8) (.rng (.var 3)) qX,.app 5 (.var 7)|0]
def zO:Ss:=jU
def JW:USs zO jU:=λz z z z=>(rfl)
def JF:Nat×Nat×Ss:=(2,10,%[.set 2 (.con (.str "abcdefghijklmnopqrstuvwxyz")),.set 3 (.bin .Add (.con (.int 1)) (.bin .Mod (.var 0) (.con (.int 8)))),.set 4 (.bin .Mod (.bin .FloorDiv (.var 0) (.con (.int 8))) (.var 3)),.set 5 (.lst .nil),.for_ (.one 6) (.rng (.var 1)) zO,.ret (.var 5)|0])
class LN(pg:Pg):Prop where
 r__law_lands:RW pg "_law_lands" JF
end FA
namespace DG
open PySem L2 DE
open CH ST SP RU BO
section
variable{pg:Pg}[CH pg]
def qic(k:Nat)(n:Int):clK pg (k+1) "is_whole" [.val (.int n)]=.ok (.val (.bl true)):=by rw[r_is_whole];simp?![QY]
def zY(k:Nat)(n a b:Int)(h1:a<=n)(h2:n<=b):clK pg (k+2) "is_between" [.val (.int n),.val (.int a),.val (.int b)]=.ok (.val (.bl true)):=by rw[r_is_between];simp?![JC,qic,h1,h2,decide_true]
def qfV(k:Nat)(a b:Int)(h0:0<=a)(h1:a<=b)(h2:b<=1000000000):clK pg (k+3) "are_days" [.val (.int a),.val (.int b)]=.ok (.val (.bl true)):=by
 have h3:a<=1000000000:=by lia
 have h4:0<=b:=by lia
 rw[r_are_days];simp?![QZ,zY k a 0 1000000000 h0 h3,zY k b 0 1000000000 h4 h2,h1,decide_true]
def Js(c:Nat):Prop:=97<=c/\c < 123
def qkU(c:Nat)(h:Js c):qlr ⟨#[c]⟩ "abcdefghijklmnopqrstuvwxyz" = true:=by
 have key:∀j:Fin 26,qlr ⟨#[97+j.val]⟩ "abcdefghijklmnopqrstuvwxyz" = true:=(3:)
 have:=key ⟨c - 97,by unfold Js at h;lia⟩
 rw[show 97+(c - 97)=c by unfold Js at h;lia]at this;exact this
theorem qbr(k:Nat)(z:Str):∀(l:List Nat) (s:Sl),(∀c∈l,Js c)->∃s',jy (pg.kk k) 1000 (.one 2) zM (l.map λc=>D.str ⟨#[c]⟩) [.val (.str z),.val (.str "abcdefghijklmnopqrstuvwxyz"),s]=.ok (.next [.val (.str z),.val (.str "abcdefghijklmnopqrstuvwxyz"),s'])
 |[],s,_=>{s,by rw[aH,qW]}
 | c::l,s,h=>by let(s',e):=qbr k z l (.val (.str ⟨#[c]⟩)) λx hx=>h x (by simp[hx]);refine{s',?_};rw[au];simp?[JU,qkU c (h c (5:)),e]
def qcs(k:Nat)(z:Str)(h:∀c∈z.cps.toList,Js c):clK pg (k+1) "is_made_of" [.val (.str z),.val (.str "abcdefghijklmnopqrstuvwxyz")]=.ok (.val (.bl true)):=by rw[r_is_made_of];let(s',e):=qbr (pg:=pg) k z z.cps.toList .no h;simp?![JD,gP,gQ,qhG,e]
structure NameOk(z:Str):Prop where
 one:1<=z.cps.size
 eight:z.cps.size<=8
 lets:∀c∈z.cps.toList,Js c
def qfW(k:Nat)(z:Str)(h:NameOk z):clK pg (k+2) "is_name" [.val (.str z)]=.ok (.val (.bl true)):=by
 have hz:z.length<=sizeLine:=by
  have:=h.eight
  show z.cps.size<=2 ^ 24
  lia
 have h1:(1:Int)<=(z.length:Int):=by
  have:=h.one
  show(1:Int)<=(z.cps.size:Int)
  lia
 have h8:(z.length:Int)<=8:=by
  have:=h.eight
  show(z.cps.size:Int)<=8
  lia
 rw[r_is_name];simp?![qbo,hz,h1,h8,decide_true,qcs k z h.lets]
def stD(s:Str×Int×Int):D:=.tup [.str s.1,.int s.2.1,.int s.2.2]
def jC(s:Str×Int×Int):stD s=.tup [.str s.1,.int s.2.1,.int s.2.2]:=rfl
structure StOk(e:Int)(s:Str×Int×Int):Prop where
 nm:NameOk s.1
 lo:e < s.2.1
 ab:s.2.1<=s.2.2
 hi:s.2.2<=1000000000
end
section
variable{pg:Pg}[CH pg][ST pg]
def qkV(k:Nat)(e:Int)(s:Str×Int×Int)(he:-1<=e)(h:StOk e s):clK pg (k+4) "is_stay" [.val (stD s)]=.ok (.val (.bl true)):=by
 have hlo:=h.lo;have hab:=h.ab;rw[r_is_stay];have e0:atI [D.str s.1,D.int s.2.1,D.int s.2.2] 0=some (.str s.1):=by rfl
 have e1:atI [D.str s.1,D.int s.2.1,D.int s.2.2] 1=some (.int s.2.1):=by rfl
 have e2:atI [D.str s.1,D.int s.2.1,D.int s.2.2] 2=some (.int s.2.2):=by rfl
 simp?![qbp,stD,e0,e1,e2,qw,qfW (k+1) s.1 h.nm,qfV k s.2.1 s.2.2 (1:) h.ab h.hi,show((((0+1+1+1:Nat):Int) == 3)=true) from rfl]
def Ch:Int->List (Str×Int×Int)->Prop
 |z,[]=>True
 | e,s::l=>StOk e s/\Ch s.2.2 l
theorem zZ(k:Nat)(v:Sl):∀(l:List (Str×Int×Int)) (i:Nat) (e:Int) (s2 s3:Sl),-1<=e->Ch e l->∃e' s2' s3',jy (pg.kk (k+4)) 1000 (.many [2,3]) jQ (enF i (l.map stD)) [v,.val (.int e),s2,s3]=.ok (.next [v,.val (.int e'),s2',s3'])
 |[],i,e,s2,s3,_,_=>⟨e,s2,s3,rfl⟩
 | s::l,i,e,s2,s3,he,h=>by
  have h1:=h.1.lo;have h2:=h.1.ab;let(e',s2',s3',ih):=zZ k v l (i+1) s.2.2 (.val (.int i)) (.val (stD s)) (1:) h.2;refine{e',s2',s3',?_};have hn:¬ s.2.1<=e:=by lia
  have st:=qkV (pg:=pg) k e s he h.1;simp![jC]at st ih;refine(qg _).symm.trans ?_;rw[au,enF];simp?![QD,jC,st,hn,ih]
def qid(k:Nat)(b:Bool)(l:List (Str×Int×Int))(h:Ch (-1) l)(hl:l.length<=60):clK pg (k+5) "stays_of" [aL b (l.map stD)]=.ok (.tmp (l.map stD)):=by
 have h6:¬ (60:Int) < ((l.map stD).length:Int):=by rw[aD];lia
 let(e',s2',s3',ih):=zZ (pg:=pg) k (pS b (l.map stD)) l 0 (-1) .no .no (1:) h;rw[r_stays_of];simp?![Za,gP,gQ,Ys,ih,h6,decide_false]
end
def NameOk.of{z:Str}(h:qbm z=true):NameOk z:=by
 unfold qbm at h;simp![aM,decide_eq_true_eq,ee]at h;refine{h.1.1,h.1.2,λc hc=>?_}
 have:=h.2 c hc
 unfold Js
 lia
theorem qn7(d:D):(qfU d).elim True λp=>d=.tup [.str p.1,.int p.2]/\NameOk p.1/\1<=p.2/\p.2<=9:=by
 cases d with
 |tup l=>cases l with
  |nil=>exact aO
  |cons a l=>cases a with
   |str x=>cases l with
    |nil=>exact aO
    |cons b l=>cases b with
     |int y=>cases l with
      |nil=>
       show(if (qbm x&&decide (1<=y)&&decide (y<=9))=true then some (x,y) else none).elim True _
       by_cases hc:(qbm x&&decide (1<=y)&&decide (y<=9))=true
       .rw[if_pos hc];simp![aM,decide_eq_true_eq]at hc;exact{rfl,NameOk.of hc.1.1,hc.1.2,hc.2}
       .rw[if_neg hc];exact aO
      |cons z w=>exact aO
     |_=>exact aO
   |_=>exact aO
 |_=>exact aO
def qie{d:D}{p:Str×Int}(h:qfU d=some p):d=.tup [.str p.1,.int p.2]/\NameOk p.1/\1<=p.2/\p.2<=9:=by have b:=qn7 d;rw[h]at b;exact b
section
variable{pg:Pg}[CH pg][RU pg]
def qkW(k:Nat)(s:Str)(w:Int)(hs:NameOk s)(h1:1<=w)(h9:w<=9):clK pg (k+3) "is_land" [.val (.tup [.str s,.int w])]=.ok (.val (.bl true)):=by
 rw[r_is_land];have e0:atI [D.str s,D.int w] 0=some (.str s):=by rfl
 have e1:atI [D.str s,D.int w] 1=some (.int w):=by rfl
 simp?![qbq,e0,e1,qw,qfW k s hs,zY k w 1 9 h1 h9,show((((0+1+1:Nat):Int) == 2)=true) from rfl]
end
def qif(s:Str)(acc:List Str):inD (.str s) (acc.map D.str)=some (acc.contains s):=by
 have e:∀acc:List Str,inV (V.str s) (acc.map V.str)=acc.contains s:=by
  intro acc
  induction acc with
  |nil=>rfl
  |cons z l ih=>
   rw[au,lT,<-ih];show(eqV (V.str z) (V.str s)||_)=_
   congr 1
   exact BEq.comm
 unfold inD;rw[if_pos (by simp[QA]),show(acc.map D.str).map flV=acc.map V.str by simp[flV]];exact congrArg some (e acc)
def qfX(s:Str)(acc:List Str):qgQ (.val (.str s)) (.cell (acc.map D.str))=some (acc.contains s):=qif s acc
section
variable{pg:Pg}[CH pg][RU pg]
theorem Zc(k:Nat)(v:Sl):∀(l:List D) (acc:List Str) (s2:Sl),QW acc l=true->acc.length+l.length < 1000->∃acc' s2',jy (pg.kk (k+3)) 1000 (.one 2) jm l [v,.own (acc.map D.str),s2]=.ok (.next [v,.own acc',s2'])
 |[],acc,s2,_,_=>{_,s2,rfl}
 | d::l,acc,s2,h,hl=>by
  unfold QW at h
  cases e:qfU d with
  |none=>rw[e]at h;cases h
  |some p=>
   rw[e]at h;simp![aM,dH]at h;let(rfl,hn,h1,h9):=qie e;rw[aK]at hl;let(acc',s2',ih):=Zc k v l (acc++[p.1]) (.val (.tup [.str p.1,.int p.2])) h.2 (by simp;lia);refine{acc',s2',?_};rw[aR,au,aH]at ih;have e0:atI [D.str p.1,D.int p.2] 0=some (.str p.1):=by rfl
   have hs:(acc.map D.str).length < sizeLine:=by
    rw[aD];show acc.length < 2 ^ 24
    lia
   simp?[YZ,e0,qkW k p.1 p.2 hn h1 h9,qfX,h.1,hs,ih]
def qct(k:Nat)(b:Bool)(l:List D)(h:qu l=true):clK pg (k+4) "are_lands" [aL b l]=.ok (.val (.bl true)):=by
 unfold qu at h;simp![aM,decide_eq_true_eq]at h;have h1:¬ (l.length:Int) < 1:=by have:=h.1.1;lia
 have h2:¬ (6:Int) < (l.length:Int):=by have:=h.1.2;lia
 rw[r_are_lands];let(acc',s2',ih):=Zc (pg:=pg) k (pS b l) l [] .no h.2 (by have:=h.1.2;simp;lia);rw[aH]at ih;simp?![Qa,h1,h2,show(0:Nat)<=sizeLine by decide+kernel,ih]
end
section
variable{pg:Pg}[CH pg]
def qn8(k:Nat)(n a b:Int)(h:btw n a b=true):clK pg (k+2) "is_between" [.val (.int n),.val (.int a),.val (.int b)]=.ok (.val (.bl true)):=by unfold btw at h;simp![aM,decide_eq_true_eq]at h;exact zY k n a b h.1 h.2
end
theorem Zd(cl:Cl){xx:Xs}(hc:cl.cs=pcs xx)(v:Sl):∀(l:List D) (s1:Sl),l.all qbn=true->∃s1',jy cl 1000 (.one 1) jo l [v,s1]=.ok (.next [v,s1'])
 |[],s1,_=>⟨s1,rfl⟩
 | d::l,s1,h=>by
  rw[fN,aM]at h
  cases d with
  |ins c ns ds=>
   let(s1',ih):=Zd cl hc v l (.val (.ins c ns ds)) h.2;refine{s1',?_};have hk:rk c=true:=h.1
   have i1:qhH (pcs xx) (.val (.ins c ns ds)) "Within" = some (c == "Within"):=by show(if (rk c&&_)=true then _ else _)=_;rw[hk];rfl
   have i2:qhH (pcs xx) (.val (.ins c ns ds)) "Since" = some (c != "Within"):=by show(if (rk c&&false)=true then _ else if (rk c&&true)=true then _ else _)=_;rw[hk];rfl
   refine(qg _).symm.trans ?_
   by_cases hw:(c == "Within")=true
   .simp?![jS,hc,i1,hw,ih]
   .have hw:(c == "Within")=false:=(-hw:)
    have hn:(c != "Within")=true:=by simp[bne,hw]
    simp?![jS,hc,i1,i2,hw,hn,ih]
  |_=>cases h.1
section
variable{pg:Pg}[CH pg][RU pg][BO pg]
def qcu(k:Nat)(b:Bool)(l:List D)(h:(decide (l.length<=8)&&l.all qbn)=true):clK pg (k+1) "are_rules" [aL b l]=.ok (.val (.bl true)):=by
 simp![aM,decide_eq_true_eq]at h;have h2:¬ (8:Int) < (l.length:Int):=by have:=h.1;lia
 rw[r_are_rules];let(s1',ih):=Zd (pg.kk k) RU.cs (pS b l) l .no h.2;simp?![Qb,h2,ih]
end
theorem qkX(n:Int)(d:D):cond (jz n d) (∃o a b,d=.tup [.int o,.int a,.int b]/\0<=o/\o<=n - 1/\0<=a/\a<=b/\b<=1000000000) True:=by
 cases d with
 |tup l=>cases l with
  |nil=>exact aO
  |cons a l=>cases a with
   |int o=>cases l with
    |nil=>exact aO
    |cons b l=>cases b with
     |int a=>cases l with
      |nil=>exact aO
      |cons c l=>cases c with
       |int b=>cases l with
        |nil=>
         cases h:jz n (.tup [.int o,.int a,.int b]) with
         |false=>exact aO
         |true=>simp![jz,btw,aM,decide_eq_true_eq]at h;exact⟨o,a,b,rfl,h.1.1.1.1,h.1.1.1.2,h.1.1.2.1,h.2,h.1.2.2⟩
        |cons z y=>exact aO
       |_=>exact aO
     |_=>exact aO
   |_=>exact aO
 |_=>exact aO
def qfY{n:Int}{d:D}(h:jz n d=true):∃o a b,d=.tup [.int o,.int a,.int b]/\0<=o/\o<=n - 1/\0<=a/\a<=b/\b<=1000000000:=by have b:=qkX n d;rw[h]at b;exact b
section
variable{pg:Pg}[CH pg][BO pg]
def qaa(k:Nat)(n:Int)(d:D)(h:jz n d=true):clK pg (k+4) "is_paper" [.val d,.val (.int n)]=.ok (.val (.bl true)):=by
 let(o,a,b,rfl,h1,h2,h3,h4,h5):=qfY h;have e0:atI [D.int o,D.int a,D.int b] 0=some (.int o):=by rfl
 have e1:atI [D.int o,D.int a,D.int b] 1=some (.int a):=by rfl
 have e2:atI [D.int o,D.int a,D.int b] 2=some (.int b):=by rfl
 rw[r_is_paper];simp?![Zb,e0,e1,e2,qw,zY (k+1) o 0 (n - 1) h1 h2,qfV k a b h3 h4 h5,show((((0+1+1+1:Nat):Int) == 3)=true) from rfl]
theorem Qc(k:Nat)(v:Sl)(n:Int):∀(l:List D) (i:Nat) (s2 s3:Sl),l.all (jz n)=true->∃s2' s3',jy (pg.kk (k+4)) 1000 (.many [2,3]) zf (enF i l) [v,.val (.int n),s2,s3]=.ok (.next [v,.val (.int n),s2',s3'])
 |[],i,s2,s3,_=>⟨s2,s3,rfl⟩
 | d::l,i,s2,s3,h=>by rw[fN,aM]at h;let(s2',s3',ih):=Qc k v n l (i+1) (.val (.int i)) (.val d) h.2;refine{s2',s3',?_};refine(qg _).symm.trans ?_;rw[enF];simp?![yS,qaa k n d h.1,ih]
def QE(k:Nat)(b:Bool)(ps:List D)(n:Int)(h:(decide (ps.length<=12)&&ps.all (jz n))=true):clK pg (k+5) "check_papers" [aL b ps,.val (.int n)]=.ok (.val .non):=by
 simp![aM,decide_eq_true_eq]at h;have h2:¬ (12:Int) < (ps.length:Int):=by have:=h.1;lia
 rw[r_check_papers];let(s2',s3',ih):=Qc (pg:=pg) k (pS b ps) n ps 0 .no .no h.2;simp?![yq,Ys,ih,h2]
end
end DG
namespace FA
open PySem L2 DE DG
open LC LN
def yU{i j:Int}(h1:-(2 ^ 64) < j)(h2:j < 2 ^ 64):Qz i j=true:=by unfold Qz;rw[decide_eq_true h1,decide_eq_true h2];simp
def qdp{i j:Int}(h1:-(2 ^ 64) < i)(h2:i < 2 ^ 64):Qz i j=true:=by unfold Qz;rw[decide_eq_true h1,decide_eq_true h2];simp
def jV(ns:List Int)(i:Nat):Int:=ns.getD i 0
section
variable{pg:Pg}[LC pg]
def qcv(k:Nat)(ns:List Int)(i:Nat):clK pg (k+1) "_law_cell_at" [.scr (ns.map D.int),.val (.int (i:Int))]=.ok (.val (.int (jV ns i))):=by
 rw[r__law_cell_at]
 by_cases h:i < ns.length
 .have h1:(i:Int) < ((ns.map D.int).length:Int):=by rw[aD];lia
  have h2:atI (ns.map D.int) (i:Int)=some (.int (jV ns i)):=qia (by simp[h,jV]);simp?![zN,gP,gQ,h1,h2,decide_true]
 .have h1:¬ (i:Int) < ((ns.map D.int).length:Int):=by rw[aD];lia
  have h2:jV ns i=0:=by simp[jV,h]
  simp?![zN,gP,gQ,h1,h2,decide_false]
end
def qn9(i:Int)(h0:0<=i)(h1:i < 26):atI (Str.cps "abcdefghijklmnopqrstuvwxyz").toList i=some (97+i.toNat)/\Js (97+i.toNat):=by
 have key:∀j:Fin 26,atI (Str.cps "abcdefghijklmnopqrstuvwxyz").toList (j.val:Int)=some (97+j.val):=(3:)
 let(j,rfl):=nF h0;exact{key {j,by lia},by unfold Js;simp;lia}
def qig(z:Str)(c:Nat):(z++(⟨#[c]⟩:Str)).cps.toList=z.cps.toList++[c]:=by show(z.cps ++ #[c]).toList=_;simp
def ltr(cell at' k:Int)(j:Nat):Nat:=97+((cell / 64+5 * (j:Int) * (j:Int)+3 * k * (if ((j:Int) == at')=true then 1 else 0)) % 26).toNat
def qkY(cell at' k:Int)(j:Nat):Js (ltr cell at' k j):=by
 unfold Js ltr
 lia
def Nm(cell at' k:Int)(j:Nat)(z:Str):Prop:=z.cps.toList=(cZ j).map (ltr cell at' k)
def Nm.ok{cell at' k:Int}{m:Nat}{z:Str}(h:Nm cell at' k m z)(h1:1<=m)(h8:m<=8):NameOk z:=by
 have e:z.cps.size=m:=by rw[<-bF,h];simp
 refine{by lia,by lia,λc hc=>?_};rw[h]at hc;let(j,_,rfl):=df.mp hc;exact qkY ..
def Nm.ne{cell at' k k':Int}{m:Nat}{z z':Str}(h:Nm cell at' k m z)(h':Nm cell at' k' m z')(h0:0<=at')(h1:at' < m)(hk:0<=k/\k < 4)(hk':0<=k'/\k' < 4)(ne:k≠k'):z≠z':=by
 rintro rfl;have e:(cZ m).map (ltr cell at' k)=(cZ m).map (ltr cell at' k'):=h.symm.trans h';have e2:=congrArg (λl=>l[at'.toNat]?) e;simp![bu]at e2;rw[List.getElem?_range (1:)]at e2;simp![Option.map_some,Option.some.injEq]at e2;unfold ltr at e2;have ea:((at'.toNat:Nat):Int)=at':=by lia
 rw[ea,beq_self_eq_true,if_pos rfl]at e2
 lia
def qes(cl:Cl)(v1 v3 v5 s9:Sl)(cell at' k:Int)(j:Nat)(z:Str)(hj:j < 8)(hz:z.cps.size < 8) :
  ∃s9',iSs cl 1000 qX [.val (.int cell),v1,.val (.str "abcdefghijklmnopqrstuvwxyz"),v3,.val (.int at'),v5,.val (.int k),.val (.str z),.val (.int j),s9]=.ok (.next [.val (.int cell),v1,.val (.str "abcdefghijklmnopqrstuvwxyz"),v3,.val (.int at'),v5,.val (.int k),.val (.str (z++(⟨#[ltr cell at' k j]⟩:Str))),.val (.int j),s9']):=by
 have m1:Qz 5 (j:Int)=true:=qdp (2:) (2:);have m2:Qz (5 * (j:Int)) (j:Int)=true:=yU (1:) (1:);have m3:Qz 3 k=true:=qdp (2:) (2:);have m4:Qz (3 * k) (if ((j:Int) == at')=true then 1 else 0)=true:=yU (by split<;>decide) (by split<;>decide);have h1:=(qn9 ((cell / 64+5 * j * j+3 * k * (if ((j:Int) == at')=true then 1 else 0)) % 26) (bZ _ (2:)) (cD _ (2:))).1
 have hl:z.length+(⟨#[ltr cell at' k j]⟩:Str).length<=sizeLine:=by
  show z.cps.size+1<=2 ^ 24
  lia
 have h26:("abcdefghijklmnopqrstuvwxyz" : Str).length<=sizeLine:=(3:)
 refine{.val (.int (cell / 64+5 * j * j+3 * k * (if ((j:Int) == at')=true then 1 else 0))),?_};unfold ltr at hl ⊢;simp?[JV,m1,m2,m3,m4,qw,h1,hl,h26]
theorem qih(cl:Cl)(v1 v3 v5:Sl)(cell at' k:Int)(n:Nat):∀(j:Nat) (z:Str) (s8 s9:Sl),j+n<=8->Nm cell at' k j z->
  ∃z' s8' s9',jy cl 1000 (.one 8) qX (rgF (j:Int) n) [.val (.int cell),v1,.val (.str "abcdefghijklmnopqrstuvwxyz"),v3,.val (.int at'),v5,.val (.int k),.val (.str z),s8,s9]=.ok (.next [.val (.int cell),v1,.val (.str "abcdefghijklmnopqrstuvwxyz"),v3,.val (.int at'),v5,.val (.int k),.val (.str z'),s8',s9'])/\Nm cell at' k (j+n) z':=by
 induction n with
 |zero=>exactλj z s8 s9 _ hz=>⟨z,s8,s9,rfl,hz⟩
 |succ n ih=>
  intro j z s8 s9 hn hz;have sz:z.cps.size=j:=by rw[<-bF,hz];simp
  let(t9,st):=qes cl v1 v3 v5 s9 cell at' k j z (1:) (1:)
  let(z',s8',s9',ih,e1):=ih (j+1) (z++(⟨#[ltr cell at' k j]⟩:Str)) (.val (.int j)) t9 (1:) (by
   unfold Nm at hz ⊢;rw[qig,hz,List.range_succ,aR]
   rfl)
  refine{z',s8',s9',?_,by rw[show j+(n+1)=j+1+n by lia];exact e1};rw[show((j+1:Nat):Int)=(j:Int)+1 from by lia]at ih;refine(qg _).symm.trans ?_;rw[rgF];simp![xFo_cons,rgoV,List.set_cons_succ,List.set_cons_zero,th_ok,yFo1,st,yFo2,ih]
def Nms(cell at':Int)(m:Nat)(zs:List Str):Prop:=∀(i:Nat) (z:Str),zs[i]?=some z->Nm cell at' (i:Int) m z
theorem qbs(cl:Cl)(v1:Sl)(cell at':Int)(m:Nat)(hm:1<=m/\m<=8):∀(n:Nat) (zs:List Str) (s6 s7 s8 s9:Sl),zs.length+n < 1000->Nms cell at' m zs->
  ∃(zs':List Str) (s6' s7' s8' s9':Sl),jy cl 1000 (.one 6) zO (rgF (zs.length:Int) n) [.val (.int cell),v1,.val (.str "abcdefghijklmnopqrstuvwxyz"),.val (.int (m:Int)),.val (.int at'),.own (zs.map D.str),s6,s7,s8,s9]=.ok (.next [.val (.int cell),v1,.val (.str "abcdefghijklmnopqrstuvwxyz"),.val (.int (m:Int)),.val (.int at'),.own (zs'.map D.str),s6',s7',s8',s9'])/\zs'.length=zs.length+n/\Nms cell at' m zs'
 |0,zs,s6,s7,s8,s9,_,hz=>⟨zs,s6,s7,s8,s9,rfl,rfl,hz⟩
 | n+1,zs,s6,s7,s8,s9,hl,hz=>by
  let(z,s8',s9',e,h1):=qih cl v1 (.val (.int (m:Int))) (.own (zs.map D.str)) cell at' (zs.length:Int) m 0 "" s8 s9 (1:) rfl;rw[fV]at h1
  let(zs',t6,t7,t8,t9,ih,h3,h4):=qbs cl v1 cell at' m hm n (zs++[z]) (.val (.int (zs.length:Int))) (.val (.str z)) s8' s9' (by simp;lia) (λi x hx=>by
   by_cases q:i < zs.length
   .rw[dF q]at hx;exact hz i x hx
   .rw[c5 (1:)]at hx
    have:i - zs.length=0:=by
     have:=(bE.mp hx).1
     simp at this
     lia
    rw[this]at hx;simp at hx;subst hx
    have:i=zs.length:=by lia
    subst this;exact h1)
  refine{zs',t6,t7,t8,t9,?_,by rw[h3];simp;lia,h4}
  have hs:qP (m:Int)=true:=by
   unfold qP;simp
   lia
  have hz':(zs.map D.str).length < sizeLine:=by
   rw[aD];show _ < 2 ^ 24
   lia
  rw[aT,eK,show((zs.length+1:Nat):Int)=(zs.length:Int)+1 from by lia]at ih;refine(qg _).symm.trans ?_;rw[rgF];rw[show((0:Nat):Int)=0 from rfl]at e;simp![aR,au,aH]at ih;simp?![JW,hs,yQ,iQ,eJ,e,hz',ih]
structure NamesOk(zs:List Str):Prop where
 two:2<=zs.length
 four:zs.length<=4
 ok:∀z∈zs,NameOk z
 once:∀(i j:Nat) (z:Str),zs[i]?=some z->zs[j]?=some z->i=j
section
variable{pg:Pg}[LN pg]
def qab(k:Nat)(cell:Int)(n:Nat)(hn:2<=n/\n<=4):∃zs:List Str,clK pg (k+1) "_law_lands" [.val (.int cell),.val (.int (n:Int))]=.ok (.tmp (zs.map D.str))/\zs.length=n/\NamesOk zs:=by
 have hm:∃m:Nat,(1+cell % 8:Int)=(m:Int)/\1<=m/\m<=8:={(1+cell % 8).toNat,by lia,by lia,by lia};let(m,e,h1,h2):=hm;have a0:0<=cell / 8 % (m:Int):=bZ _ (1:);have a1:cell / 8 % (m:Int) < m:=cD _ (1:);let(zs,s6,s7,s8,s9,h,h3,h4):=qbs (pg.kk k) (.val (.int (n:Int))) cell (cell / 8 % (m:Int)) m ⟨h1,h2⟩ n [] .no .no .no .no (by simp;lia) (λi z hz=>by simp at hz);simp at h3;refine{zs,?_,h3,{by lia,by lia,λz hz=>?_,λi j z hi hj=>?_}}
 .rw[aH]at h;have hp:(0:Int) < (m:Int):=by lia
  have hs:qP (n:Int)=true:=by
   unfold qP;simp
   lia
  rw[show((([]:List Str).length:Nat):Int)=0 from rfl]at h;rw[r__law_lands];simp?![JF,gP,gQ,e,hp,show(0:Nat)<=sizeLine by decide+kernel,hs,yQ,iQ,eJ,h]
 .let(i,hi):=iX hz;exact(h4 i z hi).ok h1 h2
 .by_cases q:i=j
  .exact q
  .have li:=(bE.mp hi).1;have lj:=(bE.mp hj).1;exact absurd rfl (Nm.ne (h4 i z hi) (h4 j z hj) a0 a1 ⟨by lia,by lia⟩ ⟨by lia,by lia⟩ (1:))
end
def lnD(p:Str×Int):D:=.tup [.str p.1,.int p.2]
def qdq(p:Str×Int):lnD p=.tup [.str p.1,.int p.2]:=rfl
def qii{z:Str}(h:NameOk z):qbm z=true:=by
 unfold qbm;simp![aM,decide_eq_true_eq,ee];refine{⟨h.one,h.eight⟩,λc hc=>?_}
 have:=h.lets c hc
 unfold Js at this
 lia
structure LnOk(p:Str×Int):Prop where
 nm:NameOk p.1
 one:1<=p.2
 nine:p.2<=9
def qij{p:Str×Int}(h:LnOk p):qfU (lnD p)=some p:=by show(if (qbm p.1&&decide (1<=p.2)&&decide (p.2<=9))=true then some (p.1,p.2) else none)=_;rw[if_pos (by rw[qii h.nm,decide_eq_true h.one,decide_eq_true h.nine];rfl)]
theorem qbt:∀(l:List (Str×Int)) (acc:List Str),(∀p∈l,LnOk p)->(acc++l.map (·.1)).Nodup->QW acc (l.map lnD)=true
 |[],acc,z,y=>rfl
 | p::l,acc,h,nd=>by
  rw[au];unfold QW;rw[qij (h p (5:))];have e:acc++(p::l).map (·.1)=(acc++[p.1])++l.map (·.1):=by simp
  rw[e]at nd
  have n1:p.1∉acc:=by
   have:=(lP.mp nd).1
   have:=(lP.mp this).2.2
   intro hm;exact this p.1 hm p.1 (5:) rfl
  simp![aM,dH];exact{by simpa using n1,qbt l (acc++[p.1]) (λq hq=>h q (by simp[hq])) nd}
def qet{l:List (Str×Int)}(h:∀p∈l,LnOk p)(nd:(l.map (·.1)).Nodup)(h1:1<=l.length)(h6:l.length<=6):qu (l.map lnD)=true:=by unfold qu;rw[aD,decide_eq_true h1,decide_eq_true h6,qbt l [] h (-nd:)];rfl
def qdr{zs:List Str}(i:Int)(h0:0<=i)(h1:i < zs.length):∃z,atI (zs.map D.str) i=some (.str z)/\zs[i.toNat]?=some z:=by
 let(j,rfl):=nF h0;have hj:j < zs.length:=by lia
 exact{zs[j],qia (by rw[bu,bN hj];rfl),by simp[hj]}
def qfZ(zs:List Str):((zs.map D.str).length:Int)=(zs.length:Int):=by rw[aD]
def Lns(zs:List Str)(a:Int)(l:List (Str×Int)):Prop:=∀(i:Nat) (p:Str×Int),l[i]?=some p->zs[((a+(i:Int)) % (zs.length:Int)).toNat]?=some p.1/\LnOk p
inductive Kd where
 | wi|si|ro
def Kd.nm:Kd->Str
 |.wi=>"within"
 |.si=>"since"
 |.ro=>"row"
structure Ru where
 kd:Kd
 lands:List (Str×Int)
 most:Int
 days:Int
def Lns.nodup{zs:List Str}(hz:NamesOk zs){a:Int}{l:List (Str×Int)}(h:Lns zs a l)(hl:l.length<=zs.length):(l.map (·.1)).Nodup:=by
 rw[List.nodup_iff_pairwise_ne,eL];intro i j hi hj hij e;rw[aD]at hi hj;rw[List.getElem_map,List.getElem_map]at e;have h1:=(h i _ (bN hi)).1;have h2:=(h j _ (bN hj)).1;rw[e]at h1
 have:=hz.once _ _ _ h1 h2
 have hL:(0:Int) < (zs.length:Int):=by have:=hz.two;lia
 have a0:0<=(a+(i:Int)) % (zs.length:Int):=bZ _ (1:);have b0:0<=(a+(j:Int)) % (zs.length:Int):=bZ _ (1:);have e3:(a+(i:Int)) % (zs.length:Int)=(a+(j:Int)) % (zs.length:Int):=by lia
 have e4:=Int.emod_emod_of_dvd (a+j - (a+i)) (Int.dvd_refl (zs.length:Int));have e5:(a+(j:Int) - (a+(i:Int))) % (zs.length:Int)=0:=by rw[Int.sub_emod,e3,Int.sub_self,Int.zero_emod]
 rw[show a+(j:Int) - (a+(i:Int))=((j - i:Nat):Int) by lia]at e5;rw[Int.emod_eq_of_lt (1:) (1:)]at e5
 lia
end FA
namespace Dy
abbrev P:=Int×Int
def Day(fs:List P)(d:Int):Prop:=∃p∈fs,p.1<=d/\d<=p.2
structure Spr(fs:List P):Prop where
 ok:∀p∈fs,p.1<=p.2
 gap:fs.Pairwise λp q=>p.2+2<=q.1
def lex(p q:P):Prop:=p.1 < q.1\/(p.1=q.1/\p.2<=q.2)
def stp(acc:List P)(p:P):List P:=match acc.getLast? with
 |some l=>if p.1<=l.2+1 then acc.dropLast++[(l.1,if p.2 > l.2 then p.2 else l.2)] else acc++[p]
 |none=>[p]
def Qd(p:P):stp [] p=[p]:=rfl
def yV(a:List P)(l p:P):stp (a++[l]) p=if p.1<=l.2+1 then a++[(l.1,if p.2 > l.2 then p.2 else l.2)] else (a++[l])++[p]:=by unfold stp;rw[List.getLast?_append];simp
theorem Jt{α:Type}(l:List α):l=[]\/∃a x,l=a++[x]:=by
 cases l with
 |nil=>exact .inl rfl
 |cons a r=>exact .inr ⟨(a::r).dropLast,(a::r).getLast (5:),(List.dropLast_concat_getLast (5:)).symm⟩
def jW{a b:List P}{d:Int}:Day (a++b) d↔Day a d\/Day b d:=by
 unfold Day;constructor
 .rintro⟨p,hp,h⟩;rcases aV.mp hp with q|q
  .exact .inl ⟨p,q,h⟩
  .exact .inr ⟨p,q,h⟩
 .rintro (⟨p,hp,h⟩|⟨p,hp,h⟩)
  .exact{p,bI _ hp,h}
  .exact{p,bb _ hp,h}
def qac{p:P}{d:Int}:Day [p] d↔p.1<=d/\d<=p.2:=by
 unfold Day;constructor
 .rintro⟨q,hq,h⟩;rw[aU.mp hq]at h;exact h
 .intro h;exact{p,aU.mpr rfl,h}
def qik{a b:List P}(h:a.Perm b)(d:Int):Day a d↔Day b d:=by
 unfold Day;constructor
 .rintro⟨p,hp,q⟩;exact{p,h.mem_iff.mp hp,q}
 .rintro⟨p,hp,q⟩;exact{p,h.mem_iff.mpr hp,q}
structure Run(done acc:List P):Prop where
 spr:Spr acc
 day:∀d,Day acc d↔Day done d
 low:∀a l,acc=a++[l]->∃q∈done,q.1=l.1
 len:acc.length<=done.length
 emp:acc=[]->done=[]
def qkZ:Run [] []:={{(λz h=>nomatch h),List.Pairwise.nil},λz=>Iff.rfl,λa l e=>by simp at e,ay _,λz=>rfl}
def qil{done acc:List P}{p:P}(R:Run done acc)(hp:p.1<=p.2)(hs:∀q∈done,q.1<=p.1):Run (done++[p]) (stp acc p):=by
 rcases Jt acc with rfl|⟨a,l,rfl⟩
 .have hd:=R.emp rfl;subst hd;rw[Qd];refine{{λq hq=>by rw[aU.mp hq];exact hp,by simp},λd=>by simp,λa l e=>?_,by simp,λe=>by simp at e};refine{p,by simp,?_}
  have:a=[]/\p=l:=by
   cases a with
   |nil=>simpa using e
   |cons x r=>simp at e
  rw[this.2]
 .rw[yV];let(q0,hq0,e0):=R.low a l rfl;have hl:l.1<=p.1:=by rw[<-e0];exact hs q0 hq0
  have hlo:=R.spr.ok l (5:);have hg:=bU.mp R.spr.gap
  by_cases hc:p.1<=l.2+1
  .rw[if_pos hc];refine{{λq hq=>?_,?_},λd=>?_,λa' l' e=>?_,?_,λe=>by simp at e}
   .rcases aV.mp hq with h|h
    .exact R.spr.ok q (bI _ h)
    .rw[aU.mp h];dsimp only
     split<;>lia
   .refine bU.mpr ⟨hg.1,by simp,λx hx y hy=>?_⟩;rw[aU.mp hy];exact hg.2.2 x hx l (5:)
   .rw[jW,qac,jW,qac,<-R.day d,jW,qac];dsimp only;constructor
    .rintro (h|h)
     .exact .inl (.inl h)
     .by_cases h2:d<=l.2
      .exact .inl (.inr ⟨h.1,h2⟩)
      .right
       have:=h.2
       split at this<;>lia
    .rintro ((h|h)|h)
     .exact .inl h
     .right;refine{h.1,?_}
      split<;>lia
     .right;refine{by lia,?_}
      split<;>lia
   .have:l'.1=l.1:=by
     have:=(List.append_inj' e rfl).2
     simp at this;rw[<-this]
    exact{q0,bI _ hq0,by rw[this];exact e0}
   .have:=R.len
    simp at this ⊢
    lia
  .rw[if_neg hc];refine{{λq hq=>?_,?_},λd=>?_,λa' l' e=>?_,?_,λe=>by simp at e}
   .rcases aV.mp hq with h|h
    .exact R.spr.ok q h
    .rw[aU.mp h];exact hp
   .refine bU.mpr ⟨R.spr.gap,by simp,λx hx y hy=>?_⟩;rw[aU.mp hy];rcases aV.mp hx with h|h
    .have:=hg.2.2 x h l (5:)
     lia
    .rw[aU.mp h];lia
   .rw[jW (a:=a++[l]),jW (a:=done),R.day d]
   .have:=(List.append_inj' e rfl).2
    simp at this;exact{p,by simp,by rw[this]}
   .have:=R.len
    simp at this ⊢
    lia
theorem qf0{qs:List P}(hs:qs.Pairwise lex)(hq:∀p∈qs,p.1<=p.2):∀n,n<=qs.length->Run (qs.take n) ((qs.take n).foldl stp []):=by
 intro n
 induction n with
 |zero=>intro _;simpa using qkZ
 |succ n ih=>
  intro hn;have e:qs.take (n+1)=qs.take n++[qs[n]]:=by rw[List.take_succ_eq_append_getElem (1:)]
  rw[e,List.foldl_append];refine qil (ih (1:)) (hq _ (iL _)) λq hq'=>?_;let(i,hi,rfl):=m8.mp hq'
  have:=eL.mp hs i n (1:) (1:) (1:)
  rcases this with h|h
  .lia
  .lia
def Spr.ends{fs:List P}(S:Spr fs){p:P}(hp:p∈fs):¬ Day fs (p.2+1)/\¬ Day fs (p.1 - 1):=by
 have key:∀q∈fs,q=p\/q.2+2<=p.1\/p.2+2<=q.1:=by
  intro q hq;let(i,hi,rfl):=fT.mp hq;let(j,hj,rfl):=fT.mp hp;have g:=eL.mp S.gap;rcases Nat.lt_trichotomy i j with h|h|h
  .exact .inr (.inl (g i j hi hj h))
  .subst h;exact .inl rfl
  .exact .inr (.inr (g j i hj hi h))
 have hpp:=S.ok p hp;constructor
 .rintro⟨q,hq,h1,h2⟩;rcases key q hq with rfl|h|h<;>lia
 .rintro⟨q,hq,h1,h2⟩;rcases key q hq with rfl|h|h<;>lia
def Spr.same{fs gs:List P}(S:Spr fs)(T:Spr gs)(h:∀d,Day fs d↔Day gs d):fs=gs:=by
 have sub:∀{fs gs:List P},Spr fs->Spr gs->(∀d,Day fs d↔Day gs d)->∀p∈fs,p∈gs:=by
  intro fs gs S T h p hp;have hpp:=S.ok p hp;let(q,hq,h1,h2):=(h p.1).mp ⟨p,hp,bG _,hpp⟩;let(e1,e2):=T.ends hq;let(f1,f2):=S.ends hp
  have a1:q.1=p.1:=by
   by_cases hlt:q.1=p.1
   .exact hlt
   .exact absurd ((h (p.1 - 1)).mpr ⟨q,hq,by lia,by lia⟩) f2
  have a2:q.2=p.2:=by
   rcases Int.lt_trichotomy q.2 p.2 with hlt|hlt|hlt
   .exact absurd ((h (q.2+1)).mp ⟨p,hp,by lia,by lia⟩) e1
   .exact hlt
   .exact absurd ((h (p.2+1)).mpr ⟨q,hq,by lia,by lia⟩) f1
  have:q=p:=Prod.ext a1 a2
  rw[<-this];exact hq
 have strict:∀{fs:List P},Spr fs->fs.Pairwise (λp q=>p.1 < q.1):=λ{fs} S=>by
  refine il (λ{p q} hp hq hg=>?_) S.gap
  have:=S.ok p hp
  lia
 have uniq:∀(fs gs:List P),fs.Pairwise (λp q=>p.1 < q.1)->gs.Pairwise (λp q=>p.1 < q.1)->(∀p,p∈fs↔p∈gs)->fs=gs:=by
  intro fs
  induction fs with
  |nil=>
   intro gs _ _ h
   cases gs with
   |nil=>rfl
   |cons g gs=>exact absurd ((h g).mpr (5:)) (5:)
  |cons p fs ih=>
   intro gs h1 h2 h
   cases gs with
   |nil=>exact absurd ((h p).mp (5:)) (5:)
   |cons q gs=>
    have p1:=bg.mp h1;have p2:=bg.mp h2
    have e:p=q:=by
     rcases aF.mp ((h p).mp (5:)) with e|e
     .exact e
     .rcases aF.mp ((h q).mpr (5:)) with e'|e'
      .exact e'.symm
      .have:=p1.1 q e'
       have:=p2.1 p e
       lia
    subst e;have hne:∀x,x∈fs->x≠p:=λx hx e=>by subst e;have:=p1.1 x hx;lia
    have hne':∀x,x∈gs->x≠p:=λx hx e=>by subst e;have:=p2.1 x hx;lia
    rw[ih gs p1.2 p2.2 λx=>{λhx=>by
     rcases aF.mp ((h x).mp (bH _ hx)) with e|e
     .exact absurd e (hne x hx)
     .exact e,λhx=>by
     rcases aF.mp ((h x).mpr (bH _ hx)) with e|e
     .exact absurd e (hne' x hx)
     .exact e}]
 exact uniq fs gs (strict S) (strict T) λp=>{sub S T h p,sub T S (λd=>(h d).symm) p}
def cnt(f:Int->Bool)(lo:Int):Nat->Int
 |0=>0
 | n+1=>cnt f lo n+(if f (lo+n) then 1 else 0)
def qoa(A:List P)(d:Int):Bool:=A.any λp=>decide (p.1<=d)&&decide (d<=p.2)
def jq{A:List P}{d:Int}:qoa A d=true↔Day A d:=by unfold qoa Day;simp[iP]
end Dy
namespace DG
open PySem L2 DE FA Dy
open CH ST SP RU BO
theorem qcw:∀ps:List (Int×Int),qhK (ps.map pD)=some ps
 |[]=>rfl
 | p::ps=>by rw[au,qhK,qcw ps];rfl
def qG(p:Int×Int):pD p=.tup [.int p.1,.int p.2]:=rfl
def spr(ps:List (Int×Int)):List (Int×Int):=(qK ps).foldl stp []
def qk0(acc:List (Int×Int))(p:Int×Int):(stp acc p).length<=acc.length+1:=by
 rcases Jt acc with rfl|⟨a,l,rfl⟩
 .simp[Qd]
 .rw[yV]
  split<;>simp
def zx{n:Nat}(h:n < 100000):n < sizeLine:=iG h (3:)
def qx{n:Nat}(h:n < 100000):n<=sizeLine:=Nat.le_of_lt (zx h)
def qk1{a n m:Nat}(h:a+n < m)(hm:m<=100000:=by decide):a < sizeLine:=zx (1:)
def zk{α M:Type}{f:α->M}{l:List α}{n m:Nat}(h:l.length+n < m)(hm:m<=100000:=by decide):(l.map f).length < sizeLine:=by rw[aD];exact qk1 h hm
def sn{α:Type}{l:List α}{x:α}{n m:Nat}(h:l.length+(n+1) < m):(l++[x]).length+n < m:=by rw[aT,eK];lia
theorem Qe(cl:Cl)(v:Sl):∀(ps acc:List (Int×Int)) (s2 s3:Sl),acc.length+ps.length < 10000->∃s2' s3',jy cl 1000 (.many [2,3]) Jr (ps.map pD) [v,.own (acc.map pD),s2,s3]=.ok (.next [v,.own ((ps.foldl stp acc).map pD),s2',s3'])
 |[],acc,s2,s3,_=>⟨s2,s3,rfl⟩
 | p::ps,acc,s2,s3,hl=>by
  rw[aK]at hl
  have:=qk0 acc p
  let(s2',s3',ih):=Qe cl v ps (stp acc p) (.val (.int p.1)) (.val (.int p.2)) (1:);refine{s2',s3',?_};have hs:acc.length < sizeLine:=zx (1:);have two:0+1+1<=sizeLine:=(3:)
  rw[gL];rcases Jt acc with rfl|⟨a,l,rfl⟩
  .rw[Qd]at ih ⊢;simp![au,aH,qG]at ih;simp?[jR,qG,List.isEmpty_nil,two,show(0:Nat) < sizeLine by decide+kernel,ih]
  .rw[yV]at ih ⊢
   by_cases hc:p.1<=l.2+1
   .rw[if_pos hc]at ih ⊢;simp![aR,au,aH,qG]at ih;simp?[jR,qG,aR,hc,two,ih]
   .rw[if_neg hc]at ih ⊢;simp![aR,au,aH,qG]at ih;have hs':(a.map pD++[D.tup [.int l.1,.int l.2]]).length < sizeLine:=(-hs:)
    simp?[jR,qG,aR,hc,two,hs',ih]
def qbu{pg:Pg}[SP pg](k:Nat)(b:Bool)(ps:List (Int×Int))(hl:ps.length < 4000):clK pg (k+1) "spread" [aL b (ps.map pD)]=.ok (.tmp ((spr ps).map pD)):=by
 have hl':(qK ps).length < 10000:=by unfold qK;rw[gR];lia
 rw[r_spread];let(s2,s3,e):=Qe (pg.kk k) (pS b (ps.map pD)) (qK ps) [] .no .no (-hl':);rw[aH]at e;simp?![qdo,YT,qcw,hl,show(0:Nat)<=sizeLine by decide+kernel,e,spr]
def yh(p q:Int×Int):QQ p q=true↔lex p q:=by unfold QQ lex;simp
def Yt(ps:List (Int×Int))(h:∀p∈ps,p.1<=p.2):Run (qK ps) (spr ps):=by
 have hs:(qK ps).Pairwise lex:=by
  have:=gM (le:=QQ) (λa b c h1 h2=>by rw[yh]at h1 h2 ⊢;unfold lex at *;lia) (λa b=>by simp![eg,yh];unfold lex;lia) ps
  exact this.imp λ{a b} h=>(yh a b).mp h
 have hq:∀p∈qK ps,p.1<=p.2:=λp hp=>h p ((fq ps QQ).mem_iff.mp hp)
 have:=qf0 hs hq (qK ps).length (ay _)
 rwa[gH]at this
def qk2{ps:List (Int×Int)}(h:∀p∈ps,p.1<=p.2)(d:Int):qoa (spr ps) d=qoa ps d:=by rw[lJ,jq,jq,(Yt ps h).day d];exact qik (fq ps QQ) d
def qf1{ps:List (Int×Int)}(h:∀p∈ps,p.1<=p.2):Spr (spr ps):=(Yt ps h).spr
def qk3{ps:List (Int×Int)}(h:∀p∈ps,p.1<=p.2):(spr ps).length<=ps.length:=by
 have:=(Yt ps h).len
 unfold qK at this
 rwa[gR]at this
def _root_.FA.Kd.cls:Kd->Str
 |.wi=>"Within"
 |.si=>"Since"
 |.ro=>"InRow"
def _root_.FA.Kd.fld:Kd->Str
 |.wi=>"span"
 |.si=>"leave"
 |.ro=>"leave"
def _root_.FA.Kd.isW:Kd->Bool
 |.wi=>true
 |.si=>false
 |.ro=>false
def ruI(r:Ru):D:=.ins r.kd.cls ["lands","most",r.kd.fld] [.tup (r.lands.map lnD),.int r.most,.int r.days]
def qds{xx:Xs}(r:Ru):qfs (pcs xx) (.val (ruI r)) "lands" = some (.tup (r.lands.map lnD)):=by let(kd,l,m,d):=r;cases kd<;>rfl
def qf2{xx:Xs}(r:Ru)(h:r.kd.isW=true):qfs (pcs xx) (.val (ruI r)) "span" = some (.int r.days):=by
 let(kd,l,m,d):=r
 cases kd<;>first|rfl|cases h
def qdt{xx:Xs}(r:Ru)(h:r.kd.isW=false):qfs (pcs xx) (.val (ruI r)) "leave" = some (.int r.days):=by
 let(kd,l,m,d):=r
 cases kd<;>first|rfl|cases h
def qbv{xx:Xs}(r:Ru):mtD (pcs xx) (.val (ruI r)) "weight" = some ("Rule.weight" : Str):=by let(kd,l,m,d):=r;cases kd<;>rfl
def qbw{xx:Xs}(r:Ru):qhH (pcs xx) (.val (ruI r)) "Within" = some r.kd.isW:=by let(kd,l,m,d):=r;cases kd<;>rfl
def qim{xx:Xs}(r:Ru):qhH (pcs xx) (.val (ruI r)) "Since" = some (!r.kd.isW):=by let(kd,l,m,d):=r;cases kd<;>rfl
abbrev St:=Str×Int×Int
abbrev Pa:=Int×Int×Int
def paD(p:Pa):D:=.tup [.int p.1,.int p.2.1,.int p.2.2]
def qy(p:Pa):paD p=.tup [.int p.1,.int p.2.1,.int p.2.2]:=rfl
def bkI(rs:List Ru)(ps:List Pa):D:=.ins "Book" ["kept_rules","kept_papers"] [.lst (rs.map ruI),.lst (ps.map paD)]
def qin{xx:Xs}(rs:List Ru)(ps:List Pa):qfs (pcs xx) (.val (bkI rs ps)) "kept_rules" = some (.lst (rs.map ruI)):=rfl
def qf3{xx:Xs}(rs:List Ru)(ps:List Pa):qfs (pcs xx) (.val (bkI rs ps)) "kept_papers" = some (.lst (ps.map paD)):=rfl
def qdu{xx:Xs}(rs:List Ru)(ps:List Pa):mtD (pcs xx) (.val (bkI rs ps)) "rules" = some ("Book.rules" : Str):=rfl
def qf4{xx:Xs}(rs:List Ru)(ps:List Pa):mtD (pcs xx) (.val (bkI rs ps)) "lifted" = some ("Book.lifted" : Str):=rfl
def Qf:List St->Int->Option Str
 |[],z=>none
 | s::l,d=>if s.2.1<=d/\d<=s.2.2 then some s.1 else Qf l d
def qk4:Option Str->D
 |some z=>.str z
 |none=>.non
def wt:List (Str×Int)->Option Str->Int
 |[],z=>0
 | p::l,o=>if o=some p.1 then p.2 else wt l o
def Yu{z:Str}(h:NameOk z):eQ z=true:=by
 unfold eQ;rw[<-Array.all_toList,ee];intro c hc
 have:=h.lets c hc
 unfold Js at this;rw[decide_eq_true_eq]
 lia
theorem qk5{p:Str}(hp:NameOk p){o:Option Str}(ho:∀z,o=some z->NameOk z):eqD (.str p) (qk4 o)=some (decide (o=some p)):=by
 cases o with
 |none=>show eqD (.str p) .non=_;rw[qn1 (Yu hp)];simp
 |some z=>
  show eqD (.str p) (.str z)=_;rw[qfS (Yu hp) (Yu (ho z rfl))]
  congr 1
  rw[lJ,beq_iff_eq,decide_eq_true_eq];constructor
  .rintro rfl;rfl
  .intro e;cases e;rfl
theorem Qg(cl:Cl)(v:Sl)(o:Option Str)(ho:∀z,o=some z->NameOk z):∀(l:List (Str×Int)) (s2 s3:Sl),(∀p∈l,LnOk p)->∃F,jy cl 1000 (.many [2,3]) zv (l.map lnD) [v,.val (qk4 o),s2,s3]=.ok F/\(F=.ret (.val (.int (wt l o)))\/(wt l o=0/\∃N',F=.next N'))
 |[],s2,s3,_=>{_,rfl,.inr {rfl,_,rfl}}
 | p::l,s2,s3,h=>by
  let(F,i,a):=Qg cl v o ho l (.val (.str p.1)) (.val (.int p.2)) λq hq=>h q (by simp[hq]);have e:=qk5 (h p (5:)).nm ho;unfold wt
  by_cases hc:o=some p.1
  .rw[if_pos hc];rw[decide_eq_true hc]at e;refine{_,?_,.inl rfl};rw[au];simp?[zV,qdq,e]
  .rw[if_neg hc];rw[decide_eq_false hc]at e;refine{F,?_,a};rw[au];simp?[zV,qdq,e,i]
def qf5{pg:Pg}[RU pg](k:Nat)(r:Ru)(h:∀p∈r.lands,LnOk p)(o:Option Str)(ho:∀z,o=some z->NameOk z):clK pg (k+1) "Rule.weight" [.val (ruI r),.val (qk4 o)]=.ok (.val (.int (wt r.lands o))):=by
 rw[r_Rule_weight];let(F,i,a):=Qg (pg.kk k) (.val (ruI r)) o ho r.lands .no .no h;rcases a with rfl|⟨i0,N',rfl⟩
 .simp?![jn,RU.cs,qds,i]
 .simp?![jn,RU.cs,qds,i,i0]
def qdv{pg:Pg}[RU pg][BO pg](k:Nat)(rs:List Ru)(ps:List Pa):clK pg (k+1) "Book.rules" [.val (bkI rs ps)]=.ok (.tmp (rs.map ruI)):=by rw[r_Book_rules];simp?![JE,RU.cs,qin]
def ofN(n:Int)(ps:List Pa):List (Int×Int):=(ps.filter λp=>p.1 == n).map λp=>(p.2.1,p.2.2)
def lift(n:Int)(ps:List Pa):List (Int×Int):=spr (ofN n ps)
theorem yA(cl:Cl)(n:Int):∀(ps:List Pa) (acc:List (Int×Int)) (s0 s1 s2:Sl),acc.length+ps.length < 10000->ze cl zw (.many [0,1,2]) (.test (.cmp .Eq (.var 0) (.var 3))) (ps.map paD) [s0,s1,s2,.val (.int n)] (acc.map pD)=.ok ((acc++ofN n ps).map pD)
 |[],acc,s0,s1,s2,z=>by simp[ofN,qL]
 | p::ps,acc,s0,s1,s2,hl=>by
  rw[aK]at hl;have two:0+1+1<=sizeLine:=(3:)
  have hs:(acc.map pD).length < sizeLine:=zk hl
  cases hc:(p.1 == n) with
  |true=>
   have ih:=yA cl n ps (acc++[(p.2.1,p.2.2)]) (.val (.int p.1)) (.val (.int p.2.1)) (.val (.int p.2.2)) (sn hl);have e:ofN n (p::ps)=(p.2.1,p.2.2)::ofN n ps:=by simp[ofN,hc]
   rw[e];simp![aR,au,aH,qG,bf,cK,bp]at ih ⊢;simp?[zX,qy,qw,hc,two,hs,ih]
  |false=>
   have ih:=yA cl n ps acc (.val (.int p.1)) (.val (.int p.2.1)) (.val (.int p.2.2)) (1:);have e:ofN n (p::ps)=ofN n ps:=by simp[ofN,hc]
   rw[e];rw[au];simp?[zX,qy,qw,hc,two,hs,ih]
def qad(n:Int)(ps:List Pa):(ofN n ps).length<=ps.length:=by unfold ofN;rw[aD];exact lU ..
def qf6{pg:Pg}[RU pg][BO pg][SP pg](k:Nat)(rs:List Ru)(ps:List Pa)(n:Int)(hl:ps.length < 64):clK pg (k+2) "Book.lifted" [.val (bkI rs ps),.val (.int n)]=.ok (.tmp ((lift n ps).map pD)):=by
 have i:=yA (pg.kk (k+1)) n ps [] .no .no .no (by simp;lia);have s:=qbu (pg:=pg) k false (ofN n ps) (iG (lx (qad n ps) hl) (2:));have hs:(ps.map paD).length<=sizeLine:=by rw[aD];exact qx (1:)
 simp![qn5,qn6]at s;rw[aH,bp]at i;rw[r_Book_lifted];simp?![yT,RU.cs,qf3,qb0,iY,iZ,hs,i,s,lift]
def wgt(r:Ru)(lf:List (Int×Int))(st:List St)(d:Int):Int:=if qoa lf d=true then 0 else wt r.lands (Qf st d)
def ws(f:Int->Int)(lo:Int):Nat->List Int
 |0=>[]
 | n+1=>f lo::ws f (lo+1) n
theorem Yv:∀l:List Int,qbb (l.map D.int)=some l
 |[]=>rfl
 | n::l=>by rw[au,qbb,Yv l];rfl
section
variable{pg:Pg}[RU pg]
def qf7(f:Int->Int)(leave:Int):Nat->Int->Int->Int->Int->Int×Int
 |0,fi,to,z,y=>(fi,to)
 | n+1,fi,to,em,ba=>if em < leave then (if f ba=0 then qf7 f leave n fi to (em+1) (ba - 1) else qf7 f leave n ba (to+f ba) 0 (ba - 1)) else (fi,to)
end
def win(r:Ru)(f:Int->Int)(d:Int):Int×Int:=if r.kd.isW=true then (d - r.days+1,(ws f (d - r.days+1) r.days.toNat).sum) else qf7 f r.days 1000 (d+1) 0 0 d
def qf8{rs:List Ru}{n:Nat}{r:Ru}(h:rs[n]?=some r):atI (rs.map ruI) (n:Int)=some (ruI r):=qia (by rw[bu,h];rfl)
abbrev Rl:=Ru×List (Int×Int)
end DG
namespace FA
open PySem DE DG Dy
open L2 hiding St
open LC LN RU
def qae{k:Nat}:¬ (k+12 < 12):=by lia
def qqd(kd:Kd):eQ kd.nm=true:=by cases kd<;>decide+kernel
end FA
namespace DG
open PySem DE FA Dy
open L2 hiding St
theorem qf9:∀l:List (Str×Int),wt l none=0
 |[]=>rfl
 | p::l=>by unfold wt;rw[if_neg (5:)];exact qf9 l
theorem qqe{l:List (Str×Int)}(h:∀p∈l,LnOk p)(o:Option Str):0<=wt l o:=by
 induction l with
 |nil=>exact bG _
 |cons p l ih=>
  unfold wt;split
  .have:=(h p (5:)).one;lia
  .exact ih λq hq=>h q (by simp[hq])
def qk6{r:Ru}{lf:List (Int×Int)}{st:List St}{d:Int}(h:Qf st d=none):wgt r lf st d=0:=by unfold wgt;rw[h,qf9];simp
theorem qcx{f:Int->Int}:∀(n:Nat) (lo:Int),(ws f lo (n+1)).sum=(ws f lo n).sum+f (lo+n)
 |0,lo=>by simp[ws]
 | n+1,lo=>by
  rw[ws,dt,qcx n (lo+1),ws,dt,show lo+1+(n:Int)=lo+((n+1:Nat):Int) by lia]
  lia
theorem qob{f:Int->Int}(hf:∀x,0<=f x):∀(n:Nat) (lo:Int),0<=(ws f lo n).sum
 |0,z=>by simp[ws]
 | n+1,lo=>by
  rw[ws,dt]
  have:=hf lo
  have:=qob hf n (lo+1)
  lia
theorem Qh{f:Int->Int}:∀(n:Nat) (lo:Int),(∀x,lo<=x->x < lo+n->f x=0)->(ws f lo n).sum=0
 |0,z,y=>by simp[ws]
 | n+1,lo,h=>by rw[ws,dt,h lo (1:) (1:),Qh n (lo+1) λx h1 h2=>h x (1:) (1:)];rfl
end DG
namespace FA
open PySem DE DG Dy
open L2 hiding St
open LC LN RU
def qga(ns:List Int)(a b:Nat):∃ms:List Int,qaB (ns.map D.int) (some (a:Int)) (some (b:Int))=ms.map D.int/\ms.length<=b - a:=by
 refine{(ns.drop (min a ns.length)).take (min b ns.length - min a ns.length),?_,?_}
 .unfold qaB;rw[HT.YE,HT.YE,aD,List.map_take,List.map_drop]
 .refine bQ (List.length_take_le ..) ?_;rcases Nat.le_total a ns.length with h|h
  .rw[gJ h];exact Nat.sub_le_sub_right (Nat.min_le_left ..) a
  .rw[Nat.min_eq_right h,Nat.sub_eq_zero_of_le (Nat.min_le_right ..)];exact aZ _
end FA
namespace DG
open PySem DE FA Dy
open L2 hiding St
def qio(r:Ru):qbn (ruI r)=true:=by let(kd,l,m,d):=r;cases kd<;>rfl
def qk7{pg:Pg}[RU pg](k:Nat)(b c:Bool)(rs:List Ru)(ps:List Pa)(hr:rs.length<=8)(hp:ps.length<=12)(h:∀p∈ps,0<=p.1/\p.1 < rs.length/\0<=p.2.1/\p.2.1<=p.2.2/\p.2.2<=1000000000) :
  pg.nw (k+12) "Book" [aL b (rs.map ruI),aL c (ps.map paD)]=.ok (.val (bkI rs ps)):=by
 have e:∀(b:Bool) (l:List D),arL (aL b l)=some l:=λb l=>by cases b<;>rfl
 have h1:((decide ((rs.map ruI).length<=8)&&(rs.map ruI).all qbn)&&(decide ((ps.map paD).length<=12)&&(ps.map paD).all (jz (rs.map ruI).length)))=true:=by
  simp![aD,aM,decide_eq_true_eq,ee,df];refine{{hr,λx ⟨r,z,hx⟩=>by rw[<-hx];exact qio r},hp,λx ⟨p,hm,hx⟩=>?_};let(q1,q2,q3,q4,q5):=h p hm;rw[<-hx];show(btw p.1 0 ((rs.length:Int) - 1)&&btw p.2.1 0 1000000000&&btw p.2.2 0 1000000000&&decide (p.2.1<=p.2.2))=true;unfold btw;simp![aM,decide_eq_true_eq]
  lia
 rw[RU.nw]
 show(if k+12 < 12 then R.no else qdn "Book" (match arL (aL b (rs.map ruI)),arL (aL c (ps.map paD)) with
  |some l,some ps=>if ((decide (l.length<=8)&&l.all qbn)&&(decide (ps.length<=12)&&ps.all (jz l.length)))=true then some [("kept_rules",D.lst l),("kept_papers",D.lst ps)] else none
  |z,y=>none))=_
 rw[if_neg (1:),e,e];dsimp only;rw[if_pos h1];rfl
open L2
noncomputable abbrev qbx:T:=(.and (.cmp .Lt (.var 3) (.b1 .len (.var 0))) (.one (.cmp .Lt (.var 4) (.b1 .len (.var 1)))))
def qaf:T:=qbx
def yi:UT qaf qbx:=λz z z=>(rfl)
noncomputable abbrev qby:Ss:=%[.set 5 (.b2 .max (.idx (.idx (.var 0) (.var 3)) (.con (.int 0))) (.idx (.idx (.var 1) (.var 4)) (.con (.int 0)))),.set 6 (.b2 .min (.idx (.idx (.var 0) (.var 3)) (.con (.int 1))) (.idx (.idx (.var 1) (.var 4)) (.con (.int 1)))),.ite (.cmp .LtE (.var 5) (.var 6)) %[.app 2 (.tup %[5,6|0])|0] .nil,.ite (.cmp .Lt (.idx (.idx (.var 0) (.var 3)) (.con (.int 1))) (.idx (.idx (.var 1) (.var 4)) (.con (.int 1)))) %[.set 3 (.bin .Add (.var 3) (.con (.int 1)))|0] %[.set 4 (.bin .Add (.var 4) (.con (.int 1)))|0]|0]
def qag:Ss:=qby
def Ze:USs qag qby:=λz z z z=>(rfl)
def qjb:Nat×Nat×Ss:=(2,7,%[.set 2 (.lst .nil),.set 3 (.con (.int 0)),.set 4 (.con (.int 0)),.whl qaf qag,.ret (.var 2)|0])
noncomputable abbrev JG:Ss:=%[.ite (.cmp .Lt (.var 4) (.idx (.var 5) (.con (.int 0)))) %[.app 3 (.tup %[4,.bin .Sub (.idx (.var 5) (.con (.int 0))) (.con (.int 1))|0])|0] .nil,.set 4 (.b2 .max (.var 4) (.bin .Add (.idx (.var 5) (.con (.int 1))) (.con (.int 1))))|0]
def yB:Ss:=JG
def yW:USs yB JG:=λz z z z=>(rfl)
def Qi:Nat×Nat×Ss:=(3,6,%[.set 3 (.lst .nil),.set 4 (.var 1),.for_ (.one 5) (.seq (.var 0)) yB,.ite (.cmp .LtE (.var 4) (.var 2)) %[.app 3 (.tup %[4,2|0])|0] .nil,.ret (.var 3)|0])
def qjc:Nat×Nat×Ss:=(2,2,%[.ite (.not (.val (.var 0))) %[.ret (.lst .nil)|0] .nil,.ret (.call "both" %[0,.call "outside" %[1,.idx (.idx (.var 0) (.con (.int 0))) (.con (.int 0)),.idx (.idx (.var 0) (.neg (.con (.int 1)))) (.con (.int 1))|0]|0])|0])
class BT(pg:Pg):Prop where
 r_both:RW pg "both" qjb
 r_outside:RW pg "outside" Qi
 r_less:RW pg "less" qjc
abbrev z9:E:=(.tup %[0,1,2|0])
def zg:E:=z9
def yY:UE zg z9:=λz z z=>(rfl)
noncomputable abbrev ja:Ss:=%[.set 9 (.met (.var 3) "weight" %[6|0]),.ite (.cmp .Gt (.var 9) (.con (.int 0))) %[.ext 5 (.comp zg (.seq (.call "less" %[.lst %[.tup %[7,8|0]|0],4|0])) (.many [0,1]) .yes 2 [9])|0] .nil|0]
def zh:Ss:=ja
def zJ:USs zh ja:=λz z z z=>(rfl)
def yr:Nat×Nat×Ss:=(3,10,%[.set 3 (.idx (.met (.var 0) "rules" .nil) (.var 1)),.set 4 (.met (.var 0) "lifted" %[1|0]),.set 5 (.lst .nil),.for_ (.many [6,7,8]) (.seq (.var 2)) zh,.ret (.var 5)|0])
class PC(pg:Pg):Prop where
 r_pieces_among:RW pg "pieces_among" yr
noncomputable abbrev Qj:Ss:=%[.set 7 (.bin .Add (.bin .Sub (.b2 .min (.var 5) (.var 2)) (.b2 .max (.var 4) (.var 1))) (.con (.int 1))),.ite (.cmp .Gt (.var 7) (.con (.int 0))) %[.set 3 (.bin .Add (.var 3) (.bin .Mult (.var 7) (.var 6)))|0] .nil|0]
def Ju:Ss:=Qj
def JH:USs Ju Qj:=λz z z z=>(rfl)
def qdw:Nat×Nat×Ss:=(3,8,%[.set 3 (.con (.int 0)),.for_ (.many [4,5,6]) (.seq (.var 0)) Ju,.ret (.var 3)|0])
noncomputable abbrev jD:Ss:=%[.ite (.cmp .LtE (.var 4) (.var 2)) %[.ite (.cmp .GtE (.bin .Sub (.bin .Sub (.var 3) (.con (.int 1))) (.b2 .min (.var 5) (.var 2))) (.var 1)) %[.ret (.var 3)|0] .nil,.set 3 (.var 4)|0] .nil|0]
def zy:Ss:=jD
def qT:USs zy jD:=λz z z z=>(rfl)
def yZ:Nat×Nat×Ss:=(3,7,%[.set 3 (.bin .Add (.var 2) (.con (.int 1))),.for_ (.many [4,5,6]) (.rev (.var 0)) zy,.ret (.var 3)|0])
def qU:Nat×Nat×Ss:=(3,3,%[.ite (.val (.isc "Within" (.var 0))) %[.ret (.bin .Add (.bin .Sub (.var 2) (.fld (.var 0) "span")) (.con (.int 1)))|0] .nil,.ret (.call "first_since" %[1,.fld (.var 0) "leave",2|0])|0])
def y0:Nat×Nat×Ss:=(3,3,%[.ret (.call "sum_of" %[1,.call "first_of_window" %[0,1,2|0],2|0])|0])
class SU(pg:Pg):Prop where
 r_sum_of:RW pg "sum_of" qdw
 r_first_since:RW pg "first_since" yZ
 r_first_of_window:RW pg "first_of_window" qU
 r_count_among:RW pg "count_among" y0
noncomputable abbrev y4:Ss:=%[.app 2 (.bin .Add (.var 3) (.fld (.var 0) "span")),.app 2 (.bin .Add (.bin .Add (.var 4) (.con (.int 1))) (.fld (.var 0) "span"))|0]
def jX:Ss:=y4
def QF:USs jX y4:=λz z z z=>(rfl)
def Jv:Nat×Nat×Ss:=(2,6,%[.set 2 (.lst .nil),.ite (.val (.isc "Within" (.var 0))) %[.for_ (.many [3,4,5]) (.seq (.var 1)) jX|0] .nil,.ret (.var 2)|0])
open CH ST SP RU BO BT PC SU
abbrev Pr:=Int×Int
def mx(a b:Int):Int:=if b > a then b else a
def mn(a b:Int):Int:=if b < a then b else a
def mxF(a b:Int):(if b > a then b else a)=mx a b:=(rfl)
def mnF(a b:Int):(if b < a then b else a)=mn a b:=(rfl)
def qip(a b:Int):(a<=b->mx a b=b)/\(b<=a->mx a b=a):=by unfold mx;split<;>lia
def qbz(a b:Int):(a<=b->mn a b=a)/\(b<=a->mn a b=b):=by unfold mn;split<;>lia
def jb:Nat->List Pr->List Pr->List Pr
 |0,z,y=>[]
 | z+1,[],y=>[]
 | z+1,y,[]=>[]
 | n+1,p::a,q::b=>(if mx p.1 q.1<=mn p.2 q.2 then [(mx p.1 q.1,mn p.2 q.2)] else [])++(if p.2 < q.2 then jb n a (q::b) else jb n (p::a) b)
def qgb(l:List Pr)(i:Nat)(p:Pr)(h:l[i]?=some p):atI (l.map pD) (i:Int)=some (.tup [.int p.1,.int p.2]):=qia (by rw[bu,h];rfl)
theorem Qk(cl:Cl)(A B:List Pr):∀(n i j:Nat) (acc:List Pr) (s5 s6:Sl),(A.length - i)+(B.length - j) < n->acc.length+n < 10000->
  ∃N',whD cl 1000 qaf qag n [.val (.lst (A.map pD)),.val (.lst (B.map pD)),.own (acc.map pD),.val (.int (i:Int)),.val (.int (j:Int)),s5,s6]=.ok (.next (.val (.lst (A.map pD))::.val (.lst (B.map pD))::.own ((acc++jb n (A.drop i) (B.drop j)).map pD)::N'))
 |0,i,j,acc,s5,s6,h,_=>by lia
 | n+1,i,j,acc,s5,s6,h,hl=>by
  have two:0+1+1<=sizeLine:=(3:)
  have hs:(acc.map pD).length < sizeLine:=zk hl
  by_cases hi:i < A.length
  .by_cases hj:j < B.length
   .let(p,hp):∃p,A[i]?=some p:={A[i],bN hi};let(q,hq):∃q,B[j]?=some q:={B[j],bN hj};have ap:=qgb A i p hp;have aq:=qgb B j q hq;have c1:(i:Int) < ((A.map pD).length:Int):=by rw[aD];lia
    have c2:(j:Int) < ((B.map pD).length:Int):=by rw[aD];lia
    have dA:A.drop i=p::A.drop (i+1):=by rw[fg hi];congr 1;rw[bN hi]at hp;exact Option.some.inj hp
    have dB:B.drop j=q::B.drop (j+1):=by rw[fg hj];congr 1;rw[bN hj]at hq;exact Option.some.inj hq
    have X:∀{M:Type} (K:Fl->R M) (a b c d:Sl),(iS cl 1000 (.ite (.cmp .LtE (.var 5) (.var 6)) %[.app 2 (.tup %[5,6|0])|0] .nil) [a,b,.own (acc.map pD),c,d,.val (.int (mx p.1 q.1)),.val (.int (mn p.2 q.2))]).th K=K (.next [a,b,.own ((acc++if mx p.1 q.1<=mn p.2 q.2 then [(mx p.1 q.1,mn p.2 q.2)] else []).map pD),c,d,.val (.int (mx p.1 q.1)),.val (.int (mn p.2 q.2))]):=by
     intro M K a b c d
     by_cases hc:mx p.1 q.1<=mn p.2 q.2
     .rw[if_pos hc,aR];simp?![hc,two,hs,qG]
     .rw[if_neg hc,b5];simp?![hc]
    have hl':(acc++if mx p.1 q.1<=mn p.2 q.2 then [(mx p.1 q.1,mn p.2 q.2)] else []).length<=acc.length+1:=by
     rw[aT]
     split<;>simp
    rw[dA,dB,jb,<-bf];generalize acc++(if mx p.1 q.1<=mn p.2 q.2 then [(mx p.1 q.1,mn p.2 q.2)] else [])=acc' at *
    by_cases hd:p.2 < q.2
    .let(N',e):=Qk cl A B n (i+1) j acc' (.val (.int (mx p.1 q.1))) (.val (.int (mn p.2 q.2))) (1:) (1:);refine{N',?_};rw[dB]at e;rw[if_pos hd];simp![show((i+1:Nat):Int)=(i:Int)+1 by lia]at e;simp?[↓X,yi,Ze,c1,c2,ap,aq,mxF,mnF,hd,e]
    .let(N',e):=Qk cl A B n i (j+1) acc' (.val (.int (mx p.1 q.1))) (.val (.int (mn p.2 q.2))) (1:) (1:);refine{N',?_};rw[dA]at e;rw[if_neg hd];simp![show((j+1:Nat):Int)=(j:Int)+1 by lia]at e;simp?[↓X,yi,Ze,c1,c2,ap,aq,mxF,mnF,hd,e]
   .have c1:(i:Int) < ((A.map pD).length:Int):=by rw[aD];lia
    have c2:¬ (j:Int) < ((B.map pD).length:Int):=by rw[aD];lia
    have e:jb (n+1) (A.drop i) (B.drop j)=[]:=by
     rw[show B.drop j=[] from iA (1:)]
     cases A.drop i<;>rfl
    rw[e,b5];refine{[.val (.int (i:Int)),.val (.int (j:Int)),s5,s6],?_};simp?[yi,c1,c2]
  .have c1:¬ (i:Int) < ((A.map pD).length:Int):=by rw[aD];lia
   have e:jb (n+1) (A.drop i) (B.drop j)=[]:=by rw[show A.drop i=[] from iA (1:)];rfl
   rw[e,b5];refine{[.val (.int (i:Int)),.val (.int (j:Int)),s5,s6],?_};simp?[yi,c1]
def qk8{pg:Pg}[BT pg](k:Nat)(A B:List Pr)(hl:A.length+B.length < 999):clK pg (k+1) "both" [.val (.lst (A.map pD)),.val (.lst (B.map pD))]=.ok (.tmp ((jb 1000 A B).map pD)):=by let(N',e):=Qk (pg.kk k) A B 1000 0 0 [] .no .no (1:) (5:);rw[aH,bp,gN,gN,show((0:Nat):Int)=0 from rfl]at e;rw[r_both];simp?![qjb,show(0:Nat)<=sizeLine by decide+kernel,e]
def JX:Int->List Pr->List Pr×Int
 |b,[]=>([],b)
 | b,t::l=>((if b < t.1 then [(b,t.1 - 1)] else [])++(JX (mx b (t.2+1)) l).1,(JX (mx b (t.2+1)) l).2)
def qM(l:List Pr)(first last:Int):List Pr:=(JX first l).1++(if (JX first l).2<=last then [((JX first l).2,last)] else [])
theorem qah(cl:Cl)(v0 v1 v2:Sl):∀(l:List Pr) (b:Int) (acc:List Pr) (s5:Sl),acc.length+l.length < 10000->∃s5',jy cl 1000 (.one 5) yB (l.map pD) [v0,v1,v2,.own (acc.map pD),.val (.int b),s5]=.ok (.next [v0,v1,v2,.own ((acc++(JX b l).1).map pD),.val (.int (JX b l).2),s5'])
 |[],b,acc,s5,_=>{s5,by simp[JX,qW]}
 | t::l,b,acc,s5,hl=>by
  rw[aK]at hl;have two:0+1+1<=sizeLine:=(3:)
  have hs:(acc.map pD).length < sizeLine:=zk hl;rw[JX]
  by_cases hc:b < t.1
  .let(s5',ih):=qah cl v0 v1 v2 l (mx b (t.2+1)) (acc++[(b,t.1 - 1)]) (.val (pD t)) (sn hl);refine{s5',?_};rw[if_pos hc];simp![aR,au,aH,qG,bf,cK,bp]at ih ⊢;simp?[yW,hc,two,hs,mxF,ih]
  .let(s5',ih):=qah cl v0 v1 v2 l (mx b (t.2+1)) acc (.val (pD t)) (1:);refine{s5',?_};rw[if_neg hc,bp];simp![qG]at ih;rw[au];simp?[yW,qG,hc,mxF,ih]
def qeu{pg:Pg}[BT pg](k:Nat)(b:Bool)(l:List Pr)(hl:l.length < 5000)(first last:Int):clK pg (k+1) "outside" [aL b (l.map pD),.val (.int first),.val (.int last)]=.ok (.tmp ((qM l first last).map pD)):=by
 have two:0+1+1<=sizeLine:=(3:)
 have len:∀(l:List Pr) (b:Int),(JX b l).1.length<=l.length:=by
  intro l
  induction l with
  |nil=>intro b;simp[JX]
  |cons t l ih=>
   intro b;rw[JX]
   have:=ih (mx b (t.2+1))
   dsimp only;rw[aT,aK]
   split<;>simp<;>lia
 have hs:((JX first l).1.map pD).length < sizeLine:=by rw[aD];have:=len l first;exact zx (1:)
 rw[r_outside];unfold qM;let(s5,e):=qah (pg.kk k) (pS b (l.map pD)) (.val (.int first)) (.val (.int last)) l first [] .no (by simp;lia);rw[aH,bp]at e
 by_cases hc:(JX first l).2<=last
 .rw[if_pos hc,aR,au,aH];simp?![Qi,show(0:Nat)<=sizeLine by decide+kernel,e,hc,two,hs,qG]
 .rw[if_neg hc,b5];simp?![Qi,show(0:Nat)<=sizeLine by decide+kernel,e,hc]
def yj(p:Pr)(l:List Pr):List Pr:=jb 1000 [p] (qM l p.1 p.2)
def yC(l:List Pr)(f t:Int):(qM l f t).length<=l.length+1:=by
 have len:∀(l:List Pr) (b:Int),(JX b l).1.length<=l.length:=by
  intro l
  induction l with
  |nil=>intro b;simp[JX]
  |cons t l ih=>
   intro b;rw[JX]
   have:=ih (mx b (t.2+1))
   dsimp only;rw[aT,aK]
   split<;>simp<;>lia
 unfold qM;rw[aT]
 have:=len l f
 split<;>simp<;>lia
def qgc{pg:Pg}[BT pg](k:Nat)(b:Bool)(p:Pr)(l:List Pr)(hl:l.length < 900):clK pg (k+2) "less" [.val (.lst [.tup [.int p.1,.int p.2]]),aL b (l.map pD)]=.ok (.tmp ((yj p l).map pD)):=by
 have o:=qeu (pg:=pg) k b l (1:) p.1 p.2;have t:=qk8 (pg:=pg) k [p] (qM l p.1 p.2) (by have:=yC l p.1 p.2;simp;lia);simp![qn5,qn6,au,aH,qG]at t;have g:atI [D.tup [.int p.1,.int p.2]] (-1)=some (.tup [.int p.1,.int p.2]):=g_last [] _;rw[r_less]
 try simp only[qn5,qn6]at o ⊢
 simp?![qjc,List.isEmpty_cons,g,o,t,yj]
theorem Ql:∀(n:Nat) (A B:List Pr),(jb n A B).length<=A.length+B.length
 |0,z,y=>by simp[jb]
 | n+1,[],B=>by simp[jb]
 | n+1,p::A,[]=>by simp[jb]
 | n+1,p::A,q::B=>by
  have h1:=Ql n A (q::B);have h2:=Ql n (p::A) B;simp![aK]at h1 h2;rw[jb,aT,aK,aK]
  split<;>split<;>simp<;>lia
def y6(p:Pr)(l:List Pr):(yj p l).length<=l.length+2:=by
 have h1:=Ql 1000 [p] (qM l p.1 p.2);have h2:=yC l p.1 p.2;unfold yj;simp at h1
 lia
def yk(w:Int)(p:Pr):Pa:=(p.1,p.2,w)
def jr(r:Ru)(lf:List Pr)(s:St):List Pa:=if 0 < wt r.lands (some s.1) then (yj (s.2.1,s.2.2) lf).map (yk (wt r.lands (some s.1))) else []
def qV(r:Ru)(lf:List Pr):List St->List Pa
 |[]=>[]
 | s::l=>jr r lf s++qV r lf l
theorem qoc(cl:Cl)(w:Int):∀(l:List Pr) (acc:List Pa) (s0 s1:Sl),acc.length+l.length < 10000->ze cl zg (.many [0,1]) .yes (l.map pD) [s0,s1,.val (.int w)] (acc.map paD)=.ok ((acc++l.map (yk w)).map paD)
 |[],acc,s0,s1,z=>by simp[qL]
 | p::l,acc,s0,s1,hl=>by
  rw[aK]at hl;have ih:=qoc cl w l (acc++[yk w p]) (.val (.int p.1)) (.val (.int p.2)) (sn hl);have three:0+1+1+1<=sizeLine:=(3:)
  have hs:(acc.map paD).length < sizeLine:=zk hl;simp![aR,au,aH,bf,cK,bp,qy,yk]at ih ⊢;simp?[yY,qG,three,hs,ih]
def Qm(r:Ru)(lf:List Pr)(s:St):(jr r lf s).length<=lf.length+2:=by
 unfold jr;split
 .rw[aD];exact y6 _ _
 .simp
theorem yD(r:Ru)(lf:List Pr):∀st:List St,(qV r lf st).length<=st.length * (lf.length+2)
 |[]=>by simp[qV]
 | s::l=>by
  rw[qV,aT,aK,Nat.succ_mul]
  have:=Qm r lf s
  have:=yD r lf l
  lia
section
variable{pg:Pg}[RU pg][BT pg]
theorem yE(k:Nat)(v0 v1 v2:Sl)(r:Ru)(hr:∀p∈r.lands,LnOk p)(lf:List Pr)(hf:lf.length<=20):∀(st:List St) (acc:List Pa) (s6 s7 s8 s9:Sl),(∀s∈st,NameOk s.1)->acc.length+st.length * 22 < 9000->
  ∃N',jy (pg.kk (k+2)) 1000 (.many [6,7,8]) zh (st.map stD) [v0,v1,v2,.val (ruI r),.own (lf.map pD),.own (acc.map paD),s6,s7,s8,s9]=.ok (.next (v0::v1::v2::.val (ruI r)::.own (lf.map pD)::.own ((acc++qV r lf st).map paD)::N'))
 |[],acc,s6,s7,s8,s9,_,_=>{[s6,s7,s8,s9],by simp[qV,qW]}
 | s::st,acc,s6,s7,s8,s9,hn,hl=>by
  rw[aK,Nat.succ_mul]at hl;have w:clK pg (k+2) "Rule.weight" [.val (ruI r),.val (.str s.1)]=.ok (.val (.int (wt r.lands (some s.1)))):=qf5 (pg:=pg) (k+1) r hr (some s.1) (λz hz=>by cases hz;exact hn s (5:));have l1:=Qm r lf s;have two:0+1+1<=sizeLine:=(3:)
  have one:0+1<=sizeLine:=(3:)
  by_cases hc:0 < wt r.lands (some s.1)
  .have e1:jr r lf s=(yj (s.2.1,s.2.2) lf).map (yk (wt r.lands (some s.1))):=by unfold jr;rw[if_pos hc]
   let(N',ih):=yE k v0 v1 v2 r hr lf hf st (acc++jr r lf s) (.val (.str s.1)) (.val (.int s.2.1)) (.val (.int s.2.2)) (.val (.int (wt r.lands (some s.1)))) (λx hx=>hn x (by simp[hx])) (by rw[aT];lia);refine{N',?_};have le:clK pg (k+2) "less" [.val (.lst [.tup [.int s.2.1,.int s.2.2]]),.bor (lf.map pD)]=.ok (.tmp ((yj (s.2.1,s.2.2) lf).map pD)):=qgc (pg:=pg) k true (s.2.1,s.2.2) lf (1:);have c:=qoc (pg.kk (k+2)) (wt r.lands (some s.1)) (yj (s.2.1,s.2.2) lf) [] .no .no (by have:=y6 (s.2.1,s.2.2) lf;simp;lia);rw[aH,bp,<-e1]at c;have z1:((yj (s.2.1,s.2.2) lf).map pD).length<=sizeLine:=by rw[aD];have:=y6 (s.2.1,s.2.2) lf;exact qx (1:)
   have z2:(acc.map paD).length+((jr r lf s).map paD).length<=sizeLine:=by rw[aD,aD];exact qx (1:)
   rw[qV,<-bf];rw[aR (l₁:=acc)]at ih;rw[au];simp?[zJ,jC,RU.cs,qbv,w,hc,one,two,le,z1,qb0,iY,iZ,c,z2,ih]
  .have e1:jr r lf s=[]:=by unfold jr;rw[if_neg hc]
   let(N',ih):=yE k v0 v1 v2 r hr lf hf st acc (.val (.str s.1)) (.val (.int s.2.1)) (.val (.int s.2.2)) (.val (.int (wt r.lands (some s.1)))) (λx hx=>hn x (by simp[hx])) (1:);refine{N',?_};rw[qV,e1,bp];rw[au];simp?[zJ,jC,RU.cs,qbv,w,hc,ih]
end
section
variable{pg:Pg}[RU pg][BO pg][SP pg][BT pg][PC pg]
def qgd(k:Nat)(b:Bool)(rs:List Ru)(ps:List Pa)(hp:ps.length<=18)(n:Nat)(r:Ru)(hn:rs[n]?=some r)(hr:∀p∈r.lands,LnOk p)(hlf:(lift n ps).length<=20)(st:List St)(hs:∀s∈st,NameOk s.1)(hl:st.length<=170) :
  clK pg (k+3) "pieces_among" [.val (bkI rs ps),.val (.int (n:Int)),aL b (st.map stD)]=.ok (.tmp ((qV r (lift n ps) st).map paD)):=by
 have a:=qdv (pg:=pg) (k+1) rs ps;have l:=qf6 (pg:=pg) k rs ps (n:Int) (1:);have e:=qf8 hn;rw[r_pieces_among];let(N',i):=yE (pg:=pg) k (.val (bkI rs ps)) (.val (.int (n:Int))) (pS b (st.map stD)) r hr (lift n ps) hlf st [] .no .no .no .no hs (by simp;lia);rw[aH,bp]at i;simp?![yr,RU.cs,qdu,qf4,a,l,e,show(0:Nat)<=sizeLine by decide+kernel,i]
end
def qjd(f t:Int):List Pa->Int->Int
 |[],a=>a
 | p::l,a=>qjd f t l (if 0 < mn p.2.1 t - mx p.1 f+1 then a+(mn p.2.1 t - mx p.1 f+1) * p.2.2 else a)
def WOk(l:List Pa):Prop:=∀p∈l,1<=p.2.2/\p.2.2<=9
theorem qai(cl:Cl)(v0:Sl)(f t:Int):∀(l:List Pa) (a:Int) (s4 s5 s6 s7:Sl),WOk l->∃N',jy cl 1000 (.many [4,5,6]) Ju (l.map paD) [v0,.val (.int f),.val (.int t),.val (.int a),s4,s5,s6,s7]=.ok (.next (v0::.val (.int f)::.val (.int t)::.val (.int (qjd f t l a))::N'))
 |[],a,s4,s5,s6,s7,_=>{[s4,s5,s6,s7],rfl}
 | p::l,a,s4,s5,s6,s7,h=>by
  have hw:=h p (5:);have mul:Qz (mn p.2.1 t - mx p.1 f+1) p.2.2=true:=yU (1:) (1:);rw[qjd]
  by_cases hc:0 < mn p.2.1 t - mx p.1 f+1
  .let(N',ih):=qai cl v0 f t l (a+(mn p.2.1 t - mx p.1 f+1) * p.2.2) (.val (.int p.1)) (.val (.int p.2.1)) (.val (.int p.2.2)) (.val (.int (mn p.2.1 t - mx p.1 f+1))) (λq hq=>h q (by simp[hq]));refine{N',?_};rw[if_pos hc];rw[au];simp?[JH,qy,mxF,mnF,hc,mul,ih]
  .let(N',ih):=qai cl v0 f t l a (.val (.int p.1)) (.val (.int p.2.1)) (.val (.int p.2.2)) (.val (.int (mn p.2.1 t - mx p.1 f+1))) (λq hq=>h q (by simp[hq]));refine{N',?_};rw[if_neg hc];rw[au];simp?[JH,qy,mxF,mnF,hc,ih]
def fsF(leave day:Int):List Pa->Int->Int
 |[],f=>f
 | p::l,f=>if p.1<=day then (if leave<=f - 1 - mn p.2.1 day then f else fsF leave day l p.1) else fsF leave day l f
theorem qcy(cl:Cl)(v0:Sl)(leave day:Int):∀(l:List Pa) (f:Int) (s4 s5 s6:Sl),∃F,jy cl 1000 (.many [4,5,6]) zy (l.map paD) [v0,.val (.int leave),.val (.int day),.val (.int f),s4,s5,s6]=.ok F/\(F=.ret (.val (.int (fsF leave day l f)))\/∃N',F=.next (v0::.val (.int leave)::.val (.int day)::.val (.int (fsF leave day l f))::N'))
 |[],f,s4,s5,s6=>{_,rfl,.inr {[s4,s5,s6],rfl}}
 | p::l,f,s4,s5,s6=>by
  rw[fsF]
  by_cases h1:p.1<=day
  .rw[if_pos h1]
   by_cases h2:leave<=f - 1 - mn p.2.1 day
   .rw[if_pos h2];refine{_,?_,.inl rfl};rw[au];simp?[qT,qy,h1,mnF,h2]
   .rw[if_neg h2];let(F,i,a):=qcy cl v0 leave day l p.1 (.val (.int p.1)) (.val (.int p.2.1)) (.val (.int p.2.2));refine{F,?_,a};rw[au];simp?[qT,qy,h1,mnF,h2,i]
  .rw[if_neg h1];let(F,i,a):=qcy cl v0 leave day l f (.val (.int p.1)) (.val (.int p.2.1)) (.val (.int p.2.2));refine{F,?_,a};rw[au];simp?[qT,qy,h1,i]
section
variable{pg:Pg}[RU pg][SU pg]
def qiq(k:Nat)(b:Bool)(l:List Pa)(h:WOk l)(f t:Int):clK pg (k+1) "sum_of" [aL b (l.map paD),.val (.int f),.val (.int t)]=.ok (.val (.int (qjd f t l 0))):=by rw[r_sum_of];let(N',i):=qai (pg.kk k) (pS b (l.map paD)) f t l 0 .no .no .no .no h;simp?![qdw,i]
def qaj(k:Nat)(b:Bool)(l:List Pa)(leave day:Int):clK pg (k+1) "first_since" [aL b (l.map paD),.val (.int leave),.val (.int day)]=.ok (.val (.int (fsF leave day l.reverse (day+1)))):=by rw[r_first_since];let(F,i,a):=qcy (pg.kk k) (pS b (l.map paD)) leave day l.reverse (day+1) .no .no .no;rw[List.map_reverse]at i;rcases a with rfl|⟨N',rfl⟩<;>simp?![yZ,i]
def qlt(r:Ru)(l:List Pa)(d:Int):Int:=if r.kd.isW=true then d - r.days+1 else fsF r.days d l.reverse (d+1)
def qH(r:Ru)(l:List Pa)(d:Int):Int:=qjd (qlt r l d) d l 0
theorem qod(k:Nat)(b:Bool)(r:Ru)(l:List Pa)(d:Int):clK pg (k+2) "first_of_window" [.val (ruI r),aL b (l.map paD),.val (.int d)]=.ok (.val (.int (qlt r l d))):=by
 have s:=qaj (pg:=pg) k b l r.days d;have iw:=qbw (xx:=pg.xx) r;rw[r_first_of_window];unfold qlt
 cases hk:r.kd.isW with
 |true=>rw[hk]at iw;simp?![qU,RU.cs,iw,qf2 r hk]
 |false=>
  rw[hk]at iw
  try simp only[qn5,qn6]at s
  simp?![qU,RU.cs,iw,qdt r hk,s]
def y7(k:Nat)(b:Bool)(r:Ru)(l:List Pa)(h:WOk l)(d:Int):clK pg (k+3) "count_among" [.val (ruI r),aL b (l.map paD),.val (.int d)]=.ok (.val (.int (qH r l d))):=by
 have s:=qiq (pg:=pg) (k+1) b l h (qlt r l d) d;have f:=qod (pg:=pg) k b r l d;rw[r_count_among];unfold qH
 try simp only[qn5,qn6]at s f
 simp?![y0,f,s]
end
def jY(span:Int):List Pa->List Int
 |[]=>[]
 | p::l=>(p.1+span)::(p.2.1+1+span)::jY span l
def y8(r:Ru)(l:List Pa):List Int:=if r.kd.isW=true then jY r.days l else []
theorem Zf(cl:Cl){xx:Xs}(hcs:cl.cs=pcs xx)(v1:Sl)(r:Ru)(hk:r.kd.isW=true):∀(l:List Pa) (acc:List Int) (s3 s4 s5:Sl),acc.length+2 * l.length < 10000->∃N',jy cl 1000 (.many [3,4,5]) jX (l.map paD) [.val (ruI r),v1,.own (acc.map D.int),s3,s4,s5]=.ok (.next (.val (ruI r)::v1::.own ((acc++jY r.days l).map D.int)::N'))
 |[],acc,s3,s4,s5,_=>{[s3,s4,s5],by simp[jY,qW]}
 | p::l,acc,s3,s4,s5,hl=>by
  rw[aK]at hl;let(N',ih):=Zf cl hcs v1 r hk l (acc++[p.1+r.days]++[p.2.1+1+r.days]) (.val (.int p.1)) (.val (.int p.2.1)) (.val (.int p.2.2)) (by simp;lia);refine{N',?_};have hs:(acc.map D.int).length < sizeLine:=zk hl;have hs2:(acc.map D.int++[D.int (p.1+r.days)]).length < sizeLine:=by simp;exact zx (1:)
  rw[jY,show acc++(p.1+r.days)::(p.2.1+1+r.days)::jY r.days l=acc++[p.1+r.days]++[p.2.1+1+r.days]++jY r.days l by simp];rw[aR (l₁:=acc++[p.1+r.days]),aR (l₁:=acc),au,aH,au,aH]at ih;rw[au];simp?[QF,qy,hcs,qf2 r hk,hs,hs2,ih]
theorem Zg(s:Int):∀l:List Pa,(jY s l).length=2 * l.length
 |[]=>rfl
 | p::l=>by rw[jY,aK,aK,Zg s l,aK];lia
theorem qje:∀(a b:List Int),qej (a.map D.int) (b.map D.int)=(a.zip b).map pD
 |[],b=>by simp[qej]
 | x::a,[]=>by simp[qej]
 | x::a,y::b=>by
  have:=qje a b
  unfold qej at this ⊢;rw[au,au,f6,this];rfl
def qk9(d:D)(l:List D):qaB (d::l) (some 1) none=l:=by unfold qaB;rw[show(some (1:Int))=some ((1:Nat):Int) from rfl,HT.YE,HT.Zs];simp
def qaD(st:List St)(x:Rl):List Pa:=qV x.1 x.2 st
def Spr.tail{p:Pr}{l:List Pr}(h:Spr (p::l)):Spr l:={λq hq=>h.ok q (by simp[hq]),(bg.mp h.gap).2}
def qp{p:Pr}{l:List Pr}{d:Int}:Day (p::l) d↔(p.1<=d/\d<=p.2)\/Day l d:=by
 unfold Day;constructor
 .rintro⟨q,hq,h⟩;rcases aF.mp hq with rfl|hq
  .exact .inl h
  .exact .inr ⟨q,hq,h⟩
 .rintro (h|⟨q,hq,h⟩)
  .exact{p,by simp,h}
  .exact{q,by simp[hq],h}
def qJ{d:Int}:¬ Day [] d:=λ⟨z,h,y⟩=>by cases h
structure Apart(l:List Pr):Prop where
 ok:∀p∈l,p.1<=p.2
 ap:l.Pairwise λp q=>p.2+1 < q.1
structure OutOk(b:Int)(l:List Pr)(F:List Pr)(b':Int):Prop where
 apart:Apart F
 lo:∀x∈F,b<=x.1
 hi:∀x∈F,x.2+1 < b'
 le:b<=b'
 day:∀d,b<=d->d < b'->(Day F d↔¬ Day l d)
 end_:∀d,b'<=d->¬ Day l d
theorem qjf:∀(l:List Pr) (b:Int),Spr l->OutOk b l (JX b l).1 (JX b l).2
 |[],b,w=>{{λw h=>(by cases h),List.Pairwise.nil},λw h=>(by cases h),λw h=>(by cases h),bG _,λd h1 h2=>by dsimp only[JX]at h2;lia,λd w=>qJ}
 | t::l,b,hS=>by
  have hS':=Spr.tail hS;have ht:=hS.ok t (5:);have hg:=(bg.mp hS.gap).1;have hlow:∀d,Day l d->t.2+2<=d:=λd ⟨q,hq,h1,w⟩=>by have:=hg q hq;lia
  have ih:=qjf l (mx b (t.2+1)) hS';have hm:=qip b (t.2+1);rw[JX];generalize hb1:mx b (t.2+1)=b1 at *;have hle:=ih.le
  have hb:b<=b1/\t.2+1<=b1/\(b1=b\/b1=t.2+1):=by
   rcases f7 b (t.2+1) with q|q
   .have:=hm.1 q;lia
   .have:=hm.2 q;lia
  generalize (JX b1 l).1=F at *;generalize (JX b1 l).2=b' at *;dsimp only
  by_cases hc:b < t.1
  .rw[if_pos hc];refine{{λx hx=>?_,?_},λx hx=>?_,λx hx=>?_,by lia,λd h1 h2=>?_,λd h1=>?_}
   .rcases aF.mp hx with rfl|hx
    .dsimp only;lia
    .exact ih.apart.ok x hx
   .refine bg.mpr ⟨λx hx=>?_,ih.apart.ap⟩
    have:=ih.lo x hx
    dsimp only
    lia
   .rcases aF.mp hx with rfl|hx
    .dsimp only;lia
    .have:=ih.lo x hx;lia
   .rcases aF.mp hx with rfl|hx
    .dsimp only;lia
    .exact ih.hi x hx
   .show Day ((b,t.1 - 1)::F) d↔_;rw[qp,qp]
    by_cases q:d < b1
    .have n1:¬ Day F d:=λ⟨x,hx,h3,w⟩=>by have:=ih.lo x hx;lia
     have n2:¬ Day l d:=λz=>by have:=hlow d z;lia
     dsimp only;constructor
     .rintro (z|z)
      .rintro (y|y)
       .lia
       .exact n2 y
      .exact absurd z n1
     .intro z;left;refine{h1,?_}
      by_cases y:t.1<=d
      .exact absurd (.inl ⟨y,by lia⟩) z
      .lia
    .have:=ih.day d (1:) h2
     rw[this];dsimp only;constructor
     .rintro (z|z)
      .lia
      .rintro (y|y)
       .lia
       .exact z y
     .intro z;exact .inr λy=>z (.inr y)
   .rw[qp];rintro (z|z)
    .lia
    .exact ih.end_ d h1 z
  .rw[if_neg hc,bp];refine{ih.apart,λx hx=>by have:=ih.lo x hx;lia,ih.hi,by lia,λd h1 h2=>?_,λd h1=>?_}
   .rw[qp]
    by_cases q:d < b1
    .have n1:¬ Day F d:=λ⟨x,hx,h3,w⟩=>by have:=ih.lo x hx;lia
     constructor
     .intro z;exact absurd z n1
     .intro z;exact absurd (.inl ⟨by lia,by lia⟩) z
    .rw[ih.day d (1:) h2];constructor
     .intro z;rintro (y|y)
      .lia
      .exact z y
     .intro z y;exact z (.inr y)
   .rw[qp];rintro (z|z)
    .lia
    .exact ih.end_ d h1 z
def qev{l:List Pr}(h:Spr l)(f t:Int):Apart (qM l f t)/\(∀x∈qM l f t,f<=x.1)/\∀d,f<=d->d<=t->(Day (qM l f t) d↔¬ Day l d):=by
 have o:=qjf l f h;have hle:=o.le;unfold qM;generalize (JX f l).1=F at *;generalize (JX f l).2=b at *
 by_cases hc:b<=t
 .rw[if_pos hc];refine{{λx hx=>?_,?_},λx hx=>?_,λd h1 h2=>?_}
  .rcases aV.mp hx with q|q
   .exact o.apart.ok x q
   .rw[aU.mp q];exact hc
  .refine bU.mpr ⟨o.apart.ap,by simp,λx hx y hy=>?_⟩;rw[aU.mp hy];exact o.hi x hx
  .rcases aV.mp hx with q|q
   .exact o.lo x q
   .rw[aU.mp q];exact hle
  .rw[jW,qac]
   by_cases q:d < b
   .rw[<-o.day d h1 q];dsimp only;constructor
    .rintro (z|z)
     .exact z
     .lia
    .exact .inl
   .have n:=o.end_ d (1:);constructor
    .intro _;exact n
    .intro _;exact .inr ⟨by dsimp only;lia,h2⟩
 .rw[if_neg hc,b5];exact{o.apart,o.lo,λd h1 h2=>o.day d h1 (1:)}
theorem qoe(p:Pr)(hp:p.1<=p.2):∀(n:Nat) (B:List Pr),B.length < n->Apart B->Apart (jb n [p] B)/\(∀x∈jb n [p] B,p.1<=x.1/\x.2<=p.2/\∃q∈B,q.1<=x.1/\x.2<=q.2)/\∀d,Day (jb n [p] B) d↔(p.1<=d/\d<=p.2)/\Day B d
 |0,B,h,w=>by lia
 | n+1,[],w,v=>{{λw h=>(by cases h),List.Pairwise.nil},λw h=>(by cases h),λd=>{λz=>absurd z qJ,λz=>absurd z.2 qJ}}
 | n+1,q::B,h,hA=>by
  rw[aK]at h;have hq:=hA.ok q (5:);have hg:=(bg.mp hA.ap);have hlow:∀d,Day B d->q.2 < d:=λd ⟨x,hx,h1,w⟩=>by have:=hg.1 x hx;lia
  have m1:=qip p.1 q.1;have m2:=qbz p.2 q.2;rw[jb]
  have hm1:p.1<=mx p.1 q.1/\q.1<=mx p.1 q.1/\(mx p.1 q.1=p.1\/mx p.1 q.1=q.1):=by
   rcases f7 p.1 q.1 with z|z
   .have:=m1.1 z;lia
   .have:=m1.2 z;lia
  have hm2:mn p.2 q.2<=p.2/\mn p.2 q.2<=q.2/\(mn p.2 q.2=p.2\/mn p.2 q.2=q.2):=by
   rcases f7 p.2 q.2 with z|z
   .have:=m2.1 z;lia
   .have:=m2.2 z;lia
  generalize mx p.1 q.1=a at *;generalize mn p.2 q.2=b at *
  let(R,hR,r1,r2,r3):∃R,(if p.2 < q.2 then jb n [] (q::B) else jb n [p] B)=R/\Apart R/\(∀x∈R,p.1<=x.1/\x.2<=p.2/\(∃y∈q::B,y.1<=x.1/\x.2<=y.2)/\b+1 < x.1)/\∀d,Day R d↔(p.1<=d/\d<=p.2)/\Day B d:=by
   by_cases hd:p.2 < q.2
   .rw[if_pos hd];have e:jb n [] (q::B)=[]:=by cases n<;>rfl
    rw[e];exact{[],rfl,{λw h=>(by cases h),List.Pairwise.nil},λw h=>(by cases h),λd=>{λz=>absurd z qJ,λz=>by have:=hlow d z.2;lia}}
   .rw[if_neg hd];let(i1,i2,i3):=qoe p hp n B (1:) ⟨λx hx=>hA.ok x (by simp[hx]),hg.2⟩;refine{_,rfl,i1,λx hx=>?_,i3};let(j1,j2,y,hy,j3,j4):=i2 x hx
    have:=hg.1 y hy
    exact{j1,j2,{y,by simp[hy],j3,j4},by lia}
  rw[hR]
  by_cases hc:a<=b
  .rw[if_pos hc];refine{{λx hx=>?_,?_},λx hx=>?_,λd=>?_}
   .rcases aF.mp hx with rfl|hx
    .exact hc
    .exact r1.ok x hx
   .exact bg.mpr ⟨λx hx=>(r2 x hx).2.2.2,r1.ap⟩
   .rcases aF.mp hx with rfl|hx
    .exact{by dsimp only;lia,by dsimp only;lia,q,by simp,by dsimp only;lia,by dsimp only;lia}
    .exact{(r2 x hx).1,(r2 x hx).2.1,(r2 x hx).2.2.1}
   .show Day ((a,b)::R) d↔_;rw[qp,qp,r3];dsimp only;constructor
    .rintro (z|z)
     .exact{by lia,.inl (1:)}
     .exact{z.1,.inr z.2}
    .rintro⟨z,y|y⟩
     .left;lia
     .exact .inr ⟨z,y⟩
  .rw[if_neg hc,bp];refine{r1,λx hx=>{(r2 x hx).1,(r2 x hx).2.1,(r2 x hx).2.2.1},λd=>?_};rw[qp,r3];constructor
   .intro z;exact{z.1,.inr z.2}
   .rintro⟨z,y|y⟩
    .lia
    .exact⟨z,y⟩
def qge{l:List Pr}(h:Spr l)(hl:l.length < 900){p:Pr}(hp:p.1<=p.2):Apart (yj p l)/\(∀x∈yj p l,p.1<=x.1/\x.2<=p.2)/\∀d,Day (yj p l) d↔(p.1<=d/\d<=p.2)/\¬ Day l d:=by
 let(o1,o2,o3):=qev h p.1 p.2;let(b1,b2,b3):=qoe p hp 1000 (qM l p.1 p.2) (by have:=yC l p.1 p.2;lia) o1;refine{b1,λx hx=>{(b2 x hx).1,(b2 x hx).2.1},λd=>?_};unfold yj;rw[b3];constructor
 .rintro⟨z,y⟩;exact{z,(o3 d z.1 z.2).mp y}
 .rintro⟨z,y⟩;exact{z,(o3 d z.1 z.2).mpr y}
def inP(p:Pa)(d:Int):Prop:=p.1<=d/\d<=p.2.1
instance (p:Pa)(d:Int):Decidable (inP p d):=by unfold inP;infer_instance
def ind(p:Pa)(d:Int):Int:=if inP p d then p.2.2 else 0
def pf:List Pa->Int->Int
 |[],z=>0
 | p::l,d=>if inP p d then p.2.2 else pf l d
structure PcOk(L:List Pa):Prop where
 ok:∀p∈L,p.1<=p.2.1/\1<=p.2.2/\p.2.2<=9
 ap:L.Pairwise λp q=>p.2.1 < q.1
def PcOk.tail{p:Pa}{l:List Pa}(h:PcOk (p::l)):PcOk l:={λq hq=>h.ok q (by simp[hq]),(bg.mp h.ap).2}
def PcOk.w{L:List Pa}(h:PcOk L):WOk L:=λp hp=>(h.ok p hp).2
theorem zA{L:List Pa}{d:Int}(h:∀p∈L,¬ inP p d):pf L d=0:=by
 induction L with
 |nil=>rfl
 |cons p l ih=>rw[pf,if_neg (h p (5:))];exact ih λq hq=>h q (by simp[hq])
theorem qof{a b:List Pa}{d:Int}:pf (a++b) d=if ∃p∈a,inP p d then pf a d else pf b d:=by
 induction a with
 |nil=>simp
 |cons p l ih=>
  rw[cK,pf]
  by_cases h:inP p d
  .rw[if_pos h,if_pos ⟨p,by simp,h⟩,pf,if_pos h]
  .rw[if_neg h,ih]
   by_cases g:∃q∈l,inP q d
   .rw[if_pos g,if_pos (by let(q,hq,hh):=g;exact{q,by simp[hq],hh}),pf,if_neg h]
   .rw[if_neg g,if_neg];rintro⟨q,hq,hh⟩;rcases aF.mp hq with rfl|hq
    .exact h hh
    .exact g ⟨q,hq,hh⟩
theorem Jw{L:List Pa}(hL:PcOk L){p:Pa}(hp:p∈L){d:Int}(h:inP p d):pf L d=p.2.2:=by
 induction L with
 |nil=>cases hp
 |cons q l ih=>
  rw[pf];rcases aF.mp hp with rfl|hp
  .rw[if_pos h]
  .have:=(bg.mp hL.ap).1 p hp
   rw[if_neg (λz=>by unfold inP at *;lia)];exact ih hL.tail hp
def qqf{L:List Pa}(hL:PcOk L)(d:Int):0<=pf L d:=by
 by_cases h:∃p∈L,inP p d
 .let(p,hp,hd):=h;rw[Jw hL hp hd]
  have:=(hL.ok p hp).2.1
  lia
 .rw[zA λp hp hd=>h ⟨p,hp,hd⟩];exact bG _
def qla{L:List Pa}{d:Int}(h:pf L d≠0):∃p∈L,inP p d:=by
 by_cases q:∃p∈L,inP p d
 .exact q
 .exact absurd (zA λp hp hd=>q ⟨p,hp,hd⟩) h
theorem qqg{l:List (Str×Int)}(h:∀p∈l,LnOk p)(o:Option Str):wt l o<=9:=by
 induction l with
 |nil=>show(0:Int)<=9;decide
 |cons p l ih=>
  unfold wt;split
  .exact(h p (5:)).nine
  .exact ih λq hq=>h q (by simp[hq])
instance dayDec(F:List Pr)(d:Int):Decidable (Day F d):=decidable_of_iff _ jq
theorem qog(w:Int)(F:List Pr)(d:Int):pf (F.map (yk w)) d=if Day F d then w else 0:=by
 induction F with
 |nil=>rw[if_neg qJ];rfl
 |cons p l ih=>
  rw[au,pf,ih]
  by_cases h:p.1<=d/\d<=p.2
  .rw[if_pos (show inP (yk w p) d from h),if_pos (qp.mpr (.inl h))];rfl
  .rw[if_neg (show ¬ inP (yk w p) d from h)]
   by_cases g:Day l d
   .rw[if_pos g,if_pos (qp.mpr (.inr g))]
   .rw[if_neg g,if_neg (λz=>(qp.mp z).elim h g)]
def Chw:Int->List St->Prop
 |z,[]=>True
 | e,s::l=>(e < s.2.1/\s.2.1<=s.2.2)/\Chw s.2.2 l
theorem Ch.w:∀{l:List St} {e:Int},Ch e l->Chw e l
 |[],z,y=>trivial
 | z::y,x,h=>{⟨h.1.lo,h.1.ab⟩,Ch.w h.2}
def qgS(w:Int)(F:List Pr):List Pa:=if 0 < w then F.map (yk w) else []
theorem Jx{r:Ru}(hr:∀p∈r.lands,LnOk p){lf:List Pr}{cut:St->List Pr}{P:List St->List Pa}(p0:P []=[])(p1:∀s l,P (s::l)=qgS (wt r.lands (some s.1)) (cut s)++P l)
  (hc:∀s:St,s.2.1<=s.2.2->(∀p∈cut s,s.2.1<=p.1/\p.1<=p.2/\p.2<=s.2.2)/\(cut s).Pairwise (λp q=>p.2 < q.1)/\∀d,Day (cut s) d↔(s.2.1<=d/\d<=s.2.2)/\¬ Day lf d) :
  ∀(st:List St) (e:Int),Chw e st->PcOk (P st)/\(∀p∈P st,e < p.1)/\∀d,pf (P st) d=wgt r lf st d
 |[],e,_=>by rw[p0];exact{{λ_ h=>(by cases h),List.Pairwise.nil},λ_ h=>(by cases h),λd=>(qk6 rfl).symm}
 | s::st,e,h=>by
  let(i1,i2,i3):=Jx hr p0 p1 hc st s.2.2 h.2;have h1:=h.1.1;have h2:=h.1.2;let(l1,l2,l3):=hc s h.1.2;have w9:=qqg hr (some s.1);have wn:=qqe hr (some s.1);rw[p1];generalize e0:wt r.lands (some s.1)=w at w9 wn
  have one:PcOk (qgS w (cut s))/\(∀p∈qgS w (cut s),s.2.1<=p.1/\p.2.1<=s.2.2)/\∀d,pf (qgS w (cut s)) d=if (s.2.1<=d/\d<=s.2.2)/\¬ Day lf d then w else 0:=by
   unfold qgS
   by_cases hw:0 < w
   .rw[if_pos hw];refine{{λp hp=>?_,iK.mpr l2},λp hp=>?_,λd=>?_}
    .let(x,hx,rfl):=df.mp hp;exact{(l1 x hx).2.1,hw,w9}
    .let(x,hx,rfl):=df.mp hp;exact{(l1 x hx).1,(l1 x hx).2.2}
    .rw[qog]
     by_cases g:Day (cut s) d
     .rw[if_pos g,if_pos ((l3 d).mp g)]
     .rw[if_neg g,if_neg (λz=>g ((l3 d).mpr z))]
   .rw[if_neg hw];refine{{λ_ h=>(by cases h),List.Pairwise.nil},λ_ h=>(by cases h),λd=>?_};rw[show w=0 by lia];simp[pf]
  let(o1,o2,o3):=one;refine{{λp hp=>?_,?_},λp hp=>?_,λd=>?_}
  .rcases aV.mp hp with q|q
   .exact o1.ok p q
   .exact i1.ok p q
  .refine bU.mpr ⟨o1.ap,i1.ap,λx hx y hy=>?_⟩
   have:=(o2 x hx).2
   have:=i2 y hy
   lia
  .rcases aV.mp hp with q|q
   .have:=(o2 p q).1;lia
   .have:=i2 p q;lia
  .rw[qof]
   by_cases hd:s.2.1<=d/\d<=s.2.2
   .have n:pf (P st) d=0:=zA λp hp z=>by have:=i2 p hp;unfold inP at z;lia
    have e1:(if ∃p∈qgS w (cut s),inP p d then pf (qgS w (cut s)) d else pf (P st) d)=pf (qgS w (cut s)) d:=by
     split
     .rfl
     .rename_i g;rw[n,zA λp hp hz=>g ⟨p,hp,hz⟩]
    rw[e1,o3];unfold wgt Qf;rw[if_pos hd]
    by_cases g:Day lf d
    .rw[if_neg (λz=>z.2 g),if_pos (jq.mpr g)]
    .rw[if_pos ⟨hd,g⟩,if_neg (λz=>g (jq.mp z)),e0]
   .rw[if_neg (λ⟨p,hp,z⟩=>by have:=o2 p hp;unfold inP at z;lia),i3];unfold wgt;rw[show Qf (s::st) d=Qf st d by conv=>lhs;unfold Qf;rw[if_neg hd]]
def qbA{r:Ru}(hr:∀p∈r.lands,LnOk p){lf:List Pr}(hS:Spr lf)(hl:lf.length < 900):∀(st:List St) (e:Int),Chw e st->PcOk (qV r lf st)/\(∀p∈qV r lf st,e < p.1)/\∀d,pf (qV r lf st) d=wgt r lf st d:=
 Jx hr (cut:=λs=>yj (s.2.1,s.2.2) lf) rfl (λz z=>rfl) λs h2=>by let(l1,l2,l3):=qge hS hl (p:=(s.2.1,s.2.2)) h2;exact{λp hp=>{(l2 p hp).1,l1.ok p hp,(l2 p hp).2},l1.ap.imp λq=>by lia,l3}
def qir(f t:Int)(p:Pa):Int:=if 0 < mn p.2.1 t - mx p.1 f+1 then (mn p.2.1 t - mx p.1 f+1) * p.2.2 else 0
def Qx(f t:Int):List Pa->Int
 |[]=>0
 | p::l=>qir f t p+Qx f t l
theorem Qn(f t:Int):∀(l:List Pa) (a:Int),qjd f t l a=a+Qx f t l
 |[],a=>by simp[qjd,Qx]
 | p::l,a=>by
  rw[qjd,Qn f t l,Qx];unfold qir
  split<;>lia
theorem qdx(f t:Int):∀a b:List Pa,Qx f t (a++b)=Qx f t a+Qx f t b
 |[],b=>by simp[Qx]
 | p::a,b=>by rw[cK,Qx,Qx,qdx f t a b];lia
theorem qdy(f t:Int):∀l:List Pa,Qx f t l.reverse=Qx f t l
 |[]=>rfl
 | p::l=>by rw[List.reverse_cons,qdx,qdy f t l,Qx,Qx,Qx];lia
theorem qjg(p:Pa)(hp:p.1<=p.2.1)(f:Int):∀n:Nat,(ws (ind p) f n).sum=qir f (f+n - 1) p
 |0=>by
  have m1:=qip p.1 f;have m2:=qbz p.2.1 (f+(0:Nat) - 1);unfold qir;rw[if_neg]
  .simp[ws]
  .rcases f7 p.1 f with z|z<;>rcases f7 p.2.1 (f+(0:Nat) - 1) with y|y
   .have:=m1.1 z;have:=m2.1 y;lia
   .have:=m1.1 z;have:=m2.2 y;lia
   .have:=m1.2 z;have:=m2.1 y;lia
   .have:=m1.2 z;have:=m2.2 y;lia
 | n+1=>by
  rw[qcx,qjg p hp f n];have m1:=qip p.1 f;have m2:=qbz p.2.1 (f+(n:Int) - 1);have m3:=qbz p.2.1 (f+((n+1:Nat):Int) - 1);have e:f+((n+1:Nat):Int) - 1=f+n:=by lia
  rw[e]at m3 ⊢;unfold qir ind
  have hm1:p.1<=mx p.1 f/\f<=mx p.1 f/\(mx p.1 f=p.1\/mx p.1 f=f):=by
   rcases f7 p.1 f with z|z
   .have:=m1.1 z;lia
   .have:=m1.2 z;lia
  generalize mx p.1 f=a at *
  by_cases h1:f+(n:Int) < p.1
  .rw[if_neg (c:=inP p (f+(n:Int))) (λz=>by unfold inP at z;lia)]
   have:=m2.2 (1:)
   have:=m3.2 (1:)
   rw[if_neg (1:),if_neg (1:)];rfl
  .by_cases h2:p.2.1 < f+(n:Int)
   .rw[if_neg (c:=inP p (f+(n:Int))) (λz=>by unfold inP at z;lia)];have a1:=m2.1 (1:);have a2:=m3.1 (1:);rw[a1,a2]
    lia
   .rw[if_pos (c:=inP p (f+(n:Int))) ⟨by lia,by lia⟩];have a1:=m2.2 (1:);have a2:=m3.2 (1:);rw[a1,a2];have hpos:0 < f+(n:Int) - a+1:=by lia
    rw[if_pos hpos]
    by_cases h3:0 < f+(n:Int) - 1 - a+1
    .rw[if_pos h3,show f+(n:Int) - a+1=(f+(n:Int) - 1 - a+1)+1 by lia];generalize f+(n:Int) - 1 - a+1=k;rw[Int.add_mul,eR]
    .rw[if_neg h3,show f+(n:Int) - a+1=1 by lia,eR]
     lia
theorem qjh{f g h:Int->Int}:∀(n:Nat) (lo:Int),(∀x,f x=g x+h x)->(ws f lo n).sum=(ws g lo n).sum+(ws h lo n).sum
 |0,z,y=>by simp[ws]
 | n+1,lo,e=>by
  rw[ws,ws,ws,dt,dt,dt,qjh n (lo+1) e,e lo]
  lia
theorem qqh{L:List Pa}(hL:PcOk L)(f:Int)(n:Nat):(ws (pf L) f n).sum=Qx f (f+n - 1) L:=by
 induction L with
 |nil=>rw[Qx];exact Qh n f λx y y=>rfl
 |cons p l ih=>
  have hp:=(hL.ok p (5:)).1;rw[Qx,<-qjg p hp,<-ih hL.tail];refine qjh n f λx=>?_;rw[pf];unfold ind
  by_cases h:inP p x
  .rw[if_pos h,if_pos h,zA λq hq z=>by have:=(bg.mp hL.ap).1 q hq;unfold inP at *;lia]
   lia
  .rw[if_neg h,if_neg h]
   lia
def chn(leave d:Int):List Pa->Int->Int
 |[],z=>0
 | p::R,f=>if p.1<=d then (if leave<=f - 1 - mn p.2.1 d then 0 else (mn p.2.1 d - p.1+1) * p.2.2+chn leave d R p.1) else chn leave d R f
structure RvOk(R:List Pa):Prop where
 ok:∀p∈R,p.1<=p.2.1
 ap:R.Pairwise λp q=>q.2.1 < p.1
def RvOk.of{L:List Pa}(h:PcOk L):RvOk L.reverse:={λp hp=>(h.ok p (-hp:)).1,gF.mpr h.ap}
def RvOk.tail{p:Pa}{R:List Pa}(h:RvOk (p::R)):RvOk R:={λq hq=>h.ok q (by simp[hq]),(bg.mp h.ap).2}
def qoh(a b:Int):mn a b<=a/\mn a b<=b/\(mn a b=a\/mn a b=b):=by
 unfold mn
 split<;>lia
def qis(a b:Int):a<=mx a b/\b<=mx a b/\(mx a b=a\/mx a b=b):=by
 unfold mx
 split<;>lia
theorem qbB{f t:Int}:∀{R:List Pa},(∀p∈R,p.2.1 < f)->Qx f t R=0
 |[],z=>rfl
 | p::R,h=>by rw[Qx,qbB λq hq=>h q (by simp[hq])];have h0:=h p (5:);have h1:=qoh p.2.1 t;have h2:=qis p.1 f;unfold qir;rw[if_neg (1:)];rfl
theorem qgf{leave d:Int}(hl:1<=leave):∀(R:List Pa) (f:Int),RvOk R->(d < f\/∀p∈R,p.2.1 < f)->fsF leave d R f<=f/\Qx (fsF leave d R f) d R=chn leave d R f
 |[],f,z,y=>{bG _,rfl}
 | p::R,f,hR,hf=>by
  have hp:=hR.ok p (5:);have hg:=(bg.mp hR.ap).1;have hm:=qoh p.2.1 d;rw[fsF,chn,Qx]
  by_cases h1:p.1<=d
  .rw[if_pos h1,if_pos h1]
   by_cases h2:leave<=f - 1 - mn p.2.1 d
   .rw[if_pos h2,if_pos h2];refine{bG _,?_};rw[qbB λq hq=>by have:=hg q hq;lia]
    have:=qis p.1 f
    unfold qir;rw[if_neg (1:)];rfl
   .rw[if_neg h2,if_neg h2];let(i1,i2):=qgf (d:=d) hl R p.1 hR.tail (.inr hg)
    have hlt:p.1<=f:=by
     rcases hf with q|q
     .lia
     .have:=q p (5:);lia
    refine{by lia,?_};rw[i2]
    have:=qis p.1 (fsF leave d R p.1)
    have e:mx p.1 (fsF leave d R p.1)=p.1:=by lia
    unfold qir;rw[e,if_pos (1:)]
  .rw[if_neg h1,if_neg h1];let(i1,i2):=qgf hl R f hR.tail (hf.imp id λq x hx=>q x (by simp[hx]));refine{i1,?_};rw[i2]
   have:=qis p.1 (fsF leave d R f)
   unfold qir;rw[if_neg (1:)]
   lia
theorem qak{leave d:Int}:∀(B R:List Pa) (f:Int),(∀p∈B,d < p.1)->chn leave d (B++R) f=chn leave d R f
 |[],R,f,z=>rfl
 | p::B,R,f,h=>by have h0:=h p (5:);rw[cK,chn,if_neg (1:)];exact qak B R f λq hq=>h q (by simp[hq])
theorem qal{leave d d':Int}:∀(R:List Pa) (f:Int),(∀p∈R,p.1<=p.2.1/\p.2.1<=d/\p.2.1<=d')->chn leave d R f=chn leave d' R f
 |[],z,y=>rfl
 | p::R,f,h=>by have h0:=h p (5:);have e1:mn p.2.1 d=p.2.1:=(qbz p.2.1 d).1 h0.2.1;have e2:mn p.2.1 d'=p.2.1:=(qbz p.2.1 d').1 h0.2.2;rw[chn,chn,if_pos (c:=p.1<=d) (1:),if_pos (c:=p.1<=d') (1:),e1,e2,qal R p.1 λq hq=>h q (by simp[hq])]
def qgg{r:Ru}(hk:r.kd.isW=true)(h1:1<=r.days){L:List Pa}(hL:PcOk L)(d:Int):qH r L d=(ws (pf L) (d - r.days+1) r.days.toNat).sum:=by
 unfold qH qlt;rw[if_pos hk,Qn,qqh hL,show d - r.days+1+(r.days.toNat:Int) - 1=d by lia]
 lia
def qgh{r:Ru}(hk:r.kd.isW=false)(h1:1<=r.days){L:List Pa}(hL:PcOk L)(d:Int):qH r L d=chn r.days d L.reverse (d+1):=by
 unfold qH qlt;rw[if_neg (by rw[hk];decide),Qn,<-qdy,(qgf h1 L.reverse (d+1) (RvOk.of hL) (.inl (1:))).2]
 lia
theorem qdz{d:Int}:∀{R:List Pa},RvOk R->∃B A,R=B++A/\(∀p∈B,d < p.1)/\∀p∈A,p.1<=d
 |[],z=>{[],[],rfl,λz h=>(by cases h),λz h=>(by cases h)}
 | p::R,h=>by
  by_cases hd:d < p.1
  .let(B,A,e,h1,h2):=qdz (d:=d) h.tail;refine{p::B,A,by rw[e];rfl,λq hq=>?_,h2};rcases aF.mp hq with rfl|hq
   .exact hd
   .exact h1 q hq
  .refine{[],p::R,rfl,λz h=>(by cases h),λq hq=>?_};rcases aF.mp hq with rfl|hq
   .lia
   .have:=(bg.mp h.ap).1 q hq
    have:=h.ok q (by simp[hq])
    lia
def qit(f:Int->Int)(n d:Int):Prop:=∀x,d - n < x->x<=d->f x=0
theorem qew{leave:Int}(h1:1<=leave){L:List Pa}(hL:PcOk L)(d:Int) :
  (qit (pf L) leave d->chn leave d L.reverse (d+1)=0)/\(¬ qit (pf L) leave d->chn leave d L.reverse (d+1)=chn leave (d - 1) L.reverse d+pf L d):=by
 have hR:=RvOk.of hL;let(B,A,e,hB,hA):=qdz (d:=d) hR;have mem:∀p,p∈L↔p∈B\/p∈A:=λp=>by rw[<-ff,e,aV]
 rw[e,qak B A _ hB,qak B A _ (λp hp=>by have:=hB p hp;lia)]
 cases A with
 |nil=>
  refine{λw=>rfl,λh=>absurd (λx w hx=>?_) h}
  exact zA λp hp z=>by
   rcases (mem p).mp hp with q|q
   .have:=hB p q;unfold inP at z;lia
   .cases q
 |cons q A=>
  have hq:q∈L:=(mem q).mpr (.inr (5:));have hqo:=hL.ok q hq;have hq1:=hA q (5:)
  have hap:∀p∈A,p.2.1 < q.1:=by
   have:=hR.ap
   rw[e]at this;exact(bg.mp (bU.mp this).2.1).1
  have hAo:∀p∈A,p.1<=p.2.1:=λp hp=>(hL.ok p ((mem p).mpr (.inr (by simp[hp])))).1;have hm:=qbz q.2.1 d;have hm':=qbz q.2.1 (d - 1)
  by_cases hd:d<=q.2.1
  .have hpf:pf L d=q.2.2:=Jw hL hq ⟨hq1,hd⟩;refine{λh=>?_,λw=>?_}
   .have:=h d (1:) (bG _)
    lia
   .rw[hpf,chn,if_pos hq1,hm.2 hd,if_neg (1:)]
    by_cases hb:q.1<=d - 1
    .rw[chn,if_pos hb,hm'.2 (1:),if_neg (1:),qal (d:=d) (d':=d - 1) A q.1 λp hp=>by have:=hap p hp;have:=hAo p hp;lia];rw[show d - q.1+1=(d - 1 - q.1+1)+1 by lia];generalize d - 1 - q.1+1=k;rw[Int.add_mul,eR]
     lia
    .rw[chn,if_neg hb,qal (d:=d) (d':=d - 1) A q.1 λp hp=>by have:=hap p hp;have:=hAo p hp;lia];rw[show q.1=d by lia,show d - d+1=1 by lia,eR]
     lia
  .have hz:∀x,q.2.1 < x->x<=d->pf L x=0:=λx h2 h3=>zA λp hp z=>by
    rcases (mem p).mp hp with y|y
    .have:=hB p y;unfold inP at z;lia
    .rcases aF.mp y with rfl|y
     .unfold inP at z;lia
     .have:=hap p y;unfold inP at z;lia
   have hpf:pf L q.2.1=q.2.2:=Jw hL hq ⟨hqo.1,bG _⟩;rw[chn,if_pos hq1,hm.1 (1:),chn,if_pos (c:=q.1<=d - 1) (1:),hm'.1 (1:),hz d (1:) (bG _)];refine{λh=>?_,λh=>?_}
   .rw[if_pos]
    by_cases y:leave<=d+1 - 1 - q.2.1
    .exact y
    .have:=h q.2.1 (1:) (1:)
     lia
   .have y:¬ leave<=d+1 - 1 - q.2.1:=λy=>h λx h2 h3=>hz x (1:) h3;rw[if_neg y,if_neg (1:),qal (d:=d) (d':=d - 1) A q.1 λp hp=>by have:=hap p hp;have:=hAo p hp;lia]
    lia
structure Cnt(w:Bool)(n:Int)(f C:Int->Int):Prop where
 nn:∀d,0<=f d
 low:∃b,∀d,d < b->C d=0/\f d=0
 win:w=true->∀d,C d=(ws f (d - n+1) n.toNat).sum
 idle:w=false->∀d,qit f n d->C d=0
 busy:w=false->∀d,¬ qit f n d->C d=C (d - 1)+f d
theorem qoi{L:List Pa}(hL:PcOk L):∃b,∀d,d < b->pf L d=0:=by
 induction L with
 |nil=>exact{0,λy y=>rfl}
 |cons p l y=>
  refine{p.1,λd hd=>zA λq hq z=>?_};have h0:=(hL.ok p (5:)).1;rcases aF.mp hq with rfl|hq
  .unfold inP at z;lia
  .have:=(bg.mp hL.ap).1 q hq
   unfold inP at z;lia
theorem qbC{r:Ru}(h1:1<=r.days){L:List Pa}(hL:PcOk L):Cnt r.kd.isW r.days (pf L) (qH r L):=by
 let(b,hb):=qoi hL
 have sn:r.kd.isW=false->∀d,(qit (pf L) r.days d->qH r L d=0)/\(¬ qit (pf L) r.days d->qH r L d=qH r L (d - 1)+pf L d):=λhk d=>by rw[qgh hk h1 hL,qgh hk h1 hL,show d - 1+1=d by lia];exact qew h1 hL d
 refine{qqf hL,{b,λd hd=>{?_,hb d hd}},λhk=>qgg hk h1 hL,λhk d=>(sn hk d).1,λhk d=>(sn hk d).2}
 cases hk:r.kd.isW with
 |true=>rw[qgg hk h1 hL];exact Qh _ _ λx h2 h3=>hb x (1:)
 |false=>exact(sn hk d).1 λx z hx=>hb x (1:)
namespace Cnt
variable{w:Bool}{n:Int}{f C:Int->Int}
def step(h:Cnt w n f C)(hw:w=true)(hn:1<=n)(d:Int):C d=C (d - 1)+f d - f (d - n):=by
 rw[h.win hw d,h.win hw (d - 1)];let(m,rfl):∃m:Nat,n=((m+1:Nat):Int):={(n - 1).toNat,by lia};rw[eJ,qcx,show d - 1 - ((m+1:Nat):Int)+1=d - ((m+1:Nat):Int) by lia,ws,dt,show d - ((m+1:Nat):Int)+1+(m:Int)=d by lia]
 lia
theorem pos(h:Cnt w n f C)(d:Int):0<=C d:=by
 cases hw:w with
 |true=>rw[h.win hw];exact qob h.nn _ _
 |false=>
  let(b,hb):=h.low
  have:∀m:Nat,∀d,d < b+m->0<=C d:=by
   intro m
   induction m with
   |zero=>intro d hd;rw[(hb d (1:)).1];exact bG _
   |succ m ih=>
    intro d hd
    by_cases hi:qit f n d
    .rw[h.idle hw d hi];exact bG _
    .rw[h.busy hw d hi]
     have:=ih (d - 1) (1:)
     have:=h.nn d
     lia
  exact this (d - b+1).toNat d (1:)
theorem grow(h:Cnt w n f C)(hn:1<=n)(d:Int):C d<=C (d - 1)+f d:=by
 cases hw:w with
 |true=>rw[h.step hw hn d];have:=h.nn (d - n);lia
 |false=>
  by_cases hi:qit f n d
  .rw[h.idle hw d hi]
   have:=h.pos (d - 1)
   have:=h.nn d
   lia
  .rw[h.busy hw d hi];exact bG _
def keeps(h:Cnt w n f C)(hn:1<=n){m a b:Int}(ha:C a<=m)(hz:∀x,a < x->x < b->f x=0):∀x,a<=x->x < b->C x<=m:=by
 have:∀k:Nat,∀x,a<=x->x < b->x < a+k+1->C x<=m:=by
  intro k
  induction k with
  |zero=>intro x h1 h2 h3;rw[show x=a by lia];exact ha
  |succ k ih=>
   intro x h1 h2 h3
   by_cases y:x=a
   .rw[y];exact ha
   .have:=h.grow hn x
    rw[hz x (1:) h2]at this
    have:=ih (x - 1) (1:) (1:) (1:)
    lia
 exactλx h1 h2=>this (x - a).toNat x h1 h2 (1:)
end Cnt
def cb(st:List St)(x:Rl)(d:Int):Int:=qH x.1 (qaD st x) d
structure Rlw(x:Rl):Prop where
 ln:∀p∈x.1.lands,LnOk p
 days:1<=x.1.days
 most:0<=x.1.most
 spr:Spr x.2
 len:x.2.length<=20
section
variable{st:List St}{x:Rl}(h:Rlw x){e:Int}(hc:Chw e st)
include h hc
theorem qgi:PcOk (qaD st x):=(qbA h.ln h.spr (by have:=h.len;lia) st e hc).1
theorem qoj:pf (qaD st x)=wgt x.1 x.2 st:=funext (qbA h.ln h.spr (by have:=h.len;lia) st e hc).2.2
theorem qqi:Cnt x.1.kd.isW x.1.days (wgt x.1 x.2 st) (cb st x):=by rw[<-qoj h hc];exact qbC h.days (qgi h hc)
end
namespace Cnt
variable{w:Bool}{n:Int}{f C:Int->Int}
theorem zero_lo(h:Cnt w n f C){b:Int}(hz:∀x,x<=b->f x=0)(hn:1<=n):C b=0:=by
 cases hw:w with
 |true=>rw[h.win hw];exact Qh _ _ λx h1 h2=>hz x (1:)
 |false=>exact h.idle hw b λx h1 h2=>hz x h2
theorem zero_hi(h:Cnt w n f C){b:Int}(hz:∀x,b - n < x->x<=b->f x=0)(hn:1<=n):C b=0:=by
 cases hw:w with
 |true=>rw[h.win hw];exact Qh _ _ λx h1 h2=>hz x (1:) (1:)
 |false=>exact h.idle hw b λx h1 h2=>hz x h1 h2
end Cnt
def tuF(w:Bool)(n:Int)(L:List Pa):List Int:=if w=true then L.flatMap λp=>[p.1+n,p.2.1+1+n] else []
def edF(w:Bool)(n:Int)(L:List Pa):List Int:=tuF w n L++L.flatMap λp=>[p.1,p.2.1+1]++(if w=true then [] else [p.2.1+n])
def qok{w:Bool}{n:Int}{L:List Pa}{p:Pa}(hp:p∈L):p.1∈edF w n L/\p.2.1+1∈edF w n L/\(w=true->p.1+n∈edF w n L/\p.2.1+1+n∈edF w n L)/\(w=false->p.2.1+n∈edF w n L):=by
 unfold edF tuF;refine{?_,?_,λhw=>{?_,?_},λhw=>?_}
 .exact bb _ (ft.mpr ⟨p,hp,by simp⟩)
 .exact bb _ (ft.mpr ⟨p,hp,by simp⟩)
 .exact bI _ (by rw[if_pos hw];exact ft.mpr ⟨p,hp,by simp⟩)
 .exact bI _ (by rw[if_pos hw];exact ft.mpr ⟨p,hp,by simp⟩)
 .exact bb _ (ft.mpr ⟨p,hp,by simp[hw]⟩)
structure Par(b e:Int)(l:List Pr):Prop where
 ok:∀p∈l,b<=p.1/\p.1<=p.2/\p.2<=e
 ap:l.Pairwise λp q=>p.2 < q.1
def qgj{b e:Int}(h:b<=e):Par b e [(b,e)]:={λp hp=>by rw[aU.mp hp];exact{bG _,h,bG _},i5 _ _}
def qcz(ns:List Int):(sdI ns).Pairwise (· < ·):=by have h1:(sdI ns).Perm (ddI ns):=fq _ _;have h2:(sdI ns).Pairwise (λa b=>decide (a<=b)=true):=gM (λa b c x y=>by simp at *;lia) (λa b=>by simp;lia) _;have h3:(sdI ns).Nodup:=h1.nodup_iff.mpr (Yp ns);exact List.Pairwise.imp₂ (λa b x y=>Int.lt_iff_le_and_ne.mpr ⟨of_decide_eq_true x,y⟩) h2 h3
def jZ(ns:List Int)(k:Int):k∈sdI ns↔k∈ns:=by have h1:(sdI ns).Perm (ddI ns):=fq _ _;rw[h1.mem_iff,qbd]
def ulF(a g b e:Int):List Pr:=if g=0 then (if a=0 then [] else [(b,e)]) else if a.fmod g≠0 then [(b,e)] else yj (b,e) [(b - a.fdiv g,b - a.fdiv g)]
def qqj{D:Int->Int}{a g b e:Int}(hb:b<=e)(hD:∀d,b<=d->d<=e->D d=a+(d - b) * g):Par b e (ulF a g b e)/\∀d,Day (ulF a g b e) d↔(b<=d/\d<=e)/\D d≠0:=by
 have one:∀d,Day [(b,e)] d↔b<=d/\d<=e:=λd=>by rw[qp];exact{λz=>z.elim id λz=>absurd z qJ,.inl}
 have all:(∀d,b<=d->d<=e->D d≠0)->Par b e [(b,e)]/\∀d,Day [(b,e)] d↔(b<=d/\d<=e)/\D d≠0:=λz=>{qgj hb,λd=>by rw[one];exact{λy=>{y,z d y.1 y.2},λy=>y.1}}
 unfold ulF
 by_cases g0:g=0
 .rw[if_pos g0]
  by_cases a0:a=0
  .rw[if_pos a0];refine{{λp hp=>(by cases hp),.nil},λd=>{λz=>absurd z qJ,λz=>absurd (show D d=0 from ?_) z.2}};rw[hD d z.1.1 z.1.2,g0,a0];simp
  .rw[if_neg a0];refine all λd h1 h2=>?_;rw[hD d h1 h2,g0]
   simpa using a0
 .rw[if_neg g0]
  by_cases m0:a.fmod g=0
  .rw[if_neg (not_not_intro m0)]
   have ea:a=g * a.fdiv g:=by
    have:=nG a g
    rw[m0,i6]at this;exact this.symm
   generalize a.fdiv g=q at ea;have S:Spr [(b - q,b - q)]:={λp hp=>by rw[aU.mp hp];exact bG _,i5 _ _};let(h1,h2,h3):=qge S (5:) (p:=(b,e)) hb;refine{{λp hp=>{(h2 p hp).1,h1.ok p hp,(h2 p hp).2},h1.ap.imp λq=>by lia},λd=>?_};rw[h3 d]
   have od:Day [(b - q,b - q)] d↔d=b - q:=by rw[qp];exact{λz=>z.elim (λz=>by dsimp only at z;lia) λz=>absurd z qJ,λz=>.inl (by dsimp only;lia)}
   rw[od];dsimp only;constructor
   .rintro⟨⟨x1,x2⟩,x3⟩;refine{⟨x1,x2⟩,λz=>x3 ?_};rw[hD d x1 x2,ea]at z
    have:g * (q+(d - b))=0:=by rw[Int.mul_add,f9 g (d - b)];exact z
    rcases Int.mul_eq_zero.mp this with y|y
    .exact absurd y g0
    .lia
   .rintro⟨⟨x1,x2⟩,x3⟩;refine{⟨x1,x2⟩,λz=>x3 ?_};rw[hD d x1 x2,ea,z];rw[show b - q - b = -q by lia,i7,f9 g q]
    lia
  .rw[if_pos m0];refine all λd h1 h2 z=>m0 ?_;rw[hD d h1 h2]at z
   have:a = -(d - b) * g:=by rw[i7];lia
   rw[this];exact Int.mul_fmod_left ..
theorem jW{a b:List Pr}{d:Int}:Day (a++b) d↔Day a d\/Day b d:=by
 induction a with
 |nil=>exact{.inr,λz=>z.elim (λz=>absurd z qJ) id}
 |cons p a ih=>rw[cK,qp,qp,ih,or_assoc]
def cpF(U:Int->Int->List Pr):List Int->List Pr
 | b::e::l=>U b e++cpF U (e::l)
 |_=>[]
theorem qol{D:Int->Int}{U:Int->Int->List Pr}:∀(l:List Int),l.Pairwise (· < ·)->(∀b∈l,∀e,b < e->(∀x∈l,b < x->e<=x)->Par b (e - 1) (U b e)/\∀d,Day (U b e) d↔(b<=d/\d<=e - 1)/\D d≠0)->
  (∀p∈cpF U l,(∃b∈l.head?,b<=p.1)/\p.1<=p.2)/\(cpF U l).Pairwise (λp q=>p.2 < q.1)/\∀d,Day (cpF U l) d↔((∃x∈l,x<=d)/\∃y∈l,d < y)/\D d≠0
 |[],w,v=>{λp hp=>(by cases hp),.nil,λd=>{λz=>absurd z qJ,λz=>by let(((x,hx,_),_),_):=z;cases hx}}
 |[b],w,v=>{λp hp=>(by cases hp),.nil,λd=>{λz=>absurd z qJ,λz=>by
  let(((x,hx,h1),y,hy,h2),_):=z;rw[aU.mp hx]at h1;rw[aU.mp hy]at h2
  lia}}
 | b::e::l,hp,hD=>by
  rw[bg]at hp;have be:b < e:=hp.1 e (5:)
  let(i1,i2,i3):=qol (e::l) hp.2 λc hc f hf h2=>hD c (bH _ hc) f hf λx hx hcx=>by
   rcases aF.mp hx with rfl|hx
   .have:=hp.1 c hc
    lia
   .exact h2 x hx hcx
  let(u1,u2):=hD b (5:) e be λx hx hbx=>by
   rcases aF.mp hx with rfl|hx
   .lia
   .rcases aF.mp hx with rfl|hx
    .lia
    .have:=(bg.mp hp.2).1 x hx
     lia
  rw[cpF];refine{λp hp'=>?_,?_,λd=>?_}
  .rcases aV.mp hp' with h|h
   .exact{{b,rfl,(u1.ok p h).1},(u1.ok p h).2.1}
   .let((c,hc,h1),h2):=i1 p h;cases hc;exact{{b,rfl,by lia},h2}
  .rw[bU];refine{u1.ap,i2,λp h q h'=>?_};have a:=(u1.ok p h).2.2;let((c,hc,h1),h2):=i1 q h';cases hc
   lia
  .rw[jW,u2,i3];constructor
   .rintro (⟨⟨x1,x2⟩,x3⟩|⟨⟨⟨x,hx,x1⟩,y,hy,x2⟩,x3⟩)
    .exact{{{b,by simp,x1},e,by simp,by lia},x3}
    .exact{{{x,bH _ hx,x1},y,bH _ hy,x2},x3}
   .rintro⟨⟨⟨x,hx,x1⟩,y,hy,x2⟩,x3⟩
    by_cases hd:d < e
    .refine .inl ⟨⟨?_,by lia⟩,x3⟩;rcases aF.mp hx with z|z
     .lia
     .have:=hp.1 x z
      lia
    .refine .inr ⟨⟨⟨e,by simp,by lia⟩,y,?_,x2⟩,x3⟩;rcases aF.mp hy with z|z
     .lia
     .exact z
def chF(D:Int->Int):List Int->List Pr:=cpF λb e=>ulF (D b) (D (mn (b+1) (e - 1)) - D b) b (e - 1)
end DG
namespace K65
open PySem L2 DE DG Dy
open L2 hiding St
def paF(b e g r:Int):List Pr:=if r=0 then (if g=0 then [] else [(b,e)]) else if g.fmod r≠0\/¬ (0<=(-g).fdiv r/\(-g).fdiv r<=e - b) then [(b,e)] else [(b,b+(-g).fdiv r - 1),(b+(-g).fdiv r+1,e)].filter λp=>decide (p.1<=p.2)
def qqk{D:Int->Int}{b e g r:Int}(hb:b<=e)(hD:∀d,b<=d->d<=e->D d=g+(d - b) * r):Par b e (paF b e g r)/\∀d,Day (paF b e g r) d↔(b<=d/\d<=e)/\D d≠0:=by
 have one:∀d,Day [(b,e)] d↔b<=d/\d<=e:=λd=>by rw[qp];exact{λz=>z.elim id λz=>absurd z qJ,.inl}
 have all:(∀d,b<=d->d<=e->D d≠0)->Par b e [(b,e)]/\∀d,Day [(b,e)] d↔(b<=d/\d<=e)/\D d≠0:=λz=>{qgj hb,λd=>by rw[one];exact{λy=>{y,z d y.1 y.2},λy=>y.1}}
 unfold paF
 by_cases g0:r=0
 .rw[if_pos g0]
  by_cases a0:g=0
  .rw[if_pos a0];refine{{λp hp=>(by cases hp),.nil},λd=>{λz=>absurd z qJ,λz=>absurd (show D d=0 from ?_) z.2}};rw[hD d z.1.1 z.1.2,g0,a0];simp
  .rw[if_neg a0];refine all λd h1 h2=>?_;rw[hD d h1 h2,g0]
   simpa using a0
 .rw[if_neg g0]
  by_cases m0:g.fmod r=0
  .have ea:g=r * g.fdiv r:=by
    have:=nG g r
    rw[m0,i6]at this;exact this.symm
   generalize g.fdiv r=q at ea
   have eq:(-g).fdiv r = -q:=by rw[ea,show -(r * q)=r * -q by rw[Int.mul_neg]];exact Int.mul_fdiv_cancel_left _ g0
   have zero:∀d,b<=d->d<=e->(D d=0↔d=b - q):=λd h1 h2=>by
    rw[hD d h1 h2,ea];constructor
    .intro z
     have:r * (q+(d - b))=0:=by rw[Int.mul_add,f9 r (d - b)];exact z
     rcases Int.mul_eq_zero.mp this with y|y
     .exact absurd y g0
     .lia
    .intro z;rw[z,show b - q - b = -q by lia,i7,f9 r q]
     lia
   rw[eq]
   by_cases hi:0<=-q/\-q<=e - b
   .rw[if_neg (λz=>z.elim (λy=>y m0) λy=>y hi)];refine{{λp hp=>?_,?_},λd=>?_}
    .let(h1,h2):=eZ.mp hp;have h2:=of_decide_eq_true h2;rcases aF.mp h1 with rfl|h1
     .dsimp only at *;lia
     .rw[aU.mp h1]at h2 ⊢;dsimp only at *
      lia
    .refine List.Pairwise.filter _ ?_;rw[bg];refine{λp hp=>?_,i5 _ _};rw[aU.mp hp];dsimp only
     lia
    .constructor
     .rintro⟨p,hp,h3,h4⟩;let(h1,h2):=eZ.mp hp;have h2:=of_decide_eq_true h2
      have hd:(b<=d/\d<=e)/\d≠b - q:=by
       rcases aF.mp h1 with rfl|h1
       .dsimp only at *;lia
       .rw[aU.mp h1]at h2 h3 h4;dsimp only at *
        lia
      exact{hd.1,λz=>hd.2 ((zero d hd.1.1 hd.1.2).mp z)}
     .rintro⟨⟨h1,h2⟩,h3⟩;have h4:d≠b - q:=λz=>h3 ((zero d h1 h2).mpr z)
      by_cases h5:d < b - q
      .exact{(b,b + -q - 1),eZ.mpr {by simp,decide_eq_true (by dsimp only;lia)},by dsimp only;lia,by dsimp only;lia}
      .exact{(b + -q+1,e),eZ.mpr {by simp,decide_eq_true (by dsimp only;lia)},by dsimp only;lia,by dsimp only;lia}
   .rw[if_pos (.inr hi)];exact all λd h1 h2 z=>hi (by have:=(zero d h1 h2).mp z;lia)
  .rw[if_pos (.inl m0)];refine all λd h1 h2 z=>m0 ?_;rw[hD d h1 h2]at z
   have:g = -(d - b) * r:=by rw[i7];lia
   rw[this];exact Int.mul_fmod_left ..
def alP(D s:Int->Int):List Int->List Pr:=cpF λb e=>paF b (e - 1) (D b) (s b)
def qdA(D s:Int->Int)(b e:Int)(l:List Int):alP D s (b::e::l)=paF b (e - 1) (D b) (s b)++alP D s (e::l):=rfl
def qlb(D s:Int->Int)(b:Int):alP D s [b]=[]:=rfl
def qlc{l:List Pr}(h:l.Pairwise λp q=>p.2 < q.1)(o:∀p∈l,p.1<=p.2):Run l (l.foldl stp []):=by
 have hs:l.Pairwise lex:=by
  refine il ?_ h;intro p q hp hq z
  have:=o p hp
  unfold lex
  lia
 have:=qf0 hs o l.length (ay _)
 rwa[gH]at this
structure Bent(E:Int->Bool)(ks:List Int)(s C:Int->Int):Prop where
 up:ks.Pairwise (· < ·)
 st:∀d,d∉ks->s d=s (d - 1)
 mem:∀d,E d=true->d∈ks
 cn:∀d,C d=if E d=true then 0 else C (d - 1)+s d
 lo:∀d,(∀k∈ks,d < k)->C d=0/\s d=0
 top:∀d,(∀k∈ks,k<=d)->C d=0
section
variable{E:Int->Bool}{ks:List Int}{s C:Int->Int}
theorem Bent.seg(h:Bent E ks s C){x:Int}:∀(k:Nat),(∀y∈ks,x < y->x+k < y)->s (x+k)=s x/\C (x+k)=C x+(k:Int) * s x
 |0,w=>by simp
 | k+1,hn=>by
  let(i1,i2):=h.seg (x:=x) k λy hy hx=>by have:=hn y hy hx;lia
  have hm:x+((k+1:Nat):Int)∉ks:=λz=>by have:=hn _ z (1:);lia
  have e1:=h.st _ hm;have e2:=h.cn (x+((k+1:Nat):Int));rw[if_neg (λz=>hm (h.mem _ z))]at e2;rw[show x+((k+1:Nat):Int) - 1=x+(k:Int) by lia]at e1 e2;refine{e1.trans i1,?_};rw[e2,e1,i1,i2,show((k+1:Nat):Int)=(k:Int)+1 from rfl,Int.add_mul,eR]
  lia
def Bent.seg'(h:Bent E ks s C){x d:Int}(hx:x<=d)(hn:∀y∈ks,x < y->d < y):s d=s x/\C d=C x+(d - x) * s x:=by
 have:=h.seg (x:=x) (d - x).toNat λy hy z=>by have:=hn y hy z;lia
 rw[show x+((d - x).toNat:Int)=d by lia,show((d - x).toNat:Int)=d - x by lia]at this;exact this
def bnF(R:Int->Int)(E:Int->Bool):List Int->Int->Int->Int->List (Int×Int×Int)
 |[],z,y,x=>[]
 | t::l,c,r,b=>(t,if E t=true then 0 else c+r * (t - 1 - b)+(r+R t),r+R t)::bnF R E l (if E t=true then 0 else c+r * (t - 1 - b)+(r+R t)) (r+R t) t
theorem qom(h:Bent E ks s C){R:Int->Int}(hR:∀d∈ks,R d=s d - s (d - 1)):∀(l pre:List Int) (c r b:Int),ks=pre++l->(pre=[]/\c=0/\r=0\/∃p,pre=p++[b]/\c=C b/\r=s b)->
  bnF R E l c r b=l.map λt=>(t,C t,s t)
 |[],z,w,v,u,q,o=>rfl
 | t::l,pre,c,r,b,he,hi=>by
  have up:=h.up;rw[he,bU,bg]at up;have hp:∀y∈pre,y < t:=λy hy=>up.2.2 y hy t (5:)
  have key:c+r * (t - 1 - b)=C (t - 1)/\r=s (t - 1):=by
   rcases hi with ⟨rfl,rfl,rfl⟩|⟨p,rfl,rfl,rfl⟩
   .have:=h.lo (t - 1) λk hk=>by
     rw[he,bp]at hk;rcases aF.mp hk with rfl|hk
     .lia
     .have:=up.2.1.1 k hk
      lia
    rw[this.1,this.2];simp
   .have hb:b < t:=hp b (5:)
    let(s1,s2):=h.seg' (x:=b) (d:=t - 1) (1:) λy hy hby=>by
     rw[he]at hy;rcases aV.mp hy with hy|hy
     .rcases aV.mp hy with hy|hy
      .have:=(bU.mp up.1).2.2 y hy b (5:)
       lia
      .have:=aU.mp hy
       lia
     .rcases aF.mp hy with rfl|hy
      .lia
      .have:=up.2.1.1 y hy
       lia
    rw[s1,s2,f9];exact⟨rfl,rfl⟩
  have ht:t∈ks:=by rw[he];simp
  have er:r+R t=s t:=by rw[hR t ht,key.2];lia
  have ec:(if E t=true then 0 else c+r * (t - 1 - b)+(r+R t))=C t:=by rw[h.cn t,er,key.1]
  rw[bnF,ec,er,au]
  congr 1
  exact qom h hR l (pre++[t]) _ _ _ (by rw[he];simp) (.inr ⟨pre,rfl,rfl,rfl⟩)
def qql(h:Bent E ks s C){R:Int->Int}(hR:∀d∈ks,R d=s d - s (d - 1)):bnF R E ks 0 0 0=ks.map λt=>(t,C t,s t):=
 qom h hR ks [] 0 0 0 rfl (.inl ⟨rfl,rfl,rfl⟩)
def Bent.at(h:Bent E ks s C){d:Int}{n:Nat}(h1:∀j t,j < n->ks[j]?=some t->t<=d)(h2:∀t,ks[n]?=some t->d < t)(hn:n<=ks.length) :
  (n=0->C d=0/\s d=0)/\∀t,ks[n - 1]?=some t->0 < n->C d=C t+s t * (d - t)/\s d=s t:=by
 have hi:∀j t,n<=j->ks[j]?=some t->d < t:=λj t hj e=>by
  let(hl,e'):=bE.mp e;have hn':n < ks.length:=by lia
  have a:=h2 _ (bN hn')
  by_cases hjn:j=n
  .subst hjn;rw[e']at a;exact a
  .have:=eL.mp h.up n j hn' hl (1:)
   lia
 constructor
 .intro z;subst z;refine h.lo d λk hk=>?_;let(j,hj):=iX hk;exact hi j k (1:) hj
 .intro t ht h0
  have:=h.seg' (x:=t) (d:=d) (h1 _ t (1:) ht) λy hy hty=>by
   let(j,hj):=iX hy
   by_cases hjn:n<=j
   .exact hi j y hjn hj
   .let(l1,e1):=bE.mp ht;let(l2,e2):=bE.mp hj
    by_cases hq:j=n - 1
    .subst hq;rw[ht]at hj;cases hj
     lia
    .have:=eL.mp h.up j (n - 1) l2 l1 (1:)
     lia
  exact{by rw[this.2,f9],this.1}
end
def qji{E F:Int->Bool}{ks ls es:List Int}{s t A B:Int->Int}(a:Bent E ks s A)(b:Bent F ls t B)(up:es.Pairwise (· < ·))(h1:∀x∈ks,x∈es)(h2:∀x∈ls,x∈es){U:Int->Int->List Pr}
  (hU:∀x∈es,∀e,x < e->(∀y∈es,x < y->e<=y)->(∀d,x<=d->d < e->A d - B d=A x - B x+(d - x) * (s x - t x))->Par x (e - 1) (U x e)/\∀d,Day (U x e) d↔(x<=d/\d<=e - 1)/\A d - B d≠0) :
  (cpF U es).Pairwise (λp q=>p.2 < q.1)/\(∀p∈cpF U es,p.1<=p.2)/\∀d,Day (cpF U es) d↔A d≠B d:=by
 let(c1,c2,c3):=qol (D:=λd=>A d - B d) es up λx hx e he hn=>hU x hx e he hn λd d1 d2=>by
  let(_,a2):=a.seg' d1 λy hy z=>by have:=hn y (h1 y hy) z;lia
  let(_,b2):=b.seg' d1 λy hy z=>by have:=hn y (h2 y hy) z;lia
  rw[a2,b2,Int.mul_sub]
  lia
 refine{c2,λp hp=>(c1 p hp).2,λd=>?_};rw[c3];constructor
 .exactλz q=>z.2 (1:)
 .intro z;refine{{?_,?_},λq=>z (1:)}
  .refine gU λq=>z ?_
   have q':∀e∈es,d < e:=λe he=>by
    have:=λhle=>q ⟨e,he,hle⟩
    lia
   rw[(a.lo d λe he=>q' e (h1 e he)).1,(b.lo d λe he=>q' e (h2 e he)).1]
  .refine gU λq=>z ?_
   have q':∀e∈es,e<=d:=λe he=>by
    have:=λhle=>q ⟨e,he,hle⟩
    lia
   rw[a.top d λe he=>q' e (h1 e he),b.top d λe he=>q' e (h2 e he)]
def qjj{E F:Int->Bool}{ks ls:List Int}{s t A B:Int->Int}(a:Bent E ks s A)(b:Bent F ls t B) :
  (alP (λd=>A d - B d) (λd=>s d - t d) (sdI (ks++ls))).Pairwise (λp q=>p.2 < q.1)/\(∀p∈alP (λd=>A d - B d) (λd=>s d - t d) (sdI (ks++ls)),p.1<=p.2)/\
  Spr ((alP (λd=>A d - B d) (λd=>s d - t d) (sdI (ks++ls))).foldl stp [])/\∀d,Day ((alP (λd=>A d - B d) (λd=>s d - t d) (sdI (ks++ls))).foldl stp []) d↔A d≠B d:=by
 have m:=jZ (ks++ls);let(c1,c2,c3):=qji a b (qcz (ks++ls)) (λx hx=>(m x).mpr (bI _ hx)) (λx hx=>(m x).mpr (bb _ hx)) (U:=λb e=>paF b (e - 1) (A b - B b) (s b - t b)) λx z e he z hD=>qqk (D:=λd=>A d - B d) (1:) λd d1 d2=>hD d d1 (1:);have R:=qlc c1 c2;exact{c1,c2,R.spr,λd=>(R.day d).trans (c3 d)}
def sF(w:Bool)(n:Int)(f:Int->Int)(d:Int):Int:=if w=true then f d - f (d - n) else f d
def chp(w:Bool)(n:Int)(p:Pa):List (Int×Int):=[(p.1,p.2.2),(p.2.1+1,-p.2.2)]++if w=true then [(p.1+n,-p.2.2),(p.2.1+1+n,p.2.2)] else []
def chs(w:Bool)(n:Int)(L:List Pa):List (Int×Int):=L.flatMap (chp w n)
def rsF(l:List (Int×Int))(d:Int):Int:=(l.map λc=>if c.1=d then c.2 else 0).sum
def enD(n:Int):List Pa->List Int
 |[]=>[]
 |[p]=>[p.2.1+n]
 | p::q::l=>(if q.1 > p.2.1+n then [p.2.1+n] else [])++enD n (q::l)
def jp(L:List Pa)(d:Int):Int:=(L.map λp=>(if p.1=d then p.2.2 else 0) - (if p.2.1+1=d then p.2.2 else 0)).sum
def qjk{p:Pa}{l:List Pa}(h:PcOk (p::l))(d:Int):pf (p::l) d=ind p d+pf l d:=by
 rw[pf,ind]
 by_cases q:inP p d
 .rw[if_pos q,if_pos q,zA λr hr z=>?_]
  .lia
  .have:=(bg.mp h.ap).1 r hr
   unfold inP at q z
   lia
 .rw[if_neg q,if_neg q]
  lia
theorem qcA:∀{L:List Pa},PcOk L->∀d,pf L d - pf L (d - 1)=jp L d
 |[],z,y=>rfl
 | p::l,h,d=>by
  have ih:=qcA h.tail d;have h0:=(h.ok p (5:)).1;rw[qjk h,qjk h,jp,au,dt];unfold jp at ih;rw[<-ih]
  have key:ind p d - ind p (d - 1)=(if p.1=d then p.2.2 else 0) - (if p.2.1+1=d then p.2.2 else 0):=by
   unfold ind
   by_cases a1:inP p d
   .rw[if_pos a1]
    by_cases a2:inP p (d - 1)
    .rw[if_pos a2];unfold inP at a1 a2;rw[if_neg (1:),if_neg (1:)]
     lia
    .rw[if_neg a2];unfold inP at a1 a2;rw[if_pos (1:),if_neg (1:)]
   .rw[if_neg a1]
    by_cases a2:inP p (d - 1)
    .rw[if_pos a2];unfold inP at a1 a2;rw[if_neg (1:),if_pos (1:)]
    .rw[if_neg a2];unfold inP at a1 a2;rw[if_neg (1:),if_neg (1:)]
  lia
def qgk(a b:List (Int×Int))(d:Int):rsF (a++b) d=rsF a d+rsF b d:=by unfold rsF;rw[aR,List.sum_append]
theorem qgl(w:Bool)(n:Int):∀(L:List Pa) (d:Int),rsF (chs w n L) d=if w=true then jp L d - jp L (d - n) else jp L d
 |[],d=>by cases w<;>rfl
 | p::l,d=>by
  have ih:=qgl w n l d;rw[chs,gV,qgk];unfold chs at ih;rw[ih];unfold chp jp rsF;cases w
  .simp![bo,if_false,b5,au,aH,dt,List.sum_nil]
   split<;>split<;>lia
  .simp![if_true,cK,bp,au,aH,dt,List.sum_nil];generalize (ef (λp:Pa=>(if p.1=d then p.2.2 else 0) - (if p.2.1+1=d then p.2.2 else 0)) l).sum=x;generalize (ef (λp:Pa=>(if p.1=d - n then p.2.2 else 0) - (if p.2.1+1=d - n then p.2.2 else 0)) l).sum=y;have e1:(p.1+n=d)=(p.1=d - n):=propext ⟨λz=>by lia,λz=>by lia⟩;have e2:(p.2.1+1+n=d)=(p.2.1+1=d - n):=propext ⟨λz=>by lia,λz=>by lia⟩;simp![e1,e2]
   split<;>split<;>split<;>split<;>lia
def qon{w:Bool}{n:Int}{L:List Pa}(h:PcOk L)(d:Int):rsF (chs w n L) d=sF w n (pf L) d - sF w n (pf L) (d - 1):=by
 have a:=qcA h d;have b:=qcA h (d - n);rw[qgl,<-a,<-b,sF,sF,show d - 1 - n=d - n - 1 by lia];cases w
 .rfl
 .simp![if_true];lia
theorem qoo{l:List (Int×Int)}{d:Int}(h:d∉l.map (·.1)):rsF l d=0:=by
 induction l with
 |nil=>rfl
 |cons c l ih=>
  rw[au,aF,not_or]at h
  have:=ih h.2
  unfold rsF at this ⊢;rw[au,dt,this,if_neg λz=>h.1 z.symm];rfl
theorem ord{L:List Pa}(h:PcOk L){p q:Pa}(hp:p∈L)(hq:q∈L):p.2.1 < q.1\/q.2.1<=p.2.1:=by
 induction L with
 |nil=>cases hp
 |cons r l ih=>
  have ap:=(bg.mp h.ap).1;have hr:=(h.ok r (5:)).1;rcases aF.mp hp with e1|h1
  .rcases aF.mp hq with e2|h2
   .subst e1;subst e2;exact .inr (bG _)
   .subst e1;exact .inl (ap q h2)
  .rcases aF.mp hq with e2|h2
   .subst e2
    have:=ap p h1
    have:=(h.ok p (by simp[h1])).1
    exact .inr (1:)
   .exact ih h.tail h1 h2
theorem qdB{n:Int}:∀{L:List Pa},PcOk L->∀d,d∈enD n L↔∃p∈L,d=p.2.1+n/\∀q∈L,p.2.1 < q.1->d < q.1
 |[],_,d=>{λz=>(by cases z),λ⟨_,z,_⟩=>by cases z}
 |[p],h,d=>by
  have h0:=(h.ok p (5:)).1;rw[enD];constructor
  .intro z;exact{p,by simp,aU.mp z,λq hq hlt=>by rw[aU.mp hq]at hlt;lia}
  .rintro⟨q,hq,e,_⟩;rw[aU.mp hq]at e;rw[e];simp
 | p::q::l,h,d=>by
  have ih:=qdB (n:=n) h.tail d;have h0:=(h.ok p (5:)).1;have h1:=(h.ok q (5:)).1;have ap:=(bg.mp h.ap).1;have ap':=(bg.mp h.tail.ap).1;rw[enD,aV,ih];constructor
  .rintro (z|⟨r,hr,e,hq⟩)
   .split at z
    .rename_i c;have e:=aU.mp z;refine{p,by simp,e,λr hr hlt=>?_};rcases aF.mp hr with rfl|hr
     .lia
     .rcases aF.mp hr with rfl|hr
      .lia
      .have:=ap' r hr
       lia
    .cases z
   .refine{r,bH _ hr,e,λt ht hlt=>?_};rcases aF.mp ht with rfl|ht
    .have:=ap r hr
     have:=(h.ok r (by simp[hr])).1
     lia
    .exact hq t ht hlt
  .rintro⟨r,hr,e,hq⟩;rcases aF.mp hr with rfl|hr
   .left
    have:=hq q (5:) (ap q (5:))
    rw[if_pos (1:),e];simp
   .exact .inr ⟨r,hr,e,λt ht=>hq t (bH _ ht)⟩
theorem qgm{n:Int}:∀{L:List Pa},PcOk L->∀p∈L,∃e∈enD n L,p.2.1+n<=e
 |[],z,p,hp=>by cases hp
 |[p],h,r,hr=>{p.2.1+n,by rw[enD];simp,by rw[aU.mp hr];exact bG _}
 | p::q::l,h,r,hr=>by
  rcases aF.mp hr with rfl|hr
  .let(e,he,hle):=qgm (n:=n) h.tail q (5:)
   have:=(bg.mp h.ap).1 q (5:)
   have:=(h.ok q (5:)).1
   exact{e,by rw[enD];exact bb _ he,by lia}
  .let(e,he,hle):=qgm (n:=n) h.tail r hr;exact{e,by rw[enD];exact bb _ he,hle}
def tuD(w:Bool)(n:Int)(L:List Pa):List Int:=(chs w n L).map (·.1)++if w=true then [] else enD n L
def enB(w:Bool)(n:Int)(L:List Pa)(d:Int):Bool:=!w&&decide (d∈enD n L)
def qop{w:Bool}{n:Int}{L:List Pa}{p:Pa}(hp:p∈L){c:Int×Int}(hc:c∈chp w n p):c.1∈tuD w n L:=
 bI _ (df.mpr ⟨c,ft.mpr ⟨p,hp,hc⟩,rfl⟩)
def qam{w:Bool}{n:Int}{L:List Pa}{C:Int->Int}(hL:PcOk L)(h:Cnt w n (pf L) C)(hn:1<=n):Bent (enB w n L) (sdI (tuD w n L)) (sF w n (pf L)) C where
 up:=qcz _
 st d hd:=by
  have hd:d∉(chs w n L).map (·.1):=λz=>hd ((jZ _ _).mpr (bI _ z))
  have:=qon (w:=w) (n:=n) hL d
  rw[qoo hd]at this
  lia
 mem d hd:=by
  unfold enB at hd;rw[aM]at hd
  cases w with
  |true=>cases hd.1
  |false=>exact(jZ _ _).mpr (bb _ (of_decide_eq_true hd.2))
 cn d:=by
  unfold enB sF
  cases w with
  |true=>
   have:=h.step rfl hn d
   simp![fc,Bool.false_and,bo,if_false,if_true]
   lia
  |false=>
   simp![fb,lO,decide_eq_true_eq,bo,if_false]
   by_cases he:d∈enD n L
   .rw[if_pos he];let(p,hp,e,hq):=(qdB hL d).mp he;refine h.idle rfl d λx h1 h2=>?_;refine gU λz=>?_;let(q,hq',hi):=qla z;unfold inP at hi;rcases ord hL hp hq' with y|y
    .have:=hq q hq' y
     lia
    .lia
   .rw[if_neg he]
    by_cases hi:qit (pf L) n d
    .rw[h.idle rfl d hi,hi d (1:) (bG _)]
     suffices C (d - 1)=0 by rw[this];rfl
     by_cases f0:pf L (d - n)=0
     .refine h.idle rfl _ λx h1 h2=>?_
      by_cases hx:x=d - n
      .rw[hx];exact f0
      .exact hi x (1:) (1:)
     .let(p,hp,hin):=qla f0;unfold inP at hin
      have pl:p.2.1=d - n:=by
       refine gU λz=>?_;have a:=hi (d - n+1) (1:) (1:);rw[Jw hL hp (show inP p (d - n+1) from⟨by lia,by lia⟩)]at a
       have:=(hL.ok p hp).2.1
       lia
      refine absurd ((qdB hL d).mpr ⟨p,hp,by lia,λq hq hlt=>?_⟩) he;refine gU λz=>?_;have a:=hi q.1 (1:) (1:)
      have:=hL.ok q hq
      rw[Jw hL hq (show inP q q.1 from⟨bG _,this.1⟩)]at a
      lia
    .exact h.busy rfl d hi
 lo d hd:=by
  have z:∀x,x<=d->pf L x=0:=λx hx=>zA λp hp hi=>by
   have:=hd p.1 ((jZ _ _).mpr (qop hp (c:=(p.1,p.2.2)) (by simp[chp])))
   unfold inP at hi
   lia
  refine{h.zero_lo z hn,?_};unfold sF;rw[z d (bG _),z (d - n) (1:)];cases w<;>rfl
 top d hd:=by
  refine h.zero_hi (λx h1 h2=>zA λp hp hi=>?_) hn;unfold inP at hi
  cases w with
  |true=>
   have:=hd (p.2.1+1+n) ((jZ _ _).mpr (qop hp (c:=(p.2.1+1+n,p.2.2)) (by simp[chp])))
   lia
  |false=>
   let(e,he,hle):=qgm (n:=n) hL p hp
   have:=hd e ((jZ _ _).mpr (bb _ he))
   lia
def qgn{w:Bool}{n:Int}{L:List Pa}(h:PcOk L)(d:Int):-9<=sF w n (pf L) d/\sF w n (pf L) d<=9:=by
 have nn:∀x,0<=pf L x/\pf L x<=9:=λx=>by
  by_cases q:pf L x=0
  .rw[q];decide
  .let(p,hp,hi):=qla q;rw[Jw h hp hi]
   have:=(h.ok p hp).2
   lia
 have a:=nn d;have b:=nn (d - n);unfold sF
 split<;>lia
def qoq{w:Bool}{n:Int}{L:List Pa}(hL:PcOk L){x:Int}(h:x∈tuD w n L):x∈edF w n L:=by
 rcases aV.mp h with h|h
 .let(c,hc,rfl):=df.mp h;let(p,hp,hc):=ft.mp hc;have a:=qok (w:=w) (n:=n) hp;unfold chp at hc;rcases aV.mp hc with hc|hc
  .rcases aF.mp hc with rfl|hc
   .exact a.1
   .rw[aU.mp hc];exact a.2.1
  .split at hc
   .rename_i hw;rcases aF.mp hc with rfl|hc
    .exact(a.2.2.1 hw).1
    .rw[aU.mp hc];exact(a.2.2.1 hw).2
   .cases hc
 .cases w with
  |true=>cases h
  |false=>let(p,hp,rfl,_):=(qdB hL x).mp h;exact(qok hp).2.2.2 rfl
end K65
namespace DG
open PySem L2 DE Dy K65
open L2 hiding St
section
variable{w:Bool}{n:Int}{L M:List Pa}{A B:Int->Int}
def JY(w:Bool)(n:Int)(L M:List Pa):List Int:=sdI (edF w n L++edF w n M)
def chg(w:Bool)(n:Int)(L M:List Pa)(A B:Int->Int):List Pr:=spr (chF (λd=>A d - B d) (JY w n L M))
variable(hL:PcOk L)(hM:PcOk M)(a:Cnt w n (pf L) A)(b:Cnt w n (pf M) B)(hn:1<=n)
include hL hM a b hn
theorem qgo:((chF (λd=>A d - B d) (JY w n L M)).Pairwise (λp q=>p.2 < q.1)/\(∀p∈chF (λd=>A d - B d) (JY w n L M),p.1<=p.2)/\∀d,Day (chF (λd=>A d - B d) (JY w n L M)) d↔A d≠B d)/\
  ∀x e,x < e->(∀y∈JY w n L M,¬ (x < y/\y < e))->-18<=(A (mn (x+1) (e - 1)) - B (mn (x+1) (e - 1))) - (A x - B x)/\(A (mn (x+1) (e - 1)) - B (mn (x+1) (e - 1))) - (A x - B x)<=18:=by
 have u:=qam hL a hn;have v:=qam hM b hn;have m:=jZ (edF w n L++edF w n M);have h1:∀x∈sdI (tuD w n L),x∈JY w n L M:=λx hx=>(m x).mpr (bI _ (qoq hL ((jZ _ _).mp hx)));have h2:∀x∈sdI (tuD w n M),x∈JY w n L M:=λx hx=>(m x).mpr (bb _ (qoq hM ((jZ _ _).mp hx)));have nx:∀x e,mn (x+1) (e - 1)=if x+1 < e then x+1 else e - 1:=λx e=>by unfold mn;split<;>split<;>lia
 refine{qji u v (qcz _) h1 h2 λx t e he t hD=>qqj (D:=λd=>A d - B d) (1:) λd d1 d2=>?_,λx e he hn=>?_}
 .dsimp only;rw[nx]
  by_cases c:x+1 < e
  .rw[if_pos c,hD (x+1) (1:) c,hD d d1 (1:)];rw[show x+1 - x=1 by lia,eR];rw[show A x - B x+(sF w n (pf L) x - sF w n (pf M) x) - (A x - B x)=sF w n (pf L) x - sF w n (pf M) x by lia]
  .rw[show d=x by lia,Int.sub_self,Int.zero_mul,i6]
 .rw[nx]
  by_cases c:x+1 < e
  .have a2:=(u.seg' (x:=x) (d:=x+1) (1:) λy hy z=>by have:=hn y (h1 y hy);lia).2;have b2:=(v.seg' (x:=x) (d:=x+1) (1:) λy hy z=>by have:=hn y (h2 y hy);lia).2
   have:=qgn (w:=w) (n:=n) hL x
   have:=qgn (w:=w) (n:=n) hM x
   rw[if_pos c,a2,b2,show x+1 - x=1 by lia,eR,eR]
   lia
  .rw[if_neg c,show e - 1=x by lia]
   lia
theorem qor:Spr (chg w n L M A B)/\∀d,Day (chg w n L M A B) d↔A d≠B d:=by let((_,h1,h2),_):=qgo hL hM a b hn;refine{qf1 h1,λd=>?_};rw[<-h2,<-jq,<-jq];unfold chg;rw[qk2 h1]
end
def js:Nat×Nat×Ss:=(3,3,%[.ret (.call "pieces_among" %[0,1,.call "stays_of" %[2|0]|0])|0])
noncomputable abbrev y9:Ss:=%[.app 2 (.var 3),.app 2 (.bin .Add (.var 4) (.con (.int 1))),.ite (.val (.isc "Since" (.var 0))) %[.app 2 (.bin .Add (.var 4) (.fld (.var 0) "leave"))|0] .nil|0]
def j0:Ss:=y9
def yt:USs j0 y9:=λz z z z=>(rfl)
def Zh:Nat×Nat×Ss:=(2,6,%[.set 2 (.call "turns_of" %[0,1|0]),.for_ (.many [3,4,5]) (.seq (.var 1)) j0,.ret (.var 2)|0])
def JI:Nat×Nat×Ss:=(4,4,%[.ret (.bin .Sub (.call "count_among" %[0,1,3|0]) (.call "count_among" %[0,2,3|0]))|0])
def qQ:Nat×Nat×Ss:=(5,8,%[.set 5 (.call "difference" %[0,1,2,3|0]),.set 6 (.bin .Sub (.call "difference" %[0,1,2,.b2 .min (.bin .Add (.var 3) (.con (.int 1))) (.var 4)|0]) (.var 5)),.ite (.cmp .Eq (.var 6) (.con (.int 0))) %[.ret (.ite (.cmp .Eq (.var 5) (.con (.int 0))) (.lst .nil) (.lst %[.tup %[3,4|0]|0]))|0] .nil,.ite (.cmp .NotEq (.bin .Mod (.var 5) (.var 6)) (.con (.int 0))) %[.ret (.lst %[.tup %[3,4|0]|0])|0] .nil,.set 7 (.bin .Sub (.var 3) (.bin .FloorDiv (.var 5) (.var 6))),.ret (.call "less" %[.lst %[.tup %[3,4|0]|0],.lst %[.tup %[7,7|0]|0]|0])|0])
noncomputable abbrev jc:Ss:=%[.ext 8 (.call "unlike_days" %[4,5,6,9,.bin .Sub (.var 10) (.con (.int 1))|0])|0]
def zi:Ss:=jc
def Ja:USs zi jc:=λz z z z=>(rfl)
def yu:Nat×Nat×Ss:=(4,11,%[.set 4 (.idx (.met (.var 0) "rules" .nil) (.var 1)),.set 5 (.call "pieces_of" %[0,1,2|0]),.set 6 (.call "pieces_of" %[0,1,3|0]),.set 7 (.b1 .sst (.bin .Add (.call "edges_of" %[4,5|0]) (.call "edges_of" %[4,6|0]))),.set 8 (.lst .nil),.for_ (.many [9,10]) (.zip (.var 7) (.sli (.var 7) (.some (.con (.int 1))) .none)) zi,.ret (.call "spread" %[8|0])|0])
class CD(pg:Pg):Prop where
 r_turns_of:RW pg "turns_of" Jv
 r_edges_of:RW pg "edges_of" Zh
 r_difference:RW pg "difference" JI
 r_unlike_days:RW pg "unlike_days" qQ
 r_changed_days:RW pg "changed_days" yu
end DG
namespace FZ
open PySem DE DG Dy FA
open L2 hiding St
open RU
def wd(g:Bool):Int:=if g=true then 4000030 else 21
end FZ
namespace DG
open PySem DE FA Dy
open L2 hiding St
open CH ST SP RU BO BT PC SU CD
class PU(pg:Pg):Prop where
 r_pieces_of:RW pg "pieces_of" js
theorem qbD(s:Int):∀l:List Pa,jY s l=l.flatMap λp=>[p.1+s,p.2.1+1+s]
 |[]=>rfl
 | p::l=>by rw[jY,qbD s l];rfl
def qiu(r:Ru)(l:List Pa):y8 r l=tuF r.kd.isW r.days l:=by unfold y8 tuF;rw[qbD]
section
variable{pg:Pg}[CH pg][ST pg][RU pg][BO pg][SP pg][BT pg][PC pg][SU pg][PU pg][CD pg]
def JJ(k:Nat)(b:Bool)(rs:List Ru)(ps:List Pa)(hp:ps.length<=18)(n:Nat)(r:Ru)(hn:rs[n]?=some r)(hr:∀p∈r.lands,LnOk p)(hlf:(lift n ps).length<=20)(st:List St)(hs:∀s∈st,NameOk s.1)(hc:Ch (-1) st)(hl:st.length<=60) :
  clK pg (k+6) "pieces_of" [.val (bkI rs ps),.val (.int (n:Int)),aL b (st.map stD)]=.ok (.tmp ((qaD st (r,lift n ps)).map paD)):=by
 have s:=qid (pg:=pg) k b st hc hl;have p:clK pg (k+5) "pieces_among" [.val (bkI rs ps),.val (.int (n:Int)),.val (.lst (st.map stD))]=.ok (.tmp ((qaD st (r,lift n ps)).map paD)):=qgd (pg:=pg) (k+2) false rs ps hp n r hn hr hlf st hs (1:);rw[PU.r_pieces_of];simp?![js,s,p]
def peF(w:Bool)(n:Int)(p:Pa):List Int:=[p.1,p.2.1+1]++(if w=true then [] else [p.2.1+n])
theorem Zi(cl:Cl){xx:Xs}(hcs:cl.cs=pcs xx)(v1:Sl)(r:Ru):∀(l:List Pa) (acc:List Int) (s3 s4 s5:Sl),acc.length+3 * l.length < 10000->
  ∃N',jy cl 1000 (.many [3,4,5]) j0 (l.map paD) [.val (ruI r),v1,.own (acc.map D.int),s3,s4,s5]=.ok (.next (.val (ruI r)::v1::.own ((acc++l.flatMap (peF r.kd.isW r.days)).map D.int)::N'))
 |[],acc,s3,s4,s5,_=>{[s3,s4,s5],by simp[qW]}
 | p::l,acc,s3,s4,s5,hl=>by
  rw[aK]at hl;let(N',ih):=Zi cl hcs v1 r l (acc++peF r.kd.isW r.days p) (.val (.int p.1)) (.val (.int p.2.1)) (.val (.int p.2.2)) (by unfold peF;split<;>simp<;>lia);refine{N',?_};rw[gV,<-bf];have hs:(acc.map D.int).length < sizeLine:=zk hl;have hs2:(acc.map D.int++[D.int p.1]).length < sizeLine:=by simp;exact zx (1:)
  have hs3:(acc.map D.int++[D.int p.1]++[D.int (p.2.1+1)]).length < sizeLine:=by simp;exact zx (1:)
  have ic:=qim (xx:=xx) r;rw[aR (l₁:=acc)]at ih
  cases hk:r.kd.isW with
  |true=>rw[hk]at ic ih;have e:(peF true r.days p).map D.int=[D.int p.1]++[D.int (p.2.1+1)]:=rfl;rw[e,<-bf]at ih;rw[au];simp?[yt,qy,hcs,ic,hs,hs2,ih]
  |false=>rw[hk]at ic ih;have e:(peF false r.days p).map D.int=[D.int p.1]++[D.int (p.2.1+1)]++[D.int (p.2.1+r.days)]:=rfl;rw[e,<-bf,<-bf]at ih;rw[au];simp?[yt,qy,hcs,ic,qdt r hk,hs,hs2,hs3,ih]
theorem qcB(k:Nat)(b:Bool)(r:Ru)(l:List Pa)(hl:l.length < 4000):clK pg (k+1) "turns_of" [.val (ruI r),aL b (l.map paD)]=.ok (.tmp ((y8 r l).map D.int)):=by
 have iw:=qbw (xx:=pg.xx) r;rw[CD.r_turns_of];unfold y8
 cases hk:r.kd.isW with
 |true=>rw[hk]at iw;let(N',e):=Zf (pg.kk k) (RU.cs (pg:=pg)) (pS b (l.map paD)) r hk l [] .no .no .no (by simp;lia);rw[aH,bp]at e;simp?![Jv,RU.cs,iw,show(0:Nat)<=sizeLine by decide+kernel,e]
 |false=>rw[hk]at iw;simp?![Jv,RU.cs,iw,show(0:Nat)<=sizeLine by decide+kernel]
def Zj(k:Nat)(r:Ru)(l:List Pa)(hl:l.length < 1000):clK pg (k+2) "edges_of" [.val (ruI r),.bor (l.map paD)]=.ok (.tmp ((edF r.kd.isW r.days l).map D.int)):=by
 have t:=qcB (pg:=pg) k true r l (1:)
 have tl:(y8 r l).length<=2 * l.length:=by
  unfold y8;split
  .rw[Zg];exact ay _
  .simp
 let(N',e):=Zi (pg.kk (k+1)) (RU.cs (pg:=pg)) (.bor (l.map paD)) r l (y8 r l) .no .no .no (1:);have t:clK pg (k+1) "turns_of" [.val (ruI r),.bor (l.map paD)]=.ok (.tmp ((y8 r l).map D.int)):=t;have z:edF r.kd.isW r.days l=y8 r l++l.flatMap (peF r.kd.isW r.days):=by rw[qiu];rfl
 rw[r_edges_of,z];simp?![Zh,t,e]
def qgp(k:Nat)(r:Ru)(l m:List Pa)(hl:WOk l)(hm:WOk m)(d:Int):clK pg (k+4) "difference" [.val (ruI r),.bor (l.map paD),.bor (m.map paD),.val (.int d)]=.ok (.val (.int (qH r l d - qH r m d))):=by have a:clK pg (k+3) "count_among" [.val (ruI r),.bor (l.map paD),.val (.int d)]=.ok (.val (.int (qH r l d))):=y7 (pg:=pg) k true r l hl d;have b:clK pg (k+3) "count_among" [.val (ruI r),.bor (m.map paD),.val (.int d)]=.ok (.val (.int (qH r m d))):=y7 (pg:=pg) k true r m hm d;rw[r_difference];simp?![JI,a,b]
def qgq(k:Nat)(r:Ru)(l m:List Pa)(hl:WOk l)(hm:WOk m)(b e:Int)(hg:-18<=(qH r l (mn (b+1) e) - qH r m (mn (b+1) e)) - (qH r l b - qH r m b)/\(qH r l (mn (b+1) e) - qH r m (mn (b+1) e)) - (qH r l b - qH r m b)<=18) :
  clK pg (k+5) "unlike_days" [.val (ruI r),.bor (l.map paD),.bor (m.map paD),.val (.int b),.val (.int e)]=.ok (.tmp ((ulF (qH r l b - qH r m b) ((qH r l (mn (b+1) e) - qH r m (mn (b+1) e)) - (qH r l b - qH r m b)) b e).map pD)):=by
 have d1:=qgp (pg:=pg) k r l m hl hm b;have d2:=qgp (pg:=pg) k r l m hl hm (mn (b+1) e);rw[r_unlike_days];generalize (qH r l b - qH r m b)=a at *;generalize (qH r l (mn (b+1) e) - qH r m (mn (b+1) e))=c at *;have mnr:(if e < b+1 then e else b+1)=mn (b+1) e:=rfl;have z0:(0:Nat)<=sizeLine:=(3:)
 have z1:0+1<=sizeLine:=(3:)
 have z2:0+1+1<=sizeLine:=(3:)
 have lg:=λ(p q:Int)=>qgc (pg:=pg) (k+2) false (b,e) [(p,q)] (5:);have lg:∀p q:Int,clK pg (k+4) "less" [.val (.lst [.tup [.int b,.int e]]),.val (.lst [.tup [.int p,.int q]])]=.ok (.tmp ((yj (b,e) [(p,q)]).map pD)):=lg;have q0:eqD (.int (c - a)) (.int 0)=some (c - a == 0):=qw ..;have q1:eqD (.int a) (.int 0)=some (a == 0):=qw ..;unfold ulF;generalize hc:c - a=g at *
 by_cases g0:g=0
 .have q0:eqD (.int g) (.int 0)=some true:=by rw[q0,g0];rfl
  rw[if_pos g0]
  by_cases a0:a=0
  .have q1:eqD (.int a) (.int 0)=some true:=by rw[q1,a0];rfl
   rw[if_pos a0];simp?![qQ,d1,d2,mnr,hc,q0,q1,z0,aH]
  .have q1:eqD (.int a) (.int 0)=some false:=by rw[q1];simp[a0]
   rw[if_neg a0];simp?![qQ,d1,d2,mnr,hc,q0,q1,z0,z1,z2,qG,au,aH]
 .have q0:eqD (.int g) (.int 0)=some false:=by rw[q0];simp[g0]
  rw[if_neg g0]
  have md:QO .Mod (.val (.int a)) (.val (.int g))=.ok (.val (.int (a.fmod g))):=by
   rw[bMod]
   by_cases gp:0 < g
   .rw[if_pos gp,lS a (1:)]
   .rw[if_neg gp,if_pos (1:)]
  have dv:QO .FloorDiv (.val (.int a)) (.val (.int g))=.ok (.val (.int (a.fdiv g))):=by
   rw[bDiv]
   by_cases gp:0 < g
   .rw[if_pos ⟨gp,by lia⟩,lR a (1:)]
   .rw[if_neg (λz=>gp z.1),if_pos ⟨by lia,by lia⟩]
  have q2:eqD (.int (a.fmod g)) (.int 0)=some (a.fmod g == 0):=qw ..
  by_cases m0:a.fmod g=0
  .have q2:eqD (.int (a.fmod g)) (.int 0)=some true:=by rw[q2,m0];rfl
   rw[if_neg (not_not_intro m0)];simp?![qQ,d1,d2,mnr,hc,q0,↓md,↓dv,q2,z0,z1,z2,lg]
  .have q2:eqD (.int (a.fmod g)) (.int 0)=some false:=by rw[q2];simp[m0]
   rw[if_pos m0];simp?![qQ,d1,d2,mnr,hc,q0,↓md,q2,z0,z1,z2,qG,au,aH]
end
def chP(D:Int->Int):List Pr->List Pr
 |[]=>[]
 | p::l=>ulF (D p.1) (D (mn (p.1+1) (p.2 - 1)) - D p.1) p.1 (p.2 - 1)++chP D l
theorem qgr(D:Int->Int):∀es:List Int,chF D es=chP D (es.zip es.tail)
 |[]=>rfl
 |[z]=>rfl
 | b::e::l=>by show _++chF D (e::l)=_;rw[qgr D (e::l)];rfl
def qjl(a g b e:Int):(ulF a g b e).length<=3:=by
 unfold ulF;split
 .split<;>simp
 .split
  .simp
  .exact y6 (b,e) _
theorem qgs(D:Int->Int):∀l:List Pr,(chP D l).length<=3 * l.length
 |[]=>ay _
 | p::l=>by
  rw[chP,aT,aK]
  have:=qgs D l
  have:=qjl (D p.1) (D (mn (p.1+1) (p.2 - 1)) - D p.1) p.1 (p.2 - 1)
  lia
def qgt(w:Bool)(n:Int)(L:List Pa):(edF w n L).length<=5 * L.length:=by
 have a:∀L:List Pa,(tuF w n L).length<=2 * L.length:=λL=>by
  unfold tuF;split
  .induction L with
   |nil=>simp
   |cons p l ih=>rw[gV,aT,aK];simp at ih ⊢;lia
  .simp
 have b:∀L:List Pa,(L.flatMap λp=>[p.1,p.2.1+1]++(if w=true then [] else [p.2.1+n])).length<=3 * L.length:=λL=>by
  induction L with
  |nil=>simp
  |cons p l ih=>
   rw[gV,aT,aK]
   cases w<;>simp at ih ⊢<;>lia
 unfold edF;rw[aT]
 have:=a L
 have:=b L
 lia
theorem qgu:∀l:List Int,(ddI l).length<=l.length
 |[]=>ay _
 | a::l=>by
  rw[ddI]
  have:=qgu l
  split<;>simp<;>lia
def Qo(l:List Int):(sdI l).length<=l.length:=by unfold sdI;rw[gR];exact qgu l
theorem qdC:∀(es:List Int),es.Pairwise (· < ·)->∀p∈es.zip es.tail,p.1 < p.2/\∀x∈es,¬ (p.1 < x/\x < p.2)
 |[],z,p,hp=>by cases hp
 |[z],y,p,hp=>by cases hp
 | a::b::l,h,p,hp=>by
  rw[bg]at h;rcases aF.mp hp with rfl|hq
  .refine{h.1 b (5:),λx hx=>?_};rcases aF.mp hx with rfl|hx
   .dsimp only;lia
   .rcases aF.mp hx with rfl|hx
    .dsimp only;lia
    .have:=(bg.mp h.2).1 x hx
     dsimp only
     lia
  .let(i1,i2):=qdC (b::l) h.2 p hq;refine{i1,λx hx=>?_};rcases aF.mp hx with rfl|hx
   .have:=h.1 p.1 (ir (show(p.1,p.2)∈(b::l).zip l from hq)).1
    lia
   .exact i2 x hx
section
variable{pg:Pg}[CH pg][ST pg][RU pg][BO pg][SP pg][BT pg][PC pg][SU pg][PU pg][CD pg]
theorem JK(k:Nat)(r:Ru)(l m:List Pa)(hl:WOk l)(hm:WOk m)(v0 v1 v2 v3 v7:Sl):∀(ps acc:List Pr) (s9 s10:Sl),acc.length+3 * ps.length < 10000->
  (∀p∈ps,-18<=(qH r l (mn (p.1+1) (p.2 - 1)) - qH r m (mn (p.1+1) (p.2 - 1))) - (qH r l p.1 - qH r m p.1)/\(qH r l (mn (p.1+1) (p.2 - 1)) - qH r m (mn (p.1+1) (p.2 - 1))) - (qH r l p.1 - qH r m p.1)<=18)->
  ∃s9' s10',jy (pg.kk (k+5)) 1000 (.many [9,10]) zi (ps.map pD) [v0,v1,v2,v3,.val (ruI r),.own (l.map paD),.own (m.map paD),v7,.own (acc.map pD),s9,s10]=.ok (.next [v0,v1,v2,v3,.val (ruI r),.own (l.map paD),.own (m.map paD),v7,.own ((acc++chP (λd=>qH r l d - qH r m d) ps).map pD),s9',s10'])
 |[],acc,s9,s10,_,_=>{s9,s10,by simp[qW,chP]}
 | p::ps,acc,s9,s10,hl',hg=>by
  rw[aK]at hl';have u:=qgq (pg:=pg) k r l m hl hm p.1 (p.2 - 1) (hg p (5:));have ul:=qjl (qH r l p.1 - qH r m p.1) ((qH r l (mn (p.1+1) (p.2 - 1)) - qH r m (mn (p.1+1) (p.2 - 1))) - (qH r l p.1 - qH r m p.1)) p.1 (p.2 - 1);rw[chP];generalize ulF (qH r l p.1 - qH r m p.1) ((qH r l (mn (p.1+1) (p.2 - 1)) - qH r m (mn (p.1+1) (p.2 - 1))) - (qH r l p.1 - qH r m p.1)) p.1 (p.2 - 1)=U at u ul;let(s9',s10',ih):=JK k r l m hl hm v0 v1 v2 v3 v7 ps (acc++U) (.val (.int p.1)) (.val (.int p.2)) (by simp;lia) λq hq=>hg q (by simp[hq]);refine{s9',s10',?_};rw[<-bf];rw[aR (l₁:=acc) (l₂:=U)]at ih;have hs:(acc.map pD).length+(U.map pD).length<=sizeLine:=by rw[aD,aD];exact qx (1:)
  rw[au];simp?[Ja,qG,u,hs,ih]
def qex(k:Nat)(b1 b2:Bool)(rs:List Ru)(ps:List Pa)(hp:ps.length<=18)(n:Nat)(r:Ru)(hn:rs[n]?=some r)(h1:1<=r.days)(hr:∀p∈r.lands,LnOk p)(hlf:(lift n ps).length<=20)(sa sb:List St)(na:∀s∈sa,NameOk s.1)(nb:∀s∈sb,NameOk s.1)(ca:Ch (-1) sa)(cb:Ch (-1) sb)(la:sa.length<=60)(lb:sb.length<=60)
  (pa:PcOk (qaD sa (r,lift n ps))) (pb:PcOk (qaD sb (r,lift n ps))) (hl:(qaD sa (r,lift n ps)).length+(qaD sb (r,lift n ps)).length<=200) :
  clK pg (k+8) "changed_days" [.val (bkI rs ps),.val (.int (n:Int)),aL b1 (sa.map stD),aL b2 (sb.map stD)]=.ok (.tmp ((chg r.kd.isW r.days (qaD sa (r,lift n ps)) (qaD sb (r,lift n ps)) (qH r (qaD sa (r,lift n ps))) (qH r (qaD sb (r,lift n ps)))).map pD)):=by
 have a:=qdv (pg:=pg) (k+6) rs ps;have e:=qf8 hn;have p1:=JJ (pg:=pg) (k+1) b1 rs ps hp n r hn hr hlf sa na ca la;have p2:=JJ (pg:=pg) (k+1) b2 rs ps hp n r hn hr hlf sb nb cb lb;generalize qaD sa (r,lift n ps)=L at *;generalize qaD sb (r,lift n ps)=M at *;have e1:=Zj (pg:=pg) (k+5) r L (1:);have e2:=Zj (pg:=pg) (k+5) r M (1:);have l1:=qgt r.kd.isW r.days L;have l2:=qgt r.kd.isW r.days M;have cA:=qbC h1 pa;have cB:=qbC h1 pb;have up:=qcz (edF r.kd.isW r.days L++edF r.kd.isW r.days M);have ls:=Qo (edF r.kd.isW r.days L++edF r.kd.isW r.days M);rw[aT]at ls;have s0:(edF r.kd.isW r.days L).length+(edF r.kd.isW r.days M).length<=sizeLine:=qx (1:);have s1:((edF r.kd.isW r.days L).map D.int).length+((edF r.kd.isW r.days M).map D.int).length<=sizeLine:=by rw[aD,aD];exact s0
 have ss:qhL (.tmp ((edF r.kd.isW r.days L).map D.int++(edF r.kd.isW r.days M).map D.int))=.ok (.tmp ((JY r.kd.isW r.days L M).map D.int)):=by rw[<-aR];unfold qhL;simp?![Yv,if_pos (show(edF r.kd.isW r.days L++edF r.kd.isW r.days M).length < 4000 by rw[aT];lia),JY]
 have hg:∀p∈(JY r.kd.isW r.days L M).zip (JY r.kd.isW r.days L M).tail,-18<=(qH r L (mn (p.1+1) (p.2 - 1)) - qH r M (mn (p.1+1) (p.2 - 1))) - (qH r L p.1 - qH r M p.1)/\(qH r L (mn (p.1+1) (p.2 - 1)) - qH r M (mn (p.1+1) (p.2 - 1))) - (qH r L p.1 - qH r M p.1)<=18:=by intro p hp;let(i1,i2):=qdC _ up p hp;exact(qgo pa pb cA cB h1).2 p.1 p.2 i1 λy hy=>i2 y hy
 have zl:((JY r.kd.isW r.days L M).zip (JY r.kd.isW r.days L M).tail).length<=1000:=by
  rw[List.length_zip]
  have:(JY r.kd.isW r.days L M).length<=1000:=by unfold JY;lia
  lia
 have cl:=qgs (λd=>qH r L d - qH r M d) ((JY r.kd.isW r.days L M).zip (JY r.kd.isW r.days L M).tail);let(s9,s10,lp):=JK (pg:=pg) (k+2) r L M pa.w pb.w (.val (bkI rs ps)) (.val (.int (n:Int))) (pS b1 (sa.map stD)) (pS b2 (sb.map stD)) (.val (.lst ((JY r.kd.isW r.days L M).map D.int))) _ [] .no .no (by rw[eM];lia) hg;rw[aH,bp]at lp;have sp:clK pg (k+7) "spread" [.bor ((chP (λd=>qH r L d - qH r M d) ((JY r.kd.isW r.days L M).zip (JY r.kd.isW r.days L M).tail)).map pD)]=.ok (.tmp ((spr (chP (λd=>qH r L d - qH r M d) ((JY r.kd.isW r.days L M).zip (JY r.kd.isW r.days L M).tail))).map pD)):=qbu (pg:=pg) (k+6) true _ (1:);have z0:(0:Nat)<=sizeLine:=(3:)
 have ct:qaB ((JY r.kd.isW r.days L M).map D.int) (some 1) none=(JY r.kd.isW r.days L M).tail.map D.int:=by
  cases JY r.kd.isW r.days L M with
  |nil=>rfl
  |cons x l=>exact qk9 _ _
 unfold chg;rw[qgr];rw[r_changed_days];simp?![yu,RU.cs,qdu,a,e,p1,p2,e1,e2,s1,ss,z0,ct,qje,lp,sp]
end
end DG
namespace K65
open PySem L2 DE DG FA
def top(i:Nat):aI:=PySem.Challenge.pw_daysgate_k65_whole_just_these_days.main.body.getD i (.Pass ⟨0,0,0,0⟩)
def mem(i j:Nat):aI:=(qjS (top i)).getD j (.Pass ⟨0,0,0,0⟩)
def pg:Pg:={ defs:=[(("is_whole" : Str),top 5),(("is_between" : Str),top 6),(("are_days" : Str),top 7),(("is_made_of" : Str),top 8),(("is_name" : Str),top 9),(("spread" : Str),top 11),(("both" : Str),top 12),(("outside" : Str),top 13),(("less" : Str),top 14),(("is_land" : Str),top 23),(("are_lands" : Str),top 24),(("is_stay" : Str),top 31),(("stays_of" : Str),top 32),(("pieces_among" : Str),top 34),(("pieces_of" : Str),top 35),(("sum_of" : Str),top 36),(("first_since" : Str),top 37),(("first_of_window" : Str),top 38),(("count_among" : Str),top 39),(("turns_of" : Str),top 40),(("edges_of" : Str),top 42),(("difference" : Str),top 43),(("unlike_days" : Str),top 44),(("changed_days" : Str),top 45),(("are_rules" : Str),top 49),(("is_paper" : Str),top 50),(("check_papers" : Str),top 51),(("_law_cell_at" : Str),top 54),(("_law_lands" : Str),top 55),(("_law_rule" : Str),top 56),(("_law_made" : Str),top 57),(("_law_long" : Str),top 58),(("_law_stays" : Str),top 59),(("_law_paper" : Str),top 60),(("_law_bent" : Str),top 61),(("_law_pieces" : Str),top 62),(("_law_rises" : Str),top 63),(("_law_bends" : Str),top 64),(("_law_on" : Str),top 65),(("_law_parts" : Str),top 66),(("_law_due" : Str),top 67),(("law" : Str),top 68)],gl:=λx=>if x = "GREATEST" then some (.int 1000000000) else if x = "LETTERS" then some (.str "abcdefghijklmnopqrstuvwxyz") else if x = "LONGEST_NAME" then some (.int 8) else if x = "MOST_LANDS" then some (.int 6) else if x = "GREATEST_WEIGHT" then some (.int 9) else if x = "MOST_STAYS" then some (.int 60) else if x = "MOST_RULES" then some (.int 8) else if x = "MOST_PAPERS" then some (.int 12) else none,m:=40,w:=1000,meths:=[("Rule.weight",mem 25 1),("Book.rules",mem 52 1),("Book.papers",mem 52 2),("Book.lifted",mem 52 3)],cs:=pcs,nw:=pnw }
instance:DG.CH pg:={%[5|1],%[6|1],%[7|1],%[8|1],%[9|1]}
instance:DG.ST pg:={%[31|1],%[32|1]}
instance:DG.SP pg:={%[11|1]}
instance:DG.RU pg:={rfl,rfl,%[23|1],%[24|1],qm (pg:=pg) (st:=mem 25 1) (4:) (λk cl=>(4:))}
instance:DG.BO pg:={%[49|1],%[50|1],%[51|1],qm (pg:=pg) (st:=mem 52 1) (4:) (λk cl=>(4:)),qm (pg:=pg) (st:=mem 52 3) (4:) (λk cl=>(4:))}
instance:FA.LC pg:={%[54|1]}
instance:FA.LN pg:={%[55|1]}
instance:DG.BT pg:={%[12|1],%[13|1],%[14|1]}
instance:DG.PC pg:={%[34|1]}
instance:DG.SU pg:={%[36|1],%[37|1],%[38|1],%[39|1]}
instance:DG.CD pg:={%[40|1],%[42|1],%[43|1],%[44|1],%[45|1]}
def js:Nat×Nat×Ss:=(3,3,%[.ret (.call "pieces_among" %[0,1,.call "stays_of" %[2|0]|0])|0])
def r_pieces_of:RW pg "pieces_of" js:=%[35|1]
instance:PU pg:=⟨r_pieces_of⟩
noncomputable abbrev yv:Ss:=%[.app 3 (.tup %[.idx (.var 1) (.bin .Mod (.bin .Add (.bin .FloorDiv (.var 2) (.con (.int 18))) (.var 4)) (.b1 .len (.var 1))),.bin .Add (.con (.int 1)) (.bin .Mod (.bin .FloorDiv (.bin .FloorDiv (.var 2) (.con (.int 108))) (.bin .Add (.var 4) (.con (.int 1)))) (.idx (.lst %[.con (.int 9),.con (.int 2),.con (.int 2)|0]) (.bin .Mod (.bin .Add (.var 2) (.var 4)) (.con (.int 3)))))|0])|0]
def jt:Ss:=yv
def Qp:USs jt yv:=λz z z z=>(rfl)
def Qq:Nat×Nat×Ss:=(2,5,%[.set 2 (.bin .Mod (.bin .Mult (.var 0) (.con (.int 1099087573))) (.con (.int 10000000000037))),.set 2 (.bin .Mod (.bin .Mult (.var 2) (.con (.int 982451653))) (.con (.int 10000000000051))),.set 3 (.lst .nil),.for_ (.one 4) (.rng (.bin .Add (.con (.int 1)) (.bin .Mod (.bin .FloorDiv (.var 2) (.con (.int 3))) (.b1 .len (.var 1))))) jt,.ret (.tup %[.idx (.lst %[.con (.str "within"),.con (.str "since"),.con (.str "row")|0]) (.bin .Mod (.var 2) (.con (.int 3))),3,.bin .Add (.con (.int 1)) (.bin .Mod (.bin .FloorDiv (.var 2) (.con (.int 24300))) (.idx (.lst %[.con (.int 60),.con (.int 60),.bin .Pow (.con (.int 10)) (.con (.int 7))|0]) (.bin .Mod (.bin .FloorDiv (.var 2) (.con (.int 5))) (.con (.int 3)))))|0])|0])
def qcC:RW pg "_law_rule" Qq:=%[56|1]
def ju:Nat×Nat×Ss:=(1,4,%[.setT (.many [1,2,3]) (.var 0),.ite (.cmp .Eq (.var 1) (.con (.str "within"))) %[.ret (.new "Within" %[.b1 .list (.var 2),.con (.int 9),3|0])|0] .nil,.ite (.cmp .Eq (.var 1) (.con (.str "since"))) %[.ret (.new "Since" %[.b1 .list (.var 2),.con (.int 9),3|0])|0] .nil,.ret (.new "InRow" %[.b1 .list (.var 2),.con (.int 9)|0])|0])
def qcD:RW pg "_law_made" ju:=%[57|1]
def yF:Nat×Nat×Ss:=(1,1,%[.ite (.cmp .Eq (.bin .Mod (.var 0) (.con (.int 3))) (.con (.int 0))) %[.ret (.bin .Mod (.bin .FloorDiv (.var 0) (.con (.int 3))) (.bin .Pow (.con (.int 10)) (.con (.int 6))))|0] .nil,.ret (.bin .Mod (.bin .FloorDiv (.var 0) (.con (.int 3))) (.con (.int 30)))|0])
def qcE:RW pg "_law_long" yF:=%[58|1]
noncomputable abbrev j6:Ss:=%[.set 5 (.bin .Mod (.bin .Mult (.var 4) (.con (.int 1099087573))) (.con (.int 10000000000037))),.set 5 (.bin .Mod (.bin .Mult (.var 5) (.con (.int 982451653))) (.con (.int 10000000000051))),.set 6 (.bin .Add (.var 3) (.call "_law_long" %[.bin .FloorDiv (.var 5) (.con (.int 4))|0])),.set 7 (.bin .Add (.var 6) (.call "_law_long" %[.bin .FloorDiv (.var 5) (.con (.int 4096))|0])),.app 2 (.tup %[.idx (.var 1) (.bin .Mod (.var 5) (.b1 .len (.var 1))),6,7|0]),.set 3 (.bin .Add (.var 7) (.con (.int 1)))|0]
def zP:Ss:=j6
def JZ:USs zP j6:=λz z z z=>(rfl)
def JL:Nat×Nat×Ss:=(2,8,%[.set 2 (.lst .nil),.set 3 (.con (.int 0)),.for_ (.one 4) (.seq (.var 0)) zP,.ret (.var 2)|0])
def qbE:RW pg "_law_stays" JL:=%[59|1]
def JM:Nat×Nat×Ss:=(2,4,%[.set 2 (.bin .Mod (.bin .Mult (.var 0) (.con (.int 982451653))) (.con (.int 10000000000037))),.set 3 (.call "_law_long" %[.bin .FloorDiv (.var 2) (.con (.int 8))|0]),.ret (.tup %[.bin .Mod (.var 2) (.var 1),3,.bin .Add (.var 3) (.call "_law_long" %[.bin .FloorDiv (.var 2) (.con (.int 4096))|0])|0])|0])
def qbF:RW pg "_law_paper" JM:=%[60|1]
def Qr:Nat×Nat×Ss:=(2,7,%[.set 2 (.bin .Mod (.var 1) (.b1 .len (.var 0))),.setT (.many [3,4,5]) (.idx (.var 0) (.var 2)),.ite (.cmp .Eq (.bin .Mod (.bin .FloorDiv (.var 1) (.con (.int 64))) (.con (.int 3))) (.con (.int 0))) %[.ret (.bin .Add (.sli (.var 0) .none (.some (.var 2))) (.sli (.var 0) (.some (.bin .Add (.var 2) (.con (.int 1)))) .none))|0] .nil,.ite (.cmp .Eq (.bin .Mod (.bin .FloorDiv (.var 1) (.con (.int 64))) (.con (.int 3))) (.con (.int 1))) %[.ret (.bin .Add (.bin .Add (.sli (.var 0) .none (.some (.var 2))) (.lst %[.tup %[3,4,.bin .Add (.var 4) (.bin .FloorDiv (.bin .Sub (.var 5) (.var 4)) (.con (.int 2)))|0]|0])) (.sli (.var 0) (.some (.bin .Add (.var 2) (.con (.int 1)))) .none))|0] .nil,.set 6 (.con (.int 0)),.ite (.cmp .Gt (.var 2) (.con (.int 0))) %[.set 6 (.bin .Add (.idx (.idx (.var 0) (.bin .Sub (.var 2) (.con (.int 1)))) (.con (.int 2))) (.con (.int 1)))|0] .nil,.ret (.bin .Add (.bin .Add (.sli (.var 0) .none (.some (.var 2))) (.lst %[.tup %[3,6,5|0]|0])) (.sli (.var 0) (.some (.bin .Add (.var 2) (.con (.int 1)))) .none))|0])
def qcF:RW pg "_law_bent" Qr:=%[61|1]
noncomputable abbrev jE:E:=(.tup %[.idx (.var 0) (.con (.int 1)),.idx (.var 0) (.con (.int 2))|0])
def zB:E:=jE
def jd:UE zB jE:=λz z z=>(rfl)
noncomputable abbrev jF:Ss:=%[.ite (.and (.cmp .LtE (.var 8) (.var 9)) (.and (.cmp .LtE (.var 10) (.var 9)) (.one (.cmp .GtE (.var 11) (.var 8))))) %[.ite (.cmp .Gt (.var 10) (.var 8)) %[.app 6 (.tup %[8,.bin .Sub (.var 10) (.con (.int 1)),.dget 5 (.var 7) 0|0])|0] .nil,.set 8 (.bin .Add (.var 11) (.con (.int 1)))|0] .nil|0]
def zC:Ss:=jF
def Jy:USs zC jF:=λz z z z=>(rfl)
noncomputable abbrev jG:Ss:=%[.for_ (.many [10,11]) (.seq (.var 4)) zC,.ite (.cmp .LtE (.var 8) (.var 9)) %[.app 6 (.tup %[8,9,.dget 5 (.var 7) 0|0])|0] .nil|0]
def zD:Ss:=jG
def je:USs zD jG:=λz z z z=>(rfl)
abbrev jH:E:=(.var 0)
def zE:E:=jH
def jf:UE zE jH:=λz z z=>(rfl)
def Jb:Nat×Nat×Ss:=(4,12,%[.set 4 (.b1 .srt (.comp zB (.seq (.var 1)) (.one 0) (.test (.cmp .Eq (.idx (.var 0) (.con (.int 0))) (.var 1))) 1 [2])),.set 5 (.b1 .dic (.idx (.var 0) (.con (.int 1)))),.set 6 (.lst .nil),.for_ (.many [7,8,9]) (.seq (.var 3)) zD,.ret (.comp zE (.seq (.var 6)) (.one 0) (.test (.cmp .Gt (.idx (.var 0) (.con (.int 2))) (.con (.int 0)))) 1 [])|0])
def qan:RW pg "_law_pieces" Jb:=%[62|1]
abbrev j7:Ss:=%[.dput 2 (.var 11) (.bin .Add (.dget 2 (.var 11) 0) (.var 12))|0]
def zQ:Ss:=j7
def Yb:USs zQ j7:=λz z z z=>(rfl)
noncomputable abbrev j8:Ss:=%[.setT (.many [7,8,9]) (.var 6),.set 10 (.lst %[.tup %[7,9|0],.tup %[.bin .Add (.var 8) (.con (.int 1)),.neg (.var 9)|0]|0]),.ite (.cmp .Eq (.idx (.var 0) (.con (.int 0))) (.con (.str "within"))) %[.set 10 (.bin .Add (.var 10) (.lst %[.tup %[.bin .Add (.var 7) (.var 4),.neg (.var 9)|0],.tup %[.bin .Add (.bin .Add (.var 8) (.con (.int 1))) (.var 4),9|0]|0]))|0] %[.ite (.or (.cmp .Eq (.bin .Add (.var 5) (.con (.int 1))) (.b1 .len (.var 1))) (.one (.cmp .Gt (.idx (.idx (.var 1) (.bin .Add (.var 5) (.con (.int 1)))) (.con (.int 0))) (.bin .Add (.var 8) (.var 4))))) %[.dput 3 (.bin .Add (.var 8) (.var 4)) (.con (.bl true))|0] .nil|0],.for_ (.many [11,12]) (.seq (.var 10)) zQ|0]
def zR:Ss:=j8
def Yc:USs zR j8:=λz z z z=>(rfl)
def JN:Nat×Nat×Ss:=(2,13,%[.dnew 2,.dnew 3,.set 4 (.idx (.var 0) (.con (.int 2))),.ite (.cmp .Eq (.idx (.var 0) (.con (.int 0))) (.con (.str "row"))) %[.set 4 (.con (.int 1))|0] .nil,.for_ (.many [5,6]) (.enum (.var 1)) zR,.ret (.tup %[2,3|0])|0])
def qbG:RW pg "_law_rises" JN:=%[63|1]
noncomputable abbrev j9:Ss:=%[.set 5 (.bin .Add (.var 5) (.bin .Mult (.var 6) (.bin .Sub (.bin .Sub (.var 8) (.con (.int 1))) (.var 7)))),.set 6 (.bin .Add (.var 6) (.dget 2 (.var 8) 0)),.set 5 (.bin .Add (.var 5) (.var 6)),.ite (.cmp .In (.var 8) (.var 3)) %[.set 5 (.con (.int 0))|0] .nil,.app 4 (.tup %[8,5,6|0]),.set 7 (.var 8)|0]
def zS:Ss:=j9
def jI:USs zS j9:=λz z z z=>(rfl)
def JO:Nat×Nat×Ss:=(2,9,%[.setT (.many [2,3]) (.call "_law_rises" %[0,1|0]),.set 4 (.lst .nil),.set 5 (.con (.int 0)),.set 6 (.con (.int 0)),.set 7 (.con (.int 0)),.for_ (.one 8) (.seq (.b1 .sst (.bin .Add (.b1 .list (.var 2)) (.b1 .list (.var 3))))) zS,.ret (.var 4)|0])
def qbH:RW pg "_law_bends" JO:=%[64|1]
noncomputable abbrev JP:T:=(.and (.cmp .Lt (.var 3) (.b1 .len (.var 0))) (.one (.cmp .LtE (.idx (.idx (.var 0) (.var 3)) (.con (.int 0))) (.var 4))))
def yG:T:=JP
def jv:UT yG JP:=λz z z=>(rfl)
abbrev JQ:Ss:=%[.set 3 (.bin .Add (.var 3) (.con (.int 1)))|0]
def yH:Ss:=JQ
def qao:USs yH JQ:=λz z z z=>(rfl)
noncomputable abbrev JR:Ss:=%[.whl yG yH,.ite (.cmp .Eq (.var 3) (.con (.int 0))) %[.app 2 (.tup %[.con (.int 0),.con (.int 0)|0])|0] %[.setT (.many [5,6,7]) (.idx (.var 0) (.bin .Sub (.var 3) (.con (.int 1)))),.app 2 (.tup %[.bin .Add (.var 6) (.bin .Mult (.var 7) (.bin .Sub (.var 4) (.var 5))),7|0])|0]|0]
def jw:Ss:=JR
def Jc:USs jw JR:=λz z z z=>(rfl)
def qbI:Nat×Nat×Ss:=(2,8,%[.set 2 (.lst .nil),.set 3 (.con (.int 0)),.for_ (.one 4) (.seq (.var 1)) jw,.ret (.var 2)|0])
def qgv:RW pg "_law_on" qbI:=%[65|1]
abbrev ya:E:=(.var 0)
def zT:E:=ya
def jJ:UE zT ya:=λz z z=>(rfl)
def yc:Nat×Nat×Ss:=(4,5,%[.ite (.cmp .Eq (.var 3) (.con (.int 0))) %[.ret (.sli (.lst %[.tup %[0,1|0]|0]) .none (.some (.b1 .int (.cmp .NotEq (.var 2) (.con (.int 0))))))|0] .nil,.ite (.or (.cmp .NotEq (.bin .Mod (.var 2) (.var 3)) (.con (.int 0))) (.one (.not (.chn .LtE .LtE (.con (.int 0)) (.bin .FloorDiv (.neg (.var 2)) (.var 3)) (.bin .Sub (.var 1) (.var 0)))))) %[.ret (.lst %[.tup %[0,1|0]|0])|0] .nil,.set 4 (.bin .Add (.var 0) (.bin .FloorDiv (.neg (.var 2)) (.var 3))),.ret (.comp zT (.seq (.lst %[.tup %[0,.bin .Sub (.var 4) (.con (.int 1))|0],.tup %[.bin .Add (.var 4) (.con (.int 1)),1|0]|0])) (.one 0) (.test (.cmp .LtE (.idx (.var 0) (.con (.int 0))) (.idx (.var 0) (.con (.int 1))))) 1 [])|0])
def qbJ:RW pg "_law_parts" yc:=%[66|1]
abbrev Jd:E:=(.idx (.var 0) (.con (.int 0)))
def yd:E:=Jd
def QG:UE yd Jd:=λz z z=>(rfl)
noncomputable abbrev Je:Ss:=%[.ite (.and (.cmp .NotEq (.var 3) (.lst .nil)) (.one (.cmp .Eq (.bin .Add (.idx (.idx (.var 3) (.bin .Sub (.b1 .len (.var 3)) (.con (.int 1)))) (.con (.int 1))) (.con (.int 1))) (.var 8)))) %[.popI 8 3 0|0] .nil,.app 3 (.tup %[8,9|0])|0]
def ye:Ss:=Je
def QH:USs ye Je:=λz z z z=>(rfl)
noncomputable abbrev Jf:Ss:=%[.set 7 (.bin .Sub (.idx (.idx (.var 4) (.var 6)) (.con (.int 0))) (.idx (.idx (.var 5) (.var 6)) (.con (.int 0)))),.for_ (.many [8,9]) (.seq (.call "_law_parts" %[.idx (.var 2) (.var 6),.bin .Sub (.idx (.var 2) (.bin .Add (.var 6) (.con (.int 1)))) (.con (.int 1)),7,.bin .Sub (.idx (.idx (.var 4) (.var 6)) (.con (.int 1))) (.idx (.idx (.var 5) (.var 6)) (.con (.int 1)))|0])) ye|0]
def zK:Ss:=Jf
def QI:USs zK Jf:=λz z z z=>(rfl)
def Zk:Nat×Nat×Ss:=(2,10,%[.set 2 (.b1 .sst (.comp yd (.seq (.bin .Add (.var 0) (.var 1))) (.one 0) .yes 1 [])),.set 3 (.lst .nil),.set 4 (.call "_law_on" %[0,2|0]),.set 5 (.call "_law_on" %[1,2|0]),.for_ (.one 6) (.rng (.bin .Sub (.b1 .len (.var 2)) (.con (.int 1)))) zK,.ret (.var 3)|0])
def qey:RW pg "_law_due" Zk:=%[67|1]
abbrev qdD:E:=(.call "_law_rule" %[0,1|0])
def qap:E:=qdD
def qgw:UE qap qdD:=λz z z=>(rfl)
abbrev qdE:E:=(.call "_law_paper" %[0,.b1 .len (.var 1)|0])
def qaq:E:=qdE
def qgx:UE qaq qdE:=λz z z=>(rfl)
abbrev qdF:E:=(.call "_law_made" %[0|0])
def qar:E:=qdF
def qgy:UE qar qdF:=λz z z=>(rfl)
abbrev qdG:E:=(.and (.isi Ty.tuple (.var 0)) (.one (.isi Ty.int (.idx (.var 0) (.con (.int 0))))))
def qcG:E:=qdG
def qgz:UE qcG qdG:=λz z z=>(rfl)
noncomputable abbrev qdH:Ss:=%[.set 11 (.call "_law_bends" %[5,.call "_law_pieces" %[5,4,10,7|0]|0]),.set 12 (.call "_law_bends" %[5,.call "_law_pieces" %[5,4,10,8|0]|0]),.set 13 (.call "changed_days" %[6,10,.idx (.var 9) (.con (.int 0)),.idx (.var 9) (.con (.int 1))|0]),.ite (.or (.not (.val (.isi Ty.list (.var 13)))) (.one (.cmp .NotEq (.var 13) (.call "_law_due" %[11,12|0])))) %[.ret (.con (.bl false))|0] .nil,.ite (.not (.val (.b1 .all (.comp qcG (.seq (.var 13)) (.one 0) .yes 1 [])))) %[.ret (.con (.bl false))|0] .nil|0]
def qcH:Ss:=qdH
def qgA:USs qcH qdH:=λz z z z=>(rfl)
def qos:Nat×Nat×Ss:=(1,14,%[.set 1 (.call "_law_lands" %[.call "_law_cell_at" %[0,.con (.int 0)|0],.bin .Add (.con (.int 2)) (.bin .Mod (.bin .FloorDiv (.call "_law_cell_at" %[0,.con (.int 0)|0]) (.con (.int 512))) (.con (.int 3)))|0]),.set 3 (.comp qap (.seq (.bin .Add (.lst %[.call "_law_cell_at" %[0,.con (.int 1)|0]|0]) (.sli (.var 0) (.some (.con (.int 2))) (.some (.con (.int 4)))))) (.one 0) .yes 1 [1]),.set 4 (.comp qaq (.seq (.sli (.var 0) (.some (.con (.int 4))) (.some (.con (.int 7))))) (.one 0) .yes 1 [3]),.set 6 (.new "Book" %[.comp qar (.seq (.var 3)) (.one 0) .yes 1 [],4|0]),.set 7 (.call "_law_stays" %[.stp 2 (.var 0) (.some (.con (.int 8))) (.some (.con (.int 32))),1|0]),.set 8 (.call "_law_stays" %[.stp 2 (.var 0) (.some (.con (.int 9))) (.some (.con (.int 33))),1|0]),.set 2 (.bin .Mod (.bin .Mult (.call "_law_cell_at" %[0,.con (.int 7)|0]) (.con (.int 48271))) (.con (.int 2147483647))),.ite (.and (.cmp .Eq (.bin .Mod (.var 2) (.con (.int 2))) (.con (.int 1))) (.one (.cmp .NotEq (.var 7) (.lst .nil)))) %[.set 8 (.call "_law_bent" %[7,.bin .FloorDiv (.var 2) (.con (.int 2))|0])|0] .nil,.set 9 (.lst %[.b1 .list (.var 7),.b1 .list (.var 8)|0]),.for_ (.many [10,5]) (.enum (.var 3)) qcH,.ret (.cmp .Eq (.var 9) (.lst %[7,8|0]))|0])
def qqm:RW pg "law" qos:=%[68|1]
open Dy
open L2 hiding St
theorem qbK(cl:Cl)(v0:Sl)(n:Int)(hn:0<=n)(zs:List Str)(hz:NamesOk zs):∀(m:Nat) (l:List (Str×Int)) (s4:Sl),l.length+m<=100->Lns zs (n / 18) l->
  ∃(l':List (Str×Int)) (s4':Sl),jy cl 1000 (.one 4) jt (rgF (l.length:Int) m) [v0,.bor (zs.map D.str),.val (.int n),.own (l.map lnD),s4]=.ok (.next [v0,.bor (zs.map D.str),.val (.int n),.own (l'.map lnD),s4'])/\l'.length=l.length+m/\Lns zs (n / 18) l'
 |0,l,s4,_,h=>⟨l,s4,rfl,rfl,h⟩
 | m+1,l,s4,hl,h=>by
  have hL:(0:Int) < (zs.length:Int):=by have:=hz.two;lia
  let(z,e1,e2):=qdr (zs:=zs) ((n / 18+(l.length:Int)) % (zs.length:Int)) (bZ _ (1:)) (cD _ hL)
  have h3:∃q:Int,atI [D.int 9,D.int 2,D.int 2] ((n+(l.length:Int)) % 3)=some (.int q)/\2<=q/\q<=9:=by
   have a0:0<=(n+(l.length:Int)) % 3:=bZ _ (2:);have a1:(n+(l.length:Int)) % 3 < 3:=cD _ (2:)
   have:(n+(l.length:Int)) % 3=0\/(n+(l.length:Int)) % 3=1\/(n+(l.length:Int)) % 3=2:=by lia
   rcases this with e|e|e<;>rw[e]
   .exact{9,rfl,by decide,by decide}
   .exact{2,rfl,by decide,by decide}
   .exact{2,rfl,by decide,by decide}
  let(q,e3,q2,q9):=h3;have hq:(0:Int) < q:=by lia
  have w0:0<=n / 108 / ((l.length:Int)+1) % q:=bZ _ (1:);have w1:n / 108 / ((l.length:Int)+1) % q < q:=cD _ hq
  let(l',s4',ih,i1,i2):=qbK cl v0 n hn zs hz m (l++[(z,1+n / 108 / ((l.length:Int)+1) % q)]) (.val (.int (l.length:Int))) (by simp;lia) (λi p hp=>by
   by_cases hi:i < l.length
   .rw[dF hi]at hp;exact h i p hp
   .rw[c5 (1:)]at hp;have hlt:=(bE.mp hp).1;simp at hlt;have hi:i=l.length:=by lia
    subst hi;simp at hp;subst hp;exact{e2,hz.ok z (ed e2),by show 1<=1+_;lia,by show 1+_<=9;lia})
  refine{l',s4',?_,by rw[i1];simp;lia,i2}
  have hs:l.length < sizeLine:=by
   show _ < 2 ^ 24
   lia
  have two:0+1+1<=sizeLine:=(3:)
  have three:0+1+1+1<=sizeLine:=(3:)
  have hd:(0:Int) < (l.length:Int)+1/\(l.length:Int)+1 < 1073741824:={by lia,by lia};rw[aT,eK,show((l.length+1:Nat):Int)=(l.length:Int)+1 from by lia]at ih;simp![aR,au,aH,qdq]at ih;refine(qg _).symm.trans ?_;rw[rgF];simp?![Qp,aD,hL,e1,e3,hd,hq,two,three,hs,ih,qdq]
structure Lr where
 kd:Kd
 lands:List (Str×Int)
 days:Int
def lrD(r:Lr):D:=.tup [.str (r.kd.nm),.lst (r.lands.map lnD),.int r.days]
def Jg(r:Lr):lrD r=.tup [.str (r.kd.nm),.lst (r.lands.map lnD),.int r.days]:=rfl
def Lr.ru(r:Lr):Ru:={r.kd,r.lands,9,match r.kd with |.ro=>1 |_=>r.days}
structure LrOk(r:Lr):Prop where
 ok:∀p∈r.lands,LnOk p
 nd:(r.lands.map (·.1)).Nodup
 l1:1<=r.lands.length
 l6:r.lands.length<=6
 d0:1<=r.days
 d1:r.days<=10000000
def qld(k:Nat)(c:Int)(zs:List Str)(hz:NamesOk zs):∃r:Lr,LrOk r/\clK pg (k+1) "_law_rule" [.val (.int c),.bor (zs.map D.str)]=.ok (.val (lrD r)):=by
 have hL:(0:Int) < (zs.length:Int):=by have:=hz.two;lia
 generalize hN0:c * 1099087573 % 10000000000037=n0;have hn:0<=n0 * 982451653 % 10000000000051:=bZ _ (2:);generalize hN:n0 * 982451653 % 10000000000051=n at hn;have m0:0<=n / 3 % (zs.length:Int):=bZ _ (1:);have m1:n / 3 % (zs.length:Int) < zs.length:=cD _ hL;have four:=hz.four;let(m,em):∃m:Nat,1+n / 3 % (zs.length:Int)=(m:Int):={(1+n / 3 % (zs.length:Int)).toNat,by lia};let(l,s4',e,e1,e2):=qbK (pg.kk k) (.val (.int c)) n hn zs hz m [] .no (by simp;lia) (λi p hp=>by simp at hp);simp at e1;rw[aH,show((([]:List (Str×Int)).length:Nat):Int)=0 from rfl]at e
 have ok:∀p∈l,LnOk p:=λp hp=>by let(i,hi):=iX hp;exact(e2 i p hi).2
 have nd:=e2.nodup hz (1:);have mul:Qz c 1099087573=true:=yU (2:) (2:);have mul2:Qz n0 982451653=true:=yU (2:) (2:)
 have sm:qP (m:Int)=true:=by
  unfold qP;simp
  lia
 have three:0+1+1+1<=sizeLine:=(3:)
 have zero:(0:Nat)<=sizeLine:=(3:)
 have p7:(10:Int) ^ (7:Int).toNat=10000000:=by decide
 have c7:(0:Int)<=7/\(7:Int)<=1000000/\(10:Int).natAbs < 2 ^ 64:=by decide
 let(q,e3,q2,q9):∃q:Int,atI [D.int 60,D.int 60,D.int 10000000] (n / 5 % 3)=some (.int q)/\0 < q/\q<=10000000:=by
  have a0:0<=n / 5 % 3:=bZ _ (2:);have a1:n / 5 % 3 < 3:=cD _ (2:)
  have:n / 5 % 3=0\/n / 5 % 3=1\/n / 5 % 3=2:=by lia
  rcases this with e|e|e<;>rw[e]
  .exact{60,rfl,by decide,by decide}
  .exact{60,rfl,by decide,by decide}
  .exact{10000000,rfl,by decide,by decide}
 let(kd,e4):∃kd:Kd,atI [D.str "within",D.str "since",D.str "row"] (n % 3)=some (.str (kd.nm)):=by
  have a0:0<=n % 3:=bZ _ (2:);have a1:n % 3 < 3:=cD _ (2:)
  have:n % 3=0\/n % 3=1\/n % 3=2:=by lia
  rcases this with e|e|e<;>rw[e]
  .exact{.wi,rfl}
  .exact{.si,rfl}
  .exact{.ro,rfl}
 have d0:0<=n / 24300 % q:=bZ _ (1:);have d1:n / 24300 % q < q:=cD _ q2;refine{{kd,l,1+n / 24300 % q},{ok,nd,by dsimp only;lia,by dsimp only;lia,by show 1<=1+_;lia,by show 1+_<=_;lia},?_};rw[qcC];simp?![Qq,aD,mul,hN0,mul2,hN,hL,em,sm,yQ,iQ,eJ,e,p7,c7,e3,e4,q2,three,zero,Jg]
def qgT(n:Int):Int:=if n % 3=0 then n / 3 % 1000000 else n / 3 % 30
def qdI(n:Int):0<=qgT n/\qgT n < 1000000:=by
 unfold qgT;split
 .exact{bZ _ (2:),cD _ (2:)}
 .exact{bZ _ (2:),Int.lt_trans (cD _ (2:)) (2:)}
def qas(k:Nat)(n:Int):clK pg (k+1) "_law_long" [.val (.int n)]=.ok (.val (.int (qgT n))):=by
 have x0:eqD (.int (n % 3)) (.int 0)=some (n % 3 == 0):=qw ..;have p6:(10:Int) ^ (6:Int).toNat=1000000:=by decide
 have c6:(0:Int)<=6/\(6:Int)<=1000000/\(10:Int).natAbs < 2 ^ 64:=by decide
 rw[qcE];unfold qgT
 by_cases h:n % 3=0
 .have x0:eqD (.int (n % 3)) (.int 0)=some true:=by rw[x0,h];rfl
  rw[if_pos h];simp?![yF,x0,p6,c6]
 .have x0:eqD (.int (n % 3)) (.int 0)=some false:=by rw[x0];simp[h]
  rw[if_neg h];simp?![yF,x0]
theorem zZ(k:Nat)(v0:Sl)(zs:List Str)(hz:NamesOk zs):∀(cs:List Int) (acc:List DG.St) (day:Int) (s4 s5 s6 s7:Sl),acc.length+cs.length < 1000->0<=day->day+2000000 * (cs.length:Int)<=1000000000->
  ∃(l:List DG.St) (N':List Sl),jy (pg.kk (k+1)) 1000 (.one 4) zP (cs.map D.int) [v0,.bor (zs.map D.str),.own (acc.map stD),.val (.int day),s4,s5,s6,s7]=.ok (.next (v0::.bor (zs.map D.str)::.own ((acc++l).map stD)::N'))/\Ch (day - 1) l/\l.length=cs.length/\∀s∈l,s.1∈zs/\s.2.2<=day+2000000 * (cs.length:Int)
 |[],acc,day,s4,s5,s6,s7,_,_,_=>{[],[.val (.int day),s4,s5,s6,s7],by simp[qW],trivial,rfl,λs h=>(by cases h)}
 | c::cs,acc,day,s4,s5,s6,s7,hl,h0,h1=>by
  rw[aK]at hl h1;have hL:(0:Int) < (zs.length:Int):=by have:=hz.two;lia
  have mul:Qz c 1099087573=true:=yU (2:) (2:);generalize hN0:c * 1099087573 % 10000000000037=n0;have mul2:Qz n0 982451653=true:=yU (2:) (2:);generalize hN:n0 * 982451653 % 10000000000051=n;let(z,e1,e2):=qdr (zs:=zs) (n % (zs.length:Int)) (bZ _ (1:)) (cD _ hL);have f1:=qas k (n / 4);have f2:=qas k (n / 4096);let(g0,g1):=qdI (n / 4);let(g2,g3):=qdI (n / 4096);generalize qgT (n / 4)=a at *;generalize qgT (n / 4096)=b at *;have hzm:z∈zs:=ed e2;have hs:(acc.map stD).length < sizeLine:=zk hl;have three:0+1+1+1<=sizeLine:=(3:)
  let(l,N',i0,i1,i2,i3):=zZ k v0 zs hz cs (acc++[(z,day+a,day+a+b)]) (day+a+b+1) (.val (.int c)) (.val (.int n)) (.val (.int (day+a))) (.val (.int (day+a+b))) (sn hl) (1:) (1:);refine{(z,day+a,day+a+b)::l,N',?_,{{hz.ok z hzm,by dsimp only;lia,by dsimp only;lia,by dsimp only;lia},by rw[show day+a+b+1 - 1=day+a+b by lia]at i1;exact i1},by rw[aK,i2,aK],λs hs=>?_}
  .rw[show acc++(z,day+a,day+a+b)::l=acc++[(z,day+a,day+a+b)]++l by simp];simp![aR,au,aH,jC]at i0 ⊢;simp?[JZ,mul,hN0,mul2,hN,e1,qfZ,hL,three,hs,f1,f2,i0]
  .rw[aK];rcases aF.mp hs with rfl|hs
   .exact{hzm,by dsimp only;lia}
   .have:=(i3 s hs).2
    exact{(i3 s hs).1,by lia}
def qbL(k:Nat)(cs:List Int)(hl:cs.length<=60)(zs:List Str)(hz:NamesOk zs):∃l:List DG.St,clK pg (k+2) "_law_stays" [.val (.lst (cs.map D.int)),.bor (zs.map D.str)]=.ok (.tmp (l.map stD))/\Ch (-1) l/\l.length=cs.length/\∀s∈l,s.1∈zs/\s.2.2<=2000000 * (cs.length:Int):=by let(l,N',e,e1,e2,e3):=zZ k (.val (.lst (cs.map D.int))) zs hz cs [] 0 .no .no .no .no (by simp;lia) (2:) (1:);refine{l,?_,e1,e2,λs hs=>{(e3 s hs).1,by have:=(e3 s hs).2;lia}};rw[aH,bp]at e;rw[qbE];simp?![JL,show(0:Nat)<=sizeLine by decide+kernel,e]
def qaa(k:Nat)(c m:Int)(hm:0 < m):∃p:Pa,(0<=p.1/\p.1 < m/\0<=p.2.1/\p.2.1<=p.2.2/\p.2.2<=2000000)/\clK pg (k+2) "_law_paper" [.val (.int c),.val (.int m)]=.ok (.val (paD p)):=by
 have mul:Qz c 982451653=true:=yU (2:) (2:);have three:0+1+1+1<=sizeLine:=(3:)
 generalize hN:c * 982451653 % 10000000000037=n;have f1:=qas k (n / 8);have f2:=qas k (n / 4096);let(g0,g1):=qdI (n / 8);let(g2,g3):=qdI (n / 4096);have o0:0<=n % m:=bZ _ (1:);have o1:n % m < m:=cD _ hm;refine{(n % m,qgT (n / 8),qgT (n / 8)+qgT (n / 4096)),{o0,o1,g0,by dsimp only;lia,by dsimp only;lia},?_};rw[qbF];simp?![JM,mul,hN,hm,f1,f2,three,qy]
def qab{r:Lr}(h:LrOk r):qu (r.lands.map lnD)=true:=qet h.ok h.nd h.l1 h.l6
theorem qcs(k:Nat)(r:Lr)(h:LrOk r):clK pg (k+13) "_law_made" [.val (lrD r)]=.ok (.val (ruI r.ru)):=by
 have lok:=qab h;have hd0:=h.d0;have hd1:=h.d1;let(kd,l,d):=r;have hd:btw d 1 1000000000=true:=by unfold btw;simp at hd0 hd1 ⊢;lia
 have hm:btw 9 0 1000000000=true:=by decide
 have three:0+1+1+1<=sizeLine:=(3:)
 rw[qcD]
 cases kd with
 |wi=>
  have x0:eqD (.str "within") (.str "within")=some true:=(3:)
  have nw:pg.nw (k+12) "Within" [.val (.lst (l.map lnD)),.val (.int 9),.val (.int d)]=.ok (.val (ruI ⟨.wi,l,9,d⟩)):=by show(if k+12 < 12 then R.no else qdn "Within" (if (qu (l.map lnD)&&btw 9 0 1000000000&&btw d 1 1000000000)=true then _ else none))=_;rw[if_neg qae,if_pos (by rw[show qu (l.map lnD)=true from lok,hm,hd];rfl)];rfl
  simp?![ju,Jg,Kd.nm,x0,nw,Lr.ru]
 |si=>
  have x0:eqD (.str "since") (.str "within")=some false:=(3:)
  have x1:eqD (.str "since") (.str "since")=some true:=(3:)
  have nw:pg.nw (k+12) "Since" [.val (.lst (l.map lnD)),.val (.int 9),.val (.int d)]=.ok (.val (ruI ⟨.si,l,9,d⟩)):=by show(if k+12 < 12 then R.no else qdn "Since" (if (qu (l.map lnD)&&btw 9 0 1000000000&&btw d 1 1000000000)=true then _ else none))=_;rw[if_neg qae,if_pos (by rw[show qu (l.map lnD)=true from lok,hm,hd];rfl)];rfl
  simp?![ju,Jg,Kd.nm,x0,x1,nw,Lr.ru]
 |ro=>
  have x0:eqD (.str "row") (.str "within")=some false:=(3:)
  have x1:eqD (.str "row") (.str "since")=some false:=(3:)
  have nw:pg.nw (k+12) "InRow" [.val (.lst (l.map lnD)),.val (.int 9)]=.ok (.val (ruI ⟨.ro,l,9,1⟩)):=by show(if k+12 < 12 then R.no else qdn "InRow" (if (qu (l.map lnD)&&btw 9 0 1000000000)=true then _ else none))=_;rw[if_neg qae,if_pos (by rw[show qu (l.map lnD)=true from lok,hm];rfl)];rfl
  simp?![ju,Jg,Kd.nm,x0,x1,nw,Lr.ru]
theorem qjm:∀{a b:List Int},a.Pairwise (· < ·)->b.Pairwise (· < ·)->(∀x,x∈a↔x∈b)->a=b
 |[],[],w,v,u=>rfl
 | [],y::b,w,v,h=>by have:=(h y).mpr (5:);cases this
 | x::a,[],w,v,h=>by have:=(h x).mp (5:);cases this
 | x::a,y::b,ha,hb,h=>by
  rw[bg]at ha hb
  have e:x=y:=by
   rcases aF.mp ((h x).mp (5:)) with e|e
   .exact e
   rcases aF.mp ((h y).mpr (5:)) with f|f
   .exact f.symm
   have:=hb.1 x e
   have:=ha.1 y f
   lia
  subst e;rw[qjm ha.2 hb.2 λz=>?_];constructor
  .intro hz;rcases aF.mp ((h z).mp (by simp[hz])) with e|e
   .have:=ha.1 z hz
    lia
   .exact e
  .intro hz;rcases aF.mp ((h z).mpr (by simp[hz])) with e|e
   .have:=hb.1 z hz
    lia
   .exact e
def qot{a b:List Int}(h:∀x,x∈a↔x∈b):sdI a=sdI b:=qjm (qcz a) (qcz b) λx=>by rw[jZ,jZ,h]
def kI(is:List Int):List Key:=is.map .inl
theorem qgB(d:Int):∀is:List Int,QP (kI is) (.inl d)=decide (d∈is)
 |[]=>rfl
 | a::is=>by
  have ih:=qgB d is;unfold kI QP at ih ⊢;rw[au,c8,ih]
  by_cases e:a=d
  .subst e;simp
  .have:d≠a:=λz=>e z.symm
   simp[e,this]
def qjn(is:List Int)(d:Int):List Int:=if d∈is then is else is++[d]
def Zl(is:List Int)(d:Int):JT (kI is) (.inl d)=kI (qjn is d):=by
 unfold JT qjn;rw[qgB]
 by_cases h:d∈is
 .rw[if_pos h,decide_eq_true h,if_pos rfl]
 .rw[if_neg h,decide_eq_false h,if_neg (2:)];simp[kI]
def qgC{is:List Int}{d x:Int}:x∈qjn is d↔x∈is\/x=d:=by
 unfold qjn;split
 .rename_i h;exact{.inl,λz=>z.elim id λe=>by rw[e];exact h}
 .simp
def qjo(is:List Int)(d:Int):(qjn is d).length<=is.length+1:=by
 unfold qjn;split
 .lia
 .simp
theorem qjp(d:D)(k k':Key):∀(ks:List Key) (ds:List D),ds.length=ks.length->atK ks (fZ (λa x=>if a=k then d else x) ks ds) k'=if k=k'/\QP ks k=true then some d else atK ks ds k'
 |[],[],y=>by simp[QP,atK]
 | [],y::w,h=>by simp at h
 | y::w,[],h=>by simp at h
 | a::ks,x::ds,h=>by
  have ih:=qjp d k k' ks ds (-h:);rw[f6,atK,atK,ih];have hc:QP (a::ks) k=(decide (a=k)||QP ks k):=rfl;rw[hc]
  by_cases e:a=k'
  .subst e;rw[if_pos rfl,if_pos rfl]
   by_cases f:a=k
   .subst f;simp
   .rw[if_neg f,if_neg λz=>f z.1.symm]
  .rw[if_neg e,if_neg e]
   by_cases f:k=k'
   .have:¬ a=k:=λz=>e (z.trans f)
    simp[f,e]
   .simp[f]
theorem qgD(d:D)(k k':Key):∀(ks:List Key) (ds:List D),ds.length=ks.length->QP ks k=false->atK (ks++[k]) (ds++[d]) k'=if k=k' then some d else atK ks ds k'
 |[],[],y,w=>rfl
 | [],y::w,h,v=>by simp at h
 | y::w,[],h,v=>by simp at h
 | a::ks,x::ds,h,hk=>by
  have hc:QP (a::ks) k=(decide (a=k)||QP ks k):=rfl;rw[hc,eP]at hk;have ih:=qgD d k k' ks ds (-h:) hk.2;have ne:a≠k:=of_decide_eq_false hk.1;rw[cK,cK,atK,atK,ih]
  by_cases e:a=k'
  .subst e;rw[if_pos rfl,if_pos rfl,if_neg λz=>ne z.symm]
  .rw[if_neg e,if_neg e]
theorem qou{ks:List Key}{ds:List D}(h:ds.length=ks.length)(d:D)(k k':Key):atK (JT ks k) (yy ks ds k d) k'=if k=k' then some d else atK ks ds k':=by
 unfold JT yy
 cases e:QP ks k with
 |true=>rw[if_pos rfl,if_pos rfl,qjp d k k' ks ds h,e];simp
 |false=>rw[if_neg (2:),if_neg (2:),qgD d k k' ks ds h e]
structure Rs(is:List Int)(ds:List D)(c:List (Int×Int)):Prop where
 len:ds.length=(kI is).length
 le:is.length<=c.length
 mem:∀d,d∈is↔d∈c.map (·.1)
 at_:∀d,(atK (kI is) ds (.inl d)).getD (.int 0)=.int (rsF c d)
def Rs.put{is:List Int}{ds:List D}{c:List (Int×Int)}(h:Rs is ds c)(x:Int×Int):Rs (qjn is x.1) (yy (kI is) ds (.inl x.1) (.int (rsF c x.1+x.2))) (c++[x]) where
 len:=by rw[<-Zl];exact qcp h.len _ _
 le:=by
  have:=qjo is x.1
  have:=h.le
  simp
  lia
 mem d:=by rw[qgC,h.mem,aR,aV,List.map_singleton,aU]
 at_ d:=by
  have hr:rsF [x] d=if x.1=d then x.2 else 0:=by unfold rsF;simp
  rw[<-Zl,qou h.len,qgk,hr]
  by_cases e:x.1=d
  .subst e;rw[if_pos rfl,if_pos rfl];rfl
  .rw[if_neg (λz=>e (Sum.inl.inj z)),if_neg e,h.at_,i6]
theorem qdJ(cl:Cl)(v0 v1 v3 v4 v5 v6 v7 v8 v9 v10:Sl):∀(xs:List (Int×Int)) (is:List Int) (ds:List D) (c:List (Int×Int)) (s11 s12:Sl),c.length+xs.length < 10000->Rs is ds c->
  ∃is' ds' s11' s12',jy cl 1000 (.many [11,12]) zQ (xs.map pD) [v0,v1,.dic (kI is) ds,v3,v4,v5,v6,v7,v8,v9,v10,s11,s12]=.ok (.next [v0,v1,.dic (kI is') ds',v3,v4,v5,v6,v7,v8,v9,v10,s11',s12'])/\Rs is' ds' (c++xs)
 |[],is,ds,c,s11,s12,_,h=>{is,ds,s11,s12,rfl,by rw[b5];exact h}
 | x::xs,is,ds,c,s11,s12,hl,h=>by
  rw[aK]at hl;let(is',ds',s11',s12',ih,i1):=qdJ cl v0 v1 v3 v4 v5 v6 v7 v8 v9 v10 xs _ _ (c++[x]) (.val (.int x.1)) (.val (.int x.2)) (sn hl) (h.put x);rw[bf]at i1;refine{is',ds',s11',s12',?_,i1};have z:(kI is).length < sizeLine:=by unfold kI;rw[aD];exact zx (by have:=h.le;lia)
  rw[<-Zl]at ih;have a:=h.at_ x.1;rw[au];simp?[Yb,qG,a,z,ih]
structure En(is:List Int)(bs:List D)(l:List Int):Prop where
 len:bs.length=(kI is).length
 le:is.length<=l.length
 mem:∀d,d∈is↔d∈l
def En.put{is:List Int}{bs:List D}{l:List Int}(h:En is bs l)(d:Int)(b:D):En (qjn is d) (yy (kI is) bs (.inl d) b) (l++[d]) where
 len:=by rw[<-Zl];exact qcp h.len _ _
 le:=by
  have:=qjo is d
  have:=h.le
  simp
  lia
 mem x:=by rw[qgC,h.mem,aV,aU]
def qrR(kd:Kd):eqD (.str kd.nm) (.str "within")=some kd.isW:=by rw[qfS (qqd kd) (3:)];cases kd<;>rfl
def nxB(n:Int)(p:Pa):List Pa->Bool
 |[]=>true
 | q::z=>decide (q.1 > p.2.1+n)
theorem qdK(n:Int)(p:Pa)(l:List Pa):enD n (p::l)=(if nxB n p l=true then [p.2.1+n] else [])++enD n l:=by
 cases l with
 |nil=>rfl
 |cons q l=>rw[enD];simp[nxB]
def esF(w:Bool)(n:Int)(l:List Pa):List Int:=if w=true then [] else enD n l
theorem qbM(cl:Cl)(r:Lr)(L:List Pa)(n:Int):∀(rest:List Pa) (i:Nat) (is es:List Int) (ds bs:List D) (c:List (Int×Int)) (e:List Int) (s5 s6 s7 s8 s9 s10 s11 s12:Sl),L.drop i=rest->c.length+4 * rest.length < 9000->e.length+rest.length < 9000->Rs is ds c->En es bs e->
  ∃is' es' ds' bs' N',jy cl 1000 (.many [5,6]) zR (DE.enF i (rest.map paD)) [.val (lrD r),.val (.lst (L.map paD)),.dic (kI is) ds,.dic (kI es) bs,.val (.int n),s5,s6,s7,s8,s9,s10,s11,s12]=.ok (.next (.val (lrD r)::.val (.lst (L.map paD))::.dic (kI is') ds'::.dic (kI es') bs'::N'))/\Rs is' ds' (c++chs r.kd.isW n rest)/\En es' bs' (e++esF r.kd.isW n rest)
 |[],i,is,es,ds,bs,c,e,s5,s6,s7,s8,s9,s10,s11,s12,_,_,_,h1,h2=>{is,es,ds,bs,[.val (.int n),s5,s6,s7,s8,s9,s10,s11,s12],rfl,by simpa [chs] using h1,by cases r.kd.isW<;>simpa [esF,enD] using h2}
 | p::rest,i,is,es,ds,bs,c,e,s5,s6,s7,s8,s9,s10,s11,s12,hd,hl,hl',h1,h2=>by
  rw[aK]at hl hl';have hd':L.drop (i+1)=rest:=by rw[<-List.tail_drop,hd];rfl
  have hi:i < L.length:=Nat.lt_of_not_le λz=>by rw[iA z]at hd;cases hd
  have hr:rest.length=L.length - (i+1):=by rw[<-hd',lq]
  have two:0+1+1<=sizeLine:=(3:)
  have four:0+1+1+1+1<=sizeLine:=(3:)
  have chl:(chp r.kd.isW n p).length<=4:=by cases r.kd.isW<;>simp[chp]
  let(es1,bs1,X,E1):∃es1 bs1,(∀{M:Type} (K:Fl->R M),(iS cl 1000 (.ite (.cmp .Eq (.idx (.var 0) (.con (D.int 0))) (.con (D.str "within"))) %[.set 10 (.bin .Add (.var 10) (.lst %[.tup %[.bin .Add (.var 7) (.var 4),.neg (.var 9)|0],.tup %[.bin .Add (.bin .Add (.var 8) (.con (D.int 1))) (.var 4),9|0]|0]))|0] %[.ite (.or (.cmp .Eq (.bin .Add (.var 5) (.con (D.int 1))) (.b1 .len (.var 1))) (.one (.cmp .Gt (.idx (.idx (.var 1) (.bin .Add (.var 5) (.con (D.int 1)))) (.con (D.int 0))) (.bin .Add (.var 8) (.var 4))))) %[.dput 3 (.bin .Add (.var 8) (.var 4)) (.con (D.bl true))|0] .nil|0]) [.val (lrD r),.val (.lst (L.map paD)),.dic (kI is) ds,.dic (kI es) bs,.val (.int n),.val (.int i),.val (.tup [.int p.1,.int p.2.1,.int p.2.2]),.val (.int p.1),.val (.int p.2.1),.val (.int p.2.2),.own [D.tup [.int p.1,.int p.2.2],.tup [.int (p.2.1+1),.int (-p.2.2)]],s11,s12]).th K=K (.next [.val (lrD r),.val (.lst (L.map paD)),.dic (kI is) ds,.dic (kI es1) bs1,.val (.int n),.val (.int i),.val (.tup [.int p.1,.int p.2.1,.int p.2.2]),.val (.int p.1),.val (.int p.2.1),.val (.int p.2.2),.own ((chp r.kd.isW n p).map pD),s11,s12]))/\En es1 bs1 (e++if r.kd.isW=true then [] else if nxB n p rest=true then [p.2.1+n] else []):=by
   have a0:atI [D.str r.kd.nm,.lst (r.lands.map lnD),.int r.days] 0=some (.str r.kd.nm):=rfl;have iw:=qrR r.kd;have x0:eqD (.int ((i:Int)+1)) (.int (L.length:Int))=some ((i:Int)+1 == (L.length:Int)):=qw ..;have z:(kI es).length < sizeLine:=by unfold kI;rw[aD];exact zx (by have:=h2.le;lia)
   cases hw:r.kd.isW with
   |true=>rw[hw]at iw;refine{es,bs,λK=>?_,(-h2:)};rw[Jg];simp?![a0,iw,two,four];rfl
   |false=>
    rw[hw]at iw;rw[if_neg (2:)]
    cases rest with
    |nil=>
     have x0:eqD (.int ((i:Int)+1)) (.int (L.length:Int))=some true:=by rw[x0,show(i:Int)+1=(L.length:Int) by rw[eM]at hr;lia];simp
     refine{_,_,λK=>?_,h2.put (p.2.1+n) (.bl true)};rw[Jg,<-Zl];simp?![a0,iw,aD,x0,z];rfl
    |cons q rest=>
     have x0:eqD (.int ((i:Int)+1)) (.int (L.length:Int))=some false:=by
      rw[x0]
      have:(i:Int)+1≠(L.length:Int):=by rw[aK]at hr;lia
      simp[this]
     have at1:atI (L.map paD) ((i:Int)+1)=some (.tup [.int q.1,.int q.2.1,.int q.2.2]):=qia (j:=i+1) (by rw[bu,<-lV,hd'];rfl);rw[Jg]
     by_cases g:q.1 > p.2.1+n
     .refine{_,_,λK=>?_,by rw[nxB,if_pos (decide_eq_true g)];exact h2.put (p.2.1+n) (.bl true)};rw[<-Zl];simp?![a0,iw,aD,x0,at1,g,z];rfl
     .refine{es,bs,λK=>?_,by rw[nxB,if_neg (-g:),b5];exact h2};simp?![a0,iw,aD,x0,at1,g];rfl
  let(is1,ds1,t11,t12,e1,r1):=qdJ cl (.val (lrD r)) (.val (.lst (L.map paD))) (.dic (kI es1) bs1) (.val (.int n)) (.val (.int i)) (.val (paD p)) (.val (.int p.1)) (.val (.int p.2.1)) (.val (.int p.2.2)) (.val (.lst ((chp r.kd.isW n p).map pD))) (chp r.kd.isW n p) is ds c s11 s12 (1:) h1;let(is',es',ds',bs',N',ih,i1,i2):=qbM cl r L n rest (i+1) is1 es1 ds1 bs1 _ _ (.val (.int i)) (.val (paD p)) (.val (.int p.1)) (.val (.int p.2.1)) (.val (.int p.2.2)) (.val (.lst ((chp r.kd.isW n p).map pD))) t11 t12 hd' (by rw[aT];lia) (by rw[aT];split<;>(try split)<;>simp<;>lia) r1 E1;refine{is',es',ds',bs',N',?_,by rw[bf]at i1;exact i1,?_}
  .simp![qy]at ih e1;refine(qg _).symm.trans ?_;rw[au,DE.enF];simp?![Yc,qy,two,↓X,e1,ih]
  .rw[bf]at i2
   cases hw:r.kd.isW with
   |true=>rw[hw]at i2;exact i2
   |false=>rw[hw]at i2;show En es' bs' (e++enD n (p::rest));rw[qdK];exact i2
def qle(r:Lr):∃b,eqD (.str r.kd.nm) (.str "row")=some b/\r.ru.days=if b=true then 1 else r.days:=by
 let(kd,l,d):=r;cases kd
 .exact{false,show eqD (.str Kd.wi.nm) (.str "row")=some false by decide+kernel,rfl}
 .exact{false,show eqD (.str Kd.si.nm) (.str "row")=some false by decide+kernel,rfl}
 .exact{true,show eqD (.str Kd.ro.nm) (.str "row")=some true by decide+kernel,rfl}
def qiv(k:Nat)(r:Lr)(L:List Pa)(hL:L.length<=500):∃is es ds bs,clK pg (k+1) "_law_rises" [.val (lrD r),.val (.lst (L.map paD))]=.ok (.val (.tup [.dct (kI is) ds,.dct (kI es) bs]))/\Rs is ds (chs r.kd.isW r.ru.days L)/\En es bs (esF r.kd.isW r.ru.days L):=by
 have a0:atI [D.str r.kd.nm,.lst (r.lands.map lnD),.int r.days] 0=some (.str r.kd.nm):=rfl;have a2:atI [D.str r.kd.nm,.lst (r.lands.map lnD),.int r.days] 2=some (.int r.days):=rfl;have two:0+1+1<=sizeLine:=(3:)
 let(is',es',ds',bs',N',e,i1,i2):=qbM (pg.kk k) r L r.ru.days L 0 [] [] [] [] [] [] .no .no .no .no .no .no .no .no rfl (by simp;lia) (by simp;lia) ⟨rfl,ay _,λd=>Iff.rfl,λd=>rfl⟩ ⟨rfl,ay _,λd=>Iff.rfl⟩;refine{is',es',ds',bs',?_,i1,i2};rw[qbG];let(b,x0,hn):=qle r;have k0:kI []=[]:=rfl;rw[k0,hn]at e;simp![Jg]at e ⊢
 cases b<;>simp![bo,if_false,if_true]at e<;>simp?![JN,a0,a2,x0,two,Ys,e]
def qiw(is:List Int)(ds:List D):qhJ (.val (.dct (kI is) ds))=R.ok (Rv.tmp (is.map D.int)):=by show R.ok (Rv.tmp ((kI is).map qmC))=_;unfold kI;rw[fh];rfl
theorem Zm(cl:Cl)(v0 v1:Sl){is es:List Int}{ds bs:List D}{c:List (Int×Int)}{E:Int->Bool}(h:Rs is ds c)(hE:∀d,decide (d∈es)=E d):∀(l:List Int) (acc:List Pa) (c0 r0 b0:Int) (s8:Sl),acc.length+l.length < 10000->-100<=r0/\r0<=100->(∀x∈bnF (rsF c) E l c0 r0 b0,-100<=x.2.2/\x.2.2<=100)->
  ∃N',jy cl 1000 (.one 8) zS (l.map D.int) [v0,v1,.val (.dct (kI is) ds),.val (.dct (kI es) bs),.own (acc.map paD),.val (.int c0),.val (.int r0),.val (.int b0),s8]=.ok (.next (v0::v1::.val (.dct (kI is) ds)::.val (.dct (kI es) bs)::.own ((acc++bnF (rsF c) E l c0 r0 b0).map paD)::N'))
 |[],acc,c0,r0,b0,s8,_,_,_=>{[.val (.int c0),.val (.int r0),.val (.int b0),s8],by simp[bnF,qW]}
 | t::l,acc,c0,r0,b0,s8,hl,hr,hx=>by
  rw[aK]at hl;rw[bnF]at hx ⊢;have m:Qz r0 (t - 1 - b0)=true:=qdp (1:) (1:);have a:=h.at_ t;have hk:=(qgB t es).trans (hE t);have hs:(acc.map paD).length < sizeLine:=zk hl;have three:0+1+1+1<=sizeLine:=(3:)
  have h1:=hx _ bX;have h2:∀x∈_,_:=λx hm=>hx x (bH _ hm);have go:=λ(C:Int) (h2:∀x∈bnF (rsF c) E l C (r0+rsF c t) t,-100<=x.2.2/\x.2.2<=100)=>Zm cl v0 v1 (bs:=bs) h hE l (acc++[(t,C,r0+rsF c t)]) C (r0+rsF c t) t (.val (.int t)) (sn hl) h1 h2
  cases e:E t with
  |true=>rw[e]at hk;rw[e,if_pos rfl]at h2;let(N',ih):=go _ h2;refine{N',?_};rw[if_pos rfl,show acc++(t,0,r0+rsF c t)::bnF (rsF c) E l 0 (r0+rsF c t) t=acc++[(t,0,r0+rsF c t)]++bnF (rsF c) E l 0 (r0+rsF c t) t by simp];rw[aR (l₁:=acc)]at ih;simp![au,aH,qy]at ih;rw[au];simp?[jI,m,a,hk,hs,three,ih]
  |false=>rw[e]at hk;rw[e,if_neg (2:)]at h2;let(N',ih):=go _ h2;refine{N',?_};rw[if_neg (2:)];generalize hC:c0+r0 * (t - 1 - b0)+(r0+rsF c t)=C at ih ⊢;rw[show acc++(t,C,r0+rsF c t)::bnF (rsF c) E l C (r0+rsF c t) t=acc++[(t,C,r0+rsF c t)]++bnF (rsF c) E l C (r0+rsF c t) t by simp];rw[aR (l₁:=acc)]at ih;simp![au,aH,qy]at ih;rw[au];simp?[jI,m,a,hk,hs,three,hC,ih]
def bdL(ks:List Int)(s C:Int->Int):List Pa:=ks.map λt=>(t,C t,s t)
theorem qgE(w:Bool)(n:Int):∀L:List Pa,(chs w n L).length<=4 * L.length/\(enD n L).length<=L.length
 |[]=>{ay _,ay _}
 | p::l=>by
  have h:=qgE w n l
  have:(chp w n p).length<=4:=by cases w<;>simp[chp]
  rw[qdK,chs,gV,aT,aT,aK];unfold chs at h;refine{by lia,?_}
  split<;>simp<;>lia
def qdL(k:Nat)(r:Lr)(L:List Pa)(hL:PcOk L)(hl:L.length<=500){C:Int->Int}(hn:1<=r.ru.days)(hC:Cnt r.kd.isW r.ru.days (pf L) C):clK pg (k+2) "_law_bends" [.val (lrD r),.val (.lst (L.map paD))]=.ok (.tmp ((bdL (sdI (tuD r.kd.isW r.ru.days L)) (sF r.kd.isW r.ru.days (pf L)) C).map paD)):=by
 let(is,es,ds,bs,e,h1,h2):=qiv k r L hl;let(l1,l2):=qgE r.kd.isW r.ru.days L;generalize r.ru.days=n at *;generalize r.kd.isW=w at *;have hB:=qam hL hC hn
 have l3:(esF w n L).length<=500:=by
  unfold esF;split
  .simp
  .lia
 have le1:=h1.le;have le2:=h2.le
 have ex:sdI (is++es)=sdI (tuD w n L):=qot λx=>by unfold tuD;rw[aV,aV,h1.mem,h2.mem];rfl
 have hE:∀d,decide (d∈es)=enB w n L d:=λd=>by
  have m:=h2.mem d;unfold esF at m;unfold enB;cases w
  .rw[if_neg (2:)]at m;rw[fb,lO];exact decide_eq_decide.mpr m
  .rw[if_pos rfl]at m;exact decide_eq_false λz=>by cases m.mp z
 have key:=qql hB (R:=rsF (chs w n L)) λd y=>qon hL d;have ll:(sdI (is++es)).length<=2500:=by have:=Qo (is++es);rw[aT]at this;lia
 let(N',lp):=Zm (pg.kk (k+1)) (.val (lrD r)) (.val (.lst (L.map paD))) (bs:=bs) h1 hE (sdI (is++es)) [] 0 0 0 .no (by rw[eM];lia) (2:) λx hx=>by
  rw[ex,key]at hx;let(t,_,rfl):=df.mp hx
  have:=qgn (w:=w) (n:=n) hL t
  dsimp only
  lia
 have ss:qhL (.tmp (is.map D.int++es.map D.int))=.ok (.tmp ((sdI (is++es)).map D.int)):=by rw[<-aR];unfold qhL;simp?![Yv,if_pos (show(is++es).length < 4000 by rw[aT];lia)]
 have z0:(0:Nat)<=sizeLine:=(3:)
 have zz:is.length+es.length<=sizeLine:=qx (1:);rw[ex,key]at lp;rw[ex]at ss;rw[aH,bp]at lp;rw[qbH];unfold bdL;simp?![JO,e,qiw,aD,zz,ss,z0,lp]
section
variable{ks:List Int}{s C:Int->Int}
def qov{j:Nat}{t:Int}(h:ks[j]?=some t):atI ((bdL ks s C).map paD) (j:Int)=some (.tup [.int t,.int (C t),.int (s t)]):=qia (by unfold bdL;rw[bu,bu,h];rfl)
def qgF:(((bdL ks s C).map paD).length:Int)=(ks.length:Int):=by unfold bdL;rw[aD,aD]
theorem qow(cl:Cl)(v1 v2 s5 s6 s7:Sl)(d:Int):∀(n a:Nat),a<=ks.length->ks.length - a < n->
  ∃b:Nat,whD cl 1000 yG yH n [.bor ((bdL ks s C).map paD),v1,v2,.val (.int (a:Int)),.val (.int d),s5,s6,s7]=.ok (.next [.bor ((bdL ks s C).map paD),v1,v2,.val (.int (b:Int)),.val (.int d),s5,s6,s7])/\b<=ks.length/\(∀j t,a<=j->j < b->ks[j]?=some t->t<=d)/\∀t,ks[b]?=some t->d < t
 |0,a,_,h=>by lia
 | n+1,a,ha,hn=>by
  by_cases h:a < ks.length
  .have h1:(a:Int) < (ks.length:Int):=by lia
   have hy:ks[a]?=some ks[a]:=bN h;generalize ks[a]=t at hy;have at1:=qov (s:=s) (C:=C) hy
   by_cases hx:t<=d
   .let(b,ih,i2,i3,i4):=qow cl v1 v2 s5 s6 s7 d n (a+1) h (1:);rw[show((a+1:Nat):Int)=(a:Int)+1 from rfl]at ih;refine{b,?_,i2,λj t' j1 j2 e=>?_,i4}
    .simp?[jv,qao,qgF,h1,at1,hx,ih]
    .by_cases hj:j=a
     .subst hj;rw[hy]at e;cases e;exact hx
     .exact i3 j t' (1:) j2 e
   .refine{a,?_,ha,λj t' j1 j2=>by lia,λt' e=>?_}
    .simp?[jv,qgF,h1,at1,hx]
    .rw[hy]at e;cases e
     lia
  .have h1:¬ (a:Int) < (ks.length:Int):=by lia
   refine{a,?_,ha,λj t' j1 j2=>by lia,λt' e=>absurd (bE.mp e).1 h};simp?[jv,qgF,h1]
theorem qgG(cl:Cl)(v1:Sl){E:Int->Bool}(h:Bent E ks s C)(hs:∀t,-9<=s t/\s t<=9)(hk:ks.length < 900):∀(days:List Int) (acc:List Pr) (a:Nat) (s4 s5 s6 s7:Sl),acc.length+days.length < 10000->days.Pairwise (· < ·)->a<=ks.length->(∀j t,j < a->ks[j]?=some t->∀d∈days,t<=d)->
  ∃N',jy cl 1000 (.one 4) jw (days.map D.int) [.bor ((bdL ks s C).map paD),v1,.own (acc.map pD),.val (.int (a:Int)),s4,s5,s6,s7]=.ok (.next (.bor ((bdL ks s C).map paD)::v1::.own ((acc++days.map λd=>(C d,s d)).map pD)::N'))
 |[],acc,a,s4,s5,s6,s7,_,_,_,_=>{[.val (.int (a:Int)),s4,s5,s6,s7],by simp[qW]}
 | d::l,acc,a,s4,s5,s6,s7,hl,hp,ha,hj=>by
  rw[aK]at hl;rw[bg]at hp;let(b,e,b1,b2,b3):=qow (s:=s) (C:=C) cl v1 (.own (acc.map pD)) s5 s6 s7 d 1000 a ha (1:)
  have lo:∀j t,j < b->ks[j]?=some t->t<=d:=λj t z y=>by
   by_cases q:j < a
   .exact hj j t q y d (5:)
   .exact b2 j t (1:) z y
  let(g1,g2):=h.at lo b3 b1
  have go:=λs5 s6 s7=>qgG cl v1 h hs hk l (acc++[(C d,s d)]) b (.val (.int d)) s5 s6 s7 (sn hl) hp.2 b1 λj t z y x hx=>by
   have:=lo j t z y
   have:=hp.1 x hx
   lia
  have hz:(acc.map pD).length < sizeLine:=zk hl;have two:0+1+1<=sizeLine:=(3:)
  rw[show acc++(d::l).map (λd=>(C d,s d))=acc++[(C d,s d)]++l.map (λd=>(C d,s d)) by simp]
  by_cases hb:b=0
  .have x0:eqD (.int (b:Int)) (.int 0)=some true:=by rw[qw];simp[hb]
   let(c0,s0):=g1 hb;let(N',ih):=go s5 s6 s7;rw[aR (l₁:=acc)]at ih;simp![au,aH,qG]at ih;rw[c0,s0]at ih;refine{N',?_};rw[c0,s0];rw[au];simp?[Jc,e,x0,hz,two,ih]
  .have x0:eqD (.int (b:Int)) (.int 0)=some false:=by rw[qw];simp[hb]
   have ht:ks[b - 1]?=some ks[b - 1]:=bN (1:);generalize ks[b - 1]=t at ht;let(c0,s0):=g2 t ht (1:);have at1:=qov (s:=s) (C:=C) ht;rw[show((b - 1:Nat):Int)=(b:Int) - 1 by lia]at at1;have sm:=hs t;have m:Qz (s t) (d - t)=true:=qdp (1:) (1:);let(N',ih):=go (.val (.int t)) (.val (.int (C t))) (.val (.int (s t)));rw[aR (l₁:=acc)]at ih;simp![au,aH,qG]at ih;rw[c0,s0]at ih;refine{N',?_};rw[c0,s0];rw[au];simp?[Jc,e,x0,at1,m,hz,two,ih]
def qox(k:Nat){E:Int->Bool}(h:Bent E ks s C)(hs:∀t,-9<=s t/\s t<=9)(hk:ks.length < 900)(days:List Int)(hd:days.Pairwise (· < ·))(hl:days.length < 9000):clK pg (k+1) "_law_on" [.bor ((bdL ks s C).map paD),.bor (days.map D.int)]=.ok (.tmp ((days.map λd=>(C d,s d)).map pD)):=by
 let(N',e):=qgG (pg.kk k) (.bor (days.map D.int)) h hs hk days [] 0 .no .no .no .no (by simp;lia) hd (aZ _) (λj t z=>by lia);rw[aH,bp]at e;have z0:(0:Nat)<=sizeLine:=(3:)
 have e:jy (pg.kk k) 1000 (.one 4) jw (days.map D.int) [.bor ((bdL ks s C).map paD),.bor (days.map D.int),.own [],.val (.int 0),.no,.no,.no,.no]=_:=e;rw[qgv];simp?![qbI,z0,e]
end
theorem Qs(cl:Cl):∀(l acc:List Pr) (s0:Sl),acc.length+l.length < 10000->ze cl zT (.one 0) (.test (.cmp .LtE (.idx (.var 0) (.con (.int 0))) (.idx (.var 0) (.con (.int 1))))) (l.map pD) [s0] (acc.map pD)=.ok ((acc++l.filter λp=>decide (p.1<=p.2)).map pD)
 |[],acc,s0,z=>by simp[qL]
 | p::l,acc,s0,hl=>by
  rw[aK]at hl;have hz:(acc.map pD).length < sizeLine:=zk hl
  by_cases h:p.1<=p.2
  .have ih:=Qs cl l (acc++[p]) (.val (pD p)) (sn hl);rw[nH (-h:),show acc++p::l.filter (λp=>decide (p.1<=p.2))=acc++[p]++l.filter (λp=>decide (p.1<=p.2)) by simp];rw[aR (l₁:=acc)]at ih;simp![au,aH,qG]at ih;rw[au];simp?[jJ,qG,h,hz,ih]
  .have ih:=Qs cl l acc (.val (pD p)) (1:);rw[nI (-h:)];simp![qG]at ih;rw[au];simp?[jJ,qG,h,hz,ih]
def qix(k:Nat)(b e g r:Int)(h:-100<=r/\r<=100):clK pg (k+1) "_law_parts" [.val (.int b),.val (.int e),.val (.int g),.val (.int r)]=.ok (.tmp ((paF b e g r).map pD)):=by
 have z1:0+1<=sizeLine:=(3:)
 have z2:0+1+1<=sizeLine:=(3:)
 have q0:eqD (.int r) (.int 0)=some (r == 0):=qw ..;have q1:eqD (.int g) (.int 0)=some (g == 0):=qw ..;generalize hX:clK pg (k+1) "_law_parts" [.val (.int b),.val (.int e),.val (.int g),.val (.int r)]=X;rw[qbJ]at hX;unfold paF
 by_cases r0:r=0
 .have q0:eqD (.int r) (.int 0)=some true:=by rw[q0,r0];rfl
  rw[if_pos r0];simp?![yc,q0,z1,z2]at hX;rw[<-hX]
  by_cases g0:g=0
  .have q1:eqD (.int g) (.int 0)=some true:=by rw[q1,g0];rfl
   have ct:qaB [D.tup [.int b,.int e]] none (some 0)=[]:=rfl;rw[if_pos g0];simp?![q1,z1,z2,ct,aH,fc,bo]
  .have q1:eqD (.int g) (.int 0)=some false:=by rw[q1];simp[g0]
   have ct:qaB [D.tup [.int b,.int e]] none (some 1)=[D.tup [.int b,.int e]]:=rfl;rw[if_neg g0];simp?![q1,z1,z2,ct,au,aH,qG,fb]
 .have q0:eqD (.int r) (.int 0)=some false:=by rw[q0];simp[r0]
  rw[if_neg r0]
  have md:QO .Mod (.val (.int g)) (.val (.int r))=.ok (.val (.int (g.fmod r))):=by
   rw[bMod]
   by_cases gp:0 < r
   .rw[if_pos gp,lS g (1:)]
   .rw[if_neg gp,if_pos (1:)]
  have dv:QO .FloorDiv (.val (.int (-g))) (.val (.int r))=.ok (.val (.int ((-g).fdiv r))):=by
   rw[bDiv]
   by_cases gp:0 < r
   .rw[if_pos ⟨gp,by lia⟩,lR (-g) (1:)]
   .rw[if_neg (λz=>gp z.1),if_pos ⟨by lia,by lia⟩]
  have q2:eqD (.int (g.fmod r)) (.int 0)=some (g.fmod r == 0):=qw ..;simp?![yc,q0,↓md]at hX;rw[<-hX]
  by_cases m0:g.fmod r=0
  .have q2:eqD (.int (g.fmod r)) (.int 0)=some true:=by rw[q2,m0];rfl
   have kp:=Qs (pg.kk k) [(b,b+(-g).fdiv r - 1),(b+(-g).fdiv r+1,e)] [] .no (5:);rw[bp]at kp;generalize (-g).fdiv r=q at dv kp
   by_cases h1:0<=q
   .by_cases h2:q<=e - b
    .rw[if_neg (λz=>z.elim (λy=>y m0) λy=>y ⟨h1,h2⟩)];simp![au,aH,qG]at kp;simp?![↓dv,q2,h1,h2,z1,z2,qb0,kp]
    .rw[if_pos (.inr λz=>h2 z.2)];simp?![↓dv,q2,h1,h2,z1,z2,qG,au,aH]
   .rw[if_pos (.inr λz=>h1 z.1)];simp?![↓dv,q2,h1,z1,z2,qG,au,aH]
  .have q2:eqD (.int (g.fmod r)) (.int 0)=some false:=by rw[q2];simp[m0]
   rw[if_pos (.inl m0)];simp?![ q2,z1,z2,qG,au,aH]
theorem qbN:∀(l:List Pr),qeq (l.map pD)=true/\qdk (l.map pD)<=60
 |[]=>by simp[qeq,qdk]
 | p::l=>by
  let(a,b):=qbN l;rw[au,qG];refine{by simp[qeq,okD,a],?_};simp![qdk,dpD]
  lia
def qoy(v0 v1 v2 v4 v5 v6 v7 s8 s9:Sl)(a:List D)(x y:Int):qls [v0,v1,v2,.own (a++[.tup [.int x,.int y]]),v4,v5,v6,v7,s8,s9] 8 3 0=.ok (.next [v0,v1,v2,.own a,v4,v5,v6,v7,.val (.int x),s9]):=by unfold qls;rw[show zj [v0,v1,v2,.own (a++[.tup [.int x,.int y]]),v4,v5,v6,v7,s8,s9] 3=some (a++[.tup [.int x,.int y]]) from rfl];dsimp only;rw[List.getLast?_concat,List.dropLast_concat];rfl
theorem qat{Q:Int->Prop}:∀{ps acc:List Pr},(∀x∈acc,Q x.2)->(∀p∈ps,Q p.2)->(ps.foldl stp acc).length<=acc.length+ps.length/\∀x∈ps.foldl stp acc,Q x.2
 |[],acc,h,z=>{ay _,h}
 | p::ps,acc,h,h'=>by
  have hp:=h' p (5:)
  have one:(stp acc p).length<=acc.length+1/\∀x∈stp acc p,Q x.2:=by
   rcases Jt acc with rfl|⟨a,l,rfl⟩
   .rw[Qd];exact{by simp,λx hx=>by rw[aU.mp hx];exact hp}
   .rw[yV];have hl:=h l (5:);split
    .refine{by simp,λx hx=>?_};rcases aV.mp hx with hx|hx
     .exact h x (by simp[hx])
     .rw[aU.mp hx];dsimp only;split
      .exact hp
      .exact hl
    .refine{by simp,λx hx=>?_};rcases aV.mp hx with hx|hx
     .exact h x hx
     .rw[aU.mp hx];exact hp
  let(i1,i2):=qat (ps:=ps) one.2 λq hq=>h' q (by simp[hq]);rw[gL,aK];exact{by have:=one.1;lia,i2}
theorem qjq(cl:Cl)(v0 v1 v2 v4 v5 v6 v7:Sl):∀(ps acc:List Pr) (s8 s9:Sl),acc.length+ps.length < 10000->(∀x∈acc,∀p∈ps,x.2 < p.1)->ps.Pairwise (λp q=>p.2 < q.1)->(∀p∈ps,p.1<=p.2)->
  ∃s8' s9',jy cl 1000 (.many [8,9]) ye (ps.map pD) [v0,v1,v2,.own (acc.map pD),v4,v5,v6,v7,s8,s9]=.ok (.next [v0,v1,v2,.own ((ps.foldl stp acc).map pD),v4,v5,v6,v7,s8',s9'])
 |[],acc,s8,s9,_,_,_,_=>⟨s8,s9,rfl⟩
 | p::ps,acc,s8,s9,hl,ha,hp,ho=>by
  rw[aK]at hl;rw[bg]at hp;have po:=ho p (5:);have st1:=qat (Q:=λz=>∀q∈ps,z < q.1) (ps:=[p]) (acc:=acc) (λx hx q hq=>ha x hx q (by simp[hq])) λr hr q hq=>by rw[aU.mp hr];exact hp.1 q hq
  rw[gL,List.foldl_nil,eK]at st1;have two:0+1+1<=sizeLine:=(3:)
  have z0:(0:Nat)<=sizeLine:=(3:)
  have en:=qfT (qbN acc).1 (by have:=(qbN acc).2;lia)
  let(acc1,b1,X,l1,e1):∃(acc1:List Pr) (b1:Int),(∀{M:Type} (K:Fl->R M),(iS cl 1000 (.ite (.and (.cmp .NotEq (.var 3) (.lst .nil)) (.one (.cmp .Eq (.bin .Add (.idx (.idx (.var 3) (.bin .Sub (.b1 .len (.var 3)) (.con (D.int 1)))) (.con (D.int 1))) (.con (D.int 1))) (.var 8)))) %[.popI 8 3 0|0] .nil) [v0,v1,v2,.own (acc.map pD),v4,v5,v6,v7,.val (.int p.1),.val (.int p.2)]).th K=K (.next [v0,v1,v2,.own (acc1.map pD),v4,v5,v6,v7,.val (.int b1),.val (.int p.2)]))/\acc1.length<=acc.length/\acc1++[(b1,p.2)]=stp acc p:=by
   rcases Jt acc with rfl|⟨a,l,rfl⟩
   .refine{[],p.1,λK=>?_,ay _,(Qd p).symm};have en:eqD (.lst []) (.lst [])=some true:=en;simp?![aH,en,fc,z0]
   .have hal:=ha l (5:) p (5:)
    have en:eqD (.lst (a.map pD++[.tup [.int l.1,.int l.2]])) (.lst [])=some false:=by rw[aR]at en;exact en.trans (5:)
    have at1:atI (a.map pD++[D.tup [.int l.1,.int l.2]]) (((a.map pD++[D.tup [.int l.1,.int l.2]]).length:Int) - 1)=some (.tup [.int l.1,.int l.2]):=by rw[aT,eK,show(((a.map pD).length+1:Nat):Int) - 1=((a.map pD).length:Int) by lia];refine qia ?_;rw[c5 (ay _),lD];rfl
    have x0:eqD (.int (l.2+1)) (.int p.1)=some (l.2+1 == p.1):=qw ..;have em:(a++[l]).map pD=a.map pD++[.tup [.int l.1,.int l.2]]:=aR;rw[yV,em]
    by_cases hc:l.2+1=p.1
    .have x0:eqD (.int (l.2+1)) (.int p.1)=some true:=by rw[x0];simp[hc]
     refine{a,l.1,λK=>?_,by simp,by rw[if_pos (1:),show(if p.2 > l.2 then p.2 else l.2)=p.2 from if_pos (1:)]};have pp:=qoy v0 v1 v2 v4 v5 v6 v7 (.val (.int p.1)) (.val (.int p.2)) (a.map pD) l.1 l.2;simp?![en,at1,x0,qkH,pp,fb,z0]
    .have x0:eqD (.int (l.2+1)) (.int p.1)=some false:=by rw[x0];simp[hc]
     refine{a++[l],p.1,λK=>?_,ay _,by rw[if_neg (1:)]};rw[em];simp?![en,at1,x0,fb,z0]
  let(s8',s9',ih):=qjq cl v0 v1 v2 v4 v5 v6 v7 ps (stp acc p) (.val (.int b1)) (.val (.int p.2)) (by have:=st1.1;lia) st1.2 hp.2 λq hq=>ho q (by simp[hq]);refine{s8',s9',?_};have hz:(acc1.map pD).length < sizeLine:=by rw[aD];exact zx (1:)
  rw[<-e1]at ih;rw[gL,<-e1];rw[aR]at ih;simp![au,aH,qG]at ih;rw[au];simp?[QH,qG,↓X,two,hz,ih]
def qjr(b e g r:Int):(paF b e g r).length<=2:=by
 unfold paF;split
 .split<;>simp
 .split
  .simp
  .exact bQ (lU _ _) (ay _)
def qoz{T:List Int}{f:Int->Pr}{j:Nat}{x:Int}(h:T[j]?=some x):atI ((T.map f).map pD) (j:Int)=some (.tup [.int (f x).1,.int (f x).2]):=qia (by rw[bu,bu,h];rfl)
def qoA{T:List Int}{j:Nat}{x:Int}(h:T[j]?=some x):atI (T.map D.int) (j:Int)=some (.int x):=qia (by rw[bu,h];rfl)
theorem qdM(k:Nat)(v0 v1:Sl)(A B s t:Int->Int)(T:List Int)(hT:T.length < 4000)(sm:∀d,-18<=s d - t d/\s d - t d<=18):∀(rest:List Int) (b:Int) (j:Nat) (acc:List Pr) (s6 s7 s8 s9:Sl),T.drop j=b::rest->acc.length+2 * rest.length < 9000->
  (∀x∈acc,∀p∈alP (λd=>A d - B d) (λd=>s d - t d) (b::rest),x.2 < p.1)->(alP (λd=>A d - B d) (λd=>s d - t d) (b::rest)).Pairwise (λp q=>p.2 < q.1)->(∀p∈alP (λd=>A d - B d) (λd=>s d - t d) (b::rest),p.1<=p.2)->
  ∃N',jy (pg.kk (k+1)) 1000 (.one 6) zK (rgF (j:Int) rest.length) [v0,v1,.own (T.map D.int),.own (acc.map pD),.own ((T.map λd=>(A d,s d)).map pD),.own ((T.map λd=>(B d,t d)).map pD),s6,s7,s8,s9]=.ok (.next (v0::v1::.own (T.map D.int)::.own (((alP (λd=>A d - B d) (λd=>s d - t d) (b::rest)).foldl stp acc).map pD)::N'))
 |[],b,j,acc,s6,s7,s8,s9,_,_,_,_,_=>{[.own ((T.map λd=>(A d,s d)).map pD),.own ((T.map λd=>(B d,t d)).map pD),s6,s7,s8,s9],by simp[rgF,qW,qlb]}
 | e::rest,b,j,acc,s6,s7,s8,s9,hd,hl,ha,hp,ho=>by
  rw[aK]at hl;have hd':T.drop (j+1)=e::rest:=by rw[<-List.tail_drop,hd];rfl
  have hb:T[j]?=some b:=by rw[<-lV,hd];rfl
  have he:T[j+1]?=some e:=by rw[<-lV,hd'];rfl
  have b1:=qoA hb;have b2:=qoz (f:=λd=>(A d,s d)) hb;have b3:=qoz (f:=λd=>(B d,t d)) hb;have e1:=qoA he;rw[show((j+1:Nat):Int)=(j:Int)+1 from rfl]at e1;rw[qdA]at ha hp ho ⊢;rw[bU]at hp;have po:=qix k b (e - 1) (A b - B b) (s b - t b) (by have:=sm b;lia);have pl:=qjr b (e - 1) (A b - B b) (s b - t b);generalize hP:paF b (e - 1) (A b - B b) (s b - t b)=P at ha hp ho po pl ⊢;let(x1,x2):=qat (Q:=λz=>∀p∈alP (λd=>A d - B d) (λd=>s d - t d) (e::rest),z < p.1) (ps:=P) (acc:=acc) (λx hx p hp'=>ha x hx p (bb _ hp')) λp hp' q hq=>hp.2.2 p hp' q hq;let(s8',s9',i):=qjq (pg.kk (k+1)) v0 v1 (.own (T.map D.int)) (.own ((T.map λd=>(A d,s d)).map pD)) (.own ((T.map λd=>(B d,t d)).map pD)) (.val (.int (j:Int))) (.val (.int (A b - B b))) P acc s8 s9 (1:) (λx hx p hp'=>ha x hx p (bI _ hp')) hp.1 λp hp'=>ho p (bI _ hp');let(N',ih):=qdM k v0 v1 A B s t T hT sm rest e (j+1) (P.foldl stp acc) (.val (.int (j:Int))) (.val (.int (A b - B b))) s8' s9' hd' (1:) x2 hp.2.1 λp hp'=>ho p (bb _ hp');rw[show((j+1:Nat):Int)=(j:Int)+1 from rfl]at ih;refine{N',?_};rw[List.foldl_append,aK];refine(qg _).symm.trans ?_;rw[rgF];simp?![QI,b1,b2,b3,e1,po,i,ih]
theorem qbO(cl:Cl):∀(l:List Pa) (acc:List Int) (s0:Sl),acc.length+l.length < 10000->ze cl yd (.one 0) .yes (l.map paD) [s0] (acc.map D.int)=.ok ((acc++l.map (·.1)).map D.int)
 |[],acc,s0,z=>by simp[qL]
 | p::l,acc,s0,hl=>by rw[aK]at hl;have hz:(acc.map D.int).length < sizeLine:=zk hl;have ih:=qbO cl l (acc++[p.1]) (.val (paD p)) (sn hl);rw[show acc++(p::l).map (·.1)=acc++[p.1]++l.map (·.1) by simp];rw[aR (l₁:=acc)]at ih;simp![au,aH,qy]at ih;rw[au];simp?[QG,qy,hz,ih]
def qoB(k:Nat){E F:Int->Bool}{ks ls:List Int}{s t A B:Int->Int}(a:Bent E ks s A)(b:Bent F ls t B)(h1:ks.length < 900)(h2:ls.length < 900)(sa:∀d,-9<=s d/\s d<=9)(sb:∀d,-9<=t d/\t d<=9) :
  clK pg (k+2) "_law_due" [.bor ((bdL ks s A).map paD),.bor ((bdL ls t B).map paD)]=.ok (.tmp (((alP (λd=>A d - B d) (λd=>s d - t d) (sdI (ks++ls))).foldl stp []).map pD)):=by
 let(d1,d2,_,_):=qjj a b;have dc:=qbO (pg.kk (k+1)) (bdL ks s A++bdL ls t B) [] .no (by simp[bdL];lia)
 have e:(bdL ks s A++bdL ls t B).map (·.1)=ks++ls:=by
  unfold bdL;rw[aR,fh,fh]
  congr 1
  .exact List.map_id _
  .exact List.map_id _
 rw[bp,e,aH]at dc
 have ss:qhL (.tmp ((ks++ls).map D.int))=.ok (.tmp ((sdI (ks++ls)).map D.int)):=by unfold qhL;simp?![Yv,if_pos (show(ks++ls).length < 4000 by rw[aT];lia)]
 have up:=qcz (ks++ls);have ll:(sdI (ks++ls)).length < 4000:=by have:=Qo (ks++ls);rw[aT]at this;lia
 generalize sdI (ks++ls)=T at *;have o1:=qox k a sa h1 T up (1:);have o2:=qox k b sb h2 T up (1:);have z0:(0:Nat)<=sizeLine:=(3:)
 have zz:(bdL ks s A).length+(bdL ls t B).length<=sizeLine:=by unfold bdL;rw[aD,aD];exact qx (1:)
 have zl:(bdL ks s A++bdL ls t B).length<=sizeLine:=by rw[aT];exact zz
 have lp:∃N',jy (pg.kk (k+1)) 1000 (.one 6) zK (zH 0 ((T.length:Int) - 1)) [.bor ((bdL ks s A).map paD),.bor ((bdL ls t B).map paD),.own (T.map D.int),.own [],.own ((T.map λd=>(A d,s d)).map pD),.own ((T.map λd=>(B d,t d)).map pD),.no,.no,.no,.no]=.ok (.next (.bor ((bdL ks s A).map paD)::.bor ((bdL ls t B).map paD)::.own (T.map D.int)::.own (((alP (λd=>A d - B d) (λd=>s d - t d) T).foldl stp []).map pD)::N')):=by
  rw[yQ]
  cases T with
  |nil=>exact{_,rfl}
  |cons c rest=>rw[aK,show(((rest.length+1:Nat):Int) - 1 - 0).toNat=rest.length by lia];exact qdM k _ _ A B s t (c::rest) (1:) (λd=>by have:=sa d;have:=sb d;lia) rest c 0 [] .no .no .no .no rfl (by simp at ll ⊢;lia) (λx hx=>by cases hx) d1 d2
 let(N',lp):=lp;have si:qP ((T.length:Int) - 1)=true:=by unfold qP;simp;lia
 rw[qey];simp?![Zk,aD,zz,zl,<-aR,qb0,dc,ss,z0,o1,o2,si,lp]
def qau(l:Int):Int->List Pr->List Pr
 |f,[]=>if f<=l then [(f,l)] else []
 | f,p::ls=>if f<=l/\p.1<=l/\f<=p.2 then (if f < p.1 then [(f,p.1 - 1)] else [])++qau l (p.2+1) ls else qau l f ls
theorem qjs{l:Int}:∀{ls:List Pr} {f:Int},(∀p∈ls,p.1<=p.2)->ls.Pairwise (λp q=>p.1<=q.1)->(∀p∈qau l f ls,f<=p.1/\p.1<=p.2/\p.2<=l)/\(qau l f ls).Pairwise (λp q=>p.2 < q.1)/\∀d,Day (qau l f ls) d↔(f<=d/\d<=l)/\¬ Day ls d
 |[],f,_,_=>by
  rw[qau];split
  .rename_i h;exact{λp hp=>by rw[aU.mp hp];exact{bG _,h,bG _},i5 ..,λd=>by rw[qp];exact{λz=>{z.resolve_right qJ,qJ},λz=>.inl z.1}}
  .exact{λp hp=>(by cases hp),List.Pairwise.nil,λd=>{λz=>absurd z qJ,λz=>by have:=z.1;lia}}
 | p::ls,f,ho,hs=>by
  have hp:=ho p (5:);rw[bg]at hs;have ih:=λf=>qjs (l:=l) (f:=f) (λq hq=>ho q (by simp[hq])) hs.2;have lo:∀d,Day ls d->p.1<=d:=λd ⟨q,hq,z,_⟩=>by have:=hs.1 q hq;lia
  rw[qau];split
  .rename_i h;let(i1,i2,i3):=ih (p.2+1)
   by_cases c:f < p.1
   .rw[if_pos c,List.singleton_append];refine{λq hq=>?_,bg.mpr {λq hq=>?_,i2},λd=>?_}
    .rcases aF.mp hq with rfl|hq
     .dsimp only;lia
     .have:=i1 q hq;lia
    .have:=i1 q hq
     dsimp only
     lia
    .rw[qp,i3,qp];dsimp only
     by_cases y:Day ls d
     .have:=lo d y
      simp![y,not_true_eq_false,and_false,or_true,or_false,iff_false]
      lia
     .simp![y,not_false_eq_true,and_true,or_false]
      lia
   .rw[if_neg c,bp];refine{λq hq=>by have:=i1 q hq;lia,i2,λd=>?_};rw[i3,qp]
    by_cases y:Day ls d
    .simp![y,not_true_eq_false,and_false,or_true]
    .simp![y,not_false_eq_true,and_true,or_false]
     lia
  .rename_i h;let(i1,i2,i3):=ih f;refine{i1,i2,λd=>?_};rw[i3,qp]
   by_cases y:Day ls d
   .simp![y,not_true_eq_false,and_false,or_true]
   .simp![y,not_false_eq_true,and_true,or_false]
    lia
theorem qcI(l:Int):∀(ls:List Pr) (f:Int),(qau l f ls).length<=ls.length+1
 |[],f=>by rw[qau];split<;>simp
 | p::ls,f=>by
  have a:=qcI l ls f;have b:=qcI l ls (p.2+1);rw[qau,aK];split
  .rw[aT]
   split<;>simp<;>lia
  .lia
def pcS(r:Ru)(ls:List Pr):List DG.St->List Pa
 |[]=>[]
 | s::st=>(qau s.2.2 s.2.1 ls).map (yk (wt r.lands (some s.1)))++pcS r ls st
def pcR(r:Ru)(ls:List Pr)(st:List DG.St):List Pa:=(pcS r ls st).filter λp=>decide (0 < p.2.2)
theorem qcJ(r:Ru)(ls:List Pr):∀st:List DG.St,(pcS r ls st).length<=st.length * (ls.length+1)
 |[]=>aZ _
 | s::st=>by
  have:=qcJ r ls st
  have:=qcI s.2.2 ls s.2.1
  rw[pcS,aT,aD,aK,Nat.add_mul,Nat.one_mul]
  lia
def qiy(r:Ru)(ls:List Pr)(s:DG.St)(st:List DG.St):pcR r ls (s::st)=qgS (wt r.lands (some s.1)) (qau s.2.2 s.2.1 ls)++pcR r ls st:=by
 unfold pcR qgS;rw[pcS,List.filter_append]
 congr 1
 generalize wt r.lands (some s.1)=w;split
 .rename_i h;refine List.filter_eq_self.mpr λp hp=>?_;let(x,_,rfl):=df.mp hp;exact decide_eq_true h
 .rename_i h;refine List.filter_eq_nil_iff.mpr λp hp z=>?_;let(x,_,rfl):=df.mp hp;exact h (of_decide_eq_true z)
def qoC{r:Ru}(hr:∀p∈r.lands,LnOk p){qs:List Pr}(ho:∀p∈qs,p.1<=p.2){st:List DG.St}{e:Int}(h:Chw e st):PcOk (pcR r (qK qs) st)/\pf (pcR r (qK qs) st)=wgt r (spr qs) st:=by
 have hs:(qK qs).Pairwise λp q=>p.1<=q.1:=(gM (le:=QQ) (λa b c h1 h2=>by rw[yh]at h1 h2 ⊢;unfold lex at *;lia) (λa b=>by simp![eg,yh];unfold lex;lia) qs).imp λ{a b} h=>by
  rw[yh]at h;unfold lex at h
  lia
 have hq:∀p∈qK qs,p.1<=p.2:=λp hp=>ho p ((fq qs QQ).mem_iff.mp hp);have R:=Yt qs ho
 let(a,_,b):=Jx hr (lf:=spr qs) (cut:=λs=>qau s.2.2 s.2.1 (qK qs)) (P:=pcR r (qK qs)) rfl (qiy r _) (λs z=>by let(c1,c2,c3):=qjs (l:=s.2.2) (f:=s.2.1) hq hs;exact{c1,c2,λd=>by rw[c3,R.day]}) st e h
 exact{a,funext b}
def kS(l:List (Str×Int)):List Key:=l.map λp=>.inr p.1
def dS(l:List (Str×Int)):List D:=l.map λp=>.int p.2
theorem qlf(z:Str):∀l:List (Str×Int),(atK (kS l) (dS l) (.inr z)).getD (.int 0)=.int (wt l (some z))
 |[]=>rfl
 | p::l=>by
  have ih:=qlf z l;unfold kS dS at ih ⊢;rw[au,au,atK,wt]
  by_cases e:p.1=z
  .rw[if_pos (by rw[e]),if_pos (by rw[e])];rfl
  .rw[if_neg (λq=>e (Sum.inr.inj q)),if_neg (λq=>e (by cases q;rfl))];exact ih
theorem qjt:∀l:List (Str×Int),qgR (l.map lnD)=some l
 |[]=>rfl
 | p::l=>by rw[au,qgR,qjt l];rfl
def qoD{l:List (Str×Int)}(nd:(l.map (·.1)).Nodup):qoY (.val (.lst (l.map lnD)))=.ok (.val (.dct (kS l) (dS l))):=by show(match qgR (l.map lnD) with |some kvs=>_ |none=>_)=_;rw[qjt];dsimp only;rw[if_pos nd];rfl
theorem Jz(cl:Cl)(n:Int):∀(ps:List Pa) (acc:List Pr) (s0:Sl),acc.length+ps.length < 10000->ze cl zB (.one 0) (.test (.cmp .Eq (.idx (.var 0) (.con (.int 0))) (.var 1))) (ps.map paD) [s0,.val (.int n)] (acc.map pD)=.ok ((acc++ofN n ps).map pD)
 |[],acc,s0,z=>by simp[ofN,qL]
 | p::ps,acc,s0,hl=>by
  rw[aK]at hl;have two:0+1+1<=sizeLine:=(3:)
  have hs:(acc.map pD).length < sizeLine:=zk hl;have x0:eqD (.int p.1) (.int n)=some (p.1 == n):=qw ..
  cases hc:(p.1 == n) with
  |true=>have ih:=Jz cl n ps (acc++[(p.2.1,p.2.2)]) (.val (paD p)) (sn hl);rw[show acc++ofN n (p::ps)=acc++[(p.2.1,p.2.2)]++ofN n ps by simp[ofN,hc]];rw[hc]at x0;rw[aR (l₁:=acc)]at ih;simp![au,aH,qG,qy]at ih;rw[au];simp?[jd,qy,x0,two,hs,ih]
  |false=>have ih:=Jz cl n ps acc (.val (paD p)) (1:);rw[show ofN n (p::ps)=ofN n ps by simp[ofN,hc]];rw[hc]at x0;simp![qy]at ih;rw[au];simp?[jd,qy,x0,two,hs,ih]
theorem Qt(cl:Cl):∀(l acc:List Pa) (s0:Sl),acc.length+l.length < 10000->ze cl zE (.one 0) (.test (.cmp .Gt (.idx (.var 0) (.con (.int 2))) (.con (.int 0)))) (l.map paD) [s0] (acc.map paD)=.ok ((acc++l.filter λp=>decide (0 < p.2.2)).map paD)
 |[],acc,s0,z=>by simp[qL]
 | p::l,acc,s0,hl=>by
  rw[aK]at hl;have hz:(acc.map paD).length < sizeLine:=zk hl
  by_cases h:0 < p.2.2
  .have h':p.2.2 > 0:=h;have ih:=Qt cl l (acc++[p]) (.val (paD p)) (sn hl);rw[nH (-h:),show acc++p::l.filter (λp=>decide (0 < p.2.2))=acc++[p]++l.filter (λp=>decide (0 < p.2.2)) by simp];rw[aR (l₁:=acc)]at ih;simp![au,aH,qy]at ih;rw[au];simp?[jf,qy,h',hz,ih]
  .have h':¬ p.2.2 > 0:=h;have ih:=Qt cl l acc (.val (paD p)) (1:);rw[nI (-h:)];simp![qy]at ih;rw[au];simp?[jf,qy,h',hz,ih]
theorem qdN(cl:Cl)(v0 v1 v2 v3 v4:Sl)(lands:List (Str×Int))(z:Str)(l:Int):∀(ls:List Pr) (acc:List Pa) (f:Int) (s10 s11:Sl),acc.length+ls.length < 9000->
  ∃acc' f' s10' s11',jy cl 1000 (.many [10,11]) zC (ls.map pD) [v0,v1,v2,v3,v4,.val (.dct (kS lands) (dS lands)),.own (acc.map paD),.val (.str z),.val (.int f),.val (.int l),s10,s11]=.ok (.next [v0,v1,v2,v3,v4,.val (.dct (kS lands) (dS lands)),.own (acc'.map paD),.val (.str z),.val (.int f'),.val (.int l),s10',s11'])/\acc'.length<=acc.length+ls.length/\acc'++(qau l f' []).map (yk (wt lands (some z)))=acc++(qau l f ls).map (yk (wt lands (some z)))
 |[],acc,f,s10,s11,_=>{acc,f,s10,s11,rfl,ay _,rfl}
 | p::ls,acc,f,s10,s11,hl=>by
  rw[aK]at hl;have three:0+1+1+1<=sizeLine:=(3:)
  have hz:(acc.map paD).length < sizeLine:=zk hl;have a:=qlf z lands
  let(acc1,f1,X,l1,e1):∃(acc1:List Pa) (f1:Int),(∀{M:Type} (K:Fl->R M),(iS cl 1000 (.ite (.and (.cmp .LtE (.var 8) (.var 9)) (.and (.cmp .LtE (.var 10) (.var 9)) (.one (.cmp .GtE (.var 11) (.var 8))))) %[.ite (.cmp .Gt (.var 10) (.var 8)) %[.app 6 (.tup %[8,.bin .Sub (.var 10) (.con (D.int 1)),.dget 5 (.var 7) 0|0])|0] .nil,.set 8 (.bin .Add (.var 11) (.con (D.int 1)))|0] .nil) [v0,v1,v2,v3,v4,.val (.dct (kS lands) (dS lands)),.own (acc.map paD),.val (.str z),.val (.int f),.val (.int l),.val (.int p.1),.val (.int p.2)]).th K=K (.next [v0,v1,v2,v3,v4,.val (.dct (kS lands) (dS lands)),.own (acc1.map paD),.val (.str z),.val (.int f1),.val (.int l),.val (.int p.1),.val (.int p.2)]))/\acc1.length<=acc.length+1/\acc1++(qau l f1 ls).map (yk (wt lands (some z)))=acc++(qau l f (p::ls)).map (yk (wt lands (some z))):=by
   rw[qau]
   by_cases h:f<=l/\p.1<=l/\f<=p.2
   .let(h1,h2,h3):=h;have h3':p.2≥f:=h3;rw[if_pos ⟨h1,h2,h3⟩]
    by_cases c:f < p.1
    .have c':p.1 > f:=c;refine{acc++[(f,p.1 - 1,wt lands (some z))],p.2+1,λK=>?_,by simp,by rw[if_pos c];simp[yk]};simp![aR,au,aH,qy];simp?![h1,h2,h3',c',a,hz,three]
    .have c':¬ p.1 > f:=c;refine{acc,p.2+1,λK=>?_,eG _,by rw[if_neg c,bp]};simp?![h1,h2,h3',c']
   .refine{acc,f,λK=>?_,eG _,by rw[if_neg h]}
    by_cases h1:f<=l
    .by_cases h2:p.1<=l
     .have h3:¬ p.2≥f:=λq=>h ⟨h1,h2,q⟩;simp?![h1,h2,h3]
     .simp?![h1,h2]
    .simp?![h1]
  let(acc',f',s10',s11',ih,i1,i2):=qdN cl v0 v1 v2 v3 v4 lands z l ls acc1 f1 (.val (.int p.1)) (.val (.int p.2)) (1:);refine{acc',f',s10',s11',?_,by rw[aK];lia,i2.trans e1};rw[au];simp?[Jy,qG,↓X,ih]
def oV(b:Bool)(l:List D):Sl:=match b with
 |true=>.own l
 |false=>.val (.lst l)
theorem JA(cl:Cl)(v0 v1 v2 v3:Sl)(r:Ru)(ls:List Pr)(hls:ls.length<=20):∀(st:List DG.St) (b:Bool) (acc:List Pa) (s7 s8 s9 s10 s11:Sl),acc.length+21 * st.length < 8000->
  ∃v4' N',jy cl 1000 (.many [7,8,9]) zD (st.map stD) [v0,v1,v2,v3,oV b (ls.map pD),.val (.dct (kS r.lands) (dS r.lands)),.own (acc.map paD),s7,s8,s9,s10,s11]=.ok (.next (v0::v1::v2::v3::v4'::.val (.dct (kS r.lands) (dS r.lands))::.own ((acc++pcS r ls st).map paD)::N'))
 |[],b,acc,s7,s8,s9,s10,s11,_=>{_,[s7,s8,s9,s10,s11],by rw[pcS,b5];rfl}
 | s::st,b,acc,s7,s8,s9,s10,s11,hl=>by
  rw[aK]at hl;have three:0+1+1+1<=sizeLine:=(3:)
  have a:=qlf s.1 r.lands;let(acc',f',s10',s11',e,e1,e2):=qdN cl v0 v1 v2 v3 (.val (.lst (ls.map pD))) r.lands s.1 s.2.2 ls acc s.2.1 s10 s11 (1:);have hz:(acc'.map paD).length < sizeLine:=by rw[aD];exact zx (1:)
  rw[pcS,<-bf,<-e2];rw[qau]
  by_cases h:f'<=s.2.2
  .let(v4',N',ih):=JA cl v0 v1 v2 v3 r ls hls st false (acc'++[(f',s.2.2,wt r.lands (some s.1))]) (.val (.str s.1)) (.val (.int f')) (.val (.int s.2.2)) s10' s11' (by simp;lia);refine{v4',N',?_};rw[if_pos h,show [(f',s.2.2)].map (yk (wt r.lands (some s.1)))=[(f',s.2.2,wt r.lands (some s.1))] from rfl];rw[aR (l₁:=acc')]at ih;simp![au,aH,qy,oV]at ih;refine(qg _).symm.trans ?_;rw[au]
   cases b<;>simp?![je,oV,jC,e,h,a,hz,three,ih]
  .let(v4',N',ih):=JA cl v0 v1 v2 v3 r ls hls st false acc' (.val (.str s.1)) (.val (.int f')) (.val (.int s.2.2)) s10' s11' (1:);refine{v4',N',?_};rw[if_neg h,aH,b5];simp![oV]at ih;refine(qg _).symm.trans ?_;rw[au]
   cases b<;>simp?![je,oV,jC,e,h,a,hz,three,ih]
def Zn(k:Nat)(r:Lr)(hr:LrOk r)(ps:List Pa)(hp:ps.length<=20)(n:Int)(st:List DG.St)(hs:st.length<=60):clK pg (k+1) "_law_pieces" [.val (lrD r),.bor (ps.map paD),.val (.int n),.bor (st.map stD)]=.ok (.tmp ((pcR r.ru (qK (ofN n ps)) st).map paD)):=by
 have c1:=Jz (pg.kk k) n ps [] .no (by simp;lia);rw[aH,bp]at c1;have a1:atI [D.str r.kd.nm,.lst (r.lands.map lnD),.int r.days] 1=some (.lst (r.lands.map lnD)):=rfl;have dl:=qoD hr.nd;have ol:=qad n ps;have sl:(qK (ofN n ps)).length<=20:=by unfold qK;rw[gR];lia
 have sr:YT (.tmp ((ofN n ps).map pD))=.ok (.tmp ((qK (ofN n ps)).map pD)):=by show(match qhK ((ofN n ps).map pD) with |some p=>_ |none=>_)=_;rw[qcw];dsimp only;rw[if_pos (1:)]
 generalize qK (ofN n ps)=ls at *;let(v4',N',e):=JA (pg.kk k) (.val (lrD r)) (.bor (ps.map paD)) (.val (.int n)) (.bor (st.map stD)) r.ru ls sl st true [] .no .no .no .no .no (by simp;lia);rw[aH,bp]at e;have pl:=qcJ r.ru ls st;have pm:st.length * (ls.length+1)<=60 * 21:=i8 hs (1:);have c2:=Qt (pg.kk k) (pcS r.ru ls st) [] .no (by simp;lia);rw[aH,bp]at c2;have z0:(0:Nat)<=sizeLine:=(3:)
 have zp:ps.length<=sizeLine:=qx (1:);have zq:(pcS r.ru ls st).length<=sizeLine:=qx (1:);rw[qan];have el:r.ru.lands=r.lands:=rfl;rw[el]at e;simp![Jg,oV]at e ⊢;unfold pcR;simp?![Jb,c1,a1,sr,dl,z0,zp,zq,qb0,qmG,iY,iZ,aD,e,c2]
def qiz(l:List D)(i:Nat):qaB l none (some (i:Int))=l.take i:=by
 unfold qaB;rw[HT.YE,HT.Zs,Nat.sub_zero,gN];rcases Nat.le_total i l.length with h|h
 .rw[gJ h]
 .rw[Nat.min_eq_right h,fQ (ay _),fQ h]
def qiA(l:List D)(i:Nat)(h:i<=l.length):qaB l (some (i:Int)) none=l.drop i:=by unfold qaB;rw[HT.YE,HT.Zs];simp[fQ,gJ h]
theorem qdO:∀(a:List D) (x:D) (b:List D),(a++x::b).drop (a.length+1)=b
 |[],z,y=>rfl
 | z::a,x,b=>qdO a x b
theorem qoE:∀{e e':Int} {l:List DG.St},e'<=e->Ch e l->Ch e' l
 |z,y,[],x,w=>trivial
 | e,e',s::l,h,c=>{{c.1.nm,by have:=c.1.lo;lia,c.1.ab,c.1.hi},c.2}
def qbP:Int->List DG.St->Int
 |e,[]=>e
 | z,s::l=>qbP s.2.2 l
theorem qbQ:∀{e:Int} {A B:List DG.St},Ch e (A++B)↔Ch e A/\Ch (qbP e A) B
 |e,[],B=>{λh=>⟨trivial,h⟩,λh=>h.2}
 | e,s::A,B=>by show(StOk e s/\Ch s.2.2 (A++B))↔(StOk e s/\Ch s.2.2 A)/\Ch (qbP s.2.2 A) B;rw[qbQ,and_assoc]
theorem Zo:∀(e:Int) (A:List DG.St) (a:DG.St),qbP e (A++[a])=a.2.2
 |z,[],y=>rfl
 | z,s::A,a=>Zo s.2.2 A a
theorem qdP:∀{e:Int} {A:List DG.St},Ch e A->e<=qbP e A
 |e,[],z=>bG _
 | e,s::A,h=>by
  have:=qdP h.2
  have:=h.1.lo
  have:=h.1.ab
  show e<=qbP s.2.2 A
  lia
def qlg(k:Nat)(A B:List DG.St)(s:DG.St)(c:Int)(h:Ch (-1) (A++s::B))(hl:(A++s::B).length<=100)(hc:c % ((A++s::B).length:Int)=(A.length:Int)) :
  ∃m:List DG.St,clK pg (k+1) "_law_bent" [.bor ((A++s::B).map stD),.val (.int c)]=.ok (.tmp ((A++m++B).map stD))/\Ch (-1) (A++m++B)/\m.length<=1/\∀x∈m,x.1=s.1/\x.2.2<=s.2.2:=by
 let(h1,h2,h3):=qbQ.mp h;have e0:=qdP h1;have lo:=h2.lo;have ab:=h2.ab;have hi:=h2.hi;have len:(A++s::B).length=A.length+B.length+1:=by simp;lia
 have hL:(0:Int) < (((A++s::B).map stD).length:Int):=by rw[aD,len];lia
 have hc':c % (((A++s::B).map stD).length:Int)=(A.length:Int):=by rw[aD];exact hc
 have at1:atI ((A++s::B).map stD) (A.length:Int)=some (stD s):=by rw[yw (v:=stD s)];rw[bu,c5 (ay _),lD];rfl
 have t1:qaB ((A++s::B).map stD) none (some (A.length:Int))=A.map stD:=by rw[qiz,aR,List.take_append_of_le_length (5:),fQ (5:)]
 have t2:qaB ((A++s::B).map stD) (some ((A.length:Int)+1)) none=B.map stD:=by rw[show(A.length:Int)+1=((A.length+1:Nat):Int) by lia,qiA _ _ (by rw[aD,len];lia),aR,au,show A.length+1=(A.map stD).length+1 by rw[aD]];exact qdO ..
 have z1:((A++s::B).map stD).length<=sizeLine:=by rw[aD];exact qx (1:)
 have z2:(A.map stD).length+(B.map stD).length<=sizeLine:=by rw[aD,aD];exact qx (1:)
 have z3:(A.map stD).length+1<=sizeLine:=by rw[aD];exact qx (1:)
 have z4:∀d:D,(A.map stD++[d]).length+(B.map stD).length<=sizeLine:=λd=>by simp![aT,aD,eK];exact qx (1:)
 have three:0+1+1+1<=sizeLine:=(3:)
 have one:0+1<=sizeLine:=(3:)
 have x0:eqD (.int (c / 64 % 3)) (.int 0)=some (c / 64 % 3 == 0):=qw ..;have x1:eqD (.int (c / 64 % 3)) (.int 1)=some (c / 64 % 3 == 1):=qw ..;generalize hM:(A++s::B).map stD=M at hL hc' at1 t1 t2 z1;generalize hI:(A.length:Int)=i at hc' at1 t1 t2;generalize hX:clK pg (k+1) "_law_bent" [.bor M,.val (.int c)]=X;rw[qcF]at hX;simp?![Qr,hL,hc',at1,jC]at hX;rw[<-hX];clear hX
 by_cases c0:c / 64 % 3=0
 .have x0:eqD (.int (c / 64 % 3)) (.int 0)=some true:=by rw[x0,c0];rfl
  refine{[],?_,?_,aZ _,λx hx=>by cases hx}
  .rw[b5,aR];simp?![x0,t1,t2,z1,z2]
  .rw[b5];exact qbQ.mpr ⟨h1,qoE (1:) h3⟩
 have x0:eqD (.int (c / 64 % 3)) (.int 0)=some false:=by rw[x0];simp[c0]
 by_cases c1:c / 64 % 3=1
 .have x1:eqD (.int (c / 64 % 3)) (.int 1)=some true:=by rw[x1,c1];rfl
  refine{[(s.1,s.2.1,s.2.1+(s.2.2 - s.2.1) / 2)],?_,?_,ay _,λx hx=>?_}
  .simp![aR,au,aH,jC];simp?![x0,x1,t1,t2,z1,z3,z4,one,three]
  .rw[bf];exact qbQ.mpr ⟨h1,⟨h2.nm,by dsimp only;lia,by dsimp only;lia,by dsimp only;lia⟩,qoE (by dsimp only;lia) h3⟩
  .rw[aU.mp hx];exact{rfl,by dsimp only;lia}
 have x1:eqD (.int (c / 64 % 3)) (.int 1)=some false:=by rw[x1];simp[c1]
 refine{[(s.1,qbP (-1) A+1,s.2.2)],?_,?_,ay _,λx hx=>?_}
 .simp![aR,au,aH,jC];rcases Jt A with rfl|⟨A',a,rfl⟩
  .obtain rfl:i=0:=by rw[<-hI];rfl
   have z5:1+(B.map stD).length<=sizeLine:=by rw[aD];exact qx (1:)
   simp?![x0,x1,t1,t2,z1,z5,one,three,qbP,aH,bp,show(-1:Int)+1=0 from rfl]
  .have g:i > 0:=by rw[<-hI,aT,eK];lia
   have at2:atI M (i - 1)=some (stD a):=by rw[<-hM,<-hI,show(((A'++[a]).length:Nat):Int) - 1=(A'.length:Int) by simp,yw (v:=stD a)];simp
   rw[Zo];simp?![at2,g,jC,x0,x1,t1,t2,z1,z3,z4,one,three]
 .rw[bf];exact qbQ.mpr ⟨h1,⟨h2.nm,by dsimp only;lia,by dsimp only;lia,h2.hi⟩,h3⟩
 .rw[aU.mp hx];exact{rfl,bG _}
theorem Qu:∀(st:List DG.St),(∀s∈st,NameOk s.1)->qeq (st.map stD)=true/\qdk (st.map stD)<=60
 |[],z=>by simp[qeq,qdk]
 | s::l,h=>by
  let(a,b):=Qu l λt ht=>h t (by simp[ht]);have n:=Yu (h s (5:));rw[au,jC];refine{by simp[qeq,okD,n,a],?_};simp![qdk,dpD]
  lia
theorem qav:∀{l:List DG.St} {e:Int},Ch e l->∀s∈l,NameOk s.1
 |[],z,y,s,h=>by cases h
 | t::l,e,h,s,hs=>by
  rcases aF.mp hs with rfl|hs
  .exact h.1.nm
  .exact qav h.2 s hs
def qo8{r:Lr}(h:LrOk r):1<=r.ru.days:=by
 have:=h.d0
 let(kd,l,d):=r;cases kd
 .exact this
 .exact this
 .exact bG _
structure Bk(rs:List Lr)(ps:List Pa)(n:Nat)(r:Lr):Prop where
 hn:rs[n]?=some r
 rok:LrOk r
 hp:ps.length<=3
 po:∀p∈ps,p.2.1<=p.2.2
abbrev pL(r:Lr)(ps:List Pa)(n:Nat)(st:List DG.St):List Pa:=pcR r.ru (qK (ofN (n:Int) ps)) st
noncomputable abbrev cL(r:Lr)(ps:List Pa)(n:Nat)(st:List DG.St):Int->Int:=qH r.ru (qaD st (r.ru,lift (n:Int) ps))
abbrev kL(r:Lr)(L:List Pa):List Int:=sdI (tuD r.kd.isW r.ru.days L)
noncomputable abbrev bL(r:Lr)(ps:List Pa)(n:Nat)(st:List DG.St):List Pa:=bdL (kL r (pL r ps n st)) (sF r.kd.isW r.ru.days (pf (pL r ps n st))) (cL r ps n st)
structure Side(r:Lr)(ps:List Pa)(n:Nat)(st:List DG.St):Prop where
 ok:PcOk (pL r ps n st)
 len:(pL r ps n st).length<=500
 cnt:Cnt r.kd.isW r.ru.days (pf (pL r ps n st)) (cL r ps n st)
 bent:Bent (enB r.kd.isW r.ru.days (pL r ps n st)) (kL r (pL r ps n st)) (sF r.kd.isW r.ru.days (pf (pL r ps n st))) (cL r ps n st)
 kl:(kL r (pL r ps n st)).length < 900
section
variable{rs:List Lr}{ps:List Pa}{n:Nat}{r:Lr}{sa sb:List DG.St}
def Bk.of(h:Bk rs ps n r):∀p∈ofN (n:Int) ps,p.1<=p.2:=λp hp=>by unfold ofN at hp;let(q,hq,rfl):=df.mp hp;exact h.po q (eZ.mp hq).1
def Bk.lf(h:Bk rs ps n r):(lift (n:Int) ps).length<=3:=by
 have h1:=qk3 h.of;have h2:=qad (n:Int) ps;have h3:=h.hp;unfold lift
 lia
def Bk.rlw(h:Bk rs ps n r):Rlw (r.ru,lift (n:Int) ps):={h.rok.ok,qo8 h.rok,by show(0:Int)<=9;decide,qf1 h.of,by have:=h.lf;dsimp only;lia}
def qaw(h:Bk rs ps n r)(hc:Ch (-1) sa)(hl:sa.length<=12):Side r ps n sa:=by
 let(p1,p2):=qoC (r:=r.ru) h.rok.ok h.of hc.w
 have C:Cnt r.kd.isW r.ru.days (pf (pL r ps n sa)) (cL r ps n sa):=by show Cnt r.kd.isW r.ru.days (pf (pcR r.ru (qK (ofN (n:Int) ps)) sa)) _;rw[p2];exact qqi h.rlw hc.w
 have l1:(pL r ps n sa).length<=(pcS r.ru (qK (ofN (n:Int) ps)) sa).length:=lU ..;have l2:=qcJ r.ru (qK (ofN (n:Int) ps)) sa;have l3:(qK (ofN (n:Int) ps)).length<=3:=by unfold qK;rw[gR];have:=qad (n:Int) ps;have:=h.hp;lia
 have l4:sa.length * ((qK (ofN (n:Int) ps)).length+1)<=12 * 4:=i8 hl (1:);refine{p1,by lia,C,qam p1 C (qo8 h.rok),?_};let(t1,t2):=qgE r.kd.isW r.ru.days (pL r ps n sa);have t3:=Qo (tuD r.kd.isW r.ru.days (pL r ps n sa))
 have t4:(tuD r.kd.isW r.ru.days (pL r ps n sa)).length<=5 * (pL r ps n sa).length:=by
  unfold tuD;rw[aT,aD];split
  .rw[eM];lia
  .lia
 lia
theorem qju(D s:Int->Int):∀l:List Int,(alP D s l).length<=2 * l.length
 |[]=>aZ _
 |[z]=>aZ _
 | b::e::l=>by
  have:=qju D s (e::l)
  have:=qjr b (e - 1) (D b) (s b)
  rw[qdA,aT,aK]
  lia
def qlh(h:Bk rs ps n r)(ca:Ch (-1) sa)(cb:Ch (-1) sb)(la:sa.length<=12)(lb:sb.length<=12):∃F:List Pr,F.length < 9000/\
  clK pg 19 "_law_due" [.bor ((bL r ps n sa).map paD),.bor ((bL r ps n sb).map paD)]=.ok (.tmp (F.map pD))/\
  clK pg 19 "changed_days" [.val (bkI (rs.map Lr.ru) ps),.val (.int (n:Int)),.val (.lst (sa.map stD)),.val (.lst (sb.map stD))]=.ok (.tmp (F.map pD)):=by
 have A:=qaw h ca la;have B:=qaw h cb lb;have fl:=(qat (Q:=λz=>True) (ps:=alP (λd=>cL r ps n sa d - cL r ps n sb d) (λd=>sF r.kd.isW r.ru.days (pf (pL r ps n sa)) d - sF r.kd.isW r.ru.days (pf (pL r ps n sb)) d) (sdI (kL r (pL r ps n sa)++kL r (pL r ps n sb)))) (acc:=[]) (λz z=>trivial) λz z=>trivial).1;have f2:=qju (λd=>cL r ps n sa d - cL r ps n sb d) (λd=>sF r.kd.isW r.ru.days (pf (pL r ps n sa)) d - sF r.kd.isW r.ru.days (pf (pL r ps n sb)) d) (sdI (kL r (pL r ps n sa)++kL r (pL r ps n sb)));have f3:=Qo (kL r (pL r ps n sa)++kL r (pL r ps n sb));have f4:=A.kl;have f5:=B.kl;rw[aT]at f3;rw[eM]at fl;refine{_,by lia,qoB 17 A.bent B.bent A.kl B.kl (qgn A.ok) (qgn B.ok),?_};let(_,_,d1,d2):=qjj A.bent B.bent;have hw:=h.rlw;have hd:=qo8 h.rok;have pa:=qgi hw ca.w;have pb:=qgi hw cb.w;let(s1,s2):=qor pa pb (qbC hd pa) (qbC hd pb) hd;have l3:=h.lf;have q1:(qaD sa (r.ru,lift (n:Int) ps)).length<=sa.length * ((lift (n:Int) ps).length+2):=yD _ _ sa;have q2:(qaD sb (r.ru,lift (n:Int) ps)).length<=sb.length * ((lift (n:Int) ps).length+2):=yD _ _ sb;have q3:sa.length * ((lift (n:Int) ps).length+2)<=12 * 5:=i8 la (1:);have q4:sb.length * ((lift (n:Int) ps).length+2)<=12 * 5:=i8 lb (1:);have hp:=h.hp;have c:=qex (pg:=pg) 11 false false (rs.map Lr.ru) ps (1:) n r.ru (by rw[bu,h.hn];rfl) hd h.rok.ok (1:) sa sb (qav ca) (qav cb) ca cb (1:) (1:) pa pb (1:);refine c.trans ?_;rw[d1.same s1 λd=>(d2 d).trans (s2 d).symm]
end
theorem Zp(zs:List Str)(hz:NamesOk zs):∀(cs:List Int) (acc:List Lr) (s0:Sl),acc.length+cs.length < 1000->∃rs:List Lr,(∀r∈rs,LrOk r)/\rs.length=cs.length/\
  ze (pg.kk 19) qap (.one 0) .yes (cs.map D.int) [s0,.bor (zs.map D.str)] (acc.map lrD)=.ok ((acc++rs).map lrD)
 |[],acc,s0,z=>{[],λr h=>(by cases h),rfl,by simp[qL]}
 | c::cs,acc,s0,hl=>by
  rw[aK]at hl;let(r,h1,h2):=qld 18 c zs hz;have h2:clK pg 19 "_law_rule" [.val (.int c),.bor (zs.map D.str)]=_:=h2;let(rs,i1,i2,i3):=Zp zs hz cs (acc++[r]) (.val (.int c)) (sn hl);refine{r::rs,λx hx=>?_,by simp[i2],?_}
  .rcases aF.mp hx with rfl|hx
   .exact h1
   .exact i1 x hx
  .have hs:(acc.map lrD).length < sizeLine:=zk hl;rw[show acc++r::rs=acc++[r]++rs by simp];rw[aR (l₁:=acc)]at i3;rw[au,aH]at i3;rw[au];simp?[qgw,h2,hs,i3]
theorem Qv(R:List D)(hR:0 < R.length):∀(cs:List Int) (acc:List Pa) (s0:Sl),acc.length+cs.length < 1000->∃ps:List Pa,(∀p∈ps,0<=p.1/\p.1 < (R.length:Int)/\0<=p.2.1/\p.2.1<=p.2.2/\p.2.2<=2000000)/\ps.length=cs.length/\
  ze (pg.kk 19) qaq (.one 0) .yes (cs.map D.int) [s0,.bor R] (acc.map paD)=.ok ((acc++ps).map paD)
 |[],acc,s0,z=>{[],λr h=>(by cases h),rfl,by simp[qL]}
 | c::cs,acc,s0,hl=>by
  rw[aK]at hl;let(p,h1,h2):=qaa 17 c (R.length:Int) (1:);have h2:clK pg 19 "_law_paper" [.val (.int c),.val (.int (R.length:Int))]=_:=h2;let(ps,i1,i2,i3):=Qv R hR cs (acc++[p]) (.val (.int c)) (sn hl);refine{p::ps,λx hx=>?_,by simp[i2],?_}
  .rcases aF.mp hx with rfl|hx
   .exact h1
   .exact i1 x hx
  .have hs:(acc.map paD).length < sizeLine:=zk hl;rw[show acc++p::ps=acc++[p]++ps by simp];rw[aR (l₁:=acc)]at i3;rw[au,aH]at i3;rw[au];simp?[qgx,h2,hs,i3]
theorem qbR:∀(rs:List Lr) (acc:List D) (s0:Sl),acc.length+rs.length < 1000->(∀r∈rs,LrOk r)->ze (pg.kk 19) qar (.one 0) .yes (rs.map lrD) [s0] acc=.ok (acc++(rs.map Lr.ru).map ruI)
 |[],acc,s0,z,y=>by simp[qL]
 | r::rs,acc,s0,hl,h=>by rw[aK]at hl;have m:=qcs 6 r (h r (5:));have m:clK pg 19 "_law_made" [.val (lrD r)]=_:=m;have ih:=qbR rs (acc++[ruI r.ru]) (.val (lrD r)) (sn hl) λx hx=>h x (by simp[hx]);have hs:acc.length < sizeLine:=qk1 hl;simp![bf,cK,bp]at ih;refine(qg _).symm.trans ?_;rw[au,au,au];simp?![qgy,m,hs,ih]
theorem qdQ(cl:Cl):∀(l:List Pr) (acc:List D) (s0:Sl),acc.length+l.length < 10000->ze cl qcG (.one 0) .yes (l.map pD) [s0] acc=.ok (acc++bT l.length (.bl true))
 |[],acc,s0,z=>by simp[qL]
 | p::l,acc,s0,hl=>by rw[aK]at hl;have ih:=qdQ cl l (acc++[.bl true]) (.val (pD p)) (sn hl);have hs:acc.length < sizeLine:=qk1 hl;rw[aK,List.replicate_succ];simp![bf,cK,bp,qG]at ih ⊢;rw[au];simp?[qgz,qG,hs,ih]
theorem qgH:∀n:Nat,qhI (bT n (.bl true))=some (bT n true)
 |0=>rfl
 | n+1=>by rw[List.replicate_succ,qhI,qgH n];rfl
def qbS(ns:List Int)(a b:Nat)(h:b<=a+24):∃ms:List Int,QB (ns.map D.int) (some (a:Int)) (some (b:Int)) 2=ms.map D.int/\ms.length<=12:=by
 have gen:∀is:List Nat,is.filterMap ((ns.map D.int)[·]?)=(is.filterMap (ns[·]?)).map D.int:=λis=>by
  induction is with
  |nil=>rfl
  |cons i is ih=>rw[c4,c4,bu,ih];cases ns[i]?<;>rfl
 unfold QB;rw[gen];refine{_,rfl,bQ (List.length_filterMap_le ..) ?_};rw[aD]
 have e1:(b4 (some (a:Int)) (some (b:Int)) (some 2) ns.length).1=max 0 (min (a:Int) ns.length):=by
  simp[b4]
  lia
 have e2:(b4 (some (a:Int)) (some (b:Int)) (some 2) ns.length).2.1=max 0 (min (b:Int) ns.length):=by
  simp[b4]
  lia
 have e3:(b4 (some (a:Int)) (some (b:Int)) (some 2) ns.length).2.2=2:=rfl;rw[e1,e2,e3];generalize ns.length=m;unfold gn;simp![aD,List.length_range]
 split<;>lia
theorem qdR{rs:List Lr}{ps:List Pa}{sa sb:List DG.St}(hp:ps.length<=3)(po:∀p∈ps,p.2.1<=p.2.2)(ca:Ch (-1) sa)(cb:Ch (-1) sb)(la:sa.length<=12)(lb:sb.length<=12)(v0 v1 v2 v3:Sl):∀(rest:List Lr) (j:Nat) (s5 s10 s11 s12 s13:Sl),(∀r∈rest,LrOk r)->(∀(m:Nat) r,rest[m]?=some r->rs[j+m]?=some r)->
  ∃s5' N',jy (pg.kk 19) 1000 (.many [10,5]) qcH (DE.enF j (rest.map lrD)) [v0,v1,v2,v3,.own (ps.map paD),s5,.val (bkI (rs.map Lr.ru) ps),.own (sa.map stD),.own (sb.map stD),.own [.lst (sa.map stD),.lst (sb.map stD)],s10,s11,s12,s13]
   = .ok (.next (v0::v1::v2::v3::.own (ps.map paD)::s5'::.val (bkI (rs.map Lr.ru) ps)::.own (sa.map stD)::.own (sb.map stD)::.own [.lst (sa.map stD),.lst (sb.map stD)]::N'))
 |[],j,s5,s10,s11,s12,s13,_,_=>{s5,[s10,s11,s12,s13],rfl}
 | r::rest,j,s5,s10,s11,s12,s13,hr,h=>by
  have hk:Bk rs ps j r:={h 0 r rfl,hr r (5:),hp,po};have A:=qaw hk ca la;have B:=qaw hk cb lb;have d1:=qo8 hk.rok;have p1:clK pg 19 "_law_pieces" [.val (lrD r),.bor (ps.map paD),.val (.int (j:Int)),.bor (sa.map stD)]=.ok (.tmp ((pL r ps j sa).map paD)):=Zn 18 r hk.rok ps (1:) j sa (1:);have p2:clK pg 19 "_law_pieces" [.val (lrD r),.bor (ps.map paD),.val (.int (j:Int)),.bor (sb.map stD)]=.ok (.tmp ((pL r ps j sb).map paD)):=Zn 18 r hk.rok ps (1:) j sb (1:);have b1:clK pg 19 "_law_bends" [.val (lrD r),.val (.lst ((pL r ps j sa).map paD))]=.ok (.tmp ((bL r ps j sa).map paD)):=qdL 17 r _ A.ok A.len d1 A.cnt;have b2:clK pg 19 "_law_bends" [.val (lrD r),.val (.lst ((pL r ps j sb).map paD))]=.ok (.tmp ((bL r ps j sb).map paD)):=qdL 17 r _ B.ok B.len d1 B.cnt;let(F,lF,f1,f2):=qlh hk ca cb la lb;have q1:eqD (.lst (F.map pD)) (.lst (F.map pD))=some true:=qdl (by rw[okD];exact(qbN F).1) (by rw[dpD];have:=(qbN F).2;lia);have i0:atI [D.lst (sa.map stD),.lst (sb.map stD)] 0=some (.lst (sa.map stD)):=rfl;have i1:atI [D.lst (sa.map stD),.lst (sb.map stD)] 1=some (.lst (sb.map stD)):=rfl;have ab:qhI (bT F.length (.bl true))=some (bT F.length true):=qgH _
  have aa:qoX (.tmp (bT F.length (.bl true)))=.ok (.val (.bl true)):=by show(match qhI (bT F.length (.bl true)) with |some bs=>_ |none=>_)=_;rw[ab];dsimp only;rw[show(bT F.length true).all id=true by simp]
  have tc:=qdQ (pg.kk 19) F [] .no (by rw[eM];lia);rw[bp]at tc;have zF:F.length<=sizeLine:=qx (1:)
  let(s5',N',ih):=qdR hp po ca cb la lb v0 v1 v2 v3 rest (j+1) (.val (lrD r)) (.val (.int (j:Int))) (.own ((bL r ps j sa).map paD)) (.own ((bL r ps j sb).map paD)) (.val (.lst (F.map pD))) (λx hx=>hr x (by simp[hx])) (λm x hx=>by
   have:=h (m+1) x hx
   rwa[show j+(m+1)=j+1+m by lia]at this)
  generalize (bL r ps j sa).map paD=X at *;generalize (bL r ps j sb).map paD=Y at *;generalize (pL r ps j sa).map paD=Z at *;generalize (pL r ps j sb).map paD=W at *;refine{s5',N',?_};refine(qg _).symm.trans ?_;rw[au,DE.enF];simp?![qgA,p1,p2,b1,b2,i0,i1,f1,f2,q1,zF,aD,qb0,tc,aa,ih]
def qiB(ns:List Int)(hl:ns.length<=63):clK pg 20 "law" [.scr (ns.map D.int)]=.ok (.val (.bl true)):=by
 have c0:clK pg 19 "_law_cell_at" [.scr (ns.map D.int),.val (.int 0)]=.ok (.val (.int (jV ns 0))):=qcv (pg:=pg) 18 ns 0;have c1:clK pg 19 "_law_cell_at" [.scr (ns.map D.int),.val (.int 1)]=.ok (.val (.int (jV ns 1))):=qcv (pg:=pg) 18 ns 1;have c7:clK pg 19 "_law_cell_at" [.scr (ns.map D.int),.val (.int 7)]=.ok (.val (.int (jV ns 7))):=qcv (pg:=pg) 18 ns 7;generalize jV ns 0=n0 at c0;generalize jV ns 1=n1 at c1;generalize jV ns 7=n7 at c7;let(cs1,e1,l1):=qga ns 2 4;let(cs2,e2,l2):=qga ns 4 7;let(cs3,e3,l3):=qbS ns 8 32 (2:);let(cs4,e4,l4):=qbS ns 9 33 (2:);have e1:qaB (ns.map D.int) (some 2) (some 4)=cs1.map D.int:=e1;have e2:qaB (ns.map D.int) (some 4) (some 7)=cs2.map D.int:=e2;have e3:QB (ns.map D.int) (some 8) (some 32) 2=cs3.map D.int:=e3;have e4:QB (ns.map D.int) (some 9) (some 33) 2=cs4.map D.int:=e4;have q0:0<=n0 / 512 % 3:=bZ _ (2:);have q1:n0 / 512 % 3 < 3:=cD _ (2:);let(m,em):∃m:Nat,2+n0 / 512 % 3=(m:Int):={(2+n0 / 512 % 3).toNat,by lia};let(zs,ez,lz,hz):=FA.qab (pg:=pg) 18 n0 m (1:);have ez:clK pg 19 "_law_lands" [.val (.int n0),.val (.int (m:Int))]=.ok (.tmp (zs.map D.str)):=ez;let(rs,r1,r2,er):=Zp zs hz (n1::cs1) [] .no (by simp;lia);have er:ze (pg.kk 19) qap (.one 0) .yes (.int n1::cs1.map D.int) [.no,.bor (zs.map D.str)] []=.ok (rs.map lrD):=er;rw[aK]at r2;let(ps,p1,p2,ep):=Qv (rs.map lrD) (by rw[aD];lia) cs2 [] .no (by simp;lia);have ep:ze (pg.kk 19) qaq (.one 0) .yes (cs2.map D.int) [.no,.bor (rs.map lrD)] []=.ok (ps.map paD):=ep;rw[aD]at p1;have po:∀p∈ps,p.2.1<=p.2.2:=λp hp=>(p1 p hp).2.2.2.1;let(sa,esa,ca,la,_):=qbL 17 cs3 (1:) zs hz;have esa:clK pg 19 "_law_stays" [.val (.lst (cs3.map D.int)),.bor (zs.map D.str)]=.ok (.tmp (sa.map stD)):=esa;let(sb,esb,cb,lb,_):=qbL 17 cs4 (1:) zs hz;have esb:clK pg 19 "_law_stays" [.val (.lst (cs4.map D.int)),.bor (zs.map D.str)]=.ok (.tmp (sb.map stD)):=esb;have mu:Qz n7 48271=true:=yU (2:) (2:);generalize hC:n7 * 48271 % 2147483647=c;have z0:(0:Nat)<=sizeLine:=(3:)
 let(sw,cw,lw,X):∃sw:List DG.St,Ch (-1) sw/\sw.length<=12/\∀{M:Type} (K:Fl->R M),(iS (pg.kk 19) 1000 (.ite (.and (.cmp .Eq (.bin .Mod (.var 2) (.con (D.int 2))) (.con (D.int 1))) (.one (.cmp .NotEq (.var 7) (.lst .nil)))) %[.set 8 (.call "_law_bent" %[7,.bin .FloorDiv (.var 2) (.con (D.int 2))|0])|0] .nil) [.scr (ns.map D.int),.own (zs.map D.str),.val (.int c),.val (.lst (rs.map lrD)),.own (ps.map paD),.no,.val (bkI (rs.map Lr.ru) ps),.own (sa.map stD),.own (sb.map stD),.no,.no,.no,.no,.no]).th K=K (.next [.scr (ns.map D.int),.own (zs.map D.str),.val (.int c),.val (.lst (rs.map lrD)),.own (ps.map paD),.no,.val (bkI (rs.map Lr.ru) ps),.own (sa.map stD),.own (sw.map stD),.no,.no,.no,.no,.no]):=by
  have x1:eqD (.int (c % 2)) (.int 1)=some (c % 2 == 1):=qw ..
  have en:eqD (.lst (sa.map stD)) (.lst [])=some sa.isEmpty:=by rw[qfT (Qu sa (qav ca)).1 (by have:=(Qu sa (qav ca)).2;lia),List.isEmpty_map]
  cases y:(c % 2 == 1) with
  |false=>refine{sb,cb,by lia,λK=>?_};rw[y]at x1;simp?![x1]
  |true=>
   rw[y]at x1
   by_cases hs:sa=[]
   .subst hs;have en:eqD (.lst []) (.lst [])=some true:=en;refine{sb,cb,by lia,λK=>?_};rw[aH];simp?![x1,z0,en]
   .have hn:0 < sa.length:=List.length_pos_iff.mpr hs;have en:eqD (.lst (sa.map stD)) (.lst [])=some false:=by rw[en];cases sa with |nil=>exact absurd rfl hs |cons _ _=>rfl
    have m0:0<=c / 2 % (sa.length:Int):=bZ _ (1:);have m1:c / 2 % (sa.length:Int) < sa.length:=cD _ (1:);let(i,hi):∃i:Nat,c / 2 % (sa.length:Int)=(i:Int):={(c / 2 % (sa.length:Int)).toNat,by lia};have hi':i < sa.length:=by lia
    have sp:sa.take i++sa[i]::sa.drop (i+1)=sa:=by rw[<-fg hi',iB]
    let(b,b1,b2,b3,_):=qlg 18 (sa.take i) (sa.drop (i+1)) sa[i] (c / 2) (by rw[sp];exact ca) (by rw[sp];lia) (by rw[sp,hi,gB];lia);rw[sp]at b1;have b1:clK pg 19 "_law_bent" [.bor (sa.map stD),.val (.int (c / 2))]=_:=b1;refine{_,b2,by simp![aT,gB,lq];lia,λK=>?_};simp?![x1,z0,en,b1]
 have emd:=qbR rs [] .no (by simp;lia) r1;have emd:ze (pg.kk 19) qar (.one 0) .yes (rs.map lrD) [.no] []=.ok ((rs.map Lr.ru).map ruI):=emd
 have ebk:pg.nw 19 "Book" [.val (.lst ((rs.map Lr.ru).map ruI)),.bor (ps.map paD)]=.ok (.val (bkI (rs.map Lr.ru) ps)):=qk7 (pg:=pg) 7 false true (rs.map Lr.ru) ps (by rw[aD];lia) (1:) λp hp=>by
  have h:=p1 p hp;rw[aD]
  lia
 let(s5,N',lp):=qdR (rs:=rs) (ps:=ps) (sa:=sa) (sb:=sw) (1:) po ca cw (1:) lw (.scr (ns.map D.int)) (.own (zs.map D.str)) (.val (.int c)) (.val (.lst (rs.map lrD))) rs 0 .no .no .no .no .no r1 (λm r hr=>by rw[fV];exact hr);have z1:1+cs1.length<=sizeLine:=qx (1:);have z2:cs1.length+1<=sizeLine:=qx (1:);have z3:cs2.length<=sizeLine:=qx (1:);have z4:rs.length<=sizeLine:=qx (1:);have z5:0+1<=sizeLine:=(3:)
 have z6:0+1+1<=sizeLine:=(3:)
 have z7:sa.length<=sizeLine:=qx (1:);have z8:sw.length<=sizeLine:=qx (1:)
 have eqs:eqD (.lst [.lst (sa.map stD),.lst (sw.map stD)]) (.lst [.lst (sa.map stD),.lst (sw.map stD)])=some true:=qdl (by simp[okD,qeq,(Qu sa (qav ca)).1,(Qu sw (qav cw)).1]) (by
  have a:=(Qu sa (qav ca)).2;have b:=(Qu sw (qav cw)).2;simp![dpD,qdk]
  lia)
 rw[show(20:Nat)=19+1 from rfl,qqm];simp?![qos,↓X,c0,c1,c7,mu,hC,em,ez,e1,e2,e3,e4,z0,z1,z2,z3,z4,z5,z6,z7,z8,qb0,qmG,iY,iZ,er,ep,esa,esb,emd,ebk,aD,Ys,lp,eqs]
end K65
namespace DE
open PySem PySem.Spec PyProof.Rows L2
def Jh(G G' H:Hp):Prop:=∀a o,G' a=some o->(∃o',G a=some o')\/H a=none
def But(p:af)(H H':Hp):Prop:=∀a o,a≠p->H a=some o->H' a=some o
def qez(U:KC)(K:Frag)(ok:Str->Bool)(go:List Ar->Option (List (Str×D))):Sp:=λvs H Q z=>∀goal:Prop,(∀(G:Hp) (c:Str) (C p dx:af) (us:List V) (args:List Ar) (fs:List (Str×D)),vs=.ref p::us->ok c=true->U c=some C->
 H p=some (.ins C dx [])->G p=none->qo G H->Yq U K G H args us->go args=some fs->
 (∀G' H' xs,qo G G'->qo G' H'->G' p=none->But p H H'->Jh G G' H->H' p=some (.ins C dx ((fs.map (·.1)).zip xs))->xs.length=fs.length->qi U G' (fs.map (·.2)) xs->Q .non H')->goal)->goal
noncomputable abbrev spQ(U:KC)(K:Frag)(cl:Str->List Ar->R Rv)(f:Str):Sp:=λvs H Q z=>spF U K cl f vs H Q E0
def qaC.q{P:aJ}{wd:aC}{U:KC}{K:Frag}{mg:PR}{base:aw}{pg:Pg}{k:Nat}(h:qaC P wd U K mg base pg k)(f:Str)(st:aI)(e:pg.defs.lookup f=some st):∃fa fd,FnOk P wd K mg base CX0 k fa fd (QC st) (spQ U K (clK pg k) f)/\mg f=some (.ref fa)/\dO K (.ref fa)=true/\zn K fd (QC st) []:=
 let ⟨fa,fd,F,h⟩:=h.1 f st e
 ⟨fa,fd,qdj F λy y y y z=>z,h⟩
section
variable{U:KC}{K:Frag}{G H G' H':Hp}
def qbT{cl:Str->List Ar->R Rv}{f:Str}{args:List Ar}{vs:List V}{r:Rv}{Q:VK}{E:XK}(sub:qo G H)(ha:Yq U K G H args vs)(e:cl f args=.ok r)
  (h:∀v G' H',qo H H'->qo G G'->qo G' H'->Jh G G' H->ReR U G' H' H r v->Q v H'):spF U K cl f vs H Q E:={G,args,sub,ha,by rw[e];exact h}
theorem ArR.low{a:Ar}{v:V}(h:ArR U K G H a v)(gs:qo G G')(hs:∀b o,H b=some o->(∀C dx fs,o≠.ins C dx fs)->H' b=some o):(∀l,a≠.scr l)->ArR U K G' H' a v:=λhn=>by
 cases a with
 |val d=>exact Rep.same gs h
 |bor l=>let(b,xs,e,h1,h2):=h;exact{b,xs,e,hs _ _ h1 (by intros;intro z;cases z),h2.same gs}
 |scr l=>exact absurd rfl (hn l)
theorem qax{nw:Str->List Ar->R Rv}{f c:Str}{C:af}{ok:Str->Bool}{go:List Ar->Option (List (Str×D))}(hC:U c=some C)(hok:ok c=true)
  (hX:∀args c l,nw f args≠.exc c l) (hgo:∀args r,nw f args=.ok r->(∀a∈args,∀l,a≠.scr l)/\∃fs,go args=some fs/\r=.val (.ins c (fs.map (·.1)) (fs.map (·.2)))) :
  ∀vs H Q E,spF U K nw f vs H Q E->∀x dx,H x=none->H dx=none->dx≠x->qez U K ok go (.ref x::vs) (upd (upd H dx (.own x)) x (.ins C dx [])) (λv H2=>v=.non/\Q (.ref x) H2) E:=by
 rintro vs H Q E ⟨G,args,sub,ha,hw⟩ x dx hx hdx ne
 cases e:nw f args with
 |no=>rw[e]at hw;exact hw.elim
 |exc c l=>exact(hX _ _ _ e).elim
 |ok r=>
  rw[e]at hw;let(hs,fs,hg,rfl):=hgo args r e;have gx:G x=none:=qo.none sub hx;have gd:G dx=none:=qo.none sub hdx
  have up:qo H (upd (upd H dx (.own x)) x (.ins C dx [])):=λb o hb=>by
   have nb:b≠x:=λz=>by rw[z,hx]at hb;cases hb
   have nd:b≠dx:=λz=>by rw[z,hdx]at hb;cases hb
   rw[qd nb,qd nd];exact hb
  have ha':∀{args:List Ar} {vs:List V},(∀a∈args,∀l,a≠.scr l)->Yq U K G H args vs->Yq U K G (upd (upd H dx (.own x)) x (.ins C dx [])) args vs:=by
   intro args
   induction args with
   |nil=>intro vs _ h;simp![Yq]at h ⊢;exact h
   |cons a l ih=>intro vs hn h;simp![Yq]at h ⊢;let(v,r,e,h1,h2):=h;exact{v,r,e,h1.low (λy y z=>z) (λb o hb y=>up b o hb) (hn a (bX ..)),ih (λb hb=>hn b (bH _ hb)) h2}
  refineλy k=>k G c C x dx vs args fs rfl hok hC qe gx (λb o hb=>up b o (sub b o hb)) (ha' hs ha) hg λG' H' xs gs sub' gx' but fr hp hl rp=>{rfl,?_};refine hw (.ref x) (upd G' x (.ins C dx ((fs.map (·.1)).zip xs))) H' (λb o hb=>?_) (λb o hb=>?_) (λb o hb=>?_) (λb o hb=>?_) ?_
  .exact but b o (λz=>by rw[z,hx]at hb;cases hb) (up b o hb)
  .exact qo.upd gx' b o (gs b o hb)
  .by_cases z:b=x
   .subst z;rw[qe]at hb;cases hb;exact hp
   .rw[qd z]at hb;exact sub' b o hb
  .by_cases z:b=x
   .subst z;exact .inr hx
   .rw[qd z]at hb;rcases fr b o hb with q|q
    .exact .inl q
    .refine .inr ?_
     cases w:H b with
     |none=>rfl
     | some o'=>rw[up b o' w]at q;cases q
  .simp![ReR,Rep];exact{x,dx,C,xs,hC,rfl,qe,by rw[hl,aD],rp.same (qo.upd gx')}
end
end DE
namespace DG
open PySem PySem.Spec PyProof.Rows L2 DE
theorem jg{G G' H:Hp}{p:af}{o:L2.HO}(fr:Jh G G' H)(g:G p=none)(h:H p=some o):G' p=none:=by
 cases e:G' p with
 |none=>rfl
 | some o'=>
  rcases fr p o' e with ⟨o'',z⟩|z
  .rw[g]at z;cases z
  .rw[h]at z;cases z
def Jh.trans{G G1 G2 H H1:Hp}(a:Jh G G1 H)(s:qo H H1)(b:Jh G1 G2 H1):Jh G G2 H:=λx o h=>by
 rcases b x o h with ⟨o',z⟩|z
 .exact a x o' z
 .exact .inr (qo.none s z)
def Jh.transB{G G1 G2 H H1:Hp}{p:af}{o:L2.HO}(a:Jh G G1 H)(s:But p H H1)(hp:H1 p=some o)(b:Jh G1 G2 H1):Jh G G2 H:=λx o h=>by
 rcases b x o h with ⟨o',z⟩|z
 .exact a x o' z
 .refine .inr ?_;have nx:x≠p:=λq=>by rw[q,hp]at z;cases z
  cases w:H x with
  |none=>rfl
  | some o'=>rw[s x o' nx w]at z;cases z
def aA(b:Bool)(l:List D):Ar:=match b with
 |true=>.bor l
 |false=>.val (.lst l)
def qbU{a:Ar}{l:List D}(e:arL a=some l):∃b,a=aA b l:=by
 unfold arL at e
 split at e
 .cases e;exact⟨false,rfl⟩
 .cases e;exact⟨true,rfl⟩
 .cases e
def qdS{a:Ar}{n:Int}(e:arI a=some n):a=.val (.int n):=by
 unfold arI at e
 split at e
 .cases e;rfl
 .cases e
theorem qcK{U:KC}{K:Frag}{G H:Hp}{b:Bool}{l:List D}{v:V}(sub:qo G H)(h:ArR U K G H (aA b l) v):∃p xs,v=.ref p/\H p=some (.lst xs)/\qi U G l xs:=by
 cases b with
 |false=>simp![aA,ArR,Rep]at h;let(a,xs,e,h1,h2):=h;exact{a,xs,e,sub _ _ h1,h2}
 |true=>exact h
def qoF{U:KC}{K:Frag}{G H G' H':Hp}{b:Bool}{l:List D}{v:V}(h:ArR U K G H (aA b l) v)(gs:qo G G')(hs:qo H H'):ArR U K G' H' (aA b l) v:=h.low gs (λb o e y=>hs b o e) (λl'=>by cases b<;>(intro z;cases z))
def qbV{args:List Ar}{fs:List (Str×D)}(h:qdm args=some fs):∃b l m,args=[aA b l,.val (.int m)]/\qu l=true/\btw m 0 1000000000=true/\fs=([("lands",.tup l),("most",.int m)]:List (Str×D)):=by
 unfold qdm at h
 split at h
 .split at h
  .rename_i e1 e2
   split at h
   .rename_i hc;cases h;rw[aM]at hc;let(b,rfl):=qbU e1;cases qdS e2;exact{b,_,_,rfl,hc.1,hc.2,rfl}
   .cases h
  .cases h
 .cases h
def Ji{x:Str}{args:List Ar}{fs:List (Str×D)}(h:jO x args=some fs):∃b l m s,args=[aA b l,.val (.int m),.val (.int s)]/\qu l=true/\btw m 0 1000000000=true/\btw s 1 1000000000=true/\fs=([("lands",.tup l),("most",.int m),(x,.int s)]:List (Str×D)):=by
 unfold jO at h
 split at h
 .split at h
  .rename_i e1 e2 e3
   split at h
   .rename_i hc;cases h;rw[aM,aM]at hc;let(b,rfl):=qbU e1;cases qdS e2;cases qdS e3;exact{b,_,_,_,rfl,hc.1.1,hc.1.2,hc.2,rfl}
   .cases h
  .cases h
 .cases h
def qay{args:List Ar}{fs:List (Str×D)}(h:qer args=some fs):∃b l m,args=[aA b l,.val (.int m)]/\qu l=true/\btw m 0 1000000000=true/\fs=([("lands",.tup l),("most",.int m),("leave",.int 1)]:List (Str×D)):=by
 unfold qer at h
 split at h
 .split at h
  .rename_i e1 e2
   split at h
   .rename_i hc;cases h;rw[aM]at hc;let(b,rfl):=qbU e1;cases qdS e2;exact{b,_,_,rfl,hc.1,hc.2,rfl}
   .cases h
  .cases h
 .cases h
def Qw{args:List Ar}{fs:List (Str×D)}(h:QX args=some fs):∃b c l ps,args=[aA b l,aA c ps]/\(decide (l.length<=8)&&l.all qbn)=true/\(decide (ps.length<=12)&&ps.all (jz l.length))=true/\fs=([("kept_rules",.lst l),("kept_papers",.lst ps)]:List (Str×D)):=by
 unfold QX at h
 split at h
 .split at h
  .rename_i e1 e2
   split at h
   .rename_i hc;cases h;rw[aM]at hc;let(b,rfl):=qbU e1;let(c,rfl):=qbU e2;exact{b,c,_,_,rfl,hc.1,hc.2,rfl}
   .cases h
  .cases h
 .cases h
def qgI{b:Bool}{l:List D}{m:Int}(ol:qu l=true)(om:btw m 0 1000000000=true):qdm [aA b l,.val (.int m)]=some ([("lands",.tup l),("most",.int m)]:List (Str×D)):=by cases b<;>(show(if (qu l&&btw m 0 1000000000)=true then _ else none)=_;rw[if_pos (by rw[ol,om];rfl)])
def qgJ{x:Str}{b:Bool}{l:List D}{m s:Int}(ol:qu l=true)(om:btw m 0 1000000000=true)(os:btw s 1 1000000000=true):jO x [aA b l,.val (.int m),.val (.int s)]=some ([("lands",.tup l),("most",.int m),(x,.int s)]:List (Str×D)):=by cases b<;>(show(if (qu l&&btw m 0 1000000000&&btw s 1 1000000000)=true then _ else none)=_;rw[if_pos (by rw[ol,om,os];rfl)])
structure Tx(U:KC)(K:Frag)(mg:PR):Prop where
 tup:mg "tuple" = none
 lst:mg "list" = none
 len:mg "len" = none
 gG:∃t,mg "GREATEST" = some (.int 1000000000 t)
 cls:∀c C,U c=some C->Cls K C
 nA:∀c x C,(pcs {}).fld c x=true->U c=some C->qY K C x
structure Ck(pg:Pg)(j:Nat):Prop where
 lands:∀b l,qu l=true->clK pg j "are_lands" [aA b l]=.ok (.val (.bl true))
 rules:∀b l,(decide (l.length<=8)&&l.all qbn)=true->clK pg j "are_rules" [aA b l]=.ok (.val (.bl true))
 papers:∀b (ps:List D) (n:Int),(decide (ps.length<=12)&&ps.all (jz n))=true->clK pg j "check_papers" [aA b ps,.val (.int n)]=.ok (.val .non)
 btw:∀n a b,btw n a b=true->clK pg j "is_between" [.val (.int n),.val (.int a),.val (.int b)]=.ok (.val (.bl true))
def qdT{c:Str}(h:rk c=true):(pcs {}).fld c "lands" = true/\(pcs {}).fld c "most" = true:=by
 constructor
 .show((rk c&&(true||_||_||_))||_)=true;rw[h];rfl
 .show((rk c&&(false||true||_||_))||_)=true;rw[h];rfl
def okW(c:Str):Bool:=c == "Within"
def okS(c:Str):Bool:=c == "Since" || c == "InRow"
def okI(c:Str):Bool:=c == "InRow"
def okB(c:Str):Bool:=c == "Book"
def qoG{c:Str}(h:okW c=true):rk c=true:=by unfold okW at h;unfold rk;rw[h];rfl
def qoH{c:Str}(h:okS c=true):rk c=true:=by unfold okS at h;unfold rk;rw[Bool.or_assoc,h,Bool.or_true]
def qli{c:Str}(h:okI c=true):okS c=true:=by unfold okI at h;unfold okS;rw[h,Bool.or_true]
def qlj{c:Str}(h:okW c=true):(pcs {}).fld c "span" = true:=by
 have e:c = "Within":=by simpa [okW] using h
 subst e;decide
def qiC{c:Str}(h:okS c=true):(pcs {}).fld c "leave" = true:=by
 have e:c = "Since"\/c = "InRow":=by simpa [okS] using h
 rcases e with e|e<;>subst e<;>decide
def qgK{c:Str}(h:okB c=true):(pcs {}).fld c "kept_rules" = true/\(pcs {}).fld c "kept_papers" = true:=by
 have e:c = "Book":=by simpa [okB] using h
 subst e;decide
end DG
namespace K65
open PySem PySem.Spec PyProof.Rows L2 DE DG
section
variable{P:aJ}{wd:aC}{U:KC}{K:Frag}{mg:PR}{base:aw}{j:Nat}{f:af}{fd:bV}
def qlk:FnScope ["self","lands","most"] ["self","lands","most"] (qh (mem 25 0)):={rfl,rfl,rfl,(3:),rfl,(3:),(3:)}
def qiD(tx:Tx U K mg)(F:Fun K "__init__" "Rule.__init__" (mem 25 0) f fd)(at_:qaC P wd U K mg base pg j)(ck:Ck pg j):FnOk P wd K mg base CX0 (j+1) f fd ["self","lands","most"] (qez U K rk qdm):=by
 let(fA,dA,FA,mA,kA,bA):=qaC.q at_ "are_lands" (top 24) (4:);let(fB,dB,FB,mB,kB,bB):=qaC.q at_ "is_between" (top 6) (4:);let(t1,g1):=tx.gG;refine F.ok qlk (λvs H Q E h=>?_) (λcdv A outer s H vs Q E hr h=>?_)
 .refine h _ λG c C p dx us args fs e y y y y y ha hg y=>?_;subst e;let(b,l,m,rfl,_):=qbV hg
  have:=ha.len
  simp at this;simp[<-this]
 .refine h _ λG c C p dx us args fs e hrk hC hp gp sub ha hg k1=>?_;subst e;let(b,l,m,rfl,ol,om,rfl):=qbV hg;simp![Yq]at ha;let(v1,us1,rfl,r1,v2,us2,rfl,r2,rfl):=ha;simp![ArR,Rep]at r2;subst r2;let(a,xs,rfl,hxa,rl):=qcK sub r1
  refine{_,zm (qeK (qaG (qcO (Jl FA hr (by rfl) mA kA bA .nil qb7 (qk (pv 1) qD)))) (jK Yd) Yy)
   (zm (qeK (qaG (qcO (Jl FB hr (by rfl) mB kB bB .nil qb7 (qk (pv 2) (qk QJ (qk (Zq (v:=.int 1000000000) (by rfl) g1 {_,rfl}) qD)))))) (jK Yd) Yy)
   (zm (qaK (pv 0) (zr Zu (by rfl) tx.tup mT (qk (pv 1) qD)) rfl)
   (jK (qaK (pv 0) (pv 2) rfl)))),?_}
  refine{_,rfl,qbT (E:=E0) (G:=G) (args:=[aA b l]) sub {_,_,rfl,r1,rfl} (ck.lands b l ol) λv G1 H1 hs1 gs1 sub1 fr1 rr=>?_};simp![ReR,Rep]at rr;subst rr;refine{_,rfl,?_};refine{_,rfl,qbT (E:=E0) (G:=G1) (args:=[.val (.int m),.val (.int 0),.val (.int 1000000000)]) sub1 {_,_,rfl,by simp![ArR,Rep],_,_,rfl,by simp![ArR,Rep],_,_,rfl,by simp![ArR,Rep],rfl} (ck.btw m 0 1000000000 om) λv G2 H2 hs2 gs2 sub2 fr2 rr=>?_};simp![ReR,Rep]at rr;subst rr;refine{_,rfl,?_};have hp2:H2 p=some (.ins C dx []):=hs2 _ _ (hs1 _ _ hp);have ga2:H2 a=some (.lst xs):=hs2 _ _ (hs1 _ _ hxa);have gp1:G1 p=none:=jg fr1 gp hp;have gp2:G2 p=none:=jg fr2 gp1 (hs1 _ _ hp);refine{_,rfl,a,xs,rfl,.inl {SqL.of ga2,λt ht=>?_}};have ntp:t≠p:=λz=>by rw[z,hp2]at ht;cases ht
  have gt:G2 t=none:=qo.none sub2 ht;refine{_,rfl,p,C,dx,_,rfl,by rw[qd ntp.symm];exact hp2,tx.cls c C hC,tx.nA c _ C (qdT hrk).1 hC,by decide,?_};refine{_,rfl,_,rfl,p,C,dx,_,rfl,qe,tx.cls c C hC,tx.nA c _ C (qdT hrk).2 hC,(by show 1 < 1000;decide),?_};refine k1 (upd G2 t (.tup xs)) _ [.ref t,.int m] ?_ ?_ ?_ ?_ ?_ ?_ rfl ?_
  .exactλb o e=>qo.upd gt b o (gs2 b o (gs1 b o e))
  .intro b o e
   by_cases z:b=t
   .subst z;rw[qe]at e;cases e;rw[qd ntp,qd ntp,qe]
   .rw[qd z]at e;have nb:b≠p:=λq=>by rw[q,gp2]at e;cases e
    rw[qd nb,qd nb,qd z];exact sub2 b o e
  .rw[qd ntp.symm];exact gp2
  .intro b o nb e;have e2:=hs2 b o (hs1 b o e);have nt:b≠t:=λq=>by rw[q,ht]at e2;cases e2
   rw[qd nb,qd nb,qd nt];exact e2
  .intro b o e
   by_cases z:b=t
   .subst z;exact .inr (qo.none hs1 (qo.none hs2 ht))
   .rw[qd z]at e;exact(Jh.trans fr1 hs1 fr2) b o e
  .rw[qe];rfl
  .simp![au,aH,qi,Rep];exact{_,_,rfl,{t,xs,rfl,qe,(rl.same gs1 |>.same gs2).same (qo.upd gt)},_,_,rfl,rfl,rfl}
def qgL:FnScope ["self","lands","most","span"] ["self","lands","most","span"] (qh (mem 26 0)):={rfl,rfl,rfl,(3:),rfl,(3:),(3:)}
def qiE:FnScope ["self","lands","most","leave"] ["self","lands","most","leave"] (qh (mem 27 0)):={rfl,rfl,rfl,(3:),rfl,(3:),(3:)}
def qaz{fR cR:af}{dR:bV}(tx:Tx U K mg)(FR:Fun K "__init__" "Rule.__init__" (mem 25 0) fR dR)(bR:zn K dR ["self","lands","most"] [])(mR:mg "Rule" = some (.ref cR))(cf:ClsFn K cR "__init__" fR)
  (at0:qaC P wd U K mg base pg j) (at1:qaC P wd U K mg base pg (j+1)) (ck0:Ck pg j) (ck1:Ck pg (j+1)):(Fun K "__init__" "Within.__init__" (mem 26 0) f fd->FnOk P wd K mg base CX0 (j+2) f fd ["self","lands","most","span"] (qez U K okW (jO "span")))/\(Fun K "__init__" "Since.__init__" (mem 27 0) f fd->FnOk P wd K mg base CX0 (j+2) f fd ["self","lands","most","leave"] (qez U K okS (jO "leave"))):=by
 constructor<;>(
  intro F;let(fB,dB,FB,mB,kB,bB):=qaC.q at1 "is_between" (top 6) (4:);let(t1,g1):=tx.gG;refine F.ok (by first|exact qgL |exact qiE) (λvs H Q E h=>?_) (λcdv A outer s H vs Q E hr h=>?_)
  .refine h _ λG c C p dx us args fs e y y y y y ha hg y=>?_;subst e;let(b,l,m,z,rfl,_):=Ji hg
   have:=ha.len
   simp at this;simp[<-this]
  .refine h _ λG c C p dx us args fs e hrk hC hp gp sub ha hg k1=>?_;subst e;let(b,l,m,z,rfl,ol,om,oz,rfl):=Ji hg;simp![Yq]at ha;let(v1,us1,rfl,r1,v2,us2,rfl,r2,v3,us3,rfl,r3,rfl):=ha;simp![ArR,Rep]at r2 r3;subst r2 r3
   refine{_,zm (Yz (qc0 cf (qiD tx FR at0 ck0) hr (by rfl) mR bR .nil qb7 (qk (pv 0) (qk (pv 1) (qk (pv 2) qD)))))
    (zm (qeK (qaG (qcO (Jl FB hr (by rfl) mB kB bB .nil qb7 (qk (pv 3) (qk QJ (qk (Zq (v:=.int 1000000000) (by rfl) g1 {_,rfl}) qD)))))) (jK Yd) Yy)
    (jK (qaK (pv 0) (pv 3) rfl))),?_}
   refine{_,rfl,_,rfl,_,rfl,λy k=>k G c C p dx [v1,.int m] [aA b l,.val (.int m)] _ rfl (by first|exact qoG hrk|exact qoH hrk) hC hp gp sub {_,_,rfl,r1,_,_,rfl,by simp![ArR,Rep],rfl} (qgI ol om) λG1 H1 xs gs1 sub1 gp1 but1 fr1 hp1 hl1 rp1=>?_};simp![au,aH,qi]at rp1;let(x1,w1,rfl,q1,x2,w2,rfl,q2,rfl):=rp1;refine{_,rfl,qbT (E:=E0) (G:=G1) (args:=[.val (.int z),.val (.int 1),.val (.int 1000000000)]) sub1 {_,_,rfl,by simp![ArR,Rep],_,_,rfl,by simp![ArR,Rep],_,_,rfl,by simp![ArR,Rep],rfl} (ck1.btw z 1 1000000000 oz) λv G2 H2 hs2 gs2 sub2 fr2 rr=>?_};simp![ReR,Rep]at rr;subst rr;refine{_,rfl,?_};have hp2:=hs2 _ _ hp1;have gp2:G2 p=none:=jg fr2 gp1 hp1;refine{_,rfl,_,rfl,p,C,dx,_,rfl,hp2,tx.cls c C hC,tx.nA c _ C (by first|exact qlj hrk|exact qiC hrk) hC,(by show 2 < 1000;decide),?_};refine k1 G2 _ [x1,x2,.int z] (λb o e=>gs2 b o (gs1 b o e)) (λb o e=>?_) gp2 (λb o nb e=>?_) (λb o e=>?_) ?_ rfl ?_
   .rw[qd (λq=>by rw[q,gp2]at e;cases e)];exact sub2 b o e
   .rw[qd nb];exact hs2 b o (but1 b o nb e)
   .exact(Jh.transB fr1 but1 hp1 fr2) b o e
   .rw[qe];rfl
   .simp![au,aH,qi];exact{_,_,rfl,q1.same gs2,_,_,rfl,q2.same gs2,_,_,rfl,by simp![Rep],rfl})
def qiF:FnScope ["self","lands","most"] ["self","lands","most"] (qh (mem 28 0)):={rfl,rfl,rfl,(3:),rfl,(3:),(3:)}
def qgM{fR cR fS cS:af}{dR dS:bV}(tx:Tx U K mg)(F:Fun K "__init__" "InRow.__init__" (mem 28 0) f fd)(FS:Fun K "__init__" "Since.__init__" (mem 27 0) fS dS)(bS:zn K dS ["self","lands","most","leave"] [])(mS:mg "Since" = some (.ref cS))(cfS:ClsFn K cS "__init__" fS)
  (FR:Fun K "__init__" "Rule.__init__" (mem 25 0) fR dR) (bR:zn K dR ["self","lands","most"] []) (mR:mg "Rule" = some (.ref cR)) (cf:ClsFn K cR "__init__" fR)
  (at0:qaC P wd U K mg base pg j) (at1:qaC P wd U K mg base pg (j+1)) (ck0:Ck pg j) (ck1:Ck pg (j+1)):FnOk P wd K mg base CX0 (j+3) f fd ["self","lands","most"] (qez U K okI qer):=by
 refine F.ok qiF (λvs H Q E h=>?_) (λcdv A outer s H vs Q E hr h=>?_)
 .refine h _ λG c C p dx us args fs e z z z z z ha hg z=>?_;subst e;let(b,l,m,rfl,_):=qay hg
  have:=ha.len
  simp at this;simp[<-this]
 .refine h _ λG c C p dx us args fs e hrk hC hp gp sub ha hg k1=>?_;subst e;let(b,l,m,rfl,ol,om,rfl):=qay hg;simp![Yq]at ha;let(v1,us1,rfl,r1,v2,us2,rfl,r2,rfl):=ha;simp![ArR,Rep]at r2;subst r2;refine{_,jK (Yz (qc0 cfS ((qaz tx FR bR mR cf at0 at1 ck0 ck1).2 FS) hr (by rfl) mS bS .nil qb7 (qk (pv 0) (qk (pv 1) (qk (pv 2) (qk QJ qD)))))),?_}
  exact{_,rfl,_,rfl,_,rfl,λz k=>k G c C p dx [v1,.int m,.int 1] [aA b l,.val (.int m),.val (.int 1)] _ rfl (qli hrk) hC hp gp sub {_,_,rfl,r1,_,_,rfl,by simp![ArR,Rep],_,_,rfl,by simp![ArR,Rep],rfl}
   (qgJ ol om (2:)) k1}
def qll:FnScope ["self","rules","papers"] ["self","rules","papers"] (qh (mem 52 0)):={rfl,rfl,rfl,(3:),rfl,(3:),(3:)}
def qiG(tx:Tx U K mg)(F:Fun K "__init__" "Book.__init__" (mem 52 0) f fd)(at_:qaC P wd U K mg base pg j)(ck:Ck pg j):FnOk P wd K mg base CX0 (j+1) f fd ["self","rules","papers"] (qez U K okB QX):=by
 let(fA,dA,FA,mA,kA,bA):=qaC.q at_ "are_rules" (top 49) (4:);let(fB,dB,FB,mB,kB,bB):=qaC.q at_ "check_papers" (top 51) (4:);refine F.ok qll (λvs H Q E h=>?_) (λcdv A outer s H vs Q E hr h=>?_)
 .refine h _ λG c C p dx us args fs e y y y y y ha hg y=>?_;subst e;let(b0,c0,l,ps,rfl,_):=Qw hg
  have:=ha.len
  simp at this;simp[<-this]
 .refine h _ λG c C p dx us args fs e hrk hC hp gp sub ha hg k1=>?_;subst e;let(b0,c0,l,ps,rfl,ol,op,rfl):=Qw hg;simp![Yq]at ha;let(v1,us1,rfl,r1,v2,us2,rfl,r2,rfl):=ha;let(a,xs,rfl,hxa,rl):=qcK sub r1;let(b,ys,rfl,hb,rp):=qcK sub r2
  refine{_,zm (qeK (qaG (qcO (Jl FA hr (by rfl) mA kA bA .nil qb7 (qk (pv 1) qD)))) (jK Yd) Yy)
   (zm (Yz (Jl FB hr (by rfl) mB kB bB .nil qb7 (qk (pv 2) (qk (zo JB (by rfl) tx.len PySem.boot_len (qk (pv 1) qD)) qD))))
   (zm (qaK (pv 0) (zr jL (by rfl) tx.lst ip (qk (pv 1) qD)) rfl)
   (jK (qaK (pv 0) (zr jL (by rfl) tx.lst ip (qk (pv 2) qD)) rfl)))),?_}
  refine{_,rfl,qbT (E:=E0) (G:=G) (args:=[aA b0 l]) sub {_,_,rfl,r1,rfl} (ck.rules b0 l ol) λv G1 H1 hs1 gs1 sub1 fr1 rr=>?_};simp![ReR,Rep]at rr;subst rr;refine{_,rfl,?_};have ga1:H1 a=some (.lst xs):=hs1 _ _ hxa;refine{_,rfl,_,rfl,a,xs,rfl,.inl (SqL.of ga1),?_};refine qbT (E:=E0) (G:=G1) (args:=[aA c0 ps,.val (.int l.length)]) sub1 ⟨_,_,rfl,qoF r2 gs1 hs1,_,_,rfl,by simp![ArR,Rep];rw[rl.len],rfl⟩ (ck.papers c0 ps l.length op) λv G2 H2 hs2 gs2 sub2 fr2 rr=>?_;have hp2:H2 p=some (.ins C dx []):=hs2 _ _ (hs1 _ _ hp);have gp1:G1 p=none:=jg fr1 gp hp;have gp2:G2 p=none:=jg fr2 gp1 (hs1 _ _ hp);have ga2:H2 a=some (.lst xs):=hs2 _ _ ga1;have hb2:H2 b=some (.lst ys):=hs2 _ _ (hs1 _ _ hb);refine{_,rfl,a,xs,rfl,.inl (SqL.of ga2),λt ht=>?_};have ntp:t≠p:=λz=>by rw[z,hp2]at ht;cases ht
  have gt:G2 t=none:=qo.none sub2 ht;refine{_,rfl,p,C,dx,_,rfl,by rw[qd ntp.symm];exact hp2,tx.cls c C hC,tx.nA c _ C (qgK hrk).1 hC,by decide,?_};have nbt:b≠t:=λz=>by rw[z,ht]at hb2;cases hb2
  have nbp:b≠p:=λz=>by rw[z,hp2]at hb2;cases hb2
  refine{_,rfl,b,ys,rfl,.inl (SqL.of (by rw[qd nbp,qd nbt];exact hb2)),λu hu=>?_};have nup:u≠p:=λz=>by rw[z,qe]at hu;cases hu
  have nut:u≠t:=λz=>by rw[z,qd ntp,qe]at hu;cases hu
  have hu2:H2 u=none:=by rw[qd nup,qd nut]at hu;exact hu
  have gu:G2 u=none:=qo.none sub2 hu2;refine{_,rfl,p,C,dx,_,rfl,by rw[qd nup.symm,qe],tx.cls c C hC,tx.nA c _ C (qgK hrk).2 hC,(by show 1 < 1000;decide),?_};have gut:upd G2 t (.lst xs) u=none:=by rw[qd nut];exact gu
  refine k1 (upd (upd G2 t (.lst xs)) u (.lst ys)) _ [.ref t,.ref u] ?_ ?_ ?_ ?_ ?_ ?_ rfl ?_
  .exactλb o e=>qo.upd gut b o (qo.upd gt b o (gs2 b o (gs1 b o e)))
  .intro q o e
   by_cases z:q=u
   .subst z;rw[qe]at e;cases e;rw[qd nup,qe]
   .rw[qd z]at e
    by_cases z2:q=t
    .subst z2;rw[qe]at e;cases e;rw[qd ntp,qd z,qd ntp,qe]
    .rw[qd z2]at e;have nq:q≠p:=λw=>by rw[w,gp2]at e;cases e
     rw[qd nq,qd z,qd nq,qd z2];exact sub2 q o e
  .rw[qd nup.symm,qd ntp.symm];exact gp2
  .intro q o nq e;have e2:=hs2 q o (hs1 q o e);have n1:q≠t:=λw=>by rw[w,ht]at e2;cases e2
   have n2:q≠u:=λw=>by rw[w,hu2]at e2;cases e2
   rw[qd nq,qd n2,qd nq,qd n1];exact e2
  .intro q o e
   by_cases z:q=u
   .subst z;exact .inr (qo.none hs1 (qo.none hs2 hu2))
   .rw[qd z]at e
    by_cases z2:q=t
    .subst z2;exact .inr (qo.none hs1 (qo.none hs2 ht))
    .rw[qd z2]at e;exact(Jh.trans fr1 hs1 fr2) q o e
  .rw[qe];rfl
  .simp![au,aH,qi,Rep];exact{_,_,rfl,{t,xs,rfl,by rw[qd nut.symm];exact qe,((rl.same gs1 |>.same gs2).same (qo.upd gt)).same (qo.upd gut)},_,_,rfl,{u,ys,rfl,qe,((rp.same gs1 |>.same gs2).same (qo.upd gt)).same (qo.upd gut)},rfl}
end
open PySem.W HD
abbrev HP:aJ:=PySem.Challenge.rw_daysgate_k65_whole_just_these_days.row.toRowW.prog
def Hq:aJ:=view HP [0,2,3,4,5,6,7,8,9,11,12,13,14,16,17,18,19,21,22,23,24,25,26,27,28,30,31,32,34,35,36,37,38,39,40,42,43,44,45,47,48,49,50,51,52,54,55,56,57,58,59,60,61,62,63,64,65,66,67,68]
def Hx(s:ah):Bool:=xlAt Hq [] s&&recOk (RowW.records PySem.Challenge.rw_daysgate_k65_whole_just_these_days.row.toRowW) s
def Has:List af:=[2,3,27,28,34,35,41,42,48,49,55,56,62,63,69,70,76,77,83,84,153,154,160,161,174,175,181,182,184,185,202,203,212,213,228,229,238,239,254,255,264,265,273,274,280,281,285,286,292,293,299,300,306,307,313,314,320,321,327,328,334,335,341,342,348,349,355,356,362,363,369,370,376,377,390,391,397,398,404,405,409,410,412,413,423,424,430,431,437,438,444,445,451,452,458,459,465,466,472,473,477,478,484,485,491,492,498,499,503,504,508,509,513,514]
def t0(i:Nat):=fB (top i) "daysgate.checks" 194
def t1(i:Nat):=fB (top i) "daysgate.days" 242
def t2(i:Nat):=fB (top i) "daysgate.rules" 373
def m2(i j:Nat):=fM (mem i j) "daysgate.rules" 373
def k2(w:String)(P:cQ):=kC P "daysgate.rules" 373 w
def t3(i:Nat):=fB (top i) "daysgate.stays" 536
def t4(i:Nat):=fB (top i) "daysgate.sums" 557
def t5(i:Nat):=fB (top i) "daysgate.diary" 631
def t6(i:Nat):=fB (top i) "daysgate.books" 686
def m6(i j:Nat):=fM (mem i j) "daysgate.books" 686
def k6(w:String)(P:cQ):=kC P "daysgate.books" 686 w
def t7(i:Nat):=fB (top i) "law_daysgate_k65_whole_just_these_days" 769
def HK(P:cQ):Frag:=by
 refine(?f:∀K,K=(co (nat_lit 2) ⟨.none,none,.dict #[] 0,#[]⟩ <| co (nat_lit 3) ⟨.type "dict",none,.dict ⟨List.cons (dE P "__name__" 165 (.str "law_daysgate_k65_whole_just_these_days" 769)) <| List.cons (dE P "__doc__" 166 .none) <| List.cons (dE P "__package__" 167 .none) <| List.cons (dE P "__loader__" 168 (.builtin "__main__.__loader__#opaque")) <| List.cons (dE P "__spec__" 169 .none) <| dRs P [("__annotations__",170,6),("__builtins__",171,4)] <| List.cons (dE P "__file__" 173 (.str "/claim/cut.py" 172)) <| List.cons (dE P "__cached__" 174 .none) <| dRs P [("_wall",193,21)] <| List.cons (dE P "GREATEST" 197 (.int (1000000000) 196)) <| List.cons (dE P "LETTERS" 199 (.str "abcdefghijklmnopqrstuvwxyz" 198)) <| List.cons (dE P "LONGEST_NAME" 201 (.int (8) 200)) <| dRs P [("is_whole",208,28),("is_between",217,35),("are_days",225,42),("is_made_of",234,49),("is_name",241,56),("spread",253,63),("both",266,70),("outside",278,77),("less",286,84),("DayError",306,94),("NoRule",322,107),("NoPaper",347,126),("NoStay",372,145)] <| List.cons (dE P "MOST_LANDS" 376 (.int (6) 375)) <| List.cons (dE P "GREATEST_WEIGHT" 378 (.int (9) 377)) <| dRs P [("is_land",385,154),("are_lands",394,161),("Rule",435,185),("Within",469,213),("Since",503,239),("InRow",535,265)] <| List.cons (dE P "MOST_STAYS" 539 (.int (60) 538)) <| dRs P [("is_stay",546,274),("stays_of",556,281),("pieces_among",564,286),("pieces_of",573,293),("sum_of",587,300),("first_since",600,307),("first_of_window",609,314),("count_among",618,321),("turns_of",630,328),("edges_of",644,335),("difference",654,342),("unlike_days",668,349),("changed_days",685,356)] <| List.cons (dE P "MOST_RULES" 689 (.int (8) 688)) <| List.cons (dE P "MOST_PAPERS" 691 (.int (12) 690)) <| dRs P [("are_rules",699,363),("is_paper",707,370),("check_papers",717,377),("Book",768,413),("_law_cell_at",778,424),("_law_lands",794,431),("_law_rule",805,438),("_law_made",815,445),("_law_long",822,452),("_law_stays",836,459),("_law_paper",846,466),("_law_bent",859,473),("_law_pieces",865,478),("_law_rises",884,485),("_law_bends",899,492),("_law_on",913,499),("_law_parts",919,504),("_law_due",925,509),("law",931,514)] <| []⟩ 69,#[]⟩ <| t0 5 (27:) (28:) "is_whole" 202 8 1 206 <| t0 6 (34:) (35:) "is_between" 209 10 3 215 <| t0 7 (41:) (42:) "are_days" 218 12 2 223 <| t0 8 (48:) (49:) "is_made_of" 226 14 2 232 <| t0 9 (55:) (56:) "is_name" 235 19 1 239 <| t1 11 (62:) (63:) "spread" 244 24 1 251 <| t1 12 (69:) (70:) "both" 254 32 2 264 <| t1 13 (76:) (77:) "outside" 267 46 3 276 <| t1 14 (83:) (84:) "less" 279 56 2 284 <| t2 23 (153:) (154:) "is_land" 379 78 1 383 <| t2 24 (160:) (161:) "are_lands" 386 82 1 392 <| m2 25 0 (174:) (175:) "__init__" "Rule.__init__" 407 93 3 413 <| m2 25 1 (181:) (182:) "weight" "Rule.weight" 416 101 2 423 <| k2 "object.__new__" P (184:) (185:) "Rule" 395 91 4 [("__init__",415,175),("weight",425,182),("__static_attributes__",428,183),("__dict__",430,186),("__weakref__",432,187)] 433 (.type "object") [(.type "object")] [(.ref 213),(.ref 239)] (none) <| m2 26 0 (202:) (203:) "__init__" "Within.__init__" 448 108 4 455 <| k2 "object.__new__" P (212:) (213:) "Within" 436 106 2 [("__init__",457,203),("line",464,210),("__static_attributes__",466,211)] 467 (.ref 185) [(.ref 185),(.type "object")] [] (some (.ref 190)) <| m2 27 0 (228:) (229:) "__init__" "Since.__init__" 482 118 4 489 <| k2 "object.__new__" P (238:) (239:) "Since" 470 116 2 [("__init__",491,229),("line",498,236),("__static_attributes__",500,237)] 501 (.ref 185) [(.ref 185),(.type "object")] [(.ref 265)] (some (.ref 216)) <| m2 28 0 (254:) (255:) "__init__" "InRow.__init__" 516 128 3 522 <| k2 "object.__new__" P (264:) (265:) "InRow" 504 126 2 [("__init__",524,255),("line",531,262),("__static_attributes__",532,263)] 533 (.ref 239) [(.ref 239),(.ref 185),(.type "object")] [] (some (.ref 242)) <| t3 31 (273:) (274:) "is_stay" 540 135 1 544 <| t3 32 (280:) (281:) "stays_of" 547 139 1 554 <| co (285:) (oC "pieces_among" 559 "pieces_among" 560 561 151 3 282 283 .none .none 284 562 563) <| co (286:) (oG (top 34) "pieces_among" "daysgate.sums" 557 285) <| t4 35 (292:) (293:) "pieces_of" 565 160 3 571 <| t4 36 (299:) (300:) "sum_of" 574 162 3 585 <| t4 37 (306:) (307:) "first_since" 588 169 3 598 <| t4 38 (313:) (314:) "first_of_window" 601 177 3 607 <| t4 39 (320:) (321:) "count_among" 610 181 3 616 <| t4 40 (327:) (328:) "turns_of" 619 183 2 628 <| t5 42 (334:) (335:) "edges_of" 633 191 2 642 <| t5 43 (341:) (342:) "difference" 645 199 4 652 <| t5 44 (348:) (349:) "unlike_days" 655 201 5 666 <| t5 45 (355:) (356:) "changed_days" 669 210 4 683 <| t6 49 (362:) (363:) "are_rules" 692 222 1 697 <| t6 50 (369:) (370:) "is_paper" 700 229 2 705 <| t6 51 (376:) (377:) "check_papers" 708 233 2 715 <| m6 52 0 (390:) (391:) "__init__" "Book.__init__" 730 243 3 736 <| m6 52 1 (397:) (398:) "rules" "Book.rules" 739 250 1 743 <| m6 52 2 (404:) (405:) "papers" "Book.papers" 746 253 1 750 <| co (409:) (oC "lifted" 753 "Book.lifted" 754 755 256 2 406 407 .none .none 408 756 757) <| co (410:) (oFn none (mem 52 3) "lifted" "Book.lifted" .none .none .none (.str "daysgate.books" 686) none (.ref 409) .none) <| k6 "object.__new__" P (412:) (413:) "Book" 718 241 4 [("__init__",738,391),("rules",745,398),("papers",752,405),("lifted",758,410),("__static_attributes__",761,411),("__dict__",763,414),("__weakref__",765,415)] 766 (.type "object") [(.type "object")] [] (none) <| t7 54 (423:) (424:) "_law_cell_at" 771 259 2 776 <| t7 55 (430:) (431:) "_law_lands" 779 263 2 792 <| t7 56 (437:) (438:) "_law_rule" 795 275 2 803 <| t7 57 (444:) (445:) "_law_made" 806 282 1 813 <| t7 58 (451:) (452:) "_law_long" 816 289 1 820 <| t7 59 (458:) (459:) "_law_stays" 823 293 2 834 <| t7 60 (465:) (466:) "_law_paper" 837 304 2 844 <| t7 61 (472:) (473:) "_law_bent" 847 308 2 857 <| co (477:) (oC "_law_pieces" 860 "_law_pieces" 861 862 319 4 474 475 .none .none 476 863 864) <| co (478:) (oG (top 62) "_law_pieces" "law_daysgate_k65_whole_just_these_days" 769 477) <| t7 63 (484:) (485:) "_law_rises" 866 332 2 882 <| t7 64 (491:) (492:) "_law_bends" 885 348 2 897 <| t7 65 (498:) (499:) "_law_on" 900 363 2 911 <| co (503:) (oC "_law_parts" 914 "_law_parts" 915 916 375 4 500 501 .none .none 502 917 918) <| co (504:) (oG (top 66) "_law_parts" "law_daysgate_k65_whole_just_these_days" 769 503) <| co (508:) (oC "_law_due" 920 "_law_due" 921 922 382 2 505 506 .none .none 507 923 924) <| co (509:) (oG (top 67) "_law_due" "law_daysgate_k65_whole_just_these_days" 769 508) <| co (513:) (oC "law" 926 "law" 927 928 394 1 510 511 .none .none 512 929 930) <| co (514:) (oG (top 68) "law" "law_daysgate_k65_whole_just_these_days" 769 513) <| [])->Frag) ?_ ?h
 case f=>exactλK z=>K
 case h=>delta t0 t1 t2 m2 k2 t3 t4 t5 t6 m6 k6 t7 co fB fM kC;rfl
def HKe(P:cQ):Has=(HK P).map (·.1):=(4:)
def qoI(p q:aJ)(rc:ah->Bool)(w:aC)(H0:aw)(s0:gk):=(YI gY p w 11 (some (.ref 6)) 8388 s0 (topStub p)).map (λs=>qjU p q [] (λs=>xlAt q [] s&&rc s) (λs=>Has.map s.heap.get?) true H0 s.abs)
def Hlk(w:aC)(H0:aw)(s0:gk):=qoI HP Hq (recOk (RowW.records PySem.Challenge.rw_daysgate_k65_whole_just_these_days.row.toRowW)) w H0 s0
def qoJ(q:aJ):=openGood q []
def Hgd:=qoJ Hq
def qgN:qoI=qoI:=rfl
def qgO:qoJ=qoJ:=rfl
end K65
lay_quick K65.qoI K65.qoJ
name_quick hlkQ for K65.qoI by K65.qgN
name_quick hgdQ for K65.qoJ by K65.qgO
namespace K65
open PySem PySem.W HD DG
def qoK(w:aC)(os:OsState):Hlk w (b7 w.params) (qjT w.params os)=some (true,Hgd,(HK w.params).map λp=>some p.2):=by
 unfold Hlk Hgd;rw[PySem.W.Fast.hlkQ_eq,PySem.W.Fast.hgdQ_eq]
 kernel_rfl
def qqn:LeftO HP Hq [] Hx (λs=>Has.map s.heap.get?) (λw=>(HK w.params).map λp=>some p.2) 8388 true:=
 qjV (boot_open (4:) (2:) (λz=>(4:))) qe4 qoK
end K65
namespace DG
open PySem PySem.Spec PyProof.Rows L2 DE
def qlm(b:Bool)(l:List D):aA b l=aL b l:=by cases b<;>rfl
def qcL{pg:Pg}[CH pg][RU pg][BO pg](j:Nat):Ck pg (j+5) where
 lands:=λb l h=>by rw[qlm];exact qct (j+1) b l h
 rules:=λb l h=>by rw[qlm];exact qcu (j+4) b l h
 papers:=λb ps n h=>by rw[qlm];exact QE j b ps n h
 btw:=λn a b h=>qn8 (j+3) n a b h
def kap(cW cS cI cB:af):KC:=λc=>if c = "Within" then some cW else if c = "Since" then some cS else if c = "InRow" then some cI else if c = "Book" then some cB else none
def qoL{cW cS cI cB C:af}{c:Str}(h:kap cW cS cI cB c=some C):(c = "Within"/\C=cW)\/(c = "Since"/\C=cS)\/(c = "InRow"/\C=cI)\/(c = "Book"/\C=cB):=by
 unfold kap at h
 split at h
 .cases h;exact .inl ⟨‹_›,rfl⟩
 split at h
 .cases h;exact .inr (.inl ⟨‹_›,rfl⟩)
 split at h
 .cases h;exact .inr (.inr (.inl ⟨‹_›,rfl⟩))
 split at h
 .cases h;exact .inr (.inr (.inr ⟨‹_›,rfl⟩))
 cases h
def qeA{c:Str}(h:rk c=true):c = "Within"\/c = "Since"\/c = "InRow":=by
 unfold rk at h
 simpa [or_assoc] using h
def qoM{c x:Str}(h:(pcs {}).fld c x=true):(rk c=true/\(x = "lands"\/x = "most"))\/(c = "Within"/\x = "span")\/((c = "Since"\/c = "InRow")/\x = "leave")\/(c = "Book"/\(x = "kept_rules"\/x = "kept_papers")):=by
 have h:((rk c&&(x == "lands" || x == "most" || (x == "span" && c == "Within")||(x == "leave" && c != "Within")))||(c == "Book" && (x == "kept_rules" || x == "kept_papers")))=true:=h;simp![eg,aM,beq_iff_eq,bne_iff_ne]at h;rcases h with ⟨h1,((h2|h2)|h2)|h2⟩|h2
 .exact .inl ⟨h1,.inl h2⟩
 .exact .inl ⟨h1,.inr h2⟩
 .exact .inr (.inl ⟨h2.2,h2.1⟩)
 .refine .inr (.inr (.inl ⟨?_,h2.1⟩));rcases qeA h1 with q|q
  .exact absurd q h2.2
  .exact q
 .exact .inr (.inr (.inr h2))
def qqo{c x f:Str}(h:(pcs {}).mt c x=some f):(rk c=true/\x = "weight"/\f = "Rule.weight")\/(c = "Book"/\x = "rules"/\f = "Book.rules")\/(c = "Book"/\x = "lifted"/\f = "Book.lifted")\/(c = "Book"/\x = "papers"/\f = "Book.papers"):=by
 have h:(if (rk c&&x == "weight")=true then some ("Rule.weight" : Str) else if (c == "Book" && x == "rules")=true then some ("Book.rules" : Str) else if (c == "Book" && x == "lifted")=true then some ("Book.lifted" : Str) else if (c == "Book" && x == "papers")=true then some ("Book.papers" : Str) else none)=some f:=h
 split at h
 .rename_i q;simp![aM,beq_iff_eq]at q;cases h;exact .inl ⟨q.1,q.2,rfl⟩
 split at h
 .rename_i q;simp![aM,beq_iff_eq]at q;cases h;exact .inr (.inl ⟨q.1,q.2,rfl⟩)
 split at h
 .rename_i q;simp![aM,beq_iff_eq]at q;cases h;exact .inr (.inr (.inl ⟨q.1,q.2,rfl⟩))
 split at h
 .rename_i q;simp![aM,beq_iff_eq]at q;cases h;exact .inr (.inr (.inr ⟨q.1,q.2,rfl⟩))
 cases h
def qoN{c t:Str}{b:Bool}(h:(pcs {}).sub c t=some b):rk c=true/\((t = "Within"/\b=(c == "Within"))\/(t = "Since"/\b=(c != "Within"))):=by
 have h:(if (rk c&&t == "Within")=true then some (c == "Within") else if (rk c&&t == "Since")=true then some (c != "Within") else none)=some b:=h
 split at h
 .rename_i q;simp![aM,beq_iff_eq]at q;cases h;exact{q.1,.inl ⟨q.2,rfl⟩}
 split at h
 .rename_i q;simp![aM,beq_iff_eq]at q;cases h;exact{q.1,.inr ⟨q.2,rfl⟩}
 cases h
theorem qaA{c:Str}{o:Option (List (Str×D))}{r:Rv}(h:qdn c o=.ok r):∃fs,o=some fs/\r=.val (.ins c (fs.map (·.1)) (fs.map (·.2))):=by
 cases o with
 |none=>cases h
 |some fs=>cases h;exact⟨fs,rfl,rfl⟩
def qbW(b:Bool)(l l':List D):aA b l≠.scr l':=by cases b<;>(intro z;cases z)
def qiH{k:Nat}{f:Str}{args:List Ar}{c:af}{l:List (Str×D)}:pnw k f args≠.exc c l:=by
 have o:∀{n:Str} {x:Option (List (Str×D))},qdn n x≠.exc c l:=λ{n x}=>by cases x<;>exact nofun
 unfold pnw
 repeat' first|exact o|(intro h;cases h)|split
def qrS{j:Nat}{args:List Ar}{r:Rv}(h:pnw (j+12) "Within" args=.ok r):(∀a∈args,∀l,a≠.scr l)/\∃fs,jO "span" args=some fs/\r=.val (.ins "Within" (fs.map (·.1)) (fs.map (·.2))):=by
 have h:(if j+12 < 12 then R.no else qdn "Within" (jO "span" args))=.ok r:=h;rw[if_neg (1:)]at h;let(fs,e,er):=qaA h;let(b,l,m,s,rfl,_):=Ji e;refine{λa ha=>?_,fs,e,er};simp![aF,eN,or_false]at ha;rcases ha with rfl|rfl|rfl
 .exactλl'=>qbW b l l'
 .exactλl' z=>by cases z
 .exactλl' z=>by cases z
def qrT{j:Nat}{args:List Ar}{r:Rv}(h:pnw (j+12) "Since" args=.ok r):(∀a∈args,∀l,a≠.scr l)/\∃fs,jO "leave" args=some fs/\r=.val (.ins "Since" (fs.map (·.1)) (fs.map (·.2))):=by
 have h:(if j+12 < 12 then R.no else qdn "Since" (jO "leave" args))=.ok r:=h;rw[if_neg (1:)]at h;let(fs,e,er):=qaA h;let(b,l,m,s,rfl,_):=Ji e;refine{λa ha=>?_,fs,e,er};simp![aF,eN,or_false]at ha;rcases ha with rfl|rfl|rfl
 .exactλl'=>qbW b l l'
 .exactλl' z=>by cases z
 .exactλl' z=>by cases z
def qrU{j:Nat}{args:List Ar}{r:Rv}(h:pnw (j+12) "InRow" args=.ok r):(∀a∈args,∀l,a≠.scr l)/\∃fs,qer args=some fs/\r=.val (.ins "InRow" (fs.map (·.1)) (fs.map (·.2))):=by
 have h:(if j+12 < 12 then R.no else qdn "InRow" (qer args))=.ok r:=h;rw[if_neg (1:)]at h;let(fs,e,er):=qaA h;let(b,l,m,rfl,_):=qay e;refine{λa ha=>?_,fs,e,er};simp![aF,eN,or_false]at ha;rcases ha with rfl|rfl
 .exactλl'=>qbW b l l'
 .exactλl' z=>by cases z
def qrV{j:Nat}{args:List Ar}{r:Rv}(h:pnw (j+12) "Book" args=.ok r):(∀a∈args,∀l,a≠.scr l)/\∃fs,QX args=some fs/\r=.val (.ins "Book" (fs.map (·.1)) (fs.map (·.2))):=by
 have h:(if j+12 < 12 then R.no else qdn "Book" (QX args))=.ok r:=h;rw[if_neg (1:)]at h;let(fs,e,er):=qaA h;let(b,c,l,ps,rfl,_):=Qw e;refine{λa ha=>?_,fs,e,er};simp![aF,eN,or_false]at ha;rcases ha with rfl|rfl
 .exactλl'=>qbW b l l'
 .exactλl'=>qbW c ps l'
structure Kl(K:Frag)(C:af):Prop where
 cls:Cls K C
 tc:dy K (.ref C) "__class__" = some (some (.builtin "object.__class__"))
 mo:PySem.W.mroIn K C (.type "object")=some true
structure Kr(K:Frag)(fw C cW cS:af)(x:Str)(b:Bool):Prop where
 kl:Kl K C
 la:qY K C "lands"
 mo:qY K C "most"
 fx:qY K C x
 wt:Meth K C "weight" fw
 iw:dz K (.ref C) (.ref cW)=some b
 is:dz K (.ref C) (.ref cS)=some (!b)
structure Kb(K:Frag)(fr fl fp C:af):Prop where
 kl:Kl K C
 a1:qY K C "kept_rules"
 a2:qY K C "kept_papers"
 m1:Meth K C "rules" fr
 m2:Meth K C "lifted" fl
 m3:Meth K C "papers" fp
section
variable{K:Frag}{mg:PR}{cW cS cI cB fw fr fl fp:af}(W:Kr K fw cW cW cS "span" true)(S:Kr K fw cS cW cS "leave" false)(I:Kr K fw cI cW cS "leave" false)(B:Kb K fr fl fp cB)
include W S I B
theorem qjv(c:Str)(C:af)(h:kap cW cS cI cB c=some C):Cls K C:=by
 rcases qoL h with ⟨_,rfl⟩|⟨_,rfl⟩|⟨_,rfl⟩|⟨_,rfl⟩
 .exact W.kl.cls
 .exact S.kl.cls
 .exact I.kl.cls
 .exact B.kl.cls
theorem qgP(c x:Str)(C:af)(hf:(pcs {}).fld c x=true)(h:kap cW cS cI cB c=some C):qY K C x:=by
 rcases qoM hf with ⟨hr,rfl|rfl⟩|⟨rfl,rfl⟩|⟨rfl|rfl,rfl⟩|⟨rfl,rfl|rfl⟩
 .rcases qeA hr with rfl|rfl|rfl
  .cases h;exact W.la
  .cases h;exact S.la
  .cases h;exact I.la
 .rcases qeA hr with rfl|rfl|rfl
  .cases h;exact W.mo
  .cases h;exact S.mo
  .cases h;exact I.mo
 .cases h;exact W.fx
 .cases h;exact S.fx
 .cases h;exact I.fx
 .cases h;exact B.a1
 .cases h;exact B.a2
theorem qeB{C:af}(k:Kl K C)(n:kH K (.builtin "object.__class__") "__get__" = some (some (.builtin "getset_descriptor.__get__")))(tk:kJ K (.builtin "object.__class__")=some true) :
  ∀(H:Hp) (p dx:af) (fs:List (Str×V)),H p=some (L2.HO.ins C dx fs)->TyOf K H (.ref p) (.ref C):=λH p dx fs hp=>.ins hp k.cls k.tc n tk k.mo
theorem qln(n:kH K (.builtin "object.__class__") "__get__" = some (some (.builtin "getset_descriptor.__get__")))(tk:kJ K (.builtin "object.__class__")=some true)(mW:mg "Within" = some (.ref cW))(mS:mg "Since" = some (.ref cS))
  (c t:Str) (b:Bool) (h:(pcs {}).sub c t=some b):∃C T,kap cW cS cI cB c=some C/\(∀H p dx fs,H p=some (L2.HO.ins C dx fs)->TyOf K H (.ref p) (.ref C))/\mg t=some (.ref T)/\dz K (.ref C) (.ref T)=some b:=by
 obtain⟨hr,⟨rfl,rfl⟩|⟨rfl,rfl⟩⟩:=qoN h
 .rcases qeA hr with rfl|rfl|rfl
  .exact{cW,cW,rfl,qeB W S I B W.kl n tk,mW,W.iw}
  .exact{cS,cW,rfl,qeB W S I B S.kl n tk,mW,S.iw}
  .exact{cI,cW,rfl,qeB W S I B I.kl n tk,mW,I.iw}
 .rcases qeA hr with rfl|rfl|rfl
  .exact{cW,cS,rfl,qeB W S I B W.kl n tk,mS,W.is}
  .exact{cS,cS,rfl,qeB W S I B S.kl n tk,mS,S.is}
  .exact{cI,cS,rfl,qeB W S I B I.kl n tk,mS,I.is}
end
def qaE(K:Frag)(f:af)(n q:Str)(st:aI):Prop:=∃oc od kV dc pm an cd ct sl,K.lookup f=some ⟨oc,od,.func (cY n q (qS st) (qC st) (qh st) .none kV dc pm an cd ct),sl⟩/\ij K cd q=true/\dO K (.ref f)=true
noncomputable abbrev FG(K:Frag)(f:af)(n:Str)(st:aI):Prop:=kR K a8 n=some (some (.ref f))/\qaE K f n n st
section
variable{K:Frag}{f:af}{n q:Str}{st:aI}{mg:PR}{h:aw}
def qaE.fn(i:qaE K f n q st):∃fd,Fun K n q st f fd:=by let(oc,od,kV,dc,pm,an,cd,ct,sl,l,c,k):=i;exact{_,qiN l c k}
theorem un1{us:List ae}{a:Str}{l:List Str}(h:us.length=(a::l).length):∃u vs,us=u::vs/\vs.length=l.length:=by
 cases us with
 |nil=>cases h
 |cons u vs=>exact{u,vs,rfl,Nat.succ.inj h}
def Bd(n q:Str)(st:aI)(ps:List Str):Prop:=∀(kV doc pm:ae) (an:Option af) (cdv ct:ae) (us:List ae),us.length=ps.length->eT (cY n q (qS st) (qC st) (qh st) .none kV doc pm an cdv ct) ⟨us,[]⟩=pure (ps.zip us)
def qoO(X:K.In h)(G:h.Ns a8 mg)(a:kR K a8 n=some (some (.ref f)))(i:qaE K f n n st){ps:List Str}(hp:QC st=ps)(hb:Bd n n st ps):FnF K mg n st:=by let(fd,F):=i.fn;exact{f,fd,F,PySem.W.mg_of X G a,hp▸F.binds hb}
def Jj(i:qaE K f n q st){ps:List Str}(hb:Bd n q st ps):∃fd,Fun K n q st f fd/\zn K fd ps []:=by let(fd,F):=i.fn;exact{fd,F,F.binds hb}
def qoP(i:qaE K f n n st)(hb:Bd n n st ["_law_script"]):∃fd,Fun K n n st f fd/\∀(s:ah) (v:ae),fF s fd ⟨[v],[]⟩ [("_law_script",v)]:=by let(oc,od,kV,dc,pm,an,cd,ct,sl,l,c,k):=i;exact{_,qiN l c k,λs v=>.of_eq (hb _ _ _ _ _ _ [v] rfl)}
end
section
variable{n q:Str}{st:aI}{a b c d e:Str}
def bd1(h:∀(kV doc pm:ae) (an:Option af) (cdv ct x:ae),eT (cY n q (qS st) (qC st) (qh st) .none kV doc pm an cdv ct) ⟨[x],[]⟩=pure [(a,x)]):Bd n q st [a]:=λz z z z z z us k0=>by
 let(_,us,rfl,k1):=un1 k0
 cases eO.mp k1;exact h ..
def bd2(h:∀(kV doc pm:ae) (an:Option af) (cdv ct x y:ae),eT (cY n q (qS st) (qC st) (qh st) .none kV doc pm an cdv ct) ⟨[x,y],[]⟩=pure [(a,x),(b,y)]):Bd n q st [a,b]:=λz z z z z z us k0=>by
 let(_,us,rfl,k1):=un1 k0;let(_,us,rfl,k2):=un1 k1
 cases eO.mp k2;exact h ..
def bd3(h:∀(kV doc pm:ae) (an:Option af) (cdv ct x y z:ae),eT (cY n q (qS st) (qC st) (qh st) .none kV doc pm an cdv ct) ⟨[x,y,z],[]⟩=pure [(a,x),(b,y),(c,z)]):Bd n q st [a,b,c]:=λw w w w w w us k0=>by
 let(_,us,rfl,k1):=un1 k0;let(_,us,rfl,k2):=un1 k1;let(_,us,rfl,k3):=un1 k2
 cases eO.mp k3;exact h ..
def bd4(h:∀(kV doc pm:ae) (an:Option af) (cdv ct x y z u:ae),eT (cY n q (qS st) (qC st) (qh st) .none kV doc pm an cdv ct) ⟨[x,y,z,u],[]⟩=pure [(a,x),(b,y),(c,z),(d,u)]):Bd n q st [a,b,c,d]:=λw w w w w w us k0=>by
 let(_,us,rfl,k1):=un1 k0;let(_,us,rfl,k2):=un1 k1;let(_,us,rfl,k3):=un1 k2;let(_,us,rfl,k4):=un1 k3
 cases eO.mp k4;exact h ..
def bd5(h:∀(kV doc pm:ae) (an:Option af) (cdv ct x y z u v:ae),eT (cY n q (qS st) (qC st) (qh st) .none kV doc pm an cdv ct) ⟨[x,y,z,u,v],[]⟩=pure [(a,x),(b,y),(c,z),(d,u),(e,v)]):Bd n q st [a,b,c,d,e]:=λw w w w w w us k0=>by
 let(_,us,rfl,k1):=un1 k0;let(_,us,rfl,k2):=un1 k1;let(_,us,rfl,k3):=un1 k2;let(_,us,rfl,k4):=un1 k3;let(_,us,rfl,k5):=un1 k4
 cases eO.mp k5;exact h ..
end
inductive BDs:List (Str×aI)->Prop
 | nil:BDs []
 | cons {n st l ps}:QC st=ps->Bd n n st ps->BDs l->BDs ((n,st)::l)
inductive FGs(K:Frag):List (Str×aI)->Prop
 | nil:FGs K []
 | cons {f n st l}:FG K f n st->FGs K l->FGs K ((n,st)::l)
inductive ZNs(K:Frag):List Str->Prop
 | nil:ZNs K []
 | cons {n l}:kR K a8 n=some none->ZNs K l->ZNs K (n::l)
section
variable{K:Frag}{mg:PR}{h:aw}
theorem FGs.all(X:K.In h)(G:h.Ns a8 mg){l:List (Str×aI)}(a:FGs K l)(p:BDs l):AllF K mg l:=by
 induction a with
 |nil=>exact .nil
 |cons i z ih=>
  cases p with
  |cons e b p=>exact .cons (qoO X G i.1 i.2 e b) (ih p)
theorem ZNs.all(X:K.In h)(G:h.Ns a8 mg){l:List Str}(a:ZNs K l):∀f∈l,mg f=none:=by
 induction a with
 |nil=>exact nofun
 |cons i z ih=>
  intro f hf;rcases aF.mp hf with rfl|hf
  .exact PySem.W.mg_none_of X G i
  .exact ih f hf
end
end DG
namespace K65
open PySem PySem.W L2 DE DG
def qoQ{l:OpenLaw}{w:aC}{K:Frag}{h:aw}{mg:PR}{fa cR cW cS cI cB f41 fiR fiW fiS fiI fiB fmw fmr fmp fml:af}{t0 t1 t2 t3 t4 t5 t6 t7:Tok}(X:K.In h)(G:h.Ns a8 mg)(hfa:mg "law" = some (.ref fa))
  (aL:FG K f41 "law" (top 68))
  (a:FGs K pg.defs)
  (z:ZNs K qfx)
  (v0:nsIn K a8 "GREATEST" = some (some (.int 1000000000 t0)))
  (v1:nsIn K a8 "LETTERS" = some (some (.str "abcdefghijklmnopqrstuvwxyz" t1)))
  (v2:nsIn K a8 "LONGEST_NAME" = some (some (.int 8 t2)))
  (v3:nsIn K a8 "MOST_LANDS" = some (some (.int 6 t3)))
  (v4:nsIn K a8 "GREATEST_WEIGHT" = some (some (.int 9 t4)))
  (v5:nsIn K a8 "MOST_STAYS" = some (some (.int 60 t5)))
  (v6:nsIn K a8 "MOST_RULES" = some (some (.int 8 t6)))
  (v7:nsIn K a8 "MOST_PAPERS" = some (some (.int 12 t7)))
  (ncR:nsIn K a8 "Rule" = some (some (.ref cR)))
  (ncW:nsIn K a8 "Within" = some (some (.ref cW)))
  (ncS:nsIn K a8 "Since" = some (some (.ref cS)))
  (ncI:nsIn K a8 "InRow" = some (some (.ref cI)))
  (ncB:nsIn K a8 "Book" = some (some (.ref cB)))
  (inR:eB K (.ref cR) "__init__" = some (some (.ref fiR)))
  (inW:eB K (.ref cW) "__init__" = some (some (.ref fiW)))
  (inS:eB K (.ref cS) "__init__" = some (some (.ref fiS)))
  (inI:eB K (.ref cI) "__init__" = some (some (.ref fiI)))
  (inB:eB K (.ref cB) "__init__" = some (some (.ref fiB)))
  (tmr:eB K (.ref cB) "rules" = some (some (.ref fmr)))
  (tml:eB K (.ref cB) "lifted" = some (some (.ref fml)))
  (tmp:eB K (.ref cB) "papers" = some (some (.ref fmp)))
  (tw:eB K (.ref cW) "weight" = some (some (.ref fmw)))
  (rW:Kr K fmw cW cW cS "span" true)
  (rS:Kr K fmw cS cW cS "leave" false)
  (rI:Kr K fmw cI cW cS "leave" false)
  (rB:Kb K fmr fml fmp cB)
  (hiR:qaE K fiR "__init__" "Rule.__init__" (mem 25 0))
  (hiW:qaE K fiW "__init__" "Within.__init__" (mem 26 0))
  (niW:isFn K (.ref fiW)=true)
  (hiS:qaE K fiS "__init__" "Since.__init__" (mem 27 0))
  (niS:isFn K (.ref fiS)=true)
  (hiI:qaE K fiI "__init__" "InRow.__init__" (mem 28 0))
  (niI:isFn K (.ref fiI)=true)
  (hiB:qaE K fiB "__init__" "Book.__init__" (mem 52 0))
  (niB:isFn K (.ref fiB)=true)
  (hmw:qaE K fmw "weight" "Rule.weight" (mem 25 1))
  (hmr:qaE K fmr "rules" "Book.rules" (mem 52 1))
  (hmp:qaE K fmp "papers" "Book.papers" (mem 52 2))
  (hml:qaE K fml "lifted" "Book.lifted" (mem 52 3))
  (mkW:makesIn K cW=true)
  (kcW:keepIn K (.ref cW)=true)
  (mkS:makesIn K cS=true)
  (kcS:keepIn K (.ref cS)=true)
  (mkI:makesIn K cI=true)
  (kcI:keepIn K (.ref cI)=true)
  (mkB:makesIn K cB=true)
  (kcB:keepIn K (.ref cB)=true)
  (cfR:ClsFn K cR "__init__" fiR)
  (cfS:ClsFn K cS "__init__" fiS)
  (og:specialIn K (.builtin "object.__class__") "__get__" = some (some (.builtin "getset_descriptor.__get__")))
  (ot:takesIn K (.builtin "object.__class__")=some true)
  :
  ∃fd:bV,(∀(s:ah) (v:ae),fF s fd ⟨[v],[]⟩ [("_law_script",v)])/\∀base:aw,K.In base->base.Ns a8 mg->FnOk l.prog w K mg base CX0 20 fa fd ["_law_script"] (spL (kap cW cS cI cB) K pg 20):=by
 have e:=hfa.symm.trans (mg_of X G aL.1);cases e;let(dL,FL,bL):=qoP aL.2 ((bd1 λ_ _ _ _ _ _ _ =>rfl));have z:=z.all X G;let(diR,FiR,biR):=Jj hiR (ps:=["self","lands","most"]) ((bd3 λ_ _ _ _ _ _ _ _ _ =>rfl));let(diW,FiW,biW):=Jj hiW (ps:=["self","lands","most","span"]) ((bd4 λ_ _ _ _ _ _ _ _ _ _ =>rfl));let(diS,FiS,biS):=Jj hiS (ps:=["self","lands","most","leave"]) ((bd4 λ_ _ _ _ _ _ _ _ _ _ =>rfl));let(diI,FiI,biI):=Jj hiI (ps:=["self","lands","most"]) ((bd3 λ_ _ _ _ _ _ _ _ _ =>rfl));let(diB,FiB,biB):=Jj hiB (ps:=["self","rules","papers"]) ((bd3 λ_ _ _ _ _ _ _ _ _ =>rfl));let(dmw,Fmw,bmw):=Jj hmw (ps:=["self","land"]) ((bd2 λ_ _ _ _ _ _ _ _ =>rfl));let(dmr,Fmr,bmr):=Jj hmr (ps:=["self"]) ((bd1 λ_ _ _ _ _ _ _ =>rfl));let(dmp,Fmp,bmp):=Jj hmp (ps:=["self"]) ((bd1 λ_ _ _ _ _ _ _ =>rfl));let(dml,Fml,bml):=Jj hml (ps:=["self","number"]) ((bd2 λ_ _ _ _ _ _ _ _ =>rfl));have mcR:=mg_of X G ncR;have mcW:=mg_of X G ncW;have mcS:=mg_of X G ncS;have mcI:=mg_of X G ncI;have mcB:=mg_of X G ncB;have tx:Tx (kap cW cS cI cB) K mg:={z "tuple" (3:),z "list" (3:),z "len" (3:),{_,mg_of X G v0},qjv rW rS rI rB,qgP rW rS rI rB};refine{dL,bL,λbase _ _=>qnr (k:=19) (st:=top 68) ?ok FL (4:) (4:)}
 case ok=>
 refine { fn:=a.all X G ?q,blt:=z,gl:=?g,cls:=qjv rW rS rI rB,flds:=qgP rW rS rI rB,mts:=?m,mks:=?k,subs:=qln rW rS rI rB og ot mcW mcS }
 case q=>repeat first|exact .nil |refine .cons (4:) (bd2 λ_ _ _ _ _ _ _ _ =>rfl) ?_ |refine .cons (4:) (bd3 λ_ _ _ _ _ _ _ _ _ =>rfl) ?_ |refine .cons (4:) (bd1 λ_ _ _ _ _ _ _ =>rfl) ?_ |refine .cons (4:) (bd4 λ_ _ _ _ _ _ _ _ _ _ =>rfl) ?_ |refine .cons (4:) (bd5 λ_ _ _ _ _ _ _ _ _ _ _ =>rfl) ?_ |refine .cons (4:) (bd6 λ_ _ _ _ _ _ _ _ _ _ _ _ =>rfl) ?_
 case g=>
  intro x d hd;unfold pg at hd;dsimp only at hd
  repeat (split at hd;· rename_i hx;cases hd;rw[hx];first |exact{.int _,_,mg_of X G (by assumption),{_,rfl},λ_=>by simp![Rep]} |exact{.str _,_,mg_of X G (by assumption),{_,rfl},λ_=>by simp![Rep]})
  cases hd
 case m=>
  intro c x f hm;rcases qqo hm with ⟨hr,rfl,rfl⟩|⟨rfl,rfl,rfl⟩|⟨rfl,rfl,rfl⟩|⟨rfl,rfl,rfl⟩
  .rcases qeA hr with rfl|rfl|rfl
   .exact{cW,fmw,_,mem 25 1,"weight",rfl,rW.wt,(4:),(4:),Fmw,bmw}
   .exact{cS,fmw,_,mem 25 1,"weight",rfl,rS.wt,(4:),(4:),Fmw,bmw}
   .exact{cI,fmw,_,mem 25 1,"weight",rfl,rI.wt,(4:),(4:),Fmw,bmw}
  .exact{cB,fmr,_,mem 52 1,"rules",rfl,rB.m1,(4:),(4:),Fmr,bmr}
  .exact{cB,fml,_,mem 52 3,"lifted",rfl,rB.m2,(4:),(4:),Fml,bml}
  .exact{cB,fmp,_,mem 52 2,"papers",rfl,rB.m3,(4:),(4:),Fmp,bmp}
 case k=>
  intro P wd base k ih f hf
  by_cases hk:k < 12
  .exact .inl ⟨by omega,λargs=>if_pos hk⟩
  let(j,rfl):∃j,k=j+12:={k - 12,by omega};right
  have hf:f = "Within"\/f = "Since"\/f = "InRow"\/f = "Book":=by
   have hf:((["Within","Since","InRow","Book"]:List Str).contains f)=true:=hf
   simpa using hf
  rcases hf with rfl|rfl|rfl|rfl
  .exact{cW,fiW,_,_,_,⟨mkW,inW,niW,kcW⟩,FnOk.lift ((qaz (j:=j+9) tx FiR biR mcR cfR (ih (j+9) (by omega)) (ih (j+10) (by omega)) (qcL (j+4)) (qcL (j+5))).1 FiW),mcW,biW,by omega,qax (c:="Within") rfl rfl (λa _ _=>qiH (k:=j+12) (f:="Within") (args:=a)) λargs r=>qrS (j:=j)}
  .exact{cS,fiS,_,_,_,⟨mkS,inS,niS,kcS⟩,FnOk.lift ((qaz (j:=j+9) tx FiR biR mcR cfR (ih (j+9) (by omega)) (ih (j+10) (by omega)) (qcL (j+4)) (qcL (j+5))).2 FiS),mcS,biS,by omega,qax (c:="Since") rfl rfl (λa _ _=>qiH (k:=j+12) (f:="Since") (args:=a)) λargs r=>qrT (j:=j)}
  .exact{cI,fiI,_,_,_,⟨mkI,inI,niI,kcI⟩,FnOk.lift (qgM (j:=j+8) tx FiI FiS biS mcS cfS FiR biR mcR cfR (ih (j+8) (by omega)) (ih (j+9) (by omega)) (qcL (j+3)) (qcL (j+4))),mcI,biI,by omega,qax (c:="InRow") rfl rfl (λa _ _=>qiH (k:=j+12) (f:="InRow") (args:=a)) λargs r=>qrU (j:=j)}
  .exact{cB,fiB,_,_,_,⟨mkB,inB,niB,kcB⟩,FnOk.lift (qiG (j:=j+10) tx FiB (ih (j+10) (by omega)) (qcL (j+5))),mcB,biB,by omega,qax (c:="Book") rfl rfl (λa _ _=>qiH (k:=j+12) (f:="Book") (args:=a)) λargs r=>qrV (j:=j)}
def qrW{l:PySem.W.OpenLaw}{q:aJ}{loose:List Str}{XP:(Str->Option ae)->aw->Prop}{YP:aC->aw->Prop}{d:DefRec}{K:cQ->Frag}{U:KC}(hn:l.most=some 63)(hdf:d.params.defaults=[])
  (hY:∀(w:aC) (h:aw),YP w h->(K w.params).In h)
  (F:∀(w:aC) (mg:PR) (fa:af) (h:aw),(K w.params).In h->h.Ns a8 mg->mg d.name=some (.ref fa)->
   ∃fd:bV,(∀(s:ah) (u:ae),fF s fd ⟨[u],[]⟩ [("_law_script",u)])/\∀base:aw,(K w.params).In base->base.Ns a8 mg->FnOk l.prog w (K w.params) mg base CX0 20 fa fd ["_law_script"] (spL U (K w.params) pg 20)) :
  PySem.W.WalkO q loose XP YP l.row.toRowW d [] (λf vs=>PySem.call f vs):=
 L2.qjR (n:=63) (k:=20) (x:="_law_script") (CX:=λy=>CX0) (sp:=λw=>spL U (K w.params) pg 20) hn (2:) hdf ⟨rfl,by decide,by decide⟩ hY F (λy y a ns hl y hS=>qns hS (qiB ns hl)) λy y y y y z=>z
end K65
open PySem PySem.W PyProof.Rows
set_option maxHeartbeats 0 in
theorem PySem.Challenge.cw_daysgate_k65_whole_just_these_days_holds : PySem.Challenge.rw_daysgate_k65_whole_just_these_days.Holds := by
 w_on;refine holds_law saidX λsaid=>?_
 refine holds_open (q:=K65.Hq) (loose:=[]) (Xt:=K65.Hx) (XP:=XL K65.Hq []) (Yf:=λs=>K65.Has.map s.heap.get?) (Ya:=λw=>(K65.HK w.params).map λp=>some p.2) (YP:=InK K65.HK) (N:=8388) K65.qqn (InK.of K65.HKe) InK.keeps (λs e=>xl_of s (Bool.and_eq_true_iff.mp e).1) XL.keeps (by rfl) (by rfl) (by rfl) (λs e=>recFacts_of (Bool.and_eq_true_iff.mp e).2) (by rfl) (by first|assumption|decide+kernel) (3:) ⟨rfl,rfl,rfl,rfl,rfl,(3:)⟩ ?hw ?hc
 (case hw=>w_witness2)
 k_fill
 refine K65.qrW (l:=PySem.Challenge.rw_daysgate_k65_whole_just_these_days) (U:=(DG.kap (213:) (239:) (265:) (413:))) rfl rfl (λw h Y=>Y) ?F
 case F=>
  intro w mg fa h KX G hmg
  refine' K65.qoQ KX G hmg ?_ ?_ ?_ ?_ ?_ ?_ ?_ ?_ ?_ ?_ ?_ ?_ ?_ ?_ ?_ ?_ ?_ ?_ ?_ ?_ ?_ ?_ ?_ ?_ ?_ ?_ ?_ ?_ ?_ ?_ ?_ ?_ ?_ ?_ ?_ ?_ ?_ ?_ ?_ ?_ ?_ ?_ ?_ ?_ ?_ ?_ ?_ ?_ ?_ ?_ ?_ ?_ ?_ ?_
  all_goals try first|k_is|exact{by k_is,by unfold DG.qaE;exact{_,_,_,_,_,_,_,_,_,by k_is,by k_is,by k_is}}|(unfold DG.qaE;exact{_,_,_,_,_,_,_,_,_,by k_is,by k_is,by k_is})|(refine{{{?_,?_,?_,?_},?_,?_},?_,?_,?_,{?_,?_,?_},?_,?_}<;>first|k_is|kit_is|(unfold L2.qY;k_is))|(refine{{{?_,?_,?_,?_},?_,?_},?_,?_,{?_,?_,?_},{?_,?_,?_},?_,?_,?_}<;>first|k_is|(unfold L2.qY;k_is))|(refine{?_,?_,?_,?_}<;>k_is)|kit_is|(repeat first|exact .nil|refine .cons ⟨by k_is,by unfold DG.qaE;exact{_,_,_,_,_,_,_,_,_,by k_is,by k_is,by k_is}⟩ ?_|refine .cons (by k_is) ?_)
