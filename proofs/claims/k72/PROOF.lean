import PyProof.Rows.All
import Wide.All
import OpenK.AllK
import Wide.FinOn
import Lean
import PyProof.EqAt
import PyProof.EqKinds
import PyProof.TupleCall
import PyProof.Rows.Range3
import KE.KRevIter
import PyProof.ExcInit
import PyProof.InstStoreFacts
import PyProof.FString2
import PyProof.CallStr
import PyProof.Rows.StrNews2
import KE.KIntText
import PyProof.StrLawsTight
import PyProof.StrLawsReplace
import PyProof.Rows.CountFlat
import PySem.Challenge.RW_daysgate_k72_books_alike
set_option Elab.async false
set_option linter.all false
set_option maxRecDepth 100000
set_option compiler.extract_closed false
set_option bootstrap.genMatcherCode false
set_option genSizeOf false
set_option genInjectivity false
set_option backward.eqns.nonrecursive false
noncomputable section
abbrev PP:=List (PySem.Addr×PySem.Obj)
abbrev PQ:=PySem.Value->PySem.Shared->Prop
abbrev PR:=PySem.Str->Option PySem.Value
open PySem.W (Frag)
set_option hygiene false
local macro_rules
| `(%[$n:num|0])=>`(.cons (.var $n) .nil)
| `(%[$a|0])=>`(.cons $a .nil)
| `(%[$n:num,$b,*|0])=>`(.cons (.var $n) %[$b,*|0])
| `(%[$a,$b,*|0])=>`(.cons $a %[$b,*|0])
| `(%[$n:num|1])=>`(qq (pg:=pg) (st:=top $n) (by kernel_rfl) (λk cl=>by kernel_rfl))
set_option hygiene true
theorem saidX:PySem.Challenge.rw_daysgate_k72_books_alike.wellSaid=true:=by kernel_rfl
local macro_rules | `((1:))=>`(by omega) | `((2:))=>`(by decide)
local macro_rules | `(tactic| simp? only[$ls,*]) => do
  let f (s : String) (k : Lean.Name) := (s.splitOn " ").toArray.map λn => Lean.mkIdent (k ++ n.toName)
  let b <- (f "Rv.list? Rv.plain? Rv.data Rv.int? Rv.str? Rv.bl? Rv.tup? int2 seqD Rv.non? idxD sliceD truthD lenD listD intD strD tupD maxD minD B1.go B2.go Ty.of Ty.go toAr toSl flR slN runD runX th_ok of_some slR_s slR_v slR_o slR_b slR_c slX_s slX_v slX_o ownI_s ownI_o kk_f kk_cs kk_nw at_0 at_1 at_2 ixN_app set_app emp_app xR_var xR_con xR_bin xR_neg xR_not xR_one xR_and xR_cmp xR_ite xR_idx xR_sli xR_lst xR_tup xR_rvs xR_calF xR_call xR_b1 xR_b2 xR_isc xR_isn xR_fld xR_met xR_new xR_isi xR_comp yRet yBl yTmp yB1 yB2 yNeg yNot yAnd yC1 yC2 yIf yI1 yI2 yS1 yS2 yS3 yLst yTup yRvs_c yRvs_v yCalF yCall yF1 yG1 yG2 yIsc yIsn yDat yFld yMt3 yMt2 yMt1 yMtO yNew yIsi yComp xT_not xT_one xT_and xT_or xT_cmp xT_val yBo yTn yTa yTo yD1 yD2 yTv xF_yes xF_test xEs_nil xEs_cons yE1 yE2 xAs_nil xAs_cons yA1 yA2 xO_none xO_some yO xI_seq xI_rng xI_rev xI_enum xI_zip ySeq yRng yRev yEnum yZ1 yZ2 yVal yValt yValL yValLt yValLs yValLm yX yXt yAv yAx yAxt yCons xE_s xE_v xE_o xL_s xL_l xL_z xL_o xL_b oGo_some xS_app yApp yApp2 xS_ext yExt yExt2 xS_ret yRt xS_set ySet xS_setI ySI ySI2 ySI3 ySI4 xS_ite yIte xS_for yFor xS_whl xSs_nil xSs_cons yNext yNextr xFo_cons yFo1 yFo2 yFo2r xWh yWh1 yWh2 xP_cons yP1 yP2 yP3 eE_bin eL_bin eX_bin eA_bin eE_rvs eX_and eX_cmp eX_ite eE_idx eL_idx eX_idx eA_idx eL_sli eE_lst eA_lst eE_tup eX_tup eA_tup eE_call eL_call eX_call eA_calF eA_call eE_b1 eL_b1 eX_b1 eE_b2 eA_b2 eL_fld eL_met eA_met eE_new eX_new eE_comp eX_comp eA_comp eE_var eE_con eL_var eX_var eX_con eA_var eA_con bAdd bAdds bAddtt bAddct bAddvt bSub bMult bDiv bMod bPow cEq cNe cLt cLe cGt cGe cIs cIsN cIn cNi mIn rgoV rgoT setIs_nil setIs_cons g_mapc g_mapn g_lenc g_lenn g_rep0 g_reps g_appc g_appn g_set0 g_sets g_last g_nott g_notf g_omap g_fe g_and g_dt g_df lend_v zth_exc zs_nil zs_cons zK_next zK_ret z_s z_rai zRai_is z_ite zIf_t zIf_f z_cal zCal_is z_try zTry_exc" `DE ++ f "Int.reduceLT Int.reduceLE Nat.reduceAdd Nat.reduceSub" .anonymous).mapM λn => `(Lean.Parser.Tactic.simpLemma| $n:ident)
  let d <- (f "sA_p sA_R sA_L sL_L rA_a rA_l rA_s rA_t rA_y" `DE ++ f "reduceIte" .anonymous).mapM λn => `(Lean.Parser.Tactic.simpLemma| ↓ $n:ident)
  let c : Array (Lean.TSyntax [`Lean.Parser.Tactic.simpStar, `Lean.Parser.Tactic.simpErase, `Lean.Parser.Tactic.simpLemma]) := (b ++ d).map (⟨·.raw⟩) ++ ls.getElems
  `(tactic| simp only[$c,*])
namespace TS
open PySem PyProof.Rows
section
variable{M:Model}{A:Around}{E:PQ}{s:Shared}{O:KeyOrd}{kf:Keyed->O.α}{κ:SortKind}{G:Keyed->Prop}
noncomputable def qer(M:Model)(A:Around)(E:PQ)(s:Shared)(O:KeyOrd)(kf:Keyed->O.α)(κ:SortKind)(G:Keyed->Prop):Prop:=
 ∀x y,G x->G y->∀(st:SortSt) (Q:Option Bool->SortSt->Prop),kindOf st=κ->Q (some (O.blt (kf x) (kf y))) st->wpS M A E s (lt' x y) Q st
theorem qcp{arr:Array Keyed}{p:Nat}{x:Keyed}{st:SortSt}{Q:Keyed->SortSt->Prop}(e:arr[p]?=some x)(h:Q x st):wpS M A E s (elem' arr p) Q st:=by rw[elem'_eq,e];exact wpS_pure h
variable{left:Bool}{key:Keyed}{arr:Array Keyed}{base n hint:Nat}{st:SortSt}{P:Nat->Bool}
end
end TS
namespace TS
open PySem PyProof.Rows
section
variable{O:KeyOrd}{kf:Keyed->O.α}
def le(O:KeyOrd)(kf:Keyed->O.α)(x y:Keyed):Prop:=O.kle (kf x) (kf y)
theorem le_of_lt{x y:Keyed}(h:O.blt (kf x) (kf y)=true):le O kf x y:=KeyOrd.kle_of_klt h
noncomputable def Srt(O:KeyOrd)(kf:Keyed->O.α)(a:Array Keyed)(lo hi:Nat):Prop:=∀(i j:Nat) (x y:Keyed),lo<=i->i<=j->j < hi->a[i]?=some x->a[j]?=some y->le O kf x y
theorem Srt.pw{a:Array Keyed}(h:Srt O kf a 0 a.size):a.toList.Pairwise (le O kf):=by
 rw[List.pairwise_iff_getElem];intro i j hi hj hij;have hj':j < a.size:=by simpa using hj
 have hi':i < a.size:=by simpa using hi
 exact h i j _ _ (by lia) (by lia) hj' (by simp[hi']) (by simp[hj'])
variable{a b o:Array Keyed}{i j:Nat}
end
end TS
namespace TS
open PySem PyProof.Rows
section
variable{M:Model}{A:Around}{E:PQ}{s:Shared}{O:KeyOrd}{kf:Keyed->O.α}{κ:SortKind}{G:Keyed->Prop}{a b:Array Keyed}
theorem qcq{a:Array Keyed}{i:Nat}(h:i < a.size):∃x,a[i]?=some x/\x∈a.toList:=⟨a[i],Array.getElem?_eq_getElem h,by simp⟩
end
end TS
namespace TS
open PySem PyProof.Rows
section
variable{O:KeyOrd}{kf:Keyed->O.α}
noncomputable def KA(O:KeyOrd)(kf:Keyed->O.α)(xs:Array Keyed)(i:Nat):O.α:=kf (xs[i]?.getD (Value.none,Value.none))
noncomputable def Inc(O:KeyOrd)(kf:Keyed->O.α)(xs:Array Keyed)(lo hi:Nat):Prop:=∀i j,lo<=i->i<=j->j < hi->O.kle (KA O kf xs i) (KA O kf xs j)
noncomputable def Dec(O:KeyOrd)(kf:Keyed->O.α)(xs:Array Keyed)(lo hi:Nat):Prop:=∀i j,lo<=i->i<=j->j < hi->O.kle (KA O kf xs j) (KA O kf xs i)
theorem yD{xs ys:Array Keyed}{i j:Nat}(h:xs[i]?=ys[j]?):KA O kf xs i=KA O kf ys j:=by unfold KA;rw[h]
theorem qes{xs:Array Keyed}{i:Nat}{x:Keyed}(h:xs[i]?=some x):KA O kf xs i=kf x:=by unfold KA;rw[h];rfl
theorem Inc.srt{xs:Array Keyed}{lo hi:Nat}(h:Inc O kf xs lo hi):Srt O kf xs lo hi:=λi j x y h1 h2 h3 e1 e2=>by
 have:=h i j h1 h2 h3
 rw[qes e1,qes e2] at this;exact this
theorem JH{xs:Array Keyed}{i j:Nat}(hj:j<=xs.size)(k:Nat):KA O kf (mirror xs i j ((j - i) / 2)) k=if i<=k/\k < j then KA O kf xs (i+j - 1 - k) else KA O kf xs k:=by
 have e:=getElem?_mirror_all (i:=i) hj k
 by_cases h:i<=k/\k < j
 ·rw[if_pos h] at e ⊢;exact yD e
 ·rw[if_neg h] at e ⊢;exact yD e
theorem qW{xs:Array Keyed}{i j:Nat}(hj:j<=xs.size)(heq:∀k,i<=k->k < j->KA O kf xs k=KA O kf xs (j - 1))(k:Nat):KA O kf (mirror xs i j ((j - i) / 2)) k=KA O kf xs k:=by
 rw[JH hj];split
 ·rw[heq _ (by lia) (by lia),heq k (by lia) (by lia)]
 ·rfl
theorem QP{xs:Array Keyed}{src d:Nat}(hs:src < xs.size)(hd:d<=src)(k:Nat) :
  KA O kf (bubble xs src d) k=if k=src - d then KA O kf xs src else if src - d < k/\k<=src then KA O kf xs (k - 1) else KA O kf xs k:=by
 have e:=getElem?_bubble hs d hd k
 by_cases h1:k=src - d
 ·rw[if_pos h1] at e ⊢;exact yD e
 ·rw[if_neg h1] at e ⊢
  by_cases h2:src - d < k/\k<=src
  ·rw[if_pos h2] at e ⊢;exact yD e
  ·rw[if_neg h2] at e ⊢;exact yD e
structure Re(lo:Nat)(xs ys:Array Keyed):Prop where
 perm:ys.Perm xs
 keep:∀k,k < lo->ys[k]?=xs[k]?
theorem Re.refl(lo:Nat)(xs:Array Keyed):Re lo xs xs:=⟨Array.Perm.refl _,λ_ _=>rfl⟩
theorem Re.trans{lo:Nat}{xs ys zs:Array Keyed}(a:Re lo xs ys)(b:Re lo ys zs):Re lo xs zs:=⟨b.perm.trans a.perm,λk h=>(b.keep k h).trans (a.keep k h)⟩
theorem Re.size{lo:Nat}{xs ys:Array Keyed}(a:Re lo xs ys):ys.size=xs.size:=a.perm.size_eq
theorem Re.mirror{lo i j:Nat}{xs:Array Keyed}(hi:lo<=i)(hj:j<=xs.size):Re lo xs (mirror xs i j ((j - i) / 2)):=⟨mirror_perm _ _ _ _,λk h=>by rw[getElem?_mirror_all hj k,if_neg (by lia)]⟩
theorem Re.bubble{lo src d:Nat}{xs:Array Keyed}(hs:src < xs.size)(hd:lo+d<=src):Re lo xs (bubble xs src d):=⟨bubble_perm _ _ _,λk h=>by rw[getElem?_bubble hs d (by lia),if_neg (by lia),if_neg (by lia)]⟩
theorem Re.mem{lo:Nat}{xs ys:Array Keyed}(a:Re lo xs ys){G:Keyed->Prop}(h:∀x∈xs.toList,G x):∀x∈ys.toList,G x:=λx hx=>h x ((Array.perm_iff_toList_perm.mp a.perm).mem_iff.mp hx)
end
abbrev ASt:=Option (Option Nat)×Nat
abbrev BSt:=Option (Option Nat)×Nat×Nat
noncomputable def asc(lo a nrem:Nat):StateT SortSt Sem ASt:=
 forIn [a:nrem] ((none,a):ASt) λ_ c=>do
  let r<-ltAt' (lo+c.2) (lo+c.2 - 1)
  match r with
  |some sm=>if sm=true then pure (.done (none,c.2)) else pure (.yield (none,c.2+1))
  |_=>pure (.done (some none,c.2))
noncomputable def dsc(lo a nrem:Nat):StateT SortSt Sem BSt:=
 forIn [a:nrem] ((none,a,0):BSt) λ_ c=>do
  let r<-ltAt' (lo+c.2.1) (lo+c.2.1 - 1)
  match r with
  |some sm=>
   if sm=true then
    if c.2.2 > 0 then do
     reverseSlice' (lo+c.2.1 - (c.2.2+1)) (lo+c.2.1)
     pure (.yield (none,c.2.1+1,0))
    else pure (.yield (none,c.2.1+1,0))
   else do
    let r<-ltAt' (lo+c.2.1 - 1) (lo+c.2.1)
    match r with
    |some lg=>if lg=true then pure (.done (none,c.2.1,c.2.2)) else pure (.yield (none,c.2.1+1,c.2.2+1))
    |_=>pure (.done (some none,c.2.1,c.2.2))
  |_=>pure (.done (some none,c.2.1,c.2.2))
noncomputable def tl3(lo n nrem:Nat):StateT SortSt Sem (Option Nat):=do
 reverseSlice' lo (lo+n)
 let c<-asc lo n nrem
 match c.1 with
 |some r=>pure r
 |none=>pure (some c.2)
noncomputable def dpt(lo n nrem:Nat):StateT SortSt Sem (Option Nat):=do
 rule "list.sort.descending-run"
 let c<-dsc lo (n+1) nrem
 match c.1 with
 |some r=>pure r
 |none=>if c.2.2 > 0 then do reverseSlice' (lo+c.2.1 - (c.2.2+1)) (lo+c.2.1);tl3 lo c.2.1 nrem else tl3 lo c.2.1 nrem
theorem qlE(lo nrem:Nat):countRun' lo nrem=(do
 let c<-asc lo 1 nrem
 match c.1 with
 |some r=>pure r
 |none=>
  if (c.2 == nrem)=true then pure (some c.2)
  else if c.2 > 1 then do
   let r<-ltAt' lo (lo+c.2 - 1)
   match r with
   |some rs=>if rs=true then pure (some c.2) else do reverseSlice' lo (lo+c.2);dpt lo c.2 nrem
   |_=>pure none
  else dpt lo c.2 nrem):=by
 rw[countRun'_eq];show(forIn _ _ _ >>= _:StateT SortSt Sem (Option Nat))=asc lo 1 nrem >>= _;refine congr (congrArg Bind.bind ?_) (funext λc=>?_)
 ·delta asc
  refine congrArg (forIn _ _) (funext λ_=>funext λc=>?_);refine congrArg (λz=>_ >>= z) (funext λr=>?_)
  cases r with
  |none=>exact rfl
  |some sm=>exact rfl
 ·obtain⟨c1,c2⟩:=c
  cases c1 with
  |some r=>rfl
  |none=>
   show(ite _ _ (ite _ _ _):StateT SortSt Sem (Option Nat))=ite _ _ (ite _ _ _);refine congrArg (ite _ _) ?_;refine congr (congrArg (ite _) ?_) ?_
   ·refine congrArg (λz=>_ >>= z) (funext λr=>?_)
    cases r with
    |none=>exact rfl
    |some rs=>
     show(ite _ _ _:StateT SortSt Sem (Option Nat))=ite _ _ _;refine congrArg (ite _ _) ?_;refine congrArg (λz=>_ >>= z) (funext λ_=>?_)
     delta dpt
     refine congrArg (λz=>_ >>= z) (funext λ_=>?_);show(forIn _ _ _ >>= _:StateT SortSt Sem (Option Nat))=dsc lo (c2+1) nrem >>= _;refine congr (congrArg Bind.bind ?_) (funext λd=>?_)
     ·delta dsc
      refine congrArg (forIn _ _) (funext λ_=>funext λc=>?_);refine congrArg (λz=>_ >>= z) (funext λr=>?_)
      cases r with
      |none=>exact rfl
      |some sm=>
       show(ite _ _ _:StateT SortSt Sem (ForInStep BSt))=ite _ _ _;refine congr (congrArg (ite _) ?_) ?_
       ·exact rfl
       ·refine congrArg (λz=>_ >>= z) (funext λr=>?_)
        cases r with
        |none=>exact rfl
        |some lg=>exact rfl
     ·obtain⟨d1,d2,d3⟩:=d
      cases d1 with
      |some r=>exact rfl
      |none=>
       show(ite _ _ _:StateT SortSt Sem (Option Nat))=ite _ _ _;refine congr (congrArg (ite _) ?_) ?_
       ·refine congrArg (λz=>_ >>= z) (funext λ_=>?_)
        delta tl3
        refine congrArg (λz=>_ >>= z) (funext λ_=>?_);show(forIn _ _ _ >>= _:StateT SortSt Sem (Option Nat))=asc lo d2 nrem >>= _;refine congr (congrArg Bind.bind ?_) (funext λe=>?_)
        ·delta asc
         refine congrArg (forIn _ _) (funext λ_=>funext λc=>?_);refine congrArg (λz=>_ >>= z) (funext λr=>?_)
         cases r with
         |none=>exact rfl
         |some sm=>exact rfl
        ·obtain⟨e1,e2⟩:=e
         cases e1 with
         |some r=>exact rfl
         |none=>exact rfl
       ·delta tl3
        refine congrArg (λz=>_ >>= z) (funext λ_=>?_);show(forIn _ _ _ >>= _:StateT SortSt Sem (Option Nat))=asc lo d2 nrem >>= _;refine congr (congrArg Bind.bind ?_) (funext λe=>?_)
        ·delta asc
         refine congrArg (forIn _ _) (funext λ_=>funext λc=>?_);refine congrArg (λz=>_ >>= z) (funext λr=>?_)
         cases r with
         |none=>exact rfl
         |some sm=>exact rfl
        ·obtain⟨e1,e2⟩:=e
         cases e1 with
         |some r=>exact rfl
         |none=>exact rfl
   ·show _=dpt lo c2 nrem
    delta dpt
    refine congrArg (λz=>_ >>= z) (funext λ_=>?_);show(forIn _ _ _ >>= _:StateT SortSt Sem (Option Nat))=dsc lo (c2+1) nrem >>= _;refine congr (congrArg Bind.bind ?_) (funext λd=>?_)
    ·delta dsc
     refine congrArg (forIn _ _) (funext λ_=>funext λc=>?_);refine congrArg (λz=>_ >>= z) (funext λr=>?_)
     cases r with
     |none=>exact rfl
     |some sm=>
      show(ite _ _ _:StateT SortSt Sem (ForInStep BSt))=ite _ _ _;refine congr (congrArg (ite _) ?_) ?_
      ·exact rfl
      ·refine congrArg (λz=>_ >>= z) (funext λr=>?_)
       cases r with
       |none=>exact rfl
       |some lg=>exact rfl
    ·obtain⟨d1,d2,d3⟩:=d
     cases d1 with
     |some r=>exact rfl
     |none=>
      show(ite _ _ _:StateT SortSt Sem (Option Nat))=ite _ _ _;refine congr (congrArg (ite _) ?_) ?_
      ·refine congrArg (λz=>_ >>= z) (funext λ_=>?_)
       delta tl3
       refine congrArg (λz=>_ >>= z) (funext λ_=>?_);show(forIn _ _ _ >>= _:StateT SortSt Sem (Option Nat))=asc lo d2 nrem >>= _;refine congr (congrArg Bind.bind ?_) (funext λe=>?_)
       ·delta asc
        refine congrArg (forIn _ _) (funext λ_=>funext λc=>?_);refine congrArg (λz=>_ >>= z) (funext λr=>?_)
        cases r with
        |none=>exact rfl
        |some sm=>exact rfl
       ·obtain⟨e1,e2⟩:=e
        cases e1 with
        |some r=>exact rfl
        |none=>exact rfl
      ·delta tl3
       refine congrArg (λz=>_ >>= z) (funext λ_=>?_);show(forIn _ _ _ >>= _:StateT SortSt Sem (Option Nat))=asc lo d2 nrem >>= _;refine congr (congrArg Bind.bind ?_) (funext λe=>?_)
       ·delta asc
        refine congrArg (forIn _ _) (funext λ_=>funext λc=>?_);refine congrArg (λz=>_ >>= z) (funext λr=>?_)
        cases r with
        |none=>exact rfl
        |some sm=>exact rfl
       ·obtain⟨e1,e2⟩:=e
        cases e1 with
        |some r=>exact rfl
        |none=>exact rfl
section
variable{M:Model}{A:Around}{E:PQ}{s:Shared}{O:KeyOrd}{kf:Keyed->O.α}{κ:SortKind}{G:Keyed->Prop}
theorem JI(L:qer M A E s O kf κ G){st:SortSt}{i j:Nat}{Q:Option Bool->SortSt->Prop}(hk:kindOf st=κ)(hG:∀x∈(arrOf st).toList,G x)(hi:i < (arrOf st).size)(hj:j < (arrOf st).size)
  (h:Q (some (O.blt (KA O kf (arrOf st) i) (KA O kf (arrOf st) j))) st):wpS M A E s (ltAt' i j) Q st:=by
 rw[ltAt'_eq];refine wpS_bind (wpS_get ?_);obtain⟨x,ex,mx⟩:=qcq hi;obtain⟨y,ey,my⟩:=qcq hj;rw[qes ex,qes ey] at h;exact wpS_bind (qcp ex (wpS_bind (qcp ey (L x y (hG x mx) (hG y my) st Q hk h))))
theorem qaD{i j:Nat}{st:SortSt}{Q:Unit->SortSt->Prop}(h:Q () (setArr st (mirror (arrOf st) i j ((j - i) / 2)))):wpS M A E s (reverseSlice' i j) Q st:=by rw[reverseSlice'_eq];exact wpS_modify h
theorem qfT(L:qer M A E s O kf κ G){st:SortSt}{lo a nrem:Nat}{Q:ASt->SortSt->Prop}(hk:kindOf st=κ)(hG:∀x∈(arrOf st).toList,G x)(hn:lo+nrem<=(arrOf st).size)(ha:1<=a)(han:a<=nrem)
  (hs:Inc O kf (arrOf st) lo (lo+a))
  (h:∀n,a<=n->n<=nrem->Inc O kf (arrOf st) lo (lo+n)->(n=nrem\/O.klt (KA O kf (arrOf st) (lo+n)) (KA O kf (arrOf st) (lo+n - 1)))->Q (none,n) st):wpS M A E s (asc lo a nrem) Q st:=by
 unfold asc;refine wpS_forRange (I:=λx c st'=>st'=st/\c=(none,x)/\Inc O kf (arrOf st) lo (lo+x)) ?step ?fin ⟨rfl,rfl,hs⟩
 case fin=>rintro c st' ⟨rfl,rfl,hs'⟩;rw[show max a nrem=nrem by lia] at hs' ⊢;exact h nrem han (Nat.le_refl _) hs' (.inl rfl)
 case step=>
  rintro x c st' hax hxn ⟨rfl,rfl,hs'⟩;dsimp only;refine wpS_bind (JI L hk hG (by lia) (by lia) ?_)
  cases hb:O.blt (KA O kf (arrOf st') (lo+x)) (KA O kf (arrOf st') (lo+x - 1)) with
  |true=>simp only[if_true];exact wpS_pure (h x hax (by lia) hs' (.inr hb))
  |false=>
   simp only[Bool.false_eq_true,if_false];refine wpS_pure ⟨rfl,rfl,λi j h1 h2 h3=>?_⟩
   by_cases hjx:j < lo+x
   ·exact hs' i j h1 h2 hjx
   ·have:j=lo+x:=by lia
    subst this
    by_cases e:i=lo+x
    ·subst e;exact KeyOrd.kle_refl _
    ·exact KeyOrd.kle_trans (hs' i (lo+x - 1) h1 (by lia) (by lia)) hb
noncomputable def qbC(O:KeyOrd)(kf:Keyed->O.α)(lo nrem:Nat)(st:SortSt)(Q:Option Nat->SortSt->Prop):Prop:=
 ∀m xs,Re lo (arrOf st) xs->1<=m->m<=nrem->Inc O kf xs lo (lo+m)->Q (some m) (setArr st xs)
theorem qbC.step{lo nrem:Nat}{st:SortSt}{Q:Option Nat->SortSt->Prop}{xs:Array Keyed}(h:qbC O kf lo nrem st Q)(r:Re lo (arrOf st) xs):qbC O kf lo nrem (setArr st xs) Q:=
 λm ys r' h1 h2 h3=>h m ys (r.trans r') h1 h2 h3
theorem qfU(L:qer M A E s O kf κ G){st:SortSt}{lo n nrem:Nat}{Q:Option Nat->SortSt->Prop}(hk:kindOf st=κ)(hG:∀x∈(arrOf st).toList,G x)(hn:lo+nrem<=(arrOf st).size)(h1:1<=n)(hnn:n<=nrem)
  (hs:Dec O kf (arrOf st) lo (lo+n)) (h:qbC O kf lo nrem st Q):wpS M A E s (tl3 lo n nrem) Q st:=by
 unfold tl3;refine wpS_bind (qaD ?_);have r:Re lo (arrOf st) (mirror (arrOf st) lo (lo+n) ((lo+n - lo) / 2)):=Re.mirror (Nat.le_refl _) (by lia);refine wpS_bind (qfT L (st:=setArr st (mirror (arrOf st) lo (lo+n) ((lo+n - lo) / 2))) hk (r.mem hG) (by have:=r.size;show lo+nrem<=(mirror (arrOf st) lo (lo+n) ((lo+n - lo) / 2)).size;lia) h1 hnn ?_ λm hm1 hm2 hs2 _=>wpS_pure (h m _ r (by lia) hm2 hs2));intro i j h2 h3 h4;show O.kle (KA O kf (mirror (arrOf st) lo (lo+n) ((lo+n - lo) / 2)) i) (KA O kf (mirror (arrOf st) lo (lo+n) ((lo+n - lo) / 2)) j);rw[JH (by lia),JH (by lia),if_pos (by lia),if_pos (by lia)];exact hs _ _ (by lia) (by lia) (by lia)
theorem qiC(L:qer M A E s O kf κ G){st:SortSt}{lo n nrem:Nat}{Q:BSt->SortSt->Prop}(hk:kindOf st=κ)(hG:∀x∈(arrOf st).toList,G x)(hn:lo+nrem<=(arrOf st).size)(h1:1<=n)(hnn:n<=nrem)
  (hs:Dec O kf (arrOf st) lo (lo+n))
  (h:∀m ne xs,Re lo (arrOf st) xs->n<=m->m<=nrem->Dec O kf xs lo (lo+m)->ne+1<=m->(∀i,lo+m - (ne+1)<=i->i < lo+m->KA O kf xs i=KA O kf xs (lo+m - 1))->Q (none,m,ne) (setArr st xs)):wpS M A E s (dsc lo n nrem) Q st:=by
 unfold dsc
 refine wpS_forRange (I:=λx c st'=>∃ne xs,c=(none,x,ne)/\st'=setArr st xs/\Re lo (arrOf st) xs/\Dec O kf xs lo (lo+x)/\ne+1<=x/\(∀i,lo+x - (ne+1)<=i->i < lo+x->KA O kf xs i=KA O kf xs (lo+x - 1))) ?step ?fin
  ⟨0,arrOf st,rfl,rfl,Re.refl _ _,hs,by lia,λi a b=>by congr 1;lia⟩
 case fin=>rintro c st' ⟨ne,xs,rfl,rfl,r,hs',hq,he⟩;rw[show max n nrem=nrem by lia] at hs' hq he ⊢;exact h nrem ne xs r hnn (Nat.le_refl _) hs' hq he
 case step=>
  rintro x c st' hax hxn ⟨ne,xs,rfl,rfl,r,hs',hq,he⟩;dsimp only;have hsz:xs.size=(arrOf st).size:=r.size;refine wpS_bind (JI L (st:=setArr st xs) hk (r.mem hG) (by show lo+x < xs.size;lia) (by show lo+x - 1 < xs.size;lia) ?_);show wpS M A E s _ _ _
  cases hb:O.blt (KA O kf (arrOf (setArr st xs)) (lo+x)) (KA O kf (arrOf (setArr st xs)) (lo+x - 1)) with
  |true=>
   have hb:O.blt (KA O kf xs (lo+x)) (KA O kf xs (lo+x - 1))=true:=hb;simp only[if_true]
   have step1:∀ys:Array Keyed,(∀k,KA O kf ys k=KA O kf xs k)->Dec O kf ys lo (lo+(x+1)):=by
    intro ys hy i j a b d;rw[hy,hy]
    by_cases hjx:j < lo+x
    ·exact hs' i j a b hjx
    ·have:j=lo+x:=by lia
     subst this
     by_cases e:i=lo+x
     ·subst e;exact KeyOrd.kle_refl _
     ·exact KeyOrd.kle_trans (KeyOrd.kle_of_klt hb) (hs' i (lo+x - 1) a (by lia) (by lia))
   by_cases hneq:ne > 0
   ·rw[if_pos hneq];refine wpS_bind (qaD (wpS_pure ⟨0,_,rfl,rfl,r.trans (Re.mirror (xs:=xs) (by lia) (by lia)),step1 _ (qW (xs:=xs) (by lia) he),by lia,λi a b=>by congr 1;lia⟩))
   ·rw[if_neg hneq];exact wpS_pure ⟨0,xs,rfl,rfl,r,step1 _ (λ_=>rfl),by lia,λi a b=>by congr 1;lia⟩
  |false=>
   have hb:O.blt (KA O kf xs (lo+x)) (KA O kf xs (lo+x - 1))=false:=hb;simp only[Bool.false_eq_true,if_false];refine wpS_bind (JI L (st:=setArr st xs) hk (r.mem hG) (by show lo+x - 1 < xs.size;lia) (by show lo+x < xs.size;lia) ?_)
   cases hc:O.blt (KA O kf (arrOf (setArr st xs)) (lo+x - 1)) (KA O kf (arrOf (setArr st xs)) (lo+x)) with
   |true=>simp only[if_true];exact wpS_pure (h x ne xs r hax (by lia) hs' hq he)
   |false=>
    have hc:O.blt (KA O kf xs (lo+x - 1)) (KA O kf xs (lo+x))=false:=hc;simp only[Bool.false_eq_true,if_false];have heqx:KA O kf xs (lo+x)=KA O kf xs (lo+x - 1):=KeyOrd.kle_antisymm hc hb;refine wpS_pure ⟨ne+1,xs,rfl,rfl,r,λi j a b d=>?_,by lia,λi a b=>?_⟩
    ·by_cases hjx:j < lo+x
     ·exact hs' i j a b hjx
     ·have:j=lo+x:=by lia
      subst this
      by_cases e:i=lo+x
      ·subst e;exact KeyOrd.kle_refl _
      ·rw[heqx];exact hs' i (lo+x - 1) a (by lia) (by lia)
    ·rw[show lo+(x+1) - 1=lo+x by lia]
     by_cases e:i=lo+x
     ·rw[e]
     ·rw[heqx];exact he i (by lia) (by lia)
theorem qfV(L:qer M A E s O kf κ G){st:SortSt}{lo n nrem:Nat}{Q:Option Nat->SortSt->Prop}(hk:kindOf st=κ)(hG:∀x∈(arrOf st).toList,G x)(hn:lo+nrem<=(arrOf st).size)(hnn:n+1<=nrem)
  (hs:Dec O kf (arrOf st) lo (lo+(n+1))) (h:qbC O kf lo nrem st Q):wpS M A E s (dpt lo n nrem) Q st:=by
 unfold dpt;refine wpS_bind (wpS_lift (wpAny_rule ⟨rfl,?_⟩));refine wpS_bind (qiC L hk hG hn (by lia) hnn hs λm ne xs r h1 h2 h3 h4 h5=>?_);dsimp only;have hsz:xs.size=(arrOf st).size:=r.size
 by_cases hneq:ne > 0
 ·rw[if_pos hneq];have r2:Re lo xs (mirror xs (lo+m - (ne+1)) (lo+m) ((lo+m - (lo+m - (ne+1))) / 2)):=Re.mirror (by lia) (by lia);refine wpS_bind (qaD (qfU L hk (r2.mem (r.mem hG)) (by have:=r2.size;show lo+nrem<=(mirror xs (lo+m - (ne+1)) (lo+m) ((lo+m - (lo+m - (ne+1))) / 2)).size;lia) (by lia) h2 ?_ ((h.step r).step r2)));intro i j a b d;show O.kle (KA O kf (mirror xs _ _ _) j) (KA O kf (mirror xs _ _ _) i);rw[qW (by lia) h5,qW (by lia) h5];exact h3 i j a b d
 ·rw[if_neg hneq];exact qfU L (st:=setArr st xs) hk (r.mem hG) (by show lo+nrem<=xs.size;lia) (by lia) h2 h3 (h.step r)
theorem qlF(L:qer M A E s O kf κ G){st:SortSt}{lo nrem:Nat}{Q:Option Nat->SortSt->Prop}(hk:kindOf st=κ)(hG:∀x∈(arrOf st).toList,G x)(hn:lo+nrem<=(arrOf st).size)(h1:1<=nrem)
  (h:qbC O kf lo nrem st Q):wpS M A E s (countRun' lo nrem) Q st:=by
 rw[qlE];refine wpS_bind (qfT L hk hG hn (Nat.le_refl 1) h1 (λi j a b d=>by have:i=j:=(by lia);subst this;exact KeyOrd.kle_refl _) λn hn1 hn2 hsn hor=>?_);dsimp only
 by_cases hnn:n=nrem
 ·rw[if_pos (by simpa using hnn)];exact wpS_pure (h n _ (Re.refl _ _) hn1 hn2 hsn)
 ·rw[if_neg (by simpa using hnn)];have hlt:=hor.resolve_left hnn
  by_cases hgt:n > 1
  ·rw[if_pos hgt];refine wpS_bind (JI L hk hG (by lia) (by lia) ?_)
   cases hr:O.blt (KA O kf (arrOf st) lo) (KA O kf (arrOf st) (lo+n - 1)) with
   |true=>simp only[if_true];exact wpS_pure (h n _ (Re.refl _ _) hn1 hn2 hsn)
   |false=>
    simp only[Bool.false_eq_true,if_false]
    have hall:∀k,lo<=k->k < lo+n->KA O kf (arrOf st) k=KA O kf (arrOf st) (lo+n - 1):=by intro k a b;exact KeyOrd.kle_antisymm (hsn k (lo+n - 1) a (by lia) (by lia)) (KeyOrd.kle_trans hr (hsn lo k (Nat.le_refl _) a b))
    have r:Re lo (arrOf st) (mirror (arrOf st) lo (lo+n) ((lo+n - lo) / 2)):=Re.mirror (Nat.le_refl _) (by lia);refine wpS_bind (qaD (qfV L hk (r.mem hG) (by have:=r.size;show lo+nrem<=(mirror (arrOf st) lo (lo+n) ((lo+n - lo) / 2)).size;lia) (by lia) ?_ (h.step r)));intro i j a b d;show O.kle (KA O kf (mirror (arrOf st) _ _ _) j) (KA O kf (mirror (arrOf st) _ _ _) i);rw[qW (by lia) hall,qW (by lia) hall]
    by_cases hjn:j < lo+n
    ·rw[hall i (by lia) (by lia),hall j (by lia) hjn];exact KeyOrd.kle_refl _
    ·have:j=lo+n:=by lia
     subst this
     by_cases e:i=lo+n
     ·subst e;exact KeyOrd.kle_refl _
     ·rw[hall i (by lia) (by lia)];exact KeyOrd.kle_of_klt hlt
  ·rw[if_neg hgt]
   have:n=1:=by lia
   subst this;refine qfV L hk hG hn (by lia) ?_ h;intro i j a b d
   by_cases e:i=j
   ·subst e;exact KeyOrd.kle_refl _
   ·have e1:i=lo:=by lia
    have e2:j=lo+1:=by lia
    subst e1 e2;exact KeyOrd.kle_of_klt (by simpa using hlt)
theorem qiD(L:qer M A E s O kf κ G){st:SortSt}{lo n ok:Nat}{Q:Bool->SortSt->Prop}(hk:kindOf st=κ)(hG:∀x∈(arrOf st).toList,G x)(hn:lo+n<=(arrOf st).size)(hok:ok<=n)(hs:Inc O kf (arrOf st) lo (lo+ok))
  (h:∀xs,Re lo (arrOf st) xs->Inc O kf xs lo (lo+n)->Q true (setArr st xs)):wpS M A E s (binarySort' lo n ok) Q st:=by
 rw[binarySort'_eq]
 refine wpS_bind (wpS_mono (wpS_forRange (I:=λk c st'=>c=(none,())/\∃xs,st'=setArr st xs/\Re lo (arrOf st) xs/\Inc O kf xs lo (lo+min k n))
  (Q:=λc st'=>c=(none,())/\∃xs,st'=setArr st xs/\Re lo (arrOf st) xs/\Inc O kf xs lo (lo+n)) ?step ?fin ?init) ?post)
 case post=>rintro c st' ⟨rfl,xs,rfl,r,hs'⟩;exact wpS_pure (h xs r hs')
 case init=>
  refine⟨rfl,arrOf st,rfl,Re.refl _ _,λi j a b d=>?_⟩
  by_cases h1:ok=0
  ·have:i=j:=by lia
   subst this;exact KeyOrd.kle_refl _
  ·exact hs i j a b (by lia)
 case fin=>
  rintro c st' ⟨hc,xs,rfl,r,hs'⟩;refine⟨hc,xs,rfl,r,?_⟩
  rwa[show min (max (max ok 1) n) n=n by lia] at hs'
 case step=>
  rintro k c st' hak hkn ⟨rfl,xs,rfl,r,hs'⟩;rw[show min k n=k by lia] at hs';have hsz:xs.size=(arrOf st).size:=r.size
  refine wpS_bind (wpS_mono (wpS_forRange (I:=λx c st''=>st''=setArr st xs/\∃l u,c=(none,l,u)/\l<=u/\u<=k/\u - l<=k - x/\
    (∀i,i < l->O.kle (KA O kf xs (lo+i)) (KA O kf xs (lo+k)))/\(∀i,u<=i->i < k->O.klt (KA O kf xs (lo+k)) (KA O kf xs (lo+i))))
   (Q:=λc st''=>st''=setArr st xs/\∃l u,c=(none,l,u)/\l<=k/\
    (∀i,i < l->O.kle (KA O kf xs (lo+i)) (KA O kf xs (lo+k)))/\(∀i,l<=i->i < k->O.klt (KA O kf xs (lo+k)) (KA O kf xs (lo+i)))) ?istep ?ifin ?iinit) ?ipost)
  case iinit=>exact⟨rfl,0,k,rfl,by lia,by lia,by lia,λi hi=>by lia,λi h1 h2=>by lia⟩
  case ifin=>
   rintro c st'' ⟨rfl,l,u,rfl,a,b,d,e,f⟩
   have:l=u:=by lia
   subst this;exact⟨rfl,l,l,rfl,b,e,f⟩
  case istep=>
   rintro x c st'' _ hxk ⟨rfl,l,u,rfl,a,b,d,e,f⟩;dsimp only
   by_cases hge:l≥u
   ·rw[if_pos hge]
    have:l=u:=by lia
    subst this;exact wpS_pure ⟨rfl,l,l,rfl,b,e,f⟩
   ·rw[if_neg hge];refine wpS_bind (JI L (st:=setArr st xs) hk (r.mem hG) (by show lo+k < xs.size;lia) (by show lo+(l+u) / 2 < xs.size;lia) ?_)
    cases hb:O.blt (KA O kf (arrOf (setArr st xs)) (lo+k)) (KA O kf (arrOf (setArr st xs)) (lo+(l+u) / 2)) with
    |true=>have hb:O.blt (KA O kf xs (lo+k)) (KA O kf xs (lo+(l+u) / 2))=true:=hb;simp only[if_true];refine wpS_pure ⟨rfl,l,(l+u) / 2,rfl,by lia,by lia,by lia,e,λi h1 h2=>?_⟩;exact KeyOrd.klt_of_klt_of_kle hb (hs' _ _ (by lia) (by lia) (by lia))
    |false=>have hb:O.blt (KA O kf xs (lo+k)) (KA O kf xs (lo+(l+u) / 2))=false:=hb;simp only[Bool.false_eq_true,if_false];refine wpS_pure ⟨rfl,(l+u) / 2+1,u,rfl,by lia,by lia,by lia,λi h1=>?_,f⟩;exact KeyOrd.kle_trans (hs' (lo+i) (lo+(l+u) / 2) (by lia) (by lia) (by lia)) (show O.kle _ _ from hb)
  case ipost=>
   rintro c st'' ⟨rfl,l,u,rfl,hlk,hlo,hhi⟩;show wpS _ _ _ _ (do moveDown' (lo+k) (lo+l);pure (ForInStep.yield (none,()))) _ _;rw[moveDown'_eq];have hks:lo+k < xs.size:=by lia
   refine wpS_bind (wpS_modify (wpS_pure ⟨rfl,_,rfl,r.trans (Re.bubble hks (d:=lo+k - (lo+l)) (by lia)),?_⟩));rw[show min (k+1) n=k+1 by lia];intro i j a b d;show O.kle (KA O kf (bubble xs (lo+k) (lo+k - (lo+l))) i) (KA O kf (bubble xs (lo+k) (lo+k - (lo+l))) j);rw[QP hks (by lia),QP hks (by lia),show lo+k - (lo+k - (lo+l))=lo+l by lia]
   have lo':∀t,lo<=t->t < lo+l->O.kle (KA O kf xs t) (KA O kf xs (lo+k)):=λt h1 h2=>by
    have:=hlo (t - lo) (by lia)
    rwa[show lo+(t - lo)=t by lia] at this
   have hi':∀t,lo+l<=t->t < lo+k->O.klt (KA O kf xs (lo+k)) (KA O kf xs t):=λt h1 h2=>by
    have:=hhi (t - lo) (by lia) (by lia)
    rwa[show lo+(t - lo)=t by lia] at this
   repeat' split
   all_goals first
    | (exfalso;lia)
    | exact KeyOrd.kle_refl _
    | exact lo' _ (by lia) (by lia)
    | exact KeyOrd.kle_of_klt (hi' _ (by lia) (by lia))
    | exact hs' _ _ (by lia) (by lia) (by lia)
end
end TS
namespace L2
open PySem PySem.Spec PyProof.Rows
abbrev Key:=Sum Int Str
def qiE:Key->Value->Bool
 |.inl k,v=>Value.isInt k v
 |.inr x,v=>Value.isStrOf x v
def qnv(w:World):Key->Int
 |.inl k=>hashInt k
 |.inr x=>hashStr w x
theorem qA:∀{k:Key} {v:Value},qiE k v=true->(∃i t,k=Sum.inl i/\v=Value.int i t)\/(∃x t,k=Sum.inr x/\v=Value.str x t)
 |.inl i,v,h=>by obtain⟨t,e⟩:=Value.isInt_shape (k:=i) (v:=v) h;exact .inl ⟨i,t,rfl,e⟩
 |.inr x,v,h=>by obtain⟨t,e⟩:=Value.isStrOf_shape (x:=x) (v:=v) h;exact .inr ⟨x,t,rfl,e⟩
theorem qiF(a b:Int):decide ((Sum.inl a:Key)=Sum.inl b)=(a == b):=by
 by_cases e:a=b
 ·subst e;simp
 ·have h:¬ (Sum.inl a:Key)=Sum.inl b:=λq=>e (Sum.inl.inj q);rw[decide_eq_false h];exact(beq_eq_false_iff_ne.mpr e).symm
theorem qiG(a b:Str):decide ((Sum.inr a:Key)=Sum.inr b)=decide (a=b):=by
 by_cases e:a=b
 ·subst e;simp
 ·have h:¬ (Sum.inr a:Key)=Sum.inr b:=λq=>e (Sum.inr.inj q);rw[decide_eq_false h,decide_eq_false e]
theorem qiH(a:Int)(b:Str):decide ((Sum.inl a:Key)=Sum.inr b)=false:=decide_eq_false (λq=>nomatch q)
theorem qiI(a:Str)(b:Int):decide ((Sum.inr a:Key)=Sum.inl b)=false:=decide_eq_false (λq=>nomatch q)
noncomputable def Z1(prog:Program)(w:World):PySem.KeyKind prog w Key where
 is:=qiE
 hash:=qnv w
 inj:=λv a b ha hb=>by
  rcases qA ha with ⟨i,t,rfl,rfl⟩ | ⟨x,t,rfl,rfl⟩
  ·rcases qA hb with ⟨j,u,rfl,e⟩ | ⟨y,u,rfl,e⟩
   ·injection e with e1 _;rw[e1]
   ·exact nomatch e
  ·rcases qA hb with ⟨j,u,rfl,e⟩ | ⟨y,u,rfl,e⟩
   ·exact nomatch e
   ·injection e with e1 _;rw[e1]
 byValue:=λk v h=>by rcases qA h with ⟨i,t,rfl,rfl⟩ | ⟨x,t,rfl,rfl⟩<;>rfl
 pyHash:=λhv h=>by
  rcases qA hv with ⟨i,t,rfl,rfl⟩ | ⟨x,t,rfl,rfl⟩
  ·exact wpAny_pyHash_int h
  ·exact wpAny_pyHash_str h
 eqBool:=λhu hv h=>by
  rcases qA hu with ⟨i,t,rfl,rfl⟩ | ⟨x,t,rfl,rfl⟩
  ·rcases qA hv with ⟨j,u,rfl,rfl⟩ | ⟨y,u,rfl,rfl⟩
   ·rw[qiF] at h;exact wpAny_eqBool_int h
   ·rw[qiH] at h;exact SeqAt.EqAt.int_str i t y u _ _ _ _ h
  ·rcases qA hv with ⟨j,u,rfl,rfl⟩ | ⟨y,u,rfl,rfl⟩
   ·rw[qiI] at h;exact SeqAt.EqAt.str_int x t j u _ _ _ _ h
   ·rw[qiG] at h;exact wpAny_eqBool_str h
 «strs»:=λk x t v h=>by
  rcases qA h with ⟨i,u,rfl,e⟩ | ⟨y,u,rfl,e⟩
  ·exact nomatch e
  ·injection e with e1 _;subst e1;cases v<;>rfl
end L2
namespace L2
open PySem PySem.Spec PyProof.Rows
inductive V where
 | non | bl (b:Bool) | int (i:Int) | str (x:Str) | byt (b:Array UInt8) | flt (b:UInt64) | ref (a:Addr) | ty (n:String)
 deriving DecidableEq
noncomputable def qH:V->Value->Prop
 |.non,u=>u=Value.none
 |.bl b,u=>u=Value.bool b
 |.int i,u=>∃t,u=Value.int i t
 |.str x,u=>∃t,u=Value.str x t
 |.byt b,u=>∃t,u=Value.bytes b t
 |.flt b,u=>∃t,u=Value.float b t
 |.ref a,u=>u=Value.ref a
 |.ty n,u=>u=Value.type n
abbrev qx:List V->List Value->Prop:=Paired qH
theorem qx.length{xs:List V}{us:List Value}(r:qx xs us):xs.length=us.length:=Paired.length r
theorem qx.get:∀{xs:List V} {us:List Value} {i:Nat} {x:V},qx xs us->xs[i]?=some x->∃u,us[i]?=some u/\qH x u
 |_,_,_,_,.nil,e=>by simp at e
 |_,_,0,_,.cons r _,e=>by simp at e;subst e;exact⟨_,rfl,r⟩
 | _,_,i+1,x,.cons _ t,e=>by obtain⟨u,h1,h2⟩:=qx.get (i:=i) (x:=x) t (by simpa using e);exact⟨u,by simpa using h1,h2⟩
theorem qx.set{x:V}{u:Value}(r:qH x u):∀{xs:List V} {us:List Value} (i:Nat),qx xs us->qx (xs.set i x) (us.set i u)
 |_,_,_,.nil=>.nil
 |_,_,0,.cons _ t=>.cons r t
 | _,_,i+1,.cons q t=>.cons q (qx.set r i t)
theorem qx.append:∀{xs ys:List V} {us ws:List Value},qx xs us->qx ys ws->qx (xs++ys) (us++ws)
 |_,_,_,_,.nil,s=>s
 |_,_,_,_,.cons r t,s=>.cons r (qx.append t s)
theorem qx.take:∀{xs:List V} {us:List Value} (n:Nat),qx xs us->qx (xs.take n) (us.take n)
 |_,_,0,_=>.nil
 | _,_,_+1,.nil=>.nil
 | _,_,n+1,.cons r t=>.cons r (qx.take n t)
theorem qx.drop:∀{xs:List V} {us:List Value} (n:Nat),qx xs us->qx (xs.drop n) (us.drop n)
 |_,_,0,r=>r
 | _,_,_+1,.nil=>.nil
 | _,_,n+1,.cons _ t=>qx.drop n t
def qcr:Option V->Option Value->Prop
 |some v,some u=>qH v u
 |none,none=>True
 |_,_=>False
noncomputable def KV{κ:Type}:List (κ×V)->List (κ×Value)->Prop:=Paired λ(p:κ×V) (q:κ×Value)=>p.1=q.1/\qH p.2 q.2
def kV:Key->V
 |.inl i=>.int i
 |.inr x=>.str x
inductive HO where
 | lst (xs:List V)
 | tup (xs:List V)
 | dK (kvs:List (Key×V)) | dT (kvs:List (List Key×V))
 | set (S:Int->Bool) (n:Nat)
 | ins (C dx:Addr) (fs:List (Str×V))
 | own (x:Addr)
 | xd (fs:List (Str×V))
 | met (f x:Addr)
 | rng (lo hi:Int)
 | frz (o:Obj) (u:HO)
 | tbl (ps:Array Value)
 | ext (φ:Heap->Prop)
abbrev Hp:=Addr->Option HO
def upd(H:Hp)(a:Addr)(o:HO):Hp:=λb=>if b=a then some o else H b
theorem qg{H:Hp}{a:Addr}{o:HO}:upd H a o a=some o:=by unfold upd;rw[if_pos rfl]
theorem qe{H:Hp}{a b:Addr}{o:HO}(h:b≠a):upd H a o b=H b:=by unfold upd;rw[if_neg h]
theorem qQ{H:Hp}{a b:Addr}{o:HO}(h:H a=some o)(h':H b=none):a≠b:=by intro e;subst e;rw[h] at h';cases h'
section
variable(P:Program)(w:World)
noncomputable def qP(H:Hp)(h:Heap)(a:Addr):HO->Prop
 |.lst xs=>xs.length<=sizeLine/\∃(its:List Value) (n:Nat),qx xs its/\h.get? a=some { cls:=.type "list",data:=.seq its.toArray n }
 |.tup xs=>xs.length<=sizeLine/\∃its:List Value,qx xs its/\IsTup h a its.toArray
 |.dK kvs=>kvs.length<=sizeLine/\(a == sysModules)=false/\∃vs,KV kvs vs/\h.DictOf (Z1 P w) a vs
 |.dT kvs=>kvs.length<=sizeLine/\(a == sysModules)=false/\∃xs:List (List Key×Addr×Value),
   Paired (λ(p:List Key×V) (q:List Key×Addr×Value)=>p.1=q.1/\H q.2.1=some (.tup (p.1.map kV))/\qH p.2 q.2.2) kvs xs/\
   ∃o es ep,h.get? a=some o/\o.ExactDict/\o.data=.dict es ep/\es.toList=xs.map (entryOfKey (tupleKind (Z1 P w)))/\(xs.map (·.1)).Nodup
 |.set S n=>h.SetOf (intKind P w) a S n
 |.ins C dx fs=>H dx=some (.own a)/\fs.length<=1000/\dx≠a/\h.get? a=some (PySem.W.instObj C dx)/\
   ∃mA,h.Ns1 dx mA/\(∀f,qcr (fs.lookup f) (mA f))/\PySem.Within mA (fs.map (·.1))
 |.own _=>∃o,h.get? a=some o
 |.xd fs=>∃mA,h.Ns1 a mA/\∀f,qcr (fs.lookup f) (mA f)
 |.rng lo hi=>∃t u v,h.get? a=some { cls:=.type "range",data:=.fields #[.int lo t,.int hi u,.int 1 v] }
 |.frz o u=>h.get? a=some o/\qP H h a u
 |.tbl ps=>h.get? a=some { cls:=.none,data:=.fields ps }
 |.met f x=>h.get? a=some (PySem.W.methodObj (.ref f) (.ref x))
 |.ext φ=>φ h/\(∃o,h.get? a=some o)/\∀h1 h2:Heap,φ h1->(∀o,h1.get? a=some o->h2.get? a=some o)->φ h2
def HOk(H:Hp)(h:Heap):Prop:=∀a o,H a=some o->qP P w H h a o
end
section
variable{P:Program}{w:World}{H H':Hp}{h h':Heap}{a:Addr}{o:HO}
theorem qP.lt(x:qP P w H h a o):a < h.objs.size:=by
 cases o with
 |lst xs=>obtain⟨_,_,_,_,e⟩:=x;exact Heap.lt_size e
 |tup xs=>obtain⟨_,_,_,p⟩:=x;exact p.lt
 |dK kvs=>obtain⟨_,_,_,_,o,_,_,e,_⟩:=x;exact Heap.lt_size e
 |dT kvs=>obtain⟨_,_,_,_,o,_,_,e,_⟩:=x;exact Heap.lt_size e
 |set S n=>obtain⟨o,_,_,_,e,_⟩:=x;exact Heap.lt_size e
 |ins C dx fs=>obtain⟨_,_,_,e,_⟩:=x;exact Heap.lt_size e
 |own y=>obtain⟨_,e⟩:=x;exact Heap.lt_size e
 |xd fs=>obtain⟨_,⟨_,_,_,e,_⟩,_⟩:=x;exact Heap.lt_size e
 |rng lo hi=>obtain⟨_,_,_,e⟩:=x;exact Heap.lt_size e
 |frz ob u=>obtain⟨e,_⟩:=x;exact Heap.lt_size e
 |tbl ps=>exact Heap.lt_size (show h.get? a=some _ from x)
 |met f y=>exact Heap.lt_size (show h.get? a=some _ from x)
 |ext φ=>obtain⟨_,⟨_,e⟩,_⟩:=x;exact Heap.lt_size e
theorem Paired.mapP{α β:Type}{F G:α->β->Prop}:∀{l₁:List α} {l₂:List β},Paired F l₁ l₂->(∀a b,F a b->G a b)->Paired G l₁ l₂
 |_,_,.nil,_=>.nil
 |_,_,.cons r t,f=>.cons (f _ _ r) (Paired.mapP t f)
theorem qP.stay(x:qP P w H h a o)(k:∀b u,(b=a\/H b=some (.own a))->h.get? b=some u->h'.get? b=some u)
  (ho:∀b,H b=some (.own a)->H' b=some (.own a)) (ht:∀b xs,H b=some (.tup xs)->H' b=some (.tup xs)):qP P w H' h' a o:=by
 induction o with
 |lst xs=>obtain⟨z,its,n,r,e⟩:=x;exact⟨z,its,n,r,k _ _ (.inl rfl) e⟩
 |tup xs=>obtain⟨z,its,r,ob,e,c⟩:=x;exact⟨z,its,r,ob,k _ _ (.inl rfl) e,c⟩
 |dK kvs=>obtain⟨z,y,vs,r,ob,es,ep,e,c⟩:=x;exact⟨z,y,vs,r,ob,es,ep,k _ _ (.inl rfl) e,c⟩
 |dT kvs=>obtain⟨z,y,xs,r,ob,es,ep,e,c⟩:=x;exact⟨z,y,xs,Paired.mapP r λp q z=>⟨z.1,ht _ _ z.2.1,z.2.2⟩,ob,es,ep,k _ _ (.inl rfl) e,c⟩
 |set S n=>obtain⟨ob,es,ep,t,e,c⟩:=x;exact⟨ob,es,ep,t,k _ _ (.inl rfl) e,c⟩
 |ins C dx fs=>obtain⟨d,z,ne,e,mA,⟨od,es,ep,e2,c⟩,r⟩:=x;exact⟨ho _ d,z,ne,k _ _ (.inl rfl) e,mA,⟨od,es,ep,k _ _ (.inr d) e2,c⟩,r⟩
 |own y=>obtain⟨ob,e⟩:=x;exact⟨ob,k _ _ (.inl rfl) e⟩
 |xd fs=>obtain⟨mA,⟨od,es,ep,e,c⟩,r⟩:=x;exact⟨mA,⟨od,es,ep,k _ _ (.inl rfl) e,c⟩,r⟩
 |rng lo hi=>obtain⟨t,u,v,e⟩:=x;exact⟨t,u,v,k _ _ (.inl rfl) e⟩
 |frz ob u ih=>obtain⟨e,q⟩:=x;exact⟨k _ _ (.inl rfl) e,ih q⟩
 |tbl ps=>have e:h.get? a=some { cls:=.none,data:=.fields ps }:=x;show h'.get? a=some { cls:=.none,data:=.fields ps };exact k a _ (.inl rfl) e
 |met f y=>have e:h.get? a=some (PySem.W.methodObj (.ref f) (.ref y)):=x;show h'.get? a=some (PySem.W.methodObj (.ref f) (.ref y));exact k a _ (.inl rfl) e
 |ext φ=>obtain⟨p,⟨o,e⟩,st⟩:=x;exact⟨st _ _ p λo q=>k _ _ (.inl rfl) q,⟨o,k _ _ (.inl rfl) e⟩,st⟩
theorem HOk.lt(x:HOk P w H h)(e:H a=some o):a < h.objs.size:=(x a o e).lt
theorem HOk.fresh(x:HOk P w H h)(e:h.objs.size<=a):H a=none:=by
 cases q:H a with
 |none=>rfl
 |some u=>exact absurd (Nat.lt_of_lt_of_le (x.lt q) e) (Nat.lt_irrefl _)
theorem HOk.kept(x:HOk P w H h)(k:∀b u,h.get? b=some u->h'.get? b=some u):HOk P w H h':=λa o e=>(x a o e).stay (λb u _ q=>k b u q) (λ_ q=>q) λ_ _ q=>q
theorem HOk.laid(x:HOk P w H h)(k:∀b u,h.get? b=some u->h'.get? b=some u)(hp:h.objs.size<=a)(new:qP P w (upd H a o) h' a o):HOk P w (upd H a o) h':=λb u e=>by
 have hn:=x.fresh hp
 by_cases hb:b=a
 ·subst hb;rw[qg] at e;cases e;exact new
 ·rw[qe hb] at e;exact(x b u e).stay (λc v _ q=>k c v q) (λc q=>by rw[qe (qQ q hn)];exact q) λc xs q=>by rw[qe (qQ q hn)];exact q
end
def Rd(H:Hp)(a:Addr)(u:HO):Prop:=H a=some u\/∃o,H a=some (.frz o u)
theorem Rd.ok{P:Program}{w:World}{H:Hp}{h:Heap}{a:Addr}{u:HO}(r:Rd H a u)(x:HOk P w H h):qP P w H h a u:=by
 rcases r with r | ⟨o,r⟩
 ·exact x a u r
 ·obtain⟨_,q⟩:=x a _ r;exact q
noncomputable def Mut:Option HO->Prop
 |some (.lst _)=>True
 |some (.dK _)=>True
 |some (.dT _)=>True
 |some (.set _ _)=>True
 |some (.ins _ _ _)=>True
 |some (.ext _)=>True
 |_=>False
section
variable{P:Program}{w:World}{H:Hp}{h h':Heap}{x e:Addr}{o':HO}
theorem HOk.write(ok:HOk P w H h)(mu:Mut (H x))(he:e=x\/H e=some (.own x))(k:∀b u,b≠e->h.get? b=some u->h'.get? b=some u)(heo:∃u,h'.get? e=some u)
  (new:qP P w (upd H x o') h' x o'):HOk P w (upd H x o') h':=λb u q=>by
 have nown:∀c y,H c=some (.own y)->c≠x:=λc y r z=>by subst z;rw[r] at mu;exact mu
 have ntup:∀c xs,H c=some (.tup xs)->c≠x:=λc xs r z=>by subst z;rw[r] at mu;exact mu
 by_cases hb:b=x
 ·subst hb;rw[qg] at q;cases q;exact new
 ·rw[qe hb] at q
  by_cases hbe:b=e
  ·have q':H b=some (.own x):=by
    rcases he with z | z
    ·exact absurd (hbe.trans z) hb
    ·rw[hbe];exact z
   rw[q] at q';cases q';obtain⟨v,hv⟩:=heo;exact⟨v,by rw[hbe];exact hv⟩
  ·refine(ok b u q).stay (λc v hc r=>k c v ?_ r) (λc r=>by rw[qe (nown c b r)];exact r) λc xs r=>by rw[qe (ntup c xs r)];exact r
   rcases hc with rfl | hc
   ·exact hbe
   ·rintro rfl;rcases he with z | z
    ·exact nown c b hc z
    ·rw[hc] at z;cases z;exact hb rfl
end
structure Un(fs ex:List Addr)(H H':Hp)(h h':Heap):Prop where
 keep:∀b o,h.get? b=some o->H b=none->b∉fs->b∉ex->h'.get? b=some o
 slot:∀b o,h.get? b=some o->H b=none->b∈fs->b∉ex->∃sl,h'.get? b=some { o with slots:=sl }
 free:∀b o,h.get? b=some o->H b=none->b∉ex->H' b=none
 there:∀b o,h.get? b=some o->b∉ex->∃o',h'.get? b=some o'
 tups:∀b xs,H b=some (.tup xs)->H' b=some (.tup xs)
 frzs:∀b o u,H b=some (.frz o u)->H' b=some (.frz o u)
 tbls:∀b ps,H b=some (.tbl ps)->∃more,H' b=some (.tbl (ps++more))
section
variable{fs fs' ex ex':List Addr}{H H1 H2:Hp}{h h1 h2 h':Heap}{a x e:Addr}{o:HO}
theorem Un.any(u:Un fs ex H H1 h h1){b:Addr}{ob:Obj}(q:h.get? b=some ob)(n:H b=none)(hx:b∉ex):∃sl,h1.get? b=some { ob with slots:=sl }:=by
 by_cases hb:b∈fs
 ·exact u.slot b ob q n hb hx
 ·exact⟨ob.slots,u.keep b ob q n hb hx⟩
theorem Un.kept(k:∀b u,h.get? b=some u->h'.get? b=some u):Un fs ex H H h h':=
 ⟨λb ob q _ _ _=>k b ob q,λb ob q _ _ _=>⟨ob.slots,k b ob q⟩,λ_ _ _ n _=>n,λb ob q _=>⟨ob,k b ob q⟩,λ_ _ q=>q,λ_ _ _ q=>q,λ_ ps q=>⟨#[],by rw[q];simp⟩⟩
theorem Un.refl:Un fs ex H H h h:=Un.kept λ_ _ q=>q
theorem Un.laid(k:∀b u,h.get? b=some u->h'.get? b=some u)(hp:h.objs.size<=a)(hn:H a=none):Un fs ex H (upd H a o) h h' where
 keep:=λb u q _ _ _=>k b u q
 slot:=λb u q _ _ _=>⟨u.slots,k b u q⟩
 free:=λb u q n _=>by rw[qe (Nat.ne_of_lt (Nat.lt_of_lt_of_le (Heap.lt_size q) hp))];exact n
 there:=λb u q _=>⟨u,k b u q⟩
 tups:=λb xs q=>by rw[qe (qQ q hn)];exact q
 frzs:=λb u xs q=>by rw[qe (qQ q hn)];exact q
 tbls:=λb ps q=>⟨#[],by rw[qe (qQ q hn),q];simp⟩
theorem Un.write(mu:Mut (H x))(he:e=x\/H e=some (.own x))(k:∀b u,b≠e->h.get? b=some u->h'.get? b=some u)(heo:∃u,h'.get? e=some u):Un fs ex H (upd H x o) h h':=by
 have hx:∀b,H b=none->b≠x:=λb n z=>by subst z;rw[n] at mu;exact mu
 have hb:∀b,H b=none->b≠e:=λb n z=>by
  subst z;rcases he with r | r
  ·exact hx b n r
  ·rw[n] at r;cases r
 have hm:∀b u,H b=some u->¬ Mut (some u)->b≠x:=λb u q nm z=>by subst z;rw[q] at mu;exact nm mu
 refine⟨λb u q n _ _=>k b u (hb b n) q,λb u q n _ _=>⟨u.slots,k b u (hb b n) q⟩,λb u q n _=>by rw[qe (hx b n)];exact n,λb u q _=>?_,
  λb xs q=>by rw[qe (hm b _ q λz=>z)];exact q,λb u xs q=>by rw[qe (hm b _ q λz=>z)];exact q,λb ps q=>⟨#[],by rw[qe (hm b _ q λz=>z),q];simp⟩⟩
 by_cases hbe:b=e
 ·subst hbe;exact heo
 ·exact⟨u,k b u hbe q⟩
end
def trk(h:Heap)(H:Hp):List Addr:=(List.range h.objs.size).filter λa=>(H a).isSome
def qet(h:Heap)(H:Hp):Heap:=PySem.W.hideAll h (trk h H)
theorem qcs(h:Heap)(H:Hp):(qet h H).objs.size=h.objs.size:=PySem.W.hideAll_size _ _
theorem qeu{h:Heap}{H:Hp}{b:Addr}{o:Obj}(e:h.get? b=some o)(n:H b=none):(qet h H).get? b=some o:=
 PySem.W.hideAll_get _ e λhm=>by have q:(H b).isSome=true:=(List.mem_filter.mp hm).2;rw[n] at q;simp at q
theorem qgC{h:Heap}{H:Hp}{b:Addr}{o:Obj}(e:(qet h H).get? b=some o):h.get? b=some o/\H b=none:=by
 have e':h.get? b=some o:=PySem.W.of_hideAll (trk h H) e;refine⟨e',?_⟩
 cases q:H b with
 |none=>rfl
 |some x=>have hm:b∈trk h H:=List.mem_filter.mpr ⟨List.mem_range.mpr (Heap.lt_size e'),by simp[q]⟩;have z:(qet h H).get? b=none:=PySem.W.hideAll_none (trk h H) hm;rw[z] at e;cases e
end L2
namespace L2
open PySem PySem.Spec PyProof.Rows
structure Mod(K:Frag)(mg:PR)(base:Heap):Prop where
 kin:K.In base
 glob:base.Ns mainGlobals mg
 blt:∃mb,base.Ns builtinsNs mb/\∀x:Str,x≠"__name__"->mb x=bootBuiltins x
 nolimit:base.NoLimit
structure Cx where
 prog:Program
 w:World
 K:Frag
 mg:PR
 base:Heap
 A:Around
 N:List Str
 s₀:Shared
 Hv:Hp
 env:Env
 outer:List Env
 stack:List Env
 ex:List Addr
 fn:Str->Bool
 calm:Bool
 pn:PP
 xe:PQ
def frs(l:List Env):List Addr:=l.filterMap (·.frame)
abbrev Cx.fs(X:Cx):List Addr:=frs X.outer
noncomputable def Vis(sc:Scope)(x:Str):Prop:=sc.names.lookup x=some .local\/sc.names.lookup x=some .cell\/sc.names.lookup x=some .free
def Loc(sc:Scope)(x:Str):Prop:=sc.names.lookup x=some .local\/sc.names.lookup x=some .cell
noncomputable def qnw(env:Env)(h:Heap)(m:PR)(x:Str)(u:Value):Prop:=
 (env.kindOf x=some .local/\m x=some u)\/((env.kindOf x=some .cell\/env.kindOf x=some .free)/\∃c,env.cells.lookup x=some c/\h.IsCell c (some u))
structure Cx.Ok(X:Cx):Prop where
 mod:Mod X.K X.mg X.base
 kind:X.env.scope.kind=.function
 glob:X.env.globals=mainGlobals
 blt:X.env.builtins=builtinsNs
 above:X.s₀.heap.objs.size<=X.env.locals
 inj:∀x y c,X.env.cells.lookup x=some c->X.env.cells.lookup y=some c->x=y
 has:∀x,(X.env.kindOf x=some .cell\/X.env.kindOf x=some .free)->∃c,X.env.cells.lookup x=some c
 cab:∀x c,X.fn x=true->X.env.cells.lookup x=some c->X.s₀.heap.objs.size<=c
 hd:X.calm=true->X.A.handled=none
 frames:X.A.frames=some X.stack
 stk:X.stack=X.outer\/(X.stack=X.env::X.outer/\X.env.frame=some X.env.locals)
 exf:∀b∈X.ex,b≠X.env.locals/\∀x c,X.env.cells.lookup x=some c->c≠b
 bs:∀b o,X.base.get? b=some o->X.s₀.heap.get? b=some o/\X.Hv b=none
 bsz:X.base.objs.size<=X.s₀.heap.objs.size
 noex:∀b o,X.base.get? b=some o->b∉X.ex
 exfs:∀b∈X.ex,b∉X.fs
 funs:X.s₀.heap.FunFrames X.base X.outer
 frf:∀b∈X.fs,X.Hv b=none
structure Inv(X:Cx)(pins:PP)(σ:List (Option V))(H:Hp)(s:Shared):Prop where
 ok:X.Ok
 os:s.os=X.s₀.os
 bare:AllBare s.gens
 base:Un X.fs X.ex X.Hv H X.s₀.heap s.heap
 loc:∃m,s.heap.Ns X.env.locals m/\∀(i:Nat) (x:Str) (v:V),X.N[i]?=some x->σ[i]?=some (some v)->Vis X.env.scope x->∃u,qH v u/\qnw X.env s.heap m x u
 cell:∀x c,X.env.cells.lookup x=some c->∃v,s.heap.IsCell c v
 free:H X.env.locals=none
 freeC:∀x c,X.env.cells.lookup x=some c->H c=none
 pin:∀p∈X.pn++pins,s.heap.get? p.1=some p.2/\H p.1=none/\p.1≠X.env.locals/\p.1∉X.fs/\∀v,p.2.data≠.cell v
 hok:HOk X.prog X.w H s.heap
 len:σ.length=X.N.length
section
variable{X:Cx}{pins:PP}{σ:List (Option V)}{H H':Hp}{s:Shared}{h':Heap}
theorem Cx.Ok.nofr(ok:X.Ok){b:Addr}{o:Obj}(e:X.base.get? b=some o):b∉X.fs:=λhb=>by
 have:=(ok.funs.mem hb).1
 rw[e] at this;cases this
theorem Inv.bs(I:Inv X pins σ H s):∀b o,X.base.get? b=some o->s.heap.get? b=some o/\H b=none:=λb o e=>⟨I.base.keep b o (I.ok.bs b o e).1 (I.ok.bs b o e).2 (I.ok.nofr e) (I.ok.noex b o e),I.base.free b o (I.ok.bs b o e).1 (I.ok.bs b o e).2 (I.ok.noex b o e)⟩
theorem Inv.bk(I:Inv X pins σ H s):∀b o,X.base.get? b=some o->s.heap.get? b=some o:=λb o e=>(I.bs b o e).1
theorem Inv.mod(I:Inv X pins σ H s):Mod X.K X.mg X.base:=I.ok.mod
theorem Inv.kIn(I:Inv X pins σ H s):X.K.In s.heap:=I.ok.mod.kin.keeps I.bk
theorem Inv.lt(I:Inv X pins σ H s):X.env.locals < s.heap.objs.size:=let ⟨_,hn,_⟩:=I.loc;hn.lt
theorem Inv.sz(I:Inv X pins σ H s):X.s₀.heap.objs.size<=s.heap.objs.size:=Nat.le_trans I.ok.above (Nat.le_of_lt I.lt)
theorem Inv.nofs(I:Inv X pins σ H s){a:Addr}(h:s.heap.objs.size<=a):a∉X.fs:=λhb=>by obtain⟨_,o,ho,_⟩:=I.ok.funs.mem hb;exact absurd (Nat.lt_of_lt_of_le (Heap.lt_size ho) (Nat.le_trans I.sz h)) (Nat.lt_irrefl _)
theorem Inv.cne(I:Inv X pins σ H s):∀x c,X.env.cells.lookup x=some c->c≠X.env.locals:=λx c e z=>by obtain⟨v,o,ho,hd⟩:=I.cell x c e;obtain⟨m,⟨o',es,ep,ho',hd',_⟩,_⟩:=I.loc;rw[z,ho'] at ho;cases ho;rw[hd'] at hd;cases hd
theorem Inv.funs(I:Inv X pins σ H s):s.heap.FunFrames X.base X.outer:=by
 have all:∀(l:List Env),(∀b∈frs l,b∈X.fs)->X.s₀.heap.FunFrames X.base l->s.heap.FunFrames X.base l:=by
  intro l
  induction l with
  |nil=>intro _ _;trivial
  |cons env r ih=>intro hs hl;obtain⟨hk,⟨L,o,hf,hn,ho,hd⟩,hr⟩:=hl;have hL:L∈X.fs:=hs L (by unfold frs;rw[List.filterMap_cons,hf];exact List.mem_cons_self);obtain⟨sl,e⟩:=I.base.slot L o ho (I.ok.frf L hL) hL λz=>I.ok.exfs L z hL;exact⟨hk,⟨L,_,hf,hn,e,hd⟩,ih (λb hb=>hs b (by unfold frs;rw[List.filterMap_cons,hf];exact List.mem_cons_of_mem _ hb)) hr⟩
 exact all X.outer (λ_ hb=>hb) I.ok.funs
theorem Inv.stack(I:Inv X pins σ H s):s.heap.FunFrames X.base X.stack:=by
 rcases I.ok.stk with e | ⟨e,hf⟩
 ·rw[e];exact I.funs
 ·rw[e];obtain⟨m,hn,_⟩:=I.loc;refine .cons (by rw[I.ok.kind];decide) hf hn ?_ I.funs;exact Heap.get?_none_of_le (Nat.le_trans I.ok.bsz I.ok.above)
theorem Inv.stkSub(I:Inv X pins σ H s):∀b∈frs X.stack,b∈X.env.locals::X.fs:=λb hb=>by
 rcases I.ok.stk with e | ⟨e,hf⟩
 ·rw[e] at hb;exact List.mem_cons_of_mem _ hb
 ·rw[e] at hb;unfold frs at hb;rw[List.filterMap_cons,hf] at hb;exact hb
theorem Inv.stkFree(I:Inv X pins σ H s):∀b∈frs X.stack,H b=none:=λb hb=>by
 rcases List.mem_cons.mp (I.stkSub b hb) with e | hb
 ·rw[e];exact I.free
 ·obtain⟨_,o,ho,_⟩:=I.ok.funs.mem hb;exact I.base.free b o ho (I.ok.frf b hb) λz=>I.ok.exfs b z hb
theorem Inv.step{g':Array GenState}{t':Nat}{d':Drawn}{ch:List Addr}(I:Inv X pins σ H s)
  (hch:∀b∈ch,(b∈X.ex\/X.s₀.heap.objs.size<=b)/\b≠X.env.locals/\(∀x c,X.env.cells.lookup x=some c->c≠b)/\∀p∈X.pn++pins,p.1≠b)
  (keep:∀b o,b≠X.env.locals->b∉X.fs->b∉ch->s.heap.get? b=some o->H b=none->h'.get? b=some o)
  (slot:∀b o,b≠X.env.locals->b∈X.fs->b∉ch->s.heap.get? b=some o->H b=none->∃sl,h'.get? b=some { o with slots:=sl }) (free:∀b o,b∉ch->s.heap.get? b=some o->H b=none->H' b=none)
  (there:∀b o,b∉ch->s.heap.get? b=some o->∃o',h'.get? b=some o')
  (tups:∀b xs,H b=some (.tup xs)->H' b=some (.tup xs)) (frzs:∀b o u,H b=some (.frz o u)->H' b=some (.frz o u)) (tbls:∀b ps,H b=some (.tbl ps)->∃more,H' b=some (.tbl (ps++more)))
  (ns:∀m,s.heap.Ns X.env.locals m->h'.Ns X.env.locals m) (hok:HOk X.prog X.w H' h') (hg:AllBare g') :
  Inv X pins σ H' { s with heap:=h',gens:=g',drawn:=d',toks:=t' }:=by
 have neL:∀b o,X.s₀.heap.get? b=some o->b≠X.env.locals:=λb o e=>Nat.ne_of_lt (Nat.lt_of_lt_of_le (Heap.lt_size e) I.ok.above)
 have neC:∀b o,X.s₀.heap.get? b=some o->b∉X.ex->b∉ch:=λb o e hx hb=>by
  rcases (hch b hb).1 with z | z
  ·exact hx z
  ·exact absurd (Nat.lt_of_lt_of_le (Heap.lt_size e) z) (Nat.lt_irrefl _)
 have cellK:∀x c,X.env.cells.lookup x=some c->∀v,s.heap.IsCell c v->h'.IsCell c v:=λx c e v ⟨o,ho,hd⟩=>by
  have nch:c∉ch:=λz=>(hch c z).2.2.1 x c e rfl
  by_cases hc:c∈X.fs
  ·obtain⟨sl,q⟩:=slot c o (I.cne x c e) hc nch ho (I.freeC x c e);exact⟨_,q,hd⟩
  ·exact⟨o,keep c o (I.cne x c e) hc nch ho (I.freeC x c e),hd⟩
 refine⟨I.ok,I.os,hg,⟨λb o e n hb hx=>?_,λb o e n hb hx=>?_,λb o e n hx=>?_,λb o e hx=>?_,λb xs e=>tups b xs (I.base.tups b xs e),λb o xs e=>frzs b o xs (I.base.frzs b o xs e),λb ps e=>?_⟩,?_,λx c e=>?_,?_,λx c e=>?_,λp hp=>?_,hok,I.len⟩
 ·exact keep b o (neL b o e) hb (neC b o e hx) (I.base.keep b o e n hb hx) (I.base.free b o e n hx)
 ·obtain⟨sl,e1⟩:=I.base.slot b o e n hb hx;obtain⟨sl',e2⟩:=slot b _ (neL b o e) hb (neC b o e hx) e1 (I.base.free b o e n hx);exact⟨sl',e2⟩
 ·obtain⟨o',e1⟩:=I.base.there b o e hx;exact free b o' (neC b o e hx) e1 (I.base.free b o e n hx)
 ·obtain⟨o',e1⟩:=I.base.there b o e hx;exact there b o' (neC b o e hx) e1
 ·obtain⟨m1,e1⟩:=I.base.tbls b ps e;obtain⟨m2,e2⟩:=tbls b _ e1;exact⟨m1++m2,by rw[e2,Array.append_assoc]⟩
 ·obtain⟨m,hn,hl⟩:=I.loc;refine⟨m,ns m hn,λi x v e1 e2 e3=>?_⟩;obtain⟨u,r,l⟩:=hl i x v e1 e2 e3;refine⟨u,r,?_⟩;rcases l with l | ⟨k,c,e,z⟩
  ·exact .inl l
  ·exact .inr ⟨k,c,e,cellK x c e _ z⟩
 ·obtain⟨v,z⟩:=I.cell x c e;exact⟨v,cellK x c e v z⟩
 ·obtain⟨m,⟨o,_,_,ho,_⟩,_⟩:=I.loc;exact free _ o (λz=>(hch _ z).2.1 rfl) ho I.free
 ·obtain⟨v,o,ho,hd⟩:=I.cell x c e;exact free c o (λz=>(hch c z).2.2.1 x c e rfl) ho (I.freeC x c e)
 ·obtain⟨e,n,ne,nf,d⟩:=I.pin p hp;have nch:p.1∉ch:=λz=>(hch p.1 z).2.2.2 p hp rfl;exact⟨keep p.1 p.2 ne nf nch e n,free p.1 p.2 nch e n,ne,nf,d⟩
theorem Inv.un{t':Nat}(I:Inv X pins σ H s)(u:Un X.fs [] H H' s.heap h')(hok:HOk X.prog X.w H' h'):Inv X pins σ H' { s with heap:=h',toks:=t' }:=by
 obtain⟨m,⟨o,es,ep,ho,r⟩,_⟩:=id I.loc;obtain⟨sl,hL⟩:=u.any ho I.free (by simp)
 exact I.step (g':=s.gens) (d':=s.drawn) (ch:=[]) (λ_ z=>nomatch z) (λb o _ hb _ e n=>u.keep b o e n hb (by simp)) (λb o _ hb _ e n=>u.slot b o e n hb (by simp)) (λb o _ e n=>u.free b o e n (by simp)) (λb o _ e=>u.there b o e (by simp)) u.tups u.frzs u.tbls (λm' hm=>by obtain⟨o',es',ep',ho',r'⟩:=hm;rw[ho] at ho';cases ho';exact⟨_,es',ep',hL,r'⟩) hok I.bare
theorem Inv.call{g':Array GenState}{t':Nat}{d':Drawn}{ch:List Addr}(I:Inv X pins σ H s)(u:Un (frs X.stack) ch H H' s.heap h')(hok:HOk X.prog X.w H' h')(hg:AllBare g')
  (hch:∀b∈ch,(b∈X.ex\/X.s₀.heap.objs.size<=b)/\b≠X.env.locals/\(∀x c,X.env.cells.lookup x=some c->c≠b)/\∀p∈X.pn++pins,p.1≠b) :
  Inv X pins σ H' { s with heap:=h',gens:=g',drawn:=d',toks:=t' }:=by
 obtain⟨m,⟨o,es,ep,ho,r⟩,_⟩:=id I.loc;obtain⟨sl,hL⟩:=u.any ho I.free λz=>(hch _ z).2.1 rfl
 exact I.step (ch:=ch) hch (λb o hL hb hc e n=>u.keep b o e n (λz=>(List.mem_cons.mp (I.stkSub b z)).elim hL hb) hc) (λb o _ _ hc e n=>u.any e n hc) (λb o hc e n=>u.free b o e n hc) (λb o hc e=>u.there b o e hc) u.tups u.frzs u.tbls (λm' hm=>by obtain⟨o',es',ep',ho',r'⟩:=hm;rw[ho] at ho';cases ho';exact⟨_,es',ep',hL,r'⟩) hok hg
theorem Inv.turned{t':Nat}{it:Addr}(I:Inv X pins σ H s)(k:∀b o,b≠it->s.heap.get? b=some o->h'.get? b=some o)(hn:H it=none)(hL:it≠X.env.locals)
  (h1:it∈X.ex\/X.s₀.heap.objs.size<=it) (h2:∀x c,X.env.cells.lookup x=some c->c≠it) (h3:∀p∈X.pn++pins,p.1≠it):Inv X pins σ H { s with heap:=h',toks:=t' }:=by
 have nit:∀b u,H b=some u->b≠it:=λb u e z=>by rw[z,hn] at e;cases e
 refine I.step (g':=s.gens) (d':=s.drawn) (ch:=[it]) (λb hb=>?_) (λb o _ _ hc e _=>k b o (λz=>hc (by simp[z])) e) (λb o _ _ hc e _=>⟨o.slots,k b o (λz=>hc (by simp[z])) e⟩) (λ_ _ _ _ n=>n)
  (λb o hc e=>⟨o,k b o (λz=>hc (by simp[z])) e⟩) (λ_ _ e=>e) (λ_ _ _ e=>e) (λb ps e=>⟨#[],by rw[e];simp⟩) (λm hm=>?_) (λb u e=>?_) I.bare
 ·have e:b=it:=by simpa using hb
  subst e;exact⟨h1,hL,h2,h3⟩
 ·obtain⟨o,es,ep,ho,r⟩:=hm;exact⟨o,es,ep,k _ o (Ne.symm hL) ho,r⟩
 ·refine(I.hok b u e).stay (λc v hc q=>k c v ?_ q) (λ_ q=>q) λ_ _ q=>q;rcases hc with z | z
  ·rw[z];exact nit b u e
  ·exact nit c _ z
theorem Inv.tok(I:Inv X pins σ H s)(t:Nat):Inv X pins σ H { s with toks:=t }:=I.un (h':=s.heap) (t':=t) Un.refl I.hok
theorem Inv.kept{t':Nat}(I:Inv X pins σ H s)(k:∀b u,s.heap.get? b=some u->h'.get? b=some u):Inv X pins σ H { s with heap:=h',toks:=t' }:=I.un (Un.kept k) (I.hok.kept k)
theorem Inv.laid{a:Addr}{o:HO}{t':Nat}(I:Inv X pins σ H s)(k:∀b u,s.heap.get? b=some u->h'.get? b=some u)(hp:s.heap.objs.size<=a)(new:qP X.prog X.w (upd H a o) h' a o) :
  Inv X pins σ (upd H a o) { s with heap:=h',toks:=t' }:=I.un (Un.laid k hp (I.hok.fresh hp)) (I.hok.laid k hp new)
theorem Inv.write{x e:Addr}{o:HO}{t':Nat}(I:Inv X pins σ H s)(mu:Mut (H x))(he:e=x\/H e=some (.own x))(k:∀b u,b≠e->s.heap.get? b=some u->h'.get? b=some u)(heo:∃u,h'.get? e=some u)
  (new:qP X.prog X.w (upd H x o) h' x o):Inv X pins σ (upd H x o) { s with heap:=h',toks:=t' }:=I.un (Un.write mu he k heo) (I.hok.write mu he k heo new)
theorem Inv.pins_of{pins':PP}(I:Inv X pins σ H s)(h:∀p∈pins',s.heap.get? p.1=some p.2/\H p.1=none/\p.1≠X.env.locals/\p.1∉X.fs/\∀v,p.2.data≠.cell v):Inv X pins' σ H s:=
 ⟨I.ok,I.os,I.bare,I.base,I.loc,I.cell,I.free,I.freeC,λp hp=>(List.mem_append.mp hp).elim (λz=>I.pin p (List.mem_append_left _ z)) (h p),I.hok,I.len⟩
theorem Y7{N:List Str}(hN:N.Nodup){i j:Nat}{x:Str}(a:N[i]?=some x)(b:N[j]?=some x):i=j:=by obtain⟨h1,e1⟩:=List.getElem?_eq_some_iff.mp a;obtain⟨h2,e2⟩:=List.getElem?_eq_some_iff.mp b;exact(List.getElem_inj hN).mp (e1.trans e2.symm)
theorem yE{M:Model}{A:Around}{E:PQ}{i:Nat}{x:Str}{v:V}{u:Value}{Q:Unit->Shared->Prop}(I:Inv X pins σ H s)(hN:X.N.Nodup)(hi:X.N[i]?=some x)(hx:Loc X.env.scope x)(r:qH v u)
  (h:∀s',Inv X pins (σ.set i (some v)) H s'->(∃a,Heap.SameBut a s.heap s'.heap/\(a=X.env.locals\/X.env.cells.lookup x=some a))->Q () s') (hf:X.fn x=true\/X.env.scope.names.lookup x=some .local:=by first | exact .inl rfl | exact .inr rfl | assumption):wpAny M A (storeName X.env x u) Q E s:=by
 obtain⟨m,hn,hl⟩:=id I.loc;have hcls:(X.env.scope.kind == .class||(X.env.scope.kind == .module&&X.env.locals != X.env.globals))=false:=by rw[I.ok.kind];rfl
 have hiσ:i < σ.length:=by rw[I.len];exact(List.getElem?_eq_some_iff.mp hi).1
 have cne:=I.cne
 have tracked:∀{a:Addr} {h':Heap},(∃o,s.heap.get? a=some o/\H a=none)->Heap.SameBut a s.heap h'->HOk X.prog X.w H h':=λ{a h'} ha hs b ob e=>by
  obtain⟨_,_,hfree⟩:=ha;refine(I.hok b ob e).stay (λc w' hc q=>(hs.2 c ?_).trans q) (λ_ q=>q) λ_ _ q=>q;rintro rfl;rcases hc with rfl | hc
  ·rw[hfree] at e;cases e
  ·rw[hfree] at hc;cases hc
 rcases hx with hk | hk
 ·refine wpAny_storeName_local hk hn (λh' hn' hs=>?_) hcls;obtain⟨oL,_,_,hoL,_⟩:=id hn;refine h _ ⟨I.ok,I.os,I.bare,⟨λb o e n hb hx=>?_,λb o e n hb hx=>?_,I.base.free,λb o e hx=>?_,I.base.tups,I.base.frzs,I.base.tbls⟩,⟨_,hn',λj y v' e1 e2 e3=>?_⟩,λy c e=>?_,I.free,I.freeC,λp hp=>?_,tracked ⟨oL,hoL,I.free⟩ hs,by simpa using I.len⟩ ⟨_,hs,.inl rfl⟩
  ·exact(hs.2 b (Nat.ne_of_lt (Nat.lt_of_lt_of_le (Heap.lt_size e) I.ok.above))).trans (I.base.keep b o e n hb hx)
  ·obtain⟨sl,e1⟩:=I.base.slot b o e n hb hx;exact⟨sl,(hs.2 b (Nat.ne_of_lt (Nat.lt_of_lt_of_le (Heap.lt_size e) I.ok.above))).trans e1⟩
  ·obtain⟨o',e1⟩:=I.base.there b o e hx;exact⟨o',(hs.2 b (Nat.ne_of_lt (Nat.lt_of_lt_of_le (Heap.lt_size e) I.ok.above))).trans e1⟩
  ·by_cases hj:j=i
   ·subst hj;rw[hi] at e1;cases e1;rw[List.getElem?_set_self hiσ] at e2;cases e2;exact⟨u,r,.inl ⟨hk,by simp⟩⟩
   ·rw[List.getElem?_set_ne (Ne.symm hj)] at e2;obtain⟨u',r',q⟩:=hl j y v' e1 e2 e3;refine⟨u',r',?_⟩;rcases q with ⟨k,e⟩ | ⟨k,c,e,z⟩
    ·refine .inl ⟨k,?_⟩
     have:y≠x:=λe=>hj (Y7 hN e1 (e▸hi))
     simp[this,e]
    ·exact .inr ⟨k,c,e,z.sameBut hs (cne y c e)⟩
  ·obtain⟨w',z⟩:=I.cell y c e;exact⟨w',z.sameBut hs (cne y c e)⟩
  ·obtain⟨e,n,ne,nf,d⟩:=I.pin p hp;exact⟨(hs.2 p.1 ne).trans e,n,ne,nf,d⟩
 ·have hfn:X.fn x=true:=by
   rcases hf with z | z
   ·exact z
   ·rw[z] at hk;cases hk
  obtain⟨c,hc⟩:=I.ok.has x (.inl hk);obtain⟨w',z⟩:=I.cell x c hc;refine wpAny_storeName_cell I.ok.kind hk hc z (λh' hc' hs=>?_);obtain⟨oc,hoc,hocd⟩:=id z;refine h { s with heap:=h' } ⟨I.ok,I.os,I.bare,⟨λb o e n hb hx=>?_,λb o e n hb hx=>?_,I.base.free,λb o e hx=>?_,I.base.tups,I.base.frzs,I.base.tbls⟩,⟨m,hn.sameBut hs (Ne.symm (cne x c hc)),λj y v' e1 e2 e3=>?_⟩,λy c' e=>?_,I.free,I.freeC,λp hp=>?_,tracked ⟨oc,hoc,I.freeC x c hc⟩ hs,by simpa using I.len⟩ ⟨c,hs,.inr hc⟩
  ·exact(hs.2 b (Nat.ne_of_lt (Nat.lt_of_lt_of_le (Heap.lt_size e) (I.ok.cab x c hfn hc)))).trans (I.base.keep b o e n hb hx)
  ·obtain⟨sl,e1⟩:=I.base.slot b o e n hb hx;exact⟨sl,(hs.2 b (Nat.ne_of_lt (Nat.lt_of_lt_of_le (Heap.lt_size e) (I.ok.cab x c hfn hc)))).trans e1⟩
  ·obtain⟨o',e1⟩:=I.base.there b o e hx;exact⟨o',(hs.2 b (Nat.ne_of_lt (Nat.lt_of_lt_of_le (Heap.lt_size e) (I.ok.cab x c hfn hc)))).trans e1⟩
  ·by_cases hj:j=i
   ·subst hj;rw[hi] at e1;cases e1;rw[List.getElem?_set_self hiσ] at e2;cases e2;exact⟨u,r,.inr ⟨.inl hk,c,hc,hc'⟩⟩
   ·rw[List.getElem?_set_ne (Ne.symm hj)] at e2;obtain⟨u',r',q⟩:=hl j y v' e1 e2 e3;refine⟨u',r',?_⟩;rcases q with q | ⟨k,c',e,z'⟩
    ·exact .inl q
    ·refine .inr ⟨k,c',e,z'.sameBut hs ?_⟩;rintro rfl;exact hj (Y7 hN e1 (I.ok.inj _ _ _ e hc▸hi))
  ·by_cases hcc:c'=c
   ·subst hcc;exact⟨_,hc'⟩
   ·obtain⟨w2,z2⟩:=I.cell y c' e;exact⟨w2,z2.sameBut hs hcc⟩
  ·obtain⟨e,n,ne,nf,d⟩:=I.pin p hp;refine⟨(hs.2 p.1 ?_).trans e,n,ne,nf,d⟩;intro q;rw[q,hoc] at e;have q':oc=p.2:=Option.some.inj e;exact d w' (by rw[<-q'];exact hocd)
theorem qaE{M:Model}{A:Around}{E:PQ}{i:Nat}{x:Str}{v:V}{u:Value}{Q:Unit->Shared->Prop}(I:Inv X pins σ H s)(hN:X.N.Nodup)(hi:X.N[i]?=some x)(hx:Loc X.env.scope x)(r:qH v u)
  (h:∀s',Inv X pins (σ.set i (some v)) H s'->Q () s') (hf:X.fn x=true\/X.env.scope.names.lookup x=some .local:=by first | exact .inl rfl | exact .inr rfl | assumption):wpAny M A (storeName X.env x u) Q E s:=
 yE I hN hi hx r (λs' I' _=>h s' I') hf
theorem Inv.call'{s':Shared}{ch:List Addr}(I:Inv X pins σ H s)(ho:s'.os=s.os)(u:Un (frs X.stack) ch H H' s.heap s'.heap)(hok:HOk X.prog X.w H' s'.heap)(hg:AllBare s'.gens)
  (hch:∀b∈ch,(b∈X.ex\/X.s₀.heap.objs.size<=b)/\b≠X.env.locals/\(∀x c,X.env.cells.lookup x=some c->c≠b)/\∀p∈X.pn++pins,p.1≠b):Inv X pins σ H' s':=by
 obtain⟨h',g',d',t',o'⟩:=s';have e:o'=s.os:=ho;subst e;exact I.call (g':=g') (t':=t') (d':=d') u hok hg hch
end
abbrev XK:=Value->Option Addr->Hp->Prop
abbrev St:=List (Option V)
abbrev VK:=V->Hp->Prop
abbrev TE:=St->Hp->VK->Prop
abbrev TT:=St->Hp->(Bool->Hp->Prop)->Prop
abbrev TA:=St->Hp->(List V->Hp->Prop)->Prop
structure Ends where
 nx:St->Hp->Prop
 rt:VK
 bk:St->Hp->Prop:=λ_ _=>False
 ct:St->Hp->Prop:=λ_ _=>False
abbrev TS:=Ends->St->Hp->Prop
noncomputable def EP(X:Cx)(pins:PP)(σ:St)(Q:VK)(u:Value)(s':Shared):Prop:=∃v H',Inv X pins σ H' s'/\qH v u/\Q v H'
noncomputable def TP(X:Cx)(pins:PP)(σ:St)(Q:Bool->Hp->Prop)(b:Bool)(s':Shared):Prop:=∃H',Inv X pins σ H' s'/\Q b H'
noncomputable def AP(X:Cx)(pins:PP)(σ:St)(Q:List V->Hp->Prop)(us:List Value)(s':Shared):Prop:=∃vs H',Inv X pins σ H' s'/\qx vs us/\Q vs H'
noncomputable def SP(X:Cx)(pins:PP)(D:Ends)(f:Flow)(s':Shared):Prop:=
 match f with
 |.next=>∃σ' H',Inv X pins σ' H' s'/\D.nx σ' H'
 |.brk=>∃σ' H',Inv X pins σ' H' s'/\D.bk σ' H'
 |.cont=>∃σ' H',Inv X pins σ' H' s'/\D.ct σ' H'
 |.ret u=>∃v σ' H',Inv X pins σ' H' s'/\qH v u/\D.rt v H'
noncomputable def PE(X:Cx)(e:Expr)(t:TE):Prop:=
 ∀(pins:PP) (s:Shared) (σ:St) (H:Hp) (Q:VK),Inv X pins σ H s->t σ H Q->wpAny (model X.prog X.w) X.A (eval e X.env) (EP X pins σ Q) X.xe s
noncomputable def PT(X:Cx)(e:Expr)(t:TT):Prop:=
 ∀(pins:PP) (s:Shared) (σ:St) (H:Hp) (Q:Bool->Hp->Prop),Inv X pins σ H s->t σ H Q->wpAny (model X.prog X.w) X.A (isTrue e X.env (eval e X.env)) (TP X pins σ Q) X.xe s
noncomputable def PW(X:Cx)(e:Expr)(t:TT):Prop:=
 ∀(whole:Sem Value) (pins:PP) (s:Shared) (σ:St) (H:Hp) (Q:Bool->Hp->Prop),Inv X pins σ H s->t σ H Q->wpAny (model X.prog X.w) X.A (isTrue e X.env whole) (TP X pins σ Q) X.xe s
theorem PW.pt{X:Cx}{e:Expr}{t:TT}(h:PW X e t):PT X e t:=h _
noncomputable def PA(X:Cx)(es:List Expr)(t:TA):Prop:=
 ∀(pos:Pos) (pins:PP) (s:Shared) (σ:St) (H:Hp) (Q:List V->Hp->Prop),Inv X pins σ H s->t σ H Q->wpAny (model X.prog X.w) X.A (spliced (backTo pos (starEach es X.env))) (AP X pins σ Q) X.xe s
noncomputable def PS(X:Cx)(st:Stmt)(t:TS):Prop:=
 ∀(pins:PP) (s:Shared) (σ:St) (H:Hp) (D:Ends),Inv X pins σ H s->t D σ H->wpAny (model X.prog X.w) X.A (exec st X.env) (SP X pins D) X.xe s
noncomputable def PSs(X:Cx)(st:List Stmt)(t:TS):Prop:=
 ∀(pins:PP) (s:Shared) (σ:St) (H:Hp) (D:Ends),Inv X pins σ H s->t D σ H->wpAny (model X.prog X.w) X.A (execs st X.env) (SP X pins D) X.xe s
theorem thn{α:Type}{t:Sem α}{Q Q':α->Shared->Prop}{M:Model}{A:Around}{E:PQ}{s:Shared}(h:wpAny M A t Q E s)(hQ:∀a s,Q a s->Q' a s):wpAny M A t Q' E s:=wpAny_mono h hQ λ_ _ x=>x
end L2
namespace L2
open PySem PySem.Spec PyProof.Rows
section
variable{X:Cx}
theorem bin{a b:Expr}{ta tb:TE}(ha:PE X a ta)(hb:PE X b tb){pins:PP}{s:Shared}{σ:St}{H:Hp}{R:V->V->Hp->Prop}(I:Inv X pins σ H s)(h:ta σ H λx H1=>tb σ H1 λy H2=>R x y H2)
  {α:Type} {Q:α->Shared->Prop} {f:Value->Value->Sem α}
  (hf:∀v u s2 x y H2,Inv X pins σ H2 s2->qH x v->qH y u->R x y H2->wpAny (model X.prog X.w) X.A (f v u) Q X.xe s2) :
  wpAny (model X.prog X.w) X.A (eval a X.env) (λv s₁=>wpAny (model X.prog X.w) X.A (eval b X.env) (λu s₂=>wpAny (model X.prog X.w) X.A (f v u) Q X.xe s₂) X.xe s₁) X.xe s:=by
 refine thn (ha pins s σ H _ I h) λv s1 hq1=>?_;obtain⟨x,H1,I1,r1,q1⟩:=hq1;refine thn (hb pins s1 σ H1 _ I1 q1) λu s2 hq1=>?_;obtain⟨y,H2,I2,r2,q2⟩:=hq1;exact hf v u s2 x y H2 I2 r1 r2 q2
def qlo(i:Nat):TE:=λσ H Q=>∃v,σ[i]?=some (some v)/\Q v H
def tC(v:V):TE:=λ_ H Q=>Q v H
theorem qaF{i:Nat}{x:Str}{pos:Pos}(hN:X.N[i]?=some x)(hv:Vis X.env.scope x)(hd:(x == ("__debug__" : Str))=false:=by decide)(hcd:(x == ("__classdict__" : Str))=false:=by decide):PE X (.Name x pos) (qlo i):=by
 intro pins s σ H Q I h;obtain⟨v,e,h⟩:=h;obtain⟨m,hn,hl⟩:=I.loc;obtain⟨u,r,l⟩:=hl i x v hN e hv;have fin:EP X pins σ Q u s:=⟨v,H,I,r,h⟩;rcases l with ⟨hk,hm⟩ | ⟨hk,c,hc,hcell⟩
 ·exact wpAny_Name (wpAny_loadName_local I.ok.kind hk hn hm fin) hd
 ·rcases hk with hk | hk
  ·exact wpAny_Name (wpAny_loadName_cell I.ok.kind hk hc hcell fin) hd
  ·exact wpAny_Name (wpAny_loadName_free I.ok.kind hk hc hcell fin hcd) hd
theorem YF{i j pos}:PE X (.Constant (.int i) j pos) (tC (.int i)):=λ_ _ _ H _ I h=>wpAny_Constant_int ⟨.int i,H,I.tok _,⟨_,rfl⟩,h⟩
theorem qlG{b j pos}:PE X (.Constant (.bool b) j pos) (tC (.bl b)):=λ_ _ _ H _ I h=>Constant_bool ⟨.bl b,H,I,rfl,h⟩
theorem qiJ{j pos}:PE X (.Constant .none j pos) (tC .non):=λ_ _ _ H _ I h=>Constant_none ⟨.non,H,I,rfl,h⟩
theorem qiK{x j pos}:PE X (.Constant (.str x) j pos) (tC (.str x)):=λ_ _ _ H _ I h=>Calls.Constant_str ⟨.str x,H,I.tok _,⟨_,rfl⟩,h⟩
def Gl(X:Cx)(x:Str):Prop:=X.env.kindOf x=some .globalImplicit
theorem z7{E:PQ}{pins:PP}{s:Shared}{σ:St}{H:Hp}{x:Str}{u:Value}{pos:Pos}{Q:PQ}(I:Inv X pins σ H s)(hg:Gl X x)(hm:X.mg x=some u)(h:Q u s)
  (hd:(x == ("__debug__" : Str))=false:=by decide):wpAny (model X.prog X.w) X.A (eval (.Name x pos) X.env) Q E s:=
 Calls.Name_function_global I.ok.kind hg (Calls.loadGlobal_global (by rw[I.ok.glob];exact I.mod.glob.keeps I.bk) hm h) hd
theorem Jl{E:PQ}{pins:PP}{s:Shared}{σ:St}{H:Hp}{x:Str}{u:Value}{pos:Pos}{Q:PQ}(I:Inv X pins σ H s)(hg:Gl X x)(hm:X.mg x=none)(hv:bootBuiltins x=some u)(h:Q u s)
  (hn:x≠"__name__":=by decide) (hd:(x == ("__debug__" : Str))=false:=by decide):wpAny (model X.prog X.w) X.A (eval (.Name x pos) X.env) Q E s:=by
 obtain⟨mb,h1,h2⟩:=I.mod.blt;exact Calls.Name_function_global I.ok.kind hg (Calls.loadGlobal_builtin (by rw[I.ok.glob];exact I.mod.glob.keeps I.bk) hm (by rw[I.ok.blt];exact h1.keeps I.bk) ((h2 x hn).trans hv) h) hd
theorem yu{x:Str}{v:V}{u:Value}{pos:Pos}(hg:Gl X x)(hm:X.mg x=some u)(r:qH v u)(hd:(x == ("__debug__" : Str))=false:=by decide):PE X (.Name x pos) (tC v):=
 λ_ _ _ H _ I h=>z7 I hg hm ⟨v,H,I,r,h⟩ hd
theorem y7{x:Str}{v:V}{u:Value}{pos:Pos}(hg:Gl X x)(hm:X.mg x=none)(hv:bootBuiltins x=some u)(r:qH v u)(hn:x≠"__name__":=by decide)(hd:(x == ("__debug__" : Str))=false:=by decide):PE X (.Name x pos) (tC v):=
 λ_ _ _ H _ I h=>Jl I hg hm hv ⟨v,H,I,r,h⟩ hn hd
variable{a b:Expr}{ta tb:TE}{pos:Pos}
def tB(t:TE):TT:=λσ H Q=>t σ H λx H1=>∃c,x=.bl c/\Q c H1
theorem QQ{e:Expr}{t:TE}(h:PE X e t)(he:∀whole,isTrue e X.env whole=(do let v<-whole;standAt e.pos;holding [v] (truthy v)):=by intro _;rfl):PT X e (tB t):=by intro pins s σ H Q I hw;refine isTrue_plain (thn (h pins s σ H _ I hw) λv s1 ⟨x,H1,I1,r1,q1⟩=>?_) (he _);obtain⟨d,rfl,q⟩:=q1;cases r1;exact wpAny_truthy_bool ⟨H1,I1,q⟩
variable{tA tB':TT}{rest:List Expr}
def qnx(t:TT):TT:=λσ H Q=>t σ H λc H1=>Q (!c) H1
theorem qgD(ha:PT X a tA):PW X (.BoolOp .And [a] pos) tA:=by
 intro wh pins s σ H Q I h;refine isTrue_and (thn (ha pins s σ H Q I h) λc s1 e=>?_)
 cases c with
 |true=>exact isTrue_and_nil e
 |false=>exact e
theorem qiL(ha:PT X a tA):PW X (.BoolOp .Or [a] pos) tA:=by
 intro wh pins s σ H Q I h;refine isTrue_or (thn (ha pins s σ H Q I h) λc s1 e=>?_)
 cases c with
 |false=>exact isTrue_or_nil e
 |true=>exact e
theorem YG(ha:PT X a tA):PT X (.UnaryOp .Not a pos) (qnx tA):=by intro pins s σ H Q I h;exact isTrue_not (ha pins s σ H (λc H1=>Q (!c) H1) I h)
noncomputable def qlH(ta tb:TE):TE:=λσ H Q=>ta σ H λx H1=>∃c,x=.bl c/\if c=true then tb σ H1 Q else Q (.bl false) H1
def qlI(ta:TE):TE:=λσ H Q=>ta σ H λx H1=>∃c,x=.bl c/\Q (.bl (!c)) H1
theorem qiM{op}{t:TE}(h:PE X a t):PE X (.BoolOp op [a] pos) t:=λpins s σ H Q I hw=>BoolOp_one (h pins s σ H Q I hw)
theorem qiN(ha:PE X a ta)(hb:PE X (.BoolOp .And (b::rest) pos) tb):PE X (.BoolOp .And (a::b::rest) pos) (qlH ta tb):=by
 intro pins s σ H Q I h;refine BoolOp_and (thn (ha pins s σ H _ I h) λv s1 hq1=>?_);obtain⟨x,H1,I1,r1,q1⟩:=hq1;obtain⟨c,rfl,q1⟩:=q1;cases r1;refine wpAny_truthy_bool ?_
 cases c with
 |true=>exact hb pins s1 σ H1 Q I1 q1
 |false=>exact⟨.bl false,H1,I1,rfl,q1⟩
theorem qiO(ha:PE X a ta):PE X (.UnaryOp .Not a pos) (qlI ta):=by intro pins s σ H Q I h;refine UnaryOp_ (thn (ha pins s σ H _ I h) λv s1 hq1=>?_);obtain⟨x,H1,I1,r1,q1⟩:=hq1;obtain⟨c,rfl,q1⟩:=q1;cases r1;exact not_of (wpAny_truthy_bool ⟨.bl (!c),H1,I1,rfl,q1⟩)
def tIf(t:TT)(ta tb:TE):TE:=λσ H Q=>t σ H λc H1=>if c=true then ta σ H1 Q else tb σ H1 Q
theorem qev{c:Expr}(hc:PT X c tA)(ha:PE X a ta)(hb:PE X b tb):PE X (.IfExp c a b pos) (tIf tA ta tb):=by
 intro pins s σ H Q I h;refine wpAny_IfExp (thn (hc pins s σ H _ I h) λd s1 hq1=>?_);obtain⟨H1,I1,q1⟩:=hq1
 cases d with
 |true=>exact ha pins s1 σ H1 Q I1 q1
 |false=>exact hb pins s1 σ H1 Q I1 q1
end
end L2
namespace L2
open PySem PySem.Spec PyProof.Rows
noncomputable def SqL(K:Frag)(H:Hp)(a:Addr)(xs:List V):Prop:=
 Rd H a (.lst xs)\/
  ∃(o:Obj) (its:Array Value) (n:Nat),K.lookup a=some o/\o.cls=.type "list"/\o.dict=none/\o.data=.seq its n/\its.size<=sizeLine/\qx xs its.toList
noncomputable def SqT(K:Frag)(H:Hp)(a:Addr)(xs:List V):Prop:=
 Rd H a (.tup xs)\/
  ∃(o:Obj) (its:Array Value) (n:Nat),K.lookup a=some o/\o.cls=.type "tuple"/\o.data=.seq its n/\its.size<=sizeLine/\qx xs its.toList
noncomputable def qny:Value->Option V
 |.none=>some .non
 |.bool b=>some (.bl b)
 |.int i _=>some (.int i)
 |.str x _=>some (.str x)
 |.bytes b _=>some (.byt b)
 |.float b _=>some (.flt b)
 |.ref a=>some (.ref a)
 |.type n=>some (.ty n)
 |_=>none
theorem qH.abs{x:V}{u:Value}(r:qH x u):qny u=some x:=by
 cases x with
 |non=>cases r;rfl
 |bl _=>cases r;rfl
 |int _=>obtain⟨t,rfl⟩:=r;rfl
 |str _=>obtain⟨t,rfl⟩:=r;rfl
 |byt _=>obtain⟨t,rfl⟩:=r;rfl
 |flt _=>obtain⟨t,rfl⟩:=r;rfl
 |ref _=>cases r;rfl
 |ty _=>cases r;rfl
theorem qH.inj{x y:V}{u:Value}(r:qH x u)(q:qH y u):x=y:=Option.some.inj (r.abs.symm.trans q.abs)
theorem qx.inj:∀{xs ys:List V} {us:List Value},qx xs us->qx ys us->xs=ys
 |_,_,_,.nil,.nil=>rfl
 | _,_,_,.cons r t,.cons r' t'=>by rw[r.inj r',qx.inj t t']
section
variable{X:Cx}{pins:PP}{σ:St}{H:Hp}{s:Shared}{a:Addr}{xs ys:List V}
theorem SqL.of{K:Frag}(h:H a=some (.lst xs)):SqL K H a xs:=.inl (.inl h)
theorem SqT.of{K:Frag}(h:H a=some (.tup xs)):SqT K H a xs:=.inl (.inl h)
theorem Inv.list(I:Inv X pins σ H s)(h:SqL X.K H a xs):∃its:List Value,qx xs its/\PlainL s.heap a its.toArray/\xs.length<=sizeLine:=by
 rcases h with h | ⟨o,its,n,hk,hc,hd,hs,hz,r⟩
 ·obtain⟨z,its,n,r,e⟩:=h.ok I.hok;exact⟨its,r,⟨_,n,e,rfl,rfl,rfl⟩,z⟩
 ·refine⟨its.toList,r,⟨o,n,I.kIn a o hk,hc,hd,by simpa using hs⟩,?_⟩;have e:=r.length;simp only[Array.length_toList] at e
  lia
theorem Inv.tuple(I:Inv X pins σ H s)(h:SqT X.K H a xs):∃its:List Value,qx xs its/\IsTup s.heap a its.toArray/\xs.length<=sizeLine:=by
 rcases h with h | ⟨o,its,n,hk,hc,hs,hz,r⟩
 ·obtain⟨z,its,r,p⟩:=h.ok I.hok;exact⟨its,r,p,z⟩
 ·refine⟨its.toList,r,⟨o,I.kIn a o hk,hc,n,by simpa using hs⟩,?_⟩;have e:=r.length;simp only[Array.length_toList] at e
  lia
theorem Inv.list_inj(I:Inv X pins σ H s)(h:SqL X.K H a xs)(h':SqL X.K H a ys):xs=ys:=by
 obtain⟨its,r,⟨o,n,e,_,_,d⟩,_⟩:=I.list h;obtain⟨its',r',⟨o',n',e',_,_,d'⟩,_⟩:=I.list h';rw[e] at e';cases e';rw[d] at d';injection d' with d1 _
 have:its=its':=by simpa using congrArg Array.toList d1
 subst this;exact r.inj r'
theorem Inv.tuple_inj(I:Inv X pins σ H s)(h:SqT X.K H a xs)(h':SqT X.K H a ys):xs=ys:=by
 obtain⟨its,r,⟨o,e,_,n,d⟩,_⟩:=I.tuple h;obtain⟨its',r',⟨o',e',_,n',d'⟩,_⟩:=I.tuple h';rw[e] at e';cases e';rw[d] at d';injection d' with d1 _
 have:its=its':=by simpa using congrArg Array.toList d1
 subst this;exact r.inj r'
end
abbrev Cx.wish(X:Cx)(E:PQ):Cx:={ X with xe:=E }
abbrev Cx.nox(X:Cx):Cx:=X.wish λ_ _=>False
theorem Cx.Ok.wish{X:Cx}(ok:X.Ok)(E:PQ):(X.wish E).Ok:=
 ⟨ok.mod,ok.kind,ok.glob,ok.blt,ok.above,ok.inj,ok.has,ok.cab,ok.hd,ok.frames,ok.stk,ok.exf,ok.bs,ok.bsz,ok.noex,ok.exfs,ok.funs,ok.frf⟩
theorem Cx.Ok.unwish{X:Cx}{E:PQ}(ok:(X.wish E).Ok):X.Ok:=
 ⟨ok.mod,ok.kind,ok.glob,ok.blt,ok.above,ok.inj,ok.has,ok.cab,ok.hd,ok.frames,ok.stk,ok.exf,ok.bs,ok.bsz,ok.noex,ok.exfs,ok.funs,ok.frf⟩
section
variable{X:Cx}{pins:PP}{σ:St}{H:Hp}{s:Shared}{E:PQ}
theorem Inv.wish(I:Inv X pins σ H s)(E:PQ):Inv (X.wish E) pins σ H s:=⟨I.ok.wish E,I.os,I.bare,I.base,I.loc,I.cell,I.free,I.freeC,I.pin,I.hok,I.len⟩
theorem Inv.unwish(I:Inv (X.wish E) pins σ H s):Inv X pins σ H s:=⟨I.ok.unwish,I.os,I.bare,I.base,I.loc,I.cell,I.free,I.freeC,I.pin,I.hok,I.len⟩
theorem SP.unwish{D:Ends}{f:Flow}{s':Shared}(h:SP (X.wish E) pins D f s'):SP X pins D f s':=by
 cases f with
 |next=>obtain⟨σ',H',I,q⟩:=h;exact⟨σ',H',I.unwish,q⟩
 |brk=>obtain⟨σ',H',I,q⟩:=h;exact⟨σ',H',I.unwish,q⟩
 |cont=>obtain⟨σ',H',I,q⟩:=h;exact⟨σ',H',I.unwish,q⟩
 |ret u=>obtain⟨v,σ',H',I,r,q⟩:=h;exact⟨v,σ',H',I.unwish,r,q⟩
theorem PT.nox{e:Expr}{t:TT}(h:PT X.nox e t):PT X e t:=λpins s σ H Q I hw=>wpAny_mono (h pins s σ H Q (I.wish _) hw) (λ_ _ ⟨H',I',q⟩=>⟨H',I'.unwish,q⟩) λ_ _ z=>False.elim z
theorem PSs.nox{st:List Stmt}{t:TS}(h:PSs X.nox st t):PSs X st t:=λpins s σ H D I hw=>wpAny_mono (h pins s σ H D (I.wish _) hw) (λ_ _ q=>q.unwish) λ_ _ z=>False.elim z
end
section
variable{X:Cx}{st:Stmt}{rest:List Stmt}{t u:TS}{e:Expr}{te:TE}{pos:Pos}
def qiP:TS:=λD σ H=>D.nx σ H
def qnz(t u:TS):TS:=λD σ H=>t { D with nx:=u D } σ H
theorem yv:PSs X [] qiP:=λ_ _ σ H _ I h=>wpAny_execs_nil ⟨σ,H,I,h⟩
theorem qI(h1:PS X st t)(h2:PSs X rest u):PSs X (st::rest) (qnz t u):=by
 intro pins s σ H D I h;refine wpAny_execs_cons (thn (h1 pins s σ H { D with nx:=u D } I h) λf s1 q=>?_)
 cases f with
 |next=>obtain⟨σ',H',I',q⟩:=q;exact h2 pins s1 σ' H' D I' q
 |ret v=>exact q
 |brk=>exact q
 |cont=>exact q
theorem zC(h1:PS X st t):PSs X [st] t:=by
 intro pins s σ H D I h;refine wpAny_execs_cons (thn (h1 pins s σ H D I h) λf s1 q=>?_)
 cases f with
 |next=>exact wpAny_execs_nil q
 |ret v=>exact q
 |brk=>exact q
 |cont=>exact q
theorem qgE:PS X (.Pass pos) qiP:=λ_ _ σ H _ I h=>wpAny_Pass ⟨σ,H,I,h⟩
theorem Inv.quiet{pins:PP}{σ:St}{H:Hp}{s:Shared}(I:Inv X pins σ H s):interactive X.env=false:=by simp[interactive,I.ok.kind]
def qlJ(te:TE):TS:=λD σ H=>te σ H λ_ H1=>D.nx σ H1
theorem jP(he:PE X e te)(hs:swapsWith e none pos.line X.env=pure false:=by rfl):PS X (.Expr e pos) (qlJ te):=by intro pins s σ H D I h;exact wpAny_Expr_any (thn (he pins s σ H _ I h) λv s1 ⟨x,H1,I1,r1,q1⟩=>⟨σ,H1,I1,q1⟩) I.quiet hs
def qnA(te:TE):TS:=λD σ H=>te σ H D.rt
theorem qct(he:PE X e te):PS X (.Return (some e) pos) (qnA te):=by intro pins s σ H D I h;exact wpAny_Return_some (thn (he pins s σ H _ I h) λv s1 ⟨x,H1,I1,r1,q1⟩=>⟨x,σ,H1,I1,r1,q1⟩)
def qlK:TS:=λD _ H=>D.rt .non H
theorem qgF:PS X (.Return none pos) qlK:=λ_ _ σ H _ I h=>wpAny_Return_none ⟨.non,σ,H,I,rfl,h⟩
def qnB(c:TT)(t u:TS):TS:=λD σ H=>c σ H λb H1=>if b=true then t D σ H1 else u D σ H1
theorem Z2{c:Expr}{a b:List Stmt}{tc:TT}(hc:PT X c tc)(ha:PSs X a t)(hb:PSs X b u):PS X (.If c a b pos) (qnB tc t u):=by
 intro pins s σ H D I h;refine wpAny_If (thn (hc pins s σ H _ I h) λd s1 hq1=>?_);obtain⟨H1,I1,q1⟩:=hq1
 cases d with
 |true=>exact ha pins s1 σ H1 D I1 q1
 |false=>exact hb pins s1 σ H1 D I1 q1
def qiQ:TS:=λ_ _ _=>False
theorem yF:PS X st qiQ:=λ_ _ _ _ _ _ h=>h.elim
end
abbrev TG:=V->St->Hp->(St->Hp->Prop)->Prop
abbrev TGs:=List V->St->Hp->(St->Hp->Prop)->Prop
noncomputable def PG(X:Cx)(target:Expr)(t:TG):Prop:=
 ∀(pins:PP) (s:Shared) (σ:St) (H:Hp) (v:V) (u:Value) (Q:St->Hp->Prop),Inv X pins σ H s->qH v u->t v σ H Q->
  wpAny (model X.prog X.w) X.A (assign target X.env u) (λ_ s'=>∃σ' H',Inv X pins σ' H' s'/\Q σ' H') X.xe s
noncomputable def PGs(X:Cx)(ts:List Expr)(t:TGs):Prop:=
 ∀(pins:PP) (s:Shared) (σ:St) (H:Hp) (vs:List V) (us:List Value) (Q:St->Hp->Prop),Inv X pins σ H s->qx vs us->t vs σ H Q->
  wpAny (model X.prog X.w) X.A (assignInOrder ((assignEach ts X.env).map (·.2)) us) (λ_ s'=>∃σ' H',Inv X pins σ' H' s'/\Q σ' H') X.xe s
abbrev qlL:=V->V->V->Hp->(Hp->Prop)->Prop
noncomputable def qmU(X:Cx)(t:qlL):Prop:=
 ∀(pins:PP) (s:Shared) (σ:St) (H:Hp) (o i v:V) (ov iv u:Value) (Q:Hp->Prop),Inv X pins σ H s->qH o ov->qH i iv->qH v u->t o i v H Q->
  wpAny (model X.prog X.w) X.A (setItem ov iv u) (λ_ s'=>∃H',Inv X pins σ H' s'/\Q H') X.xe s
section
variable{X:Cx}{pos:Pos}
def qew(i:Nat):TG:=λv σ H Q=>Q (σ.set i (some v)) H
theorem qgG{i:Nat}{x:Str}(hN:X.N.Nodup)(hi:X.N[i]?=some x)(hx:Loc X.env.scope x)(hf:X.fn x=true\/X.env.scope.names.lookup x=some .local:=by first | exact .inl rfl | exact .inr rfl | assumption):PG X (.Name x pos) (qew i):=by intro pins s σ H v u Q I r h;exact wpAny_assign_Name (qaE I hN hi hx r (λs' I'=>⟨_,H,I',h⟩) hf)
def qnC:TGs:=λvs σ H Q=>vs=[]/\Q σ H
def qlM(t:TG)(u:TGs):TGs:=λvs σ H Q=>∃v r,vs=v::r/\t v σ H λσ' H'=>u r σ' H' Q
theorem qgH:PGs X [] qnC:=by intro pins s σ H vs us Q I r h;obtain⟨e,h⟩:=h;subst e;cases r;exact assignInOrder_nil ⟨σ,H,I,h⟩
theorem qex{e:Expr}{es:List Expr}{t:TG}{u:TGs}(h1:PG X e t)(h2:PGs X es u)
  (hs:(assignEach (e::es) X.env).map (·.2)=assign e X.env::(assignEach es X.env).map (·.2):=by rfl):PGs X (e::es) (qlM t u):=by
 intro pins s σ H vs us Q I r h;obtain⟨v,vr,e1,h⟩:=h;subst e1
 cases r with
 |cons r rr=>rw[hs];refine assignInOrder_cons (thn (h1 pins s σ H _ _ _ I r h) λ_ s1 hq1=>?_);obtain⟨σ1,H1,I1,q1⟩:=hq1;exact h2 pins s1 σ1 H1 _ _ Q I1 rr q1
noncomputable def qnD(K:Frag)(n:Nat)(t:TGs):TG:=λv σ H Q=>∃a xs,v=.ref a/\SqT K H a xs/\xs.length=n/\t xs σ H Q
theorem qiR{es:List Expr}{k:Nat}{t:TGs}{n:Nat}(hc:X.calm=true)(h:PGs X es t)
  (hn:(assignEach es X.env).length=n:=by rfl) (hst:(assignEach es X.env).findIdx? (·.1)=none:=by rfl):PG X (.Tuple es k pos) (qnD X.K n t):=by
 intro pins s σ H v u Q I r hw;obtain⟨a,xs,e1,hq,hl,hw⟩:=hw;subst e1;cases r;obtain⟨its,rv,ht,hz⟩:=I.tuple hq;refine assign_Tuple_tuple (I.ok.hd hc) ht (by simp[hn,<-hl,rv.length]) hst λh' hx=>?_;have I1:Inv X pins σ H { s with heap:=h' }:=I.kept (t':=s.toks) λb o e=>hx b o (Nat.ne_of_lt (Heap.lt_size e)) e;exact h pins _ σ H xs _ Q I1 (by simpa using rv) hw
noncomputable def qnE(to ti:TE)(t:qlL):TG:=λv σ H Q=>to σ H λo H1=>ti σ H1 λi H2=>t o i v H2 λH3=>Q σ H3
theorem qiS{o i:Expr}{to ti:TE}{t:qlL}(ho:PE X o to)(hi:PE X i ti)(hs:qmU X t)
  (ha:∀v,assign (.Subscript o i pos) X.env v=(do
   let ov<-holding [v] (eval o X.env)
   let iv<-holding [v,ov] (eval i X.env)
   standAt pos
   holding [v,ov,iv] (setItem ov iv v)
   release [v,ov,iv] []):=by intro _;rfl):PG X (.Subscript o i pos) (qnE to ti t):=by
 intro pins s σ H v u Q I r h;rw[ha];refine wpAny_bind (wpAny_holding (thn (ho pins s σ H _ I h) λov s1 hq1=>?_));obtain⟨x,H1,I1,r1,q1⟩:=hq1;refine wpAny_bind (wpAny_holding (thn (hi pins s1 σ H1 _ I1 q1) λiv s2 hq1=>?_));obtain⟨y,H2,I2,r2,q2⟩:=hq1;refine wpAny_bind (wpAny_standAt (wpAny_bind (wpAny_holding (thn (hs pins s2 σ H2 x y v ov iv u _ I2 r1 r2 r q2) λ_ s3 hq1=>?_))));obtain⟨H3,I3,q3⟩:=hq1;exact wpAny_release ⟨σ,H3,I3,q3⟩
def qlN(te:TE)(g:TG):TS:=λD σ H=>te σ H λx H1=>g x σ H1 D.nx
theorem qiT{tg e:Expr}{te:TE}{g:TG}(he:PE X e te)(hg:PG X tg g)(hs:swapsWithSole [tg] e pos.line X.env=pure false:=by rfl)(hw:swappedStores [tg] e X.env=pure none:=by rfl)
  (h1:(assignEach [tg] X.env).map (·.2)=[assign tg X.env]:=by rfl):PS X (.Assign [tg] e pos) (qlN te g):=by
 intro pins s σ H D I h;refine wpAny_Assign_stores (thn (he pins s σ H _ I h) λv s1 ⟨x,H1,I1,r1,q1⟩=>?_) hs hw;rw[h1];exact thn (hg pins s1 σ H1 x v _ I1 r1 q1) λ_ s2 q=>q
theorem qaG{i:Nat}{x:Str}{e:Expr}{te:TE}{pos':Pos}(hN:X.N.Nodup)(hi:X.N[i]?=some x)(hx:Loc X.env.scope x)(he:PE X e te)(hs:swapsWith e (some (.Name x pos')) pos.line X.env=pure false:=by rfl)(hf:X.fn x=true\/X.env.scope.names.lookup x=some .local:=by first | exact .inl rfl | exact .inr rfl | assumption) :
  PS X (.Assign [.Name x pos'] e pos) (qlN te (qew i)):=by
 intro pins s σ H D I h;refine wpAny_Assign_Name (thn (he pins s σ H _ I h) λv s1 ⟨y,H1,I1,r1,q1⟩=>?_) hs;exact qaE I1 hN hi hx r1 (λs2 I2=>⟨_,H1,I2,q1⟩) hf
end
section
variable{X:Cx}{pos:Pos}
noncomputable def qiU(c:TT)(tb:TS):TS:=λD σ H=>∃W:Nat->St->Hp->Prop,(∃m,W m σ H)/\∀m σ H,W m σ H->
 c σ H λb H1=>if b=true then∃N:St->Hp->Prop,(∀σ' H',N σ' H'->∃m',m' < m/\W m' σ' H')/\tb { D with nx:=N,ct:=N,bk:=D.nx } σ H1 else D.nx σ H1
theorem qey{c:Expr}{body:List Stmt}{tc:TT}{tb:TS}(hp:PassesOwn (model X.prog X.w) X.A X.env X.xe)(hc:PT X c tc)(hb:PSs X body tb):PS X (.While c body [] pos) (qiU tc tb):=by
 intro pins s σ H D I h;obtain⟨W,⟨m0,w0⟩,turn⟩:=h;refine wpAny_While (codeAny_whileLoop (λn s'=>∃σ' H',Inv X pins σ' H' s'/\W n σ' H') ?_ m0 ⟨σ,H,I,w0⟩);rintro n s1 ⟨σ1,H1,I1,w1⟩;refine wpAny_passesOwn hp (thn (hc pins s1 σ1 H1 _ I1 (turn n σ1 H1 w1)) λb s2 hq1=>?_);obtain⟨H2,I2,q2⟩:=hq1
 cases b with
 |true=>
  obtain⟨N,hN,q2⟩:=q2;rw[if_pos rfl];refine wpAny_passesOwn hp (thn (hb pins s2 σ1 H2 _ I2 q2) λf s3 q3=>?_)
  cases f with
  |next=>obtain⟨σ3,H3,I3,n3⟩:=q3;obtain⟨m',hm,w3⟩:=hN σ3 H3 n3;exact⟨m',hm,σ3,H3,I3,w3⟩
  |cont=>obtain⟨σ3,H3,I3,n3⟩:=q3;obtain⟨m',hm,w3⟩:=hN σ3 H3 n3;exact⟨m',hm,σ3,H3,I3,w3⟩
  |brk=>exact q3
  |ret v=>exact q3
 |false=>rw[if_neg Bool.false_ne_true];exact wpAny_execs_nil ⟨σ1,H2,I2,q2⟩
end
structure It where
 go:Nat->Hp->Prop
 yld:Nat->Hp->V->Hp->Prop
 stop:Nat->Hp->Prop
noncomputable def qbD(X:Cx)(pins:PP)(H:Hp)(b:Addr):Prop:=
 H b=none/\b≠X.env.locals/\b∉X.fs/\(b∈X.ex\/X.s₀.heap.objs.size<=b)/\(∀x c,X.env.cells.lookup x=some c->c≠b)/\∀p∈X.pn++pins,p.1≠b
theorem Inv.fpOk{X:Cx}{pins:PP}{σ:St}{H H':Hp}{s:Shared}{b:Addr}(I:Inv X pins σ H s)(hb:s.heap.objs.size<=b)(hn:H' b=none):qbD X pins H' b:=by
 refine⟨hn,Nat.ne_of_gt (Nat.lt_of_lt_of_le I.lt hb),I.nofs hb,.inr (Nat.le_trans I.sz hb),λx c e z=>?_,λp hp z=>?_⟩
 ·obtain⟨v,q⟩:=I.cell x c e;exact absurd (Nat.lt_of_lt_of_le q.lt (by rw[z];exact hb)) (Nat.lt_irrefl _)
 ·exact absurd (Nat.lt_of_lt_of_le (Heap.lt_size (I.pin p hp).1) (by rw[z];exact hb)) (Nat.lt_irrefl _)
structure Turn(P:Program)(w:World)(K:Frag)(tg:Expr)(J:It)(fp:List Addr)(it:Addr)(tn:Nat->Heap->Prop):Prop where
 mem:it∈fp
 obj:∀i h,tn i h->∀b∈fp,∃o,h.get? b=some o/\∀v,o.data≠.cell v
 keep:∀i h h',tn i h->(∀b∈fp,∀o,h.get? b=some o->h'.get? b=some o)->tn i h'
 item:∀(X:Cx),X.prog=P->X.w=w->X.K=K->X.calm=true->∀(i:Nat) (pins:PP) (s:Shared) (σ:St) (H:Hp) (E:PQ),Inv X pins σ H s->(∀b∈fp,qbD X pins H b)->tn i s.heap->J.go i H->
  wpAny (model P w) X.A (pyNext (.ref it)) (λr s1=>∃u,r=some u/\
   wpAny (model P w) X.A (letOwnedTupleGo tg (.ref it) u) (λ_ s2=>∃x H',Inv X pins σ H' s2/\qH x u/\J.yld i H x H'/\tn (i+1) s2.heap/\∀b∈fp,H' b=none) E s1) E s
 done:∀(X:Cx),X.prog=P->X.w=w->X.K=K->X.calm=true->∀(i:Nat) (pins:PP) (s:Shared) (σ:St) (H:Hp) (E:PQ),Inv X pins σ H s->(∀b∈fp,qbD X pins H b)->tn i s.heap->J.stop i H->
  wpAny (model P w) X.A (pyNext (.ref it)) (λr s1=>r=none/\Inv X pins σ H s1) E s
 self:∀(A:Around) (i:Nat) (s:Shared) (Q:PQ) (E:PQ),tn i s.heap->Q (.ref it) s->wpAny (model P w) A (pyIter (.ref it)) Q E s
abbrev TI:=St->Hp->(It->Hp->Prop)->Prop
noncomputable def PIE(X:Cx)(pins:PP)(σ:St)(tg:Expr)(R:It->Hp->Prop)(itv:Value)(s2:Shared):Prop:=
 ∃(it:Addr) (fp:List Addr) (tn:Nat->Heap->Prop) (J:It) (H':Hp),itv=.ref it/\Inv X pins σ H' s2/\Turn X.prog X.w X.K tg J fp it tn/\tn 0 s2.heap/\(∀b∈fp,qbD X pins H' b)/\R J H'
noncomputable def PI(X:Cx)(tg iter:Expr)(wi:TI):Prop:=
 ∀(pins:PP) (s:Shared) (σ:St) (H:Hp) (R:It->Hp->Prop),Inv X pins σ H s->wi σ H R->
  wpAny (model X.prog X.w) X.A (eval iter X.env) (λv s1=>wpAny (model X.prog X.w) X.A (pyIter v) (PIE X pins σ tg R) X.xe s1) X.xe s
theorem qcu{M:Model}{A:Around}{E:PQ}{s:Shared}{tg:Expr}{it:Addr}{u:Value}{o:Obj}{n:String}{vs:Array Value}{Q:Unit->Shared->Prop}(ho:s.heap.get? it=some o)(hc:o.cls=.type n)(hd:o.data=.fields vs)
  (hn:["enumerate","zip","dict_itemiterator","dict_reverseitemiterator","odict_iterator","itertools.zip_longest","itertools.pairwise"].contains n=false) (hQ:Q () s):wpAny M A (letOwnedTupleGo tg (.ref it) u) Q E s:=by
 unfold letOwnedTupleGo
 cases tg<;>first
  | exact wpAny_pure hQ
  | (cases u<;>first
    | exact wpAny_pure hQ
    | (refine wpAny_bind (wpAny_load ho ?_)
       rw[hc,hd];show wpAny M A (if (["enumerate","zip","dict_itemiterator","dict_reverseitemiterator","odict_iterator","itertools.zip_longest","itertools.pairwise"].contains n&&vs[0]? == some (rawInt _))=true then _ else _) Q E s;rw[if_neg (by intro h;rw[hn,Bool.false_and] at h;cases h)];exact wpAny_pure hQ))
noncomputable def Itl(K:Frag)(a:Addr):It:=
 ⟨λi H=>∃xs x,SqL K H a xs/\xs[i]?=some x,λi H x H'=>H'=H/\∀xs,SqL K H a xs->xs[i]?=some x,λi H=>∃xs,SqL K H a xs/\xs.length<=i⟩
noncomputable def Itt(K:Frag)(a:Addr):It:=
 ⟨λi H=>∃xs x,SqT K H a xs/\xs[i]?=some x,λi H x H'=>H'=H/\∀xs,SqT K H a xs->xs[i]?=some x,λi H=>∃xs,SqT K H a xs/\xs.length<=i⟩
def Itr(lo:Int)(n:Nat):It:=⟨λi _=>i < n,λi H x H'=>H'=H/\x=.int (lo+i),λi _=>n<=i⟩
theorem qcv{P:Program}{w:World}{K:Frag}{tg:Expr}(a it:Addr):Turn P w K tg (Itl K a) [it] it (λi h=>h.IsListIter it a i) where
 mem:=by simp
 obj:=λi h st b hb=>by
  have e:b=it:=by simpa using hb
  subst e;obtain⟨o,e,c,d⟩:=st;exact⟨o,e,λv z=>by rw[d] at z;cases z⟩
 keep:=λi h h' st k=>st.at λo e=>k it (by simp) o e
 item:=by intro X hP hw hK hc i pins s σ H E I hf st hg;subst hP hw hK;obtain⟨xs,x,hq,hx⟩:=hg;obtain⟨its,rv,p,hz⟩:=I.list hq;obtain⟨u,hu,ru⟩:=rv.get hx;obtain⟨f0,f1,f2,f3,f4,f5⟩:=hf it (by simp);refine wpAny_pyNext_list_item st p.isList (x:=u) (by simpa using hu) λh' st' sb=>?_;have I1:Inv X pins σ H { s with heap:=h' }:=I.turned (t':=s.toks) (λb o hb e=>(sb.2 b hb).trans e) f0 f1 f3 f4 f5;obtain⟨o,e,c,d⟩:=id st';exact⟨u,rfl,qcu (s:={ s with heap:=h' }) e c d (2:) ⟨x,H,I1,ru,⟨rfl,λys hy=>by rw[I.list_inj hy hq];exact hx⟩,st',λb hb=>(hf b hb).1⟩⟩
 done:=by intro X hP hw hK hc i pins s σ H E I hf st hg;subst hP hw hK;obtain⟨xs,hq,hx⟩:=hg;obtain⟨its,rv,p,hz⟩:=I.list hq;obtain⟨f0,f1,f2,f3,f4,f5⟩:=hf it (by simp);have hl:=rv.length;exact wpAny_pyNext_list_end (I.ok.hd hc) st p.isList (by simp;lia) λh' eb=>⟨rfl,I.turned (t':=s.toks) (λb o hb e=>eb b o hb e) f0 f1 f3 f4 f5⟩
 self:=λ_ _ _ _ _ st h=>wpAny_pyIter_listiter st h
theorem qbE{P:Program}{w:World}{K:Frag}{tg:Expr}(a it:Addr):Turn P w K tg (Itt K a) [it] it (λi h=>h.IsTupleIter it a i) where
 mem:=by simp
 obj:=λi h st b hb=>by
  have e:b=it:=by simpa using hb
  subst e;obtain⟨o,e,c,d⟩:=st;exact⟨o,e,λv z=>by rw[d] at z;cases z⟩
 keep:=λi h h' st k=>st.at λo e=>k it (by simp) o e
 item:=by intro X hP hw hK hc i pins s σ H E I hf st hg;subst hP hw hK;obtain⟨xs,x,hq,hx⟩:=hg;obtain⟨its,rv,p,hz⟩:=I.tuple hq;obtain⟨u,hu,ru⟩:=rv.get hx;obtain⟨f0,f1,f2,f3,f4,f5⟩:=hf it (by simp);refine wpAny_pyNext_tuple_item st (show s.heap.IsTuple a its.toArray from p) (x:=u) (by simpa using hu) λh' st' sb=>?_;have I1:Inv X pins σ H { s with heap:=h' }:=I.turned (t':=s.toks) (λb o hb e=>(sb.2 b hb).trans e) f0 f1 f3 f4 f5;obtain⟨o,e,c,d⟩:=id st';exact⟨u,rfl,qcu (s:={ s with heap:=h' }) e c d (2:) ⟨x,H,I1,ru,⟨rfl,λys hy=>by rw[I.tuple_inj hy hq];exact hx⟩,st',λb hb=>(hf b hb).1⟩⟩
 done:=by intro X hP hw hK hc i pins s σ H E I hf st hg;subst hP hw hK;obtain⟨xs,hq,hx⟩:=hg;obtain⟨its,rv,p,hz⟩:=I.tuple hq;obtain⟨f0,f1,f2,f3,f4,f5⟩:=hf it (by simp);have hl:=rv.length;exact wpAny_pyNext_tuple_end (I.ok.hd hc) st (show s.heap.IsTuple a its.toArray from p) (by simp;lia) λh' eb=>⟨rfl,I.turned (t':=s.toks) (λb o hb e=>eb b o hb e) f0 f1 f3 f4 f5⟩
 self:=λ_ _ _ _ _ st h=>wpAny_pyIter_tupleiter st h
theorem qbF{P:Program}{w:World}{K:Frag}{tg:Expr}(it:Addr)(lo:Int)(n:Nat):Turn P w K tg (Itr lo n) [it] it (λi h=>IsRangeIter h it (lo+(i:Nat) * 1) ((n:Int) - (i:Nat)) 1) where
 mem:=by simp
 obj:=λi h st b hb=>by
  have e:b=it:=by simpa using hb
  subst e
  exact⟨_,st,λv z=>by have z':Data.fields _=Data.cell v:=z;cases z'⟩
 keep:=λi h h' st k=>k it (by simp) _ st
 item:=by intro X hP hw hK hc i pins s σ H E I hf st hg;subst hP hw hK;obtain⟨f0,f1,f2,f3,f4,f5⟩:=hf it (by simp);have W:=Walks.range (prog:=X.prog) (w:=X.w) (I.ok.hd hc) it lo 1 n;refine W.item i s _ _ hg st λv h' tk hv st' kk=>?_;obtain⟨t,rfl⟩:=hv;have I1:Inv X pins σ H { s with heap:=h',toks:=tk }:=I.turned (λb o hb e=>kk b o (by simpa using hb) e) f0 f1 f3 f4 f5;refine⟨_,rfl,qcu (s:={ s with heap:=h',toks:=tk }) (n:="range_iterator") st' rfl rfl (2:) ⟨.int (lo+i),H,I1,⟨t,?_⟩,⟨rfl,rfl⟩,st',λb hb=>(hf b hb).1⟩⟩;rw[Int.mul_one]
 done:=by intro X hP hw hK hc i pins s σ H E I hf st hg;subst hP hw hK;obtain⟨f0,f1,f2,f3,f4,f5⟩:=hf it (by simp);exact wpAny_pyNext_range_end (I.ok.hd hc) st (by have:n<=i:=hg;lia) λh' eb=>⟨rfl,I.turned (t':=s.toks) (λb o hb e=>eb b o hb e) f0 f1 f3 f4 f5⟩
 self:=λ_ _ _ _ _ st h=>wpAny_pyIter_rangeiter st h
end L2
namespace L2
open PySem PySem.Spec PyProof.Rows
section
variable{X:Cx}{tg:Expr}
theorem qaH{pins:PP}{σ:St}{H:Hp}{s:Shared}{R:It->Hp->Prop}{E:PQ}{lo hi:Int}{t u v:Tok}{tk:Nat}(I:Inv X pins σ H s)(h1:-(2 ^ 62)<=lo)(h2:lo < 2 ^ 62)(h3:-(2 ^ 62)<=hi)(h4:hi < 2 ^ 62)
  (q:R (Itr lo (hi - lo).toNat) H):wpAny (model X.prog X.w) X.A (pyIter (.ref s.heap.objs.size)) (PIE X pins σ tg R) E { s with heap:=s.heap.push { cls:=.type "range",data:=.fields #[.int lo t,.int hi u,.int 1 v] },toks:=tk }:=by
 refine wpAny_pyIter_range (IsRange.new ..) (small_one h1 h2 h3 h4) ?_;have I1:Inv X pins σ H { s with heap:=s.heap.push { cls:=.type "range",data:=.fields #[.int lo t,.int hi u,.int 1 v] },toks:=tk }:=I.kept λb o e=>Heap.get?_push_of_some _ e
 refine⟨(s.heap.push { cls:=.type "range",data:=.fields #[.int lo t,.int hi u,.int 1 v] }).objs.size,[(s.heap.push { cls:=.type "range",data:=.fields #[.int lo t,.int hi u,.int 1 v] }).objs.size],_,_,H,rfl,
  I1.kept (t':=tk) λb o e=>Heap.get?_push_of_some _ e,qbF _ lo (hi - lo).toNat,?_,λb hb=>?_,q⟩
 ·have e1:lo+((0:Nat):Int) * 1=lo:=by simp
  have e2:(((hi - lo).toNat:Nat):Int) - ((0:Nat):Int)=Builtin.Range.rangeSize lo hi 1:=by rw[rangeSize_one];split<;>lia
  show IsRangeIter _ _ (lo+((0:Nat):Int) * 1) ((((hi - lo).toNat:Nat):Int) - ((0:Nat):Int)) 1;rw[e1,e2];exact Heap.get?_push_size _ rfl
 ·have e:b=(s.heap.push { cls:=.type "range",data:=.fields #[.int lo t,.int hi u,.int 1 v] }).objs.size:=by simpa using hb
  subst e;exact I1.fpOk (Nat.le_refl _) (I1.hok.fresh (Nat.le_refl _))
noncomputable def qlO(ta:TA):TI:=λσ H R=>ta σ H λvs H1=>∃j:Int,vs=[.int j]/\-(2 ^ 62)<=j/\j < 2 ^ 62/\R (Itr 0 j.toNat) H1
noncomputable def qlP(ta:TA):TI:=λσ H R=>ta σ H λvs H1=>∃i j:Int,vs=[.int i,.int j]/\(-(2 ^ 62)<=i/\i < 2 ^ 62/\-(2 ^ 62)<=j/\j < 2 ^ 62)/\R (Itr i (j - i).toNat) H1
theorem qcw{a:Expr}{ta:TA}{p pos:Pos}(hg:Gl X "range")(hm:X.mg "range" = none)(ha:PA X [a] ta)(hs:starEach [a] X.env=[(false,eval a X.env)]:=by rfl):PI X tg (.Call (.Name "range" p) [a] [] pos) (qlO ta):=by
 intro pins s σ H R I h;refine Call_ (Jl I hg hm boot_range (PyProof.Rows.callWith_type1 (thn (ha pos pins s σ H _ I h) λus s1 ⟨vs,H1,I1,r1,q1⟩=>?_) hs rfl));obtain⟨j,e,q1,q2,q⟩:=q1;subst e
 cases r1 with
 |cons r rr=>cases rr;obtain⟨t,rfl⟩:=r;exact call_range_1 (qaH I1 (by lia) (by lia) q1 q2 (by simpa using q))
theorem qcx{a b:Expr}{ta:TA}{p pos:Pos}(hg:Gl X "range")(hm:X.mg "range" = none)(ha:PA X [a,b] ta)(hs:starEach [a,b] X.env=[(false,eval a X.env),(false,eval b X.env)]:=by rfl)(hs2:starEach [b] X.env=[(false,eval b X.env)]:=by rfl) :
  PI X tg (.Call (.Name "range" p) [a,b] [] pos) (qlP ta):=by
 intro pins s σ H R I h;refine Call_ (Jl I hg hm boot_range (PyProof.Rows.callWith_type1 (thn (ha pos pins s σ H _ I h) λus s1 ⟨vs,H1,I1,r1,q1⟩=>?_) (by rw[hs,hs2]) (by rw[hs2];rfl)));obtain⟨i,j,e,⟨q1,q2,q3,q4⟩,q⟩:=q1;subst e
 cases r1 with
 |cons r rr=>
  cases rr with
  | cons r' rr=>cases rr;obtain⟨t,rfl⟩:=r;obtain⟨t',rfl⟩:=r';exact call_range_2 (qaH I1 q1 q2 q3 q4 q)
noncomputable def qnF(wi:TI)(g:TG)(tb:TS):TS:=λD σ H=>wi σ H λJ H1=>∃W:Nat->Nat->St->Hp->Prop,(∃m,W 0 m σ H1)/\∀i m σ H,W i m σ H->
 (J.stop i H/\D.nx σ H)\/(J.go i H/\∃N:St->Hp->Prop,(∀σ' H',N σ' H'->∃m',m' < m/\W (i+1) m' σ' H')/\∀x H',J.yld i H x H'->g x σ H' λσ2 H2=>tb { D with nx:=N,ct:=N,bk:=D.nx } σ2 H2)
def QR(fp:List Addr)(h:Heap):List (Addr×Obj):=fp.filterMap λb=>(h.get? b).map λo=>(b,o)
theorem ya{fp:List Addr}{h:Heap}{b:Addr}{o:Obj}(hb:b∈fp)(e:h.get? b=some o):(b,o)∈QR fp h:=List.mem_filterMap.mpr ⟨b,hb,by rw[e];rfl⟩
theorem qcy{fp:List Addr}{h:Heap}{p:Addr×Obj}(hp:p∈QR fp h):p.1∈fp/\h.get? p.1=some p.2:=by
 obtain⟨b,hb,e⟩:=List.mem_filterMap.mp hp
 cases q:h.get? b with
 |none=>rw[q] at e;cases e
 |some o=>rw[q] at e;have e':(b,o)=p:=Option.some.inj e;subst e';exact⟨hb,q⟩
theorem Inv.pinned{pins:PP}{σ:St}{H:Hp}{s:Shared}{fp:List Addr}(I:Inv X pins σ H s)(hf:∀b∈fp,qbD X pins H b)(ho:∀b∈fp,∃o,s.heap.get? b=some o/\∀v,o.data≠.cell v):Inv X (pins++QR fp s.heap) σ H s:=
 I.pins_of λp hp=>(List.mem_append.mp hp).elim (λz=>I.pin p (List.mem_append_right _ z)) λz=>by obtain⟨hb,e⟩:=qcy z;obtain⟨f0,f1,f2,_⟩:=hf p.1 hb;obtain⟨o,e',d⟩:=ho p.1 hb;rw[e] at e';cases e';exact⟨e,f0,f1,f2,d⟩
theorem Inv.unpinned{pins pl:PP}{σ:St}{H:Hp}{s:Shared}(I:Inv X (pins++pl) σ H s):Inv X pins σ H s:=I.pins_of λp hp=>I.pin p (List.mem_append_right _ (List.mem_append_left _ hp))
theorem qiV{iter:Expr}{body:List Stmt}{wi:TI}{g:TG}{tb:TS}{pos:Pos}(hp:PassesOwn (model X.prog X.w) X.A X.env X.xe)(hc:X.calm=true)(hi:PI X tg iter wi)(hg:PG X tg g)(hb:PSs X body tb)
  (hs:∀x,foldedSetIterable iter X.env x=pure x:=by intro _;rfl):PS X (.For tg iter body [] pos) (qnF wi g tb):=by
 intro pins s σ H D I h;refine wpAny_For (thn (hi pins s σ H _ I h) λv s1 h1=>thn h1 λitv s2 h2=>?_) hs;obtain⟨it,fp,tn,J,H2,e,I2,T,st2,f2,W,⟨m0,w0⟩,turn⟩:=h2;subst e;have stat:∀{H':Hp},(∀b∈fp,H' b=none)->∀b∈fp,qbD X pins H' b:=λhn b hb=>⟨hn b hb,(f2 b hb).2⟩;refine codeAny_forLoop_any (λn s'=>∃i σ' H',Inv X pins σ' H' s'/\tn i s'.heap/\(∀b∈fp,H' b=none)/\W i n σ' H') ?_ m0 ⟨0,σ,H2,I2,st2,λb hb=>(f2 b hb).1,w0⟩;rintro n s3 ⟨i,σ3,H3,I3,st3,fr3,w3⟩;rcases turn i n σ3 H3 w3 with ⟨stop,qn⟩ | ⟨go,N,hN,step⟩
 ·refine wpAny_passesOwn hp (thn (T.done X rfl rfl rfl hc i pins s3 σ3 H3 X.xe I3 (stat fr3) st3 stop) λr s4 hq1=>?_);obtain⟨hr,I4⟩:=hq1;subst hr;exact wpAny_execs_nil ⟨σ3,H3,I4,qn⟩
 ·refine wpAny_passesOwn hp (thn (T.item X rfl rfl rfl hc i pins s3 σ3 H3 X.xe I3 (stat fr3) st3 go) λr s4 hq1=>?_);obtain⟨u,hr,h4⟩:=hq1;subst hr;refine wpAny_passesOwn hp (thn h4 λ_ s5 hq1=>?_);obtain⟨x,H5,I5,r5,y5,st5,fr5⟩:=hq1;have I5':=I5.pinned (stat fr5) (T.obj _ _ st5);refine wpAny_passesOwn hp (thn (hg _ s5 σ3 H5 x u _ I5' r5 (step x H5 y5)) λ_ s6 hq1=>?_);obtain⟨σ6,H6,I6,q6⟩:=hq1;refine wpAny_passesOwn hp (thn (hb _ s6 σ6 H6 _ I6 q6) λf s7 q7=>?_)
  have again:∀{σ7:St} {H7:Hp},Inv X (pins++QR fp s5.heap) σ7 H7 s7->N σ7 H7->∃m,m < n/\∃i σ' H',Inv X pins σ' H' s7/\tn i s7.heap/\(∀b∈fp,H' b=none)/\W i m σ' H':=λ{σ7 H7} I7 n7=>by obtain⟨m',hm,w7⟩:=hN σ7 H7 n7;refine⟨m',hm,i+1,σ7,H7,I7.unpinned,T.keep _ _ _ st5 λb hb o e=>(I7.pin (b,o) (List.mem_append_right _ (List.mem_append_right _ (ya hb e)))).1,λb hb=>?_,w7⟩;obtain⟨o,e,d⟩:=T.obj _ _ st5 b hb;exact(I7.pin (b,o) (List.mem_append_right _ (List.mem_append_right _ (ya hb e)))).2.1
  cases f with
  |next=>obtain⟨σ7,H7,I7,n7⟩:=q7;exact again I7 n7
  |cont=>obtain⟨σ7,H7,I7,n7⟩:=q7;exact again I7 n7
  |brk=>obtain⟨σ7,H7,I7,q7⟩:=q7;exact⟨σ7,H7,I7.unpinned,q7⟩
  |ret v=>obtain⟨x7,σ7,H7,I7,r7,q7⟩:=q7;exact⟨x7,σ7,H7,I7.unpinned,r7,q7⟩
end
end L2
namespace L2
open PySem PySem.Spec PyProof.Rows
abbrev R2:=V->V->Hp->VK->Prop
noncomputable def OpR(X:Cx)(f:Value->Value->Sem Value)(r:R2):Prop:=
 ∀(pins:PP) (s:Shared) (σ:St) (H:Hp) (x y:V) (v u:Value) (Q:VK),Inv X pins σ H s->qH x v->qH y u->r x y H Q->
  wpAny (model X.prog X.w) X.A (f v u) (EP X pins σ Q) X.xe s
noncomputable def UnR(X:Cx)(f:Value->Sem Value)(r:V->Hp->VK->Prop):Prop:=
 ∀(pins:PP) (s:Shared) (σ:St) (H:Hp) (x:V) (v:Value) (Q:VK),Inv X pins σ H s->qH x v->r x H Q->
  wpAny (model X.prog X.w) X.A (f v) (EP X pins σ Q) X.xe s
noncomputable def q9(X:Cx)(f:Value)(r:List V->Hp->VK->Prop):Prop:=
 ∀(pins:PP) (s:Shared) (σ:St) (H:Hp) (xs:List V) (us:List Value) (Q:VK),Inv X pins σ H s->qx xs us->r xs H Q->
  wpAny (model X.prog X.w) X.A (call f us) (EP X pins σ Q) X.xe s
noncomputable def qnG(X:Cx)(r:V->Hp->(Bool->Hp->Prop)->Prop):Prop:=
 ∀(pins:PP) (s:Shared) (σ:St) (H:Hp) (x:V) (v:Value) (Q:Bool->Hp->Prop),Inv X pins σ H s->qH x v->r x H Q->
  wpAny (model X.prog X.w) X.A (truthy v) (TP X pins σ Q) X.xe s
def tOp(r:R2)(ta tb:TE):TE:=λσ H Q=>ta σ H λx H1=>tb σ H1 λy H2=>r x y H2 Q
def tUn(r:V->Hp->VK->Prop)(ta:TE):TE:=λσ H Q=>ta σ H λx H1=>r x H1 Q
noncomputable def rI(C:Int->Int->Prop)(g:Int->Int->V):R2:=λx y H Q=>∃i j,x=.int i/\y=.int j/\C i j/\Q (g i j) H
def rI0(g:Int->Int->V):R2:=λx y H Q=>∃i j,x=.int i/\y=.int j/\Q (g i j) H
def rU(g:Int->V):V->Hp->VK->Prop:=λx H Q=>∃i,x=.int i/\Q (g i) H
section
variable{X:Cx}{a b c:Expr}{ta tb tc:TE}{pos:Pos}
theorem qlQ(ha:PE X a ta)(hb:PE X b tb){pins:PP}{s:Shared}{σ:St}{H:Hp}{R:V->V->Hp->Prop}(I:Inv X pins σ H s)
  (h:ta σ H λx H1=>tb σ H1 λy H2=>R x y H2) {Q:PQ} {f:Value->Value->Sem Value}
  (hf:∀v u s2 x y H2,Inv X pins σ H2 s2->qH x v->qH y u->R x y H2->wpAny (model X.prog X.w) X.A (f v u) Q X.xe s2) :
  wpAny (model X.prog X.w) X.A (eval a X.env) (λv s₁=>wpAny (model X.prog X.w) X.A (eval b X.env) (λu s₂=>wpAny (model X.prog X.w) X.A (f v u) Q X.xe s₂) X.xe s₁) X.xe s:=by
 refine thn (ha pins s σ H _ I h) λv s1 hq1=>?_;obtain⟨x,H1,I1,r1,q1⟩:=hq1;refine thn (hb pins s1 σ H1 _ I1 q1) λu s2 hq1=>?_;obtain⟨y,H2,I2,r2,q2⟩:=hq1;exact hf v u s2 x y H2 I2 r1 r2 q2
theorem qlR{op:Operator}{r:R2}(ho:OpR X (binaryOp op) r)(ha:PE X a ta)(hb:PE X b tb):PE X (.BinOp a op b pos) (tOp r ta tb):=by intro pins s σ H Q I h;exact wpAny_BinOp (qlQ ha hb I h λv u s2 x y H2 I2 rx ry q=>ho pins s2 σ H2 x y v u Q I2 rx ry q)
theorem qiW{op:UnaryOp}{r:V->Hp->VK->Prop}(ho:UnR X (unaryOp op) r)(ha:PE X a ta):PE X (.UnaryOp op a pos) (tUn r ta):=by intro pins s σ H Q I h;exact UnaryOp_ (thn (ha pins s σ H _ I h) λv s1 ⟨x,H1,I1,r1,q1⟩=>ho pins s1 σ H1 x v Q I1 r1 q1)
theorem opI{f:Value->Value->Sem Value}{C:Int->Int->Prop}{g:Int->Int->Int}
  (rule:∀(i j:Int) (t u:Tok) (s:Shared) (Q:PQ) (E:PQ),C i j->Q (.int (g i j) s.toks) { s with toks:=s.toks+1 }->wpAny (model X.prog X.w) X.A (f (.int i t) (.int j u)) Q E s) :
  OpR X f (rI C λi j=>.int (g i j)):=by
 intro pins s σ H x y v u Q I rx ry h;obtain⟨i,j,rfl,rfl,hc,q⟩:=h;obtain⟨t,rfl⟩:=rx;obtain⟨t',rfl⟩:=ry;exact rule i j t t' s _ _ hc ⟨.int (g i j),H,I.tok _,⟨_,rfl⟩,q⟩
theorem qmV{f:Value->Value->Sem Value}{g:Int->Int->Int}
  (rule:∀(i j:Int) (t u:Tok) (s:Shared) (Q:PQ) (E:PQ),Q (.int (g i j) s.toks) { s with toks:=s.toks+1 }->wpAny (model X.prog X.w) X.A (f (.int i t) (.int j u)) Q E s) :
  OpR X f (rI0 λi j=>.int (g i j)):=by
 intro pins s σ H x y v u Q I rx ry h;obtain⟨i,j,rfl,rfl,q⟩:=h;obtain⟨t,rfl⟩:=rx;obtain⟨t',rfl⟩:=ry;exact rule i j t t' s _ _ ⟨.int (g i j),H,I.tok _,⟨_,rfl⟩,q⟩
theorem qlp{f:Value->Value->Sem Value}{g:Int->Int->Bool}
  (rule:∀(i j:Int) (t u:Tok) (s:Shared) (Q:PQ) (E:PQ),Q (.bool (g i j)) s->wpAny (model X.prog X.w) X.A (f (.int i t) (.int j u)) Q E s) :
  OpR X f (rI0 λi j=>.bl (g i j)):=by
 intro pins s σ H x y v u Q I rx ry h;obtain⟨i,j,rfl,rfl,q⟩:=h;obtain⟨t,rfl⟩:=rx;obtain⟨t',rfl⟩:=ry;exact rule i j t t' s _ _ ⟨.bl (g i j),H,I,rfl,q⟩
def qnH(i j:Int):Prop:=0 < j/\j < 1073741824
def qnI(i j:Int):Prop:=0<=j/\j<=1000000/\i.natAbs < 2 ^ 64
def qlq(i j:Int):Prop:=(-(2 ^ 64) < i/\i < 2 ^ 64)\/(-(2 ^ 64) < j/\j < 2 ^ 64)
theorem qlq.ok{i j:Int}(h:qlq i j):IntMulOk i j:=by
 rcases h with ⟨h1,h2⟩ | ⟨h1,h2⟩
 ·exact .of_left (intBits_le_64 h1 h2)
 ·exact .of_right (intBits_le_64 h1 h2)
theorem qiX:OpR X (binaryOp .Add) (rI0 λi j=>.int (i+j)):=qmV λ_ _ _ _ _ _ _ q=>add_int q
theorem qiY:OpR X (binaryOp .Sub) (rI0 λi j=>.int (i - j)):=qmV λ_ _ _ _ _ _ _ q=>sub_int q
theorem qiZ:OpR X (binaryOp .Mult) (rI qlq λi j=>.int (i * j)):=opI λ_ _ _ _ _ _ _ hc q=>mul_int q hc.ok
theorem qgI:OpR X (binaryOp .FloorDiv) (rI qnH λi j=>.int (i / j)):=opI λi j _ _ _ _ _ hc q=>by have h1:(0:Int) < j:=hc.1;have h2:j < 1073741824:=hc.2;exact floordiv_int (by lia) (by rw[Int.fdiv_eq_ediv_of_nonneg i (by lia)];exact q) (.inl (PyProof.noPylong_small (by lia)))
theorem qi0:OpR X (binaryOp .Mod) (rI (λ_ j=>0 < j) λi j=>.int (i % j)):=opI λi j _ _ _ _ _ hc q=>by have h1:(0:Int) < j:=hc;exact mod_int' (by lia) (by rw[Int.fmod_eq_emod_of_nonneg i (by lia)];exact q)
theorem qi1:OpR X (binaryOp .Pow) (rI qnI λi j=>.int (i ^ j.toNat)):=opI λ_ _ _ _ _ _ _ hc q=>pow_int_small hc.1 hc.2.1 hc.2.2 q
theorem unI{f:Value->Sem Value}{g:Int->Int}
  (rule:∀(i:Int) (t:Tok) (s:Shared) (Q:PQ) (E:PQ),Q (.int (g i) s.toks) { s with toks:=s.toks+1 }->wpAny (model X.prog X.w) X.A (f (.int i t)) Q E s) :
  UnR X f (rU λi=>.int (g i)):=by
 intro pins s σ H x v Q I rx h;obtain⟨i,rfl,q⟩:=h;obtain⟨t,rfl⟩:=rx;exact rule i t s _ _ ⟨.int (g i),H,I.tok _,⟨_,rfl⟩,q⟩
theorem qfW:UnR X (unaryOp .USub) (rU λi=>.int (-i)):=unI λ_ _ _ _ _ q=>neg_int q
end
section
variable{X:Cx}{a b c:Expr}{ta tb tc:TE}{pos:Pos}
theorem qaI{pins:PP}{σ:St}{H:Hp}{s:Shared}{Q:VK}{k k':Bool}(I:Inv X pins σ H s)(q:Q (.bl k) H)(e:k=k'):EP X pins σ Q (.bool k') s:=by subst e;exact⟨.bl k,H,I,rfl,q⟩
theorem qlS:OpR X (compareOp .Lt) (rI0 λi j=>.bl (decide (i < j))):=qlp λ_ _ _ _ _ _ _ q=>lt_int q
theorem qlT:OpR X (compareOp .LtE) (rI0 λi j=>.bl (decide (i<=j))):=qlp λ_ _ _ _ _ _ _ q=>le_int q
theorem qlU:OpR X (compareOp .Gt) (rI0 λi j=>.bl (decide (j < i))):=qlp λ_ _ _ _ _ _ _ q=>gt_int q
theorem qlV:OpR X (compareOp .GtE) (rI0 λi j=>.bl (decide (j<=i))):=qlp λ_ _ _ _ _ _ _ q=>ge_int q
theorem qcz:OpR X (compareOp .In) (λx y H Q=>∃i j,x=.str i/\y=.str j/\Q (.bl (!(Builtin.Str.occurrences j i 0 j.length 1).isEmpty)) H):=by intro pins s σ H x y v u Q I rx ry h;obtain⟨i,j,rfl,rfl,q⟩:=h;obtain⟨t,rfl⟩:=rx;obtain⟨t',rfl⟩:=ry;exact in_str (qaI I q rfl)
theorem qi2:OpR X (compareOp .Is) (λx y H Q=>y=.non/\Q (.bl (decide (x=.non))) H):=by
 intro pins s σ H x y v u Q I rx ry h;obtain⟨rfl,q⟩:=h;cases ry;refine is_none_gen (qaI I q ?_)
 cases x<;>first
  | (cases rx;rfl)
  | (obtain⟨t,rfl⟩:=rx;rfl)
theorem qgJ:OpR X (compareOp .IsNot) (λx y H Q=>y=.non/\Q (.bl (!decide (x=.non))) H):=by
 intro pins s σ H x y v u Q I rx ry h;obtain⟨rfl,q⟩:=h;cases ry;refine isnot_none_gen (qaI I q ?_)
 cases x<;>first
  | (cases rx;rfl)
  | (obtain⟨t,rfl⟩:=rx;rfl)
theorem QS:OpR X (compareOp .NotIn) (λx y H Q=>∃i j,x=.str i/\y=.str j/\Q (.bl (!(!(Builtin.Str.occurrences j i 0 j.length 1).isEmpty))) H):=by intro pins s σ H x y v u Q I rx ry h;obtain⟨i,j,rfl,rfl,q⟩:=h;obtain⟨t,rfl⟩:=rx;obtain⟨t',rfl⟩:=ry;exact notIn_str (qaI I q rfl)
theorem qgK{op:CmpOp}{r:R2}(ho:OpR X (compareOp op) r)(ha:PE X a ta)(hb:PE X b tb)(hm:behindInMarks op b=false):PE X (.Compare a [op] [b] pos) (tOp r ta tb):=by intro pins s σ H Q I h;exact wpAny_Compare1 (qlQ ha hb I h λv u s2 x y H2 I2 rx ry q=>ho pins s2 σ H2 x y v u Q I2 rx ry q) hm
def qlW(t:TE):TT:=λσ H Q=>t σ H λx H'=>∃k,x=.bl k/\Q k H'
theorem qgL{op:CmpOp}{r:R2}(ho:OpR X (compareOp op) r)(ha:PE X a ta)(hb:PE X b tb)(hm:behindInMarks op b=false):PT X (.Compare a [op] [b] pos) (qlW (tOp r ta tb)):=by
 intro pins s σ H Q I h
 refine wpAny_isTrue_Compare1 (thn (ha pins s σ H _ I h) λv s1 ⟨x,H1,I1,r1,q1⟩=>thn (hb pins s1 σ H1 _ I1 q1) λu s2 ⟨y,H2,I2,r2,q2⟩=>thn (ho pins s2 σ H2 x y v u _ I2 r1 r2 q2) λc s3 ⟨z,H3,I3,r3,k,e,q3⟩=>?_) hm
 subst e;cases r3;exact wpAny_truthy_bool ⟨H3,I3,q3⟩
noncomputable def qlr(K:Frag)(x:V)(H:Hp)(k:Bool):Prop:=
 match x with
 |.non=>k=false
 |.bl b=>k=b
 |.int i=>k=(i != 0)
 |.str y=>y.length<=sizeLine/\k=((y.length:Int) != 0)
 |.byt y=>y.size<=sizeLine/\k=((y.size:Int) != 0)
 |.ref p=>(∃xs,SqL K H p xs/\k = !xs.isEmpty)\/(∃xs,SqT K H p xs/\k = !xs.isEmpty)\/∃kvs,H p=some (.dK kvs)/\k = !kvs.isEmpty
 |_=>False
theorem qbG{κ:Type}{kvs:List (κ×V)}{vs:List (κ×Value)}(r:KV kvs vs):(!vs.isEmpty) = !kvs.isEmpty:=by cases r<;>rfl
theorem YH{xs:List V}{its:List Value}(r:qx xs its):(!its.toArray.isEmpty) = !xs.isEmpty:=by cases r<;>simp
theorem JJ:(sizeLine:Nat) < 2 ^ 63:=by rw[sizeLine_eq];decide
theorem qi3:qnG X (λx H Q=>∃k,qlr X.K x H k/\Q k H):=by
 intro pins s σ H x v Q I rx h;obtain⟨k,e,q⟩:=h;have hl:=JJ;have hs:sizeLine=16777216:=sizeLine_eq
 cases x with
 |non=>cases rx;have e':k=false:=e;subst e';exact truthy_none ⟨H,I,q⟩
 |bl b=>cases rx;have e':k=b:=e;subst e';exact wpAny_truthy_bool ⟨H,I,q⟩
 |int i=>obtain⟨t,rfl⟩:=rx;have e':k=(i != 0):=e;subst e';exact PySem.P.truthy_int ⟨H,I,q⟩
 |str y=>obtain⟨t,rfl⟩:=rx;obtain⟨hy,e'⟩:y.length<=sizeLine/\k=((y.length:Int) != 0):=e;subst e';exact PySem.P.truthy_str (by lia) ⟨H,I.tok _,q⟩
 |byt y=>obtain⟨t,rfl⟩:=rx;obtain⟨hy,e'⟩:y.size<=sizeLine/\k=((y.size:Int) != 0):=e;subst e';exact PySem.W.truthy_bytes (by lia) ⟨H,I.tok _,q⟩
 |ref p=>
  cases rx;have e':(∃xs,SqL X.K H p xs/\k = !xs.isEmpty)\/(∃xs,SqT X.K H p xs/\k = !xs.isEmpty)\/∃kvs,H p=some (.dK kvs)/\k = !kvs.isEmpty:=e;rcases e' with ⟨xs,hx,e'⟩ | ⟨xs,hx,e'⟩ | ⟨kvs,hx,e'⟩
  ·subst e';obtain⟨its,r,pl,hz⟩:=I.list hx;have hlen:=r.length;exact wpAny_truthy_list pl.isList (by simp only[List.size_toArray];lia) ⟨H,I.tok _,by rw[YH r];exact q⟩
  ·subst e';obtain⟨its,r,pl,hz⟩:=I.tuple hx;have hlen:=r.length;exact truthy_tuple pl (by simp only[List.size_toArray];lia) ⟨H,I.tok _,by rw[YH r];exact q⟩
  ·subst e';obtain⟨hz,hS,vs,r,m⟩:kvs.length<=sizeLine/\(p == sysModules)=false/\∃vs,KV kvs vs/\s.heap.DictOf (Z1 X.prog X.w) p vs:=I.hok p _ hx;have hlen:kvs.length=vs.length:=Paired.length r;exact wpAny_truthy_dict hS m (by lia) ⟨H,I.tok _,by rw[qbG r];exact q⟩
 |_=>exact(show False from e).elim
theorem qez(ha:PE X a ta)(he:∀whole,isTrue a X.env whole=(do let v<-whole;standAt a.pos;holding [v] (truthy v))) :
  PT X a (λσ H Q=>ta σ H λx H'=>∃k,qlr X.K x H' k/\Q k H'):=by
 intro pins s σ H Q I h;exact isTrue_plain (thn (ha pins s σ H _ I h) λv s1 ⟨x,H1,I1,r1,q1⟩=>qi3 pins s1 σ H1 x v Q I1 r1 q1) (he _)
theorem qbH:OpR X (binaryOp .Add) (λx y H Q=>∃i j,x=.str i/\y=.str j/\i.length+j.length<=sizeLine/\Q (.str (i++j)) H):=by intro pins s σ H x y v u Q I rx ry h;obtain⟨i,j,rfl,rfl,hz,q⟩:=h;obtain⟨t,rfl⟩:=rx;obtain⟨t',rfl⟩:=ry;exact add_str (λt' tk=>⟨.str (i++j),H,I.tok _,⟨_,rfl⟩,q⟩) hz
theorem JK{x:V}{us:List Value}(r:qx [x] us):∃u,us=[u]/\qH x u:=by
 cases r with
 |cons r1 r2=>cases r2;exact⟨_,rfl,r1⟩
theorem QT{x y:V}{us:List Value}(r:qx [x,y] us):∃u w',us=[u,w']/\qH x u/\qH y w':=by
 cases r with
 |cons r1 r2=>
  cases r2 with
  |cons r3 r4=>cases r4;exact⟨_,_,rfl,r1,r3⟩
theorem qcA(hc:X.calm=true):q9 X (.builtin "max") (λxs H Q=>∃i j,xs=[.int i,.int j]/\Q (.int (if j > i then j else i)) H):=by
 intro pins s σ H xs us Q I r h;obtain⟨i,j,rfl,q⟩:=h;obtain⟨u,w',rfl,⟨t,rfl⟩,⟨t',rfl⟩⟩:=QT r;refine max_two_ints (I.ok.hd hc) λh' tk k=>⟨_,H,I.kept k,?_,q⟩
 by_cases hj:j > i
 ·rw[if_pos hj,if_pos hj];exact⟨_,rfl⟩
 ·rw[if_neg hj,if_neg hj];exact⟨_,rfl⟩
theorem qcB(hc:X.calm=true):q9 X (.builtin "min") (λxs H Q=>∃i j,xs=[.int i,.int j]/\Q (.int (if j < i then j else i)) H):=by
 intro pins s σ H xs us Q I r h;obtain⟨i,j,rfl,q⟩:=h;obtain⟨u,w',rfl,⟨t,rfl⟩,⟨t',rfl⟩⟩:=QT r;refine min_two_ints (I.ok.hd hc) λh' tk k=>⟨_,H,I.kept k,?_,q⟩
 by_cases hj:j < i
 ·rw[if_pos hj,if_pos hj];exact⟨_,rfl⟩
 ·rw[if_neg hj,if_neg hj];exact⟨_,rfl⟩
theorem QU:q9 X (.type "int") (λxs H Q=>(∃i,xs=[.int i]/\Q (.int i) H)\/∃k,xs=[.bl k]/\Q (.int (if k then 1 else 0)) H):=by
 intro pins s σ H xs us Q I r h;rcases h with ⟨i,rfl,q⟩ | ⟨k,rfl,q⟩
 ·obtain⟨u,rfl,t,rfl⟩:=JK r;exact call_int_int ⟨.int i,H,I,⟨_,rfl⟩,q⟩
 ·obtain⟨u,rfl,r1⟩:=JK r;cases r1;exact call_int_bool ⟨.int (if k then 1 else 0),H,I.tok _,⟨_,rfl⟩,q⟩
end
end L2
namespace L2
open PySem PySem.Spec PyProof.Rows
structure ObjM(h:Heap)(x dx C:Addr)(mA:PR):Prop where
 obj:h.get? x=some (PySem.W.instObj C dx)
 ns:h.Ns1 dx mA
 ne:dx≠x
theorem QV{h:Heap}{dx:Addr}{mA:PR}(n:h.Ns1 dx mA):∃od,h.get? dx=some od/\∀name,PySem.W.lookIn name od=some (mA name):=by
 obtain⟨o,es,ep,ho,hd,hk,_,hm⟩:=n;refine⟨o,ho,λname=>?_⟩;have e:=hm name;unfold nsFind findBy at e;rw[<-Array.find?_toList] at e;unfold PySem.W.lookIn;rw[hd];dsimp only;split
 ·rename_i y q;rw[q] at e;exact congrArg some e
 ·rename_i q;rw[q] at e
  have a:es.toList.any (·.refKey)=false:=by rw[List.any_eq_false];intro y hy;obtain⟨z,t,hkey⟩:=hk y (Array.mem_toList_iff.mp hy);simp[DictEntry.refKey,hkey]
  have a':¬ es.toList.any (·.refKey)=true:=by rw[a];exact Bool.false_ne_true
  rw[if_neg a'];exact congrArg some e
theorem ObjM.look{h:Heap}{x dx C:Addr}{mA:PR}(I:ObjM h x dx C mA):∃od,PySem.W.InstAt h x (PySem.W.instObj C dx) C (some od)/\∀name,PySem.W.lookIn name od=some (mA name):=
 let ⟨od,ho,hl⟩:=QV I.ns
 ⟨od,⟨I.obj,rfl,rfl,ho⟩,hl⟩
section
variable{prog:Program}{w:World}{A:Around}{E:PQ}{s:Shared}{K:Frag}{x dx C f:Addr}{mA:PR}{name:Str}{v:Value}
theorem qgM{expr:Bool}{Q:PQ}(X:K.In s.heap)(I:ObjM s.heap x dx C mA)(hg:PySem.W.plainGet K C name=true)(hh:PySem.W.hasDictIn K C=true)
  (ha:PySem.W.findIn K (.ref C) name=some none) (hv:mA name=some v) (hv':PySem.W.handedIn v=true) (h:Q v { s with toks:=s.toks+1 }) :
  wpAny (model prog w) A (getAttr (.ref x) name expr) Q E s:=by
 obtain⟨od,J,hl⟩:=I.look;exact PySem.W.get_value X J (PySem.W.plainGet_of hg).1 (PySem.W.findObj_own hh ha rfl (by rw[hl,hv])) hv' h
theorem qeA{pl:Sem Bool}{Q:Value×List Value->Shared->Prop}(X:K.In s.heap)(I:ObjM s.heap x dx C mA)(hg:PySem.W.plainGet K C name=true)
  (hf:PySem.W.findIn K (.ref C) name=some (some (.ref f))) (ht:PySem.W.isFn K (.ref f)=true) (hv:mA name=none) (h:Q (.ref f,[.ref x]) s) :
  wpAny (model prog w) A (getMethod (.ref x) name pl) Q E s:=by
 obtain⟨od,J,hl⟩:=I.look;exact PySem.W.method_fn X J (PySem.W.plainGet_of hg).1 (PySem.W.plainGet_of hg).2 hf (beq_iff_eq.mp ht) (by show(PySem.W.lookIn name od).map (·.isSome)=some false;rw[hl,hv];rfl) h
theorem qgN{ns:List Str}{Q:Unit->Shared->Prop}(X:K.In s.heap)(I:ObjM s.heap x dx C mA)
  (hs:PySem.W.findIn K (.ref C) "__setattr__" = some (some (.builtin "object.__setattr__"))) (hp:PySem.W.plainOver K C=true) (ht:PySem.W.takerIn K C name=some none) (hh:PySem.W.hasDictIn K C=true)
  (hw:PySem.Within mA ns) (hsz:ns.length<=sizeLine)
  (h:∀h',ObjM h' x dx C (λy=>if y=name then some v else mA y)->Heap.SameBut dx s.heap h'->Q () { s with heap:=h',toks:=s.toks+2 }) :
  wpAny (model prog w) A (setAttr (.ref x) name v) Q E s:=by
 obtain⟨od,J,hl⟩:=I.look;refine PySem.W.set_plain X J hs (PySem.W.osa_open (s:={ s with toks:=s.toks+1 }) (r:=none) X J hp ht λb=>?_);obtain⟨cd,hc,hd'⟩:=PySem.W.any_some hh;have hx:s.heap.get? x=some ⟨.ref C,some dx,.plain,#[]⟩:=I.obj;refine wpAny_bind (wpAny_pure (wpAny_bind (wpAny_bind (wpAny_loadPart hx (wpAny_bind (PySem.W.Looks.here (s:={ s with toks:=s.toks+1 }) (PySem.W.looks_clsIn X hc) ?_))))));rw[hd'];refine wpAny_pure (a:=some dx) (wpAny_bind (wpAny_pure (wpAny_bind ?_)));refine wpAny_nsSet1 (s:={ s with toks:=s.toks+1 }) I.ns λh' hn2 hs2=>?_;obtain⟨oD,esD,epD,hoD,hdD,hcD⟩:=hn2.count (PySem.Within.cons name v hw);refine wpAny_bind (wpAny_lookBehind hoD (by rw[hdD];exact pastItsLine_dict (Nat.le_trans hcD (by rw[List.length_cons];lia))) ?_);exact wpAny_pure (h _ ⟨(hs2.2 _ (Ne.symm I.ne)).trans I.obj,hn2,I.ne⟩ hs2)
theorem qeB{R:Result->Shared->Prop}{vs:List Value}{kw:List (Str×Value)}(X:K.In s.heap)(hm:PySem.W.makesIn K C=true)
  (hi:PySem.W.findIn K (.ref C) "__init__" = some (some (.ref f))) (hf:PySem.W.typeIn K (.ref f)=some (.type "function"))
  (h:codeAny (model prog w) (A.under (.builtin "type.__call__" ⟨.ref C::vs,kw⟩)) (.call (.ref f) ⟨.ref (s.heap.objs.size+1)::vs,kw⟩) (PySem.W.InitBack (s.heap.objs.size+1) R)
   { s with heap:=(s.heap.push PySem.W.emptyDict).push (PySem.W.instObj C s.heap.objs.size) }) :
  codeAny (model prog w) A (.call (.ref C) ⟨vs,kw⟩) R s:=by
 obtain⟨hh,g,d,t,os⟩:=s;exact PySem.W.make_core (PySem.W.makes_of X hm) (PySem.W.looks_findIn X hi) (λself=>PySem.W.bind_fn X self hf) (.inl rfl) h
end
noncomputable def ZX(f:Str)(v:V):List (Str×V)->List (Str×V)
 |[]=>[(f,v)]
 | (g,x)::r=>if g=f then (g,v)::r else (g,x)::ZX f v r
theorem JL(f g:Str)(v:V):∀fs:List (Str×V),(ZX f v fs).lookup g=if g=f then some v else fs.lookup g
 |[]=>by
  show List.lookup g [(f,v)]=_
  by_cases h:g=f
  ·have hb:(g == f)=true:=beq_iff_eq.mpr h;simp only[List.lookup,hb,if_pos h]
  ·have hb:(g == f)=false:=beq_eq_false_iff_ne.mpr h;simp only[List.lookup,hb,if_neg h]
 | (k,x)::r=>by
  have ih:=JL f g v r;rw[show ZX f v ((k,x)::r)=(if k=f then (k,v)::r else (k,x)::ZX f v r) from rfl]
  by_cases hk:k=f
  ·rw[if_pos hk]
   by_cases h:g=k
   ·have hb:(g == k)=true:=beq_iff_eq.mpr h;simp only[List.lookup,hb,if_pos (h.trans hk)]
   ·have hb:(g == k)=false:=beq_eq_false_iff_ne.mpr h;simp only[List.lookup,hb,if_neg (λe:g=f=>h (e.trans hk.symm))]
  ·rw[if_neg hk]
   by_cases h:g=k
   ·have hb:(g == k)=true:=beq_iff_eq.mpr h;simp only[List.lookup,hb,if_neg (λe:g=f=>hk (h.symm.trans e))]
   ·have hb:(g == k)=false:=beq_eq_false_iff_ne.mpr h;simp only[List.lookup,hb];exact ih
theorem JM(f:Str)(v:V):∀fs:List (Str×V),f∈(ZX f v fs).map (·.1)/\∀g,g∈fs.map (·.1)->g∈(ZX f v fs).map (·.1)
 |[]=>⟨by simp[ZX],λg h=>by simp at h⟩
 | (k,x)::r=>by
  obtain⟨i1,i2⟩:=JM f v r;rw[show ZX f v ((k,x)::r)=(if k=f then (k,v)::r else (k,x)::ZX f v r) from rfl]
  by_cases hk:k=f
  ·rw[if_pos hk];subst hk;exact⟨by simp,λg h=>by simpa using h⟩
  ·rw[if_neg hk];refine⟨?_,λg h=>?_⟩
   ·rw[List.map_cons];exact List.mem_cons_of_mem _ i1
   ·rw[List.map_cons] at h ⊢;rcases List.mem_cons.mp h with e | e
    ·exact List.mem_cons.mpr (.inl e)
    ·exact List.mem_cons_of_mem _ (i2 g e)
theorem JN(f:Str)(v:V):∀fs:List (Str×V),(ZX f v fs).length<=fs.length+1
 |[]=>by simp[ZX]
 | (k,x)::r=>by
  have ih:=JN f v r;rw[show ZX f v ((k,x)::r)=(if k=f then (k,v)::r else (k,x)::ZX f v r) from rfl]
  by_cases hk:k=f
  ·rw[if_pos hk,List.length_cons,List.length_cons];lia
  ·rw[if_neg hk,List.length_cons,List.length_cons];lia
theorem qcr.some_of{v:V}{o:Option Value}(r:qcr (some v) o):∃u,o=some u/\qH v u:=by
 cases o with
 |none=>exact(show False from r).elim
 |some u=>exact⟨u,rfl,r⟩
theorem qcr.none_of{o:Option Value}(r:qcr none o):o=none:=by
 cases o with
 |none=>rfl
 |some u=>exact(show False from r).elim
theorem qcC{v:V}{u:Value}(r:qH v u):PySem.W.handedIn u=true:=by
 cases v with
 |non=>cases (show u=Value.none from r);rfl
 |bl b=>cases (show u=Value.bool b from r);rfl
 |int i=>obtain⟨t,e⟩:=(show∃t,u=Value.int i t from r);cases e;rfl
 |str x=>obtain⟨t,e⟩:=(show∃t,u=Value.str x t from r);cases e;rfl
 |byt b=>obtain⟨t,e⟩:=(show∃t,u=Value.bytes b t from r);cases e;rfl
 |flt b=>obtain⟨t,e⟩:=(show∃t,u=Value.float b t from r);cases e;rfl
 |ref a=>cases (show u=Value.ref a from r);rfl
 |ty n=>cases (show u=Value.type n from r);rfl
section
variable{P:Program}{w:World}{H H':Hp}{h h':Heap}{a C dx:Addr}{fs fs':List (Str×V)}
theorem Y8(hok:HOk P w H h)(e:H a=some (.ins C dx fs)):∃mA,ObjM h a dx C mA/\(∀f,qcr (fs.lookup f) (mA f))/\PySem.Within mA (fs.map (·.1))/\fs.length<=1000/\H dx=some (.own a):=by obtain⟨d,z,ne,ob,mA,n,r,q⟩:=(show qP P w H h a (.ins C dx fs) from hok a _ e);exact⟨mA,⟨ob,n,ne⟩,r,q,z,d⟩
end
structure Cls(K:Frag)(C:Addr):Prop where
 pg:PySem.W.plainGet K C Str.empty=true
 hd:PySem.W.hasDictIn K C=true
 po:PySem.W.plainOver K C=true
 sa:PySem.W.findIn K (.ref C) "__setattr__" = some (some (.builtin "object.__setattr__"))
theorem Cls.get{K:Frag}{C:Addr}(c:Cls K C)(f:Str):PySem.W.plainGet K C f=true:=c.pg
def zD(K:Frag)(C:Addr)(f:Str):Prop:=PySem.W.findIn K (.ref C) f=some none
theorem zD.taker{K:Frag}{C:Addr}{f:Str}(n:zD K C f):PySem.W.takerIn K C f=some none:=by unfold PySem.W.takerIn;rw[show PySem.W.findIn K (.ref C) f=some none from n];rfl
structure Meth(K:Frag)(C:Addr)(m:Str)(f:Addr):Prop where
 at_:PySem.W.findIn K (.ref C) m=some (some (.ref f))
 fn:PySem.W.isFn K (.ref f)=true
 kp:PySem.W.keepIn K (.ref f)=true
section
variable{X:Cx}{pins:PP}{σ:St}{H:Hp}{s:Shared}{a C dx:Addr}{fs:List (Str×V)}{f:Str}{v:V}{A:Around}{E:PQ}
theorem qbI{b:Bool}{Q:PQ}(I:Inv X pins σ H s)(e:H a=some (.ins C dx fs))(c:Cls X.K C)(n:zD X.K C f)(l:fs.lookup f=some v)
  (h:∀u s',Inv X pins σ H s'->qH v u->Q u s'):wpAny (model X.prog X.w) A (getAttr (.ref a) f b) Q E s:=by
 obtain⟨mA,O,r,_,_,_⟩:=Y8 I.hok e;obtain⟨u,hu,ru⟩:=qcr.some_of (v:=v) (o:=mA f) (by rw[<-l];exact r f);exact qgM I.kIn O (c.get f) c.hd n hu (qcC ru) (h u _ (I.tok _) ru)
theorem YI{m:Str}{g:Addr}{pl:Sem Bool}{Q:Value×List Value->Shared->Prop}(I:Inv X pins σ H s)(e:H a=some (.ins C dx fs))(c:Cls X.K C)(k:Meth X.K C m g)(l:fs.lookup m=none)
  (h:Q (.ref g,[.ref a]) s):wpAny (model X.prog X.w) A (getMethod (.ref a) m pl) Q E s:=by
 obtain⟨mA,O,r,_,_,_⟩:=Y8 I.hok e;have hn:mA m=none:=qcr.none_of (by rw[<-l];exact r m);exact qeA I.kIn O (c.get m) k.at_ k.fn hn h
theorem qbJ{y:V}{u:Value}{Q:Unit->Shared->Prop}(I:Inv X pins σ H s)(e:H a=some (.ins C dx fs))(c:Cls X.K C)(n:zD X.K C f)(hl:fs.length < 1000)(ry:qH y u)
  (h:∀s',Inv X pins σ (upd H a (.ins C dx (ZX f y fs))) s'->Q () s'):wpAny (model X.prog X.w) A (setAttr (.ref a) f u) Q E s:=by
 obtain⟨mA,O,r,wi,_,ho⟩:=Y8 I.hok e;have hz:(fs.map (·.1)).length<=sizeLine:=by rw[List.length_map,sizeLine_eq];lia
 refine qgN I.kIn O c.sa c.po n.taker c.hd wi hz λh' O' sb=>h _ ?_;have hd:∃o,h'.get? dx=some o:=let ⟨o,_,_,e',_⟩:=O'.ns;⟨o,e'⟩;refine I.write (x:=a) (e:=dx) (by rw[e];exact True.intro) (.inr ho) (λb q hb z=>(sb.2 b hb).trans z) hd ?_;refine⟨by rw[qe O.ne];exact ho,?_,O.ne,O'.obj,_,O'.ns,λg=>?_,λg hg=>?_⟩
 ·have:=JN f y fs;lia
 ·show qcr ((ZX f y fs).lookup g) (if g=f then some u else mA g);rw[JL]
  by_cases q:g=f
  ·rw[if_pos q,if_pos q];exact ry
  ·rw[if_neg q,if_neg q];exact r g
 ·by_cases q:g=f
  ·rw[q];exact(JM f y fs).1
  ·refine(JM f y fs).2 g (wi g λz=>hg ?_);show(if g=f then some u else mA g)=none;rw[if_neg q];exact z
theorem Inv.made(I:Inv X pins σ H s):Inv X pins σ (upd (upd H s.heap.objs.size (.own (s.heap.objs.size+1))) (s.heap.objs.size+1) (.ins C s.heap.objs.size []))
  { s with heap:=(s.heap.push PySem.W.emptyDict).push (PySem.W.instObj C s.heap.objs.size) }:=by
 have e1:(s.heap.push PySem.W.emptyDict).get? s.heap.objs.size=some PySem.W.emptyDict:=Heap.get?_push_size s.heap rfl
 have e2:((s.heap.push PySem.W.emptyDict).push (PySem.W.instObj C s.heap.objs.size)).get? (s.heap.objs.size+1)=some (PySem.W.instObj C s.heap.objs.size):=by
  have:=Heap.get?_push_size (s.heap.push PySem.W.emptyDict) (o:=PySem.W.instObj C s.heap.objs.size) rfl
  rwa[Heap.size_push] at this
 have e3:(s.heap.push PySem.W.emptyDict).Ns s.heap.objs.size (λ_=>none):=⟨PySem.W.emptyDict,#[],_,e1,rfl,(λe he=>absurd he (by simp)),λ_=>rfl⟩;have I1:=I.laid (a:=s.heap.objs.size) (o:=.own (s.heap.objs.size+1)) (h':=s.heap.push PySem.W.emptyDict) (t':=s.toks) (λb u q=>Heap.get?_push_of_some _ q) (Nat.le_refl _) ⟨_,e1⟩;refine I1.laid (a:=s.heap.objs.size+1) (o:=.ins C s.heap.objs.size []) (t':=s.toks) (λb u q=>Heap.get?_push_of_some _ q) (Nat.le_of_eq (Heap.size_push _ _)) ?_;have ne:s.heap.objs.size≠s.heap.objs.size+1:=Nat.ne_of_lt (Nat.lt_succ_self _);refine⟨by rw[qe ne,qg],Nat.zero_le _,ne,e2,λ_=>none,(Heap.Ns1.of_empty e3).at λo q=>Heap.get?_push_of_some _ q,λ_=>True.intro,λy hy=>absurd rfl hy⟩
theorem qcD{prog:Program}{w:World}{env:Env}{e:Expr}{f:Str}{pos:Pos}{s:Shared}{Q:PQ}(hb:attributeBase e f env (eval e env)=eval e env)
  (h:wpAny (model prog w) A (eval e env) (λo s₁=>wpAny (model prog w) A (getAttr o f true) Q E s₁) E s):wpAny (model prog w) A (eval (.Attribute e f pos) env) Q E s:=
 Attribute_any_ h (by rw[arm_eval_Attribute,hb])
end
noncomputable def qnJ(K:Frag)(ta:TE)(f:Str):TE:=λσ H Q=>ta σ H λx H1=>∃a C dx fs v,x=.ref a/\H1 a=some (.ins C dx fs)/\Cls K C/\zD K C f/\fs.lookup f=some v/\Q v H1
noncomputable def qnK(K:Frag)(ta tv:TE)(f:Str):TS:=λD σ H=>tv σ H λy H1=>ta σ H1 λx H2=>∃a C dx fs,x=.ref a/\H2 a=some (.ins C dx fs)/\Cls K C/\zD K C f/\fs.length < 1000/\
 D.nx σ (upd H2 a (.ins C dx (ZX f y fs)))
section
variable{X:Cx}{o e value:Expr}{f:Str}{pos pos' tpos:Pos}{ta tv:TE}
theorem qi4(he:PE X e ta)(hb:attributeBase e f X.env (eval e X.env)=eval e X.env):PE X (.Attribute e f pos) (qnJ X.K ta f):=by intro pins s σ H Q I h;refine qcD hb (thn (he pins s σ H _ I h) λu s1 hq1=>?_);obtain⟨x,H1,I1,rx,a,C,dx,fs,v,ex,ea,c,n,l,q⟩:=hq1;subst ex;obtain rfl:u=Value.ref a:=rx;exact qbI I1 ea c n l λu' s2 I2 ru=>⟨v,H1,I2,ru,q⟩
theorem YJ(ha:PE X o ta)(hv:PE X value tv)(hs:swapsWith value (some (.Attribute o f pos')) pos.line X.env=pure false):PS X (.Assign [.Attribute o f pos'] value pos) (qnK X.K ta tv f):=by intro pins s σ H D I h;refine plainObj_wpAny_Assign_Attribute (thn (hv pins s σ H _ I h) λu s1 ⟨y,H1,I1,ry,q⟩=>thn (ha pins s1 σ H1 _ I1 q) λov s2 ⟨x,H2,I2,rx,a,C,dx,fs,ex,ea,c,n,l,q2⟩=>?_) hs;subst ex;obtain rfl:ov=Value.ref a:=rx;exact qbJ I2 ea c n l ry λs3 I3=>⟨σ,_,I3,q2⟩
end
section
variable{X:Cx}{pins:PP}{σ:St}{H:Hp}{s:Shared}{A:Around}{E:PQ}{Q:PQ}{c:Value}{b:Bool}
inductive TyOf(K:Frag)(H:Hp):V->Value->Prop where
 | non:TyOf K H .non (.type "NoneType")
 | bl (x:Bool):TyOf K H (.bl x) (.type "bool")
 | int (i:Int):TyOf K H (.int i) (.type "int")
 | str (x:Str):TyOf K H (.str x) (.type "str")
 | flt (x:UInt64):TyOf K H (.flt x) (.type "float")
 | lst {a:Addr} {xs:List V} (e:H a=some (.lst xs)):TyOf K H (.ref a) (.type "list")
 | frz {a:Addr} {o:Obj} {xs:List V} (e:H a=some (.frz o (.lst xs))):TyOf K H (.ref a) (.type "list")
 | tup {a:Addr} {xs:List V} (e:H a=some (.tup xs)):TyOf K H (.ref a) (.type "tuple")
 | dK {a:Addr} {kvs:List (Key×V)} (e:H a=some (.dK kvs)):TyOf K H (.ref a) (.type "dict")
 | dT {a:Addr} {kvs:List (List Key×V)} (e:H a=some (.dT kvs)):TyOf K H (.ref a) (.type "dict")
 | ins {a C dx:Addr} {fs:List (Str×V)} (e:H a=some (.ins C dx fs)) (cl:Cls K C) (ha:PySem.W.findIn K (.ref C) "__class__" = some (some (.builtin "object.__class__")))
   (hn:PySem.W.specialIn K (.builtin "object.__class__") "__get__" = some (some (.builtin "getset_descriptor.__get__"))) (htk:PySem.W.takesIn K (.builtin "object.__class__")=some true)
   (hm:PySem.W.mroIn K C (.type "object")=some true):TyOf K H (.ref a) (.ref C)
theorem QW{x:V}{u t:Value}(I:Inv X pins σ H s)(rx:qH x u)(ty:TyOf X.K H x t)(e:PySem.W.kitOne X.K t c=some b)(h:∀tk,Q (.bool b) { s with toks:=tk }) :
  wpAny (model X.prog X.w) A (call (.builtin "isinstance") [u,c]) Q E s:=by
 cases ty with
 |non=>cases (show u=Value.none from rx);exact PySem.W.kia_one PySem.W.kitx_none I.kIn True.intro e (λz=>nomatch z) h
 |bl y=>cases (show u=Value.bool y from rx);exact PySem.W.kia_one PySem.W.kitx_bool I.kIn True.intro e (λz=>nomatch z) h
 |int i=>obtain⟨t,q⟩:=(show∃t,u=Value.int i t from rx);cases q;exact PySem.W.kia_one PySem.W.kitx_int I.kIn True.intro e (λz=>nomatch z) h
 |str y=>obtain⟨t,q⟩:=(show∃t,u=Value.str y t from rx);cases q;exact PySem.W.kia_one PySem.W.kitx_str I.kIn True.intro e (λz=>nomatch z) h
 |flt y=>obtain⟨t,q⟩:=(show∃t,u=Value.float y t from rx);cases q;exact PySem.W.kia_one PySem.W.kitx_float I.kIn True.intro e (λz=>nomatch z) h
 |@lst a xs ea=>
  cases (show u=Value.ref a from rx)
  obtain⟨_,_,n,_,h1⟩:=(show qP X.prog X.w H s.heap a (.lst xs) from I.hok a _ ea);exact PySem.W.kia_one PySem.W.kitx_list I.kIn ⟨_,h1,rfl⟩ e (λz=>nomatch z) h
 |@frz a ob xs ea=>
  cases (show u=Value.ref a from rx)
  obtain⟨_,_,_,n,_,h1⟩:=(show qP X.prog X.w H s.heap a (.frz ob (.lst xs)) from I.hok a _ ea);exact PySem.W.kia_one PySem.W.kitx_list I.kIn ⟨_,h1,rfl⟩ e (λz=>nomatch z) h
 |@tup a xs ea=>
  cases (show u=Value.ref a from rx)
  obtain⟨_,_,_,p⟩:=(show qP X.prog X.w H s.heap a (.tup xs) from I.hok a _ ea);obtain⟨o,h1,h2,_⟩:=p;exact PySem.W.kia_one PySem.W.kitx_tuple I.kIn ⟨o,h1,h2⟩ e (λz=>nomatch z) h
 |@dK a kvs ea=>
  cases (show u=Value.ref a from rx)
  obtain⟨_,_,vs,_,p⟩:=(show qP X.prog X.w H s.heap a (.dK kvs) from I.hok a _ ea);obtain⟨o,es,ep,h1,h2,_⟩:=p;exact PySem.W.kia_one PySem.W.kitx_dict I.kIn ⟨o,h1,h2.1⟩ e (λz=>nomatch z) h
 |@dT a kvs ea=>
  cases (show u=Value.ref a from rx)
  obtain⟨_,_,xs,_,o,es,ep,h1,h2,_⟩:=(show qP X.prog X.w H s.heap a (.dT kvs) from I.hok a _ ea);exact PySem.W.kia_one PySem.W.kitx_dict I.kIn ⟨o,h1,h2.1⟩ e (λz=>nomatch z) h
 |@ins a C dx fs ea cl ha hn htk hm=>
  cases (show u=Value.ref a from rx)
  obtain⟨mA,O,_⟩:=Y8 I.hok ea;obtain⟨od,J,_⟩:=O.look;exact PySem.W.kia_one (PySem.W.kitx_own (cl.get _) cl.hd ha hn htk hm) I.kIn J e (λz=>nomatch z) h
end
end L2
namespace L2
open PySem PySem.Spec PyProof.Rows
structure Room(k:Nat)(A:Around):Prop where
 hd:A.handled=none
 dp:A.depth+3 * k+5 < recursionLimit
 un:A.units+16 * k+200 < cLine
theorem Room.deeper{k:Nat}{A:Around}(r:Room (k+1) A)(env:Env):Room k (A.deeper env):=
 ⟨r.hd,by have:=r.dp;show A.depth+1+3 * k+5 < _;lia,by have:=r.un;show A.units+3+16 * k+200 < _;lia⟩
theorem qbK{A:Around}{C:Addr}{us:List Value}{kw:List (Str×Value)}:(A.under (.builtin "type.__call__" ⟨.ref C::us,kw⟩)).depth=A.depth+1:=by first | rfl | simp[Around.under,Code.weight,Code.isCreation,Code.isGuard,Code.isCaller,Code.frames,Code.isFrame,guardIds]
theorem qbL{A:Around}{C:Addr}{us:List Value}{kw:List (Str×Value)}:(A.under (.builtin "type.__call__" ⟨.ref C::us,kw⟩)).units=A.units+1:=by first | rfl | simp[Around.under,Code.cUnits,Code.frames,Code.isFrame]
theorem Room.make{k:Nat}{A:Around}(r:Room (k+1) A)(C:Addr)(us:List Value)(kw:List (Str×Value)):Room k (A.under (.builtin "type.__call__" ⟨.ref C::us,kw⟩)):=
 ⟨r.hd,by have:=r.dp;rw[qbK];lia,by have:=r.un;rw[qbL];lia⟩
theorem Room.depth{k:Nat}{A:Around}(r:Room k A):A.depth < recursionLimit:=by have:=r.dp;lia
def qiv:TA:=λ_ H Q=>Q [] H
def qeC(ta:TE)(tr:TA):TA:=λσ H Q=>ta σ H λx H1=>tr σ H1 λxs H2=>Q (x::xs) H2
section
variable{X:Cx}{e:Expr}{es:List Expr}{te:TE}{t:TA}{pos:Pos}
theorem qw:PA X [] qiv:=λ_ _ _ _ H Q I h=>Calls.spliced_nil ⟨[],H,I,.nil,h⟩
theorem qh(ha:PE X e te)(hr:PA X es t)(hs:starEach (e::es) X.env=(false,eval e X.env)::starEach es X.env:=by rfl):PA X (e::es) (qeC te t):=by intro pos pins s σ H Q I h;rw[hs];show wpAny _ _ (spliced ((false,eval e X.env)::backTo pos (starEach es X.env))) _ _ s;refine Calls.spliced_cons (thn (ha pins s σ H _ I h) λu s1 hq1=>?_);obtain⟨x,H1,I1,r1,q1⟩:=hq1;exact thn (hr pos pins s1 σ H1 _ I1 q1) λus s2 ⟨xs,H2,I2,r2,q2⟩=>⟨x::xs,H2,I2,.cons r1 r2,q2⟩
noncomputable def qnL(t:TA):TE:=λσ H Q=>t σ H λxs H1=>xs.length<=sizeLine/\∀p,H1 p=none->Q (.ref p) (upd H1 p (.tup xs))
noncomputable def qnM(t:TA):TE:=λσ H Q=>t σ H λxs H1=>xs.length<=sizeLine/\∀p,H1 p=none->Q (.ref p) (upd H1 p (.lst xs))
theorem qfX{x1}(h:PA X es t):PE X (.Tuple es x1 pos) (qnL t):=by intro pins s σ H Q I hq;refine wpAny_Tuple_spliced (thn (h pos pins s σ H _ I hq) λus s1 ⟨xs,H1,I1,r,z,q⟩=>⟨by rw[<-r.length];exact z,?_⟩);have hf:H1 s1.heap.objs.size=none:=I1.hok.fresh (Nat.le_refl _);refine⟨.ref s1.heap.objs.size,upd H1 s1.heap.objs.size (.tup xs),I1.laid (t':=s1.toks) (λb u e=>Heap.get?_push_of_some _ e) (Nat.le_refl _) ?_,rfl,q _ hf⟩;exact⟨z,us,r,⟨_,Heap.get?_push_size _ rfl,rfl,_,rfl⟩⟩
theorem qi5(h:PA X es t):PE X (.List es pos) (qnM t):=by intro pins s σ H Q I hq;refine wpAny_List_spliced (thn (h pos pins s σ H _ I hq) λus s1 ⟨xs,H1,I1,r,z,q⟩=>⟨by rw[<-r.length];exact z,?_⟩);have hf:H1 s1.heap.objs.size=none:=I1.hok.fresh (Nat.le_refl _);refine⟨.ref s1.heap.objs.size,upd H1 s1.heap.objs.size (.lst xs),I1.laid (t':=s1.toks) (λb u e=>Heap.get?_push_of_some _ e) (Nat.le_refl _) ?_,rfl,q _ hf⟩;exact⟨z,us,0,r,Heap.get?_push_size _ rfl⟩
end
abbrev Sp:=List V->Hp->VK->XK->Prop
abbrev CXT:=List Env->Hp->Shared->XK->Value->Shared->Prop
structure Env0(P:Program)(w:World)(K:Frag)(mg:PR)(base:Heap)(A:Around)(outer:List Env)(s:Shared)(H:Hp):Prop where
 frames:A.frames=some outer
 mod:Mod K mg base
 bs:∀b o,base.get? b=some o->s.heap.get? b=some o/\H b=none
 bsz:base.objs.size<=s.heap.objs.size
 funs:s.heap.FunFrames base outer
 frf:∀b∈frs outer,H b=none
 hok:HOk P w H s.heap
 bare:AllBare s.gens
noncomputable def CE(outer:List Env)(P:Program)(w:World)(H:Hp)(s:Shared)(Q:VK)(u:Value)(s':Shared):Prop:=
 ∃v H',s'.os=s.os/\AllBare s'.gens/\Un (frs outer) [] H H' s.heap s'.heap/\HOk P w H' s'.heap/\qH v u/\Q v H'
noncomputable def CR(CX:CXT)(outer:List Env)(P:Program)(w:World)(H:Hp)(s:Shared)(Q:VK)(E:XK)(r:Result)(s':Shared):Prop:=
 match r with
 |.ok (.ret u)=>CE outer P w H s Q u s'
 |.ok _=>False
 |.error e=>CX outer H s E e s'
structure FnOk(P:Program)(w:World)(K:Frag)(mg:PR)(base:Heap)(CX:CXT)(k:Nat)(f:Addr)(fd:FuncData)(ps:List Str)(sp:Sp):Prop where
 len:∀vs H Q E,sp vs H Q E->vs.length=ps.length
 run:∀(A:Around) (outer:List Env) (s:Shared) (H:Hp) (args:Args) (us:List Value) (vs:List V) (Q:VK) (E:XK),Room k A->Env0 P w K mg base A outer s H->BindsTo s fd args (ps.zip us)->qx vs us->sp vs H Q E->
  codeAny (model P w) A (.call (.ref f) args) (CR CX outer P w H s Q E) s
theorem Env0.make{P:Program}{w:World}{K:Frag}{mg:PR}{base:Heap}{A:Around}{outer:List Env}{s:Shared}{H:Hp}(e:Env0 P w K mg base A outer s H)(C:Addr)(us:List Value)(kw:List (Str×Value)) :
  Env0 P w K mg base (A.under (.builtin "type.__call__" ⟨.ref C::us,kw⟩)) outer s H:=⟨by first | exact e.frames | (simpa [Around.under,Code.envs,Code.isFrame,pushEnvs] using e.frames),e.mod,e.bs,e.bsz,e.funs,e.frf,e.hok,e.bare⟩
section
variable{X:Cx}{pins:PP}{σ:St}{H:Hp}{s s':Shared}
theorem Inv.env0(I:Inv X pins σ H s):Env0 X.prog X.w X.K X.mg X.base X.A X.stack s H:=
 ⟨I.ok.frames,I.ok.mod,I.bs,Nat.le_trans I.ok.bsz I.sz,I.stack,I.stkFree,I.hok,I.bare⟩
theorem Inv.after{Q:VK}{u:Value}(I:Inv X pins σ H s)(h:CE X.stack X.prog X.w H s Q u s'):EP X pins σ Q u s':=by obtain⟨v,H',os,bare,un,hok,r,q⟩:=h;obtain⟨hh,g,d,t,os'⟩:=s';obtain rfl:os'=s.os:=os;exact⟨v,H',I.call (h':=hh) (g':=g) (d':=d) (t':=t) (ch:=[]) un hok bare (λb z=>absurd z (by simp)),r,q⟩
end
def qcE(sp:Sp)(dvs:List V)(E:XK)(t:TA):TE:=λσ H Q=>t σ H λvs H1=>sp (vs++dvs) H1 Q E
noncomputable def qgO(C:Addr)(m:Str)(sp:Sp)(dvs:List V)(E:XK)(ta:TE)(t:TA):TE:=λσ H Q=>ta σ H λx H1=>∃a dx fs,x=.ref a/\H1 a=some (.ins C dx fs)/\fs.lookup m=none/\
 t σ H1 λvs H2=>sp (x::(vs++dvs)) H2 Q E
noncomputable def qgP(C:Addr)(sp:Sp)(dvs:List V)(E:XK)(t:TA):TE:=λσ H Q=>t σ H λvs H1=>∀x dx,H1 x=none->H1 dx=none->dx≠x->
 sp (.ref x::(vs++dvs)) (upd (upd H1 dx (.own x)) x (.ins C dx [])) (λv H2=>v=.non/\Q (.ref x) H2) E
noncomputable def qK(K:Frag)(fd:FuncData)(ps:List Str)(ds:List Value):Prop:=
 ∀(s:Shared) (us:List Value),K.In s.heap->(us++ds).length=ps.length->BindsTo s fd ⟨us,[]⟩ (ps.zip (us++ds))
theorem qK.all{K:Frag}{fd:FuncData}{ps:List Str}(h:∀us:List Value,us.length=ps.length->bindArgs fd ⟨us,[]⟩=pure (ps.zip us)):qK K fd ps []:=λs us _ hl=>by rw[List.append_nil] at hl ⊢;exact .of_eq (h us hl)
noncomputable def jG(CX:CXT)(X:Cx)(E:XK):Prop:=∀(pins:PP) (σ:St) (H:Hp) (s:Shared) (e:Value) (s':Shared),Inv X pins σ H s->CX X.stack H s E e s'->X.xe e s'
section
variable{X:Cx}{CX:CXT}{k:Nat}{f C:Addr}{fd:FuncData}{ps:List Str}{sp:Sp}{dvs:List V}{ds:List Value}{E:XK}{x m:Str}{p pos apos:Pos}{e o:Expr}{es:List Expr}{ta:TE}{t:TA}
theorem QX{pins:PP}{σ:St}{H:Hp}{s:Shared}{Q:VK}{us:List Value}{vs:List V}(F:FnOk X.prog X.w X.K X.mg X.base CX k f fd ps sp)(hr:Room k X.A)(hb:qK X.K fd ps ds)(hd:qx dvs ds)(hx:jG CX X E)
  (I:Inv X pins σ H s) (r:qx vs us) (h:sp (vs++dvs) H Q E):wpAny (model X.prog X.w) X.A (call (.ref f) us) (EP X pins σ Q) X.xe s:=by
 have r2:qx (vs++dvs) (us++ds):=r.append hd;have hl:(us++ds).length=ps.length:=by rw[<-r2.length];exact F.len _ _ _ _ h
 refine wpAny_call (codeAny_mono (F.run X.A X.stack s H ⟨us,[]⟩ (us++ds) (vs++dvs) Q E hr I.env0 (hb s us I.kIn hl) r2 h) λr s' hq=>?_)
 cases r with
 |error e=>exact hx pins σ H s e s' I hq
 |ok fl=>
  cases fl with
  |ret u=>exact I.after hq
  |next=>exact False.elim hq
  |brk=>exact False.elim hq
  |cont=>exact False.elim hq
theorem jx(F:FnOk X.prog X.w X.K X.mg X.base CX k f fd ps sp)(hr:Room k X.A)(hg:Gl X x)(hm:X.mg x=some (.ref f))(hk:PySem.W.keepIn X.K (.ref f)=true)(hb:qK X.K fd ps ds)(hd:qx dvs ds)(hx:jG CX X E)
  (ha:PA X (e::es) t) (hdb:(x == ("__debug__" : Str))=false:=by decide) (he:starEach (e::es) X.env=(false,eval e X.env)::starEach es X.env:=by rfl) (hpl:(backTo pos (starEach es X.env)).any (·.1)=false:=by rfl) :
  PE X (.Call (.Name x p) (e::es) [] pos) (qcE sp dvs E t):=by
 intro pins s σ H Q I h;refine wpAny_Call_Name_kw (z7 I hg hm ?_ hdb);refine PySem.W.callWith_K (h₀:=X.base) I.ok.mod.kin hk (thn (ha pos pins s σ H _ I h) λus s1 ⟨vs,H1,I1,r,q⟩=>⟨I1.kIn,?_⟩) he hpl;exact QX F hr hb hd hx I1 r q
theorem qaJ(F:FnOk X.prog X.w X.K X.mg X.base CX k f fd ps sp)(hr:Room k X.A)(hg:Gl X x)(hm:X.mg x=some (.ref f))(hk:PySem.W.keepIn X.K (.ref f)=true)(hb:qK X.K fd ps ds)(hd:qx dvs ds)(hx:jG CX X E)
  (hdb:(x == ("__debug__" : Str))=false:=by decide):PE X (.Call (.Name x p) [] [] pos) (qcE sp dvs E qiv):=by
 intro pins s σ H Q I h;refine wpAny_Call_Name_kw (z7 I hg hm ?_ hdb);exact PySem.W.callWith_K0 I.kIn hk (QX (us:=[]) F hr hb hd hx I .nil h)
theorem qgQ{pl:Sem Bool}(he:PE X o ta)(c:Cls X.K C)(hm:Meth X.K C m f)(F:FnOk X.prog X.w X.K X.mg X.base CX k f fd ps sp)(hr:Room k X.A)(hb:qK X.K fd ps ds)(hd:qx dvs ds)(hx:jG CX X E)(ha:PA X (e::es) t)
  (hst:starEach (e::es) X.env=(false,eval e X.env)::starEach es X.env:=by rfl) (hpl:(backTo pos (starEach es X.env)).any (·.1)=false:=by rfl)
  (ht:eval (.Call (.Attribute o m apos) (e::es) [] pos) X.env=(do
   let ov<-eval o X.env
   standAt apos.atName
   let (f,first)<-holding [ov] (getMethod ov m pl)
   callWith pos f first (backTo pos (starEach (e::es) X.env)) (backToKw pos (keywordEach [] X.env))):=by rfl) :
  PE X (.Call (.Attribute o m apos) (e::es) [] pos) (qgO C m sp dvs E ta t):=by
 intro pins s σ H Q I h;refine PySem.W.methodCall_KW (pl:=pl) (thn (he pins s σ H _ I h) λu s1 ⟨x,H1,I1,rx,a,dx,fs,ex,ea,l,q⟩=>?_) ht;subst ex;obtain rfl:u=Value.ref a:=rx;refine YI I1 ea c hm l ?_;refine PySem.W.callWith_K (first:=[.ref a]) (h₀:=X.base) I.ok.mod.kin hm.kp (thn (ha pos pins s1 σ H1 _ I1 q) λus s2 ⟨vs,H2,I2,r,q2⟩=>⟨I2.kIn,?_⟩) hst hpl;exact QX (us:=.ref a::us) (vs:=.ref a::vs) F hr hb hd hx I2 (.cons rfl r) q2
theorem qeD{pl:Sem Bool}(he:PE X o ta)(c:Cls X.K C)(hm:Meth X.K C m f)(F:FnOk X.prog X.w X.K X.mg X.base CX k f fd ps sp)(hr:Room k X.A)(hb:qK X.K fd ps ds)(hd:qx dvs ds)(hx:jG CX X E)
  (ht:eval (.Call (.Attribute o m apos) [] [] pos) X.env=(do
   let ov<-eval o X.env
   standAt apos.atName
   let (f,first)<-holding [ov] (getMethod ov m pl)
   callWith pos f first (backTo pos (starEach [] X.env)) (backToKw pos (keywordEach [] X.env))):=by rfl) :
  PE X (.Call (.Attribute o m apos) [] [] pos) (qgO C m sp dvs E ta qiv):=by
 intro pins s σ H Q I h;refine PySem.W.methodCall_KW (pl:=pl) (thn (he pins s σ H _ I h) λu s1 ⟨x,H1,I1,rx,a,dx,fs,ex,ea,l,q⟩=>?_) ht;subst ex;obtain rfl:u=Value.ref a:=rx;refine YI I1 ea c hm l ?_;exact PySem.W.callWith_K0 (first:=[.ref a]) I1.kIn hm.kp (QX (us:=[.ref a]) (vs:=[.ref a]) F hr hb hd hx I1 %[rfl|0] q)
structure Mk(K:Frag)(C f:Addr):Prop where
 makes:PySem.W.makesIn K C=true
 init:PySem.W.findIn K (.ref C) "__init__" = some (some (.ref f))
 fn:PySem.W.isFn K (.ref f)=true
 kp:PySem.W.keepIn K (.ref C)=true
theorem qaK{pins:PP}{σ:St}{H:Hp}{s:Shared}{Q:VK}{us:List Value}{vs:List V}(M:Mk X.K C f)(F:FnOk X.prog X.w X.K X.mg X.base CX k f fd ps sp)(hr:Room (k+1) X.A)(hb:qK X.K fd ps ds)(hd:qx dvs ds)
  (hx:jG CX X E) (I:Inv X pins σ H s) (r:qx vs us)
  (h:∀x dx,H x=none->H dx=none->dx≠x->sp (.ref x::(vs++dvs)) (upd (upd H dx (.own x)) x (.ins C dx [])) (λv H2=>v=.non/\Q (.ref x) H2) E) :
  wpAny (model X.prog X.w) X.A (call (.ref C) us) (EP X pins σ Q) X.xe s:=by
 have hq:=h (s.heap.objs.size+1) s.heap.objs.size (I.hok.fresh (Nat.le_succ _)) (I.hok.fresh (Nat.le_refl _)) (Nat.ne_of_lt (Nat.lt_succ_self _));have I2:=Inv.made (C:=C) I;have r2:qx (V.ref (s.heap.objs.size+1)::(vs++dvs)) (Value.ref (s.heap.objs.size+1)::(us++ds)):=.cons rfl (r.append hd)
 have hl:(Value.ref (s.heap.objs.size+1)::us++ds).length=ps.length:=by have e:=r2.length;rw[F.len _ _ _ _ hq] at e;exact e.symm
 refine wpAny_call (qeB (f:=f) I.kIn M.makes M.init (beq_iff_eq.mp M.fn) (codeAny_mono (F.run _ X.stack _ _ ⟨Value.ref (s.heap.objs.size+1)::us,[]⟩ (Value.ref (s.heap.objs.size+1)::(us++ds)) _ _ E (hr.make C us [])
  (I2.env0.make C us []) (hb _ (Value.ref (s.heap.objs.size+1)::us) I2.kIn hl) r2 hq) λr s' hq'=>?_))
 cases r with
 |error e=>exact hx pins σ _ _ e s' I2 hq'
 |ok fl=>
  cases fl with
  |ret u=>obtain⟨v,H',I3,rv,ev,q3⟩:=I2.after hq';subst ev;exact⟨rv,⟨V.ref (s.heap.objs.size+1),H',I3,rfl,q3⟩⟩
  |next=>exact False.elim hq'
  |brk=>exact False.elim hq'
  |cont=>exact False.elim hq'
theorem qgR(M:Mk X.K C f)(F:FnOk X.prog X.w X.K X.mg X.base CX k f fd ps sp)(hr:Room (k+1) X.A)(hg:Gl X x)(hm:X.mg x=some (.ref C))(hb:qK X.K fd ps ds)(hd:qx dvs ds)(hx:jG CX X E)
  (ha:PA X (e::es) t) (hdb:(x == ("__debug__" : Str))=false:=by decide) (he:starEach (e::es) X.env=(false,eval e X.env)::starEach es X.env:=by rfl) (hpl:(backTo pos (starEach es X.env)).any (·.1)=false:=by rfl) :
  PE X (.Call (.Name x p) (e::es) [] pos) (qgP C sp dvs E t):=by
 intro pins s σ H Q I h;refine wpAny_Call_Name_kw (z7 I hg hm ?_ hdb);refine PySem.W.callWith_K (h₀:=X.base) I.ok.mod.kin M.kp (thn (ha pos pins s σ H _ I h) λus s1 ⟨vs,H1,I1,r,q⟩=>⟨I1.kIn,?_⟩) he hpl;exact qaK M F hr hb hd hx I1 r q
theorem qeE(M:Mk X.K C f)(F:FnOk X.prog X.w X.K X.mg X.base CX k f fd ps sp)(hr:Room (k+1) X.A)(hg:Gl X x)(hm:X.mg x=some (.ref C))(hb:qK X.K fd ps ds)(hd:qx dvs ds)(hx:jG CX X E)
  (hdb:(x == ("__debug__" : Str))=false:=by decide):PE X (.Call (.Name x p) [] [] pos) (qgP C sp dvs E qiv):=by
 intro pins s σ H Q I h;refine wpAny_Call_Name_kw (z7 I hg hm ?_ hdb);exact PySem.W.callWith_K0 I.kIn M.kp (qaK (us:=[]) M F hr hb hd hx I .nil h)
end
structure FnScope(N P:List Str)(sc:Scope):Prop where
 kind:sc.kind=.function
 co:sc.isCoroutine=false
 gen:sc.isGenerator=false
 nd:N.Nodup
 pre:N.take P.length=P
 par:∀x∈P,sc.names.lookup x=some .local\/sc.names.lookup x=some .cell
 nofree:∀y∈sc.names,y.2≠.free
theorem QY{kindOf:Str->Option NameKind}{x:Str}:∀{binds:List (Str×Value)} {m:PR},(∀v,(x,v)∉binds)->bindL kindOf binds m x=m x
 |[],_,_=>rfl
 | (n,v)::r,m,h=>by
  unfold bindL;rw[QY λw hw=>h w (List.mem_cons_of_mem _ hw)];split
  ·have:x≠n:=by rintro rfl;exact h v List.mem_cons_self
   simp[this]
  ·rfl
theorem QZ{kindOf:Str->Option NameKind}{x:Str}:∀{binds:List (Str×Value)} {m:PR},(∀v,(x,v)∉binds)->bindC kindOf binds m x=m x
 |[],_,_=>rfl
 | (n,v)::r,m,h=>by
  unfold bindC;rw[QZ λw hw=>h w (List.mem_cons_of_mem _ hw)];split
  ·rfl
  ·have:x≠n:=by rintro rfl;exact h v List.mem_cons_self
   simp[this]
theorem Q0{kindOf:Str->Option NameKind}{x:Str}{v:Value}:∀{P:List Str} {vs:List Value} {i:Nat} {m:PR},P.Nodup->P[i]?=some x->vs[i]?=some v->kindOf x=some .local->
  bindL kindOf (P.zip vs) m x=some v
 |[],_,_,_,_,h,_,_=>by simp at h
 | _::_,[],_,_,_,_,h,_=>by simp at h
 | p::P,w::vs,0,m,nd,h1,h2,hk=>by simp at h1 h2;subst h1;subst h2;show bindL kindOf ((p,w)::P.zip vs) m p=_;unfold bindL;rw[QY λv hv=>(List.nodup_cons.mp nd).1 (List.of_mem_zip hv).1,if_pos hk];simp
 | p::P,w::vs,i+1,m,nd,h1,h2,hk=>by show bindL kindOf ((p,w)::P.zip vs) m x=_;unfold bindL;exact Q0 (i:=i) (List.nodup_cons.mp nd).2 (by simpa using h1) (by simpa using h2) hk
theorem Q1{kindOf:Str->Option NameKind}{x:Str}{v:Value}:∀{P:List Str} {vs:List Value} {i:Nat} {m:PR},P.Nodup->P[i]?=some x->vs[i]?=some v->kindOf x≠some .local->
  bindC kindOf (P.zip vs) m x=some v
 |[],_,_,_,_,h,_,_=>by simp at h
 | _::_,[],_,_,_,_,h,_=>by simp at h
 | p::P,w::vs,0,m,nd,h1,h2,hk=>by simp at h1 h2;subst h1;subst h2;show bindC kindOf ((p,w)::P.zip vs) m p=_;unfold bindC;rw[QZ λv hv=>(List.nodup_cons.mp nd).1 (List.of_mem_zip hv).1,if_neg hk];simp
 | p::P,w::vs,i+1,m,nd,h1,h2,hk=>by show bindC kindOf ((p,w)::P.zip vs) m x=_;unfold bindC;exact Q1 (i:=i) (List.nodup_cons.mp nd).2 (by simpa using h1) (by simpa using h2) hk
def Jv(N:List Str)(vs:List V):St:=vs.map some++List.replicate (N.length - vs.length) none
noncomputable def qaL(CX:CXT)(P:Program)(w:World)(K:Frag)(mg:PR)(base:Heap)(N:List Str)(qual:Str)(scope:Scope)(f:Addr)(cd:Value)(A:Around)(outer:List Env)(s:Shared)(H:Hp)(E:XK):Cx where
 prog:=P
 w:=w
 K:=K
 mg:=mg
 base:=base
 A:=A.deeper (envOfC qual scope s.heap.objs.size f cd)
 N:=N
 s₀:=s
 Hv:=H
 env:=envOfC qual scope s.heap.objs.size f cd
 outer:=outer
 stack:=envOfC qual scope s.heap.objs.size f cd::outer
 ex:=[]
 calm:=true
 fn:=λ_=>true
 pn:=[]
 xe:=λe s'=>wpAny (model P w) (A.deeper (envOfC qual scope s.heap.objs.size f cd)) (leaving (envOfC qual scope s.heap.objs.size f cd) e) (λ_ s''=>CX outer H s E e s'') (λe' s''=>CX outer H s E e' s'') s'
theorem qaM{sc:Scope}{n:Nat}{x:Str}(h:sc.names.lookup x=some .cell):∃c,(cellsFrom n sc.names []).lookup x=some c:=by have q:=PySem.W.cellsFrom_some sc.names n [] (.inl h);exact Option.isSome_iff_exists.mp q
theorem qcF{CX:CXT}{P:Program}{w:World}{K:Frag}{mg:PR}{base:Heap}{N ps:List Str}{qual:Str}{scope:Scope}{f:Addr}{cd:Value}{A:Around}{outer:List Env}{s s1:Shared}{H:Hp}{E:XK}{us:List Value}{vs:List V}
  (S:FnScope N ps scope) (hd:A.handled=none) (e0:Env0 P w K mg base A outer s H) (hl:vs.length=ps.length) (r:qx vs us)
  (x:InCallC s s.heap.objs.size (bindL (envOfC qual scope s.heap.objs.size f cd).kindOf (ps.zip us) λ_=>none) (cellsFrom (s.heap.objs.size+1) scope.names []) (bindC (envOfC qual scope s.heap.objs.size f cd).kindOf (ps.zip us) λ_=>none) s1) :
  Inv (qaL CX P w K mg base N qual scope f cd A outer s H E) [] (Jv N vs) H s1:=by
 have hpl:ps.length<=N.length:=by have:=congrArg List.length S.pre;rw[List.length_take] at this;lia
 obtain⟨h1,tk,rfl,hk⟩:=x.done;have noA:∀b:Addr,b∉(qaL CX P w K mg base N qual scope f cd A outer s H E).ex:=λb z=>absurd (show b∈([]:List Addr) from z) (by simp)
 refine⟨⟨e0.mod,S.kind,rfl,rfl,Nat.le_refl _,λy z c h1 h2=>?_,λy hy=>?_,λy c _ h=>?_,λ_=>hd,Around.frames_deeper e0.frames,.inr ⟨rfl,rfl⟩,λb z=>absurd z (noA b),e0.bs,e0.bsz,λb _ _=>noA b,λb z=>absurd z (noA b),e0.funs,e0.frf⟩,
  rfl,e0.bare,Un.kept hk,⟨_,x.toInCall.ns,λi y v h1 h2 h3=>?_⟩,λy c h=>⟨_,x.cell y c h⟩,e0.hok.fresh (Nat.le_refl _),λy c h=>?_,λp hp=>absurd (show p∈([]:PP) from hp) (by simp),e0.hok.kept hk,?_⟩
 ·exact name_of_addr x.apart (PySem.mem_of_lookup h1) (PySem.mem_of_lookup h2)
 ·have hy:scope.names.lookup y=some .cell\/scope.names.lookup y=some .free:=hy;rcases hy with hy | hy
  ·exact qaM hy
  ·exact absurd rfl (S.nofree _ (PySem.mem_of_lookup hy))
 ·exact Nat.le_of_lt (x.above y c (PySem.mem_of_lookup h))
 ·have hi:i < vs.length:=by
   unfold Jv at h2
   by_cases hi:i < vs.length
   ·exact hi
   ·rw[List.getElem?_append_right (by simpa using hi)] at h2;rw[List.getElem?_replicate] at h2
    split at h2<;>cases h2
  have ha:vs[i]?=some v:=by
   unfold Jv at h2;rw[List.getElem?_append_left (by simpa using hi),List.getElem?_map] at h2
   cases e:vs[i]? with
   |none=>rw[e] at h2;cases h2
   |some a=>rw[e] at h2;cases h2;rfl
  obtain⟨u,hu,rv⟩:=r.get ha
  have hp:ps[i]?=some y:=by rw[<-S.pre,List.getElem?_take_of_lt (by lia)];exact h1
  have ndP:ps.Nodup:=by rw[<-S.pre];exact S.nd.sublist (List.take_sublist _ _)
  refine⟨u,rv,?_⟩;rcases S.par y (List.mem_of_getElem? hp) with k | k
  ·exact .inl ⟨k,Q0 ndP hp hu k⟩
  ·obtain⟨c,e⟩:=qaM (n:=s.heap.objs.size+1) k;refine .inr ⟨.inl k,c,e,?_⟩;have q:=x.cell y c e;rw[Q1 ndP hp hu (by show scope.names.lookup y≠_;rw[k];decide)] at q;exact q
 ·exact e0.hok.fresh (Nat.le_of_lt (x.above y c (PySem.mem_of_lookup h)))
 ·unfold Jv;show _=N.length;rw[List.length_append,List.length_map,List.length_replicate]
  lia
theorem qi6{CX:CXT}{P:Program}{w:World}{K:Frag}{mg:PR}{base:Heap}{k:Nat}{f:Addr}{name qual:Str}{params:Arguments}{body:List Stmt}{scope:Scope}{dV kV doc pm cdv ct oc:Value}{an od:Option Addr}
  {osl:Array (Option Value)} {N ps:List Str} {sp:Sp} (lk:K.lookup f=some ⟨oc,od,.func (PySem.W.fnOf name qual params body scope dV kV doc pm an cdv ct),osl⟩) (hcd:PySem.W.codeIn K cdv qual=true) (S:FnScope N ps scope)
  (len:∀vs H Q E,sp vs H Q E->vs.length=ps.length)
  (hbody:∀(A:Around) (outer:List Env) (s:Shared) (H:Hp) (vs:List V) (Q:VK) (E:XK),Room k (A.deeper (envOfC qual scope s.heap.objs.size f cdv))->sp vs H Q E->
   ∃t,PSs (qaL CX P w K mg base N qual scope f cdv A outer s H E) body t/\t { nx:=λ_ H'=>Q .non H',rt:=Q } (Jv N vs) H) :
  FnOk P w K mg base CX (k+1) f (PySem.W.fnOf name qual params body scope dV kV doc pm an cdv ct) ps sp:=by
 refine⟨len,λA outer s H args us vs Q E hr e0 hb r hsp=>?_⟩;have hl:=len _ _ _ _ hsp;have KX:K.In s.heap:=e0.mod.kin.keeps λb o e=>(e0.bs b o e).1;have lim:s.heap.NoLimit:=e0.mod.nolimit.keeps λb o e=>(e0.bs b o e).1
 have hkind:∀y∈ps.zip us,scope.names.lookup y.1=some .local\/(scope.names.lookup y.1=some .cell/\((cellsFrom (s.heap.objs.size+1) scope.names []).lookup y.1).isSome=true):=λ⟨n,v⟩ hy=>by
  rcases S.par n (List.of_mem_zip hy).1 with q | q
  ·exact .inl q
  ·exact .inr ⟨q,PySem.W.cellsFrom_some _ _ _ (.inl q)⟩
 refine codeAny_call_function hr.depth (KX _ _ lk) rfl S.co S.gen rfl (PySem.W.codeRec_of KX hcd) (hb _ _ _ _ ?_);refine wpAny_newFunctionEnv_cells S.kind hkind λenv he s1 x=>?_;subst he;refine⟨lim.keeps x.toInCall.keep,codeAny_func ?_⟩;obtain⟨t,ht,hq⟩:=hbody A outer s H vs Q E (hr.deeper _) hsp;have I:Inv (qaL CX P w K mg base N qual scope f cdv A outer s H E) [] (Jv N vs) H s1:=qcF S hr.hd e0 hl r x;refine wpAny_mono (ht [] s1 (Jv N vs) H _ I hq) (λfl s' hs=>?_) λe s' hs=>hs
 have fin:∀{σ':St} {H':Hp} {v:V} {u:Value},Inv (qaL CX P w K mg base N qual scope f cdv A outer s H E) [] σ' H' s'->qH v u->Q v H'->CE outer P w H s Q u s':=
  λ{σ' H' v u} J rv q=>⟨v,H',J.os,J.bare,J.base,J.hok,rv,q⟩
 cases fl with
 |ret u=>obtain⟨v,σ',H',J,rv,q⟩:=hs;exact fin J rv q
 |next=>obtain⟨σ',H',J,q⟩:=hs;exact fin (v:=V.non) (u:=Value.none) J rfl q
 |brk=>obtain⟨_,_,_,q⟩:=hs;exact False.elim q
 |cont=>obtain⟨_,_,_,q⟩:=hs;exact False.elim q
end L2
namespace L2
open PySem PySem.Spec PyProof.Rows
section
variable{X:Cx}{x:Str}{p pos:Pos}{e:Expr}{es:List Expr}{t:TA}{id T:String}{r:List V->Hp->VK->Prop}
def tCB(r:List V->Hp->VK->Prop)(t:TA):TE:=λσ H Q=>t σ H λvs H1=>r vs H1 Q
theorem qN(hc:q9 X (.builtin id) r)(hg:Gl X x)(hm:X.mg x=none)(hv:bootBuiltins x=some (.builtin id))(ha:PA X (e::es) t)(hn:x≠"__name__":=by decide)(hdb:(x == ("__debug__" : Str))=false:=by decide)
  (he:starEach (e::es) X.env=(false,eval e X.env)::starEach es X.env:=by rfl) (hpl:(backTo pos (starEach es X.env)).any (·.1)=false:=by rfl):PE X (.Call (.Name x p) (e::es) [] pos) (tCB r t):=by
 intro pins s σ H Q I h;refine wpAny_Call_Name_kw (Jl I hg hm hv ?_ hn hdb);exact PyProof.Rows.callWith_builtin1 (thn (ha pos pins s σ H _ I h) λus s1 ⟨vs,H1,I1,r1,q1⟩=>hc pins s1 σ H1 vs us Q I1 r1 q1) he hpl
theorem zE(hc:q9 X (.type T) r)(hg:Gl X x)(hm:X.mg x=none)(hv:bootBuiltins x=some (.type T))(ha:PA X (e::es) t)(hn:x≠"__name__":=by decide)(hdb:(x == ("__debug__" : Str))=false:=by decide)
  (he:starEach (e::es) X.env=(false,eval e X.env)::starEach es X.env:=by rfl) (hpl:(backTo pos (starEach es X.env)).any (·.1)=false:=by rfl):PE X (.Call (.Name x p) (e::es) [] pos) (tCB r t):=by
 intro pins s σ H Q I h;refine wpAny_Call_Name_kw (Jl I hg hm hv ?_ hn hdb);exact PyProof.Rows.callWith_type1 (thn (ha pos pins s σ H _ I h) λus s1 ⟨vs,H1,I1,r1,q1⟩=>hc pins s1 σ H1 vs us Q I1 r1 q1) he hpl
end
end L2
namespace HT
open PySem PyProof.Rows
section
variable{prog:Program}{w:World}{A:Around}{E:PQ}{s:Shared}
noncomputable def sIx(n d:Nat):Option Int->Nat
 |none=>d
 |some v=>if v < 0 then (v+(n:Int)).toNat else min v.toNat n
theorem qeF(n d:Nat):sIx n d none=d:=rfl
theorem Z3(n d k:Nat):sIx n d (some (k:Int))=min k n:=by show(if (k:Int) < 0 then ((k:Int)+(n:Int)).toNat else min (k:Int).toNat n)=min k n;rw[if_neg (by lia),Int.toNat_natCast]
end
end HT
namespace L2
open PySem PySem.Spec PyProof.Rows
abbrev TO:=St->Hp->(Option Int->Hp->Prop)->Prop
noncomputable def PO(X:Cx)(e:Option Expr)(t:TO):Prop:=
 ∀(pins:PP) (s:Shared) (σ:St) (H:Hp) (Q:Option Int->Hp->Prop),Inv X pins σ H s->t σ H Q->
  wpAny (model X.prog X.w) X.A (evalPart e X.env) (λu s'=>∃o H',Inv X pins σ H' s'/\IsPart u o/\Q o H') X.xe s
def qgS:TO:=λ_ H Q=>Q none H
def qlX(t:TE):TO:=λσ H Q=>t σ H λx H1=>∃i,x=.int i/\Q (some i) H1
section
variable{X:Cx}{e:Expr}{te:TE}{lo hi:Option Expr}{tl th:TO}{pos p2:Pos}
theorem Z4:PO X none qgS:=by intro pins s σ H Q I h;rw[evalPart_none];exact wpAny_pure ⟨none,H,I,.none,h⟩
theorem qgT(h:PE X e te):PO X (some e) (qlX te):=by intro pins s σ H Q I hw;rw[evalPart_some];refine thn (h pins s σ H _ I hw) λu s1 hq1=>?_;obtain⟨x,H1,I1,r1,q1⟩:=hq1;obtain⟨i,rfl,q⟩:=q1;obtain⟨t,rfl⟩:=r1;exact⟨some i,H1,I1,.int i t,q⟩
noncomputable def SlR(X:Cx)(r:V->Option Int->Option Int->Hp->VK->Prop):Prop:=
 ∀(pins:PP) (s:Shared) (σ:St) (H:Hp) (x:V) (v vl vu:Value) (lo hi:Option Int) (sl:Addr) (Q:VK),Inv X pins σ H s->qH x v->s.heap.IsSliceOf sl vl vu .none->IsPart vl lo->IsPart vu hi->r x lo hi H Q->
  ∃T id,typeLookup (.type T) "__getitem__" = pure (some (.builtin id))/\s.TypeIs v T/\wpAny (model X.prog X.w) X.A (getItem v (.ref sl)) (EP X pins σ Q) X.xe s
noncomputable def tSl(r:V->Option Int->Option Int->Hp->VK->Prop)(te:TE)(tl th:TO):TE:=λσ H Q=>te σ H λx H1=>tl σ H1 λl H2=>th σ H2 λu H3=>r x l u H3 Q
theorem qeG{r:V->Option Int->Option Int->Hp->VK->Prop}(hr:SlR X r)(he:PE X e te)(hl:PO X lo tl)(hu:PO X hi th):PE X (.Subscript e (.Slice lo hi none p2) pos) (tSl r te tl th):=by intro pins s σ H Q I h;refine Subscript_ (thn (he pins s σ H _ I h) λv s1 hq1=>?_);obtain⟨x,H1,I1,r1,q1⟩:=hq1;refine wpAny_Slice (thn (hl pins s1 σ H1 _ I1 q1) λvl s2 ⟨l,H2,I2,pl,q2⟩=>thn (hu pins s2 σ H2 _ I2 q2) λvu s3 hq1=>?_);obtain⟨u,H3,I3,pu,q3⟩:=hq1;rw[evalPart_none];refine wpAny_pure ?_;have I4:Inv X pins σ H3 { s3 with heap:=s3.heap.push { cls:=.type "slice",data:=.fields #[vl,vu,.none] } }:=I3.kept (t':=s3.toks) λb ob q=>Heap.get?_push_of_some _ q;obtain⟨T,id,hT,ht,hg⟩:=hr pins { s3 with heap:=s3.heap.push { cls:=.type "slice",data:=.fields #[vl,vu,.none] } } σ H3 x v vl vu l u s3.heap.objs.size Q I4 r1 (Heap.IsSliceOf.new ..) pl pu q3;show wpAny (model X.prog X.w) X.A (subscriptTail e (.Slice lo hi none p2) v (.ref s3.heap.objs.size)) (EP X pins σ Q) X.xe { s3 with heap:=s3.heap.push { cls:=.type "slice",data:=.fields #[vl,vu,.none] } };exact tail_any (ops:=[.ref s3.heap.objs.size,v]) ht hT hg (by with_unfolding_all rfl)
noncomputable def qiw(xs:List V)(lo hi:Option Int):List V:=(xs.drop (HT.sIx xs.length 0 lo)).take (HT.sIx xs.length xs.length hi - HT.sIx xs.length 0 lo)
theorem Z5(xs:List V)(lo hi:Option Int):(qiw xs lo hi).length<=xs.length:=by
 unfold qiw;rw[List.length_take,List.length_drop]
 lia
end
end L2
namespace L2
open PySem PySem.Spec PyProof.Rows
noncomputable def ixN(n:Nat)(i:Int):Option Nat:=if 0<=i then (if i < n then some i.toNat else none) else if -(n:Int)<=i then some (i+n).toNat else none
def atI{α:Type}(xs:List α)(i:Int):Option α:=(ixN xs.length i).bind λj=>xs[j]?
theorem qcG{n:Nat}{i:Int}{j:Nat}(h:ixN n i=some j):seqIndex? i n=some j/\j < n/\-(n:Int)<=i/\i < n:=by
 unfold ixN at h
 by_cases h0:0<=i
 ·rw[if_pos h0] at h
  by_cases h1:i < n
  ·rw[if_pos h1] at h;have e:i.toNat=j:=Option.some.inj h;exact⟨by rw[seqIndex_of h0 h1,e],by lia,by lia,h1⟩
  ·rw[if_neg h1] at h;cases h
 ·rw[if_neg h0] at h
  by_cases h1:-(n:Int)<=i
  ·rw[if_pos h1] at h;have e:(i+n).toNat=j:=Option.some.inj h;exact⟨by rw[seqIndex_neg (by lia) h1,e],by lia,h1,by lia⟩
  ·rw[if_neg h1] at h;cases h
theorem Z6{α:Type}{xs:List α}{i:Int}{v:α}(h:atI xs i=some v):∃j,seqIndex? i xs.length=some j/\xs[j]?=some v/\j < xs.length/\-(xs.length:Int)<=i/\i < xs.length:=by
 unfold atI at h
 cases e:ixN xs.length i with
 |none=>rw[e] at h;cases h
 |some j=>rw[e] at h;obtain⟨h1,h2,h3,h4⟩:=qcG e;exact⟨j,h1,h,h2,h3,h4⟩
theorem qeH{α:Type}(xs:List α)(v:α):atI (xs++[v]) (-1)=some v:=by
 have hl:(xs++[v]).length=xs.length+1:=by simp
 have e:ixN (xs++[v]).length (-1)=some xs.length:=by
  unfold ixN;rw[hl,if_neg (2:),if_pos (by lia)]
  congr 1
  lia
 unfold atI;rw[e];show(xs++[v])[xs.length]?=some v;simp
def qcH(b:Expr):Prop:=∀o i,subscripted b false o i=operate [o,i] (getItem o i)
noncomputable def IxR(X:Cx)(r:R2):Prop:=
 ∀(value slice:Expr) (pins:PP) (s:Shared) (σ:St) (H:Hp) (x y:V) (v u:Value) (Q:VK),Inv X pins σ H s->qH x v->qH y u->r x y H Q->
  subscripted slice false v u=operate [v,u] (getItem v u)->wpAny (model X.prog X.w) X.A (subscriptTail value slice v u) (EP X pins σ Q) X.xe s
noncomputable def MtR(X:Cx)(id:String)(r:V->List V->Hp->VK->Prop):Prop:=
 ∀(pins:PP) (s:Shared) (σ:St) (H:Hp) (x:V) (xs:List V) (v:Value) (us:List Value) (Q:VK),Inv X pins σ H s->qH x v->qx xs us->r x xs H Q->
  wpAny (model X.prog X.w) X.A (call (.builtin id) (v::us)) (EP X pins σ Q) X.xe s
section
variable{X:Cx}{a b:Expr}{ta tb:TE}{pos:Pos}
theorem qlY{r:R2}(hr:IxR X r)(ha:PE X a ta)(hb:PE X b tb)(hs:qcH b):PE X (.Subscript a b pos) (tOp r ta tb):=by intro pins s σ H Q I h;exact Subscript_ (qlQ ha hb I h λv u s2 x y H2 I2 rx ry q=>hr a b pins s2 σ H2 x y v u Q I2 rx ry q (hs _ _))
noncomputable def qnN(K:Frag):R2:=λx y H Q=>∃p xs i v,x=.ref p/\y=.int i/\SqL K H p xs/\atI xs i=some v/\Q v H
noncomputable def qnO(K:Frag):R2:=λx y H Q=>∃p xs i v,x=.ref p/\y=.int i/\SqT K H p xs/\atI xs i=some v/\Q v H
noncomputable def qnP:R2:=λx y H Q=>∃z i c,x=.str z/\y=.int i/\z.length<=sizeLine/\atI z.cps.toList i=some c/\Q (.str ⟨#[c]⟩) H
theorem qgU:IxR X (qnN X.K):=by
 intro value slice pins s σ H x y v u Q I rx ry h hs;obtain⟨p,xs,i,z,rfl,rfl,hq,he,q⟩:=h;cases rx;obtain⟨t,rfl⟩:=ry;obtain⟨its,r,pl,hz⟩:=I.list hq;obtain⟨j,h1,h2,h3,h4,h5⟩:=Z6 he;obtain⟨w,ew,rw'⟩:=r.get h2;have hl:=r.length;have hn:=JJ;have fin:EP X pins σ Q w s:=⟨z,H,I,rw',q⟩
 by_cases h0:0<=i
 ·have hj:i.toNat=j:=by
   rw[seqIndex_of h0 h5] at h1;exact Option.some.inj h1
  exact item_listR pl.isList h0 (by lia) (by rw[hj];simpa using ew) fin hs
 ·have hj:(i+(its.toArray.size:Int)).toNat=j:=by
   rw[seqIndex_neg (by lia) h4] at h1;rw[List.size_toArray,<-hl];exact Option.some.inj h1
  exact subscriptTail_builtinR (x:=w) pl.isList.typeIs slot_list_getitem.lookup
   (wpAny_getItem_list_neg (Q:=λr s'=>r=w/\EP X pins σ Q r s') pl.isList (by lia) (by rw[List.size_toArray]<;>lia) (by lia) (by rw[hj];simpa using ew) ⟨rfl,fin⟩) hs
theorem qi7:IxR X (qnO X.K):=by
 intro value slice pins s σ H x y v u Q I rx ry h hs;obtain⟨p,xs,i,z,rfl,rfl,hq,he,q⟩:=h;cases rx;obtain⟨t,rfl⟩:=ry;obtain⟨its,r,pl,hz⟩:=I.tuple hq;obtain⟨j,h1,h2,h3,h4,h5⟩:=Z6 he;obtain⟨w,ew,rw'⟩:=r.get h2;have hl:=r.length;have hn:=JJ;have fin:EP X pins σ Q w s:=⟨z,H,I,rw',q⟩
 exact subscriptTail_builtinR (x:=w) pl.typeIs slot_tuple_getitem.lookup
  (getItem_tuple (j:=j) (Q:=λr s'=>r=w/\EP X pins σ Q r s') pl (by lia) (by lia) (by rw[List.size_toArray,<-hl];exact h1) (by simpa using ew) ⟨rfl,fin⟩) hs
theorem qi8:IxR X qnP:=by
 intro value slice pins s σ H x y v u Q I rx ry h hs;obtain⟨z,i,c,rfl,rfl,hz,he,q⟩:=h;obtain⟨t,rfl⟩:=rx;obtain⟨t',rfl⟩:=ry;obtain⟨j,h1,h2,h3,h4,h5⟩:=Z6 he;have hl:z.cps.toList.length=z.length:=by simp[Str.length]
 rw[hl] at h1 h4 h5;have hn:=JJ
 exact tail_any (typeIs_str s z t) slot_str_getitem.lookup (getItem_str (c:=c) (by have e1:decide (i < -(2 ^ 63:Int))=false:=decide_eq_false (by lia);have e2:decide (i≥2 ^ 63)=false:=decide_eq_false (by lia);rw[e1,e2,Bool.or_false]) (by rw[h1];simpa using h2) ⟨.str ⟨#[c]⟩,H,I.tok _,⟨_,rfl⟩,q⟩) hs
theorem qbM(its:List Value)(n j:Nat)(u:Value):Obj.mapSeq (·.setIfInBounds j u) { cls:=.type "list",data:=.seq its.toArray n }={ cls:=.type "list",data:=.seq (its.set j u).toArray n }:=by simp[Obj.mapSeq]
theorem Inv.lst{pins:PP}{σ:St}{H:Hp}{s:Shared}{p:Addr}{xs:List V}(I:Inv X pins σ H s)(h:H p=some (.lst xs)) :
  ∃(its:List Value) (n:Nat),qx xs its/\s.heap.get? p=some { cls:=.type "list",data:=.seq its.toArray n }/\xs.length<=sizeLine:=by
 obtain⟨z,its,n,r,e⟩:=I.hok p _ h;exact⟨its,n,r,e,z⟩
theorem Inv.lstUpd{pins:PP}{σ:St}{H:Hp}{s:Shared}{p:Addr}{xs ys:List V}{its its':List Value}{n n':Nat}{f:Obj->Obj}(I:Inv X pins σ H s)(h:H p=some (.lst xs))
  (ho:s.heap.get? p=some { cls:=.type "list",data:=.seq its.toArray n }) (hf:f { cls:=.type "list",data:=.seq its.toArray n }={ cls:=.type "list",data:=.seq its'.toArray n' }) (r:qx ys its') (hz:ys.length<=sizeLine) (t:Nat) :
  Inv X pins σ (upd H p (.lst ys)) { s with heap:=s.heap.update p f,toks:=t }:=by
 have e:(s.heap.update p f).get? p=some { cls:=.type "list",data:=.seq its'.toArray n' }:=by rw[Heap.get?_update_self f ho (by rw[hf]<;>rfl),hf]
 refine I.write (x:=p) (e:=p) (by rw[h];trivial) (.inl rfl) (λb u hb q=>(Heap.get?_update_other _ _ (Ne.symm hb)).trans q) ⟨_,e⟩ ?_;exact⟨hz,its',n',r,e⟩
noncomputable def qlZ:V->V->V->Hp->(Hp->Prop)->Prop:=λo i v H Q=>∃p xs k j,o=.ref p/\i=.int k/\H p=some (.lst xs)/\ixN xs.length k=some j/\Q (upd H p (.lst (xs.set j v)))
theorem qeI:qmU X qlZ:=by
 intro pins s σ H o i v ov iv u Q I ro ri rv h;obtain⟨p,xs,k,j,rfl,rfl,hp,hj,q⟩:=h;cases ro;obtain⟨t,rfl⟩:=ri;obtain⟨its,n,r,ho,hz⟩:=I.lst hp;obtain⟨h1,h2,h3,h4⟩:=qcG hj;have hl:=r.length;have hn:=JJ
 have I':Inv X pins σ (upd H p (.lst (xs.set j v))) { s with heap:=s.heap.update p (Obj.mapSeq (·.setIfInBounds j u)) }:=
  I.lstUpd hp ho (qbM its n j u) (r.set rv j) (by rw[List.length_set];exact hz) s.toks
 by_cases h0:0<=k
 ·have hk:k.toNat=j:=by
   rw[seqIndex_of h0 h4] at h1;exact Option.some.inj h1
  exact PySem.W.ki_setAt ho h0 (by lia) (by rw[List.size_toArray,<-hl];exact h4) (by rw[hk];exact⟨_,I',q⟩)
 ·have hk:(k+(its.toArray.size:Int)).toNat=j:=by
   rw[seqIndex_neg (by lia) h3] at h1;rw[List.size_toArray,<-hl];exact Option.some.inj h1
  exact PySem.W.ki_setBack ho (by lia) (by rw[List.size_toArray,<-hl];exact h3) (by lia) (by rw[hk];exact⟨_,I',q⟩)
theorem Q2(lo hi:Option Int)(n:Nat):(sliceBounds lo hi none n).1=((HT.sIx n 0 lo:Nat):Int)/\(sliceBounds lo hi none n).2.1=((HT.sIx n n hi:Nat):Int)/\(sliceBounds lo hi none n).2.2=1:=by
 refine⟨?_,?_,rfl⟩
 ·cases lo with
  |none=>simp[sliceBounds,HT.sIx]
  |some i=>
   simp only[sliceBounds,HT.sIx,Option.getD_none,show(1:Int) > 0 by decide,if_true]
   by_cases h:i < 0
   ·simp only[h,if_true]<;>lia
   ·simp only[h,if_false]<;>lia
 ·cases hi with
  |none=>simp[sliceBounds,HT.sIx]
  |some i=>
   simp only[sliceBounds,HT.sIx,Option.getD_none,show(1:Int) > 0 by decide,if_true]
   by_cases h:i < 0
   ·simp only[h,if_true]<;>lia
   ·simp only[h,if_false]<;>lia
theorem Y9(its:List Value)(lo hi:Option Int):slicePick its.toArray lo hi none=((its.drop (HT.sIx its.length 0 lo)).take (HT.sIx its.length its.length hi - HT.sIx its.length 0 lo)).toArray:=by obtain⟨h1,h2,h3⟩:=Q2 lo hi its.toArray.size;unfold slicePick;rw[h1,h2,h3];simp only[sliceRange_one,pick_run,List.size_toArray]<;>rfl
noncomputable def qnQ(K:Frag):V->Option Int->Option Int->Hp->VK->Prop:=λx lo hi H Q=>∃a xs,x=.ref a/\SqL K H a xs/\∀p,H p=none->Q (.ref p) (upd H p (.lst (qiw xs lo hi)))
theorem qgV:SlR X (qnQ X.K):=by intro pins s σ H x v vl vu lo hi sl Q I rx hs pl pu h;obtain⟨a,xs,rfl,hx,q⟩:=h;cases rx;obtain⟨its,r,ht,hz⟩:=I.list hx;have hlen:=r.length;refine⟨"list",_,slot_list_getitem.lookup,ht.isList.typeIs,?_⟩;refine wpAny_getItem_list_slice ht.isList hs pl pu .none (by simp) ?_ (by rw[List.size_toArray]<;>lia);rw[Y9,<-hlen];refine⟨.ref s.heap.objs.size,_,I.laid (t':=s.toks) (o:=.lst (qiw xs lo hi)) (λb ob q=>Heap.get?_push_of_some _ q) (Nat.le_refl _) ?_,rfl,q _ (I.hok.fresh (Nat.le_refl _))⟩;exact⟨Nat.le_trans (Z5 xs lo hi) hz,_,0,(r.drop (HT.sIx xs.length 0 lo)).take (HT.sIx xs.length xs.length hi - HT.sIx xs.length 0 lo),Heap.get?_push_size _ rfl⟩
def JO:V->Bool
 |.non=>true
 |.bl _=>true
 |.int _=>true
 |.str _=>true
 |_=>false
noncomputable def eqV:V->V->Bool
 |.non,.non=>true
 |.bl a,.bl b=>a == b
 |.bl a,.int b=>(if a then 1 else 0) == b
 |.int a,.bl b=>a == (if b then 1 else 0)
 |.int a,.int b=>a == b
 |.str a,.str b=>a == b
 |_,_=>false
theorem qi9{A:Around}{s:Shared}{y x:V}{u v:Value}(ry:qH y u)(rx:qH x v)(fy:JO y=true)(fx:JO x=true):SeqAt.EqAt A s u v (eqV y x):=by
 cases y with
 |non=>
  cases ry
  cases x with
  |non=>cases rx;exact SeqAt.EqAt.same _
  |bl b=>cases rx;exact SeqAt.EqAt.none_bool b
  |int b=>obtain⟨t,rfl⟩:=rx;exact SeqAt.EqAt.none_int b t
  |str b=>obtain⟨t,rfl⟩:=rx;exact SeqAt.EqAt.none_str b t
  |_=>exact absurd (show false=true from fx) Bool.false_ne_true
 |bl a=>
  cases ry
  cases x with
  |non=>cases rx;exact SeqAt.EqAt.bool_none a
  |bl b=>cases rx;exact SeqAt.EqAt.bool_bool a b
  |int b=>obtain⟨t,rfl⟩:=rx;exact SeqAt.EqAt.bool_int a b t
  |str b=>obtain⟨t,rfl⟩:=rx;exact SeqAt.EqAt.bool_str a b t
  |_=>exact absurd (show false=true from fx) Bool.false_ne_true
 |int a=>
  obtain⟨t',rfl⟩:=ry
  cases x with
  |non=>cases rx;exact SeqAt.EqAt.int_none a t'
  |bl b=>cases rx;exact SeqAt.EqAt.int_bool a t' b
  |int b=>obtain⟨t,rfl⟩:=rx;exact SeqAt.EqAt.int_int a t' b t
  |str b=>obtain⟨t,rfl⟩:=rx;exact SeqAt.EqAt.int_str a t' b t
  |_=>exact absurd (show false=true from fx) Bool.false_ne_true
 |str a=>
  obtain⟨t',rfl⟩:=ry
  cases x with
  |non=>cases rx;exact SeqAt.EqAt.str_none a t'
  |bl b=>cases rx;exact SeqAt.EqAt.str_bool a t' b
  |int b=>obtain⟨t,rfl⟩:=rx;exact SeqAt.EqAt.str_int a t' b t
  |str b=>obtain⟨t,rfl⟩:=rx;exact SeqAt.EqAt.str_str a t' b t
  |_=>exact absurd (show false=true from fx) Bool.false_ne_true
 |_=>exact absurd (show false=true from fy) Bool.false_ne_true
noncomputable def eqU(x:V)(u:Value):Bool:=match u with
 |.none=>eqV .non x
 |.bool b=>eqV (.bl b) x
 |.int i _=>eqV (.int i) x
 |.str z _=>eqV (.str z) x
 |_=>false
theorem qfY{x y:V}{u:Value}(r:qH y u)(f:JO y=true):eqU x u=eqV y x:=by
 cases y with
 |non=>cases r;rfl
 |bl b=>cases r;rfl
 |int i=>obtain⟨t,rfl⟩:=r;rfl
 |str z=>obtain⟨t,rfl⟩:=r;rfl
 |_=>exact absurd (show false=true from f) Bool.false_ne_true
theorem JP{x:V}:∀{xs:List V} {us:List Value},qx xs us->xs.all JO=true->us.any (eqU x)=xs.any λy=>eqV y x
 |_,_,.nil,_=>rfl
 | y::xs,u::us,.cons r t,f=>by rw[List.all_cons,Bool.and_eq_true] at f;rw[List.any_cons,List.any_cons,qfY r f.1,JP t f.2]
theorem yG{A:Around}{s:Shared}{x:V}{v:Value}(rx:qH x v)(fx:JO x=true):∀{xs:List V} {us:List Value},qx xs us->xs.all JO=true->∀u∈us,SeqAt.EqAt A s u v (eqU x u)
 |_,_,.nil,_=>λu hu=>by cases hu
 | y::xs,u::us,.cons r t,f=>λu' hu=>by
  rw[List.all_cons,Bool.and_eq_true] at f;rcases List.mem_cons.mp hu with rfl | hu
  ·rw[qfY r f.1];exact qi9 r rx f.1 fx
  ·exact yG rx fx t f.2 u' hu
def inV(x:V)(xs:List V):Bool:=xs.any λy=>eqV y x
noncomputable def rIn(K:Frag)(neg:Bool):R2:=λx y H Q=>∃p xs,y=.ref p/\(SqL K H p xs\/SqT K H p xs)/\JO x=true/\xs.all JO=true/\Q (.bl (if neg then !inV x xs else inV x xs)) H
theorem qcI:OpR X (compareOp .In) (rIn X.K false):=by
 intro pins s σ H x y v u Q I rx ry h;obtain⟨p,xs,rfl,hq,fx,fs,q⟩:=h;cases ry;rcases hq with hq | hq
 ·obtain⟨its,r,pl,hz⟩:=I.list hq;refine SeqAt.in_listAt (eqU x) pl.isList (λw hw=>yG rx fx r fs w (by simpa using hw)) ⟨.bl _,H,I,rfl,?_⟩;rw[show its.toArray.any (eqU x)=its.any (eqU x) by simp,JP r fs];exact q
 ·obtain⟨its,r,pl,hz⟩:=I.tuple hq;refine SeqAt.in_tupleAt (eqU x) pl (λw hw=>yG rx fx r fs w (by simpa using hw)) ⟨.bl _,H,I,rfl,?_⟩;rw[show its.toArray.any (eqU x)=its.any (eqU x) by simp,JP r fs];exact q
theorem Q3:OpR X (compareOp .NotIn) (rIn X.K true):=by
 intro pins s σ H x y v u Q I rx ry h;obtain⟨p,xs,rfl,hq,fx,fs,q⟩:=h;cases ry;rcases hq with hq | hq
 ·obtain⟨its,r,pl,hz⟩:=I.list hq;refine SeqAt.notIn_listAt (eqU x) pl.isList (λw hw=>yG rx fx r fs w (by simpa using hw)) ⟨.bl _,H,I,rfl,?_⟩;rw[show its.toArray.any (eqU x)=its.any (eqU x) by simp,JP r fs];exact q
 ·obtain⟨its,r,pl,hz⟩:=I.tuple hq;refine SeqAt.notIn_tupleAt (eqU x) pl (λw hw=>yG rx fx r fs w (by simpa using hw)) ⟨.bl _,H,I,rfl,?_⟩;rw[show its.toArray.any (eqU x)=its.any (eqU x) by simp,JP r fs];exact q
theorem Jm:q9 X (.builtin "len") (λxs H Q=>∃p ys,xs=[.ref p]/\(SqL X.K H p ys\/SqT X.K H p ys)/\Q (.int ys.length) H):=by
 intro pins s σ H xs us Q I r h;obtain⟨p,ys,rfl,hq,q⟩:=h;obtain⟨u,rfl,rx⟩:=JK r;cases rx;have hn:=JJ;rcases hq with hq | hq
 ·obtain⟨its,r',pl,hz⟩:=I.list hq;have hlen:=r'.length;exact Calls.call_len_list pl.isList (by simp only[List.size_toArray]<;>lia) ⟨.int ys.length,H,I.tok _,⟨s.toks+1,by rw[List.size_toArray,hlen]⟩,q⟩
 ·obtain⟨its,r',pl,hz⟩:=I.tuple hq;have hlen:=r'.length;exact len_tuple pl (by simp only[List.size_toArray]<;>lia) ⟨.int ys.length,H,I.tok _,⟨s.toks+1,by rw[List.size_toArray,hlen]⟩,q⟩
theorem Q4:q9 X (.builtin "len") (λxs H Q=>∃z,xs=[.str z]/\z.length<=sizeLine/\Q (.int z.length) H):=by intro pins s σ H xs us Q I r h;obtain⟨z,rfl,hz,q⟩:=h;obtain⟨u,rfl,t,rfl⟩:=JK r;have hn:=JJ;exact len_str (by lia) ⟨.int z.length,H,I.tok _,⟨_,rfl⟩,q⟩
theorem jQ:q9 X (.type "list") (λxs H Q=>∃p ys,xs=[.ref p]/\(SqL X.K H p ys\/SqT X.K H p ys)/\∀l,H l=none->Q (.ref l) (upd H l (.lst ys))):=by
 intro pins s σ H xs us Q I r h;obtain⟨p,ys,rfl,hq,q⟩:=h;obtain⟨u,rfl,rx⟩:=JK r;cases rx
 have fin:∀(its:List Value),qx ys its->ys.length<=sizeLine->∀(h':Heap) (c':Nat),(∀b o',s.heap.get? b=some o'->h'.get? b=some o')->
   h'.get? s.heap.objs.size=some { cls:=.type "list",dict:=none,data:=.seq its.toArray c',slots:=#[] }->EP X pins σ Q (.ref s.heap.objs.size) { s with heap:=h' }:=λits r' hz h' c' kp e=>
  ⟨.ref s.heap.objs.size,_,I.laid (t':=s.toks) kp (Nat.le_refl _) (show qP X.prog X.w _ h' _ (.lst ys) from⟨hz,its,c',r',e⟩),rfl,q _ (I.hok.fresh (Nat.le_refl _))⟩
 rcases hq with hq | hq
 ·obtain⟨its,r',pl,hz⟩:=I.list hq;have hlen:=r'.length;obtain⟨o,ho,hc,n,hd⟩:=pl.isList;exact call_list_seq p (.inl rfl) ho hc hd (λh' c' kp e=>fin its r' hz h' c' kp e) (by simp only[List.size_toArray]<;>lia)
 ·obtain⟨its,r',pl,hz⟩:=I.tuple hq;have hlen:=r'.length;obtain⟨o,ho,hc,n,hd⟩:=pl;exact call_list_seq p (.inr rfl) ho hc hd (λh' c' kp e=>fin its r' hz h' c' kp e) (by simp only[List.size_toArray]<;>lia)
theorem yH:q9 X (.type "tuple") (λxs H Q=>∃p ys,xs=[.ref p]/\((SqL X.K H p ys/\∀l,H l=none->Q (.ref l) (upd H l (.tup ys)))\/(SqT X.K H p ys/\Q (.ref p) H))):=by
 intro pins s σ H xs us Q I r h;obtain⟨p,ys,rfl,h⟩:=h;obtain⟨u,rfl,rx⟩:=JK r;cases rx;rcases h with ⟨hq,q⟩ | ⟨hq,q⟩
 ·obtain⟨its,r',pl,hz⟩:=I.list hq;have hlen:=r'.length;refine call_tuple_list pl.isList (λh' kp=>?_) (by simp only[List.size_toArray]<;>lia);have I1:Inv X pins σ H { s with heap:=h' }:=I.kept (t':=s.toks) kp
  have I2:Inv X pins σ (upd H h'.objs.size (.tup ys)) { s with heap:=h'.push { cls:=.type "tuple",data:=.seq its.toArray } }:=
   I1.laid (t':=s.toks) (λb o e=>Heap.get?_push_of_some _ e) (Nat.le_refl _) (show qP X.prog X.w _ _ _ (.tup ys) from⟨hz,its,r',IsTup.new _ _⟩)
  exact⟨.ref h'.objs.size,_,I2,rfl,q _ (I1.hok.fresh (Nat.le_refl _))⟩
 ·obtain⟨its,r',pl,hz⟩:=I.tuple hq;exact call_tuple_same pl ⟨.ref p,H,I,rfl,q⟩
noncomputable def tyV(K:Frag)(T:String)(x:V)(H:Hp):Prop:=match x with
 |.str _=>T = "str"
 |.int _=>T = "int"
 |.ref p=>(T = "list"/\∃xs,SqL K H p xs)\/(T = "tuple"/\∃o,K.lookup p=some o/\o.cls=.type "tuple"/\o.dict=none)\/
   (T = "dict"/\((∃kvs,H p=some (.dK kvs))\/∃kvs,H p=some (.dT kvs)))\/(T = "set"/\∃S n,H p=some (.set S n))
 |_=>False
theorem qja{pins:PP}{σ:St}{H:Hp}{s:Shared}{T:String}{x:V}{v:Value}(I:Inv X pins σ H s)(r:qH x v)(ty:tyV X.K T x H) :
  s.TypeIs v T/\∀a,v=.ref a->∃ob,s.heap.get? a=some ob/\ob.dict=none:=by
 cases x with
 |str z=>
  obtain⟨t,rfl⟩:=r
  cases (show T = "str" from ty)
  exact⟨typeIs_str s z t,λ_ e=>nomatch e⟩
 |int i=>
  obtain⟨t,rfl⟩:=r
  cases (show T = "int" from ty)
  exact⟨typeIs_int s i t,λ_ e=>nomatch e⟩
 |ref p=>
  cases r;rcases ty with ⟨rfl,xs,hq⟩ | ⟨rfl,o,hk,hc,hd⟩ | ⟨rfl,hk⟩ | ⟨rfl,S,n,hk⟩
  ·obtain⟨its,_,pl,_⟩:=I.list hq;refine⟨pl.isList.typeIs,λa e=>?_⟩;cases e;obtain⟨o,n,e,c,hd,_⟩:=pl;exact⟨o,e,hd⟩
  ·refine⟨⟨o,I.kIn p o hk,hc⟩,λa e=>?_⟩;cases e;exact⟨o,I.kIn _ o hk,hd⟩
  ·have z:∃o,s.heap.get? p=some o/\o.ExactDict:=by
    rcases hk with ⟨kvs,hk⟩ | ⟨kvs,hk⟩
    ·obtain⟨_,_,_,_,o,_,_,e,ex,_⟩:=I.hok p _ hk;exact⟨o,e,ex⟩
    ·obtain⟨_,_,_,_,o,_,_,e,ex,_⟩:=I.hok p _ hk;exact⟨o,e,ex⟩
   obtain⟨o,e,ex⟩:=z;refine⟨⟨o,e,ex.1⟩,λa e2=>?_⟩;cases e2;exact⟨o,e,ex.2.1⟩
  ·obtain⟨o,_,_,_,e,ex,_⟩:=I.hok p _ hk;refine⟨⟨o,e,ex.1⟩,λa e2=>?_⟩;cases e2;exact⟨o,e,ex.2.1⟩
 |_=>exact False.elim ty
noncomputable def tBM(K:Frag)(T:String)(r:V->List V->Hp->VK->Prop)(to:TE)(t:TA):TE:=λσ H Q=>to σ H λx H1=>tyV K T x H1/\t σ H1 λxs H2=>r x xs H2 Q
variable{o e:Expr}{es:List Expr}{to:TE}{t:TA}{name:Str}{apos cpos:Pos}{T id:String}{r:V->List V->Hp->VK->Prop}
theorem qjb(pa:PlainAttrs T)(slot:Slot T name id)(hty:typeOf (.builtin id)=pure (.type "method_descriptor"))(hm:MtR X id r)(ho:PE X o to)(ha:PA X (e::es) t)
  (hbase:attributeBase o name X.env (eval o X.env)=eval o X.env:=by rfl)
  (hfew:((backTo cpos (starEach (e::es) X.env)).all (λx=>!x.1)&&(backToKw cpos (keywordEach [] X.env)).all (λx=>x.1.isSome)
   && decide ((e::es).length+([]:List Keyword).length+(if ([]:List Keyword).isEmpty then 0 else 1) < 30))=true:=by rfl)
  (hline:(apos.endLine == cpos.line)=true:=by rfl) (hs:starEach (e::es) X.env=(false,eval e X.env)::starEach es X.env:=by rfl) (hplain:(backTo cpos (starEach es X.env)).any (·.1)=false:=by rfl) :
  PE X (.Call (.Attribute o name apos) (e::es) [] cpos) (tBM X.K T r to t):=by
 intro pins s σ H Q I h;refine wpAny_Call_method_late hbase hfew hline rfl (thn (ho pins s σ H _ I h) λv s1 hq1=>?_);obtain⟨x,H1,I1,r1,ty,q1⟩:=hq1;obtain⟨h1,h2⟩:=qja I1 r1 ty;refine⟨T,id,pa,slot,hty,h1,h2,?_⟩;have hA:=ha cpos pins s1 σ H1 _ I1 q1;rw[hs] at hA ⊢;refine Calls.callWith_builtin (by show(false||(backTo cpos (starEach es X.env)).any (·.1))=false;rw[hplain]<;>rfl) (Calls.evalArgs_plain ?_);exact thn hA λus s2 ⟨vs,H2,I2,r2,q2⟩=>hm pins s2 σ H2 x vs v us Q I2 r1 r2 q2
end
end L2
namespace L2
open PySem PySem.Spec PyProof.Rows
noncomputable def MtM(X:Cx)(id:String)(r:V->List V->Hp->VK->Prop):Prop:=
 ∀(pins:PP) (s:Shared) (σ:St) (H:Hp) (x:V) (xs:List V) (v:Value) (us:List Value) (Q:VK),Inv X pins σ H s->qH x v->qx xs us->r x xs H Q->
  wpAny (model X.prog X.w) X.A (call (.builtin id) (v::us)) (EP X pins σ Q) X.xe s
theorem qx.one:∀{x:V} {us:List Value},qx [x] us->∃u,us=[u]/\qH x u
 |_,_,.cons r .nil=>⟨_,rfl,r⟩
theorem qx.reverse{xs:List V}{us:List Value}(h:qx xs us):qx xs.reverse us.reverse:=by
 induction h with
 |nil=>exact .nil
 |cons r t ih=>rw[List.reverse_cons,List.reverse_cons];exact qx.append ih %[r|0]
theorem qx.rep{xs:List V}{us:List Value}(h:qx xs us):∀k:Nat,qx (List.replicate k xs).flatten (List.replicate k us).flatten
 |0=>.nil
 | k+1=>by rw[List.replicate_succ,List.replicate_succ,List.flatten_cons,List.flatten_cons];exact qx.append h (qx.rep h k)
theorem Q5(its:List Value):∀(k:Nat) (acc:List Value),
  List.foldl (λx1 x2=>x1++x2) acc.toArray (List.replicate k its.toArray)=(acc++(List.replicate k its).flatten).toArray
 |0,acc=>by simp
 | k+1,acc=>by
  have e:acc.toArray++its.toArray=(acc++its).toArray:=by simp
  have e2:(acc++its)++(List.replicate k its).flatten=acc++(List.replicate (k+1) its).flatten:=by rw[List.replicate_succ,List.flatten_cons,List.append_assoc]
  rw[<-e2,<-Q5 its k (acc++its),<-e,List.replicate_succ,List.foldl_cons]
section
variable{X:Cx}{pins:PP}{σ:St}{H:Hp}{s:Shared}{l b:Addr}{xs ys zs:List V}
theorem Inv.lset{its its':List Value}{n:Nat}{f:Array Value->Array Value}{t':Nat}(I:Inv X pins σ H s)(hH:H l=some (.lst xs))
  (e:s.heap.get? l=some { cls:=.type "list",data:=.seq its.toArray n }) (hf:f its.toArray=its'.toArray) (hv:qx ys its') (hz:ys.length<=sizeLine) :
  Inv X pins σ (upd H l (.lst ys)) { s with heap:=s.heap.update l (Obj.mapSeq f),toks:=t' }:=by
 have q:=PySem.IsL.update e f;rw[hf] at q;refine I.write (x:=l) (e:=l) (by rw[hH];exact trivial) (.inl rfl) (λb' u hb hu=>(Heap.get?_update_other s.heap (Obj.mapSeq f) (Ne.symm hb)).trans hu) ⟨_,q⟩ ?_;exact⟨hz,its',_,hv,q⟩
theorem Inv.lnew{its:List Value}{t':Nat}(I:Inv X pins σ H s)(hv:qx ys its)(hz:ys.length<=sizeLine) :
  Inv X pins σ (upd H s.heap.objs.size (.lst ys)) { s with heap:=s.heap.push { cls:=.type "list",data:=.seq its.toArray },toks:=t' }:=
 I.laid (λ_ _ q=>Heap.get?_push_of_some _ q) (Nat.le_refl _) ⟨hz,its,0,hv,Heap.get?_push_size _ rfl⟩
theorem Inv.fresh(I:Inv X pins σ H s):H s.heap.objs.size=none:=I.hok.fresh (Nat.le_refl _)
theorem Inv.lstM(I:Inv X pins σ H s)(hH:H l=some (.lst xs)):xs.length<=sizeLine/\∃(its:List Value) (n:Nat),qx xs its/\xs.length=its.length/\s.heap.get? l=some { cls:=.type "list",data:=.seq its.toArray n }:=by obtain⟨z,its,n,r,e⟩:=I.hok l _ hH;exact⟨z,its,n,r,r.length,e⟩
theorem qaN{n:Nat}(h:n<=sizeLine):Builtin.List.listTooLong n=false:=by unfold Builtin.List.listTooLong;exact decide_eq_false (by lia)
end
section
variable{X:Cx}
noncomputable def qgW:V->List V->Hp->VK->Prop:=λx vs H Q=>∃l xs y,x=.ref l/\vs=[y]/\H l=some (.lst xs)/\xs.length < sizeLine/\Q .non (upd H l (.lst (xs++[y])))
theorem qcJ:MtM X "list.append" qgW:=by
 intro pins s σ H x vs v us Q I rx rv h;obtain⟨l,xs,y,rfl,rfl,hH,hz,q⟩:=h;cases rx;obtain⟨u,rfl,ru⟩:=rv.one;obtain⟨z,its,n,r,hl,e⟩:=I.lstM hH;refine call_meets F.slot_list_append ⟨_,e,rfl⟩ F.entry_list_append (F.args_list_append_2 _ _) (PySem.list_append l its.toArray n u (by rw[List.size_toArray];lia)) ⟨e,?_⟩;refine⟨.non,_,I.lset (its':=its++[u]) hH e (by simp) (r.append %[ru|0]) ?_,rfl,q⟩;rw[List.length_append,List.length_singleton]
 lia
noncomputable def qgX:V->List V->Hp->VK->Prop:=λx vs H Q=>∃l b xs zs,x=.ref l/\vs=[.ref b]/\H l=some (.lst xs)/\H b=some (.lst zs)/\xs.length+zs.length<=sizeLine/\Q .non (upd H l (.lst (xs++zs)))
theorem qcK:MtM X "list.extend" qgX:=by
 intro pins s σ H x vs v us Q I rx rv h;obtain⟨l,b,xs,zs,rfl,rfl,hH,hB,hz,q⟩:=h;cases rx;obtain⟨u,rfl,ru⟩:=rv.one;cases ru;obtain⟨z,its,n,r,hl,e⟩:=I.lstM hH;obtain⟨z2,its2,n2,r2,hl2,e2⟩:=I.lstM hB;have hsz:its.toArray.size+its2.toArray.size<=sizeLine:=by rw[List.size_toArray,List.size_toArray];lia
 have hlong:¬ (!its.toArray.isEmpty&&Builtin.List.listTooLong (its.toArray.size+its2.toArray.size))=true:=by rw[qaN hsz,Bool.and_false];exact Bool.false_ne_true
 refine call_meets F.slot_list_extend ⟨_,e,rfl⟩ F.entry_list_extend (F.args_list_extend_2 _ _)
  (AutoSeq1.list_extend_list_list_0 l its.toArray n b its2.toArray n2 hlong (by rw[List.size_toArray];lia) (by lia)) ⟨e,e2,?_⟩
 refine⟨.non,_,I.lset (its':=its++its2) hH e (by simp) (r.append r2) ?_,rfl,q⟩;rw[List.length_append]
 lia
noncomputable def qnR:R2:=λx y H Q=>∃l b xs zs,x=.ref l/\y=.ref b/\H l=some (.lst xs)/\H b=some (.lst zs)/\xs.length+zs.length<=sizeLine/\∀p,H p=none->Q (.ref p) (upd H p (.lst (xs++zs)))
theorem qjc:OpR X (binaryOp .Add) qnR:=by
 intro pins s σ H x y v u Q I rx ry h;obtain⟨l,b,xs,zs,rfl,rfl,hH,hB,hz,q⟩:=h;cases rx;cases ry;obtain⟨z,its,n,r,hl,e⟩:=I.lstM hH;obtain⟨z2,its2,n2,r2,hl2,e2⟩:=I.lstM hB;refine PySem.P.add_list e e2 ?_ (by rw[List.size_toArray,List.size_toArray];lia);have ea:its.toArray++its2.toArray=(its++its2).toArray:=by simp
 rw[ea];exact⟨.ref _,_,I.lnew (t':=s.toks) (r.append r2) (by rw[List.length_append];lia),rfl,q _ I.fresh⟩
noncomputable def qnS:R2:=λx y H Q=>∃l k xs,x=.ref l/\y=.int k/\H l=some (.lst xs)/\-(2 ^ 63)<=k/\k < 2 ^ 63/\xs.length * k.toNat<=sizeLine/\
 ∀p,H p=none->Q (.ref p) (upd H p (.lst (List.replicate k.toNat xs).flatten))
theorem qgY{α:Type}(xs:List α)(k:Nat):(List.replicate k xs).flatten.length=k * xs.length:=by
 induction k with
 |zero=>simp
 |succ k ih=>rw[List.replicate_succ,List.flatten_cons,List.length_append,ih,Nat.succ_mul,Nat.add_comm]
theorem qjd:OpR X (binaryOp .Mult) qnS:=by
 intro pins s σ H x y v u Q I rx ry h;obtain⟨l,k,xs,rfl,rfl,hH,h1,h2,hz,q⟩:=h;cases rx;obtain⟨t,rfl⟩:=ry;obtain⟨z,its,n,r,hl,e⟩:=I.lstM hH;have hlen:its.toArray.size * k.toNat<=sizeLine:=by rw[List.size_toArray,<-hl];exact hz
 have hcap:¬ its.toArray.size * k.toNat > (2 ^ 63 - 1) / 8:=by
  have:(sizeLine:Nat)<=(2 ^ 63 - 1) / 8:=by decide
  lia
 have hfit:¬ (!Builtin.List.listFitsIndex k)=true:=by rw[fitsIndex_both h1 h2];exact Bool.false_ne_true
 have hlong:¬ Builtin.List.listTooLong (its.toArray.size * k.toNat)=true:=by rw[qaN hlen];exact Bool.false_ne_true
 have hnew:List.foldl (λx1 x2=>x1++x2) #[] (List.replicate (if its.toArray.isEmpty=true then 0 else k.toNat) its.toArray)=(List.replicate k.toNat its).flatten.toArray:=by
  have f0:∀m:Nat,List.foldl (λx1 x2=>x1++x2) #[] (List.replicate m its.toArray)=(List.replicate m its).flatten.toArray:=λm=>by
   have:=Q5 its m []
   rw[List.nil_append] at this;exact this
  rw[f0]
  cases its with
  |nil=>simp
  | cons a r'=>rw[if_neg (by simp)]
 refine wpAny_binaryOp_repeat_ref (T:="list") (U:="int") (2:) ⟨_,e,rfl⟩ (λs'=>typeIs_int s' k t) noFill_list_mul F.fills_int_mul F.slot_int_rmul repeat_list F.slot_int_index.lookup
  (call_meets F.slot_int_rmul (typeIs_int s k t) F.entry_int_rmul (F.args_int_rmul_2 _ _) (int___rmul___int_list k t l its.toArray n)
   ⟨e,rfl,⟨_,e,rfl⟩,call_meets F.slot_list_mul ⟨_,e,rfl⟩ F.entry_list_mul (F.args_list_mul_2 _ _) (AutoListH.list___mul___list_int_3 l its.toArray n k t hfit hcap hlong) ⟨e,?_⟩⟩)
 rw[hnew];exact⟨.ref _,_,I.lnew (t':=s.toks) (r.rep k.toNat) (by rw[qgY,Nat.mul_comm];exact hz),rfl,q _ I.fresh⟩
end
end L2
namespace Att
open PySem PySem.W PySem.Calls PyProof.Rows
theorem JQ{P:Params}{h:Heap}:∀(ns:List Int) (vs:List Value),WellAll P h vs (ns.map WData.int)->IntsAre vs ns:=by
 intro ns
 induction ns with
 |nil=>intro vs w;rw[List.map_nil] at w;cases w;exact .nil
 |cons n ns ih=>
  intro vs w;rw[List.map_cons] at w
  cases w with
  |cons a b=>cases a;exact .cons _ _ (ih _ b)
theorem qcL{l:OpenLaw}{n:Nat}(hn:l.most=some n){P:Params}{h:Heap}{args:List WData}{vals:List Value}
  (hpre:l.row.toRowW.claim.pre args=true) (hwl:WellAll P h vals args) :
  ∃a vs ns,vals=[Value.ref a]/\args=[WData.list (ns.map WData.int)]/\h.get? a=some { cls:=.type "list",data:=.seq vs.toArray }/\IntsAre vs ns/\ns.length<=n:=by
 have hsh:WShape.hasAll [] args [.list .int]=true:=(pre_splitW hpre).1;have hc:l.pre.holds [] { args:=args }=true:=(pre_splitW hpre).2;obtain⟨d,r,rfl,h1,h2⟩:=hasAllW_cons hsh;obtain rfl:=hasAllW_nil h2;obtain⟨xs,rfl,h3⟩:=hasW_list h1;obtain⟨ns,rfl⟩:=items_int h3
 have hlen:ns.length<=n:=by
  unfold OpenLaw.pre at hc
  have h4:(WTm.not (.lt (.lit (.int (n:Int))) (.len (.arg 0)))).holds [] { args:=[.list (ns.map .int)] }=true:=by have h4:=(holds_andW hc).1;rw[hn] at h4;exact h4
  have h5:=condW_of h4 (w_not (w_lt w_lit (w_len_list (w_arg rfl))));rw[List.length_map] at h5;refine Nat.le_of_not_lt λq=>?_;have q':(n:Int) < ((ns.length:Nat):Int):=by lia
  first
   | (rw[decide_eq_true q'] at h5;exact absurd h5 (2:))
   | (simp at h5;lia)
 cases hwl with
 |cons w1 w2=>
  cases w2
  cases w1 with
  |list ho hall=>exact⟨_,_,ns,rfl,rfl,ho,JQ ns _ hall,hlen⟩
theorem qcM(l:OpenLaw)(args:List WData):l.row.toRowW.claim.post args (.bool true) args=true:=
 postW_of (r:=l.row.toRowW) (X:=(true == true))
  (show WShape.has [] (.bool true) .bool=true by first | rfl | decide | simp[WShape.has,WShape.arms,WShape.armsAll])
  (show(WTm.eq .res (.lit (.bool true))).value [] { args:=args,res:=some (.bool true),after:=args }=some (.bool (true == true)) from w_eq_bool (w_res rfl) w_lit) rfl
theorem Z7{l:OpenLaw}{n:Nat}{q:Program}{loose:List Str}{XP:(Str->Option Value)->Heap->Prop}{YP:World->Heap->Prop}{d:DefRec}
  (hn:l.most=some n) (hdf:d.params.defaults=[])
  (call:∀(w:World) (s₀ s₁:Shared) (mg mb:PR) (fa:Addr) (o:Obj) (pm cd doc:Value) (a:Addr) (vs:List Value) (ns:List Int),
   Ground q loose [] XP w s₀ mg mb s₁.heap->YP w s₁.heap->
   s₁.heap.get? fa=some o->o.data=.func (docDef d.name d.params d.body d.scope pm cd doc)->s₁.heap.CodeRec cd d.name->mg d.name=some (.ref fa)->
   s₁.heap.get? a=some { cls:=.type "list",data:=.seq vs.toArray }->IntsAre vs ns->ns.length<=n->s₁.gens=#[]->
   codeAny (model l.prog w) callerA (.call (.ref fa) ⟨[.ref a],[]⟩) (λr s'=>r=.ok (.ret (.bool true))/\OldK s₁.heap s'.heap/\s'.os=s₁.os/\AllBare s'.gens) s₁) :
  WalkO q loose XP YP l.row.toRowW d [] (λf vs=>PySem.call f vs):=by
 intro w s₀ s₁ mg mb G Y fa o pm cd doc dV kV ho hd hcd hD hmg hg args vals as hpre hlay hrd hwl hlo;obtain rfl:dV=.none:=Dflts.none hD hdf;obtain rfl:kV=.none:=Dflts.noKw hD;obtain⟨a,vs,ns,rfl,rfl,hobj,hints,hlen⟩:=qcL hn hpre hwl;refine enter_call (codeAny_mono (call w s₀ s₁ mg mb fa o pm cd doc a vs ns G Y ho (fd_plain hd) hcd hmg hobj hints hlen hg) λr s' hq=>?_);obtain⟨rfl,h2,h3,h4⟩:=hq;exact⟨.inl ⟨.bool true,.bool true,[],rfl,λ_=>rfl,.bool true,qcM l _,λ_=>⟨List.Pairwise.nil,λ_ hm=>(nomatch hm)⟩⟩,h2,h3,h4⟩
end Att
namespace L2
open PySem PySem.Spec PyProof.Rows
theorem Q6:∀{vs:List Value} {ns:List Int},IntsAre vs ns->qx (ns.map V.int) vs
 |_,_,.nil=>.nil
 |_,_,.cons n t h=>.cons ⟨t,rfl⟩ (Q6 h)
def ql0(H:Hp):Prop:=∀b,H b=none\/∃o xs,H b=some (.frz o (.lst xs))
theorem qeJ{P:Program}{w:World}{K:Frag}{mg mb:PR}{CX:CXT}{k:Nat}{fa a:Addr}{fd:FuncData}{x:Str}{sp:Sp}{s₁:Shared}{vs:List Value}{ns:List Int}
  (KX:K.In s₁.heap) (hns:s₁.heap.Ns mainGlobals mg) (hb:s₁.heap.Ns builtinsNs mb) (hbb:∀x:Str,x≠"__name__"->mb x=bootBuiltins x) (hlim:s₁.heap.NoLimit) (hg:s₁.gens=#[])
  (ha:s₁.heap.get? a=some { cls:=.type "list",data:=.seq vs.toArray }) (hi:IntsAre vs ns) (hl:ns.length<=sizeLine) (hr:Room k callerA)
  (F:∀base:Heap,K.In base->base.Ns mainGlobals mg->FnOk P w K mg base CX k fa fd [x] sp) (hbind:∀(s:Shared) (u:Value),BindsTo s fd ⟨[u],[]⟩ [(x,u)])
  (hsp:∀H:Hp,ql0 H->SqL K H a (ns.map V.int)->sp [.ref a] H (λv _=>v=.bl true) λ_ _ _=>False)
  (hCX:∀H e s',CX [] H s₁ (λ_ _ _=>False) e s'->False) :
  codeAny (model P w) callerA (.call (.ref fa) ⟨[.ref a],[]⟩) (λr s'=>r=.ok (.ret (.bool true))/\OldK s₁.heap s'.heap/\s'.os=s₁.os/\AllBare s'.gens) s₁:=by
 have rv:=Q6 hi;have lenV:=hi.length
 have core:∀H:Hp,ql0 H->SqL K H a (ns.map V.int)->HOk P w H s₁.heap->(∀b,H b≠none->b=a)->(H a≠none->K.lookup a=none)->
   codeAny (model P w) callerA (.call (.ref fa) ⟨[.ref a],[]⟩) (λr s'=>r=.ok (.ret (.bool true))/\OldK s₁.heap s'.heap/\s'.os=s₁.os/\AllBare s'.gens) s₁:=by
  intro H hO hS hok hA hK;have base_of:∀{b:Addr} {o:Obj},s₁.heap.get? b=some o->H b=none->(qet s₁.heap H).get? b=some o:=λe n=>qeu e n
  have noA:∀{b:Addr} {o:Obj} {es:Array DictEntry} {ep:Nat},s₁.heap.get? b=some o->o.data=.dict es ep->H b=none:=λ{b o es ep} e d=>by
   cases q:H b with
   |none=>rfl
   |some u=>have e':b=a:=hA b (by rw[q];simp);subst e';rw[ha] at e;cases e;have d':Data.seq vs.toArray _=Data.dict es ep:=d;cases d'
  have nsK:∀{b:Addr} {m:PR},s₁.heap.Ns b m->(qet s₁.heap H).Ns b m:=λ{b m} ⟨o,es,ep,e,d,r⟩=>⟨o,es,ep,base_of e (noA e d),d,r⟩
  have hKb:K.In (qet s₁.heap H):=λb o e=>base_of (KX b o e) (by
   cases q:H b with
   |none=>rfl
   |some u=>have e':b=a:=hA b (by rw[q];simp);subst e';rw[hK (by rw[q];simp)] at e;cases e)
  have hM:Mod K mg (qet s₁.heap H):=⟨hKb,nsK hns,⟨mb,nsK hb,hbb⟩,let ⟨mc,h1,h2⟩:=hlim;⟨mc,nsK h1,h2⟩⟩;have e0:Env0 P w K mg (qet s₁.heap H) callerA [] s₁ H:=⟨rfl,hM,λb o e=>qgC e,Nat.le_of_eq (qcs _ _),trivial,λb hb=>absurd (show b∈([]:List Addr) from hb) (by simp),hok,.of_eq hg⟩;refine codeAny_mono ((F _ hKb (nsK hns)).run callerA [] s₁ H ⟨[.ref a],[]⟩ [.ref a] [.ref a] _ _ hr e0 (hbind s₁ (.ref a)) %[rfl|0] (hsp H hO hS)) λr s' h=>?_
  cases r with
  |error e=>exact(hCX H e s' h).elim
  |ok fl=>
   cases fl with
   |next=>exact False.elim h
   |brk=>exact False.elim h
   |cont=>exact False.elim h
   |ret u=>
    obtain⟨v,H',os,bare,un,hok',r',q⟩:=h;have q':v=.bl true:=q;subst q';obtain rfl:u=Value.bool true:=r';refine⟨rfl,OldK.of_keep λb o e=>?_,os,bare⟩
    cases q:H b with
    |none=>exact un.keep b o e q (by intro z;exact absurd (show b∈([]:List Addr) from z) (by simp)) (by simp)
    |some u=>
     rcases hO b with z | ⟨ob,xs,z⟩
     ·rw[q] at z;cases z
     ·have z2:=un.frzs b ob _ z;obtain⟨e1,_⟩:=hok b _ z;obtain⟨e2,_⟩:=hok' b _ z2;rw[e] at e1;cases e1;exact e2
 cases hk:K.lookup a with
 |some o=>have e:=KX a o hk;rw[ha] at e;cases e;refine core (λ_=>none) (λ_=>.inl rfl) (.inr ⟨_,vs.toArray,_,hk,rfl,rfl,rfl,by rw[List.size_toArray,lenV];exact hl,by simpa using rv⟩) (λb u z=>by have z':(none:Option HO)=some u:=z;cases z') (λb z=>absurd rfl z) λz=>absurd rfl z
 |none=>
  refine core (λb=>if b=a then some (.frz { cls:=.type "list",data:=.seq vs.toArray } (.lst (ns.map V.int))) else none) (λb=>?_) (.inl (.inr ⟨{ cls:=.type "list",data:=.seq vs.toArray },if_pos rfl⟩)) (λb u z=>?_) (λb z=>?_) λ_=>hk
  ·by_cases hb:b=a
   ·exact .inr ⟨_,_,if_pos hb⟩
   ·exact .inl (if_neg hb)
  ·by_cases hb:b=a
   ·have z':=(if_pos hb).symm.trans z;cases z';subst hb;exact⟨ha,by rw[List.length_map];exact hl,vs,_,rv,ha⟩
   ·have z':=(if_neg hb).symm.trans z;cases z'
  ·by_cases hb:b=a
   ·exact hb
   ·exact absurd (if_neg hb) z
end L2
namespace L2
open PySem PySem.Spec PyProof.Rows
theorem qgZ{l:PySem.W.OpenLaw}{n k:Nat}{q:Program}{loose:List Str}{XP:(Str->Option Value)->Heap->Prop}{YP:World->Heap->Prop}{d:DefRec}{K:Params->Frag}{CX:World->CXT}{sp:World->Sp}{x:Str}
  (hn:l.most=some n) (hn2:n<=sizeLine) (hdf:d.params.defaults=[]) (hr:Room k callerA)
  (hY:∀(w:World) (h:Heap),YP w h->(K w.params).In h)
  (F:∀(w:World) (mg:PR) (fa:Addr) (h:Heap),(K w.params).In h->h.Ns mainGlobals mg->mg d.name=some (.ref fa)->
   ∃fd:FuncData,(∀(s:Shared) (u:Value),BindsTo s fd ⟨[u],[]⟩ [(x,u)])/\
    ∀base:Heap,(K w.params).In base->base.Ns mainGlobals mg->FnOk l.prog w (K w.params) mg base (CX w) k fa fd [x] (sp w))
  (hsp:∀(w:World) (H:Hp) (a:Addr) (ns:List Int),ns.length<=n->ql0 H->SqL (K w.params) H a (ns.map V.int)->sp w [.ref a] H (λv _=>v=.bl true) λ_ _ _=>False)
  (hCX:∀(w:World) (H:Hp) (s:Shared) (e:Value) (s':Shared),CX w [] H s (λ_ _ _=>False) e s'->False) :
  PySem.W.WalkO q loose XP YP l.row.toRowW d [] (λf vs=>PySem.call f vs):=by
 refine Att.Z7 hn hdf λw s₀ s₁ mg mb fa o pm cd doc a vs ns G Y ho hd hcd hmg hobj hints hlen hg=>?_;have KX:=hY w _ Y;obtain⟨fd,hb,hF⟩:=F w mg fa _ KX G.T.g hmg;exact qeJ KX G.T.g G.T.b G.T.builtins G.T.nolimit hg hobj hints (Nat.le_trans hlen hn2) hr hF hb (λH hO hS=>hsp w H a ns hlen hO hS) λH e s'=>hCX w H s₁ e s'
end L2
namespace L2
open PySem PySem.Spec PyProof.Rows
noncomputable def zd(s:Stmt):Arguments:=match s with
 |.FunctionDef _ a _ _ _ _ _ _ _ _=>a
 |_=>{ posonlyargs:=[],args:=[],vararg:=none,kwonlyargs:=[],kw_defaults:=[],kwarg:=none,defaults:=[] }
def qt(s:Stmt):List Stmt:=match s with
 |.FunctionDef _ _ b _ _ _ _ _ _ _=>b
 |_=>[]
noncomputable def qj(s:Stmt):Scope:=match s with
 |.FunctionDef _ _ _ _ _ _ sc _ _ _=>sc
 |_=>{ kind:=.function,names:=[],isGenerator:=false,isCoroutine:=false }
abbrev CX0:CXT:=λ_ _ _ _ _ _=>False
abbrev E0:XK:=λ_ _ _=>False
theorem jR{X:Cx}:jG CX0 X E0:=λ_ _ _ _ _ _ _ h=>h.elim
structure Fun(K:Frag)(x qual:Str)(st:Stmt)(f:Addr)(fd:FuncData):Prop where
 ex:∃(oc:Value) (od:Option Addr) (kV doc pm:Value) (an:Option Addr) (cdv ct:Value) (osl:Array (Option Value)),
  fd=PySem.W.fnOf x qual (zd st) (qt st) (qj st) .none kV doc pm an cdv ct/\K.lookup f=some ⟨oc,od,.func fd,osl⟩/\PySem.W.codeIn K cdv qual=true
 kp:PySem.W.keepIn K (.ref f)=true
section
variable{P:Program}{w:World}{K:Frag}{mg:PR}{base:Heap}
theorem Fun.ok{x qual:Str}{st:Stmt}{f:Addr}{fd:FuncData}{N ps:List Str}{k:Nat}{sp:Sp}(F:Fun K x qual st f fd)(S:FnScope N ps (qj st))(len:∀vs H Q E,sp vs H Q E->vs.length=ps.length)
  (hbody:∀(cdv:Value) (A:Around) (outer:List Env) (s:Shared) (H:Hp) (vs:List V) (Q:VK) (E:XK),Room k (A.deeper (envOfC qual (qj st) s.heap.objs.size f cdv))->sp vs H Q E->
   ∃t,PSs (qaL CX0 P w K mg base N qual (qj st) f cdv A outer s H E).nox (qt st) t/\t { nx:=λ_ H'=>Q .non H',rt:=Q } (Jv N vs) H):FnOk P w K mg base CX0 (k+1) f fd ps sp:=by
 obtain⟨oc,od,kV,doc,pm,an,cdv,ct,osl,rfl,lk,hcd⟩:=F.ex;refine qi6 lk hcd S len λA outer s H vs Q E hr hsp=>?_;obtain⟨t,h,q⟩:=hbody cdv A outer s H vs Q E hr hsp;exact⟨t,h.nox,q⟩
theorem Fun.binds{x qual:Str}{st:Stmt}{f:Addr}{fd:FuncData}{ps:List Str}(F:Fun K x qual st f fd)
  (h:∀(kV doc pm:Value) (an:Option Addr) (cdv ct:Value) (us:List Value),us.length=ps.length->bindArgs (PySem.W.fnOf x qual (zd st) (qt st) (qj st) .none kV doc pm an cdv ct) ⟨us,[]⟩=pure (ps.zip us)):qK K fd ps []:=by
 obtain⟨oc,od,kV,doc,pm,an,cdv,ct,osl,rfl,lk,hcd⟩:=F.ex;exact .all (h kV doc pm an cdv ct)
theorem qfZ{x qual:Str}{st:Stmt}{f:Addr}{oc:Value}{od an:Option Addr}{osl:Array (Option Value)}{kV doc pm cdv ct:Value}(l:K.lookup f=some ⟨oc,od,.func (PySem.W.fnOf x qual (zd st) (qt st) (qj st) .none kV doc pm an cdv ct),osl⟩)
  (c:PySem.W.codeIn K cdv qual=true) (k:PySem.W.keepIn K (.ref f)=true):Fun K x qual st f (PySem.W.fnOf x qual (zd st) (qt st) (qj st) .none kV doc pm an cdv ct):=⟨⟨oc,od,kV,doc,pm,an,cdv,ct,osl,rfl,l,c⟩,k⟩
end
theorem Q7{n:Nat}(h:n<=1000):n < sizeLine:=Nat.lt_of_le_of_lt h (2:)
section
variable{X:Cx}
theorem pv(i:Nat){x:Str}{pos:Pos}(hN:X.N[i]?=some x:=by rfl)(hv:Vis X.env.scope x:=by first | exact Or.inl rfl | exact Or.inr (Or.inl rfl) | exact Or.inr (Or.inr rfl))(hd:(x == ("__debug__" : Str))=false:=by decide)
  (hcd:(x == ("__classdict__" : Str))=false:=by decide):PE X (.Name x pos) (qlo i):=qaF hN hv hd hcd
end
def qp(H H':Hp):Prop:=∀b o,H b=some o->H' b=some o
theorem qp.seq{K:Frag}{H H':Hp}{a:Addr}{xs:List V}(e:qp H H')(h:SqL K H a xs):SqL K H' a xs:=by
 rcases h with (h | ⟨o,h⟩) | h
 ·exact .inl (.inl (e _ _ h))
 ·exact .inl (.inr ⟨o,e _ _ h⟩)
 ·exact .inr h
end L2
namespace TS
open PySem PyProof.Rows
section
variable{prog:Program}{w:World}{A:Around}{E:PQ}{s:Shared}{O:KeyOrd}{kf:Keyed->O.α}{κ:SortKind}
def qcN(s s1:Shared):Prop:=∀b o,s.heap.get? b=some o->s1.heap.get? b=some o
structure Sorts(prog:Program)(w:World)(s:Shared)(vs:List Value)(O:KeyOrd)(kf:Keyed->O.α)(κ:SortKind):Prop where
 kind:2<=vs.length->∀(A:Around) (E:PQ) (s1:Shared) (Q:SortKind->Shared->Prop),qcN s s1->Q κ s1->wpAny (model prog w) A (keyKind' vs.toArray) Q E s1
 lt:∀(A:Around) (E:PQ) (s1:Shared),qcN s s1->qer (model prog w) A E s1 O kf κ (λx=>x∈(pairsOf vs).toList)
end
end TS
namespace TS
open PySem PyProof.Rows
noncomputable def pO:KeyOrd where
 α:=Int×Int
 blt p q:=decide (p.1 < q.1)||(decide (p.1=q.1)&&decide (p.2 < q.2))
 irrefl a:=by simp
 trans a b c h1 h2:=by
  simp at h1 h2 ⊢
  lia
 negTrans a b c h:=by
  simp at h ⊢
  lia
 total a b h1 h2:=by
  obtain⟨a1,a2⟩:=a;obtain⟨b1,b2⟩:=b;simp at h1 h2;have e1:a1=b1:=by lia
  subst e1;have e2:a2=b2:=by lia
  rw[e2]
def nOf:Value->Int
 |.int n _=>n
 |_=>0
noncomputable def yg(h:Heap)(v:Value):Int×Int:=match v with
 |.ref a=>match h.get? a with
  |some o=>match o.data with
   |.seq xs _=>(nOf (xs.getD 0 .none),nOf (xs.getD 1 .none))
   |_=>(0,0)
  |none=>(0,0)
 |_=>(0,0)
def qaO(h:Heap)(v:Value)(p:Int×Int):Prop:=∃a t u,v=.ref a/\IsTup h a #[.int p.1 t,.int p.2 u]
theorem qaO.pair{h:Heap}{v:Value}{p:Int×Int}(e:qaO h v p):yg h v=p:=by obtain⟨a,t,u,rfl,o,ho,hc,n,hd⟩:=e;unfold yg;simp only[ho,hd];rfl
theorem qaO.grow{s s1:Shared}{v:Value}{p:Int×Int}(e:qaO s.heap v p)(g:qcN s s1):qaO s1.heap v p:=by obtain⟨a,t,u,rfl,o,ho,hc,n,hd⟩:=e;exact⟨a,t,u,rfl,o,g a o ho,hc,n,hd⟩
section
variable{prog:Program}{w:World}{A:Around}{E:PQ}{s:Shared}
theorem qje{x y:Value}{p q:Int×Int}{Q:Bool->Shared->Prop}(hx:qaO s.heap x p)(hy:qaO s.heap y q)(h:Q (pO.blt p q) s):wpAny (model prog w) A (keyLt' (tuples' true) x y) Q E s:=by
 obtain⟨a,t,u,rfl,o,ho,hc,n,hd⟩:=hx;obtain⟨b,t',u',rfl,o',ho',hc',n',hd'⟩:=hy;refine PySem.W.kat_lt ho hd ho' hd' ?_;show PySem.W.KatLex prog w A true _ Q [(.int p.1 t,.int q.1 t'),(.int p.2 u,.int q.2 u')] 0 s;refine PySem.W.kat_cons (wpAny_eqBool_int ?_)
 by_cases e1:p.1=q.1
 ·rw[show(p.1 == q.1)=true by simpa using e1];refine PySem.W.kat_yes (PySem.W.kat_cons (wpAny_eqBool_int ?_))
  by_cases e2:p.2=q.2
  ·rw[show(p.2 == q.2)=true by simpa using e2];refine PySem.W.kat_yes (PySem.W.kat_nil ?_)
   have:pO.blt p q=false:=by unfold pO;simp[e1,e2]
   rw[this] at h;exact h
  ·rw[show(p.2 == q.2)=false by simpa using e2];refine PySem.W.kat_no (PySem.W.kat_one _ _ (lt_int ?_))
   have:pO.blt p q=decide (p.2 < q.2):=by unfold pO;simp[e1]
   rw[this] at h;exact h
 ·rw[show(p.1 == q.1)=false by simpa using e1];refine PySem.W.kat_no ?_
  have:pO.blt p q=decide (p.1 < q.1):=by unfold pO;simp[e1]
  rw[this] at h;exact oneLt_int h
theorem qcO:∀{vs:List Value} {ps:List (Int×Int)},Paired (qaO s.heap) vs ps->∃fs,PySem.W.KatTups s.heap vs fs/\fs.length=vs.length/\∀v∈fs,∃n t,v=Value.int n t
 |_,_,.nil=>⟨[],trivial,rfl,λ_ h=>nomatch h⟩
 |_,_,.cons r rs=>by
  obtain⟨a,t,u,rfl,o,ho,hc,n,hd⟩:=r;obtain⟨fs,h1,h2,h3⟩:=qcO rs;refine⟨_::fs,PySem.W.KatTups.cons ho hc hd rfl h1,by simp[h2],λv hv=>?_⟩;rcases List.mem_cons.mp hv with rfl | hv
  ·exact⟨_,_,rfl⟩
  ·exact h3 v hv
theorem Q8{vs:List Value}{x:Keyed}(h:x∈(pairsOf vs).toList):x.1=x.2/\x.1∈vs:=by rw[pairsOf_toList] at h;exact mem_zip_self h
theorem Paired.at_mem{α β:Type}{R:α->β->Prop}:∀{l:List α} {m:List β},Paired R l m->∀a∈l,∃b∈m,R a b
 |_,_,.nil,_,h=>nomatch h
 |_,_,.cons r rs,a,h=>by
  rcases List.mem_cons.mp h with rfl | h
  ·exact⟨_,List.mem_cons_self,r⟩
  ·obtain⟨b,hb,q⟩:=Paired.at_mem rs a h;exact⟨b,List.mem_cons_of_mem _ hb,q⟩
theorem Paired.grow2{s s1:Shared}(g:qcN s s1):∀{vs:List Value} {ps:List (Int×Int)},Paired (qaO s.heap) vs ps->Paired (qaO s1.heap) vs ps
 |_,_,.nil=>.nil
 |_,_,.cons r rs=>.cons (r.grow g) (Paired.grow2 g rs)
theorem qcP{vs:List Value}{ps:List (Int×Int)}(h:Paired (qaO s.heap) vs ps):Sorts prog w s vs pO (λx=>yg s.heap x.1) (tuples' true) where
 kind:=λh2 A E s1 Q g q=>by obtain⟨fs,t1,t2,t3⟩:=qcO (Paired.grow2 g h);refine PySem.W.kat_kind t1 (by lia) (T:=Value.type "int") (λv hv=>?_) rfl q;obtain⟨n,t,rfl⟩:=t3 v hv;exact .now
 lt:=λA E s1 g x y hx hy st Q hk q=>by obtain⟨p,_,hp⟩:=Paired.at_mem h _ (Q8 hx).2;obtain⟨p',_,hp'⟩:=Paired.at_mem h _ (Q8 hy).2;have q:Q (some (pO.blt (yg s.heap x.1) (yg s.heap y.1))) st:=q;rw[hp.pair,hp'.pair] at q;rw[lt'_eq];refine wpS_bind (wpS_get ?_);rw[hk];refine wpS_bind (wpS_lift (wpAny_attempt (qje (hp.grow g) (hp'.grow g) ⟨rfl,?_⟩)));exact wpS_pure q
end
theorem Paired.perm{α β:Type}{R:α->β->Prop}{us us':List β}(p:us'.Perm us):∀{xs:List α},Paired R xs us->∃xs',xs'.Perm xs/\Paired R xs' us':=by
 induction p with
 |nil=>exactλ{xs} h=>⟨xs,List.Perm.refl _,h⟩
 |cons x _ ih=>
  intro xs h
  cases h with
  |cons r rs=>obtain⟨xs',h1,h2⟩:=ih rs;exact⟨_::xs',h1.cons _,.cons r h2⟩
 |swap x y l=>
  intro xs h
  cases h with
  |cons r rs=>
   cases rs with
   | cons r' rs=>exact⟨_::_::_,List.Perm.swap ..,.cons r' (.cons r rs)⟩
 |trans _ _ ih1 ih2=>intro xs h;obtain⟨x1,h1,h2⟩:=ih2 h;obtain⟨x2,h3,h4⟩:=ih1 h2;exact⟨x2,h3.trans h1,h4⟩
end TS
namespace L2
open PySem PySem.Spec PyProof.Rows
noncomputable def P2(K:Frag)(H:Hp)(v:V)(p:Int×Int):Prop:=∃a,v=.ref a/\H a=some (.tup [.int p.1,.int p.2])
def qcQ(p q:Int×Int):Prop:=p.1 < q.1\/(p.1=q.1/\p.2<=q.2)
section
variable{X:Cx}
theorem P2.raw{pins:PP}{σ:St}{H:Hp}{s:Shared}{v:V}{u:Value}{p:Int×Int}(I:Inv X pins σ H s)(h:P2 X.K H v p)(r:qH v u):TS.qaO s.heap u p:=by obtain⟨a,rfl,hq⟩:=h;obtain rfl:u=Value.ref a:=r;obtain⟨its,rv,pl,_⟩:=I.tuple (SqT.of hq);obtain⟨u1,u2,rfl,⟨t1,rfl⟩,⟨t2,rfl⟩⟩:=QT rv;exact⟨a,t1,t2,rfl,pl⟩
end
end L2
namespace L2
open PySem PySem.Spec PyProof.Rows
noncomputable def zv(env:Env)(ns:List (Str×NameKind))(acc:List (Str×Addr)):List (Str×Addr):=ns.foldl (λcs x=>if x.2 == .free then (x.1,(env.cells.lookup x.1).getD 0)::cs else cs) acc
theorem qf0{env:Env}:∀(ns:List (Str×NameKind)) (acc:List (Str×Addr)),(∀x∈ns,x.2=.free->∃c,env.cells.lookup x.1=some c)->
  (forIn ns acc λ(x:Str×NameKind) (cs:List (Str×Addr))=>(match x with |(name,kind)=>if kind == .free then (do let c<-cellOf env name;pure (ForInStep.yield ((name,c)::cs)):Sem (ForInStep (List (Str×Addr)))) else pure (ForInStep.yield cs)))=(pure (zv env ns acc):Sem (List (Str×Addr)))
 |[],acc,_=>by rw[List.forIn_nil];rfl
 | (n,k)::r,acc,h=>by
  rw[List.forIn_cons];have hr:=qf0 (env:=env) r
  by_cases hk:k=.free
  ·subst hk;obtain⟨c,hc⟩:=h (n,.free) List.mem_cons_self rfl;have e1:cellOf env n=pure c:=by unfold cellOf;rw[hc]
   simp only[beq_self_eq_true,if_true,e1,pure_bind];rw[hr _ λx hx=>h x (List.mem_cons_of_mem _ hx)];unfold zv;simp[hc]
  ·have hb:(k == NameKind.free)=false:=by simpa using hk
   simp only[hb,Bool.false_eq_true,if_false,pure_bind];rw[hr _ λx hx=>h x (List.mem_cons_of_mem _ hx)];unfold zv;rw[List.foldl_cons];simp only[hb,Bool.false_eq_true,if_false]
theorem qf1{env:Env}{scope:Scope}(h:∀x∈scope.names,x.2=.free->∃c,env.cells.lookup x.1=some c):closureFor scope env=pure (zv env scope.names []):=by
 unfold closureFor
 have:=qf0 scope.names [] h
 simp only[bind_pure_comp] at this;simp only[bind_pure_comp,id_map',this];rfl
theorem qcR{env:Env}:∀(ns:List (Str×NameKind)) (acc:List (Str×Addr)),(∀x∈ns,x.2=.free->∃c,env.cells.lookup x.1=some c)->(∀x c,acc.lookup x=some c->env.cells.lookup x=some c)->
  ∀x c,(zv env ns acc).lookup x=some c->env.cells.lookup x=some c
 |[],_,_,h=>h
 | (n,k)::r,acc,hf,h=>by
  have ih:=qcR (env:=env) r (if k == .free then (n,(env.cells.lookup n).getD 0)::acc else acc) (λx hx=>hf x (List.mem_cons_of_mem _ hx)) (λx c e=>by
   by_cases hk:k=.free
   ·subst hk;simp only[beq_self_eq_true,if_true] at e;obtain⟨c',hc⟩:=hf (n,.free) List.mem_cons_self rfl;rw[List.lookup_cons] at e
    by_cases hx:x=n
    ·subst hx;simp[hc] at e;rw[hc,e]
    ·rw[show(x == n)=false by simpa using hx] at e;exact h x c e
   ·rw[show(k == NameKind.free)=false by simpa using hk] at e;exact h x c e)
  exact ih
theorem yI{env:Env}{ns:List (Str×NameKind)}(h:∀x∈ns,x.2=.free->∃c,env.cells.lookup x.1=some c):∀x c,(zv env ns []).lookup x=some c->env.cells.lookup x=some c:=qcR ns [] h λ_ _ e=>by cases e
theorem Qa{env:Env}:∀(ns:List (Str×NameKind)) (acc:List (Str×Addr)) (x:Str) (c:Addr),acc.lookup x=some c->∃c,(zv env ns acc).lookup x=some c
 |[],_,_,c,h=>⟨c,h⟩
 | (n,k)::r,acc,x,c,h=>by
  show∃c,(zv env r (if k == .free then (n,(env.cells.lookup n).getD 0)::acc else acc)).lookup x=some c
  by_cases hk:k=.free
  ·subst hk;simp only[beq_self_eq_true,if_true]
   by_cases hx:x=n
   ·subst hx;exact Qa r _ x ((env.cells.lookup x).getD 0) (by rw[List.lookup_cons];simp)
   ·exact Qa r _ x c (by rw[List.lookup_cons,show(x == n)=false by simpa using hx];exact h)
  ·rw[show(k == NameKind.free)=false by simpa using hk];exact Qa r _ x c h
theorem Z8{env:Env}:∀(ns:List (Str×NameKind)) (acc:List (Str×Addr)) (x:Str),(x,NameKind.free)∈ns->∃c,(zv env ns acc).lookup x=some c
 | (n,k)::r,acc,x,h=>by
  show∃c,(zv env r (if k == .free then (n,(env.cells.lookup n).getD 0)::acc else acc)).lookup x=some c;rcases List.mem_cons.mp h with e | h
  ·injection e with e1 e2;subst e1 e2;simp only[beq_self_eq_true,if_true];exact Qa r _ x ((env.cells.lookup x).getD 0) (by rw[List.lookup_cons];simp)
  ·exact Z8 r _ x h
theorem JC{env:Env}:∀{names:List (Str×NameKind)} {x:Str},names.lookup x=some .free->
  (names.map λ(n,k)=>if (k == NameKind.free&&env.scope.kind == .function&&env.kindOf n == some .cell) then (n,NameKind.cell) else (n,k)).lookup x=some .cell\/
  (names.map λ(n,k)=>if (k == NameKind.free&&env.scope.kind == .function&&env.kindOf n == some .cell) then (n,NameKind.cell) else (n,k)).lookup x=some .free
 |[],_,h=>by simp at h
 | (n,k)::r,x,h=>by
  simp only[List.map_cons]
  by_cases hx:x=n
  ·subst hx;simp[List.lookup_cons] at h;subst h
   by_cases hc:(NameKind.free == NameKind.free&&env.scope.kind == .function&&env.kindOf x == some .cell)=true
   ·rw[if_pos hc];left;simp[List.lookup_cons]
   ·rw[if_neg hc];right;simp[List.lookup_cons]
  ·have hb:(x == n)=false:=by simpa using hx
   rw[List.lookup_cons,hb] at h;have ih:=JC (env:=env) h
   by_cases hc:(k == NameKind.free&&env.scope.kind == .function&&env.kindOf n == some .cell)=true
   ·rw[if_pos hc];simp only[List.lookup_cons,hb];exact ih
   ·rw[if_neg hc];simp only[List.lookup_cons,hb];exact ih
theorem qcS{env:Env}:∀{names:List (Str×NameKind)} {x:Str} {k':NameKind},(names.map λ(n,k)=>if (k == NameKind.free&&env.scope.kind == .function&&env.kindOf n == some .cell) then (n,NameKind.cell) else (n,k)).lookup x=some k'->
  k'=.cell\/k'=.free->(x,NameKind.free)∈names\/(x,NameKind.cell)∈names
 |[],_,_,h,_=>by simp at h
 | (n,k)::r,x,k',h,hk=>by
  simp only[List.map_cons] at h
  by_cases hx:x=n
  ·subst hx
   by_cases hc:(k == NameKind.free&&env.scope.kind == .function&&env.kindOf x == some .cell)=true
   ·have:k=.free:=by simp at hc;exact hc.1.1
    subst this;exact .inl List.mem_cons_self
   ·rw[if_neg hc] at h;simp[List.lookup_cons] at h;subst h;rcases hk with rfl | rfl
    ·exact .inr List.mem_cons_self
    ·exact .inl List.mem_cons_self
  ·have hb:(x == n)=false:=by simpa using hx
   have ih:=qcS (env:=env) (names:=r) (x:=x) (k':=k') (by
    by_cases hc:(k == NameKind.free&&env.scope.kind == .function&&env.kindOf n == some .cell)=true
    ·rw[if_pos hc] at h;simp only[List.lookup_cons,hb] at h;exact h
    ·rw[if_neg hc] at h;simp only[List.lookup_cons,hb] at h;exact h) hk
   exact ih.imp (List.mem_cons_of_mem _) (List.mem_cons_of_mem _)
noncomputable def blk(X:Cx)(N:List Str)(scope:Scope)(cl:List (Str×Addr))(C:Addr)(fp:List Addr)(s2:Shared)(H2:Hp):Cx:=
 { X with N:=N,s₀:=s2,Hv:=H2,env:=compEnvC scope cl C X.env,outer:=X.stack,stack:=X.stack,ex:=fp,fn:=λ_=>false,pn:=[],xe:=λ_ _=>False }
structure BlkScope(X:Cx)(own:List Str)(fr:List Nat)(scope:Scope):Prop where
 kind:scope.kind=.function
 nocell:∀x∈scope.names,x.2≠.cell
 names:∀x∈scope.names,x.2=.local->scope.names.lookup x.1=some .local
 free:∀x∈scope.names,x.2=.free->X.env.kindOf x.1=some .cell\/X.env.kindOf x.1=some .free
 look:∀i∈fr,scope.names.lookup (X.N.getD i "")=some .free
def Jn(X:Cx)(own:List Str)(fr:List Nat):List Str:=own++fr.map λi=>X.N.getD i ""
def Yx(own:List Str)(fr:List Nat)(σ:St):St:=(own.map λ_=>none)++fr.map λi=>(σ[i]?).join
section
variable{X:Cx}{pins:PP}{σ:St}{H:Hp}{s:Shared}{own:List Str}{fr:List Nat}{scope:Scope}
abbrev qcj(its:List Value)(n:Nat):Obj:={ cls:=.type "list",data:=.seq its.toArray n }
theorem qjf{C:Addr}{fp:List Addr}(B:BlkScope X own fr scope)(I:Inv X pins σ H s)(hf:∀b∈fp,qbD X pins H b)(hfo:∀b∈fp,b < s.heap.objs.size)(hC:s.heap.objs.size<=C) :
  (blk X (Jn X own fr) scope (zv X.env scope.names []) C fp s H).Ok where
 mod:=I.ok.mod
 kind:=B.kind
 glob:=I.ok.glob
 blt:=I.ok.blt
 above:=hC
 inj:=λx y c h1 h2=>I.ok.inj x y c (yI (λz hz e=>I.ok.has _ (B.free z hz e)) x c h1) (yI (λz hz e=>I.ok.has _ (B.free z hz e)) y c h2)
 has:=λx h=>by
  have h':(x,NameKind.free)∈scope.names\/(x,NameKind.cell)∈scope.names:=by
   rcases h with h | h
   ·exact qcS (env:=X.env) h (.inl rfl)
   ·exact qcS (env:=X.env) h (.inr rfl)
  rcases h' with h' | h'
  ·exact Z8 _ _ _ h'
  ·exact absurd rfl (B.nocell _ h')
 cab:=λx c h=>nomatch h
 hd:=I.ok.hd
 frames:=I.ok.frames
 stk:=.inl rfl
 exf:=λb hb=>⟨Nat.ne_of_lt (Nat.lt_of_lt_of_le (hfo b hb) hC),λx c e=>(hf b hb).2.2.2.2.1 x c (yI (λz hz e=>I.ok.has _ (B.free z hz e)) x c e)⟩
 bs:=I.bs
 bsz:=Nat.le_trans I.ok.bsz I.sz
 noex:=λb o e hb=>by
  rcases (hf b hb).2.2.2.1 with z | z
  ·exact I.ok.noex b o e z
  ·exact absurd (Nat.lt_of_lt_of_le (Heap.lt_size (I.ok.bs b o e).1) z) (Nat.lt_irrefl _)
 exfs:=λb hb z=>by
  rcases List.mem_cons.mp (I.stkSub b z) with e | e
  ·exact(hf b hb).2.1 e
  ·exact(hf b hb).2.2.1 e
 funs:=I.stack
 frf:=I.stkFree
theorem qcT{C D:Addr}{fp:List Addr}{h4:Heap}{tk:Nat}{n:Nat}(B:BlkScope X own fr scope)(I:Inv X pins σ H s)(hf:∀b∈fp,qbD X pins H b)(hfo:∀b∈fp,b < s.heap.objs.size)(hC:s.heap.objs.size<=C)(hD:s.heap.objs.size<=D)(hDC:D≠C)
  (k:∀b o,s.heap.get? b=some o->h4.get? b=some o) (hn:h4.Ns C λ_=>none) (hl:h4.get? D=some (qcj [] n)) :
  Inv (blk X (Jn X own fr) scope (zv X.env scope.names []) C fp s H) [(D,qcj [] n)] (Yx own fr σ) H { s with heap:=h4,toks:=tk }:=by
 have sub:=yI (env:=X.env) (ns:=scope.names) (λz hz e=>I.ok.has _ (B.free z hz e));refine⟨qjf B I hf hfo hC,rfl,I.bare,Un.kept k,⟨_,hn,λi x v h1 h2 h3=>?_⟩,λx c e=>?_,I.hok.fresh hC,λx c e=>I.freeC x c (sub x c e),λp hp=>?_,I.hok.kept k,?_⟩
 ·have h1:(Jn X own fr)[i]?=some x:=h1;unfold Jn at h1;unfold Yx at h2
  by_cases hi:i < own.length
  ·rw[List.getElem?_append_left (by simpa using hi),List.getElem?_map] at h2
   cases q:own[i]? with
   |none=>rw[q] at h2;cases h2
   |some a=>rw[q] at h2;cases h2
  ·rw[List.getElem?_append_right (by simpa using hi),List.getElem?_map] at h2;rw[List.getElem?_append_right (by simpa using hi),List.getElem?_map] at h1;rw[List.length_map] at h2
   cases q:fr[i - own.length]? with
   |none=>rw[q] at h2;cases h2
   |some j=>
    rw[q] at h1 h2;have h1:X.N.getD j "" = x:=Option.some.inj h1;have h2:(σ[j]?).join=some v:=Option.some.inj h2
    have h2':σ[j]?=some (some v):=by
     cases w:σ[j]? with
     |none=>rw[w] at h2;cases h2
     |some y=>rw[w] at h2;cases y with
      |none=>cases h2
      |some y=>cases h2;rfl
    have hjl:j < X.N.length:=by rw[<-I.len];exact(List.getElem?_eq_some_iff.mp h2').1
    have hN:X.N[j]?=some x:=by rw[<-h1,List.getElem?_eq_getElem hjl];simp[hjl]
    have hfree:scope.names.lookup x=some .free:=by rw[<-h1];exact B.look j (List.mem_of_getElem? q)
    have hk:=B.free (x,.free) (PySem.mem_of_lookup hfree) rfl;obtain⟨m,_,hloc⟩:=I.loc
    obtain⟨u,r,l⟩:=hloc j x v hN h2' (by
     rcases hk with z | z
     ·exact .inr (.inl z)
     ·exact .inr (.inr z))
    refine⟨u,r,.inr ⟨?_,?_⟩⟩
    ·exact JC (env:=X.env) hfree
    ·rcases l with ⟨l,_⟩ | ⟨_,c,hc,o,ho,hd⟩
     ·have hk:X.env.kindOf x=some .cell\/X.env.kindOf x=some .free:=hk;rw[l] at hk;rcases hk with z | z<;>cases z
     ·obtain⟨c',hc'⟩:=Z8 (env:=X.env) scope.names [] x (PySem.mem_of_lookup hfree)
      have:=sub x c' hc'
      rw[hc] at this;cases this;exact⟨c,hc',o,k _ _ ho,hd⟩
 ·obtain⟨v,o,ho,hd⟩:=I.cell x c (sub x c e);exact⟨v,o,k _ _ ho,hd⟩
 ·have hp:p∈[(D,qcj [] n)]:=by simpa [blk] using hp
  obtain rfl:=List.mem_singleton.mp hp;refine⟨hl,I.hok.fresh hD,hDC,λz=>?_,λv e=>by cases e⟩;rcases List.mem_cons.mp (I.stkSub D z) with e | e
  ·exact Nat.ne_of_lt (Nat.lt_of_lt_of_le I.lt hD) e.symm
  ·exact I.nofs hD e
 ·show(Yx own fr σ).length=(Jn X own fr).length;unfold Yx Jn;simp
end
end L2
namespace L2
open PySem PySem.Spec PyProof.Rows
noncomputable def PIf(X:Cx)(ifs:List Expr)(t:TT):Prop:=
 ∀(pins:PP) (s:Shared) (σ:St) (H:Hp) (Q:Bool->Hp->Prop),Inv X pins σ H s->t σ H Q->
  wpAny (model X.prog X.w) X.A (forIn ifs true λc r=>if r=true then do let ok<-isTrue c X.env (eval c X.env);pure (ForInStep.yield ok) else pure (ForInStep.yield r)) (TP X pins σ Q) X.xe s
def qnT:TT:=λ_ H Q=>Q true H
section
variable{X:Cx}{pins:PP}{σ:St}{H:Hp}{s:Shared}{own:List Str}{fr:List Nat}{scope:Scope}
theorem qg0:PIf X [] qnT:=λ_ _ _ H _ I h=>wpAny_tests_nil ⟨H,I,h⟩
theorem qg1{c:Expr}{t:TT}(h:PT X c t):PIf X [c] t:=λpins s σ H Q I hw=>wpAny_tests_one (h pins s σ H Q I hw)
noncomputable def Q9(J:It)(g:TG)(tc:TT)(te:TE)(fin:List V->Hp->Prop)(W:Nat->Nat->List V->St->Hp->Prop):Prop:=
 ∀i m ys σ' H',W i m ys σ' H'->(J.stop i H'/\fin ys H')\/
  (J.go i H'/\ys.length < sizeLine/\∃N:List V->St->Hp->Prop,(∀ys' σ2 H2,N ys' σ2 H2->∃m',m' < m/\W (i+1) m' ys' σ2 H2)/\
   ∀x H2,J.yld i H' x H2->g x σ' H2 λσ2 H3=>tc σ2 H3 λb H4=>if b=true then te σ2 H4 λy H5=>N (ys++[y]) σ2 H5 else N ys σ2 H4)
noncomputable def qg2(own:List Str)(fr:List Nat)(wi:TI)(g:TG)(tc:TT)(te:TE):TE:=λσ H Q=>wi σ H λJ H1=>∃W:Nat->Nat->List V->St->Hp->Prop,(∃m,W 0 m [] (Yx own fr σ) H1)/\Q9 J g tc te (λys H'=>∀l,H' l=none->Q (.ref l) (upd H' l (.lst ys))) W
theorem qg3{N:List Str}{cl:List (Str×Addr)}{C l:Addr}{fp:List Addr}{s4:Shared}{H':Hp}{σ':St}{its:List Value}{k:Nat}{ys:List V}(I:Inv X pins σ H s)(hf:∀b∈fp,qbD X pins H b)(hl:s.heap.objs.size<=l)
  (I4:Inv (blk X N scope cl C fp s H) [(l,qcj its k)] σ' H' s4) (rv:qx ys its) (hz:ys.length<=sizeLine):Inv X pins σ (upd H' l (.lst ys)) s4:=by
 have base:Un (frs X.stack) fp H H' s.heap s4.heap:=I4.base;have pin:=I4.pin (l,qcj its k) (List.mem_append_right _ List.mem_cons_self);have nl:∀b o,s.heap.get? b=some o->b≠l:=λb o e=>Nat.ne_of_lt (Nat.lt_of_lt_of_le (Heap.lt_size e) hl);have nh:∀b u,H' b=some u->b≠l:=λb u e=>qQ e pin.2.1;refine I.call' (ch:=fp) I4.os ⟨base.keep,base.slot,λb o e n hx=>?_,base.there,λb xs e=>?_,λb o u e=>?_,λb ps e=>?_⟩ (λb u e=>?_) I4.bare (λb hb=>⟨(hf b hb).2.2.2.1,(hf b hb).2.1,(hf b hb).2.2.2.2.1,(hf b hb).2.2.2.2.2⟩)
 ·rw[qe (nl b o e)];exact base.free b o e n hx
 ·have:=base.tups b xs e
  rw[qe (nh b _ this)];exact this
 ·have:=base.frzs b o u e
  rw[qe (nh b _ this)];exact this
 ·obtain⟨more,this⟩:=base.tbls b ps e;exact⟨more,by rw[qe (nh b _ this)];exact this⟩
 ·by_cases hb:b=l
  ·subst hb;rw[qg] at e;cases e;exact⟨hz,its,k,rv,pin.1⟩
  ·rw[qe hb] at e;exact(I4.hok b u e).stay (λc v _ q=>q) (λc q=>by rw[qe (nh c _ q)];exact q) λc xs q=>by rw[qe (nh c _ q)];exact q
theorem Za{elt iter tg:Expr}{ifs:List Expr}{pos:Pos}{g:TG}{tc:TT}{te:TE}{it:Addr}{fp:List Addr}{tn:Nat->Heap->Prop}{J:It}{fin:List V->Hp->Prop}{W:Nat->Nat->List V->St->Hp->Prop}{m0:Nat}
  {RR:Value->Addr->Result->Shared->Prop} {E:PQ} (hc:X.calm=true) (B:BlkScope X own fr scope)
  (hg:∀cl C fp s2 H2,PG (blk X (Jn X own fr) scope cl C fp s2 H2) tg g) (ht:∀cl C fp s2 H2,PIf (blk X (Jn X own fr) scope cl C fp s2 H2) ifs tc) (he:∀cl C fp s2 H2,PE (blk X (Jn X own fr) scope cl C fp s2 H2) elt te)
  (I:Inv X pins σ H s) (T:Turn X.prog X.w X.K tg J fp it tn) (st0:tn 0 s.heap) (hf:∀b∈fp,qbD X pins H b) (w0:W 0 m0 [] (Yx own fr σ) H) (hW:Q9 J g tc te fin W)
  (post:∀(l C:Addr) (s4:Shared) (ys:List V) (H':Hp) (m:PR),s.heap.objs.size<=C->H' C=none->H' l=none->l≠C->s4.heap.Ns C m->Inv X pins σ (upd H' l (.lst ys)) s4->fin ys H'->RR (.ref l) C (.ok .next) s4) :
  wpAny (model X.prog X.w) X.A (newList []) (λacc s₃=>wpAny (model X.prog X.w) X.A (newFunctionEnv scope X.env.globals (zv X.env scope.names []) [] X.env.qual none .none (some X.env)) (λcenv s₄=>codeAny (model X.prog X.w) X.A (.compStart (.ListComp elt [⟨tg,iter,ifs,0⟩] scope pos) 0 (.ref it) acc { cenv with scope:=relabel scope X.env }) (RR acc cenv.locals) s₄) E s₃) E s:=by
 have hfo:∀b∈fp,b < s.heap.objs.size:=λb hb=>by obtain⟨o,e,_⟩:=T.obj _ _ st0 b hb;exact Heap.lt_size e
 refine wpAny_newObj_type (wpAny_newFunctionEnv B.nocell (by intro y hy;simp at hy) (λh1 hns hsb=>?_) B.kind);dsimp only at hns hsb ⊢;generalize hH2:s.heap.push { cls:=.type "list",dict:=none,data:=.seq ([]:List Value).toArray }=h2 at hns hsb ⊢;have hC:h2.objs.size=s.heap.objs.size+1:=by rw[<-hH2,Heap.size_push]
 have hDC:s.heap.objs.size≠h2.objs.size:=by rw[hC];exact Nat.ne_of_lt (Nat.lt_succ_self _)
 have hCle:s.heap.objs.size<=h2.objs.size:=by rw[hC];exact Nat.le_succ _
 have old:∀b o,s.heap.get? b=some o->h1.get? b=some o:=λb o e=>hsb.extBut b o (by rw[hC];exact Nat.ne_of_lt (Nat.lt_succ_of_lt (Heap.lt_size e))) (Heap.get?_push_of_some _ (hH2▸Heap.get?_push_of_some _ e));have hacc:h1.get? s.heap.objs.size=some (qcj [] 0):=hsb.extBut _ _ hDC (Heap.get?_push_of_some _ (hH2▸Heap.get?_push_size _ rfl));have hns':h1.Ns h2.objs.size λ_=>none:=hns;have I0:=qcT (tk:=s.toks+([]:List (Str×Value)).length) B I hf hfo hCle (Nat.le_refl _) hDC old hns' hacc;have st1:tn 0 h1:=T.keep _ _ _ st0 λb hb o e=>old b o e
 have loop:codeAny (model X.prog X.w) X.A (.compLoop (.ListComp elt [⟨tg,iter,ifs,0⟩] scope pos) 0 (.ref it) (.ref s.heap.objs.size) (compEnvC scope (zv X.env scope.names []) h2.objs.size X.env))
   (RR (.ref s.heap.objs.size) h2.objs.size) { s with heap:=h1,toks:=s.toks+([]:List (Str×Value)).length }:=by
  generalize hl:s.heap.objs.size=l at *;generalize hCC:h2.objs.size=C at *
  have stat:∀{H':Hp} {o:Obj},(∀b∈fp,H' b=none)->∀b∈fp,qbD (blk X (Jn X own fr) scope (zv X.env scope.names []) C fp s H) [(l,o)] H' b:=λ{H' o} hn b hb=>by
   refine⟨hn b hb,λe=>?_,λz=>?_,.inl hb,λx c e z=>?_,λp hp z=>?_⟩
   ·exact Nat.ne_of_lt (Nat.lt_of_lt_of_le (hfo b hb) hCle) e
   ·rcases List.mem_cons.mp (I.stkSub b z) with e | e
    ·exact(hf b hb).2.1 e
    ·exact(hf b hb).2.2.1 e
   ·exact(hf b hb).2.2.2.2.1 x c (yI (λz hz e=>I.ok.has _ (B.free z hz e)) x c e) z
   ·have hp:p∈[(l,o)]:=by simpa [blk] using hp
    obtain rfl:=List.mem_singleton.mp hp;exact Nat.ne_of_lt (hfo b hb) z.symm
  refine codeAny_loop rfl (λn s'=>∃i ys σ' H' its k,Inv (blk X (Jn X own fr) scope (zv X.env scope.names []) C fp s H) [(l,qcj its k)] σ' H' s'/\qx ys its/\ys.length<=sizeLine/\tn i s'.heap/\(∀b∈fp,H' b=none)/\W i n ys σ' H')
   (λn s3 hI=>?_) m0 ⟨0,[],Yx own fr σ,H,[],0,I0,.nil,Nat.zero_le _,st1,λb hb=>(hf b hb).1,w0⟩
  show wpAny _ X.A ((compTurn (.ListComp elt [⟨tg,iter,ifs,0⟩] scope pos) 0 (.ref it) (.ref l) (compEnvC scope (zv X.env scope.names []) C X.env)).onRaise (λx=>do noteFrame x (compEnvC scope (zv X.env scope.names []) C X.env);theTreesLotGoes x)) _ _ s3;refine wpAny_noted ?_;rw[compTurn_list];obtain⟨i,ys,σ3,H3,its,k,I3,rv,hz,st3,fr3,w3⟩:=hI;refine wpAny_bind (wpAny_standAt (wpAny_bind ?_));rcases hW i n ys σ3 H3 w3 with ⟨stop,qn⟩ | ⟨go,hlt,N,hN,step⟩
  ·refine thn (T.done (blk X (Jn X own fr) scope (zv X.env scope.names []) C fp s H) rfl rfl rfl hc i _ s3 σ3 H3 _ I3 (stat fr3) st3 stop) λr s4 hq1=>?_;obtain⟨hr,I4⟩:=hq1;subst hr;obtain⟨m,hm,_⟩:=I4.loc;exact wpAny_pure (post l C s4 ys H3 m hCle I4.free (I4.pin (l,qcj its k) (List.mem_append_right _ List.mem_cons_self)).2.1 hDC hm (qg3 I hf (Nat.le_of_eq hl) I4 rv hz) qn)
  ·refine thn (T.item (blk X (Jn X own fr) scope (zv X.env scope.names []) C fp s H) rfl rfl rfl hc i _ s3 σ3 H3 _ I3 (stat fr3) st3 go) λr s4 hq1=>?_;obtain⟨u,hr,h4⟩:=hq1;subst hr;refine wpAny_bind (thn h4 λ_ s5 hq1=>?_);obtain⟨x,H5,I5,r5,y5,st5,fr5⟩:=hq1;have I5':=I5.pinned (stat fr5) (T.obj _ _ st5);refine wpAny_bind (wpAny_mono (hg _ _ _ _ _ _ s5 σ3 H5 x u _ I5' r5 (step x H5 y5)) (λ_ s6 ⟨σ6,H6,I6,q6⟩=>?_) λ_ _ z=>z.elim);refine wpAny_bind (wpAny_mono (ht _ _ _ _ _ _ s6 σ6 H6 _ I6 q6) (λb s7 ⟨H7,I7,q7⟩=>?_) λ_ _ z=>z.elim)
   have back:∀{σ8:St} {H8:Hp} {s8:Shared},Inv (blk X (Jn X own fr) scope (zv X.env scope.names []) C fp s H) ([(l,qcj its k)]++QR fp s5.heap) σ8 H8 s8->(∀b∈fp,∀o,s5.heap.get? b=some o->s8.heap.get? b=some o)/\∀b∈fp,H8 b=none:=λI8=>by refine⟨λb hb o e=>(I8.pin (b,o) (List.mem_append_right _ (List.mem_append_right _ (ya hb e)))).1,λb hb=>?_⟩;obtain⟨o,e,_⟩:=T.obj _ _ st5 b hb;exact(I8.pin (b,o) (List.mem_append_right _ (List.mem_append_right _ (ya hb e)))).2.1
   cases b with
   |false=>obtain⟨k1,k2⟩:=back I7;simp only[Bool.false_eq_true,if_false] at q7 ⊢;obtain⟨m',hm',w7⟩:=hN _ _ _ q7;exact wpAny_pure ⟨rfl,m',hm',i+1,ys,σ6,H7,its,k,I7.unpinned,rv,hz,T.keep _ _ _ st5 k1,k2,w7⟩
   |true=>
    simp only[if_true] at q7 ⊢;refine wpAny_bind (wpAny_bind (wpAny_mono (he _ _ _ _ _ _ s7 σ6 H7 _ I7 q7) (λw s8 ⟨y,H8,I8,r8,q8⟩=>?_) λ_ _ z=>z.elim));obtain⟨k1,k2⟩:=back I8;obtain⟨m',hm',w8⟩:=hN _ _ _ q8;have pin:=I8.pin (l,qcj its k) (List.mem_append_right _ (List.mem_append_left _ List.mem_cons_self));have hil:its.length=ys.length:=rv.length.symm;refine wpAny_bind (append_at pin.1 (λh9 hs9 hD9=>?_) (by rw[List.size_toArray,hil];exact hz));have new:h9.get? l=some (qcj (its++[w]) (k+1)):=by rw[hD9,List.push_toArray]
    have Ia:Inv (blk X (Jn X own fr) scope (zv X.env scope.names []) C fp s H) [] σ6 H8 s8:=I8.pins_of (λp hp=>nomatch hp)
    have Ib:Inv (blk X (Jn X own fr) scope (zv X.env scope.names []) C fp s H) [] σ6 H8 { s8 with heap:=h9 }:=Ia.turned (t':=s8.toks) (λb o hb e=>hs9.extBut b o hb e) pin.2.1 pin.2.2.1 (.inr (Nat.le_of_eq hl)) (λx c e z=>by
     obtain⟨v,o,ho,hd⟩:=I8.cell x c e;rw[z,pin.1] at ho;cases ho
     cases hd) (λp hp=>by
      have hp:p∈([]:PP):=by simpa [blk] using hp
      cases hp)
    have Ic:Inv (blk X (Jn X own fr) scope (zv X.env scope.names []) C fp s H) [(l,qcj (its++[w]) (k+1))] σ6 H8 { s8 with heap:=h9 }:=Ib.pins_of λp hp=>by obtain rfl:=List.mem_singleton.mp hp;exact⟨new,pin.2.1,pin.2.2.1,pin.2.2.2.1,λv e=>by cases e⟩
    refine wpAny_pure (wpAny_pure ⟨rfl,m',hm',i+1,ys++[y],σ6,H8,its++[w],k+1,Ic,rv.append %[r8|0],by rw[List.length_append];exact hlt,T.keep _ _ _ st5 λb hb o e=>?_,k2,w8⟩);exact hs9.extBut b o (Nat.ne_of_lt (hfo b hb)) (k1 b hb o e)
 exact codeAny_compStart_list loop (T.self _ 0 _ _ _ st1 loop)
theorem Inv.letgo{s2 s4:Shared}{H2 H4:Hp}{C:Addr}{h':Heap}(I2:Inv X pins σ H2 s2){σ4:St}(I4:Inv X pins σ4 H4 s4)(hC:s2.heap.objs.size<=C)(hn:H4 C=none)(hs:Heap.SameBut C s4.heap h'):Inv X pins σ4 H4 { s4 with heap:=h' }:=by obtain⟨f0,f1,_,f3,f4,f5⟩:=I2.fpOk hC hn;exact I4.turned (t':=s4.toks) (λb o hb e=>hs.extBut b o hb e) f0 f1 f3 f4 f5
theorem qg4{elt iter tg:Expr}{ifs:List Expr}{pos:Pos}{g:TG}{tc:TT}{te:TE}{wi:TI}(own:List Str)(fr:List Nat)(hc:X.calm=true)(B:BlkScope X own fr scope)(hi:PI X tg iter wi)
  (hg:∀cl C fp s2 H2,PG (blk X (Jn X own fr) scope cl C fp s2 H2) tg g) (ht:∀cl C fp s2 H2,PIf (blk X (Jn X own fr) scope cl C fp s2 H2) ifs tc) (he:∀cl C fp s2 H2,PE (blk X (Jn X own fr) scope cl C fp s2 H2) elt te)
  (hs:∀x,foldedSetIterable iter X.env x=pure x:=by intro _;rfl):PE X (.ListComp elt [⟨tg,iter,ifs,0⟩] scope pos) (qg2 own fr wi g tc te):=by
 intro pins s σ H Q I h;rw[eval_ListComp];refine wpAny_comprehension_free (use:=none) rfl hs (qf1 λz hz e=>I.ok.has _ (B.free z hz e)) B.kind B.names ?_;refine thn (hi pins s σ H _ I h) λv s1 h1=>thn h1 λitv s2 h2=>?_;obtain⟨it,fp,tn,J,H2,e,I2,T,st2,f2,W,⟨m0,w0⟩,hW⟩:=h2;subst e;refine Za hc B hg ht he I2 T st2 f2 w0 hW λl C s4 ys H' m hC nC nl hlC hm I4 fin=>?_;exact⟨m,hm,λh' hs'=>⟨.ref l,_,I2.letgo I4 hC (by rw[qe (Ne.symm hlC)];exact nC) hs',rfl,fin l nl⟩⟩
theorem qg5{elt iter tg:Expr}{ifs:List Expr}{pos pos' cpos:Pos}{g:TG}{tc:TT}{te:TE}{wi:TI}{i:Nat}{x:Str}(own:List Str)(fr:List Nat)(hN:X.N.Nodup)(hxi:X.N[i]?=some x)(hx:X.env.scope.names.lookup x=some .local)(hc:X.calm=true)(B:BlkScope X own fr scope)(hi:PI X tg iter wi)
  (hg:∀cl C fp s2 H2,PG (blk X (Jn X own fr) scope cl C fp s2 H2) tg g) (ht:∀cl C fp s2 H2,PIf (blk X (Jn X own fr) scope cl C fp s2 H2) ifs tc) (he:∀cl C fp s2 H2,PE (blk X (Jn X own fr) scope cl C fp s2 H2) elt te)
  (hsw:swapsWith (.ListComp elt [⟨tg,iter,ifs,0⟩] scope cpos) (some (.Name x pos')) pos.line X.env=pure true:=by rfl)
  (hs:∀x,foldedSetIterable iter X.env x=pure x:=by intro _;rfl):PS X (.Assign [.Name x pos'] (.ListComp elt [⟨tg,iter,ifs,0⟩] scope cpos) pos) (qlN (qg2 own fr wi g tc te) (qew i)):=by
 intro pins s σ H D I h;rw[exec_Assign_Name_used _ _ _ _ hsw];refine wpAny_bind (wpAny_standAt (wpAny_bind ?_));show wpAny _ X.A (do let _<-comprehension (.ListComp elt [⟨tg,iter,ifs,0⟩] scope cpos) scope X.env _ (newList []) false (eval iter X.env) (some (assign (.Name x pos') X.env))) _ _ s;refine wpAny_bind (wpAny_mono (wpAny_comprehension_free (use:=some (assign (.Name x pos') X.env)) (Q:=λ_ s'=>SP X pins D .next s') rfl hs (qf1 λz hz e=>I.ok.has _ (B.free z hz e)) B.kind B.names ?_) (λ_ s' hq=>wpAny_pure (wpAny_pure hq)) λ_ _ e=>e);refine thn (hi pins s σ H _ I h) λv s1 h1=>thn h1 λitv s2 h2=>?_;obtain⟨it,fp,tn,J,H2,e,I2,T,st2,f2,W,⟨m0,w0⟩,hW⟩:=h2;subst e;refine Za (RR:=λacc C=>compPost (model X.prog X.w) X.A X.xe (some (assign (.Name x pos') X.env)) (λ_ s'=>SP X pins D .next s') acc C) hc B hg ht he I2 T st2 f2 w0 hW λl C s4 ys H' m hC nC nl hlC hm I4 fin=>?_;show wpAny _ X.A (assign (.Name x pos') X.env (.ref l)) _ _ s4;refine wpAny_assign_Name (yE I4 hN hxi (.inl hx) (v:=.ref l) rfl (λs5 I5 hsb=>?_) (.inr hx));obtain⟨a,sb,ha⟩:=hsb
 have hCa:C≠a:=by
  rcases ha with rfl | ha
  ·exact Nat.ne_of_gt (Nat.lt_of_lt_of_le I2.lt hC)
  ·obtain⟨v,q⟩:=I2.cell x a ha;exact Nat.ne_of_gt (Nat.lt_of_lt_of_le q.lt hC)
 exact⟨m,hm.sameBut sb hCa,λh' hs'=>⟨_,_,I2.letgo I5 hC (by rw[qe (Ne.symm hlC)];exact nC) hs',fin l nl⟩⟩
end
end L2
namespace L2
open PySem PySem.Spec PyProof.Rows
mutual
noncomputable def DV(K:Frag)(H:Hp):PyData->V->Prop
 |.none,v=>v=.non
 |.bool b,v=>v=.bl b
 |.int i,v=>v=.int i
 |.str x,v=>v=.str x
 |.list ds,v=>∃a xs,v=.ref a/\SqL K H a xs/\DVs K H ds xs
 |.tuple ds,v=>∃a xs,v=.ref a/\SqT K H a xs/\DVs K H ds xs
 |.dict _,_=>False
noncomputable def DVs(K:Frag)(H:Hp):List PyData->List V->Prop
 |[],xs=>xs=[]
 | d::ds,xs=>∃x r,xs=x::r/\DV K H d x/\DVs K H ds r
end
section
variable{X:Cx}{pins:PP}{σ:St}{H:Hp}{s:Shared}
mutual
theorem DV.reads(I:Inv X pins σ H s):∀{d:PyData} {v:V} {u:Value},DV X.K H d v->qH v u->∃as,Reads s.heap u d as
 |.none,v,u,h,r=>by
  have h:v=.non:=by simpa [DV] using h
  subst h;cases r;exact⟨_,Reads.none⟩
 |.bool b,v,u,h,r=>by
  have h:v=.bl b:=by simpa [DV] using h
  subst h;cases r;exact⟨_,Reads.bool b⟩
 |.int i,v,u,h,r=>by
  have h:v=.int i:=by simpa [DV] using h
  subst h;obtain⟨t,rfl⟩:=r;exact⟨_,Reads.int i t⟩
 |.str x,v,u,h,r=>by
  have h:v=.str x:=by simpa [DV] using h
  subst h;obtain⟨t,rfl⟩:=r;exact⟨_,Reads.str x t⟩
 |.list ds,v,u,h,r=>by
  have h:∃a xs,v=.ref a/\SqL X.K H a xs/\DVs X.K H ds xs:=by simpa [DV] using h
  obtain⟨a,xs,rfl,hq,hd⟩:=h;cases r;obtain⟨its,rv,pl,_⟩:=I.list hq;obtain⟨as,ra⟩:=DVs.reads I hd rv;obtain⟨o,ho,hc,n,hdd⟩:=pl.isList;exact⟨_,reads_list_at ho hc hdd (by simpa using ra)⟩
 |.tuple ds,v,u,h,r=>by
  have h:∃a xs,v=.ref a/\SqT X.K H a xs/\DVs X.K H ds xs:=by simpa [DV] using h
  obtain⟨a,xs,rfl,hq,hd⟩:=h;cases r;obtain⟨its,rv,pl,_⟩:=I.tuple hq;obtain⟨as,ra⟩:=DVs.reads I hd rv;obtain⟨o,ho,hc,n,hdd⟩:=pl;exact⟨_,reads_tuple_at ho hc hdd (by simpa using ra)⟩
 |.dict _,v,u,h,r=>by simp[DV] at h
theorem DVs.reads(I:Inv X pins σ H s):∀{ds:List PyData} {vs:List V} {us:List Value},DVs X.K H ds vs->qx vs us->∃as,ReadsAll s.heap us ds as
 |[],vs,us,h,r=>by
  have h:vs=[]:=by simpa [DVs] using h
  subst h;cases r;exact⟨_,ReadsAll.nil⟩
 | d::ds,vs,us,h,r=>by
  have h:∃x r,vs=x::r/\DV X.K H d x/\DVs X.K H ds r:=by simpa [DVs] using h
  obtain⟨x,rr,rfl,h1,h2⟩:=h
  cases r with
  |cons r1 r2=>obtain⟨as,ra⟩:=DV.reads I h1 r1;obtain⟨bs,rb⟩:=DVs.reads I h2 r2;exact⟨_,ReadsAll.cons ra rb⟩
end
noncomputable def qnU(K:Frag):R2:=λx y H Q=>∃d e,DV K H d x/\DV K H e y/\SeqAt.shaped d=true/\SeqAt.shaped e=true/\Q (.bl (PyData.eqv d e)) H
noncomputable def qnV(K:Frag):R2:=λx y H Q=>∃d e,DV K H d x/\DV K H e y/\SeqAt.shaped d=true/\SeqAt.shaped e=true/\Q (.bl (!PyData.eqv d e)) H
theorem qjg(hu:X.A.units+64 < cLine):OpR X (compareOp .Eq) (qnU X.K):=by intro pins s σ H x y v u Q I rx ry h;obtain⟨d,e,hd,he,sd,se,q⟩:=h;obtain⟨as,ra⟩:=DV.reads I hd rx;obtain⟨bs,rb⟩:=DV.reads I he ry;exact eq_dataH ra rb sd se hu ⟨.bl _,H,I,rfl,q⟩
theorem qjh(hu:X.A.units+64 < cLine):OpR X (compareOp .NotEq) (qnV X.K):=by intro pins s σ H x y v u Q I rx ry h;obtain⟨d,e,hd,he,sd,se,q⟩:=h;obtain⟨as,ra⟩:=DV.reads I hd rx;obtain⟨bs,rb⟩:=DV.reads I he ry;exact ne_dataH ra rb sd se hu ⟨.bl _,H,I,rfl,q⟩
theorem qeK:q9 X (.builtin "isinstance") (λvs H Q=>∃x n t b,vs=[x,.ty n]/\TyOf X.K H x t/\PySem.W.kitOne X.K t (.type n)=some b/\Q (.bl b) H):=by intro pins s σ H xs us Q I r h;obtain⟨x,n,t,b,rfl,ty,e,q⟩:=h;obtain⟨u,w,rfl,rx,rn⟩:=QT r;cases rn;exact QW I rx ty e λtk=>⟨.bl b,H,I.tok tk,rfl,q⟩
noncomputable def qnW(te:TE)(tl th:TO)(ts:TE)(K:Frag):TE:=λσ H Q=>te σ H λx H1=>tl σ H1 λl H2=>th σ H2 λu H3=>ts σ H3 λz H4=>∃a xs st ys,x=.ref a/\SqL K H4 a xs/\z=.int st/\st≠0/\ys.length<=xs.length/\(∀its:List Value,qx xs its->qx ys (slicePick its.toArray l u (some st)).toList)/\∀p,H4 p=none->Q (.ref p) (upd H4 p (.lst ys))
theorem qcU{e st:Expr}{te ts:TE}{lo hi:Option Expr}{tl th:TO}{pos p2:Pos}(he:PE X e te)(hl:PO X lo tl)(hu:PO X hi th)(hst:PE X st ts):PE X (.Subscript e (.Slice lo hi (some st) p2) pos) (qnW te tl th ts X.K):=by intro pins s σ H Q I h;refine Subscript_ (thn (he pins s σ H _ I h) λv s1 hq1=>?_);obtain⟨x,H1,I1,r1,q1⟩:=hq1;refine wpAny_Slice (thn (hl pins s1 σ H1 _ I1 q1) λvl s2 ⟨l,H2,I2,pl,q2⟩=>thn (hu pins s2 σ H2 _ I2 q2) λvu s3 hq1=>?_);obtain⟨u,H3,I3,pu,q3⟩:=hq1;rw[evalPart_some];refine thn (hst pins s3 σ H3 _ I3 q3) λvs s4 hq1=>?_;obtain⟨z,H4,I4,r4,q4⟩:=hq1;obtain⟨a,xs,k,ys,rfl,hq,rfl,h0,hle,hys,q⟩:=q4;cases r1;obtain⟨t,rfl⟩:=r4;have I5:Inv X pins σ H4 { s4 with heap:=s4.heap.push { cls:=.type "slice",data:=.fields #[vl,vu,.int k t] } }:=I4.kept (t':=s4.toks) λb ob q=>Heap.get?_push_of_some _ q;obtain⟨its,rv,ht,hz⟩:=I5.list hq;have hlen:=rv.length;show wpAny (model X.prog X.w) X.A (subscriptTail e (.Slice lo hi (some st) p2) (.ref a) (.ref s4.heap.objs.size)) (EP X pins σ Q) X.xe { s4 with heap:=s4.heap.push { cls:=.type "slice",data:=.fields #[vl,vu,.int k t] } };refine tail_any ht.isList.typeIs slot_list_getitem.lookup ?_ rfl;refine wpAny_getItem_list_slice ht.isList (Heap.IsSliceOf.new ..) pl pu (.int k t) (λe=>h0 (Option.some.inj e)) ?_ (by rw[List.size_toArray];lia);have hv:=hys its rv;generalize hP:slicePick its.toArray l u (some k)=P at hv ⊢;refine⟨.ref _,_,I5.laid (t':=s4.toks) (o:=.lst ys) (λb ob q=>Heap.get?_push_of_some _ q) (Nat.le_refl _) ?_,rfl,q _ (I5.hok.fresh (Nat.le_refl _))⟩;exact⟨by lia,P.toList,0,hv,by rw[Array.toArray_toList];exact Heap.get?_push_size _ rfl⟩
theorem qeL{xs:List V}:∀its:List Value,qx xs its->qx xs.reverse (slicePick its.toArray none none (some (-1))).toList:=λits r=>by rw[PySem.W.krv_pick];exact r.reverse
end
end L2
set_option maxHeartbeats 4000000
namespace L2
open PySem PySem.Spec PyProof.Rows
section
variable{X:Cx}
theorem YK:∀{ns:List Int} {its:List Value},qx (ns.map V.int) its->∃xs:List (Int×Tok),its=xs.map (λp=>Value.int p.1 p.2)/\ns=xs.map (·.1)
 |[],_,.nil=>⟨[],rfl,rfl⟩
 | n::ns,_,.cons r t=>by obtain⟨xs,rfl,rfl⟩:=YK t;obtain⟨k,rfl⟩:=r;exact⟨(n,k)::xs,rfl,rfl⟩
theorem qcV(hc:X.calm=true):q9 X (.builtin "sum") (λvs H Q=>∃(p:Addr) (ns:List Int),vs=[.ref p]/\SqL X.K H p (ns.map V.int)/\Q (.int ns.sum) H):=by
 intro pins s σ H xs us Q I r h;obtain⟨p,ns,rfl,hq,q⟩:=h;obtain⟨u,rfl,rx⟩:=JK r;cases rx;obtain⟨its,rv,pl,hz⟩:=I.list hq;obtain⟨zs,rfl,rfl⟩:=YK rv
 have hl:s.heap.IsList p (intItems zs.toArray):=by
  have e:(zs.map λp=>Value.int p.1 p.2).toArray=intItems zs.toArray:=by simp[intItems]
  rw[<-e];exact pl.isList
 refine sum_intListG (I.ok.hd hc) hl λh' tk t' hk=>?_;refine⟨.int _,H,I.kept (t':=tk) hk,⟨t',?_⟩,q⟩;rw[preSum_eq,List.take_of_length_le (by simp)]
end
end L2
namespace L2
open PySem PySem.Spec PyProof.Rows
noncomputable def JD(osc:Scope)(N:List Str)(fr:List Nat)(sc:Scope):Bool:=
 sc.kind == .function&&(sc.names.all λx=>x.2 != .cell&&(x.2 != .local||sc.names.lookup x.1 == some .local)&&(x.2 != .free||(osc.names.lookup x.1 == some .cell||osc.names.lookup x.1 == some .free)))&&fr.all λi=>sc.names.lookup (N.getD i "") == some .free
theorem qp.upd{H:Hp}{a:Addr}{o:HO}(h:H a=none):qp H (upd H a o):=λb u e=>by rw[qe (qQ e h)];exact e
end L2
namespace L2
open PySem PySem.Spec PyProof.Rows PySem.W
structure NX(fs:List Addr)(e:Addr)(oT:Option Addr)(oe:Obj)(vs:Array Value)(T':Addr)(fl:Value)(h h':Heap):Prop where
 kept:∀b o,b∉fs->b≠e->oT≠some b->h.get? b=some o->h'.get? b=some o
 frame:∀b o,b∈fs->h.get? b=some o->∃sl,h'.get? b=some { o with slots:=sl }
 obj:∃o' vs',h'.get? e=some o'/\o'.cls=oe.cls/\o'.dict=oe.dict/\o'.data=.fields vs'/\vs'[0]?=vs[0]?/\vs'[1]?=some (.ref T')
 new:h.get? T'=none
 ne:T'≠e
 ent:∃ot ts,h'.get? T'=some ot/\ot.data=.fields ts/\ts[3]?=some fl
section
variable{M:Model}{A:Around}{E:PQ}{s:Shared}{base:Heap}{env:Env}{outer:List Env}{L e:Addr}{oe:Obj}{vs:Array Value}{Q:Unit->Shared->Prop}
theorem qg6(hl:s.heap.FunFrames base (env::outer))(he:s.heap.get? e=some oe)(hd:oe.data=.fields vs):e∉frs (env::outer):=λhm=>by obtain⟨_,o,ho,hnf⟩:=hl.mem hm;rw[he] at ho;cases ho;exact hnf vs hd
theorem YL{head:Value}{hadNext:Bool}(hfr:A.frames=some (env::outer))(hl:s.heap.FunFrames base (env::outer))(hf:env.frame=some L)(he:s.heap.get? e=some oe)(hd:oe.data=.fields vs)(hsz:1 < vs.size)
  (k:∀h' T',NX (frs (env::outer)) e none oe vs T' (rawInt L) s.heap h'->Q () { s with heap:=h' }) :
  wpAny M A (do let fr<-frameOf env;let pl<-entryPlaceOf L hadNext;let en<-EntryCells.newEntry head fr .none (rawInt L) .none pl;setField (.ref e) 1 en) Q E s:=by
 have hne:=qg6 hl he hd;refine wpAny_bind (wpAny_frameOf_fun hfr hl hf λh1 so=>wpAny_bind (wpAny_entryPlaceOf λpl hpl=>wpAny_bind ?_));obtain⟨so1,so2,so3⟩:=so;have e1:h1.get? e=some oe:=(so2 e hne).trans he;simp only[EntryCells.newEntry,newFields];refine wpAny_newObj_type ?_ (hpl.sizeOk5 _ _ _ _ _);generalize hob:(⟨.type "traceback",none,.fields ([head,.ref L,.none,rawInt L,.none]++(if pl.isEmpty then List.replicate 6 Value.none else pl)).toArray,#[]⟩:Obj)=tb;have hts:∃ts,tb.data=.fields ts/\ts[3]?=some (rawInt L):=⟨_,by rw[<-hob],by simp⟩;have e2:(h1.push tb).get? e=some oe:=Heap.get?_push_of_some _ e1;refine wpAny_setField e2 hd hsz (k _ h1.objs.size ?_);have hTe:h1.objs.size≠e:=Nat.ne_of_gt (Heap.lt_size e1)
 have up:∀b o,b≠e->h1.get? b=some o->((h1.push tb).update e (Obj.mapFields (·.setIfInBounds 1 (Value.ref h1.objs.size)))).get? b=some o:=λb o hb q=>by rw[Heap.get?_update_other _ _ (Ne.symm hb)];exact Heap.get?_push_of_some _ q
 have hdt:=Obj.data_mapFields hd (·.setIfInBounds 1 (Value.ref h1.objs.size));refine⟨λb o h1' h2' _ q=>up b o h2' ((so2 b h1').trans q),λb o hb q=>?_,?_,?_,hTe,?_⟩
 ·obtain⟨sl,z⟩:=so3 b o q;exact⟨sl,up b _ (λz=>hne (z▸hb)) z⟩
 ·refine⟨_,_,Heap.get?_update_self _ e2 (Obj.isFreed_of_fields hdt),Obj.cls_mapFields _ _,?_,hdt,?_,?_⟩
  ·obtain⟨c1,c2,c3,c4⟩:=oe;cases hd;rfl
  ·rw[Array.getElem?_setIfInBounds_ne (2:)]
  ·simp[hsz]
 ·cases q:s.heap.get? h1.objs.size with
  |none=>rfl
  |some o=>obtain⟨sl,z⟩:=so3 _ o q;exact absurd (Heap.lt_size z) (Nat.lt_irrefl _)
 ·obtain⟨ts,t1,t2⟩:=hts;refine⟨tb,ts,?_,t1,t2⟩;rw[Heap.get?_update_other _ _ (Ne.symm hTe)];exact Heap.get?_push_size _ (by rw[<-hob];rfl)
noncomputable def qg7(h:Heap)(e:Addr)(vs:Array Value):Option Addr->Prop
 |none=>vs[1]?=some .none
 |some T=>vs[1]?=some (.ref T)/\T≠e/\∃ot ts,h.get? T=some ot/\ot.data=.fields ts/\ts[3]?=some .none
theorem qf2{oT:Option Addr}(hfr:A.frames=some (env::outer))(hl:s.heap.FunFrames base (env::outer))(hf:env.frame=some L)(he:s.heap.get? e=some oe)(hd:oe.data=.fields vs)(hb:qg7 s.heap e vs oT)
  (k:∀h' T',NX (frs (env::outer)) e oT oe vs T' (rawInt L) s.heap h'->Q () { s with heap:=h' }):wpAny M A (noteFrame (.ref e) env) Q E s:=by
 simp only[noteFrame,hf]
 cases oT with
 |none=>have hv:vs[1]?=some .none:=hb;have hsz:1 < vs.size:=(Array.getElem?_eq_some_iff.mp hv).1;refine wpAny_bind (wpAny_field he hd hv ?_);rw[if_neg (2:)];exact YL hfr hl hf he hd hsz k
 |some T=>
  obtain⟨hv,hTe,ot,ts,hT,hdT,h3⟩:=hb;have hsz:1 < vs.size:=(Array.getElem?_eq_some_iff.mp hv).1;refine wpAny_bind (wpAny_field he hd hv ?_);rw[if_pos (show(Value.ref T != Value.none)=true by simp)];refine wpAny_bind (wpAny_field hT hdT h3 ?_);rw[if_neg (show ¬ ((Value.none == rawInt L)=true) by simp[rawInt])];refine wpAny_bind (wpAny_setField hT hdT (Array.getElem?_eq_some_iff.mp h3).1 ?_);have oth:∀{b:Addr},b≠T->(s.heap.update T (Obj.mapFields (·.setIfInBounds 3 Value.none))).get? b=s.heap.get? b:=λhb=>Heap.get?_update_other _ _ (Ne.symm hb)
  have nT:∀{b:Addr} {o:Obj},s.heap.get? b=some o->(∀vs,o.data≠.fields vs)->b≠T:=λ{b o} q hn z=>by rw[z,hT] at q;cases q;exact hn ts hdT
  have hl2:(s.heap.update T (Obj.mapFields (·.setIfInBounds 3 Value.none))).FunFrames base (env::outer):=hl.of_keeps λb o q hn=>⟨o,(oth (nT q hn)).trans q,rfl⟩;refine YL (s:={ s with heap:=s.heap.update T (Obj.mapFields (·.setIfInBounds 3 Value.none)) }) hfr hl2 hf ((oth (Ne.symm hTe)).trans he) hd hsz λh' T' nx=>k h' T' ?_;obtain⟨n1,n2,n3,n4,n5,n6⟩:=nx;refine⟨λb o h1 h2 h4 q=>n1 b o h1 h2 (by simp) ((oth (λz=>h4 (by rw[z]))).trans q),λb o hb q=>n2 b o hb ((oth ?_).trans q),n3,?_,n5,n6⟩
  ·obtain⟨_,o',ho',hn⟩:=hl.mem hb;exact nT ho' hn
  ·cases q:s.heap.get? T' with
   |none=>rfl
   |some o=>
    by_cases z:T'=T
    ·subst z
     have:=Heap.get?_update_self (Obj.mapFields (·.setIfInBounds 3 Value.none)) hT (Obj.isFreed_of_fields (Obj.data_mapFields hdT _))
     rw[this] at n4;cases n4
    ·rw[oth z,q] at n4;cases n4
theorem Qb{fs:List Addr}{oT:Option Addr}{T':Addr}{fl:Value}{h:Heap}(nx:NX fs e oT oe vs T' fl h s.heap)(k:∀h',NX fs e oT oe vs T' .none h h'->Q () { s with heap:=h' }):wpAny M A (setFlight (.ref e) none) Q E s:=by
 obtain⟨n1,n2,⟨o',vs',o1,o2,o3,o4,o5,o6⟩,n4,n5,ot,ts,t1,t2,t3⟩:=nx;have h3:3 < ts.size:=(Array.getElem?_eq_some_iff.mp t3).1;unfold setFlight;refine wpAny_bind (wpAny_field o1 o4 o6 ?_);rw[if_pos (show(Value.ref T' != Value.none)=true by simp)];refine wpAny_setField t1 t2 h3 (k _ ?_);have oth:∀{b:Addr},b≠T'->(s.heap.update T' (Obj.mapFields (·.setIfInBounds 3 ((none:Option Addr).elim Value.none λf=>rawInt f)))).get? b=s.heap.get? b:=λhb=>Heap.get?_update_other _ _ (Ne.symm hb)
 have nT:∀{b:Addr} {o:Obj},h.get? b=some o->b≠T':=λ{b o} q z=>by rw[z,n4] at q;cases q
 have hdt:=Obj.data_mapFields t2 (·.setIfInBounds 3 ((none:Option Addr).elim Value.none λf=>rawInt f));refine⟨λb o h1 h2 h4 q=>(oth (nT q)).trans (n1 b o h1 h2 h4 q),λb o hb q=>?_,⟨o',vs',(oth (Ne.symm n5)).trans o1,o2,o3,o4,o5,o6⟩,n4,n5,_,_,Heap.get?_update_self _ t1 (Obj.isFreed_of_fields hdt),hdt,by simp[h3]⟩;obtain⟨sl,z⟩:=n2 b o hb q;exact⟨sl,(oth (nT q)).trans z⟩
theorem qg8{oT:Option Addr}(hfr:A.frames=some (env::outer))(hl:s.heap.FunFrames base (env::outer))(hf:env.frame=some L)(he:s.heap.get? e=some oe)(hd:oe.data=.fields vs)(hb:qg7 s.heap e vs oT)
  (k:∀h' T',NX (frs (env::outer)) e oT oe vs T' .none s.heap h'->Q () { s with heap:=h' }):wpAny M A (leaving env (.ref e)) Q E s:=by
 unfold leaving;exact wpAny_bind (qf2 hfr hl hf he hd hb λh1 T' nx=>Qb (s:={ s with heap:=h1 }) nx λh2 nx2=>k h2 T' nx2)
end
end L2
namespace L2
open PySem PySem.Spec PyProof.Rows PySem.W
noncomputable def Fly(h:Heap)(x:Addr)(C:Addr)(od oT:Option Addr):Prop:=∃oe vs,h.get? x=some oe/\oe.cls=.ref C/\oe.dict=od/\oe.data=.fields vs/\qg7 h x vs oT
noncomputable def CX1(P:Program)(w:World):CXT:=λouter H s E e s'=>∃x T C od H',e=.ref x/\s'.os=s.os/\AllBare s'.gens/\Un (frs outer) [] H H' s.heap s'.heap/\HOk P w H' s'.heap/\H' x=none/\H' T=none/\
 s.heap.get? x=none/\s.heap.get? T=none/\Fly s'.heap x C od (some T)/\E (.ref C) od H'
theorem qaP{P:Program}{w:World}{H:Hp}{h:Heap}{a:Addr}{o:HO}(x:qP P w H h a o):∃ob,h.get? a=some ob:=by
 cases o with
 |lst xs=>obtain⟨z,its,n,r,e⟩:=x;exact⟨_,e⟩
 |tup xs=>obtain⟨z,its,r,ob,e,c⟩:=x;exact⟨_,e⟩
 |dK kvs=>obtain⟨z,y,vs,r,ob,es,ep,e,c⟩:=x;exact⟨_,e⟩
 |dT kvs=>obtain⟨z,y,xs,r,ob,es,ep,e,c⟩:=x;exact⟨_,e⟩
 |set S n=>obtain⟨ob,es,ep,t,e,c⟩:=x;exact⟨_,e⟩
 |ins C dx fs=>obtain⟨d,z,ne,e,_⟩:=x;exact⟨_,e⟩
 |own y=>obtain⟨ob,e⟩:=x;exact⟨_,e⟩
 |xd fs=>obtain⟨mA,⟨od,es,ep,e,c⟩,r⟩:=x;exact⟨_,e⟩
 |rng lo hi=>obtain⟨t,u,v,e⟩:=x;exact⟨_,e⟩
 |frz ob u=>obtain⟨e,q⟩:=x;exact⟨_,e⟩
 |tbl ps=>exact⟨_,x⟩
 |met f y=>exact⟨_,x⟩
 |ext φ=>obtain⟨p,⟨o,e⟩,st⟩:=x;exact⟨_,e⟩
section
variable{X:Cx}{pins:PP}{σ:St}{H:Hp}{s:Shared}
structure Mine(X:Cx)(pins:PP)(H:Hp)(x:Addr)(oT:Option Addr):Prop where
 hx:H x=none
 x0:X.s₀.heap.get? x=none
 hT:∀T,oT=some T->H T=none/\X.s₀.heap.get? T=none
 pin:∀p∈X.pn++pins,p.1≠x/\oT≠some p.1
variable{x T':Addr}{oT:Option Addr}{oe:Obj}{vs:Array Value}{h':Heap}
theorem Zb(I:Inv X pins σ H s)(hex:X.ex=[])(M:Mine X pins H x oT)(fx:∃o vs,s.heap.get? x=some o/\o.data=.fields vs)(fT:∀T,oT=some T->∃o vs,s.heap.get? T=some o/\o.data=.fields vs)(nx:NX (frs X.stack) x oT oe vs T' .none s.heap h') :
  Inv X pins σ H { s with heap:=h' }:=by
 obtain⟨k1,k2,_⟩:=nx;have nex:∀{b:Addr},b∉X.ex:=λ{b} hb=>by rw[hex] at hb;cases hb
 have s0x:∀{b:Addr} {o:Obj},X.s₀.heap.get? b=some o->b≠X.env.locals/\b≠x/\oT≠some b:=λ{b o} e=>⟨Nat.ne_of_lt (Nat.lt_of_lt_of_le (Heap.lt_size e) I.ok.above),(λz=>by rw[z,M.x0] at e;cases e),(λz=>by rw[(M.hT b z).2] at e;cases e)⟩
 have frm:∀{b:Addr},b∈frs X.stack->b=X.env.locals\/b∈X.fs:=λ{b} hb=>List.mem_cons.mp (I.stkSub b hb)
 have any:∀{b:Addr} {o:Obj},s.heap.get? b=some o->(∀vs,o.data≠.fields vs)->∃sl,h'.get? b=some { o with slots:=sl }:=λ{b o} e hn=>by
  by_cases hm:b∈frs X.stack
  ·exact k2 b o hm e
  ·refine⟨o.slots,k1 b o hm (λz=>?_) (λz=>?_) e⟩
   ·obtain⟨o',v',q,qd⟩:=fx;rw[z,q] at e;cases e;exact hn v' qd
   ·obtain⟨o',v',q,qd⟩:=fT b z;rw[q] at e;cases e;exact hn v' qd
 have cellK:∀{c:Addr} {v:Option Value},s.heap.IsCell c v->h'.IsCell c v:=λ{c v} ⟨o,ho,hd⟩=>by
  obtain⟨sl,e⟩:=any ho λvs z=>by rw[hd] at z;cases z
  exact⟨_,e,hd⟩
 refine⟨I.ok,I.os,I.bare,⟨λb o e n hb hx=>?_,λb o e n hb hx=>?_,I.base.free,λb o e hx=>?_,I.base.tups,I.base.frzs,I.base.tbls⟩,?_,λy c e=>?_,I.free,I.freeC,λp hp=>?_,λa o e=>?_,I.len⟩
 ·obtain⟨z1,z2,z3⟩:=s0x e;refine k1 b o (λz=>?_) z2 z3 (I.base.keep b o e n hb hx);rcases frm z with z | z
  ·exact z1 z
  ·exact hb z
 ·obtain⟨sl,e1⟩:=I.base.slot b o e n hb hx;obtain⟨_,o',ho',hd⟩:=I.ok.funs.mem hb;rw[e] at ho';cases ho';obtain⟨sl',e2⟩:=any e1 hd;exact⟨sl',e2⟩
 ·obtain⟨o1,e1⟩:=I.base.there b o e hx;obtain⟨z1,z2,z3⟩:=s0x e
  by_cases hm:b∈frs X.stack
  ·obtain⟨sl,e2⟩:=k2 b _ hm e1;exact⟨_,e2⟩
  ·exact⟨_,k1 b _ hm z2 z3 e1⟩
 ·obtain⟨m,⟨o,es,ep,ho,hd,r⟩,hl⟩:=I.loc;obtain⟨sl,e2⟩:=any ho λvs z=>by rw[hd] at z;cases z
  refine⟨m,⟨_,es,ep,e2,hd,r⟩,λi y v e1 e2 e3=>?_⟩;obtain⟨u,r,l⟩:=hl i y v e1 e2 e3;refine⟨u,r,?_⟩;rcases l with l | ⟨k,c,e,z⟩
  ·exact .inl l
  ·exact .inr ⟨k,c,e,cellK z⟩
 ·obtain⟨v,z⟩:=I.cell y c e;exact⟨v,cellK z⟩
 ·obtain⟨e,n,ne,nf,d⟩:=I.pin p hp;refine⟨k1 _ _ (λz=>?_) (M.pin p hp).1 (M.pin p hp).2 e,n,ne,nf,d⟩;rcases frm z with z | z
  ·exact ne z
  ·exact nf z
 ·have trk:∀{b:Addr} {u:HO},H b=some u->b∉frs X.stack/\b≠x/\oT≠some b:=λ{b u} e=>
   ⟨(λz=>by rw[I.stkFree b z] at e;cases e),(λz=>by rw[z,M.hx] at e;cases e),(λz=>by rw[(M.hT b z).1] at e;cases e)⟩
  refine(I.hok a o e).stay (λb u hb q=>?_) (λ_ q=>q) λ_ _ q=>q
  have:b∉frs X.stack/\b≠x/\oT≠some b:=by
   rcases hb with z | z
   ·rw[z];exact trk e
   ·exact trk z
  exact k1 _ _ this.1 this.2.1 this.2.2 q
theorem NX.fly{C:Addr}{od:Option Addr}{h:Heap}{fs:List Addr}(nx:NX fs x oT oe vs T' .none h h')(hc:oe.cls=.ref C)(hd:oe.dict=od):Fly h' x C od (some T'):=by obtain⟨_,_,⟨o',vs',o1,o2,o3,o4,o5,o6⟩,_,n5,ot,ts,t1,t2,t3⟩:=nx;exact⟨o',vs',o1,o2.trans hc,o3.trans hd,o4,o6,n5,ot,ts,t1,t2,t3⟩
theorem Fly.fields{C:Addr}{od:Option Addr}{h:Heap}(fl:Fly h x C od oT):(∃o vs,h.get? x=some o/\o.data=.fields vs)/\∀T,oT=some T->∃o vs,h.get? T=some o/\o.data=.fields vs:=by obtain⟨o,vs,e1,_,_,e4,b⟩:=fl;refine⟨⟨o,vs,e1,e4⟩,λT z=>?_⟩;subst z;obtain⟨_,_,ot,ts,t1,t2,_⟩:=b;exact⟨ot,ts,t1,t2⟩
theorem Inv.newH{x:Addr}(I:Inv X pins σ H s)(h:s.heap.get? x=none):H x=none:=by
 cases e:H x with
 |none=>rfl
 |some u=>obtain⟨o,q⟩:=qaP (I.hok x u e);rw[h] at q;cases q
theorem Inv.new0{x:Addr}(I:Inv X pins σ H s)(hx:x∉X.ex)(h:s.heap.get? x=none):X.s₀.heap.get? x=none:=by
 cases e:X.s₀.heap.get? x with
 |none=>rfl
 |some o=>obtain⟨o',q⟩:=I.base.there x o e hx;rw[h] at q;cases q
theorem qaQ{E:XK}{C:Addr}{od:Option Addr}(I:Inv X pins σ H s)(hst:X.stack=X.env::X.outer/\X.env.frame=some X.env.locals)(hex:X.ex=[])(M:Mine X pins H x oT)(fl:Fly s.heap x C od oT)(q:E (.ref C) od H){E':PQ} :
  wpAny (model X.prog X.w) X.A (leaving X.env (.ref x)) (λ_ s''=>CX1 X.prog X.w X.outer X.Hv X.s₀ E (.ref x) s'') E' s:=by
 obtain⟨fx,fT⟩:=fl.fields;obtain⟨oe,vs,e1,e2,e3,e4,b⟩:=fl;have hfr:X.A.frames=some (X.env::X.outer):=by rw[<-hst.1];exact I.ok.frames
 have hl:=I.stack;rw[hst.1] at hl;refine qg8 hfr hl hst.2 e1 e4 b λh' T' nx=>?_;have nx2:=nx;rw[<-hst.1] at nx2;have I2:=Zb I hex M fx fT nx2;have no:∀b:Addr,b∉X.ex:=λb z=>by rw[hex] at z;cases z
 exact⟨x,T',C,od,H,rfl,I2.os,I2.bare,by rw[<-hex];exact I2.base,I2.hok,M.hx,I.newH nx.new,M.x0,I.new0 (no T') nx.new,nx.fly e2 e3,q⟩
end
end L2
namespace L2
open PySem PySem.Spec PyProof.Rows PySem.W
theorem qg9{K:Frag}{h:Heap}{C:Addr}{bB:List Value}{nid:String}(Y:K.In h)(ok:excIn K C bB nid=true) :
  ∃bm N nm qn bs hd sn sub ab col dd k0 k1 k2 k3 k5 mN,h.get? C=some (excClassObj nm qn C N bs bm hd sn sub ab col dd k0 k1 k2 k3 k5 nid)/\h.Ns N mN/\mN "__init__" = none/\OwnTail h bB bm:=by
 unfold excIn at ok
 split at ok
 case h_2=>cases ok
 case h_1 d1 cdat slots hlk=>
  split at ok
  case h_2=>cases ok
  case h_1 C2 tl a0 a1 a2 a3 nn a5 hmro hsl=>
   simp only[Bool.and_eq_true,beq_iff_eq,Bool.not_eq_true'] at ok;obtain⟨⟨⟨⟨⟨e1,e2⟩,e3⟩,e4⟩,e5⟩,e6⟩:=ok;subst e1;subst e2;obtain⟨w1,w2,w3,w4,w5,w6,w7,w8,w9,w10,w11⟩:=cdat
   dsimp only at hmro e3 e5 e6;subst hmro;subst e3;obtain⟨sl⟩:=slots;obtain rfl:sl=[a0,a1,a2,a3,some (.builtin nn),a5]:=hsl;exact⟨tl,w4,w1,w5,w2,w6,w7,w8,w9,w10,d1,a0,a1,a2,a3,a5,_,Y _ _ hlk,.of_isNs (isNs_of_in Y e5),nsMap_none_of_in Y e5 e6,tail_of_in Y e4⟩
noncomputable def qcW(X:Cx)(E:XK):Prop:=∀(pins:PP) (σ:St) (H:Hp) (s:Shared),Inv X pins σ H s->∀(h':Heap) (x C:Addr) (vs:List Value),Heap.MadeExcOf s.heap h' x (.ref C) vs->E (.ref C) none H->X.xe (.ref x) { s with heap:=h' }
section
variable{X:Cx}{pins:PP}{σ:St}{H:Hp}{s:Shared}
theorem qeM{h h':Heap}{x C:Addr}{vs:List Value}(m:Heap.MadeExcOf h h' x (.ref C) vs):Fly h' x C none none:=by obtain⟨t,ht,_⟩:=m.there;exact⟨_,_,ht,rfl,rfl,rfl,rfl⟩
end
section
variable{P:Program}{w:World}{K:Frag}{mg:PR}{base:Heap}{N:List Str}{qual:Str}{scope:Scope}{f:Addr}{cd:Value}{A:Around}{outer:List Env}{s:Shared}{H:Hp}{E:XK}
theorem qcX{X:Cx}{pins:PP}{σ:St}{H1 H2:Hp}{s1:Shared}{x T:Addr}(I:Inv X pins σ H1 s1)(hex:X.ex=[])(hx:H2 x=none)(hT:H2 T=none)(nx:s1.heap.get? x=none)(nT:s1.heap.get? T=none):Mine X pins H2 x (some T):=by
 have no:∀b:Addr,b∉X.ex:=λb z=>by rw[hex] at z;cases z
 refine⟨hx,I.new0 (no x) nx,λT' z=>by cases z;exact⟨hT,I.new0 (no T) nT⟩,λp hp=>?_⟩;obtain⟨e,_⟩:=I.pin p hp;refine⟨λz=>?_,λz=>?_⟩
 ·rw[z,nx] at e;cases e
 ·cases z;rw[nT] at e;cases e
theorem qha{E2:XK}(hE:∀c d h,E2 c d h->E c d h):jG (CX1 P w) (qaL (CX1 P w) P w K mg base N qual scope f cd A outer s H E) E2:=λpins σ H1 s1 e s2 I h=>by obtain⟨x,T,C,od,H2,rfl,hos,hb,un,hok,hx,hT,nx,nT,fl,q⟩:=h;have I2:Inv (qaL (CX1 P w) P w K mg base N qual scope f cd A outer s H E) pins σ H2 s2:=I.call' (ch:=[]) hos un hok hb λb z=>absurd z (by simp);exact qaQ I2 ⟨rfl,rfl⟩ rfl (qcX I rfl hx hT nx nT) fl (hE _ _ _ q)
theorem Fun.okx{x:Str}{st:Stmt}{fd:FuncData}{ps:List Str}{k:Nat}{sp:Sp}(F:Fun K x qual st f fd)(S:FnScope N ps (qj st))(len:∀vs H Q E,sp vs H Q E->vs.length=ps.length)
  (body:∀(cdv:Value) (A:Around) (outer:List Env) (s:Shared) (H:Hp) (vs:List V) (Q:VK) (E:XK),Room k (A.deeper (envOfC qual (qj st) s.heap.objs.size f cdv))->sp vs H Q E->
   ∃t,PSs (qaL (CX1 P w) P w K mg base N qual (qj st) f cdv A outer s H E) (qt st) t/\t { nx:=λ_ H'=>Q .non H',rt:=Q } (Jv N vs) H):FnOk P w K mg base (CX1 P w) (k+1) f fd ps sp:=by
 obtain⟨oc,od,kV,doc,pm,an,cdv,ct,osl,rfl,lk,hcd⟩:=F.ex;exact qi6 lk hcd S len λA outer s H vs Q E hr hsp=>body cdv A outer s H vs Q E hr hsp
end
section
variable{X:Cx}{E:XK}{n:Str}{C:Addr}{bB:List Value}{B nid iid:String}{e0:Expr}{es:List Expr}{t:TA}{np cpos pos:Pos}
noncomputable def qji(C:Addr)(E:XK)(t:TA):TS:=λ_ σ H=>t σ H λvs H1=>vs.length<=sizeLine/\E (.ref C) none H1
theorem qeN(hx:qcW X E)(hc:X.calm=true)(hg:Gl X n)(hm:X.mg n=some (.ref C))(ok:excIn X.K C bB nid=true)(FB:ExcBaseFacts B nid iid bB)(ha:PA X (e0::es) t)
  (he:starEach (e0::es) X.env=(false,eval e0 X.env)::starEach es X.env:=by rfl) (hpl:(backTo cpos (starEach es X.env)).any (·.1)=false:=by rfl) (hdb:(n == ("__debug__" : Str))=false:=by decide) :
  PS X (.Raise (some (.Call (.Name n np) (e0::es) [] cpos)) none pos) (qji C E t):=by
 intro pins s σ H D I h;obtain⟨bm,N,nm,qn,bs,hd,sn,sub,ab,col,dd,k0,k1,k2,k3,k5,mN,hC,hN,hni,T⟩:=qg9 I.mod.kin ok
 refine wpAny_Raise_call_subT (C:=C) (nm:=nm) (q:=qn) (N:=N) (bs:=bs) (bm:=bm) (hdct:=hd) (sn:=sn) (sub:=sub) (ab:=ab) (col:=col) (dd:=dd) (k0:=k0) (k1:=k1) (k2:=k2) (k3:=k3) (k5:=k5)
  FB (mN:=mN) (T.hasType FB.hasBase) (I.ok.hd hc) ?_ hni (z7 I hg hm ⟨rfl,?_⟩ hdb)
 ·rw[he];show(false||(backTo cpos (starEach es X.env)).any (·.1))=false;rw[hpl];rfl
 have ha':=ha cpos pins s σ H _ I h;rw[he] at ha' ⊢;refine Calls.evalArgs_plain (thn ha' λus s1 z=>?_);obtain⟨vs,H1,I1,r,hl,q⟩:=z;exact⟨rfl,by rw[<-r.length];exact hl,I1.bk _ _ hC,hN.keeps I1.bk,T.keeps I1.bk,λh' x m=>hx pins σ H1 s1 I1 h' x C _ m q⟩
end
end L2
namespace L2
open PySem PySem.Spec PyProof.Rows PySem.W
noncomputable def qek(x C:Addr)(od:Option Addr):HO:=.ext λh=>∃o,h.get? x=some o/\o.cls=.ref C/\o.dict=od/\notCls o=true
section
variable{X:Cx}{pins:PP}{σ:St}{H:Hp}{s:Shared}{x C:Addr}{od oT:Option Addr}
theorem ql1(I:Inv X pins σ H s)(fl:Fly s.heap x C od oT)(hx:H x=none)(x0:X.s₀.heap.get? x=none)(pin:∀p∈X.pn++pins,p.1≠x):Inv X pins σ (upd H x (qek x C od)) s:=by
 obtain⟨oe,vs,ho,hc,hdi,hd,_⟩:=fl;have nn:∀{b:Addr},b≠x->upd H x (qek x C od) b=H b:=λh=>qe h;have ntr:∀{b:Addr} {u:HO},H b=some u->b≠x:=λ{b u} e z=>by rw[z,hx] at e;cases e
 refine⟨I.ok,I.os,I.bare,⟨I.base.keep,I.base.slot,λb o e n hx=>?_,I.base.there,λb xs e=>?_,λb o u e=>?_,λb ps e=>?_⟩,I.loc,I.cell,?_,λy c e=>?_,λp hp=>?_,λa o e=>?_,I.len⟩
 ·rw[nn (λz=>by rw[z,x0] at e;cases e)];exact I.base.free b o e n hx
 ·have:=I.base.tups b xs e
  rw[nn (ntr this)];exact this
 ·have:=I.base.frzs b o u e
  rw[nn (ntr this)];exact this
 ·obtain⟨more,this⟩:=I.base.tbls b ps e;rw[nn (ntr this)];exact⟨more,this⟩
 ·have:X.env.locals≠x:=λz=>by
   obtain⟨m,⟨o,es,ep,e1,e2,_⟩,_⟩:=I.loc;rw[z,ho] at e1;cases e1;rw[hd] at e2;cases e2
  rw[nn this];exact I.free
 ·have:c≠x:=λz=>by
   obtain⟨v,o,e1,e2⟩:=I.cell y c e;rw[z,ho] at e1;cases e1;rw[hd] at e2;cases e2
  rw[nn this];exact I.freeC y c e
 ·obtain⟨e,n,r⟩:=I.pin p hp;refine⟨e,?_,r⟩;rw[nn (pin p hp)];exact n
 ·have st:∀{c:Addr} {v:HO},qP X.prog X.w H s.heap c v->qP X.prog X.w (upd H x (qek x C od)) s.heap c v:=λz=>
   z.stay (λ_ _ _ q=>q) (λb q=>by rw[nn (ntr q)];exact q) (λb xs q=>by rw[nn (ntr q)];exact q)
  by_cases hb:a=x
  ·subst hb;rw[qg] at e;cases e;refine⟨⟨oe,ho,hc,hdi,?_⟩,⟨oe,ho⟩,λh1 h2 ⟨o,e1,e2⟩ k=>⟨o,k o e1,e2⟩⟩;unfold notCls;rw[hd]
  ·rw[nn hb] at e;exact st (I.hok a o e)
end
abbrev Cx.mark(X:Cx)(e:Value):Cx:={ X with A:=X.A.mark (some e),calm:=false,xe:=λ_ _=>False }
section
variable{X:Cx}{pins:PP}{σ:St}{H:Hp}{s:Shared}{e:Value}
theorem Inv.mark(I:Inv X pins σ H s):Inv (X.mark e) pins σ H s:=
 ⟨⟨I.ok.mod,I.ok.kind,I.ok.glob,I.ok.blt,I.ok.above,I.ok.inj,I.ok.has,I.ok.cab,(λz=>by cases z),I.ok.frames,I.ok.stk,I.ok.exf,I.ok.bs,I.ok.bsz,I.ok.noex,I.ok.exfs,I.ok.funs,I.ok.frf⟩,I.os,I.bare,I.base,I.loc,I.cell,I.free,I.freeC,I.pin,I.hok,I.len⟩
theorem Inv.unmark(ok:X.Ok)(I:Inv (X.mark e) pins σ H s):Inv X pins σ H s:=⟨ok,I.os,I.bare,I.base,I.loc,I.cell,I.free,I.freeC,I.pin,I.hok,I.len⟩
theorem yJ{M:Model}{A:Around}{E:PQ}{i:Nat}{n:Str}{pos:Pos}{Q:Unit->Shared->Prop}(I:Inv X pins σ H s)(hN:X.N.Nodup)(hi:X.N[i]?=some n)(hl:X.env.scope.names.lookup n=some .local)
  (h:∀s',Inv X pins (σ.set i none) H s'->Q () s'):wpAny M A (do bindName X.env n .none;unbindBehindTheSuite X.env n pos) Q E s:=by
 refine wpAny_bind (wpAny_bindName (yE (v:=.non) I hN hi (.inl hl) rfl (λs1 I1 _=>?_) (.inr hl)));unfold unbindBehindTheSuite;refine wpAny_onRaise ?_;obtain⟨m,hn,hlk⟩:=id I1.loc;have hiσ:i < σ.length:=by rw[I.len];exact(List.getElem?_eq_some_iff.mp hi).1
 obtain⟨u,ru,hlook⟩:=hlk i n .non hi (by rw[List.getElem?_set_self hiσ]) (.inl hl);have hkl:X.env.kindOf n=some .local:=hl
 have hv:m n=some u:=by
  rcases hlook with ⟨_,z⟩ | ⟨z,_⟩
  ·exact z
  ·rcases z with z | z<;>(rw[hkl] at z;cases z)
 have hcls:(X.env.scope.kind == .class||(X.env.scope.kind == .module&&X.env.locals != X.env.globals))=false:=by rw[I.ok.kind];rfl
 refine wpAny_unbindName_local hkl hn hv hcls λh' u' hn' hs'=>?_;refine h _ ?_;have kp:∀{b:Addr} {o:Obj},b≠X.env.locals->s1.heap.get? b=some o->h'.get? b=some o:=λ{b o} hb e=>(hs'.2 b hb).trans e;have s0l:∀{b:Addr} {o:Obj},X.s₀.heap.get? b=some o->b≠X.env.locals:=λ{b o} e=>Nat.ne_of_lt (Nat.lt_of_lt_of_le (Heap.lt_size e) I.ok.above);have cK:∀{c:Addr} {v:Option Value} {y:Str},X.env.cells.lookup y=some c->s1.heap.IsCell c v->h'.IsCell c v:=λ{c v y} ey ⟨o,ho,hd⟩=>⟨o,kp (I1.cne y c ey) ho,hd⟩;refine⟨I1.ok,I1.os,I1.bare,⟨λb o e n hb hx=>kp (s0l e) (I1.base.keep b o e n hb hx),λb o e n hb hx=>?_,I1.base.free,λb o e hx=>?_,I1.base.tups,I1.base.frzs,I1.base.tbls⟩,⟨_,hn',λj y v e1 e2 e3=>?_⟩,λy c e=>?_,I1.free,I1.freeC,λp hp=>?_,λa o e=>?_,?_⟩
 ·obtain⟨sl,e1⟩:=I1.base.slot b o e n hb hx;exact⟨sl,kp (s0l e) e1⟩
 ·obtain⟨o1,e1⟩:=I1.base.there b o e hx;exact⟨o1,kp (s0l e) e1⟩
 ·have hij:i≠j:=λz=>by
   subst z;rw[List.getElem?_set_self hiσ] at e2;cases e2
  have hyn:y≠n:=λz=>hij (Y7 hN hi (z▸e1));obtain⟨u2,r2,l2⟩:=hlk j y v e1 (by rw[List.getElem?_set_ne hij] at e2 ⊢;exact e2) e3;refine⟨u2,r2,?_⟩;rcases l2 with ⟨k,z⟩ | ⟨k,c,e,z⟩
  ·exact .inl ⟨k,by show(if y=n then u' else m y)=_;rw[if_neg hyn];exact z⟩
  ·exact .inr ⟨k,c,e,cK e z⟩
 ·obtain⟨v,z⟩:=I1.cell y c e;exact⟨v,cK e z⟩
 ·obtain⟨e,n,ne,r⟩:=I1.pin p hp;exact⟨kp ne e,n,ne,r⟩
 ·have tl:∀{b:Addr} {u:HO},H b=some u->b≠X.env.locals:=λ{b u} e z=>by rw[z,I1.free] at e;cases e
  refine(I1.hok a o e).stay (λb u hb q=>kp ?_ q) (λ_ q=>q) λ_ _ q=>q;rcases hb with z | z
  ·rw[z];exact tl e
  ·exact tl z
 ·rw[List.length_set];exact I.len
end
end L2
namespace L2
open PySem PySem.Spec PyProof.Rows PySem.W
section
variable{X:Cx}{pins:PP}{σ:St}{H:Hp}{s:Shared}
theorem PA.nox{es:List Expr}{t:TA}(h:PA X.nox es t):PA X es t:=λpos pins s σ H Q I hw=>wpAny_mono (h pos pins s σ H Q (I.wish _) hw) (λ_ _ ⟨v,H',I',r,q⟩=>⟨v,H',I'.unwish,r,q⟩) λ_ _ z=>False.elim z
structure Held(X:Cx)(pins:PP)(σ:St)(H:Hp)(s:Shared)(x T C:Addr)(od:Option Addr)(h:Heap):Prop where
 inv:Inv X pins σ H s
 mine:Mine X pins H x (some T)
 fld:(∃o vs,s.heap.get? x=some o/\o.data=.fields vs)/\∀T',some T=some T'->∃o vs,s.heap.get? T'=some o/\o.data=.fields vs
 nx:∃oe vs T',NX (frs X.stack) x (some T) oe vs T' .none s.heap h/\oe.cls=.ref C/\oe.dict=od
variable{x T C:Addr}{od:Option Addr}{h:Heap}
theorem Held.now(Hd:Held X pins σ H s x T C od h)(hex:X.ex=[]):Inv X pins σ H { s with heap:=h }:=by obtain⟨oe,vs,T',nx,_⟩:=Hd.nx;exact Zb Hd.inv hex Hd.mine Hd.fld.1 Hd.fld.2 nx
theorem Held.fly(Hd:Held X pins σ H s x T C od h):∃T',Fly h x C od (some T'):=by obtain⟨oe,vs,T',nx,e1,e2⟩:=Hd.nx;exact⟨T',nx.fly e1 e2⟩
theorem Held.ty{M:Model}(Hd:Held X pins σ H s x T C od h):Looks M h (typeOf (.ref x)) (.ref C):=by obtain⟨T',o,_,ho,hc,_⟩:=Hd.fly;rw[<-hc];exact(Looks.ld ho).andThen .now
noncomputable def qjj(i:Nat)(D:Ends):Ends:={ nx:=λσ' H'=>D.nx (σ'.set i none) H',rt:=D.rt,bk:=λσ' H'=>D.bk (σ'.set i none) H',ct:=λσ' H'=>D.ct (σ'.set i none) H' }
variable{c n:Str}{Dc:Addr}{cp hpos:Pos}{b0:Stmt}{suite:List Stmt}{rest:List ExceptHandler}{i:Nat}{D:Ends}{E:PQ}
theorem qbN{th:TS}(Hd:Held X pins σ H s x T C od h)(hex:X.ex=[])(hg:Gl X c)(hm:X.mg c=some (.ref Dc))(hq:exmOne X.K (.ref C) (.ref Dc)=some true)
  (hN:X.N.Nodup) (hi:X.N[i]?=some n) (hl:X.env.scope.names.lookup n=some .local) (hsu:PSs (X.mark (.ref x)) (b0::suite) th) (q:th (qjj i D) (σ.set i (some (.ref x))) (upd H x (qek x C od)))
  (hdb:(c == ("__debug__" : Str))=false) :
  wpAny (model X.prog X.w) X.A (handleBy (.ref x) X.env (.ExceptHandler (some (.Name c cp)) (some n) (b0::suite) hpos::rest)) (SP X pins D) E { s with heap:=h }:=by
 have I:=Hd.now hex;refine wpAny_handleBy_cons (codeAny_handlers_test ?_) (by intro z;cases z);refine z7 (X:=X.mark (.ref x)) I.mark hg hm ?_ hdb;refine Looks.here (exm_one I.kIn Hd.ty hq) ?_;refine codeAny_handlers_suite_as ?_;obtain⟨oe,vs,T',nx,e1,e2⟩:=Hd.nx;refine Qb (s:={ s with heap:=h }) nx λh3 nx3=>?_;have Hd3:Held X pins σ H s x T C od h3:=⟨Hd.inv,Hd.mine,Hd.fld,oe,vs,T',nx3,e1,e2⟩;have I3:=Hd3.now hex;have I4:Inv X pins σ (upd H x (qek x C od)) { s with heap:=h3 }:=ql1 I3 (nx3.fly e1 e2) Hd.mine.hx Hd.mine.x0 λp hp=>(Hd.mine.pin p hp).1;refine yE (X:=X.mark (.ref x)) (v:=.ref x) I4.mark hN hi (.inl hl) rfl (λs5 I5 _=>?_) (.inr hl);refine wpAny_mono (hsu pins s5 _ _ (qjj i D) I5 q) (λf s6 z=>?_) (λ_ _ z=>False.elim z);have ok:=I.ok
 cases f with
 |next=>obtain⟨σ6,H6,I6,z⟩:=z;exact yJ (I6.unmark ok) hN hi hl λs7 I7=>⟨_,H6,I7,z⟩
 |brk=>obtain⟨σ6,H6,I6,z⟩:=z;exact yJ (I6.unmark ok) hN hi hl λs7 I7=>⟨_,H6,I7,z⟩
 |cont=>obtain⟨σ6,H6,I6,z⟩:=z;exact yJ (I6.unmark ok) hN hi hl λs7 I7=>⟨_,H6,I7,z⟩
 |ret u=>obtain⟨v,σ6,H6,I6,r,z⟩:=z;exact yJ (I6.unmark ok) hN hi hl λs7 I7=>⟨v,_,H6,I7,r,z⟩
theorem Z9{nm:Option Str}{body:List Stmt}(Hd:Held X pins σ H s x T C od h)(hex:X.ex=[])(hg:Gl X c)(hm:X.mg c=some (.ref Dc))(hq:exmOne X.K (.ref C) (.ref Dc)=some false)
  (k:wpAny (model X.prog X.w) X.A (handleBy (.ref x) X.env rest) (SP X pins D) E { s with heap:=h }) (hdb:(c == ("__debug__" : Str))=false) :
  wpAny (model X.prog X.w) X.A (handleBy (.ref x) X.env (.ExceptHandler (some (.Name c cp)) nm body hpos::rest)) (SP X pins D) E { s with heap:=h }:=by
 have I:=Hd.now hex;refine wpAny_handleBy_cons (codeAny_handlers_test ?_) (by intro z;cases z);refine z7 (X:=X.mark (.ref x)) I.mark hg hm ?_ hdb;exact Looks.here (exm_one I.kIn Hd.ty hq) k
theorem qnX{H1:Hp}{s1 s':Shared}{EX:XK}{e:Value}{hs:List ExceptHandler}(hst:X.stack=X.env::X.outer/\X.env.frame=some X.env.locals)(hex:X.ex=[])(I:Inv X pins σ H1 s1)(cx:CX1 X.prog X.w X.stack H1 s1 EX e s')
  (k:∀(x T C:Addr) (od:Option Addr) (H2:Hp) (h:Heap),EX (.ref C) od H2->Held X pins σ H2 s' x T C od h->wpAny (model X.prog X.w) X.A (handleBy (.ref x) X.env hs) (SP X pins D) E { s' with heap:=h }) :
  wpAny (model X.prog X.w) X.A (noteFrame e X.env) (λ_ s2=>wpAny (model X.prog X.w) X.A (setFlight e none) (λ_ s3=>wpAny (model X.prog X.w) X.A (handleBy e X.env hs) (SP X pins D) E s3) E s2) E s':=by
 obtain⟨x,T,C,od,H2,rfl,hos,hb,un,hok,hx,hT,nx,nT,fl,q⟩:=cx;have I2:Inv X pins σ H2 s':=I.call' (ch:=[]) hos un hok hb λb z=>absurd z (by simp);have M:Mine X pins H2 x (some T):=qcX I hex hx hT nx nT;have hfr:X.A.frames=some (X.env::X.outer):=by rw[<-hst.1];exact I.ok.frames
 have hl:=I2.stack;rw[hst.1] at hl;have ff:=fl.fields;obtain⟨oe,vs,e1,e2,e3,e4,b⟩:=fl;refine qf2 hfr hl hst.2 e1 e4 b λh1 T' n1=>Qb (s:={ s' with heap:=h1 }) n1 λh2 n2=>?_;exact k x T C od H2 h2 q ⟨I2,M,ff,oe,vs,T',by rw[hst.1];exact n2,e2,e3⟩
end
end L2
namespace L2
open PySem PySem.Spec PyProof.Rows PySem.W
section
variable{prog:Program}{w:World}{A:Around}{E:PQ}{s:Shared}{K:Frag}{x C:Addr}{ox:Obj}
theorem qcY{name:Str}{a g:Value}{od:Option Obj}(hc:(clsIn K C).isSome=true)(ha:findIn K (.ref C) name=some (some a))(hg:specialIn K a "__get__" = some (some g))(ht:takesIn K a=some true):findObj K C od name=some (.bind g a):=by obtain⟨cd,e⟩:=Option.isSome_iff_exists.mp hc;simp[findObj,e,ha,hg,ht]
structure ExcIs(K:Frag)(C:Addr):Prop where
 cls:(clsIn K C).isSome=true
 ga:findIn K (.ref C) "__getattribute__" = some (some (.builtin "BaseException.__getattribute__"))
 gh:findIn K (.ref C) "__getattr__" = some none
 at_:findIn K (.ref C) "__class__" = some (some (.builtin "object.__class__"))
 get:specialIn K (.builtin "object.__class__") "__get__" = some (some (.builtin "getset_descriptor.__get__"))
 tk:takesIn K (.builtin "object.__class__")=some true
 obj:mroIn K C (.type "object")=some true
 base:mroIn K C (.type "BaseException")=some true
theorem qcZ{Q:Option Value->Shared->Prop}(Y:K.In s.heap){od:Option Obj}(I:W.InstAt s.heap x ox C od)(hC:ExcIs K C)
  (h:Q (some (.ref C)) { s with toks:=s.toks+1 }):wpAny (model prog w) A (getAttr? (.ref x) "__class__") Q E s:=by
 obtain⟨hh,g,d,t,os⟩:=s;have L0:=I.type (M:=model prog w);have L1:=looks_findIn (M:=model prog w) Y hC.ga;have L2:=looks_findIn (M:=model prog w) Y hC.gh;have L3:=looks_find (M:=model prog w) Y I (qcY hC.cls hC.at_ hC.get hC.tk);have L4:=looks_mroIn (M:=model prog w) Y hC.base;have hbind:∀self,bindSpecial (.builtin "BaseException.__getattribute__") self=pure (.builtin "BaseException.__getattribute__",[self]):=λself=>by rfl
 unfold getAttr? getAttrBy? getAttrBy;refine wpAny_bind (wpAny_mkText (wpAny_bind (wpAny_attempt (wpAny_holding (wpAny_bind (L0.at (wpAny_bind (L1.at ?_))))))));show wpAny _ _ (getAttrByItsOwn _ _ _ _ _ _) _ _ _;unfold getAttrByItsOwn;refine wpAny_bind ?_;show wpAny _ _ (typeLookup (.ref C) "__getattr__") _ _ _;refine L2.at (wpAny_bind (wpAny_attempt (wpAny_holding ?_)));show wpAny _ _ (boundAndCalled _ _ _) _ _ _;unfold boundAndCalled;refine wpAny_bind ?_;rw[hbind];refine wpAny_pure ?_;refine wpAny_call (codeAny_call_builtin (by decide+kernel) F.entry_bexc_ga ?_);have hk:builtinKind "BaseException.__getattribute__" = some .slot:=by decide+kernel
 have hsp:splitId "BaseException.__getattribute__" = some ("BaseException","__getattribute__"):=by decide+kernel
 have LI:Looks (model prog w) hh (isInstance (.ref x) (.type "BaseException")) true:=L0.andThen L4;have hargs:=F.args_bexc_ga (.ref x) (.str "__class__" t);simp only[checkBuiltinCall,hk,hsp];refine wpAny_bind ?_;refine LI.at ?_;rw[if_neg (2:)];refine wpAny_of_eq hargs ?_;unfold Builtin.«object.__getattribute__»;refine wpAny_bind (wpAny_pure ?_);refine wpAny_bind (wpAny_pure ?_);refine wpAny_bind (L0.at (wpAny_bind (L3.at ?_)));show wpAny _ _ (holding [Value.builtin "object.__class__"] (call (.builtin "getset_descriptor.__get__") [.builtin "object.__class__",.ref x,.ref C]) >>= ret) _ _ _;refine wpAny_bind (wpAny_holding (wpAny_call (class_get (s:=⟨hh,g,d,t+1,os⟩) (ox:=ox) (od:=od) Y I hC.obj ?_)));exact wpAny_pure (handed_on rfl (wpAny_pure h))
theorem qc0(hC:ExcIs K C):KitX K (.ref x) (.ref C) (λh=>∃ox od,W.InstAt h x ox C od) where
 ty:=λ_ _ _ ⟨_,_,I⟩=>I.type
 it:=λM h Y _=>by
  obtain⟨cd,e⟩:=Option.isSome_iff_exists.mp hC.cls;unfold clsIn at e
  split at e
  ·rename_i ho;intro A' Q' E' s' k q;unfold isType loadHead;refine wpAny_bind (wpAny_loadPart (k _ _ (Y _ _ ho)) ?_);exact wpAny_pure q
  ·cases e
 ne:=λh tp dd its n sl Y htp=>by
  obtain⟨cd,e⟩:=Option.isSome_iff_exists.mp hC.cls;refine Bool.eq_false_iff.mpr λq=>?_;have z:C=tp:=Value.ref.inj (beq_iff_eq.mp q);subst z;unfold clsIn at e
  split at e
  ·rename_i ho;have z:=(Y _ _ ho).symm.trans htp;cases z
  ·cases e
 ca:=λY ⟨_,_,I⟩ k=>qcZ Y I hC k
end
section
variable{X:Cx}
noncomputable def qeO(H:Hp)(x C:Addr)(od:Option Addr):Prop:=H x=some (qek x C od)/\∀dd,od=some dd->∃u,H dd=some u
theorem qeO.inst{pins:PP}{σ:St}{H:Hp}{s:Shared}{x C:Addr}{od:Option Addr}(I:Inv X pins σ H s)(h:qeO H x C od):∃ox oo,W.InstAt s.heap x ox C oo:=by
 obtain⟨o,e1,e2,e3,e4⟩:=(I.hok x _ h.1).1
 cases od with
 |none=>exact⟨o,none,e1,e2,e4,by rw[e3];trivial⟩
 |some dd=>obtain⟨u,hu⟩:=h.2 dd rfl;obtain⟨ob,hob⟩:=qaP (I.hok dd u hu);exact⟨o,some ob,e1,e2,e4,by rw[e3];exact hob⟩
theorem qc1:q9 X (.builtin "isinstance") (λvs H Q=>∃x C od c cv b,vs=[.ref x,c]/\qeO H x C od/\ExcIs X.K C/\qH c cv/\(∀u,qH c u->u=cv)/\kitOne X.K (.ref C) cv=some b/\Q (.bl b) H):=by intro pins s σ H xs us Q I r h;obtain⟨x,C,od,c,cv,b,rfl,hx,hC,rc,uq,e,q⟩:=h;obtain⟨u,v,rfl,ru,rv⟩:=QT r;cases ru;obtain rfl:v=cv:=uq v rv;exact kia_one (qc0 hC) I.kIn (hx.inst I) e (λz=>nomatch z) λtk=>⟨.bl b,H,I.tok tk,rfl,q⟩
end
end L2
namespace L2
open PySem PySem.Spec PyProof.Rows PySem.W
noncomputable def Its(x:Str):It:=⟨λi _=>i < x.cps.size,λi H v H'=>H'=H/\∃c,x.cps[i]?=some c/\v=.str ⟨#[c]⟩,λi _=>i=x.cps.size⟩
theorem qeP{P:Program}{w:World}{K:Frag}{tg:Expr}{x:Str}{t:Tok}{it:Addr}{T:String}(hT:T = "str_ascii_iterator"\/T = "str_iterator")(W:∀A':Around,A'.handled=none->Walks P w A' it [it] [it] x.cps.size (SignAt x) (λi h=>h.IsStrIter it T x t i)) :
  Turn P w K tg (Its x) [it] it (λi h=>h.IsStrIter it T x t i) where
 mem:=by simp
 obj:=λi h st b hb=>by
  have e:b=it:=by simpa using hb
  subst e;obtain⟨o,e,c,d⟩:=st;exact⟨o,e,λv z=>by rw[d] at z;cases z⟩
 keep:=λi h h' st k=>let ⟨o,e,r⟩:=st;⟨o,k it (by simp) o e,r⟩
 item:=by intro X hP hw hK hc i pins s σ H E I hf st hg;subst hP hw hK;obtain⟨f0,f1,f2,f3,f4,f5⟩:=hf it (by simp);refine(W X.A (I.ok.hd hc)).item i s _ _ hg st λv h' tk hv st' kk=>?_;obtain⟨c,u,hcx,rfl⟩:=hv;have I1:Inv X pins σ H { s with heap:=h',toks:=tk }:=I.turned (λb o hb e=>kk b o (by simpa using hb) e) f0 f1 f3 f4 f5;obtain⟨o,e1,e2,e3⟩:=id st';refine⟨_,rfl,qcu (s:={ s with heap:=h',toks:=tk }) e1 e2 e3 (by rcases hT with z | z<;>(rw[z];decide)) ⟨.str ⟨#[c]⟩,H,I1,⟨u,rfl⟩,⟨rfl,c,hcx,rfl⟩,st',λb hb=>(hf b hb).1⟩⟩
 done:=by intro X hP hw hK hc i pins s σ H E I hf st hg;subst hP hw hK;obtain rfl:i=x.cps.size:=hg;obtain⟨f0,f1,f2,f3,f4,f5⟩:=hf it (by simp);exact(W X.A (I.ok.hd hc)).done s _ _ st λh' tk kk=>⟨rfl,I.turned (λb o hb e=>kk b o (by simpa using hb) e) f0 f1 f3 f4 f5⟩
 self:=λA i s Q E st h=>by
  rcases hT with z | z
  ·subst z;exact wpAny_pyIter_striter_ascii st h
  ·subst z;exact wpAny_pyIter_striter_wide st h
end L2
namespace L2
open PySem PySem.Spec PyProof.Rows PySem.W
structure ClsFn(K:Frag)(C:Addr)(m:Str)(f:Addr):Prop where
 reads:readsIn K C (.type "type")=true
 sp:specialIn K (.ref C) "__getattribute__" = some (some (.builtin "type.__getattribute__"))
 at_:findCls K (.ref C) (.type "type") m=some (.val (.ref f))
 kp:keepIn K (.ref f)=true
section
variable{X:Cx}{CX:CXT}{k:Nat}{f C:Addr}{fd:FuncData}{ps:List Str}{sp:Sp}{dvs:List V}{ds:List Value}{E:XK}{x m:Str}{p pos apos:Pos}{e:Expr}{es:List Expr}{t:TA}
theorem Qc{pl:Sem Bool}(hC:ClsFn X.K C m f)(F:FnOk X.prog X.w X.K X.mg X.base CX k f fd ps sp)(hr:Room k X.A)(hg:Gl X x)(hm:X.mg x=some (.ref C))(hb:qK X.K fd ps ds)(hd:qx dvs ds)(hx:jG CX X E)(ha:PA X (e::es) t)
  (hdb:(x == ("__debug__" : Str))=false:=by decide) (hst:starEach (e::es) X.env=(false,eval e X.env)::starEach es X.env:=by rfl) (hpl:(backTo pos (starEach es X.env)).any (·.1)=false:=by rfl)
  (ht:eval (.Call (.Attribute (.Name x p) m apos) (e::es) [] pos) X.env=(do
   let ov<-eval (.Name x p) X.env
   standAt apos.atName
   let (f,first)<-holding [ov] (getMethod ov m pl)
   callWith pos f first (backTo pos (starEach (e::es) X.env)) (backToKw pos (keywordEach [] X.env))):=by rfl) :
  PE X (.Call (.Attribute (.Name x p) m apos) (e::es) [] pos) (qcE sp dvs E t):=by
 intro pins s σ H Q I h;refine PySem.W.methodCall_KW (pl:=pl) (z7 I hg hm ?_ hdb) ht;refine method_cls I.kIn hC.sp (cls_value I.kIn hC.reads hC.at_ rfl ?_);have I1:=I.tok (s.toks+1);refine PySem.W.callWith_K (first:=[]) (h₀:=X.base) I.ok.mod.kin hC.kp (thn (ha pos pins _ σ H _ I1 h) λus s2 z=>?_) hst hpl;obtain⟨vs,H2,I2,r,q⟩:=z;exact⟨I2.kIn,QX F hr hb hd hx I2 r q⟩
end
end L2
namespace L2
open PySem PySem.Spec PyProof.Rows PySem.W
noncomputable def Itz(K:Frag)(a b:Addr):It:=
 ⟨λi H=>∃xs ys x y,SqL K H a xs/\SqL K H b ys/\xs[i]?=some x/\ys[i]?=some y,
  λi H v H'=>∃T x y,v=.ref T/\H T=none/\H'=upd H T (.tup [x,y])/\∀xs ys,SqL K H a xs->SqL K H b ys->xs[i]?=some x/\ys[i]?=some y,
  λi H=>∃xs ys,SqL K H a xs/\SqL K H b ys/\(xs.length<=i\/ys.length<=i)⟩
noncomputable def ZSt(z TI TO i1 i2 a b:Addr)(i:Nat)(h:Heap):Prop:=IsZip h z TI TO .none/\IsPair h TI (.ref i1) (.ref i2)/\(∃u v,IsPair h TO u v)/\h.IsListIter i1 a i/\h.IsListIter i2 b i
theorem Inv.turnedAll{X:Cx}{pins:PP}{σ:St}{H:Hp}{s:Shared}{h':Heap}{t':Nat}{ch:List Addr}(I:Inv X pins σ H s)(k:∀b o,b∉ch->s.heap.get? b=some o->h'.get? b=some o)(hf:∀b∈ch,qbD X pins H b):Inv X pins σ H { s with heap:=h',toks:=t' }:=by
 have nch:∀{b:Addr} {u:HO},H b=some u->b∉ch:=λ{b u} e z=>by rw[(hf b z).1] at e;cases e
 refine I.step (g':=s.gens) (d':=s.drawn) (ch:=ch) (λb hb=>?_) (λb o _ _ hc e _=>k b o hc e) (λb o _ _ hc e _=>⟨o.slots,k b o hc e⟩) (λ_ _ _ _ n=>n) (λb o hc e=>⟨o,k b o hc e⟩) (λ_ _ e=>e) (λ_ _ _ e=>e) (λb ps e=>⟨#[],by rw[e];simp⟩) (λm hm=>?_) (λb u e=>?_) I.bare
 ·obtain⟨f0,f1,f2,f3,f4,f5⟩:=hf b hb;exact⟨f3,f1,f4,f5⟩
 ·obtain⟨o,es,ep,ho,r⟩:=hm;exact⟨o,es,ep,k _ o (λz=>(hf _ z).2.1 rfl) ho,r⟩
 ·refine(I.hok b u e).stay (λc v hc q=>k c v ?_ q) (λ_ q=>q) λ_ _ q=>q;rcases hc with z | z
  ·rw[z];exact nch e
  ·exact nch z
theorem Inv.turnedNew{X:Cx}{pins:PP}{σ:St}{H:Hp}{s:Shared}{h':Heap}{t':Nat}{ch:List Addr}{T:Addr}{ob:HO}(I:Inv X pins σ H s)(k:∀b o,b∉ch->s.heap.get? b=some o->h'.get? b=some o)(hf:∀b∈ch,qbD X pins H b)
  (hT:s.heap.get? T=none) (new:qP X.prog X.w (upd H T ob) h' T ob):Inv X pins σ (upd H T ob) { s with heap:=h',toks:=t' }:=by
 have hH:H T=none:=I.newH hT;have nch:∀{b:Addr} {u:HO},H b=some u->b∉ch:=λ{b u} e z=>by rw[(hf b z).1] at e;cases e
 have nT:∀{b:Addr} {u:HO},H b=some u->b≠T:=λ{b u} e z=>by rw[z,hH] at e;cases e
 have up:∀{b:Addr} {u:HO},H b=some u->upd H T ob b=some u:=λ{b u} e=>by rw[qe (nT e)];exact e
 refine I.step (g':=s.gens) (d':=s.drawn) (ch:=ch) (λb hb=>?_) (λb o _ _ hc e _=>k b o hc e) (λb o _ _ hc e _=>⟨o.slots,k b o hc e⟩) (λb o _ e n=>?_) (λb o hc e=>⟨o,k b o hc e⟩) (λ_ _ e=>up e) (λ_ _ _ e=>up e) (λb ps e=>⟨#[],by rw[up e];simp⟩) (λm hm=>?_) (λb u e=>?_) I.bare
 ·obtain⟨f0,f1,f2,f3,f4,f5⟩:=hf b hb;exact⟨f3,f1,f4,f5⟩
 ·rw[qe (λz=>by rw[z,hT] at e;cases e)];exact n
 ·obtain⟨o,es,ep,ho,r⟩:=hm;exact⟨o,es,ep,k _ o (λz=>(hf _ z).2.1 rfl) ho,r⟩
 ·by_cases hb:b=T
  ·subst hb;rw[qg] at e;cases e;exact new
  ·rw[qe hb] at e;refine(I.hok b u e).stay (λc v hc q=>k c v ?_ q) (λ_ q=>up q) λ_ _ q=>up q;rcases hc with z | z
   ·rw[z];exact nch e
   ·exact nch z
theorem qeQ{P:Program}{w:World}{K:Frag}{elts:List Expr}{kk:Nat}{pos:Pos}{z TI TO i1 i2 a b:Addr}(D:ZipApart z TI TO i1 i2 a b) :
  Turn P w K (.Tuple elts kk pos) (Itz K a b) [z,TI,TO,i1,i2] z (ZSt z TI TO i1 i2 a b) where
 mem:=by simp
 obj:=λi h st c hc=>by
  obtain⟨s1,s2,⟨u,v,s3⟩,⟨o4,s4,_,d4⟩,⟨o5,s5,_,d5⟩⟩:=st;simp at hc;rcases hc with rfl | rfl | rfl | rfl | rfl
  ·exact⟨_,s1,λv q=>by cases q⟩
  ·exact⟨_,s2,λv q=>by cases q⟩
  ·exact⟨_,s3,λv q=>by cases q⟩
  ·exact⟨_,s4,λv q=>by rw[d4] at q;cases q⟩
  ·exact⟨_,s5,λv q=>by rw[d5] at q;cases q⟩
 keep:=λi h h' st k=>by obtain⟨s1,s2,⟨u,v,s3⟩,s4,s5⟩:=st;exact⟨k z (by simp) _ s1,k TI (by simp) _ s2,⟨u,v,k TO (by simp) _ s3⟩,s4.at λo e=>k i1 (by simp) o e,s5.at λo e=>k i2 (by simp) o e⟩
 item:=by
  intro X hP hw hK hc i pins s σ H E I hf st hg;subst hP hw hK;obtain⟨xs,ys,x,y,qa,qb,hx,hy⟩:=hg;obtain⟨s1,s2,⟨u,v,s3⟩,s4,s5⟩:=st;obtain⟨ia,ra,pa,za⟩:=I.list qa;obtain⟨ib,rb,pb,zb⟩:=I.list qb;obtain⟨ux,ex,rx⟩:=ra.get hx;obtain⟨uy,ey,ry⟩:=rb.get hy;refine wpAny_pyNext_zip_item D s1 s2 s3 s4 s5 pa.isList pb.isList (x:=ux) (y:=uy) (by simpa using ex) (by simpa using ey) λh' a1 a2 a3 a4 a5 a6 kp=>?_;refine⟨_,rfl,wpAny_letOwnedTupleGo_zip (s:={ s with heap:=h' }) a1 λh2 b1 b2=>?_⟩;have two:(2:Nat)<=sizeLine:=Nat.le_of_lt (Q7 (2:))
  have kp2:∀c o,c∉[z,TI,TO,i1,i2]->s.heap.get? c=some o->h2.get? c=some o:=λc o hc e=>by simp at hc;exact b2.extBut c o hc.1 (kp c o hc.1 hc.2.2.1 hc.2.2.2.1 hc.2.2.2.2 e)
  have I1:Inv X pins σ H { s with heap:=h2 }:=I.turnedAll (t':=s.toks) kp2 hf
  have hnew:s.heap.get? s.heap.objs.size=none:=by
   cases q:s.heap.get? s.heap.objs.size with
   |none=>rfl
   |some o=>exact absurd (Heap.lt_size q) (Nat.lt_irrefl _)
  have hH:H s.heap.objs.size=none:=I.hok.fresh (Nat.le_refl _);have hTz:s.heap.objs.size≠z:=Nat.ne_of_gt (Heap.lt_size s1);have hT2:IsPair h2 s.heap.objs.size ux uy:=b2.extBut _ _ hTz a5;have hf2:=hf;have I2:Inv X pins σ (upd H s.heap.objs.size (.tup [x,y])) { s with heap:=h2 }:=I.turnedNew (t':=s.toks) kp2 hf hnew ⟨two,[ux,uy],.cons rx %[ry|0],_,hT2,rfl,0,rfl⟩;refine⟨.ref s.heap.objs.size,_,I2,rfl,⟨_,x,y,rfl,hH,rfl,λxs' ys' h1 h2=>?_⟩,?_,λc hc=>?_⟩
  ·rw[I.list_inj h1 qa,I.list_inj h2 qb];exact⟨hx,hy⟩
  ·exact⟨b1,b2.extBut _ _ D.TIz (kp TI _ D.TIz D.TITO D.TIi1 D.TIi2 s2),⟨_,_,b2.extBut _ _ D.TOz a2⟩,a3.extBut b2.extBut D.i1z,a4.extBut b2.extBut D.i2z⟩
  ·have hc0:=(hf c hc).1;rw[qe]
   ·exact hc0
   ·intro q
    have e:∃o,s.heap.get? c=some o:=by
     simp at hc;rcases hc with rfl | rfl | rfl | rfl | rfl
     ·exact⟨_,s1⟩
     ·exact⟨_,s2⟩
     ·exact⟨_,s3⟩
     ·obtain⟨o,e,_⟩:=s4;exact⟨o,e⟩
     ·obtain⟨o,e,_⟩:=s5;exact⟨o,e⟩
    obtain⟨o,e⟩:=e;rw[q,hnew] at e;cases e
 done:=by intro X hP hw hK hc i pins s σ H E I hf st hg;subst hP hw hK;obtain⟨xs,ys,qa,qb,hend⟩:=hg;obtain⟨s1,s2,⟨u,v,s3⟩,s4,s5⟩:=st;obtain⟨ia,ra,pa,za⟩:=I.list qa;obtain⟨ib,rb,pb,zb⟩:=I.list qb;have la:=ra.length;have lb:=rb.length;refine wpAny_pyNext_zip_end (I.ok.hd hc) D s1 s2 s3 s4 s5 pa.isList pb.isList (by simp;lia) λh' kp=>⟨rfl,I.turnedAll (t':=s.toks) (λc o hc e=>?_) hf⟩;simp at hc;exact kp c o hc.1 hc.2.2.1 hc.2.2.2.1 hc.2.2.2.2 e
 self:=λA i s Q E st h=>wpAny_pyIter_zip st.1 h
noncomputable def qnY(K:Frag)(ta:TA):TI:=λσ H R=>ta σ H λvs H1=>∃a b,vs=[.ref a,.ref b]/\(∃xs,SqL K H1 a xs)/\(∃ys,SqL K H1 b ys)/\R (Itz K a b) H1
section
variable{X:Cx}
theorem qjk{ea eb:Expr}{elts:List Expr}{kk:Nat}{tpos p pos:Pos}{ta:TA}(hg:Gl X "zip")(hm:X.mg "zip" = none)(ha:PA X [ea,eb] ta)(hs:starEach [ea,eb] X.env=[(false,eval ea X.env),(false,eval eb X.env)]:=by rfl)(hs2:starEach [eb] X.env=[(false,eval eb X.env)]:=by rfl) :
  PI X (.Tuple elts kk tpos) (.Call (.Name "zip" p) [ea,eb] [] pos) (qnY X.K ta):=by
 intro pins s σ H R I h;refine Call_ (Jl I hg hm boot_zip (PyProof.Rows.callWith_type1 (thn (ha pos pins s σ H _ I h) λus s1 z=>?_) (by rw[hs,hs2]) (by rw[hs2];rfl)));obtain⟨vs,H1,I1,r1,a,b,rfl,⟨xs,qa⟩,⟨ys,qb⟩,q⟩:=z;obtain⟨u,v,rfl,ru,rv⟩:=QT r1;cases ru;cases rv;obtain⟨ia,ra,pa,za⟩:=I1.list qa;obtain⟨ib,rb,pb,zb⟩:=I1.list qb;have la:a < s1.heap.objs.size:=by obtain⟨_,e,_⟩:=pa.isList;exact Heap.lt_size e
 have lb:b < s1.heap.objs.size:=by obtain⟨_,e,_⟩:=pb.isList;exact Heap.lt_size e
 refine call_zip_2 pa.isList pb.isList λh' z1 z2 z3 z4 z5 z6 kp=>wpAny_pyIter_zip z1 ?_
 have D:ZipApart (s1.heap.objs.size+4) (s1.heap.objs.size+2) (s1.heap.objs.size+3) s1.heap.objs.size (s1.heap.objs.size+1) a b:=by constructor<;>(first | exact Nat.ne_of_lt (Nat.lt_of_lt_of_le la (Nat.le_add_right _ _)) | exact Nat.ne_of_lt (Nat.lt_of_lt_of_le lb (Nat.le_add_right _ _)) | exact Nat.ne_of_lt la | exact Nat.ne_of_lt lb | exact Nat.ne_of_lt (by lia) | exact Nat.ne_of_gt (by lia))
 refine⟨s1.heap.objs.size+4,[s1.heap.objs.size+4,s1.heap.objs.size+2,s1.heap.objs.size+3,s1.heap.objs.size,s1.heap.objs.size+1],_,_,H1,rfl,I1.kept (t':=s1.toks) kp,qeQ D,⟨z1,z2,⟨_,_,z3⟩,z4,z5⟩,λc hc=>?_,q⟩
 have:s1.heap.objs.size<=c:=by
  simp at hc;rcases hc with rfl | rfl | rfl | rfl | rfl
  ·exact Nat.le_add_right _ _
  ·exact Nat.le_add_right _ _
  ·exact Nat.le_add_right _ _
  ·exact Nat.le_refl _
  ·exact Nat.le_add_right _ _
 exact I1.fpOk this (I1.hok.fresh this)
end
end L2
namespace L2
open PySem PySem.Spec PyProof.Rows PySem.W PyProof
section
variable{X:Cx}
theorem qjl:SlR X (λx lo hi H Q=>∃z,x=.str z/\z.length<=sizeLine/\Q (.str (Txt.slice z lo hi)) H):=by
 intro pins s σ H x v vl vu lo hi sl Q I rx hs pl pu h;obtain⟨z,rfl,hz,q⟩:=h;obtain⟨t,rfl⟩:=rx;refine⟨"str",_,F.slot_str_getitem.lookup,typeIs_str _ _ _,?_⟩;obtain⟨o,e1,e2,e3⟩:=hs
 cases pl with
 |none=>
  cases pu with
  |none=>exact wpAny_getItem_str_slice (l:=none) (u:=none) (st:=none) ⟨o,e1,e2,e3⟩ rfl (post_val_or_str ⟨Nat.le_trans (Txt.slice_le z _ _) hz,λt' k=>⟨.str _,H,I.tok k,⟨t',rfl⟩,q⟩⟩)
  |int j uj=>exact wpAny_getItem_str_slice (l:=none) (u:=some (j,uj)) (st:=none) ⟨o,e1,e2,e3⟩ rfl (post_val_or_str ⟨Nat.le_trans (Txt.slice_le z _ _) hz,λt' k=>⟨.str _,H,I.tok k,⟨t',rfl⟩,q⟩⟩)
 |int i ui=>
  cases pu with
  |none=>exact wpAny_getItem_str_slice (l:=some (i,ui)) (u:=none) (st:=none) ⟨o,e1,e2,e3⟩ rfl (post_val_or_str ⟨Nat.le_trans (Txt.slice_le z _ _) hz,λt' k=>⟨.str _,H,I.tok k,⟨t',rfl⟩,q⟩⟩)
  |int j uj=>exact wpAny_getItem_str_slice (l:=some (i,ui)) (u:=some (j,uj)) (st:=none) ⟨o,e1,e2,e3⟩ rfl (post_val_or_str ⟨Nat.le_trans (Txt.slice_le z _ _) hz,λt' k=>⟨.str _,H,I.tok k,⟨t',rfl⟩,q⟩⟩)
end
end L2
namespace L2
open PySem PySem.Spec PyProof.Rows PySem.W
noncomputable def Ite(K:Frag)(a:Addr):It:=
 ⟨λi H=>∃xs x,SqL K H a xs/\xs[i]?=some x,
  λi H v H'=>∃T x,v=.ref T/\H T=none/\H'=upd H T (.tup [.int i,x])/\∀xs,SqL K H a xs->xs[i]?=some x,
  λi H=>∃xs,SqL K H a xs/\xs.length<=i⟩
noncomputable def ESt(e it a:Addr)(i:Nat)(h:Heap):Prop:=(∃old,IsEnum h e it ((i:Nat):Int) old)/\h.IsListIter it a i
theorem qc2{P:Program}{w:World}{K:Frag}{elts:List Expr}{kk:Nat}{pos:Pos}{e it a:Addr}(hne:e≠it) :
  Turn P w K (.Tuple elts kk pos) (Ite K a) [e,it] e (ESt e it a) where
 mem:=by simp
 obj:=λi h st c hc=>by
  obtain⟨⟨old,s1⟩,⟨o4,s4,_,d4⟩⟩:=st;simp at hc;rcases hc with rfl | rfl
  ·exact⟨_,s1,λv q=>by cases q⟩
  ·exact⟨_,s4,λv q=>by rw[d4] at q;cases q⟩
 keep:=λi h h' st k=>by obtain⟨⟨old,s1⟩,s4⟩:=st;exact⟨⟨old,k e (by simp) _ s1⟩,s4.at λo e=>k it (by simp) o e⟩
 item:=by
  intro X hP hw hK hc i pins s σ H E I hf st hg;subst hP hw hK;obtain⟨xs,x,qa,hx⟩:=hg;obtain⟨⟨old,s1⟩,s4⟩:=st;obtain⟨ia,ra,pa,za⟩:=I.list qa;obtain⟨ux,ex,rx⟩:=ra.get hx;refine wpAny_pyNext_enum_item s1 s4 pa.isList (x:=ux) (by simpa using ex) hne λh' a1 a2 a3 a4 kp=>?_;refine⟨_,rfl,wpAny_letOwnedTupleGo_enum (s:={ s with heap:=h',toks:=s.toks+1 }) a1 λh2 b1 b2=>?_⟩;have two:(2:Nat)<=sizeLine:=Nat.le_of_lt (Q7 (2:))
  have kp2:∀c o,c∉[e,it]->s.heap.get? c=some o->h2.get? c=some o:=λc o hc q=>by simp at hc;exact b2.extBut c o hc.1 (kp c o hc.1 hc.2 q)
  have hnew:s.heap.get? s.heap.objs.size=none:=by
   cases q:s.heap.get? s.heap.objs.size with
   |none=>rfl
   |some o=>exact absurd (Heap.lt_size q) (Nat.lt_irrefl _)
  have hH:H s.heap.objs.size=none:=I.hok.fresh (Nat.le_refl _);have hTe:s.heap.objs.size≠e:=Nat.ne_of_gt (Heap.lt_size s1);have hT2:IsPair h2 s.heap.objs.size (.int i s.toks) ux:=b2.extBut _ _ hTe a3;have I2:Inv X pins σ (upd H s.heap.objs.size (.tup [.int i,x])) { s with heap:=h2,toks:=s.toks+1 }:=I.turnedNew (t':=s.toks+1) kp2 hf hnew ⟨two,[.int i s.toks,ux],.cons ⟨_,rfl⟩ %[rx|0],_,hT2,rfl,0,rfl⟩;refine⟨.ref s.heap.objs.size,_,I2,rfl,⟨_,x,rfl,hH,rfl,λxs' h1=>?_⟩,?_,λc hc=>?_⟩
  ·rw[I.list_inj h1 qa];exact hx
  ·have e1:((i+1:Nat):Int)=(i:Int)+1:=by lia
   refine⟨⟨ux,?_⟩,a2.extBut b2.extBut (Ne.symm hne)⟩;rw[e1];exact b1
  ·have hc0:=(hf c hc).1;rw[qe]
   ·exact hc0
   ·intro q
    have e:∃o,s.heap.get? c=some o:=by
     simp at hc;rcases hc with rfl | rfl
     ·exact⟨_,s1⟩
     ·obtain⟨o,e,_⟩:=s4;exact⟨o,e⟩
    obtain⟨o,e⟩:=e;rw[q,hnew] at e;cases e
 done:=by intro X hP hw hK hc i pins s σ H E I hf st hg;subst hP hw hK;obtain⟨xs,qa,hend⟩:=hg;obtain⟨⟨old,s1⟩,s4⟩:=st;obtain⟨ia,ra,pa,za⟩:=I.list qa;have la:=ra.length;refine wpAny_pyNext_enum_end (I.ok.hd hc) s1 s4 pa.isList (by simp;lia) λh' kp=>⟨rfl,I.turnedAll (t':=s.toks) (λc o hc e=>?_) hf⟩;simp at hc;exact kp c o hc.2 e
 self:=λA i s Q E st h=>by obtain⟨⟨old,s1⟩,_⟩:=st;exact wpAny_pyIter_enum s1 h
noncomputable def ql2(K:Frag)(ta:TA):TI:=λσ H R=>ta σ H λvs H1=>∃a,vs=[.ref a]/\(∃xs,SqL K H1 a xs)/\R (Ite K a) H1
section
variable{X:Cx}
theorem qhb{ea:Expr}{elts:List Expr}{kk:Nat}{tpos p pos:Pos}{ta:TA}(hg:Gl X "enumerate")(hm:X.mg "enumerate" = none)(ha:PA X [ea] ta)(hs:starEach [ea] X.env=[(false,eval ea X.env)]:=by rfl) :
  PI X (.Tuple elts kk tpos) (.Call (.Name "enumerate" p) [ea] [] pos) (ql2 X.K ta):=by
 intro pins s σ H R I h;refine Call_ (Jl I hg hm boot_enumerate (PyProof.Rows.callWith_type1 (thn (ha pos pins s σ H _ I h) λus s1 z=>?_) hs rfl));obtain⟨vs,H1,I1,r1,a,rfl,⟨xs,qa⟩,q⟩:=z;obtain⟨u,rfl,ru⟩:=JK r1;cases ru;obtain⟨ia,ra,pa,za⟩:=I1.list qa;refine call_enumerate_list pa.isList λh' z1 z2 z3 kp=>wpAny_pyIter_enum z1 ?_;refine⟨s1.heap.objs.size+1,[s1.heap.objs.size+1,s1.heap.objs.size],_,_,H1,rfl,I1.kept (t':=s1.toks) kp,qc2 (Nat.succ_ne_self _),⟨⟨_,z1⟩,z2⟩,λc hc=>?_,q⟩
 have:s1.heap.objs.size<=c:=by
  simp at hc;rcases hc with rfl | rfl
  ·exact Nat.le_add_right _ _
  ·exact Nat.le_refl _
 exact I1.fpOk this (I1.hok.fresh this)
end
end L2
namespace L2
open PySem PySem.Spec PyProof.Rows PySem.W
noncomputable def Itv(K:Frag)(a:Addr)(xs:List V):It:=
 ⟨λi H=>SqL K H a xs/\i < xs.length,λi H x H'=>H'=H/\xs[xs.length - 1 - i]?=some x,λi H=>SqL K H a xs/\xs.length=i⟩
theorem qeR{P:Program}{w:World}{K:Frag}{tg:Expr}(a it:Addr)(xs:List V):Turn P w K tg (Itv K a xs) [it] it (λi h=>h.IsRevIter it a ((xs.length:Int) - 1 - i)) where
 mem:=by simp
 obj:=λi h st b hb=>by
  have e:b=it:=by simpa using hb
  subst e;obtain⟨o,e,c,d⟩:=st;exact⟨o,e,λv z=>by rw[d] at z;cases z⟩
 keep:=λi h h' st k=>st.at λo e=>k it (by simp) o e
 item:=by
  intro X hP hw hK hc i pins s σ H E I hf st hg;subst hP hw hK;obtain⟨hq,hi⟩:=hg;obtain⟨its,rv,p,hz⟩:=I.list hq;have hx:xs[xs.length - 1 - i]?=some xs[xs.length - 1 - i]:=List.getElem?_eq_getElem (1:);obtain⟨u,hu,ru⟩:=rv.get hx;obtain⟨f0,f1,f2,f3,f4,f5⟩:=hf it (by simp);have e1:(xs.length:Int) - 1 - i=((xs.length - 1 - i:Nat):Int):=by omega
  rw[e1] at st;refine wpAny_pyNext_rev_item st p.isList (x:=u) (by simpa using hu) λh' st' sb=>?_;have I1:Inv X pins σ H { s with heap:=h' }:=I.turned (t':=s.toks) (λb o hb e=>(sb.2 b hb).trans e) f0 f1 f3 f4 f5;have e2:((xs.length - 1 - i:Nat):Int) - 1=(xs.length:Int) - 1 - ((i+1:Nat):Int):=by omega
  rw[e2] at st';obtain⟨o,e,c,d⟩:=id st';exact⟨u,rfl,qcu (s:={ s with heap:=h' }) e c d (2:) ⟨_,H,I1,ru,⟨rfl,hx⟩,st',λb hb=>(hf b hb).1⟩⟩
 done:=by
  intro X hP hw hK hc i pins s σ H E I hf st hg;subst hP hw hK;obtain⟨hq,hi⟩:=hg;obtain⟨f0,f1,f2,f3,f4,f5⟩:=hf it (by simp);have e1:(xs.length:Int) - 1 - i = -1:=by omega
  rw[e1] at st;exact wpAny_pyNext_rev_end (I.ok.hd hc) st λh' eb=>⟨rfl,I.turned (t':=s.toks) (λb o hb e=>eb b o hb e) f0 f1 f3 f4 f5⟩
 self:=λ_ _ _ _ _ st h=>wpAny_pyIter_revIter st h
noncomputable def qnZ(K:Frag)(ta:TA):TI:=λσ H R=>ta σ H λvs H1=>∃a xs,vs=[.ref a]/\SqL K H1 a xs/\R (Itv K a xs) H1
section
variable{X:Cx}
theorem qjm{ea tg:Expr}{p pos:Pos}{ta:TA}(hg:Gl X "reversed")(hm:X.mg "reversed" = none)(ha:PA X [ea] ta)(hs:starEach [ea] X.env=[(false,eval ea X.env)]:=by rfl) :
  PI X tg (.Call (.Name "reversed" p) [ea] [] pos) (qnZ X.K ta):=by
 intro pins s σ H R I h;refine Call_ (Jl I hg hm boot_reversed (PyProof.Rows.callWith_type1 (thn (ha pos pins s σ H _ I h) λus s1 z=>?_) hs rfl));obtain⟨vs,H1,I1,r1,a,xs,rfl,qa,q⟩:=z;obtain⟨u,rfl,ru⟩:=JK r1;cases ru;obtain⟨ia,ra,pa,za⟩:=I1.list qa;have la:=ra.length;refine call_reversed_list pa.isList ?_;refine wpAny_pyIter_revIter ⟨_,Heap.get?_push_size _ rfl,rfl,rfl⟩ ?_;refine⟨s1.heap.objs.size,[s1.heap.objs.size],_,_,H1,rfl,I1.kept (t':=s1.toks) λb o e=>Heap.get?_push_of_some _ e,qeR a _ xs,⟨_,Heap.get?_push_size _ rfl,rfl,?_⟩,λb hb=>?_,q⟩
 ·show Data.fields #[.ref a,rawInt ((ia.toArray.size:Int) - 1)]=_
  have:(ia.toArray.size:Int) - 1=(xs.length:Int) - 1 - ((0:Nat):Int):=by simp;omega
  rw[this]
 ·have e:b=s1.heap.objs.size:=by simpa using hb
  subst e;exact I1.fpOk (Nat.le_refl _) (I1.hok.fresh (Nat.le_refl _))
end
end L2
namespace L2
open PySem PySem.Spec PyProof.Rows
def rsz(lo hi c:Int):Nat:=if lo < hi then ((hi - lo - 1) / c+1).toNat else 0
end L2
namespace TS
open PySem PyProof.Rows
section
variable{M:Model}{A:Around}{E:PQ}{s:Shared}{O:KeyOrd}{kf:Keyed->O.α}{κ:SortKind}{G:Keyed->Prop}{a0:Array Keyed}
noncomputable def Few(O:KeyOrd)(kf:Keyed->O.α)(a0:Array Keyed)(st:SortSt):Prop:=(arrOf st).Perm a0/\failedOf st=none/\pendingOf st=#[(0,a0.size,0)]/\Srt O kf (arrOf st) 0 a0.size
theorem qc3(L:qer M A E s O kf κ G)(h2:2<=a0.size)(h64:a0.size < 64)(h0:∀x∈a0.toList,G x){st:SortSt}{Q:Unit->SortSt->Prop}(hk:kindOf st=κ)(hf:failedOf st=none)(ha:arrOf st=a0)(hp:pendingOf st=#[])
  (h:∀st',(arrOf st').Perm a0->failedOf st'=none->Srt O kf (arrOf st') 0 a0.size->Q () st'):wpS M A E s sortRuns' Q st:=by
 rw[sortRuns'_eq];refine wpS_bind (wpS_get ?_);dsimp only
 have hmr:minRun' a0.size a0.size 0=a0.size:=by
  obtain⟨f,hf⟩:∃f,a0.size=f+1:=⟨a0.size - 1,by lia⟩
  have:minRun' (f+1) a0.size 0=a0.size:=by rw[minRun'_succ,if_pos h64];rfl
  rwa[<-hf] at this
 simp only[ha,hmr];have done:∀st',kindOf st'=κ->failedOf st'=none->pendingOf st'=#[]->(arrOf st').Perm a0->Srt O kf (arrOf st') 0 a0.size->Few O kf a0 (setPending st' ((pendingOf st').push (0,a0.size,0))):=λst' _ b c d e=>⟨d,b,by show(pendingOf st').push _=_;rw[c];rfl,e⟩
 refine wpS_bind (wpS_mono (wpS_forRange
  (I:=λx c st'=>(x=0/\c=(none,0)/\st'=st)\/(1<=x/\c=(none,a0.size)/\Few O kf a0 st'))
  (Q:=λc st'=>c=(none,a0.size)/\Few O kf a0 st') ?step ?fin (.inl ⟨rfl,rfl,rfl⟩)) ?post)
 case fin=>
  rintro c st' (⟨hx,_,_⟩ | ⟨_,hc,hD⟩)
  ·lia
  ·exact⟨hc,hD⟩
 case step=>
  rintro x c st' _ hx (⟨rfl,rfl,rfl⟩ | ⟨hx1,rfl,hD⟩)
  ·dsimp only;rw[if_neg (by lia)];simp only[Nat.sub_zero,Nat.min_self,Nat.zero_add];refine wpS_bind (qlF L hk (by rw[ha];exact h0) (by rw[ha];lia) (by lia) λm xs r m1 m2 im=>?_);dsimp only;rw[ha] at r;rw[Nat.zero_add] at im
   by_cases hlt:m < a0.size
   ·rw[if_pos hlt];refine wpS_bind (wpS_lift (wpAny_rule ⟨rfl,?_⟩));refine wpS_bind (qiD L (st:=setArr st' xs) hk (r.mem h0) (by show 0+a0.size<=xs.size;rw[r.size];lia) (by lia) (by rw[Nat.zero_add];exact im) λys r2 im2=>?_);simp only[Bool.not_true,Bool.false_eq_true,if_false];refine wpS_bind (wpS_get ?_);have hb:(pendingOf (setArr (setArr st' xs) ys)).back?=none:=by rw[show pendingOf (setArr (setArr st' xs) ys)=pendingOf st' from rfl,hp];rfl
    rw[hb];dsimp only;rw[Nat.zero_add] at im2;exact wpS_bind (wpS_modify (wpS_pure (.inr ⟨by lia,rfl,done _ hk hf hp (r2.perm.trans r.perm) im2.srt⟩)))
   ·rw[if_neg hlt];have hm:m=a0.size:=by lia
    subst hm;refine wpS_bind (wpS_get ?_);have hb:(pendingOf (setArr st' xs)).back?=none:=by rw[show pendingOf (setArr st' xs)=pendingOf st' from rfl,hp];rfl
    rw[hb];dsimp only;exact wpS_bind (wpS_modify (wpS_pure (.inr ⟨by lia,rfl,done _ hk hf hp r.perm im.srt⟩)))
  ·dsimp only;rw[if_pos (Nat.le_refl _)];exact wpS_pure ⟨rfl,hD⟩
 case post=>
  rintro c st' ⟨rfl,hD⟩;dsimp only;refine wpS_bind (wpS_mono (wpS_forRange (I:=λ_ c st''=>st''=st'/\c=(none,())) (Q:=λc st''=>st''=st'/\c=(none,())) ?_ (λ_ _ hh=>hh) ⟨rfl,rfl⟩) ?_)
  ·rintro x c st'' _ _ ⟨rfl,rfl⟩;refine wpS_bind (wpS_get ?_);rw[if_pos (by rw[hD.2.2.1];exact Nat.le_refl 1)];exact wpS_pure ⟨rfl,rfl⟩
  ·rintro c st'' ⟨rfl,rfl⟩;exact wpS_pure (h _ hD.1 hD.2.1 hD.2.2.2)
end
section
variable{prog:Program}{w:World}{A:Around}{E:PQ}{s:Shared}{O:KeyOrd}{kf:Keyed->O.α}{κ:SortKind}
theorem qc4{s0:Shared}{a:Addr}{vs:List Value}{n:Nat}{P:PySem.Fin->Shared->Prop}(S:Sorts prog w s0 vs O kf κ)(ho:s.heap.get? a=some (seqObj "list" vs.toArray n))(hsz:vs.length<=sizeLine)(h64:vs.length < 64)
  (hg:∀b o,s0.heap.get? b=some o->s.heap.get? b=some o/\b≠a)
  (h:∀st':SortSt,(arrOf st').Perm (pairsOf vs)->Srt O kf (arrOf st') 0 (pairsOf vs).size->P (.done (.ret .none)) { s with heap:=sortedHeap s.heap a vs ((arrOf st').map (·.2)) }) :
  wpAny (model prog w) A (Builtin.«list.sort» ⟨[.ref a],[]⟩) P E s:=by
 rw[list_sort_plain];have ha:a < s.heap.objs.size:=Heap.lt_size ho;have hv:vs.toArray.size=vs.length:=by simp
 refine wpAny_bind (listItems_at ho rfl (wpAny_bind (listUpdate_at ho rfl ?_ (by rw[hv];exact hsz) (Nat.zero_le _))));obtain⟨n1,ho1⟩:∃n1,(s.heap.update a (Obj.mapSeq λ_=>#[])).get? a=some (seqObj "list" #[] n1):=⟨_,get?_update_seq ho (λ_=>#[])⟩;refine wpAny_bind (seqEpoch_at ho1 rfl (wpAny_bind (wpAny_newTuple ?_ (by simpa using hsz))));refine wpAny_bind (wpAny_newList (wpAny_holding ?_) (Nat.zero_le _));generalize hh:(((s.heap.update a (Obj.mapSeq λ_=>#[])).push (seqObj "tuple" vs.toArray 0)).push (seqObj "list" #[] 0))=h6
 have ho6:h6.get? a=some (seqObj "list" #[] n1):=by rw[<-hh];exact Heap.get?_push_of_some _ (Heap.get?_push_of_some _ ho1)
 have grown:qcN s0 { s with heap:=h6 }:=λb o e=>by obtain⟨e1,ne⟩:=hg b o e;show h6.get? b=some o;rw[<-hh];exact Heap.get?_push_of_some _ (Heap.get?_push_of_some _ (by rw[Heap.get?_update_ne _ _ _ _ ne];exact e1))
 have fin:∀st':SortSt,(arrOf st').Perm (pairsOf vs)->Srt O kf (arrOf st') 0 (pairsOf vs).size->P (.done (.ret .none)) { s with heap:=h6.update a (Obj.mapSeq λ_=>(arrOf st').map (·.2)) }:=λst' a1 a2=>by
  have:=h st' a1 a2
  unfold sortedHeap at this;rw[hh] at this;exact this
 have small:∀st':SortSt,(arrOf st').Perm (pairsOf vs)->((arrOf st').map (·.2)).size<=sizeLine+1:=λst' hp=>by
  rw[Array.size_map,hp.size_eq,pairsOf_size]
  lia
 show wpAny (model prog w) A _ P E { s with heap:=h6 };dsimp only
 by_cases h2:vs.toArray.size < 2
 ·rw[if_pos h2,if_pos h2];refine wpAny_bind (wpAny_pure ?_);rw[StateT.run_pure];refine wpAny_bind (wpAny_pure ?_);dsimp only;refine wpAny_bind (seqEpoch_at ho6 rfl ?_);refine wpAny_bind (listUpdate_at ho6 rfl ?_ (Nat.zero_le _) (small (SortSt.mk' general' (vs.toArray.zip vs.toArray) #[] 7 none) (Array.Perm.refl _)));simp only[bne_self_eq_false,Bool.false_eq_true,if_false];refine wpAny_pure (fin (SortSt.mk' general' (vs.toArray.zip vs.toArray) #[] 7 none) (Array.Perm.refl _) ?_);intro i j x y _ b c d e
  have:i=j:=by rw[pairsOf_size] at c;lia
  subst this;rw[d] at e;cases e;exact KeyOrd.kle_refl _
 ·rw[if_neg h2,if_neg h2];refine wpAny_bind (S.kind (by lia) A E _ _ grown ?_)
  refine wpAny_bind (wpAny_mono (qc3 (S.lt A E _ grown) (a0:=pairsOf vs) (by rw[pairsOf_size];lia) (by rw[pairsOf_size];exact h64) (st:=SortSt.mk' κ (vs.toArray.zip vs.toArray) #[] 7 none) (λx hx=>hx) rfl rfl rfl rfl
   (Q:=λ_ st'=>(arrOf st').Perm (pairsOf vs)/\failedOf st'=none/\Srt O kf (arrOf st') 0 (pairsOf vs).size) λst' a1 a2 a3=>⟨a1,a2,a3⟩) ?_ λ_ _ e=>e)
  rintro⟨⟨⟩,st'⟩ s' ⟨rfl,hp,hf,hs⟩;dsimp only;refine wpAny_bind (seqEpoch_at ho6 rfl (wpAny_bind (listUpdate_at ho6 rfl ?_ (Nat.zero_le _) (small st' hp))));rw[hf];simp only[bne_self_eq_false,Bool.false_eq_true,if_false];exact wpAny_pure (fin st' hp hs)
theorem Zc{l:Addr}{vs:List Value}{Q:PQ}(S:Sorts prog w s vs O kf κ)(hl:s.heap.IsList l vs.toArray)(hsz:vs.length<=sizeLine)(h64:vs.length < 64)
  (h:∀st':SortSt,(arrOf st').Perm (pairsOf vs)->Srt O kf (arrOf st') 0 (pairsOf vs).size->Q (.ref (s.heap.objs.size+1)) { s with heap:=sortedAll s.heap vs ((arrOf st').map (·.2)) }) :
  wpAny (model prog w) A (call (.builtin "sorted") [.ref l]) Q E s:=by
 refine Calls.call_function_entry kind_sorted plain_sorted entry_sorted (args_sorted1 _) ?_;unfold Builtin.«sorted»;refine wpAny_bind (m:=checkCount "sorted" 1 1 _) (wpAny_pure (wpAny_bind (collect_list hl ?_ hsz)));refine wpAny_bind (wpAny_newList ?_ hsz);have hz:((s.heap.push (seqObj "list" #[] 0)).update s.heap.objs.size (Obj.mapSeq (· ++ vs.toArray))).objs.size=s.heap.objs.size+1:=by rw[Heap.size_update,size_push']
 show wpAny _ _ _ _ _ { s with heap:=((s.heap.push (seqObj "list" #[] 0)).update s.heap.objs.size (Obj.mapSeq (· ++ vs.toArray))).push (seqObj "list" vs.toArray 0) };rw[hz];generalize hh:((s.heap.push (seqObj "list" #[] 0)).update s.heap.objs.size (Obj.mapSeq (· ++ vs.toArray))).push (seqObj "list" vs.toArray 0)=h6
 have hoL:h6.get? (s.heap.objs.size+1)=some (seqObj "list" vs.toArray 0):=by rw[<-hh,<-hz];exact Heap.get?_push_size _ rfl
 have old:∀b o,s.heap.get? b=some o->h6.get? b=some o/\b≠s.heap.objs.size+1:=λb o e=>by have hlt:b < s.heap.objs.size:=Heap.lt_size e;refine⟨?_,Nat.ne_of_lt (Nat.lt_succ_of_lt hlt)⟩;rw[<-hh];refine Heap.get?_push_of_some _ ?_;rw[Heap.get?_update_ne _ _ _ _ (Nat.ne_of_lt hlt)];exact Heap.get?_push_of_some _ e
 have hr:∀st':SortSt,(arrOf st').Perm (pairsOf vs)->Srt O kf (arrOf st') 0 (pairsOf vs).size->Q (.ref (s.heap.objs.size+1)) { s with heap:=sortedHeap h6 (s.heap.objs.size+1) vs ((arrOf st').map (·.2)) }:=λst' a1 a2=>by
  have:=h st' a1 a2
  unfold sortedAll at this;rw[hh] at this;exact this
 refine wpAny_bind (wpAny_holding (wpAny_call_entry slot_list_sort ⟨_,hoL,rfl⟩ entry_list_sort (qc4 S hoL hsz h64 old λst' a1 a2=>⟨_,rfl,?_⟩) (args_list_sort _)));exact wpAny_pure ⟨_,rfl,hr st' a1 a2⟩
end
end TS
namespace L2
open PySem PySem.Spec PyProof.Rows
section
variable{X:Cx}
theorem Qd:q9 X (.builtin "sorted") (λvs H Q=>∃p xs ps,vs=[.ref p]/\SqL X.K H p xs/\xs.length < 64/\Paired (P2 X.K H) xs ps/\
  ∀l ys qs,H l=none->Paired (P2 X.K H) ys qs->ys.Perm xs->qs.Perm ps->qs.Pairwise qcQ->Q (.ref l) (upd H l (.lst ys))):=by
 intro pins s σ H xs us Q I r h;obtain⟨p,xs,ps,rfl,hq,h64,hp,q⟩:=h;obtain⟨u,rfl,rx⟩:=JK r;cases rx;obtain⟨its,rv,pl,hz⟩:=I.list hq;have hlen:=rv.length
 have three:∀{xs:List V} {its:List Value} {ps:List (Int×Int)},qx xs its->Paired (P2 X.K H) xs ps->Paired (λ(z:V×(Int×Int)) u=>qH z.1 u/\P2 X.K H z.1 z.2/\TS.qaO s.heap u z.2) (xs.zip ps) its/\Paired (TS.qaO s.heap) its ps/\xs.length=ps.length:=by
  intro xs its ps a b
  induction a generalizing ps with
  |nil=>cases b;exact⟨.nil,.nil,rfl⟩
  |cons r rs ih=>
   cases b with
   |cons b bs=>obtain⟨i1,i2,i3⟩:=ih bs;have t:=P2.raw I b r;exact⟨.cons ⟨r,b,t⟩ i1,.cons t i2,by simp[i3]⟩
 obtain⟨t1,t2,t3⟩:=three rv hp;refine TS.Zc (TS.qcP t2) pl.isList (by lia) (by lia) λst' pm sr=>?_
 have hl:(arrOf st').toList.Perm (its.zip its):=by
  have:=Array.perm_iff_toList_perm.mp pm
  rwa[pairsOf_toList] at this
 have hout:((arrOf st').map (·.2)).toList.Perm its:=by
  rw[Array.toList_map]
  have:=hl.map (·.2)
  rwa[List.map_snd_zip (Nat.le_refl _)] at this
 obtain⟨zs,z1,z2⟩:=TS.Paired.perm hout t1
 have hys:(zs.map (·.1)).Perm xs:=by
  have:=z1.map (·.1)
  rwa[List.map_fst_zip (by lia)] at this
 have hqs:(zs.map (·.2)).Perm ps:=by
  have:=z1.map (·.2)
  rwa[List.map_snd_zip (by lia)] at this
 have hv:qx (zs.map (·.1)) ((arrOf st').map (·.2)).toList:=by
  clear z1 hys hqs;generalize ((arrOf st').map (·.2)).toList=ol at z2
  induction z2 with
  |nil=>exact .nil
  |cons r _ ih=>exact .cons r.1 ih
 have hP:Paired (P2 X.K H) (zs.map (·.1)) (zs.map (·.2)):=by
  clear z1 hys hqs hv;generalize ((arrOf st').map (·.2)).toList=ol at z2
  induction z2 with
  |nil=>exact .nil
  |cons r _ ih=>exact .cons r.2.1 ih
 have hkeys:((arrOf st').map (·.2)).toList.map (TS.yg s.heap)=zs.map (·.2):=by
  clear z1 hys hqs hv hP;generalize ((arrOf st').map (·.2)).toList=ol at z2
  induction z2 with
  |nil=>rfl
  |cons r _ ih=>rw[List.map_cons,List.map_cons,ih,r.2.2.pair]
 have hsrt:(zs.map (·.2)).Pairwise qcQ:=by
  rw[<-hkeys,Array.toList_map,List.map_map];have h0:(arrOf st').size=(pairsOf its).size:=pm.size_eq;rw[<-h0] at sr
  have:=sr.pw
  refine List.pairwise_map.mpr ?_;refine List.Pairwise.imp_of_mem (λ{a b} ha hb hab=>?_) this;have ea:=(mem_zip_self (hl.mem_iff.mp ha)).1;have eb:=(mem_zip_self (hl.mem_iff.mp hb)).1;have hab:TS.pO.blt (TS.yg s.heap b.1) (TS.yg s.heap a.1)=false:=hab;rw[ea,eb] at hab;unfold TS.pO at hab;simp at hab;show qcQ (TS.yg s.heap a.2) (TS.yg s.heap b.2);unfold qcQ
  lia
 obtain⟨e,he⟩:=sortedAll_at s.heap its ((arrOf st').map (·.2));have hz2:(zs.map (·.1)).length<=sizeLine:=by rw[hys.length_eq];exact hz
 refine⟨.ref (s.heap.objs.size+1),_,I.laid (t':=s.toks) (λb o eb=>sortedAll_old eb) (Nat.le_succ _) (show qP X.prog X.w _ _ _ (.lst (zs.map (·.1))) from⟨hz2,_,e,hv,?_⟩),rfl,q _ _ _ (I.hok.fresh (Nat.le_succ _)) hP hys hqs hsrt⟩;rw[Array.toArray_toList];exact he
end
end L2
namespace L2
open PySem PySem.Spec PyProof.Rows PySem.W
noncomputable def qc5(K:Frag)(C fI:Addr)(bmB:List Value)(newId:String):Bool:=match K.lookup C with
 | some ⟨.type "type",_,.cls cd,sl⟩=>(match cd.mro,sl.toList with
  | .ref C'::bm,[_,_,_,_,some (.builtin n),_]=>C' == C&&n == newId&&!cd.hasDel&&tailIn K bmB bm&&nsOkIn K cd.ns&&nsIn K cd.ns "__init__" == some (some (.ref fI))
  |_,_=>false)
 |_=>false
theorem qbO{K:Frag}{h:Heap}{N:Addr}{mg:PR}{n:Str}{v:Value}(X:K.In h)(G:h.Ns N mg)(e:nsIn K N n=some (some v)):mg n=some v:=by
 obtain⟨o,es,ep,ho,hd,_,hf⟩:=G;unfold nsIn at e
 split at e
 ·rename_i c d es' n' sl q
  have:=X _ _ q
  rw[ho] at this;cases this;cases hd
  split at e
  ·rename_i en he;cases e;rw[<-hf];unfold nsFind findBy;rw[<-Array.find?_toList,he];rfl
  ·split at e<;>cases e
 ·cases e
theorem qeS{K:Frag}{h:Heap}{C fI:Addr}{bB:List Value}{nid:String}(Y:K.In h)(ok:qc5 K C fI bB nid=true) :
  ∃bm N nm qn bs hd sn sub ab col dd k0 k1 k2 k3 k5 mN,h.get? C=some (excClassObj nm qn C N bs bm hd sn sub ab col dd k0 k1 k2 k3 k5 nid)/\h.Ns N mN/\mN "__init__" = some (.ref fI)/\OwnTail h bB bm:=by
 unfold qc5 at ok
 split at ok
 case h_2=>cases ok
 case h_1 d1 cdat slots hlk=>
  split at ok
  case h_2=>cases ok
  case h_1 C2 tl a0 a1 a2 a3 nn a5 hmro hsl=>
   simp only[Bool.and_eq_true,beq_iff_eq,Bool.not_eq_true'] at ok;obtain⟨⟨⟨⟨⟨e1,e2⟩,e3⟩,e4⟩,e5⟩,e6⟩:=ok;subst e1;subst e2;obtain⟨w1,w2,w3,w4,w5,w6,w7,w8,w9,w10,w11⟩:=cdat
   dsimp only at hmro e3 e5 e6;subst hmro;subst e3;obtain⟨sl⟩:=slots;obtain rfl:sl=[a0,a1,a2,a3,some (.builtin nn),a5]:=hsl;exact⟨tl,w4,w1,w5,w2,w6,w7,w8,w9,w10,d1,a0,a1,a2,a3,a5,_,Y _ _ hlk,.of_isNs (isNs_of_in Y e5),qbO Y (.of_isNs (isNs_of_in Y e5)) e6,tail_of_in Y e4⟩
section
variable{prog:Program}{w:World}{A:Around}{E:PQ}{h:Heap}{g:Array GenState}{d:Drawn}{t:Nat}{os:OsState}
variable{nm q:Str}{C N:Addr}{bs bm bmB:List Value}{hdct:Bool}{sn:List Str}{sub:List Value}{ab:Bool}{col:Option Bool}{dd:Option Addr}{k0 k1 k2 k3 k5:Option Value}{B newId initId:String}
theorem JR(F:ExcBaseFacts B newId initId bmB)(T:OwnTail h bmB bm){mN:PR}{rest:List Value}{fI:Addr}{oI:Obj}{Q:Fin->Shared->Prop}
  (hC:h.get? C=some (excClassObj nm q C N bs bm hdct sn sub ab col dd k0 k1 k2 k3 k5 newId)) (hn:h.Ns N mN) (hi:mN "__init__" = some (.ref fI))
  (hfI:h.get? fI=some oI) (hfc:oI.cls=.type "function")
  (hq:∀h' e,Heap.MadeExcOf h h' e (.ref C) rest->
   wpAny (model prog w) A (call (.ref fI) (.ref e::rest)) (λr s'=>r=.none/\Q (.done (.ret (.ref e))) s') E ⟨h',g,d,t,os⟩) (hrest:rest.length<=sizeLine) :
  wpAny (model prog w) A (Builtin.«type.__call__» ⟨.ref C::rest,[]⟩) Q E ⟨h,g,d,t,os⟩:=by
 repeat (first | with_reducible refine wpAny_loadPart_at hC ?_ | with_reducible refine wpAny_madeBy_exc hC ?_ | wp_step)
 refine codeAny_call_builtin_code (Code.quiet_builtin _ F.quiet) (wpAny_check_new_subT F T hC ?_);refine codeAny_exc_new_subT F T hC ?_ hrest;show wpAny _ _ _ _ _ _
 have hC₁:=Heap.get?_push_of_some { cls:=.ref C,data:=.fields #[.ref h.objs.size,.none,.none,.none,.bool false,.none] }
  (Heap.get?_push_of_some { cls:=.type "tuple",data:=.seq rest.toArray } hC)
 have hfI₁:=Heap.get?_push_of_some { cls:=.ref C,data:=.fields #[.ref h.objs.size,.none,.none,.none,.bool false,.none] }
  (Heap.get?_push_of_some { cls:=.type "tuple",data:=.seq rest.toArray } hfI)
 have hn₁:((h.push { cls:=.type "tuple",data:=.seq rest.toArray }).push { cls:=.ref C,data:=.fields #[.ref h.objs.size,.none,.none,.none,.bool false,.none] }).Ns N mN:=
  let ⟨o,es,ep,e,r⟩:=hn;⟨o,es,ep,Heap.get?_push_of_some _ (Heap.get?_push_of_some _ e),r⟩
 have hget:((h.push { cls:=.type "tuple",data:=.seq rest.toArray }).push
   { cls:=.ref C,data:=.fields #[.ref h.objs.size,.none,.none,.none,.bool false,.none] }).get? (h.objs.size+1)=some
   { cls:=.ref C,data:=.fields #[.ref h.objs.size,.none,.none,.none,.bool false,.none] }:=by heap_get
 have hcC:(Value.ref C::bm).contains (.ref C)=true:=by simp
 have T₁:=T.keeps (h':=(h.push { cls:=.type "tuple",data:=.seq rest.toArray }).push { cls:=.ref C,data:=.fields #[.ref h.objs.size,.none,.none,.none,.bool false,.none] })
  λb o e=>Heap.get?_push_of_some _ (Heap.get?_push_of_some _ e)
 unfold isInstance
 repeat (first | with_reducible refine wpAny_loadPart_at hget ?_ | (with_reducible refine wpAny_isSubtype_exc hC₁ ?_;rw[hcC]) | wp_step)
 show wpAny _ _ (typeLookup (.ref C) _) _ _ _;refine wpAny_typeLookup_tail hC₁ hn₁ T₁ F.mroIs F.init.lookup ?_;rw[hi];refine wpAny_holding (wpAny_bind ?_);unfold bindSpecial;refine wpAny_bind (wpAny_typeOf (T:="function") ⟨_,hfI₁,hfc⟩ ?_);rw[if_pos (2:)];refine wpAny_pure (wpAny_bind (wpAny_mono (hq _ (h.objs.size+1) ⟨λb o hb=>Heap.get?_push_of_some _ (Heap.get?_push_of_some _ hb),Heap.get?_none_of_le (Nat.le_succ _),h.objs.size,hget,Heap.get?_none_of_le (Nat.le_refl _),?_⟩) (λr s' hr=>?_) λ_ _ x=>x))
 ·exact Heap.get?_push_of_some _ (Heap.get?_push_at rfl rfl)
 ·obtain⟨rfl,hQ⟩:=hr
  wp_walk
  exact hQ
theorem qbP(F:ExcBaseFacts B newId initId bmB)(T:OwnTail h bmB bm){mN:PR}{rest:List Value}{fI:Addr}{oI:Obj}{Q:PQ}
  (hC:h.get? C=some (excClassObj nm q C N bs bm hdct sn sub ab col dd k0 k1 k2 k3 k5 newId)) (hn:h.Ns N mN) (hi:mN "__init__" = some (.ref fI))
  (hfI:h.get? fI=some oI) (hfc:oI.cls=.type "function")
  (hq:∀h' e,Heap.MadeExcOf h h' e (.ref C) rest->
   wpAny (model prog w) (A.under (.builtin "type.__call__" ⟨.ref C::rest,[]⟩)) (call (.ref fI) (.ref e::rest)) (λr s'=>r=.none/\Q (.ref e) s') E ⟨h',g,d,t,os⟩) (hrest:rest.length<=sizeLine) :
  wpAny (model prog w) A (call (.ref C) rest) Q E ⟨h,g,d,t,os⟩:=by
 have f1:=tc_lookup;have f2:=tc_bind (.ref C);have hT:(⟨h,g,d,t,os⟩:Shared).TypeIs (.ref C) "type":=⟨_,hC,rfl⟩;refine wpAny_call (codeAny_of_tree ?_);show wpAny _ _ (callAny (.ref C) _) _ _ _
 repeat (any_goals (first | assumption | with_reducible refine wpAny_loadPart_at hC ?_ | wp_step))
 refine⟨rfl,?_⟩;refine codeAny_call_builtin_at (Code.quiet_builtin _ (by decide+kernel)) entry_typeCall (wpAny_check_type_call_sub hC (JR (hrest:=hrest) F T hC hn hi hfI hfc λh' e hm=>?_));exact hq h' e hm
end
section
variable{prog:Program}{w:World}{A:Around}{E:PQ}{s:Shared}{env:Env}
variable{nm q:Str}{C N:Addr}{bs bm bmB:List Value}{hdct:Bool}{sn:List Str}{sub:List Value}{ab:Bool}{col:Option Bool}{dd:Option Addr}{k0 k1 k2 k3 k5:Option Value}{newId:String}
theorem qbQ{M:Model}{x:Str}{np cpos pos:Pos}{args:List Expr}{Q:Flow->Shared->Prop}(hbase:bm.contains (.type "BaseException")=true)(hh:A.handled=none)
  (h:wpAny M A (eval (.Call (.Name x np) args [] cpos) env) (λv s₁=>∃e v0 od sl,v=.ref e/\s₁.heap.get? C=some (excClassObj nm q C N bs bm hdct sn sub ab col dd k0 k1 k2 k3 k5 newId)/\
   s₁.heap.get? e=some ⟨.ref C,od,.fields #[v0,.none,.none,.none,.bool false,.none],sl⟩/\E (.ref e) s₁) E s) :
  wpAny M A (exec (.Raise (some (.Call (.Name x np) args [] cpos)) none pos) env) Q E s:=by
 rw[arm_exec_Raise];have hcB:(Value.ref C::bm).contains (.type "BaseException")=true:=by rw[List.contains_cons,hbase,Bool.or_true]
 simp only[evalOpt,Option.map];refine wpAny_bind (wpAny_standAt ?_);unfold raiseStmt;refine wpAny_bind (wpAny_bind (wpAny_mono h (λv s₁ h₁=>wpAny_bind (wpAny_standAt (wpAny_pure ?_))) λ_ _ x=>x));obtain⟨e,v0,od,sl,rfl,hC,he,hE⟩:=h₁;obtain⟨hp,g,d,tk,os⟩:=s₁
 repeat (first | with_reducible refine wpAny_loadPart_at he ?_ | with_reducible refine wpAny_loadPart_at hC ?_ | (with_reducible refine wpAny_isSubtype_exc hC ?_;rw[hcB]) | wp_step)
 exact wpAny_raiseNew_none hh hE
end
end L2
namespace L2
open PySem PySem.Spec PyProof.Rows PySem.W
abbrev bV:List Value:=[.type "ValueError",.type "Exception",.type "BaseException",.type "object"]
noncomputable def qf3(x C:Addr)(od:Option Addr):HO:=.ext λh=>∃v0,h.get? x=some ⟨.ref C,od,.fields #[v0,.none,.none,.none,.bool false,.none],#[]⟩
noncomputable def xD(a:Addr)(fs:List (Str×V)):HO:=.ext λh=>∃mA,h.Ns1 a mA/\(∀f,qcr (fs.lookup f) (mA f))/\PySem.Within mA (fs.map (·.1))
theorem qhc{P:Program}{w:World}{H:Hp}{h:Heap}{x C:Addr}{od:Option Addr}{v0:Value}(e:h.get? x=some ⟨.ref C,od,.fields #[v0,.none,.none,.none,.bool false,.none],#[]⟩):qP P w H h x (qf3 x C od):=
 ⟨⟨v0,e⟩,⟨_,e⟩,λh1 h2 ⟨v,z⟩ k=>⟨v,k _ z⟩⟩
end L2
namespace L2
open PySem PySem.Spec PyProof.Rows PySem.W
def qjn:V->Prop
 |.int n=>n.natAbs.log2 < 1920
 |.non=>True
 |_=>False
end L2
namespace L2
open PySem PySem.Spec PyProof.Rows PySem.W
def rem(H:Hp)(x:Addr):Hp:=λb=>if b=x then none else H b
theorem qaR{H:Hp}{x:Addr}:rem H x x=none:=by unfold rem;rw[if_pos rfl]
theorem qaS{H:Hp}{x b:Addr}(h:b≠x):rem H x b=H b:=by unfold rem;rw[if_neg h]
section
variable{X:Cx}{pins:PP}{σ:St}{H:Hp}{s:Shared}{x C:Addr}{od oT:Option Addr}
theorem Inv.trk{φ:Heap->Prop}(I:Inv X pins σ H s)(new:qP X.prog X.w (upd H x (.ext φ)) s.heap x (.ext φ))(dat:∃oe vs,s.heap.get? x=some oe/\oe.data=.fields vs)(hx:H x=none)(x0:X.s₀.heap.get? x=none)(pin:∀p∈X.pn++pins,p.1≠x):Inv X pins σ (upd H x (.ext φ)) s:=by
 obtain⟨oe,vs,ho,hd⟩:=dat
 have nn:∀{b:Addr},b≠x->upd H x (.ext φ) b=H b:=λh=>qe h;have ntr:∀{b:Addr} {u:HO},H b=some u->b≠x:=λ{b u} e z=>by rw[z,hx] at e;cases e
 refine⟨I.ok,I.os,I.bare,⟨I.base.keep,I.base.slot,λb o e n hx=>?_,I.base.there,λb xs e=>?_,λb o u e=>?_,λb ps e=>?_⟩,I.loc,I.cell,?_,λy c e=>?_,λp hp=>?_,λa o e=>?_,I.len⟩
 ·rw[nn (λz=>by rw[z,x0] at e;cases e)];exact I.base.free b o e n hx
 ·have:=I.base.tups b xs e
  rw[nn (ntr this)];exact this
 ·have:=I.base.frzs b o u e
  rw[nn (ntr this)];exact this
 ·obtain⟨more,this⟩:=I.base.tbls b ps e;rw[nn (ntr this)];exact⟨more,this⟩
 ·have:X.env.locals≠x:=λz=>by
   obtain⟨m,⟨o,es,ep,e1,e2,_⟩,_⟩:=I.loc;rw[z,ho] at e1;cases e1;rw[hd] at e2;cases e2
  rw[nn this];exact I.free
 ·have:c≠x:=λz=>by
   obtain⟨v,o,e1,e2⟩:=I.cell y c e;rw[z,ho] at e1;cases e1;rw[hd] at e2;cases e2
  rw[nn this];exact I.freeC y c e
 ·obtain⟨e,n,r⟩:=I.pin p hp;refine⟨e,?_,r⟩;rw[nn (pin p hp)];exact n
 ·by_cases hb:a=x
  ·subst hb;rw[qg] at e;cases e;exact new
  ·rw[nn hb] at e;exact(I.hok a o e).stay (λ_ _ _ q=>q) (λb q=>by rw[nn (ntr q)];exact q) (λb xs q=>by rw[nn (ntr q)];exact q)
theorem Inv.untrk{φ:Heap->Prop}(I:Inv X pins σ H s)(h:H x=some (.ext φ)):Inv X pins σ (rem H x) s:=by
 have nn:∀{b:Addr} {u:HO},H b=some u->(∀ψ,u≠.ext ψ)->rem H x b=some u:=λ{b u} e n=>by rw[qaS (λz=>by rw[z,h] at e;exact n φ (Option.some.inj e).symm)];exact e
 have no:∀{b:Addr},H b=none->rem H x b=none:=λ{b} e=>by
  unfold rem
  by_cases hb:b=x
  ·rw[if_pos hb]
  ·rw[if_neg hb];exact e
 refine⟨I.ok,I.os,I.bare,⟨I.base.keep,I.base.slot,λb o e n hx=>no (I.base.free b o e n hx),I.base.there,λb xs e=>nn (I.base.tups b xs e) (λ_ z=>by cases z),λb o u e=>nn (I.base.frzs b o u e) (λ_ z=>by cases z),λb ps e=>?_⟩,I.loc,I.cell,no I.free,λy c e=>no (I.freeC y c e),λp hp=>?_,λa o e=>?_,I.len⟩
 ·obtain⟨more,this⟩:=I.base.tbls b ps e;exact⟨more,nn this (λ_ z=>by cases z)⟩
 ·obtain⟨e,n,r⟩:=I.pin p hp;exact⟨e,no n,r⟩
 ·have ha:a≠x:=λz=>by rw[z,qaR] at e;cases e
  rw[qaS ha] at e;exact(I.hok a o e).stay (λ_ _ _ q=>q) (λb q=>nn q (λ_ z=>by cases z)) (λb xs q=>nn q (λ_ z=>by cases z))
noncomputable def JE(X:Cx)(E:XK):Prop:=∀(pins:PP) (σ:St) (H:Hp) (s:Shared) (x C:Addr) (od:Option Addr),Inv X pins σ H s->Mine X pins H x none->Fly s.heap x C od none->E (.ref C) od H->X.xe (.ref x) s
end
section
variable{P:Program}{w:World}{K:Frag}{mg:PR}{base:Heap}{N:List Str}{qual:Str}{scope:Scope}{f:Addr}{cd:Value}{A:Around}{outer:List Env}{s:Shared}{H:Hp}{E:XK}
theorem qc6:JE (qaL (CX1 P w) P w K mg base N qual scope f cd A outer s H E) E:=λpins σ H1 s1 x C od I M fl q=>qaQ I ⟨rfl,rfl⟩ rfl M fl q
end
section
variable{X:Cx}{E:XK}
theorem qeT(hex:X.ex=[])(h:JE X E):qcW X E:=λpins σ H s I h' x C vs m q=>by
 have no:∀b:Addr,b∉X.ex:=λb z=>by rw[hex] at z;cases z
 refine h pins σ H _ x C none (I.kept (t':=s.toks) m.keeps) ⟨I.newH m.new,I.new0 (no x) m.new,(λT z=>by cases z),λp hp=>⟨λz=>?_,by simp⟩⟩ (qeM m) q;obtain⟨e,_⟩:=I.pin p hp;rw[z,m.new] at e;cases e
noncomputable def qjo(K:Frag)(f:Addr):Bool:=match K.lookup f with
 |some ⟨.type n,_,_,_⟩=>n == "function"
 |_=>false
structure XcC(K:Frag)(C fI:Addr):Prop where
 ok:qc5 K C fI bV "ValueError.__new__" = true
 fn:qjo K fI=true
 kp:keepIn K (.ref C)=true
noncomputable def qhd(C:Addr)(sp:Sp)(E:XK)(t:TA):TS:=λ_ σ H=>t σ H λvs H1=>vs.length<=sizeLine/\∀x,H1 x=none->sp (.ref x::vs) (upd H1 x (qf3 x C none)) (λv H2=>v=.non/\∃od,H2 x=some (qf3 x C od)/\E (.ref C) od (rem H2 x)) E0
theorem qc7{k:Nat}{n:Str}{C fI:Addr}{fd:FuncData}{ps:List Str}{sp:Sp}{e0:Expr}{es:List Expr}{t:TA}{np cpos pos:Pos}(hex:X.ex=[])(hx:JE X E)(hc:X.calm=true)(hg:Gl X n)(hm:X.mg n=some (.ref C))(c:XcC X.K C fI)
  (F:FnOk X.prog X.w X.K X.mg X.base CX0 k fI fd ps sp) (hr:Room (k+1) X.A) (hb:qK X.K fd ps []) (ha:PA X (e0::es) t)
  (he:starEach (e0::es) X.env=(false,eval e0 X.env)::starEach es X.env) (hpl:(backTo cpos (starEach es X.env)).any (·.1)=false) (hdb:(n == ("__debug__" : Str))=false) :
  PS X (.Raise (some (.Call (.Name n np) (e0::es) [] cpos)) none pos) (qhd C sp E t):=by
 intro pins s σ H D I h;obtain⟨bm,N,nm,qn,bs,hd,sn,sub,ab,col,dd,k0,k1,k2,k3,k5,mN,hC,hN,hi,T⟩:=qeS I.mod.kin c.ok;have FB:=PySem.F.excBase_ValueError
 obtain⟨oI,hoI,hcI⟩:∃oI,X.K.lookup fI=some oI/\oI.cls=.type "function":=by
  have:=c.fn
  unfold qjo at this
  split at this
  ·rename_i q;exact⟨_,q,by rw[beq_iff_eq.mp this]⟩
  ·cases this
 have no:∀b:Addr,b∉X.ex:=λb z=>by rw[hex] at z;cases z
 refine qbQ (C:=C) (nm:=nm) (q:=qn) (N:=N) (bs:=bs) (bm:=bm) (hdct:=hd) (sn:=sn) (sub:=sub) (ab:=ab) (col:=col) (dd:=dd) (k0:=k0) (k1:=k1) (k2:=k2) (k3:=k3) (k5:=k5) (newId:="ValueError.__new__") (T.hasType FB.hasBase) (I.ok.hd hc) ?_;refine wpAny_Call_Name_kw (z7 I hg hm ?_ hdb);refine PySem.W.callWith_K (h₀:=X.base) I.ok.mod.kin c.kp (thn (ha cpos pins s σ H _ I h) λus s1 z=>?_) he hpl;obtain⟨vs,H1,I1,r,hl,q⟩:=z;refine⟨I1.kIn,?_⟩;obtain⟨hh,g,d,tk,os⟩:=s1;refine qbP FB (T.keeps I1.bk) (I1.bk _ _ hC) (hN.keeps I1.bk) hi (I1.bk _ _ (I.mod.kin _ _ hoI)) hcI (λh' e m=>?_) (by rw[List.nil_append,<-r.length];exact hl);have Ik:=I1.kept (t':=tk) m.keeps;have hn1:=I1.newH m.new;have h0:=I1.new0 (no e) m.new
 have hpin:∀p∈X.pn++pins,p.1≠e:=λp hp z=>by obtain⟨e',_⟩:=I1.pin p hp;rw[z,m.new] at e';cases e'
 obtain⟨t',ht,_⟩:=m.there;have I2:Inv X pins σ (upd H1 e (qf3 e C none)) _:=Ik.trk (x:=e) (qhc ht) ⟨_,_,ht,rfl⟩ hn1 h0 hpin;have hq:=q e hn1;have r2:qx (V.ref e::vs) (Value.ref e::us):=.cons rfl r
 have hln:(Value.ref e::us++[]).length=ps.length:=by
  have:=r2.length
  rw[F.len _ _ _ _ hq] at this;rw[List.append_nil];exact this.symm
 have hbn:=hb ⟨h',g,d,tk,os⟩ (Value.ref e::us) I2.kIn hln;rw[List.append_nil] at hbn;refine wpAny_call (codeAny_mono (F.run _ X.stack _ _ ⟨Value.ref e::us,[]⟩ (Value.ref e::us) _ _ E0 (hr.make C us []) (I2.env0.make C us []) hbn r2 hq) λres s' hq'=>?_)
 cases res with
 |error e=>exact False.elim hq'
 |ok fl=>
  cases fl with
  |ret u=>obtain⟨v,H',I3,rv,ev,od,hxe,q3⟩:=I2.after hq';subst ev;obtain⟨⟨v0,ho⟩,_⟩:=I3.hok e _ hxe;refine⟨rv,e,v0,od,#[],rfl,I3.bk _ _ hC,ho,hx pins σ (rem H' e) s' e C od (I3.untrk hxe) ⟨qaR,h0,(λT z=>by cases z),λp hp=>⟨hpin p hp,by simp⟩⟩ ⟨_,_,ho,rfl,rfl,rfl,rfl⟩ q3⟩
  |next=>exact False.elim hq'
  |brk=>exact False.elim hq'
  |cont=>exact False.elim hq'
end
end L2
namespace L2
open PySem PySem.Spec PyProof.Rows PySem.W
section
variable{prog:Program}{w:World}{A:Around}{E:PQ}{s:Shared}{K:Frag}{x C:Addr}{ox:Obj}
theorem qhe{name:Str}{v:Value}{expr:Bool}{od:Option Obj}{Q:PQ}(Y:K.In s.heap)(I:W.InstAt s.heap x ox C od)(hC:ExcIs K C)(hf:findObj K C od name=some (.value v))(hh:handedIn v=true)
  (h:Q v { s with toks:=s.toks+1 }):wpAny (model prog w) A (getAttr (.ref x) name expr) Q E s:=by
 obtain⟨hp,g,d,t,os⟩:=s;have L0:=I.type (M:=model prog w);have L1:=looks_findIn (M:=model prog w) Y hC.ga;have L2:=looks_findIn (M:=model prog w) Y hC.gh;have L3:=looks_find (M:=model prog w) Y I hf;have L4:=looks_mroIn (M:=model prog w) Y hC.base;have hbind:∀self,bindSpecial (.builtin "BaseException.__getattribute__") self=pure (.builtin "BaseException.__getattribute__",[self]):=λself=>by rfl
 unfold getAttr getAttrBy;refine wpAny_bind (wpAny_mkText (wpAny_holding (wpAny_bind (L0.at (wpAny_bind (L1.at ?_))))));show wpAny _ _ (getAttrByItsOwn _ _ _ _ _ _) _ _ _;unfold getAttrByItsOwn;refine wpAny_bind ?_;show wpAny _ _ (typeLookup (.ref C) "__getattr__") _ _ _;refine L2.at (wpAny_bind (wpAny_attempt (wpAny_holding ?_)));unfold callGetattribute;rw[if_neg (by cases expr<;>decide)];show wpAny _ _ (boundAndCalled _ _ _) _ _ _;unfold boundAndCalled;refine wpAny_bind ?_;rw[hbind];refine wpAny_pure ?_;refine wpAny_call (codeAny_call_builtin (by decide+kernel) F.entry_bexc_ga ?_);have hk:builtinKind "BaseException.__getattribute__" = some .slot:=by decide+kernel
 have hsp:splitId "BaseException.__getattribute__" = some ("BaseException","__getattribute__"):=by decide+kernel
 have LI:Looks (model prog w) hp (isInstance (.ref x) (.type "BaseException")) true:=L0.andThen L4;have hargs:=F.args_bexc_ga (.ref x) (.str name t);simp only[checkBuiltinCall,hk,hsp];refine wpAny_bind ?_;refine LI.at ?_;rw[if_neg (2:)];refine wpAny_of_eq hargs ?_;unfold Builtin.«object.__getattribute__»;refine wpAny_bind (wpAny_pure ?_);refine wpAny_bind (wpAny_pure ?_);refine wpAny_bind (L0.at (wpAny_bind (L3.at ?_)));exact wpAny_pure (handed_on hh h)
end
structure XcG(K:Frag)(C:Addr)(name:Str):Prop where
 is_:ExcIs K C
 no:findIn K (.ref C) name=some none
 hd:hasDictIn K C=true
section
variable{X:Cx}
noncomputable def tXf(K:Frag)(ta:TE)(f:Str):TE:=λσ H Q=>ta σ H λx H1=>∃a C dd fs v,x=.ref a/\H1 a=some (qek a C (some dd))/\H1 dd=some (xD dd fs)/\XcG K C f/\fs.lookup f=some v/\Q v H1
theorem qhf{e:Expr}{f:Str}{pos:Pos}{ta:TE}(he:PE X e ta)(hb:attributeBase e f X.env (eval e X.env)=eval e X.env):PE X (.Attribute e f pos) (tXf X.K ta f):=by
 intro pins s σ H Q I h;refine qcD hb (thn (he pins s σ H _ I h) λu s1 hq1=>?_);obtain⟨x,H1,I1,rx,a,C,dd,fs,v,ex,ea,ed,c,l,q⟩:=hq1;subst ex;obtain rfl:u=Value.ref a:=rx;obtain⟨o,e1,e2,e3,e4⟩:=(I1.hok a _ ea).1;obtain⟨mA,ns,r,_⟩:=(I1.hok dd _ ed).1;obtain⟨oo,hoo,hlk⟩:=QV ns;have J:InstAt s1.heap a o C (some oo):=⟨e1,e2,e4,by rw[e3];exact hoo⟩;have hr:=r f;rw[l] at hr
 cases hm:mA f with
 |none=>rw[hm] at hr;exact hr.elim
 |some w=>
  rw[hm] at hr
  have hw:handedIn w=true:=by
   have hr:qH v w:=hr
   cases v<;>first | (obtain⟨t,rfl⟩:=hr;rfl) | (cases hr;rfl)
  refine qhe I1.kIn J c.is_ (findObj_own c.hd c.no rfl (by rw[hlk,hm])) hw ⟨v,H1,I1.tok _,hr,q⟩
end
end L2
namespace DE
open PySem L2
inductive D where
 | non | bl (b:Bool) | int (n:Int) | str (s:Str) | lst (l:List D) | tup (l:List D) | ins (c:Str) (ns:List Str) (l:List D) | exc (C:Addr) (ns:List Str) (l:List D) | dct (ks:List Str) (l:List D)
 deriving Inhabited
abbrev KC:=Str->Option Addr
def kvX(ks:List Str)(xs:List V):List (Key×V):=(ks.zip xs).map λp=>(Sum.inr p.1,p.2)
mutual
noncomputable def Rep(κ:KC)(G:Hp):D->V->Prop
 |.non,v=>v=.non
 |.bl b,v=>v=.bl b
 |.int n,v=>v=.int n
 |.str s,v=>v=.str s
 |.lst ds,v=>∃a xs,v=.ref a/\G a=some (.lst xs)/\qo κ G ds xs
 |.tup ds,v=>∃a xs,v=.ref a/\G a=some (.tup xs)/\qo κ G ds xs
 |.ins c ns ds,v=>∃p dx C xs,κ c=some C/\v=.ref p/\G p=some (.ins C dx (ns.zip xs))/\xs.length=ns.length/\qo κ G ds xs
 |.exc C ns ds,v=>∃p od xs,v=.ref p/\G p=some (qek p C od)/\((od=none/\ns=[])\/∃dd,od=some dd/\G dd=some (xD dd (ns.zip xs)))/\qo κ G ds xs
 |.dct ks ds,v=>∃p xs,v=.ref p/\G p=some (.dK (kvX ks xs))/\xs.length=ks.length/\qo κ G ds xs
noncomputable def qo(κ:KC)(G:Hp):List D->List V->Prop
 |[],xs=>xs=[]
 | d::ds,xs=>∃x r,xs=x::r/\Rep κ G d x/\qo κ G ds r
end
mutual
theorem Rep.same{κ:KC}{G G':Hp}(e:qp G G'):∀{d:D} {v:V},Rep κ G d v->Rep κ G' d v
 |.non,v,h=>by simp only[Rep] at h ⊢;exact h
 |.bl b,v,h=>by simp only[Rep] at h ⊢;exact h
 |.int i,v,h=>by simp only[Rep] at h ⊢;exact h
 |.str x,v,h=>by simp only[Rep] at h ⊢;exact h
 |.lst ds,v,h=>by simp only[Rep] at h ⊢;obtain⟨a,xs,rfl,h1,h2⟩:=h;exact⟨a,xs,rfl,e _ _ h1,qo.same e h2⟩
 |.tup ds,v,h=>by simp only[Rep] at h ⊢;obtain⟨a,xs,rfl,h1,h2⟩:=h;exact⟨a,xs,rfl,e _ _ h1,qo.same e h2⟩
 |.ins c ns ds,v,h=>by simp only[Rep] at h ⊢;obtain⟨p,dx,C,xs,hc,rfl,h1,hl,h2⟩:=h;exact⟨p,dx,C,xs,hc,rfl,e _ _ h1,hl,qo.same e h2⟩
 |.exc C ns ds,v,h=>by
  simp only[Rep] at h ⊢;obtain⟨p,od,xs,rfl,h1,h3,h2⟩:=h;refine⟨p,od,xs,rfl,e _ _ h1,?_,qo.same e h2⟩;rcases h3 with z | ⟨dd,z1,z2⟩
  ·exact .inl z
  ·exact .inr ⟨dd,z1,e _ _ z2⟩
 |.dct ks ds,v,h=>by simp only[Rep] at h ⊢;obtain⟨p,xs,rfl,h1,hl,h2⟩:=h;exact⟨p,xs,rfl,e _ _ h1,hl,qo.same e h2⟩
theorem qo.same{κ:KC}{G G':Hp}(e:qp G G'):∀{ds:List D} {vs:List V},qo κ G ds vs->qo κ G' ds vs
 |[],vs,h=>by simp only[qo] at h ⊢;exact h
 | d::ds,vs,h=>by simp only[qo] at h ⊢;obtain⟨x,r,rfl,h1,h2⟩:=h;exact⟨x,r,rfl,Rep.same e h1,qo.same e h2⟩
end
section
variable{κ:KC}{G G':Hp}
theorem qo.nil:qo κ G [] []:=by simp only[qo]
theorem qo.cons{d:D}{ds:List D}{v:V}{vs:List V}(h:Rep κ G d v)(t:qo κ G ds vs):qo κ G (d::ds) (v::vs):=by simp only[qo];exact⟨v,vs,rfl,h,t⟩
theorem qo.len:∀{ds:List D} {vs:List V},qo κ G ds vs->ds.length=vs.length
 |[],vs,h=>by simp only[qo] at h;subst h;rfl
 | d::ds,vs,h=>by simp only[qo] at h;obtain⟨x,r,rfl,h1,h2⟩:=h;simp[qo.len h2]
theorem qo.app:∀{ds es:List D} {vs us:List V},qo κ G ds vs->qo κ G es us->qo κ G (ds++es) (vs++us)
 | [],es,vs,us,h,h'=>by simp only[qo] at h;subst h;exact h'
 | d::ds,es,vs,us,h,h'=>by simp only[qo] at h;obtain⟨x,r,rfl,h1,h2⟩:=h;exact qo.cons h1 (qo.app h2 h')
theorem qo.snoc{ds:List D}{vs:List V}{d:D}{v:V}(h:qo κ G ds vs)(h':Rep κ G d v):qo κ G (ds++[d]) (vs++[v]):=h.app %[h'|0]
theorem qo.drop:∀(n:Nat) {ds:List D} {vs:List V},qo κ G ds vs->qo κ G (ds.drop n) (vs.drop n)
 |0,_,_,h=>h
 | n+1,[],vs,h=>by simp only[qo] at h;subst h;exact .nil
 | n+1,d::ds,vs,h=>by simp only[qo] at h;obtain⟨x,r,rfl,h1,h2⟩:=h;exact qo.drop n h2
theorem qo.take:∀(n:Nat) {ds:List D} {vs:List V},qo κ G ds vs->qo κ G (ds.take n) (vs.take n)
 |0,_,_,h=>by simpa using qo.nil
 | n+1,[],vs,h=>by simp only[qo] at h;subst h;exact .nil
 | n+1,d::ds,vs,h=>by simp only[qo] at h;obtain⟨x,r,rfl,h1,h2⟩:=h;exact qo.cons h1 (qo.take n h2)
theorem qo.atD:∀{ds:List D} {vs:List V} {i:Nat} {d:D},qo κ G ds vs->ds[i]?=some d->∃v,vs[i]?=some v/\Rep κ G d v
 |[],vs,i,d,h,e=>by simp at e
 | d::ds,vs,0,d',h,e=>by simp only[qo] at h;obtain⟨x,r,rfl,h1,h2⟩:=h;simp at e;subst e;exact⟨x,rfl,h1⟩
 | d::ds,vs,i+1,d',h,e=>by simp only[qo] at h;obtain⟨x,r,rfl,h1,h2⟩:=h;obtain⟨v',e1,e2⟩:=qo.atD (i:=i) h2 (by simpa using e);exact⟨v',by simpa using e1,e2⟩
theorem qo.set:∀{ds:List D} {vs:List V} (i:Nat) {d:D} {v:V},qo κ G ds vs->Rep κ G d v->qo κ G (ds.set i d) (vs.set i v)
 | [],vs,i,d,v,h,h'=>by simp only[qo] at h;subst h;exact .nil
 | d::ds,vs,0,d',v,h,h'=>by simp only[qo] at h;obtain⟨x,r,rfl,h1,h2⟩:=h;exact qo.cons h' h2
 | d::ds,vs,i+1,d',v,h,h'=>by simp only[qo] at h;obtain⟨x,r,rfl,h1,h2⟩:=h;exact qo.cons h1 (qo.set i h2 h')
end
inductive Sl where
 | no | val (d:D) | own (l:List D) | bor (l:List D) | scr (l:List D)
abbrev Env:=List Sl
noncomputable def SlR(κ:KC)(K:Frag)(G H Hv:Hp):Sl->Option (Option V)->Prop
 |.no,_=>True
 |.val d,o=>∃v,o=some (some v)/\Rep κ G d v
 |.own ds,o=>∃a xs,o=some (some (.ref a))/\H a=some (.lst xs)/\Hv a=none/\G a=none/\qo κ G ds xs
 |.bor ds,o=>∃a xs,o=some (some (.ref a))/\Hv a=some (.lst xs)/\qo κ G ds xs
 |.scr ds,o=>∃a xs,o=some (some (.ref a))/\SqL K Hv a xs/\qo κ G ds xs
noncomputable def qbR(ρ:Env)(σ:St)(a:Addr):Prop:=∃(i:Nat) (l:List D),ρ[i]?=some (.own l)/\σ[i]?=some (some (.ref a))
structure ER(κ:KC)(K:Frag)(Gv Hv G H:Hp)(ρ:Env)(σ:St):Prop where
 len:ρ.length=σ.length
 sub:qp G H
 base:qp Hv H
 g0:qp Gv G
 fresh:∀a o,G a=some o->(∃o',Gv a=some o')\/Hv a=none
 sl:∀(i:Nat) (s:Sl),ρ[i]?=some s->SlR κ K G H Hv s σ[i]?
 ap:∀(i j:Nat) (a:Addr) (l m:List D),ρ[i]?=some (.own l)->ρ[j]?=some (.own m)->σ[i]?=some (some (.ref a))->σ[j]?=some (some (.ref a))->i=j
structure Po(κ:KC)(K:Frag)(Gv Hv:Hp)(σ:St)(G H:Hp)(ρ:Env)(G' H':Hp)(ρ':Env):Prop where
 er:ER κ K Gv Hv G' H' ρ' σ
 hs:qp H H'
 gs:qp G G'
 new:∀a o,G' a=some o->(∃o',G a=some o')\/H a=none\/qbR ρ σ a
 fz:∀(i:Nat) (l:List D),ρ'[i]?=some (.own l)->ρ[i]?=some (.own l)
theorem qp.none{H H':Hp}(e:qp H H'){a:Addr}(h:H' a=none):H a=none:=by
 cases q:H a with
 |none=>rfl
 |some o=>rw[e a o q] at h;cases h
section
variable{κ:KC}{K:Frag}{Gv Hv G H G' H' G'' H'':Hp}{ρ ρ' ρ'':Env}{σ:St}
theorem Po.refl(h:ER κ K Gv Hv G H ρ σ):Po κ K Gv Hv σ G H ρ G H ρ:=⟨h,λ_ _ e=>e,λ_ _ e=>e,λ_ o e=>.inl ⟨o,e⟩,λ_ _ e=>e⟩
theorem Po.trans(a:Po κ K Gv Hv σ G H ρ G' H' ρ')(b:Po κ K Gv Hv σ G' H' ρ' G'' H'' ρ''):Po κ K Gv Hv σ G H ρ G'' H'' ρ'':=
 ⟨b.er,λc o e=>b.hs c o (a.hs c o e),λc o e=>b.gs c o (a.gs c o e),λc o e=>by
  rcases b.new c o e with ⟨o',z⟩ | z | ⟨i,l,z1,z2⟩
  ·exact a.new c o' z
  ·exact .inr (.inl (qp.none a.hs z))
  ·exact .inr (.inr ⟨i,l,a.fz i l z1,z2⟩),λi l e=>a.fz i l (b.fz i l e)⟩
theorem SlR.grow(hs:qp H H')(gs:qp G G')(nw:∀a xs,H a=some (.lst xs)->Hv a=none->G a=none->G' a=none){s:Sl}{o:Option (Option V)}(h:SlR κ K G H Hv s o):SlR κ K G' H' Hv s o:=by
 cases s with
 |no=>trivial
 |val d=>obtain⟨v,e,r⟩:=h;exact⟨v,e,r.same gs⟩
 |own ds=>obtain⟨a,xs,e,h1,h2,h3,h4⟩:=h;exact⟨a,xs,e,hs _ _ h1,h2,nw a xs h1 h2 h3,h4.same gs⟩
 |bor ds=>obtain⟨a,xs,e,h1,h4⟩:=h;exact⟨a,xs,e,h1,h4.same gs⟩
 |scr ds=>obtain⟨a,xs,e,h1,h4⟩:=h;exact⟨a,xs,e,h1,h4.same gs⟩
theorem Po.more(h:ER κ K Gv Hv G H ρ σ)(hs:qp H H')(gs:qp G G')(sub:qp G' H')(new:∀a o,G' a=some o->(∃o',G a=some o')\/H a=none):Po κ K Gv Hv σ G H ρ G' H' ρ:=by
 refine⟨⟨h.len,sub,λb o e=>hs b o (h.base b o e),λb o e=>gs b o (h.g0 b o e),λa o e=>?_,λi s e=>(h.sl i s e).grow hs gs λa xs h1 h2 h3=>?_,h.ap⟩,hs,gs,λa o e=>?_,λ_ _ e=>e⟩
 ·rcases new a o e with ⟨o',z⟩ | z
  ·exact h.fresh a o' z
  ·exact .inr (qp.none h.base z)
 ·cases q:G' a with
  |none=>rfl
  |some o=>
   rcases new a o q with ⟨o',z⟩ | z
   ·rw[h3] at z;cases z
   ·rw[h1] at z;cases z
 ·rcases new a o e with z | z
  ·exact .inl z
  ·exact .inr (.inl z)
theorem Po.room(h:ER κ K Gv Hv G H ρ σ)(hs:qp H H'):Po κ K Gv Hv σ G H ρ G H' ρ:=
 Po.more h hs (λ_ _ e=>e) (λb o e=>hs b o (h.sub b o e)) λ_ o e=>.inl ⟨o,e⟩
theorem Po.lay(h:ER κ K Gv Hv G H ρ σ){a:Addr}{o:HO}(ha:H a=none):Po κ K Gv Hv σ G H ρ (upd G a o) (upd H a o) ρ:=by
 have ga:G a=none:=qp.none h.sub ha;refine Po.more h (qp.upd ha) (qp.upd ga) (λb u e=>?_) λb u e=>?_
 ·by_cases hb:b=a
  ·subst hb;rw[qg] at e ⊢;exact e
  ·rw[qe hb] at e ⊢;exact h.sub b u e
 ·by_cases hb:b=a
  ·subst hb;exact .inr ha
  ·rw[qe hb] at e;exact .inl ⟨u,e⟩
end
inductive Rv where
 | val (d:D) | tmp (l:List D) | cell (l:List D) | scr (l:List D)
noncomputable def RvR(κ:KC)(K:Frag)(Hv Hb G H:Hp)(ρ:Env)(σ:St):Rv->V->Prop
 |.val d,v=>Rep κ G d v
 |.tmp ds,v=>∃a xs,v=.ref a/\H a=some (.lst xs)/\Hb a=none/\Hv a=none/\G a=none/\¬ qbR ρ σ a/\qo κ G ds xs
 |.cell ds,v=>∃a xs,v=.ref a/\H a=some (.lst xs)/\qo κ G ds xs
 |.scr ds,v=>∃a xs,v=.ref a/\SqL K H a xs/\qo κ G ds xs
section
variable{κ:KC}{K:Frag}{Gv Hv Hb G H G' H':Hp}{ρ ρ':Env}{σ:St}
theorem RvR.keep{r:Rv}{v:V}(h:RvR κ K Hv Hb G H ρ σ r v)(p:Po κ K Gv Hv σ G H ρ G' H' ρ'):RvR κ K Hv Hb G' H' ρ' σ r v:=by
 cases r with
 |val d=>exact Rep.same p.gs h
 |tmp ds=>
  obtain⟨a,xs,rfl,h1,h2,h3,h4,h5,h6⟩:=h;refine⟨a,xs,rfl,p.hs _ _ h1,h2,h3,?_,λ⟨i,l,z1,z2⟩=>h5 ⟨i,l,p.fz i l z1,z2⟩,h6.same p.gs⟩
  cases q:G' a with
  |none=>rfl
  |some o=>
   rcases p.new a o q with ⟨o',z⟩ | z | z
   ·rw[h4] at z;cases z
   ·rw[h1] at z;cases z
   ·exact absurd z h5
 |cell ds=>obtain⟨a,xs,rfl,h1,h6⟩:=h;exact⟨a,xs,rfl,p.hs _ _ h1,h6.same p.gs⟩
 |scr ds=>obtain⟨a,xs,rfl,h1,h6⟩:=h;exact⟨a,xs,rfl,p.hs.seq h1,h6.same p.gs⟩
theorem RvR.back{Hc:Hp}{r:Rv}{v:V}(h:RvR κ K Hv Hc G H ρ σ r v)(e:qp Hb Hc):RvR κ K Hv Hb G H ρ σ r v:=by
 cases r with
 |val d=>exact h
 |tmp ds=>obtain⟨a,xs,rfl,h1,h2,h3,h4,h5,h6⟩:=h;exact⟨a,xs,rfl,h1,qp.none e h2,h3,h4,h5,h6⟩
 |cell ds=>exact h
 |scr ds=>exact h
noncomputable def Rv.list?:Rv->Option (List D)
 |.val (.lst l)=>some l
 |.tmp l=>some l
 |.cell l=>some l
 |.scr l=>some l
 |_=>none
noncomputable def Rv.plain?:Rv->Option (List D)
 |.val (.lst l)=>some l
 |.tmp l=>some l
 |.cell l=>some l
 |_=>none
theorem RvR.plain(er:ER κ K Gv Hv G H ρ σ){r:Rv}{v:V}{l:List D}(h:RvR κ K Hv Hb G H ρ σ r v)(e:r.plain?=some l):∃a xs,v=.ref a/\H a=some (.lst xs)/\qo κ G l xs:=by
 cases r with
 |val d=>
  cases d<;>simp only[Rv.plain?] at e<;>try (cases e)
  simp only[RvR,Rep] at h;obtain⟨a,xs,rfl,h1,h2⟩:=h;exact⟨a,xs,rfl,er.sub _ _ h1,h2⟩
 |tmp ds=>simp only[Rv.plain?] at e;cases e;obtain⟨a,xs,rfl,h1,_,_,_,_,h6⟩:=h;exact⟨a,xs,rfl,h1,h6⟩
 |cell ds=>simp only[Rv.plain?] at e;cases e;exact h
 |scr ds=>simp only[Rv.plain?] at e;cases e
theorem RvR.list(er:ER κ K Gv Hv G H ρ σ){r:Rv}{v:V}{l:List D}(h:RvR κ K Hv Hb G H ρ σ r v)(e:r.list?=some l):∃a xs,v=.ref a/\SqL K H a xs/\qo κ G l xs:=by
 cases r with
 |scr ds=>simp only[Rv.list?] at e;cases e;exact h
 |val d=>
  have e':(Rv.val d).plain?=some l:=by cases d<;>simp only[Rv.list?] at e<;>first | (cases e;rfl) | cases e
  obtain⟨a,xs,h1,h2,h3⟩:=h.plain er e';exact⟨a,xs,h1,SqL.of h2,h3⟩
 |tmp ds=>obtain⟨a,xs,h1,h2,h3⟩:=h.plain er (l:=l) e;exact⟨a,xs,h1,SqL.of h2,h3⟩
 |cell ds=>obtain⟨a,xs,h1,h2,h3⟩:=h.plain er (l:=l) e;exact⟨a,xs,h1,SqL.of h2,h3⟩
theorem Po.freeze{a:Addr}{xs:List V}{G1 H1:Hp}{ρ1:Env}(p:Po κ K Gv Hv σ G H ρ G1 H1 ρ1)(h1:H1 a=some (.lst xs))(h2:H a=none)(h3:Hv a=none)(h4:G1 a=none)(h5:¬ qbR ρ1 σ a):Po κ K Gv Hv σ G H ρ (upd G1 a (.lst xs)) H1 ρ1:=by
 have gs:qp G1 (upd G1 a (.lst xs)):=qp.upd h4;have er:=p.er;refine⟨⟨er.len,λb u e=>?_,er.base,λb o e=>gs b o (er.g0 b o e),λb o e=>?_,λi s e=>?_,er.ap⟩,p.hs,λb o e=>gs b o (p.gs b o e),λb o e=>?_,p.fz⟩
 ·by_cases hb:b=a
  ·subst hb;rw[qg] at e;cases e;exact h1
  ·rw[qe hb] at e;exact er.sub b u e
 ·by_cases hb:b=a
  ·subst hb;exact .inr h3
  ·rw[qe hb] at e;exact er.fresh b o e
 ·have q:=er.sl i s e
  cases s with
  |no=>trivial
  |val d=>obtain⟨v,z,r⟩:=q;exact⟨v,z,r.same gs⟩
  |own ds=>obtain⟨b,ys,z,q1,q2,q3,q4⟩:=q;have hb:b≠a:=λw=>h5 ⟨i,ds,e,by rw[<-w];exact z⟩;exact⟨b,ys,z,q1,q2,by rw[qe hb];exact q3,q4.same gs⟩
  |bor ds=>obtain⟨b,ys,z,q1,q4⟩:=q;exact⟨b,ys,z,q1,q4.same gs⟩
  |scr ds=>obtain⟨b,ys,z,q1,q4⟩:=q;exact⟨b,ys,z,q1,q4.same gs⟩
 ·by_cases hb:b=a
  ·subst hb;exact .inr (.inl h2)
  ·rw[qe hb] at e;exact p.new b o e
theorem ER.froze{i:Nat}{l:List D}(h:ER κ K Gv Hv G H ρ σ)(e:ρ[i]?=some (.own l)):∃a xs,σ[i]?=some (some (.ref a))/\Po κ K Gv Hv σ G H ρ (upd G a (.lst xs)) H (ρ.set i (.val (.lst l)))/\Rep κ (upd G a (.lst xs)) (.lst l) (.ref a):=by
 obtain⟨a,xs,z,h1,h2,h3,h4⟩:=h.sl i _ e;have gs:qp G (upd G a (.lst xs)):=qp.upd h3;have hi:i < ρ.length:=(List.getElem?_eq_some_iff.mp e).1;have rp:Rep κ (upd G a (.lst xs)) (.lst l) (.ref a):=by simp only[Rep];exact⟨a,xs,rfl,qg,h4.same gs⟩
 refine⟨a,xs,z,⟨⟨by rw[List.length_set];exact h.len,λb u q=>?_,h.base,λb o q=>gs b o (h.g0 b o q),λb o q=>?_,λj s q=>?_,λj k b m n q1 q2=>?_⟩,λ_ _ q=>q,gs,λb o q=>?_,λj m q=>?_⟩,rp⟩
 ·by_cases hb:b=a
  ·subst hb;rw[qg] at q;cases q;exact h1
  ·rw[qe hb] at q;exact h.sub b u q
 ·by_cases hb:b=a
  ·subst hb;exact .inr h2
  ·rw[qe hb] at q;exact h.fresh b o q
 ·by_cases hj:i=j
  ·subst hj;rw[List.getElem?_set_self hi] at q;cases q;exact⟨_,z,rp⟩
  ·rw[List.getElem?_set_ne hj] at q;have w:=h.sl j s q
   cases s with
   |no=>trivial
   |val d=>obtain⟨v,z,r⟩:=w;exact⟨v,z,r.same gs⟩
   |own ds=>obtain⟨b,ys,z',q1,q2,q3,q4⟩:=w;have hb:b≠a:=λu=>hj (h.ap i j a l ds e q z (by rw[<-u];exact z'));exact⟨b,ys,z',q1,q2,by rw[qe hb];exact q3,q4.same gs⟩
   |bor ds=>obtain⟨b,ys,z,q1,q4⟩:=w;exact⟨b,ys,z,q1,q4.same gs⟩
   |scr ds=>obtain⟨b,ys,z,q1,q4⟩:=w;exact⟨b,ys,z,q1,q4.same gs⟩
 ·have f:∀{j:Nat} {m:List D},(ρ.set i (.val (.lst l)))[j]?=some (.own m)->ρ[j]?=some (.own m):=λ{j m} q=>by
   by_cases hj:i=j
   ·subst hj;rw[List.getElem?_set_self hi] at q;cases q
   ·rw[List.getElem?_set_ne hj] at q;exact q
  exact h.ap j k b m n (f q1) (f q2)
 ·by_cases hb:b=a
  ·subst hb;exact .inr (.inr ⟨i,l,e,z⟩)
  ·rw[qe hb] at q;exact .inl ⟨o,q⟩
 ·by_cases hj:i=j
  ·subst hj;rw[List.getElem?_set_self hi] at q;cases q
  ·rw[List.getElem?_set_ne hj] at q;exact q
theorem ER.setVal{i:Nat}{d:D}{v:V}(h:ER κ K Gv Hv G H ρ σ)(r:Rep κ G d v):ER κ K Gv Hv G H (ρ.set i (.val d)) (σ.set i (some v)):=by
 refine⟨by rw[List.length_set,List.length_set];exact h.len,h.sub,h.base,h.g0,h.fresh,λj s q=>?_,λj k b m n q1 q2 q3 q4=>?_⟩
 ·by_cases hj:i=j
  ·subst hj;have hi:i < ρ.length:=by simpa using (List.getElem?_eq_some_iff.mp q).1
   rw[List.getElem?_set_self hi] at q;cases q;exact⟨v,by rw[List.getElem?_set_self (by rw[<-h.len];exact hi)],r⟩
  ·rw[List.getElem?_set_ne hj] at q ⊢;exact h.sl j s q
 ·have f:∀{j:Nat} {m:List D},(ρ.set i (.val d))[j]?=some (.own m)->i≠j/\ρ[j]?=some (.own m):=λ{j m} q=>by
   by_cases hj:i=j
   ·subst hj;have hi:i < ρ.length:=by simpa using (List.getElem?_eq_some_iff.mp q).1
    rw[List.getElem?_set_self hi] at q;cases q
   ·rw[List.getElem?_set_ne hj] at q;exact⟨hj,q⟩
  obtain⟨n1,e1⟩:=f q1;obtain⟨n2,e2⟩:=f q2;rw[List.getElem?_set_ne n1] at q3;rw[List.getElem?_set_ne n2] at q4;exact h.ap j k b m n e1 e2 q3 q4
theorem ER.setOwn{i:Nat}{l:List D}{a:Addr}{xs:List V}(h:ER κ K Gv Hv G H ρ σ)(h1:H a=some (.lst xs))(h2:Hv a=none)(h3:G a=none)(h4:¬ qbR ρ σ a)(r:qo κ G l xs):ER κ K Gv Hv G H (ρ.set i (.own l)) (σ.set i (some (.ref a))):=by
 have f:∀{j:Nat} {m:List D},(ρ.set i (.own l))[j]?=some (.own m)->i≠j->ρ[j]?=some (.own m):=λ{j m} q hj=>by rw[List.getElem?_set_ne hj] at q;exact q
 refine⟨by rw[List.length_set,List.length_set];exact h.len,h.sub,h.base,h.g0,h.fresh,λj s q=>?_,λj k b m n q1 q2 q3 q4=>?_⟩
 ·by_cases hj:i=j
  ·subst hj;have hi:i < ρ.length:=by simpa using (List.getElem?_eq_some_iff.mp q).1
   rw[List.getElem?_set_self hi] at q;cases q;exact⟨a,xs,by rw[List.getElem?_set_self (by rw[<-h.len];exact hi)],h1,h2,h3,r⟩
  ·rw[List.getElem?_set_ne hj] at q ⊢;exact h.sl j s q
 ·by_cases hj:i=j
  ·by_cases hk:i=k
   ·lia
   ·subst hj;have hi:i < σ.length:=by simpa using (List.getElem?_eq_some_iff.mp q3).1
    rw[List.getElem?_set_self hi] at q3;rw[List.getElem?_set_ne hk] at q4;cases q3;exact absurd ⟨k,n,f q2 hk,q4⟩ h4
  ·by_cases hk:i=k
   ·subst hk;have hi:i < σ.length:=by simpa using (List.getElem?_eq_some_iff.mp q4).1
    rw[List.getElem?_set_self hi] at q4;rw[List.getElem?_set_ne hj] at q3;cases q4;exact absurd ⟨j,m,f q1 hj,q3⟩ h4
   ·rw[List.getElem?_set_ne hj] at q3;rw[List.getElem?_set_ne hk] at q4;exact h.ap j k b m n (f q1 hj) (f q2 hk) q3 q4
theorem ER.write{i:Nat}{l m:List D}{a:Addr}{ys:List V}(h:ER κ K Gv Hv G H ρ σ)(e:ρ[i]?=some (.own l))(z:σ[i]?=some (some (.ref a)))(r:qo κ G m ys):ER κ K Gv Hv G (upd H a (.lst ys)) (ρ.set i (.own m)) σ:=by
 obtain⟨a',xs,z',h1,h2,h3,h4⟩:=h.sl i _ e;have ea:a'=a:=by rw[z'] at z;injection z with z;injection z with z;injection z
 subst ea;have hi:i < ρ.length:=(List.getElem?_eq_some_iff.mp e).1;refine⟨by rw[List.length_set];exact h.len,λb u q=>?_,λb u q=>?_,h.g0,h.fresh,λj s q=>?_,λj k b m' n q1 q2=>?_⟩
 ·have hb:b≠a':=λw=>by rw[w,h3] at q;cases q
  rw[qe hb];exact h.sub b u q
 ·have hb:b≠a':=λw=>by rw[w,h2] at q;cases q
  rw[qe hb];exact h.base b u q
 ·by_cases hj:i=j
  ·subst hj;rw[List.getElem?_set_self hi] at q;cases q;exact⟨a',ys,z',qg,h2,h3,r⟩
  ·rw[List.getElem?_set_ne hj] at q;have w:=h.sl j s q
   cases s with
   |no=>trivial
   |val d=>exact w
   |own ds=>obtain⟨b,zs,z2,q1,q2,q3,q4⟩:=w;have hb:b≠a':=λu=>hj (h.ap i j a' l ds e q z' (by rw[<-u];exact z2));exact⟨b,zs,z2,by rw[qe hb];exact q1,q2,q3,q4⟩
   |bor ds=>exact w
   |scr ds=>exact w
 ·have f:∀{j:Nat} {n:List D},(ρ.set i (.own m))[j]?=some (.own n)->∃n',ρ[j]?=some (.own n'):=λ{j n} q=>by
   by_cases hj:i=j
   ·subst hj;exact⟨l,e⟩
   ·rw[List.getElem?_set_ne hj] at q;exact⟨n,q⟩
  obtain⟨_,e1⟩:=f q1;obtain⟨_,e2⟩:=f q2;exact h.ap j k b _ _ e1 e2
end
end DE
namespace DE
open PySem L2
inductive Sk where
 | lst | tup | str
def qbS(s:Str):List D:=s.cps.toList.map λc=>D.str ⟨#[c]⟩
inductive R(α:Type) where
 | ok (a:α) | exc (c:Addr) (l:List (Str×D)) | no
def R.th{α β:Type}:R α->(α->R β)->R β
 |.ok a,f=>f a
 |.exc c l,_=>.exc c l
 |.no,_=>.no
def R.of{α:Type}:Option α->R α
 |some a=>.ok a
 |none=>.no
mutual
noncomputable def toP:D->Option PyData
 |.non=>some .none
 |.bl b=>some (.bool b)
 |.int n=>some (.int n)
 |.str s=>some (.str s)
 |.lst l=>(qix l).map .list
 |.tup l=>(qix l).map .tuple
 |.ins ..=>none
 |.exc ..=>none
 |.dct ..=>none
noncomputable def qix:List D->Option (List PyData)
 |[]=>some []
 | d::l=>(toP d).bind λp=>(qix l).map (p :: ·)
end
def Rv.data:Rv->D
 |.val d=>d
 |.tmp l=>.lst l
 |.cell l=>.lst l
 |.scr l=>.lst l
inductive Ar where
 | val (d:D) | bor (l:List D) | scr (l:List D)
structure Xs where
 xa:Str->Addr:=λ_=>0
 xn:Str->Option (List Str):=λ_=>none
 xs:Addr->Str->Option Bool:=λ_ _=>none
 xg:Addr->Str->Bool:=λ_ _=>false
 xt:List Str:=[]
structure Cs extends Xs where
 tab:List Str
 fld:Str->Str->Bool
 mt:Str->Str->Option Str
 sub:Str->Str->Option Bool
def Cs.non:Cs:={ tab:=[],fld:=λ_ _=>false,mt:=λ_ _=>none,sub:=λ_ _=>none }
structure Ct where
 N:List Str
 sc:Scope
 tab:List Str
 gl:Str->Option D
 cl:Str->List Ar->R Rv
 cs:Cs
 nw:Str->List Ar->R Rv
noncomputable def qck:List Str->Str->Option Nat
 |[],_=>none
 | y::r,x=>if y=x then some 0 else (qck r x).map (· + 1)
noncomputable def qjp(sc:Scope)(x:Str):Bool:=match sc.names.lookup x with
 |some .local=>true
 |some .cell=>true
 |some .free=>true
 |_=>false
noncomputable def qjq(sc:Scope)(x:Str):Bool:=match sc.names.lookup x with
 |some .local=>true
 |some .cell=>true
 |_=>false
def glB(sc:Scope)(x:Str):Bool:=sc.names.lookup x == some .globalImplicit
noncomputable def zt(x:Str):Bool:=!(x == ("__debug__" : Str))&&!(x == ("__classdict__" : Str))&&!(x == ("__name__" : Str))
def oif{α:Type}(c:Bool)(a:Option α):Option α:=match c with
 |true=>a
 |false=>none
def qel(Γ:Ct)(x:Str):Option Nat:=oif (zt x&&qjp Γ.sc x) (qck Γ.N x)
def isF(Γ:Ct)(it:Expr):Option Nat:=none
noncomputable def slC(ρ:Env)(i:Nat):R (List D):=match ρ[i]? with
 |some (.own l)=>.ok l
 |some (.val (.lst l))=>.ok l
 |some (.val (.tup l))=>.ok l
 |_=>.no
def Rv.int?:Rv->Option Int
 |.val (.int i)=>some i
 |_=>none
def Rv.str?:Rv->Option Str
 |.val (.str i)=>some i
 |_=>none
def Rv.bl?:Rv->Option Bool
 |.val (.bl i)=>some i
 |_=>none
def Rv.tup?:Rv->Option (List D)
 |.val (.tup i)=>some i
 |_=>none
noncomputable def qem(i j:Int):Bool:=(decide (-(2 ^ 64) < i)&&decide (i < 2 ^ 64))||(decide (-(2 ^ 64) < j)&&decide (j < 2 ^ 64))
noncomputable def int2(x y:Rv)(f:Int->Int->R Rv):R Rv:=match x.int?,y.int? with
 |some i,some j=>f i j
 |_,_=>.no
noncomputable def ql3(x y:Rv):R Rv:=match x.int?,y.int? with
 |some i,some j=>.ok (.val (.int (i+j)))
 |_,_=>match x.str?,y.str? with
  |some a,some b=>if a.length+b.length<=sizeLine then .ok (.val (.str (a++b))) else .no
  |_,_=>match x.plain?,y.plain? with
   |some l,some m=>if l.length+m.length<=sizeLine then .ok (.tmp (l++m)) else .no
   |_,_=>.no
noncomputable def ql4(x y:Rv):R Rv:=match x.int?,y.int? with
 |some i,some j=>if qem i j=true then .ok (.val (.int (i * j))) else .no
 |none,some j=>(match x.plain? with
  |some l=>if (0<=j/\j < 1000)/\l.length * j.toNat<=sizeLine then .ok (.tmp (List.replicate j.toNat l).flatten) else .no
  |none=>.no)
 |_,_=>.no
noncomputable def Zd(op:Operator)(x y:Rv):R Rv:=match op with
 |.Add=>ql3 x y
 |.Sub=>int2 x y λi j=>.ok (.val (.int (i - j)))
 |.Mult=>ql4 x y
 |.FloorDiv=>int2 x y λi j=>if 0 < j/\j < 1073741824 then .ok (.val (.int (i / j))) else .no
 |.Mod=>int2 x y λi j=>if 0 < j then .ok (.val (.int (i % j))) else .no
 |.Pow=>int2 x y λi j=>if 0<=j/\j<=1000000/\i.natAbs < 2 ^ 64 then .ok (.val (.int (i ^ j.toNat))) else .no
 |_=>.no
noncomputable def eqD(x y:D):Option Bool:=match toP x,toP y with
 |some p,some q=>if SeqAt.shaped p&&SeqAt.shaped q then some (PyData.eqv p q) else none
 |_,_=>none
def Yy:D->Bool
 |.non=>true
 |.bl _=>true
 |.int _=>true
 |.str _=>true
 |_=>false
def seqD(r:Rv):Option (List D):=match r.tup? with
 |some l=>some l
 |none=>r.list?
def flV:D->V
 |.bl b=>.bl b
 |.int n=>.int n
 |.str s=>.str s
 |_=>.non
noncomputable def inD(x:D)(l:List D):Option Bool:=if (Yy x&&l.all Yy)=true then some (inV (flV x) (l.map flV)) else none
noncomputable def qiy(x y:Rv)(f:Int->Int->Bool):Option Bool:=match x.int?,y.int? with
 |some i,some j=>some (f i j)
 |_,_=>none
def Rv.non?:Rv->Bool
 |.val .non=>true
 |_=>false
def qhg(a b:Str):Bool:=!(Builtin.Str.occurrences b a 0 b.length 1).isEmpty
noncomputable def qen(x y:Rv):Option Bool:=match x.str?,y.str? with
 |some a,some b=>some (qhg a b)
 |_,_=>(seqD y).bind (inD x.data)
def qc8:List D->Option (List Int)
 |[]=>some []
 | .int i::l=>(qc8 l).map (i :: ·)
 |_=>none
def ltD(x y:Rv):Option Bool:=qiy x y λi j=>decide (i < j)
noncomputable def JS(op:CmpOp)(x y:Rv):Option Bool:=match op with
 |.Eq=>eqD x.data y.data
 |.NotEq=>(eqD x.data y.data).map (!·)
 |.Lt=>ltD x y
 |.LtE=>qiy x y λi j=>decide (i<=j)
 |.Gt=>qiy x y λi j=>decide (j < i)
 |.GtE=>qiy x y λi j=>decide (j<=i)
 |.Is=>if y.non? then some x.non? else none
 |.IsNot=>if y.non? then some (!x.non?) else none
 |.In=>qen x y
 |.NotIn=>(qen x y).map (!·)
def qn0(x y:Rv):R Rv:=.no
noncomputable def idxD(x y:Rv):R Rv:=match y.int? with
 |some i=>(match x.str? with
  |some z=>if z.length<=sizeLine then (match atI z.cps.toList i with |some c=>.ok (.val (.str ⟨#[c]⟩)) |none=>.no) else .no
  |none=>match seqD x with
   |some l=>(match atI l i with |some d=>.ok (.val d) |none=>.no)
   |none=>.no)
 |none=>qn0 x y
noncomputable def qeo(l:List D)(lo hi:Option Int):List D:=(l.drop (HT.sIx l.length 0 lo)).take (HT.sIx l.length l.length hi - HT.sIx l.length 0 lo)
noncomputable def sliceD(r:Rv)(lo hi:Option Int):R Rv:=match r.str? with
 |some z=>if z.length<=sizeLine then .ok (.val (.str (Txt.slice z lo hi))) else .no
 |none=>(R.of r.list?).th λl=>.ok (.tmp (qeo l lo hi))
noncomputable def truthD(r:Rv):Option Bool:=match r with
 |.val .non=>some false
 |.val (.bl b)=>some b
 |.val (.int i)=>some (i != 0)
 |.val (.str s)=>if s.length<=sizeLine then some ((s.length:Int) != 0) else none
 |r=>(seqD r).map λl=>!l.isEmpty
noncomputable def qep(cs:Cs)(r:Rv)(t:Str):Option Bool:=match r with
 |.val (.ins c _ _)=>cs.sub c t
 |.val (.exc C _ _)=>cs.xs C t
 |_=>none
noncomputable def qls(cs:Cs)(C:Addr):List Str->Option Bool
 |[]=>some false
 | t::l=>(cs.xs C t).bind λb=>(qls cs C l).map (b || ·)
noncomputable def qiz(cs:Cs)(r:Rv)(ts:List Str):Option Bool:=match r with
 |.val (.exc C _ _)=>qls cs C ts
 |_=>none
noncomputable def qcl(cs:Cs)(r:Rv)(x:Str):Option D:=match r with
 |.val (.ins c ns ds)=>if cs.fld c x then (ns.zip ds).lookup x else none
 |.val (.exc C ns ds)=>if cs.xg C x then (ns.zip ds).lookup x else none
 |_=>none
noncomputable def mtD(cs:Cs)(r:Rv)(x:Str):Option Str:=match r with
 |.val (.ins c ns _)=>if ns.contains x then none else cs.mt c x
 |_=>none
def ixM(r:Rv)(as:List Ar):R Rv:=.no
def qn1(x a:Str)(as:List Ar):R Rv:=.no
noncomputable def bmD(x:Str)(r:Rv)(as:List Ar):R Rv:=match r with
 |.val (.str a)=>qn1 x a as
 |r=>if x = "index" then ixM r as else .no
noncomputable def qn2:D->Option Str
 |.int n=>if n.natAbs.log2 < 1920 then some (Str.ofString (toString n)) else none
 |.str z=>if z.length<=3000 then some z else none
 |_=>none
noncomputable def qmW(acc:Str):List D->Option Str
 |[]=>some acc
 | d::l=>(qn2 d).bind λy=>if (acc++y).length<=sizeLine then qmW (acc++y) l else none
def yK:Expr->Bool
 |.Constant (.str _) _ _=>true
 |.Name ..=>true
 |.Subscript ..=>true
 |_=>false
noncomputable def lenD(r:Rv):R Rv:=match r.str? with
 |some s=>if s.length<=sizeLine then .ok (.val (.int s.length)) else .no
 |none=>match seqD r with
  |some l=>.ok (.val (.int l.length))
  |none=>.no
def listD(r:Rv):R Rv:=match seqD r with
 |some l=>.ok (.tmp l)
 |none=>.no
def qn3(r:Rv):R Rv:=.no
noncomputable def intD(r:Rv):R Rv:=match r.int? with
 |some i=>.ok (.val (.int i))
 |none=>match r.bl? with
  |some b=>.ok (.val (.int (if b then 1 else 0)))
  |none=>qn3 r
def prD:D->Option (Int×Int)
 |.tup [.int a,.int b]=>some (a,b)
 |_=>none
noncomputable def qf4:List D->Option (List (Int×Int))
 |[]=>some []
 | d::l=>match prD d,qf4 l with
  |some p,some ps=>some (p::ps)
  |_,_=>none
def pD(p:Int×Int):D:=.tup [.int p.1,.int p.2]
def Ze(p q:Int×Int):Bool:=decide (p.1 < q.1)||(decide (p.1=q.1)&&decide (p.2<=q.2))
def yL(ps:List (Int×Int)):List (Int×Int):=ps.mergeSort Ze
noncomputable def Qe(r:Rv):R Rv:=match r.list? with
 |some l=>(match qf4 l with |some ps=>if ps.length < 64 then .ok (.tmp ((yL ps).map pD)) else .no |none=>.no)
 |none=>.no
noncomputable def ql5(r:Rv):R Rv:=match r.list? with
 |some l=>(match qc8 l with |some ns=>.ok (.val (.int ns.sum)) |none=>.no)
 |none=>.no
noncomputable def qlt:Option Expr->Option Expr->Expr->Bool
 |none,none,.UnaryOp .USub (.Constant (.int 1) _ _) _=>true
 |_,_,_=>false
def qE:Expr->Bool
 |.Starred ..=>true
 |_=>false
noncomputable def strD(r:Rv):R Rv:=match r.int? with
 |some i=>if i.natAbs.log2 < 1920 then .ok (.val (.str (Str.ofString (toString i)))) else .no
 |none=>.no
def tupD(r:Rv):R Rv:=match r.list? with
 |some l=>.ok (.val (.tup l))
 |none=>.no
def qmX(r:Rv):R Rv:=.no
def kvD:D->Option (Str×Int)
 |.tup [.str s,.int n]=>some (s,n)
 |_=>none
noncomputable def qmY:List D->Option (List (Str×Int))
 |[]=>some []
 | d::l=>match kvD d,qmY l with
  |some p,some ps=>some (p::ps)
  |_,_=>none
def qn4(kvs:List (Str×Int))(k:Str):Option Int:=(kvs.find? λkv=>decide (kv.1=k)).map (·.2)
noncomputable def ql6(n:Int)(x y:Rv):R Rv:=match x.list?,y.str? with
 |some l,some k=>(match qmY l with |some kvs=>if (kvs.map (·.1)).Nodup then .ok (.val (.int ((qn4 kvs k).getD n))) else .no |none=>.no)
 |_,_=>.no
def dgE(Γ:Ct)(o:Expr)(x:Str)(es:List Expr)(b:Bool):Option (Expr×Expr×Int):=none
def maxD(x y:Rv):R Rv:=int2 x y λi j=>.ok (.val (.int (if j > i then j else i)))
def minD(x y:Rv):R Rv:=int2 x y λi j=>.ok (.val (.int (if j < i then j else i)))
def Zf:Expr->Bool
 |.Set ..=>false
 |_=>true
noncomputable def zF:Expr->Option (List Str)
 |.Name x _=>some [x]
 |.Tuple es _ _=>es.foldr (λe r=>match e,r with |.Name x _,some l=>some (x::l) |_,_=>none) (some [])
 |_=>none
def qeU:Expr->Bool
 |.Tuple ..=>true
 |_=>false
def qeV:Sl->Sl
 |.own l=>.bor l
 |s=>s
noncomputable def YM(N:List Str)(sc:Scope):List Nat:=(List.range N.length).filter λi=>sc.names.lookup (N.getD i "") == some .free
def JT(l:List D):List D:=(List.range l.length).zipWith (λ(i:Nat) d=>D.tup [.int i,d]) l
def qbT(l m:List D):List D:=List.zipWith (λa b=>D.tup [a,b]) l m
def zG(lo hi:Int):List D:=(List.range (hi - lo).toNat).map λi:Nat=>D.int (lo+i)
def qhh(lo hi c:Int):List D:=(List.range (rsz lo hi c)).map λi:Nat=>D.int (lo+i * c)
noncomputable def rgB(i j c:Int):Bool:=decide (-(2 ^ 60)<=i)&&decide (i < 2 ^ 60)&&decide (-(2 ^ 60)<=j)&&decide (j < 2 ^ 60)&&decide (0 < c)&&decide (c < 2 ^ 30)
noncomputable def rg3(x y z:Rv):R (List D):=match x.int?,y.int?,z.int? with
 |some i,some j,some c=>if rgB i j c=true then .ok (qhh i j c) else .no
 |_,_,_=>.no
def qf5(i:Int):Bool:=decide (-(2 ^ 62)<=i)&&decide (i < 2 ^ 62)
def lrE(Γ:Ct)(f:Str)(a:Expr):Option (Expr×Expr):=none
noncomputable def lrD(x y:Rv):R Rv:=match x.int?,y.int? with
 |some i,some j=>if qf5 i=true/\qf5 j=true/\(j - i).toNat<=10000 then .ok (.tmp (zG i j)) else .no
 |_,_=>.no
def irE(Γ:Ct)(op:CmpOp)(b:Expr):Option Expr:=none
noncomputable def qn5(x y:Rv):R Rv:=match x.int?,y.int? with
 |some i,some j=>.ok (.val (.bl (!decide (0<=i/\i < j))))
 |_,_=>.no
def qX(i:Int):Bool:=decide (-(2 ^ 62)<=i)&&decide (i < 2 ^ 62)
noncomputable def qc9(asg:D->Env->R Env)(test:Env->R (Bool×Env))(elt:Env->R (D×Env)):List D->Env->List D->R (List D)
 |[],_,acc=>.ok acc
 | d::ds,ρ,acc=>(asg d ρ).th λρ1=>(test ρ1).th λbt=>if bt.1 then (elt bt.2).th λx=>if acc.length < sizeLine then qc9 asg test elt ds x.2 (acc++[x.1]) else .no else qc9 asg test elt ds bt.2 acc
inductive Fl where
 | next (ρ:Env) | ret (r:Rv)
def y8:Expr->Bool
 |.ListComp ..=>false
 |.SetComp ..=>false
 |.DictComp ..=>false
 |_=>true
def Qf:Expr->Bool
 |.Slice ..=>false
 |_=>true
noncomputable def qeW(step:D->Env->R Fl):List D->Env->R Fl
 |[],ρ=>.ok (.next ρ)
 | d::ds,ρ=>(step d ρ).th λf=>match f with
  |.next ρ1=>qeW step ds ρ1
  |.ret r=>.ok (.ret r)
noncomputable def whL(test:Env->R (Bool×Env))(body:Env->R Fl):Nat->Env->R Fl
 |0,_=>.no
 | n+1,ρ=>(test ρ).th λb=>if b.1 then (body b.2).th λf=>(match f with
  |.next ρ1=>whL test body n ρ1
  |.ret r=>.ok (.ret r)) else .ok (.next b.2)
end DE
namespace DE
open PySem L2
inductive B1 where
 | len | list | int | srt | sum | all | str | tup
inductive B2 where
 | max | min | get (n:Int) | rng | inr
inductive Ty where
 | int | bool | str | list | tuple
inductive Tg where
 | one (i:Nat) | many (l:List Nat)
structure Cl where
 f:Str->List Ar->R Rv
 cs:Cs
 nw:Str->List Ar->R Rv
instance:CoeFun Cl (λ_=>Str->List Ar->R Rv):=⟨Cl.f⟩
mutual
inductive E where
 | var (i:Nat) | con (d:D) | bin (op:Operator) (a b:E) | neg (a:E) | not (a:E) | one (a:E) | and (a b:E) | or (a b:E) | cmp (op:CmpOp) (a b:E) | ite (c:T) (a b:E)
 | idx (a i:E) | sli (a:E) (lo hi:O) | rvs (a:E) | lst (l:Es) | tup (l:Es) | call (f:Str) (l:Es) | calF (f:Str) (l:Es) | b1 (f:B1) (a:E) | b2 (f:B2) (a b:E) | isi (t:Ty) (a:E) | isc (t:Str) (a:E) | isn (ts:List Str) (a:E) | fld (a:E) (x:Str) | met (a:E) (x:Str) (l:Es) | new (f:Str) (l:Es) | fst (l:Es) | dct (ks:List Str) (l:Es) | comp (x:E) (src:I) (tg:Tg) (c:F) (n:Nat) (fr:List Nat)
inductive Es where
 | nil | cons (a:E) (l:Es)
inductive T where
 | not (a:T) | one (a:T) | and (a b:T) | or (a b:T) | cmp (op:CmpOp) (a b:E) | chn (op op':CmpOp) (a b c:E) | val (a:E)
inductive O where
 | none | some (a:E)
inductive F where
 | yes | test (c:T)
inductive I where
 | nam (i:Nat) | seq (a:E) | rng (a:E) | rng2 (a b:E) | rng3 (a b c:E) | enum (a:E) | zip (a b:E) | rev (a:E)
end
noncomputable def slR(ρ:Env)(i:Nat):R Rv:=match ρ[i]? with
 |some (.val d)=>.ok (.val d)
 |some (.own l)=>.ok (.cell l)
 |some (.bor l)=>.ok (.cell l)
 |some (.scr l)=>.ok (.scr l)
 |_=>.no
noncomputable def slE(ρ:Env)(i:Nat):R (D×Env):=match ρ[i]? with
 |some (.val d)=>.ok (d,ρ)
 |some (.own l)=>.ok (.lst l,ρ.set i (.val (.lst l)))
 |_=>.no
noncomputable def slL(ρ:Env)(i:Nat):R ((Sk×List D)×Env):=match ρ[i]? with
 |some (.val (.lst l))=>.ok ((.lst,l),ρ)
 |some (.val (.tup l))=>.ok ((.tup,l),ρ)
 |some (.val (.str z))=>.ok ((.str,qbS z),ρ)
 |some (.own l)=>.ok ((.lst,l),ρ.set i (.val (.lst l)))
 |some (.bor l)=>.ok ((.lst,l),ρ)
 |some (.scr l)=>.ok ((.lst,l),ρ)
 |_=>.no
noncomputable def slX(ρ:Env)(i:Nat):R Rv:=match ρ[i]? with
 |some (.val d)=>.ok (.val d)
 |some (.own l)=>.ok (.tmp l)
 |_=>.no
noncomputable def B1.go:B1->Rv->R Rv
 |.len=>lenD
 |.list=>listD
 |.int=>intD
 |.srt=>Qe
 |.sum=>ql5
 |.all=>qmX
 |.str=>strD
 |.tup=>tupD
def B2.go:B2->Rv->Rv->R Rv
 |.max=>maxD
 |.min=>minD
 |.get n=>ql6 n
 |.rng=>lrD
 |.inr=>qn5
noncomputable def Ty.of:Ty->D->Option Bool
 |_,.ins ..=>none
 |_,.exc ..=>none
 |_,.dct ..=>none
 |.int,.int _=>some true
 |.int,.bl _=>some true
 |.bool,.bl _=>some true
 |.str,.str _=>some true
 |.list,.lst _=>some true
 |.tuple,.tup _=>some true
 |_,_=>some false
def Ty.go(t:Ty):Rv->Option Bool
 |.scr _=>none
 |r=>t.of r.data
noncomputable def Qg:List Nat->List D->Env->R Env
 |[],[],ρ=>.ok ρ
 | i::l,d::ds,ρ=>Qg l ds (ρ.set i (.val d))
 |_,_,_=>.no
noncomputable def Tg.go:Tg->D->Env->R Env
 |.one i,d,ρ=>.ok (ρ.set i (.val d))
 |.many l,.tup ds,ρ=>Qg l ds ρ
 |_,_,_=>.no
def toAr:Rv->Ar
 |.val d=>.val d
 |.tmp l=>.val (.lst l)
 |.cell l=>.bor l
 |.scr l=>.scr l
def JU(n:Nat)(fr:List Nat)(ρ:Env):Env:=List.replicate n Sl.no++fr.map λi=>qeV (ρ.getD i .no)
noncomputable def qbU(x:Rv×Env):R (D×Env):=match x.1 with
 |.val d=>.ok (d,x.2)
 |.tmp l=>.ok (.lst l,x.2)
 |_=>.no
noncomputable def qeq(x:Rv×Env):R ((Sk×List D)×Env):=match x.1 with
 |.val (.lst l)=>.ok ((.lst,l),x.2)
 |.val (.tup l)=>.ok ((.tup,l),x.2)
 |.val (.str z)=>.ok ((.str,qbS z),x.2)
 |.tmp l=>.ok ((.lst,l),x.2)
 |_=>.no
noncomputable def ze(e:E)(r:Env->R (Rv×Env))(ρ:Env):R (D×Env):=match e with
 |.var i=>slE ρ i
 |.con d=>.ok (d,ρ)
 |_=>(r ρ).th qbU
noncomputable def jf(e:E)(r:Env->R (Rv×Env))(ρ:Env):R ((Sk×List D)×Env):=match e with
 |.var i=>slL ρ i
 |_=>(r ρ).th qeq
mutual
noncomputable def iR(cl:Cl):E->Env->R (Rv×Env)
 |.var i,ρ=>(slR ρ i).th λr=>.ok (r,ρ)
 |.con d,ρ=>.ok (.val d,ρ)
 |.bin op a b,ρ=>(iR cl a ρ).th λx=>(iR cl b x.2).th λy=>(Zd op x.1 y.1).th λr=>.ok (r,y.2)
 |.neg a,ρ=>(iR cl a ρ).th λx=>match x.1 with
  |.val (.int i)=>.ok (.val (.int (-i)),x.2)
  |_=>.no
 |.not a,ρ=>(iR cl a ρ).th λx=>match x.1 with
  |.val (.bl b)=>.ok (.val (.bl (!b)),x.2)
  |_=>.no
 |.one a,ρ=>iR cl a ρ
 |.and a b,ρ=>(iR cl a ρ).th λx=>match x.1 with
  |.val (.bl true)=>iR cl b x.2
  |.val (.bl false)=>.ok (.val (.bl false),x.2)
  |_=>.no
 |.or a b,ρ=>(iR cl a ρ).th λx=>match x.1 with
  |.val (.bl false)=>iR cl b x.2
  |.val (.bl true)=>.ok (.val (.bl true),x.2)
  |_=>.no
 |.cmp op a b,ρ=>(iR cl a ρ).th λx=>(iR cl b x.2).th λy=>(R.of (JS op x.1 y.1)).th λr=>.ok (.val (.bl r),y.2)
 |.ite c a b,ρ=>(iT cl c ρ).th λt=>if t.1 then iR cl a t.2 else iR cl b t.2
 |.idx a i,ρ=>(iR cl a ρ).th λx=>(iR cl i x.2).th λy=>(idxD x.1 y.1).th λr=>.ok (r,y.2)
 |.sli a lo hi,ρ=>(iR cl a ρ).th λx=>(iO cl lo x.2).th λl=>(iO cl hi l.2).th λh=>(sliceD x.1 l.1 h.1).th λr=>.ok (r,h.2)
 |.rvs a,ρ=>(iR cl a ρ).th λx=>(R.of x.1.list?).th λl=>.ok (.tmp l.reverse,x.2)
 |.lst l,ρ=>(iEs cl l ρ).th λx=>if x.1.length<=sizeLine then .ok (.tmp x.1,x.2) else .no
 |.tup l,ρ=>(iEs cl l ρ).th λx=>if x.1.length<=sizeLine then .ok (.val (.tup x.1),x.2) else .no
 |.call f l,ρ=>(iAs cl l ρ).th λx=>(cl f x.1).th λr=>.ok (r,x.2)
 |.calF f l,ρ=>(iEs cl l ρ).th λx=>(cl f (x.1.map .val)).th λr=>.ok (r,x.2)
 |.b1 f a,ρ=>(iR cl a ρ).th λx=>(f.go x.1).th λr=>.ok (r,x.2)
 |.b2 f a b,ρ=>(iR cl a ρ).th λx=>(iR cl b x.2).th λy=>(f.go x.1 y.1).th λr=>.ok (r,y.2)
 |.isi t a,ρ=>(iR cl a ρ).th λx=>(R.of (t.go x.1)).th λb=>.ok (.val (.bl b),x.2)
 |.isc t a,ρ=>(iR cl a ρ).th λx=>(R.of (qep cl.cs x.1 t)).th λb=>.ok (.val (.bl b),x.2)
 |.isn ts a,ρ=>(iR cl a ρ).th λx=>(R.of (qiz cl.cs x.1 ts)).th λb=>.ok (.val (.bl b),x.2)
 |.fld a x,ρ=>(iR cl a ρ).th λy=>(R.of (qcl cl.cs y.1 x)).th λd=>.ok (.val d,y.2)
 |.met a x l,ρ=>(iR cl a ρ).th λy=>match mtD cl.cs y.1 x with
  |some f=>(iAs cl l y.2).th λz=>(cl f (toAr y.1::z.1)).th λr=>.ok (r,z.2)
  |none=>(iAs cl l y.2).th λz=>(bmD x y.1 z.1).th λr=>.ok (r,z.2)
 |.new f l,ρ=>(iAs cl l ρ).th λx=>(cl.nw f x.1).th λr=>.ok (r,x.2)
 |.fst l,ρ=>(iEs cl l ρ).th λx=>(R.of (qmW Str.empty x.1)).th λz=>.ok (.val (.str z),x.2)
 |.dct ks l,ρ=>(iEs cl l ρ).th λx=>.ok (.val (.dct ks x.1),x.2)
 |.comp e src tg c n fr,ρ=>(iI cl src ρ).th λx=>if x.1.length<=sizeLine then (qc9 tg.go (λρ1=>iF cl c ρ1) (ze e (iR cl e)) x.1 (JU n fr x.2) []).th λl=>.ok (.tmp l,x.2) else .no
noncomputable def iT(cl:Cl):T->Env->R (Bool×Env)
 |.not a,ρ=>(iT cl a ρ).th λt=>.ok (!t.1,t.2)
 |.one a,ρ=>iT cl a ρ
 |.and a b,ρ=>(iT cl a ρ).th λt=>if t.1 then iT cl b t.2 else .ok (false,t.2)
 |.or a b,ρ=>(iT cl a ρ).th λt=>if t.1 then .ok (true,t.2) else iT cl b t.2
 |.cmp op a b,ρ=>(iR cl a ρ).th λx=>(iR cl b x.2).th λy=>(R.of (JS op x.1 y.1)).th λr=>.ok (r,y.2)
 | .chn op op' a b c,ρ=>(iR cl a ρ).th λx=>(iR cl b x.2).th λy=>(R.of (JS op x.1 y.1)).th λr=>if r=true then (iR cl c y.2).th λz=>(R.of (JS op' y.1 z.1)).th λr'=>.ok (r',z.2) else .ok (false,y.2)
 |.val a,ρ=>(iR cl a ρ).th λx=>(R.of (truthD x.1)).th λb=>.ok (b,x.2)
noncomputable def iEs(cl:Cl):Es->Env->R (List D×Env)
 |.nil,ρ=>.ok ([],ρ)
 |.cons e l,ρ=>(ze e (iR cl e) ρ).th λx=>(iEs cl l x.2).th λy=>.ok (x.1::y.1,y.2)
noncomputable def iAs(cl:Cl):Es->Env->R (List Ar×Env)
 |.nil,ρ=>.ok ([],ρ)
 |.cons e l,ρ=>(iR cl e ρ).th λx=>(iAs cl l x.2).th λy=>.ok (toAr x.1::y.1,y.2)
noncomputable def iO(cl:Cl):O->Env->R (Option Int×Env)
 |.none,ρ=>.ok (none,ρ)
 |.some e,ρ=>(iR cl e ρ).th λx=>match x.1 with
  |.val (.int i)=>.ok (some i,x.2)
  |_=>.no
noncomputable def iF(cl:Cl):F->Env->R (Bool×Env)
 |.yes,ρ=>.ok (true,ρ)
 |.test c,ρ=>iT cl c ρ
noncomputable def iI(cl:Cl):I->Env->R (List D×Env)
 |.nam i,ρ=>(slC ρ i).th λl=>.ok (l,ρ)
 |.seq a,ρ=>(jf a (iR cl a) ρ).th λx=>.ok (x.1.2,x.2)
 |.rng a,ρ=>(iR cl a ρ).th λx=>(match x.1.int? with
  |some n=>if qX n=true then .ok (zG 0 n,x.2) else .no
  |none=>.no)
 |.rng3 a b c,ρ=>(iR cl a ρ).th λx=>(iR cl b x.2).th λy=>(iR cl c y.2).th λz=>(rg3 x.1 y.1 z.1).th λl=>.ok (l,z.2)
 |.rng2 a b,ρ=>(iR cl a ρ).th λx=>(iR cl b x.2).th λy=>(match x.1.int?,y.1.int? with
  |some i,some j=>if qX i=true/\qX j=true then .ok (zG i j,y.2) else .no
  |_,_=>.no)
 |.enum a,ρ=>(jf a (iR cl a) ρ).th λx=>match x.1.1 with |.lst=>.ok (JT x.1.2,x.2) |_=>.no
 |.rev a,ρ=>(jf a (iR cl a) ρ).th λx=>match x.1.1 with |.lst=>.ok (x.1.2.reverse,x.2) |_=>.no
 |.zip a b,ρ=>(jf a (iR cl a) ρ).th λx=>(jf b (iR cl b) x.2).th λy=>match x.1.1,y.1.1 with |.lst,.lst=>.ok (qbT x.1.2 y.1.2,y.2) |_,_=>.no
end
mutual
inductive S where
 | pass | expr (e:E) | app (i:Nat) (e:E) | ext (i:Nat) (e:E) | clr (i:Nat) | ret (e:E) | retN | set (i:Nat) (e:E) | setT (tg:Tg) (e:E) | setI (i:Nat) (x e:E) | ite (c:T) (a b:Ss) | for_ (tg:Tg) (src:I) (b:Ss) | whl (c:T) (b:Ss) | stuck
inductive Ss where
 | nil | cons (s:S) (l:Ss)
end
def zA(ρ:Env)(i:Nat):Option (List D):=match ρ[i]? with
 |some (.own l)=>some l
 |_=>none
noncomputable def Zg(e:E)(r:Env->R (Rv×Env))(ρ:Env):R Rv:=match e with
 |.var i=>slX ρ i
 |.con d=>.ok (.val d)
 |_=>(r ρ).th λx=>match x.1 with
  |.val d=>.ok (.val d)
  |.tmp l=>.ok (.tmp l)
  |_=>.no
noncomputable def YN(e:E)(r:Env->R (Rv×Env))(ρ:Env):R (Sl×Env):=match e with
 |.var i=>(slE ρ i).th λr=>.ok (.val r.1,r.2)
 |.con d=>.ok (.val d,ρ)
 |_=>(r ρ).th λx=>match x.1 with
  |.val d=>.ok (.val d,x.2)
  |.tmp l=>.ok (.own l,x.2)
  |_=>.no
mutual
noncomputable def iS(cl:Cl)(w:Nat):S->Env->R Fl
 |.pass,ρ=>.ok (.next ρ)
 |.expr e,ρ=>(iR cl e ρ).th λx=>.ok (.next x.2)
 |.app i e,ρ=>(match zA ρ i with
  |none=>.no
  |some _=>(ze e (iR cl e) ρ).th λy=>(match zA y.2 i with
   |some l=>if l.length < sizeLine then .ok (.next (y.2.set i (.own (l++[y.1])))) else .no
   |none=>.no))
 |.ext i e,ρ=>(match zA ρ i with
  |none=>.no
  |some _=>(iR cl e ρ).th λy=>(match zA y.2 i,y.1.plain? with
   |some l,some n=>if l.length+n.length<=sizeLine then .ok (.next (y.2.set i (.own (l++n)))) else .no
   |_,_=>.no))
 |.clr i,ρ=>(match zA ρ i with
  |some _=>.ok (.next (ρ.set i (.own [])))
  |none=>.no)
 |.ret e,ρ=>(Zg e (iR cl e) ρ).th λr=>.ok (.ret r)
 |.retN,ρ=>.ok (.ret (.val .non))
 |.set i e,ρ=>(YN e (iR cl e) ρ).th λs=>.ok (.next (s.2.set i s.1))
 |.setT tg e,ρ=>(ze e (iR cl e) ρ).th λx=>(tg.go x.1 x.2).th λρ1=>.ok (.next ρ1)
 |.setI i x e,ρ=>(ze e (iR cl e) ρ).th λy=>(match zA y.2 i with
  |none=>.no
  |some _=>(iR cl x y.2).th λz=>(match zA z.2 i,z.1.int? with
   |some l,some n=>(match ixN l.length n with
    |some k=>.ok (.next (z.2.set i (.own (l.set k y.1))))
    |none=>.no)
   |_,_=>.no))
 |.ite c a b,ρ=>(iT cl c ρ).th λt=>if t.1 then iSs cl w a t.2 else iSs cl w b t.2
 |.for_ tg src b,ρ=>(iI cl src ρ).th λx=>qeW (λd ρ1=>(tg.go d ρ1).th λρ2=>iSs cl w b ρ2) x.1 x.2
 |.whl c b,ρ=>whL (λρ1=>iT cl c ρ1) (λρ1=>iSs cl w b ρ1) w ρ
 |.stuck,_=>.no
noncomputable def iSs(cl:Cl)(w:Nat):Ss->Env->R Fl
 |.nil,ρ=>.ok (.next ρ)
 |.cons s l,ρ=>(iS cl w s ρ).th λf=>match f with
  |.next ρ1=>iSs cl w l ρ1
  |.ret r=>.ok (.ret r)
end
end DE
namespace DE
open PySem L2
noncomputable def o2{α β γ:Type}(a:Option α)(b:Option β)(f:α->β->γ):Option γ:=match a,b with
 |some x,some y=>some (f x y)
 |_,_=>none
theorem qm{α β γ:Type}{a:Option α}{b:Option β}{f:α->β->γ}{z:γ}(h:o2 a b f=some z):∃x y,a=some x/\b=some y/\f x y=z:=by
 cases a with
 |none=>cases h
 |some x=>
  cases b with
  |none=>cases h
  |some y=>exact⟨x,y,rfl,rfl,Option.some.inj h⟩
theorem qi{α:Type}{c:Bool}{a:Option α}{z:α}(h:oif c a=some z):c=true/\a=some z:=by
 cases c with
 |true=>exact⟨rfl,h⟩
 |false=>cases h
def Ct.k(Γ:Ct):Cl:=⟨Γ.cl,Γ.cs,Γ.nw⟩
noncomputable def cC(Γ:Ct)(it:Expr)(r:Option I):Option I:=match isF Γ it with
 |some i=>some (.nam i)
 |none=>r
noncomputable def qaa(Γ:Ct)(x:Str):Option E:=oif (zt x) (match qck Γ.N x with
 |some i=>oif (qjp Γ.sc x) (some (.var i))
 |none=>oif (glB Γ.sc x) ((Γ.gl x).map .con))
noncomputable def qf6:Const->Option E
 |.none=>some (.con .non)
 |.bool b=>some (.con (.bl b))
 |.int i=>some (.con (.int i))
 |.str s=>some (.con (.str s))
 |_=>none
noncomputable def qlu(t:Str):Option Ty:=if t = "int" then some .int else if t = "bool" then some .bool else if t = "str" then some .str else if t = "list" then some .list else if t = "tuple" then some .tuple else none
noncomputable def ql7(f:Str):Option B1:=if f = "len" then some .len else if f = "list" then some .list else if f = "int" then some .int else if f = "sorted" then some .srt else if f = "sum" then some .sum else if f = "all" then some .all else if f = "str" then some .str else if f = "tuple" then some .tup else none
def ql8(f:Str):Option B2:=if f = "max" then some .max else if f = "min" then some .min else none
def qda(Γ:Ct)(x:Str):Option Nat:=oif (qjq Γ.sc x&&zt x) (qck Γ.N x)
def qeX(Γ:Ct):List Str->Option (List Nat)
 |[]=>some []
 | x::l=>o2 (qda Γ x) (qeX Γ l) (· :: ·)
noncomputable def cTg(Γ:Ct)(tg:Expr):Option Tg:=match tg with
 |.Name x _=>(qda Γ x).map .one
 |.Tuple es j p=>oif (!es.any qE) (match zF (.Tuple es j p) with
  |some xs=>(qeX Γ xs).map .many
  |none=>none)
 |_=>none
def Zh:E->Option E
 |.var _=>none
 |e=>some e
def cVs(g:Expr->Option E):List Expr->Option Es
 |[]=>some .nil
 | e::l=>o2 (g e) (cVs g l) .cons
noncomputable def cNm(Γ:Ct):List Expr->Option (List Str)
 |[]=>some []
 | .Name t _::l=>oif (zt t&&glB Γ.sc t&&decide (t≠"ValueError")) ((cNm Γ l).map (t :: ·))
 |_=>none
mutual
noncomputable def cE:Nat->Ct->Expr->Option E
 |0,_,_=>none
 | m+1,Γ,e=>match e with
  |.Name x _=>qaa Γ x
  |.Constant c _ _=>qf6 c
  |.BinOp a op b _=>o2 (cE m Γ a) (cE m Γ b) (E.bin op)
  |.UnaryOp .USub a _=>(cE m Γ a).map .neg
  |.UnaryOp .Not a _=>(cE m Γ a).map .not
  |.BoolOp _ [a] _=>(cE m Γ a).map .one
  | .BoolOp .And (a::b::l) p=>o2 (cE m Γ a) (cE m Γ (.BoolOp .And (b::l) p)) .and
  | .BoolOp .Or (a::b::l) p=>none
  |.Compare a [op] [b] _=>oif (!behindInMarks op b) (o2 (cE m Γ a) (cE m Γ b) (E.cmp op))
  |.IfExp c a b _=>o2 (cT m Γ c) (o2 (cE m Γ a) (cE m Γ b) Prod.mk) λc p=>.ite c p.1 p.2
  |.Subscript a (.Slice lo hi none _) _=>o2 (cE m Γ a) (o2 (cO m Γ lo) (cO m Γ hi) Prod.mk) λa p=>.sli a p.1 p.2
  |.Subscript a (.Slice lo hi (some st) _) _=>oif (qlt lo hi st) ((cE m Γ a).map .rvs)
  |.Subscript a i _=>o2 (cE m Γ a) (cE m Γ i) .idx
  |.List es _=>(cEs m Γ es).map .lst
  |.Tuple es _ _=>(cEs m Γ es).map .tup
  |.Call (.Name f p) es [] _=>oif (zt f&&glB Γ.sc f&&(qck Γ.N f).isNone) (
    if f = "isinstance" then (match es with
     |[a,b]=>(match b with
      |.Name t _=>oif (zt t&&glB Γ.sc t&&(qck Γ.N t).isNone&&!qE a) (match qlu t with |some y=>(cE m Γ a).map (.isi y) |none=>(cE m Γ a).map (.isc t))
      |.Tuple bs _ _=>oif (!qE a&&!bs.isEmpty&&decide (bs.length < 100)) (o2 (cNm Γ bs) (cE m Γ a) .isn)
      |_=>none)
     |_=>none)
    else if Γ.tab.contains f=true then (if (f = "_law_let"/\es.length=2)\/f = "_law_day"\/f = "_law_alike" then (cEs m Γ es).map (.calF f) else (cAs m Γ es).map (.call f))
    else if Γ.cs.tab.contains f=true then (cAs m Γ es).map (.new f)
    else match es with
     |[a]=>(match lrE Γ f a with
      |some t=>o2 (cE m Γ t.1) (cE m Γ t.2) (.b2 .rng)
      |none=>oif (!qE a) (o2 (ql7 f) (cE m Γ a) .b1))
     |[a,b]=>oif (!(qE a||qE b)) (o2 (ql8 f) (o2 (cE m Γ a) (cE m Γ b) Prod.mk) λf p=>.b2 f p.1 p.2)
     |_=>none)
  |.Attribute o x _=>oif (yK o) ((cE m Γ o).map λa=>.fld a x)
  |.Call (.Attribute o x ap) es [] q=>if (yK o&&(ap.endLine == q.line)&&decide (es.length < 30))=true then (o2 (cE m Γ o) (cAs m Γ es) λa l=>.met a x l)
   else match dgE Γ o x es (ap.endLine == q.line) with
    |some t=>o2 (cE m Γ t.1) (cE m Γ t.2.1) (.b2 (.get t.2.2))
    |none=>none
  |.ListComp elt [g] sc _=>oif (decide (g.is_async=0)) (match zF g.target with
   |some own=>oif (JD Γ.sc Γ.N (YM Γ.N sc) sc&&decide (own++(YM Γ.N sc).map λi=>Γ.N.getD i "").Nodup&&Zf g.iter)
     (o2 (o2 (cC Γ g.iter (cI m Γ (qeU g.target) g.iter)) (cTg { Γ with N:=own++(YM Γ.N sc).map λi=>Γ.N.getD i "",sc:=sc } g.target) Prod.mk)
      (o2 (cF m { Γ with N:=own++(YM Γ.N sc).map λi=>Γ.N.getD i "",sc:=sc } g.ifs) (cX m { Γ with N:=own++(YM Γ.N sc).map λi=>Γ.N.getD i "",sc:=sc } elt) Prod.mk)
      λp q=>.comp q.2 p.1 p.2 q.1 own.length (YM Γ.N sc))
   |none=>none)
  |_=>none
noncomputable def cX:Nat->Ct->Expr->Option E
 |0,_,_=>none
 | m+1,Γ,e=>match e with
  |.Name x _=>qaa Γ x
  |e=>(cE m Γ e).bind Zh
noncomputable def cT:Nat->Ct->Expr->Option T
 |0,_,_=>none
 | m+1,Γ,e=>match e with
  |.UnaryOp .Not a _=>(cT m Γ a).map .not
  |.BoolOp _ [a] _=>(cT m Γ a).map .one
  | .BoolOp .And (a::b::l) p=>o2 (cT m Γ a) (cT m Γ (.BoolOp .And (b::l) p)) .and
  | .BoolOp .Or (a::b::l) p=>o2 (cT m Γ a) (cT m Γ (.BoolOp .Or (b::l) p)) .or
  |.BoolOp _ [] _=>none
  |.IfExp ..=>none
  |.Compare a [op] [b] _=>(match irE Γ op b with
   |some t=>o2 (cE m Γ a) (cE m Γ t) (λx y=>.val (.b2 .inr x y))
   |none=>oif (!behindInMarks op b) (o2 (cE m Γ a) (cE m Γ b) (T.cmp op)))
  |.Compare ..=>none
  |e=>(cE m Γ e).map .val
noncomputable def cEs:Nat->Ct->List Expr->Option Es
 |0,_,_=>none
 | m+1,Γ,es=>match es with
  |[]=>some .nil
  | e::l=>oif (!qE e) (o2 (cX m Γ e) (cEs m Γ l) .cons)
noncomputable def cAs:Nat->Ct->List Expr->Option Es
 |0,_,_=>none
 | m+1,Γ,es=>match es with
  |[]=>some .nil
  | e::l=>oif (!qE e) (o2 (cE m Γ e) (cAs m Γ l) .cons)
noncomputable def cO:Nat->Ct->Option Expr->Option O
 |0,_,_=>none
 | m+1,Γ,o=>match o with
  |none=>some .none
  |some e=>(cE m Γ e).map .some
noncomputable def cF:Nat->Ct->List Expr->Option F
 |0,_,_=>none
 | m+1,Γ,es=>match es with
  |[]=>some .yes
  |[c]=>(cT m Γ c).map .test
  |_=>none
noncomputable def cL:Nat->Ct->Expr->Option E
 |0,_,_=>none
 | m+1,Γ,e=>match e with
  |.Name x _=>(qel Γ x).map .var
  |e=>(cE m Γ e).bind Zh
noncomputable def cI:Nat->Ct->Bool->Expr->Option I
 |0,_,_,_=>none
 | m+1,Γ,tb,e=>match e with
  |.Call (.Name f p) es [] q=>if f = "range" || f = "enumerate" || f = "zip" || f = "reversed" then oif (zt f&&glB Γ.sc f&&(qck Γ.N f).isNone) (match es with
    |[a]=>oif (!qE a) (if f = "range" then (cE m Γ a).map .rng else if f = "enumerate" then oif tb ((cL m Γ a).map .enum) else if f = "reversed" then (cL m Γ a).map .rev else none)
    |[a,b]=>oif (!(qE a||qE b)) (if f = "range" then o2 (cE m Γ a) (cE m Γ b) .rng2 else if f = "zip" then oif tb (o2 (cL m Γ a) (cL m Γ b) .zip) else none)
    |_=>none)
   else (cL m Γ (.Call (.Name f p) es [] q)).map .seq
  |e=>(cL m Γ e).map .seq
end
def cV(m:Nat)(Γ:Ct)(e:Expr):Option E:=match e with
 |.Name x _=>qaa Γ x
 |e=>(cE m Γ e).bind Zh
mutual
noncomputable def cS:Nat->Ct->Stmt->Option S
 |0,_,_=>none
 | m+1,Γ,st=>match st with
  |.Pass _=>some .pass
  |.Expr e _=>(match e with
   |.Call (.Attribute (.Name x _) meth ap) [a] [] cp=>oif (ap.endLine == cp.line&&!qE a) (
     if meth = "append" then o2 (qel Γ x) (cX m Γ a) .app
     else if meth = "extend" then o2 (qel Γ x) (cE m Γ a) .ext
     else none)
   |.Call (.Attribute (.Name x _) meth ap) [] [] cp=>none
   |e=>oif (y8 e) ((cE m Γ e).map .expr))
  |.Return (some e) _=>(cV m Γ e).map .ret
  |.Return none _=>some .retN
  |.Assign [tg] e _=>(match tg with
   |.Name x _=>o2 (qda Γ x) (cV m Γ e) .set
   |.Tuple ..=>none
   |.Subscript (.Name x _) i _=>oif (y8 e&&Qf i) (o2 (qel Γ x) (o2 (cE m Γ i) (cX m Γ e) Prod.mk) λx p=>.setI x p.1 p.2)
   |_=>none)
  |.If c a b _=>o2 (cT m Γ c) (o2 (cSs m Γ a) (cSs m Γ b) Prod.mk) λc p=>.ite c p.1 p.2
  |.For tg it body [] _=>oif (Zf it) (o2 (o2 (cTg Γ tg) (cI m Γ (qeU tg) it) Prod.mk) (cSs m Γ body) λp b=>.for_ p.1 p.2 b)
  |.While c body [] _=>o2 (cT m Γ c) (cSs m Γ body) .whl
  |.Raise ..=>some .stuck
  | .Try body (h::hs) [] [] _=>(cSs m Γ body).map λb=>.ite (.val (.con (.bl true))) b .nil
  |_=>none
noncomputable def cSs:Nat->Ct->List Stmt->Option Ss
 |0,_,_=>none
 | m+1,Γ,l=>match l with
  |[]=>some .nil
  | st::l=>o2 (cS m Γ st) (cSs m Γ l) .cons
end
theorem ql{α β:Type}{o:Option α}{f:α->β}{z:β}(h:o.map f=some z):∃x,o=some x/\f x=z:=Option.map_eq_some_iff.mp h
theorem jg{e z:E}(h:Zh e=some z):e=z/\∀i,z≠.var i:=by cases e<;>cases h<;>exact⟨rfl,λi z=>by cases z⟩
theorem qhi{z:E}(h:∀i,z≠.var i)(cl:Cl)(ρ:Env):ze z (iR cl z) ρ=(iR cl z ρ).th qbU:=by cases z<;>first | rfl | exact absurd rfl (h _)
theorem qhj{z:E}(h:∀i,z≠.var i)(cl:Cl)(ρ:Env):jf z (iR cl z) ρ=(iR cl z ρ).th qeq:=by cases z<;>first | rfl | exact absurd rfl (h _)
theorem qhk{z:E}(h:∀i,z≠.var i)(cl:Cl)(ρ:Env):Zg z (iR cl z) ρ=(iR cl z ρ).th λx=>match x.1 with
  |.val d=>.ok (.val d)
  |.tmp l=>.ok (.tmp l)
  |_=>.no:=by
 cases z<;>first | rfl | exact absurd rfl (h _)
theorem qhl{z:E}(h:∀i,z≠.var i)(cl:Cl)(ρ:Env):YN z (iR cl z) ρ=(iR cl z ρ).th λx=>match x.1 with
  |.val d=>.ok (.val d,x.2)
  |.tmp l=>.ok (.own l,x.2)
  |_=>.no:=by
 cases z<;>first | rfl | exact absurd rfl (h _)
end DE
namespace DE
open PySem L2
def Wk{α:Type}(x:R α)(f:α->Prop):Prop:=match x with
 |.ok a=>f a
 |.exc _ _=>False
 |.no=>False
theorem Wk.th{α β:Type}{x:R α}{g:α->R β}{f:β->Prop}(h:Wk (x.th g) f):Wk x λa=>Wk (g a) f:=by cases x<;>exact h
theorem Wk.mono{α:Type}{x:R α}{f g:α->Prop}(h:Wk x f)(i:∀a,f a->g a):Wk x g:=by
 cases x with
 |ok a=>exact i a h
 |exc c l=>exact h
 |no=>exact h
theorem Wk.of{α:Type}{x:Option α}{f:α->Prop}(h:Wk (R.of x) f):∃a,x=some a/\f a:=by
 cases x with
 |none=>exact h.elim
 |some a=>exact⟨a,rfl,h⟩
theorem Wk.iff{α:Type}{c:Prop}[Decidable c]{x:R α}{f:α->Prop}(h:Wk (if c then x else .no) f):c/\Wk x f:=by
 by_cases hc:c
 ·rw[if_pos hc] at h;exact⟨hc,h⟩
 ·rw[if_neg hc] at h;exact h.elim
section
variable(κ:KC)(K:Frag)(Gv Hv:Hp)
noncomputable def tR(f:Env->R (Rv×Env)):TE:=λσ H Q=>∃ρ G,ER κ K Gv Hv G H ρ σ/\Wk (f ρ) λx=>∀v G' H',Po κ K Gv Hv σ G H ρ G' H' x.2->RvR κ K Hv H G' H' x.2 σ x.1 v->Q v H'
noncomputable def tE(f:Env->R (D×Env)):TE:=λσ H Q=>∃ρ G,ER κ K Gv Hv G H ρ σ/\Wk (f ρ) λx=>∀v G' H',Po κ K Gv Hv σ G H ρ G' H' x.2->Rep κ G' x.1 v->Q v H'
noncomputable def tT(f:Env->R (Bool×Env)):TT:=λσ H Q=>∃ρ G,ER κ K Gv Hv G H ρ σ/\Wk (f ρ) λx=>∀G' H',Po κ K Gv Hv σ G H ρ G' H' x.2->Q x.1 H'
noncomputable def tEs(f:Env->R (List D×Env)):TA:=λσ H Q=>∃ρ G,ER κ K Gv Hv G H ρ σ/\Wk (f ρ) λx=>∀vs G' H',Po κ K Gv Hv σ G H ρ G' H' x.2->qo κ G' x.1 vs->Q vs H'
noncomputable def ArR(G H:Hp):Ar->V->Prop
 |.val d,v=>Rep κ G d v
 |.bor ds,v=>∃a xs,v=.ref a/\H a=some (.lst xs)/\qo κ G ds xs
 |.scr ds,v=>∃a xs,v=.ref a/\SqL K H a xs/\qo κ G ds xs
noncomputable def y9(G H:Hp):List Ar->List V->Prop
 |[],vs=>vs=[]
 | a::l,vs=>∃v r,vs=v::r/\ArR κ K G H a v/\y9 G H l r
noncomputable def tAs(f:Env->R (List Ar×Env)):TA:=λσ H Q=>∃ρ G,ER κ K Gv Hv G H ρ σ/\Wk (f ρ) λx=>∀vs G' H',Po κ K Gv Hv σ G H ρ G' H' x.2->y9 κ K G' H' x.1 vs->Q vs H'
noncomputable def tO(f:Env->R (Option Int×Env)):TO:=λσ H Q=>∃ρ G,ER κ K Gv Hv G H ρ σ/\Wk (f ρ) λx=>∀G' H',Po κ K Gv Hv σ G H ρ G' H' x.2->Q x.1 H'
noncomputable def SrR(G:Hp)(s:Sk×List D)(v:V):Prop:=match s.1 with
 |.str=>∃x,v=.str x/\s.2=qbS x
 |.tup=>∃a xs,v=.ref a/\qo κ G s.2 xs/\G a=some (.tup xs)
 |.lst=>∃a xs,v=.ref a/\qo κ G s.2 xs/\(G a=some (.lst xs)\/SqL K Hv a xs)
noncomputable def tL(f:Env->R ((Sk×List D)×Env)):TE:=λσ H Q=>∃ρ G,ER κ K Gv Hv G H ρ σ/\Wk (f ρ) λx=>∀v G' H',Po κ K Gv Hv σ G H ρ G' H' x.2->SrR κ K Hv G' x.1 v->Q v H'
noncomputable def ItR(G₁:Hp)(J:It)(l:List D):Prop:=∀(i:Nat) (G H:Hp),qp G₁ G->qp Hv H->qp G H->
 (∀d,l[i]?=some d->J.go i H/\∀x H',J.yld i H x H'->∃G',qp H H'/\qp G G'/\qp G' H'/\(∀a o,G' a=some o->(∃o',G a=some o')\/H a=none)/\Rep κ G' d x)/\(l.length=i->J.stop i H)
noncomputable def tI(f:Env->R (List D×Env)):TI:=λσ H Q=>∃ρ G,ER κ K Gv Hv G H ρ σ/\Wk (f ρ) λx=>∀J G' H',Po κ K Gv Hv σ G H ρ G' H' x.2->ItR κ Hv G' J x.1->Q J H'
noncomputable def ReR(G' H' H:Hp):Rv->V->Prop
 |.val d,v=>Rep κ G' d v
 |.tmp ds,v=>∃a xs,v=.ref a/\H' a=some (.lst xs)/\H a=none/\G' a=none/\qo κ G' ds xs
 |_,_=>False
noncomputable def spF(cl:Str->List Ar->R Rv)(f:Str):Sp:=λvs H Q _=>∃G args,qp G H/\y9 κ K G H args vs/\
 Wk (cl f args) λr=>∀v G' H',qp H H'->qp G G'->qp G' H'->(∀a o,G' a=some o->(∃o',G a=some o')\/H a=none)->ReR κ G' H' H r v->Q v H'
end
noncomputable def qdb:List Str:=["len","list","tuple","int","bool","str","max","min","isinstance","range","enumerate","zip","sorted","sum","reversed","all","dict"]
structure Gd(κ:KC)(K:Frag)(k:Nat)(X:Cx)(Γ:Ct):Prop where
 hN:X.N=Γ.N
 vis:∀x,qjp Γ.sc x=true->Vis X.env.scope x
 loc:∀x,qjq Γ.sc x=true->L2.Loc X.env.scope x/\(X.fn x=true\/X.env.scope.names.lookup x=some .local)
 glo:∀x,glB Γ.sc x=true->Gl X x
 cf:∀x,(Γ.sc.names.lookup x=some .cell\/Γ.sc.names.lookup x=some .free)->X.env.kindOf x=some .cell\/X.env.kindOf x=some .free
 nd:Γ.N.Nodup
 calm:X.calm=true
 hK:X.K=K
 room:Room k X.A
 fns:∀f,Γ.tab.contains f=true->∃fa fd ps,FnOk X.prog X.w X.K X.mg X.base CX0 k fa fd ps (spF κ K Γ.cl f)/\X.mg f=some (.ref fa)/\PySem.W.keepIn X.K (.ref fa)=true/\qK X.K fd ps []
 blt:∀f∈qdb,X.mg f=none
 gl:∀x d,Γ.gl x=some d->∃v u,X.mg x=some u/\qH v u/\∀G,Rep κ G d v
 cls:∀c C,κ c=some C->Cls X.K C
 flds:∀c x C,Γ.cs.fld c x=true->κ c=some C->zD X.K C x
 mts:∀c x f,Γ.cs.mt c x=some f->∃C fa fd ps,κ c=some C/\Meth X.K C x fa/\FnOk X.prog X.w X.K X.mg X.base CX0 k fa fd ps (spF κ K Γ.cl f)/\qK X.K fd ps []
 mks:∀f,Γ.cs.tab.contains f=true->(∀args,Γ.nw f args=.no)\/∃C fa fd ps sp,Mk X.K C fa/\FnOk X.prog X.w X.K X.mg X.base CX0 (k - 1) fa fd ps sp/\X.mg f=some (.ref C)/\qK X.K fd ps []/\0 < k/\
  ∀vs H Q,spF κ K Γ.nw f vs H Q E0->∀x dx,H x=none->H dx=none->dx≠x->sp (.ref x::vs) (upd (upd H dx (.own x)) x (.ins C dx [])) (λv H2=>v=.non/\Q (.ref x) H2) E0
 xsubs:∀C t b,Γ.cs.xs C t=some b->ExcIs X.K C/\((∃T,X.mg t=some (.ref T)/\PySem.W.kitOne X.K (.ref C) (.ref T)=some b)\/(X.mg t=none/\t = "ValueError"/\PySem.W.kitOne X.K (.ref C) (.type "ValueError")=some b))
 xgs:∀C x,Γ.cs.xg C x=true->XcG X.K C x
 subs:∀c t b,Γ.cs.sub c t=some b->∃C T,κ c=some C/\(∀H p dx fs,H p=some (HO.ins C dx fs)->TyOf X.K H (.ref p) (.ref C))/\X.mg t=some (.ref T)/\PySem.W.kitOne X.K (.ref C) (.ref T)=some b
theorem PE.imp{X:Cx}{e:Expr}{t t':TE}(h:PE X e t')(i:∀σ H Q,t σ H Q->t' σ H Q):PE X e t:=λpins s σ H Q I hw=>h pins s σ H Q I (i σ H Q hw)
theorem PT.imp{X:Cx}{e:Expr}{t t':TT}(h:PT X e t')(i:∀σ H Q,t σ H Q->t' σ H Q):PT X e t:=λpins s σ H Q I hw=>h pins s σ H Q I (i σ H Q hw)
theorem PA.imp{X:Cx}{es:List Expr}{t t':TA}(h:PA X es t')(i:∀σ H Q,t σ H Q->t' σ H Q):PA X es t:=λpos pins s σ H Q I hw=>h pos pins s σ H Q I (i σ H Q hw)
theorem PO.imp{X:Cx}{o:Option Expr}{t t':TO}(h:PO X o t')(i:∀σ H Q,t σ H Q->t' σ H Q):PO X o t:=λpins s σ H Q I hw=>h pins s σ H Q I (i σ H Q hw)
theorem PIf.imp{X:Cx}{es:List Expr}{t t':TT}(h:PIf X es t')(i:∀σ H Q,t σ H Q->t' σ H Q):PIf X es t:=λpins s σ H Q I hw=>h pins s σ H Q I (i σ H Q hw)
theorem PI.imp{X:Cx}{tg e:Expr}{t t':TI}(h:PI X tg e t')(i:∀σ H Q,t σ H Q->t' σ H Q):PI X tg e t:=λpins s σ H Q I hw=>h pins s σ H Q I (i σ H Q hw)
theorem Qh:∀{N:List Str} {x:Str} {i:Nat},qck N x=some i->N[i]?=some x
 |[],x,i,h=>by cases h
 | y::r,x,i,h=>by
  unfold qck at h
  by_cases e:y=x
  ·rw[if_pos e] at h;cases h;rw[e];rfl
  ·rw[if_neg e] at h
   cases q:qck r x with
   |none=>rw[q] at h;cases h
   |some j=>rw[q] at h;cases h;show(y::r)[j+1]?=some x;rw[List.getElem?_cons_succ];exact Qh q
theorem qC{x:Str}(h:zt x=true):(x == ("__debug__" : Str))=false/\(x == ("__classdict__" : Str))=false/\x≠"__name__":=by unfold zt at h;simp only[Bool.and_eq_true,Bool.not_eq_true'] at h;refine⟨h.1.1,h.1.2,λz=>?_⟩;rw[z] at h;exact absurd h.2 (2:)
theorem qf7{sc:Scope}{x:Str}(h:qjp sc x=true):Vis sc x:=by
 unfold qjp at h;unfold Vis
 split at h
 ·rename_i e;exact .inl e
 ·rename_i e;exact .inr (.inl e)
 ·rename_i e;exact .inr (.inr e)
 ·cases h
theorem qdc{sc:Scope}{x:Str}(h:qjq sc x=true):L2.Loc sc x:=by
 unfold qjq at h;unfold L2.Loc
 split at h
 ·rename_i e;exact .inl e
 ·rename_i e;exact .inr e
 ·cases h
theorem qf{e:Expr}{es:List Expr}{env:PySem.Env}(h:qE e=false):starEach (e::es) env=(false,eval e env)::starEach es env:=by cases e<;>first | rfl | (simp[qE] at h)
section
variable{κ:KC}{K:Frag}{Gv Hv:Hp}{k:Nat}{X:Cx}{Γ:Ct}
theorem ER.notOwn{G H:Hp}{ρ:Env}{σ:St}(er:ER κ K Gv Hv G H ρ σ){a:Addr}(h:H a=none):¬ qbR ρ σ a:=λ⟨i,l,e,z⟩=>by obtain⟨b,xs,z',h1,_⟩:=er.sl i _ e;rw[z] at z';injection z' with z';injection z' with z';injection z' with z';rw[<-z',h] at h1;cases h1
theorem ER.newList{G H:Hp}{ρ:Env}{σ:St}(er:ER κ K Gv Hv G H ρ σ){a:Addr}{xs:List V}{l:List D}(h:H a=none)(r:qo κ G l xs) :
  Po κ K Gv Hv σ G H ρ G (upd H a (.lst xs)) ρ/\RvR κ K Hv H G (upd H a (.lst xs)) ρ σ (.tmp l) (.ref a):=
 ⟨Po.room er (qp.upd h),a,xs,rfl,qg,h,qp.none er.base h,qp.none er.sub h,er.notOwn h,r⟩
theorem qaT(gd:Gd κ K k X Γ){x:Str}{i:Nat}(h:qel Γ x=some i)(pos:Pos):PE X (.Name x pos) (qlo i):=by unfold qel at h;obtain⟨hc,h⟩:=qi h;rw[Bool.and_eq_true] at hc;obtain⟨n1,n2,n3⟩:=qC hc.1;exact qaF (i:=i) (by rw[gd.hN];exact Qh h) (gd.vis x hc.2) n1 n2
theorem Qi(gd:Gd κ K k X Γ){x:Str}{z:E}(h:qaa Γ x=some z)(pos:Pos):(∃i,z=.var i/\PE X (.Name x pos) (qlo i))\/∃d v,z=.con d/\(∀G,Rep κ G d v)/\PE X (.Name x pos) (tC v):=by
 unfold qaa at h;obtain⟨hok,h⟩:=qi h;obtain⟨n1,n2,n3⟩:=qC hok
 cases hi:qck Γ.N x with
 |some i=>rw[hi] at h;obtain⟨hv,h⟩:=qi h;cases h;exact .inl ⟨i,rfl,qaF (i:=i) (by rw[gd.hN];exact Qh hi) (gd.vis x hv) n1 n2⟩
 |none=>rw[hi] at h;obtain⟨hg,h⟩:=qi h;obtain⟨d,hd,rfl⟩:=ql h;obtain⟨v,u,e1,e2,e3⟩:=gd.gl x d hd;exact .inr ⟨d,v,rfl,e3,yu (gd.glo x hg) e1 e2 n1⟩
theorem qeY(gd:Gd κ K k X Γ){x:Str}{z:E}(h:qaa Γ x=some z)(pos:Pos):PE X (.Name x pos) (tR κ K Gv Hv (iR Γ.k z)):=by
 rcases Qi gd h pos with ⟨i,rfl,P⟩ | ⟨d,v,rfl,e3,P⟩
 ·refine PE.imp P λσ H Q hq1=>?_;obtain⟨ρ,G,er,h⟩:=hq1;have h:=Wk.th (x:=slR ρ i) h;unfold slR at h
  cases q:ρ[i]? with
  |none=>rw[q] at h;exact h.elim
  |some s=>
   rw[q] at h;have w:=er.sl i s q
   cases s with
   |no=>exact h.elim
   |val d=>obtain⟨v,z,r⟩:=w;exact⟨v,z,h v G H (Po.refl er) r⟩
   |own l=>obtain⟨a,xs,z,r1,r2,r3,r4⟩:=w;exact⟨_,z,h _ G H (Po.refl er) ⟨a,xs,rfl,r1,r4⟩⟩
   |bor l=>obtain⟨a,xs,z,r1,r4⟩:=w;exact⟨_,z,h _ G H (Po.refl er) ⟨a,xs,rfl,er.base _ _ r1,r4⟩⟩
   |scr l=>obtain⟨a,xs,z,r1,r4⟩:=w;exact⟨_,z,h _ G H (Po.refl er) ⟨a,xs,rfl,er.base.seq r1,r4⟩⟩
 ·exact PE.imp P λσ H Q ⟨ρ,G,er,h⟩=>h v G H (Po.refl er) (e3 G)
theorem qaU(gd:Gd κ K k X Γ){x:Str}{z:E}(h:qaa Γ x=some z)(pos:Pos):PE X (.Name x pos) (tE κ K Gv Hv (ze z (iR Γ.k z))):=by
 rcases Qi gd h pos with ⟨i,rfl,P⟩ | ⟨d,v,rfl,e3,P⟩
 ·refine PE.imp P λσ H Q hq1=>?_;obtain⟨ρ,G,er,h⟩:=hq1;have h:Wk (slE ρ i) _:=h;unfold slE at h
  cases q:ρ[i]? with
  |none=>rw[q] at h;exact h.elim
  |some s=>
   rw[q] at h;have w:=er.sl i s q
   cases s with
   |val d=>obtain⟨v,z,r⟩:=w;exact⟨v,z,h v G H (Po.refl er) r⟩
   |own l=>obtain⟨a,xs,z,p,r⟩:=er.froze q;exact⟨_,z,h _ _ H p r⟩
   |_=>exact h.elim
 ·exact PE.imp P λσ H Q ⟨ρ,G,er,h⟩=>h v G H (Po.refl er) (e3 G)
end
end DE
namespace DE
open PySem L2
section
variable{κ:KC}{K:Frag}{Gv Hv Hb Hc G H:Hp}{ρ:Env}{σ:St}{r s:Rv}{x y:V}
theorem RvR.int{i:Int}(h:RvR κ K Hv Hb G H ρ σ r x)(e:r.int?=some i):x=.int i:=by
 cases r with
 |val d=>cases d<;>simp only[Rv.int?] at e<;>first | (cases e;simpa only[RvR,Rep] using h) | cases e
 |_=>cases e
theorem RvR.str{i:Str}(h:RvR κ K Hv Hb G H ρ σ r x)(e:r.str?=some i):x=.str i:=by
 cases r with
 |val d=>cases d<;>simp only[Rv.str?] at e<;>first | (cases e;simpa only[RvR,Rep] using h) | cases e
 |_=>cases e
theorem RvR.bl{i:Bool}(h:RvR κ K Hv Hb G H ρ σ r x)(e:r.bl?=some i):x=.bl i:=by
 cases r with
 |val d=>cases d<;>simp only[Rv.bl?] at e<;>first | (cases e;simpa only[RvR,Rep] using h) | cases e
 |_=>cases e
theorem RvR.tup{l:List D}(h:RvR κ K Hv Hb G H ρ σ r x)(e:r.tup?=some l):∃a xs,x=.ref a/\G a=some (.tup xs)/\qo κ G l xs:=by
 cases r with
 |val d=>cases d<;>simp only[Rv.tup?] at e<;>first | (cases e;simpa only[RvR,Rep] using h) | cases e
 |_=>cases e
theorem RvR.seq(er:ER κ K Gv Hv G H ρ σ){l:List D}(h:RvR κ K Hv Hb G H ρ σ r x)(e:seqD r=some l):∃a xs,x=.ref a/\(SqL K H a xs\/SqT K H a xs)/\qo κ G l xs:=by
 unfold seqD at e
 cases q:r.tup? with
 | some l'=>rw[q] at e;cases e;obtain⟨a,xs,e1,e2,e3⟩:=h.tup q;exact⟨a,xs,e1,.inr (SqT.of (er.sub _ _ e2)),e3⟩
 |none=>rw[q] at e;obtain⟨a,xs,e1,e2,e3⟩:=h.list er e;exact⟨a,xs,e1,.inl e2,e3⟩
theorem RvR.non(h:RvR κ K Hv Hb G H ρ σ r x):decide (x=.non)=r.non?:=by
 cases r with
 |val d=>
  cases d<;>simp only[RvR,Rep] at h<;>simp only[Rv.non?]
  ·subst h;rfl
  ·subst h;rfl
  ·subst h;rfl
  ·subst h;rfl
  ·obtain⟨a,xs,rfl,_⟩:=h;rfl
  ·obtain⟨a,xs,rfl,_⟩:=h;rfl
  ·obtain⟨p,dx,C,xs,_,rfl,_⟩:=h;rfl
  ·obtain⟨p,od,xs,rfl,_⟩:=h;rfl
  ·obtain⟨p,xs,rfl,_⟩:=h;rfl
 |tmp l=>obtain⟨a,xs,rfl,_⟩:=h;rfl
 |cell l=>obtain⟨a,xs,rfl,_⟩:=h;rfl
 |scr l=>obtain⟨a,xs,rfl,_⟩:=h;rfl
mutual
theorem Rep.dv(sub:qp G H):∀{d:D} {v:V} {p:PyData},Rep κ G d v->toP d=some p->DV K H p v
 |.non,v,p,h,e=>by simp only[toP] at e;cases e;simp only[Rep] at h;simp only[DV];exact h
 |.bl b,v,p,h,e=>by simp only[toP] at e;cases e;simp only[Rep] at h;simp only[DV];exact h
 |.int b,v,p,h,e=>by simp only[toP] at e;cases e;simp only[Rep] at h;simp only[DV];exact h
 |.str b,v,p,h,e=>by simp only[toP] at e;cases e;simp only[Rep] at h;simp only[DV];exact h
 |.lst l,v,p,h,e=>by simp only[toP] at e;obtain⟨ps,e1,rfl⟩:=Option.map_eq_some_iff.mp e;simp only[Rep] at h;obtain⟨a,xs,rfl,h1,h2⟩:=h;simp only[DV];exact⟨a,xs,rfl,SqL.of (sub _ _ h1),qo.dvs sub h2 e1⟩
 |.tup l,v,p,h,e=>by simp only[toP] at e;obtain⟨ps,e1,rfl⟩:=Option.map_eq_some_iff.mp e;simp only[Rep] at h;obtain⟨a,xs,rfl,h1,h2⟩:=h;simp only[DV];exact⟨a,xs,rfl,SqT.of (sub _ _ h1),qo.dvs sub h2 e1⟩
 |.ins c ns l,v,p,h,e=>by simp only[toP] at e;cases e
 |.exc c ns l,v,p,h,e=>by simp only[toP] at e;cases e
 |.dct ns l,v,p,h,e=>by simp only[toP] at e;cases e
theorem qo.dvs(sub:qp G H):∀{ds:List D} {vs:List V} {ps:List PyData},qo κ G ds vs->qix ds=some ps->DVs K H ps vs
 |[],vs,ps,h,e=>by simp only[qix] at e;cases e;simp only[qo] at h;simp only[DVs];exact h
 | d::ds,vs,ps,h,e=>by simp only[qix] at e;obtain⟨p,e1,e2⟩:=Option.bind_eq_some_iff.mp e;obtain⟨qs,e3,rfl⟩:=Option.map_eq_some_iff.mp e2;simp only[qo] at h;obtain⟨x,r,rfl,h1,h2⟩:=h;simp only[DVs];exact⟨x,r,rfl,Rep.dv sub h1 e1,qo.dvs sub h2 e3⟩
end
theorem RvR.dv(er:ER κ K Gv Hv G H ρ σ){p:PyData}(h:RvR κ K Hv Hb G H ρ σ r x)(e:toP r.data=some p):DV K H p x:=by
 have lst:∀{l:List D} {a:Addr} {xs:List V},SqL K H a xs->qo κ G l xs->toP (.lst l)=some p->DV K H p (.ref a):=λ{l a xs} hq hr e=>by simp only[toP] at e;obtain⟨ps,e1,rfl⟩:=Option.map_eq_some_iff.mp e;simp only[DV];exact⟨a,xs,rfl,hq,qo.dvs er.sub hr e1⟩
 cases r with
 |val d=>exact Rep.dv er.sub h e
 |tmp l=>obtain⟨a,xs,rfl,h1,_,_,_,_,h6⟩:=h;exact lst (SqL.of h1) h6 e
 |cell l=>obtain⟨a,xs,rfl,h1,h6⟩:=h;exact lst (SqL.of h1) h6 e
 |scr l=>obtain⟨a,xs,rfl,h1,h6⟩:=h;exact lst h1 h6 e
theorem qaV{d:D}{v:V}(h:Rep κ G d v)(f:Yy d=true):v=flV d/\JO v=true:=by
 cases d<;>simp only[Yy] at f<;>try (exact absurd f (2:))
 all_goals (simp only[Rep] at h;subst h;exact⟨rfl,rfl⟩)
theorem Zi:∀{l:List D} {vs:List V},qo κ G l vs->l.all Yy=true->vs=l.map flV/\vs.all JO=true
 |[],vs,h,f=>by simp only[qo] at h;subst h;exact⟨rfl,rfl⟩
 | d::l,vs,h,f=>by simp only[qo] at h;obtain⟨x,r,rfl,h1,h2⟩:=h;simp only[List.all_cons,Bool.and_eq_true] at f;obtain⟨e1,e2⟩:=qaV h1 f.1;obtain⟨e3,e4⟩:=Zi h2 f.2;subst e1 e3;exact⟨rfl,by simp only[List.all_cons,e2,e4,Bool.and_self]⟩
theorem qhm(h:RvR κ K Hv Hb G H ρ σ r x)(f:Yy r.data=true):x=flV r.data/\JO x=true:=by
 cases r with
 |val d=>exact qaV h f
 |_=>simp only[Rv.data,Yy] at f;exact absurd f (2:)
theorem qab{f:Int->Int->R Rv}{F:Rv->Prop}(h:Wk (int2 r s f) F):∃i j,r.int?=some i/\s.int?=some j/\Wk (f i j) F:=by
 unfold int2 at h
 cases e1:r.int? with
 |none=>rw[e1] at h;exact h.elim
 |some i=>
  cases e2:s.int? with
  |none=>rw[e1,e2] at h;exact h.elim
  |some j=>rw[e1,e2] at h;exact⟨i,j,rfl,rfl,h⟩
theorem qeZ{l:List D}{xs:List V}{i:Int}{d:D}(h:qo κ G l xs)(e:atI l i=some d):∃v,atI xs i=some v/\Rep κ G d v:=by unfold atI at e ⊢;rw[<-h.len];obtain⟨j,e1,e2⟩:=Option.bind_eq_some_iff.mp e;obtain⟨v,e3,e4⟩:=h.atD e2;exact⟨v,by rw[e1];exact e3,e4⟩
theorem qe0{l:List D}{xs:List V}{lo hi:Option Int}(h:qo κ G l xs):qo κ G (qeo l lo hi) (qiw xs lo hi):=by unfold qeo qiw;rw[h.len];exact(h.drop _).take _
end
section
variable(κ:KC)(K:Frag)(Gv Hv:Hp)
noncomputable def qlv(op:Operator):R2:=λx y H Q=>∃(ρ:Env) (σ:St) (G Hb Hc:Hp) (r s:Rv),ER κ K Gv Hv G H ρ σ/\RvR κ K Hv Hb G H ρ σ r x/\RvR κ K Hv Hc G H ρ σ s y/\
 Wk (Zd op r s) λz=>∀v G' H',Po κ K Gv Hv σ G H ρ G' H' ρ->RvR κ K Hv H G' H' ρ σ z v->Q v H'
noncomputable def ql9(op:CmpOp):R2:=λx y H Q=>∃(ρ:Env) (σ:St) (G Hb Hc:Hp) (r s:Rv) (b:Bool),ER κ K Gv Hv G H ρ σ/\RvR κ K Hv Hb G H ρ σ r x/\RvR κ K Hv Hc G H ρ σ s y/\JS op r s=some b/\Q (.bl b) H
noncomputable def qn6:R2:=λx y H Q=>∃(ρ:Env) (σ:St) (G Hb Hc:Hp) (r s:Rv),ER κ K Gv Hv G H ρ σ/\RvR κ K Hv Hb G H ρ σ r x/\RvR κ K Hv Hc G H ρ σ s y/\
 Wk (idxD r s) λz=>∀v G' H',Po κ K Gv Hv σ G H ρ G' H' ρ->RvR κ K Hv H G' H' ρ σ z v->Q v H'
noncomputable def qn7:V->Option Int->Option Int->Hp->VK->Prop:=λx lo hi H Q=>∃(ρ:Env) (σ:St) (G Hb:Hp) (r:Rv),ER κ K Gv Hv G H ρ σ/\RvR κ K Hv Hb G H ρ σ r x/\
 Wk (sliceD r lo hi) λz=>∀v G' H',Po κ K Gv Hv σ G H ρ G' H' ρ->RvR κ K Hv H G' H' ρ σ z v->Q v H'
noncomputable def rC1(f:Rv->R Rv):List V->Hp->VK->Prop:=λxs H Q=>∃(ρ:Env) (σ:St) (G Hb:Hp) (r:Rv) (x:V),xs=[x]/\ER κ K Gv Hv G H ρ σ/\RvR κ K Hv Hb G H ρ σ r x/\
 Wk (f r) λz=>∀v G' H',Po κ K Gv Hv σ G H ρ G' H' ρ->RvR κ K Hv H G' H' ρ σ z v->Q v H'
noncomputable def rC2(f:Rv->Rv->R Rv):List V->Hp->VK->Prop:=λxs H Q=>∃(ρ:Env) (σ:St) (G Hb Hc:Hp) (r s:Rv) (x y:V),xs=[x,y]/\ER κ K Gv Hv G H ρ σ/\RvR κ K Hv Hb G H ρ σ r x/\RvR κ K Hv Hc G H ρ σ s y/\
 Wk (f r s) λz=>∀v G' H',Po κ K Gv Hv σ G H ρ G' H' ρ->RvR κ K Hv H G' H' ρ σ z v->Q v H'
end
section
variable{κ:KC}{K:Frag}{Gv Hv:Hp}{k:Nat}{X:Cx}{Γ:Ct}
theorem Qj(op:Operator){f:Int->Int->R Rv}{C:Int->Int->Prop}{g:Int->Int->Int}(hop:OpR X (binaryOp op) (rI C λi j=>.int (g i j)))(hf:∀r s,Zd op r s=int2 r s f)(hw:∀i j F,Wk (f i j) F->C i j/\F (.val (.int (g i j)))) :
  OpR X (binaryOp op) (qlv κ K Gv Hv op):=by
 rintro pins st σ' H x y v u Q I rx ry ⟨ρ,σ,G,Hb,Hc,r,s,er,h1,h2,h⟩;rw[hf] at h;obtain⟨i,j,e1,e2,h⟩:=qab h;obtain⟨hc,h⟩:=hw i j _ h;exact hop pins st σ' H x y v u Q I rx ry ⟨i,j,h1.int e1,h2.int e2,hc,h _ G H (Po.refl er) (by simp only[RvR,Rep])⟩
theorem qma{f:Value->Value->Sem Value}{g:Int->Int->V}(h:OpR X f (rI0 g)):OpR X f (rI (λ_ _=>True) g):=λpins st σ' H x y v u Q I rx ry ⟨i,j,e1,e2,_,q⟩=>h pins st σ' H x y v u Q I rx ry ⟨i,j,e1,e2,q⟩
theorem qjr:OpR X (binaryOp .Add) (qlv κ K Gv Hv .Add):=by
 rintro pins st σ' H x y v u Q I rx ry ⟨ρ,σ,G,Hb,Hc,r,s,er,h1,h2,h⟩;have h:Wk (ql3 r s) _:=h;unfold ql3 at h
 have cat:Wk (match r.plain?,s.plain? with
   |some l,some m=>if l.length+m.length<=sizeLine then R.ok (Rv.tmp (l++m)) else .no
   |_,_=>.no) (λz=>∀v G' H',Po κ K Gv Hv σ G H ρ G' H' ρ->RvR κ K Hv H G' H' ρ σ z v->Q v H')->wpAny (model X.prog X.w) X.A (binaryOp .Add v u) (EP X pins σ' Q) X.xe st:=λh=>by
  cases e1:r.plain? with
  |none=>rw[e1] at h;exact h.elim
  |some l=>
   cases e2:s.plain? with
   |none=>rw[e1,e2] at h;exact h.elim
   |some m=>rw[e1,e2] at h;obtain⟨hz,h⟩:=Wk.iff h;obtain⟨a,xs,q1,q2,q3⟩:=h1.plain er e1;obtain⟨b,ys,p1,p2,p3⟩:=h2.plain er e2;refine qjc pins st σ' H x y v u Q I rx ry ⟨a,b,xs,ys,q1,p1,q2,p2,by rw[<-q3.len,<-p3.len];exact hz,λp hp=>?_⟩;obtain⟨z1,z2⟩:=er.newList hp (q3.app p3);exact h _ _ _ z1 z2
 have txt:Wk (match r.str?,s.str? with
   |some a,some b=>if a.length+b.length<=sizeLine then R.ok (Rv.val (.str (a++b))) else .no
   |_,_=>match r.plain?,s.plain? with
    |some l,some m=>if l.length+m.length<=sizeLine then R.ok (Rv.tmp (l++m)) else .no
    |_,_=>.no) (λz=>∀v G' H',Po κ K Gv Hv σ G H ρ G' H' ρ->RvR κ K Hv H G' H' ρ σ z v->Q v H')->wpAny (model X.prog X.w) X.A (binaryOp .Add v u) (EP X pins σ' Q) X.xe st:=λh=>by
  cases e1:r.str? with
  |none=>rw[e1] at h;exact cat h
  |some l=>
   cases e2:s.str? with
   |none=>rw[e1,e2] at h;exact cat h
   |some m=>rw[e1,e2] at h;obtain⟨hz,h⟩:=Wk.iff h;exact qbH pins st σ' H x y v u Q I rx ry ⟨l,m,h1.str e1,h2.str e2,hz,h _ G H (Po.refl er) (by simp only[RvR,Rep])⟩
 cases e1:r.int? with
 |none=>rw[e1] at h;exact txt h
 |some i=>
  cases e2:s.int? with
  |none=>rw[e1,e2] at h;exact txt h
  |some j=>rw[e1,e2] at h;exact qiX pins st σ' H x y v u Q I rx ry ⟨i,j,h1.int e1,h2.int e2,h _ G H (Po.refl er) (by simp only[RvR,Rep])⟩
theorem qhn{i j:Int}(h:qem i j=true):qlq i j:=by unfold qem at h;simp only[Bool.or_eq_true,Bool.and_eq_true,decide_eq_true_eq] at h;exact h
theorem qo.rep{G:Hp}{ds:List D}{vs:List V}(h:qo κ G ds vs):∀n:Nat,qo κ G (List.replicate n ds).flatten (List.replicate n vs).flatten
 |0=>.nil
 | n+1=>h.app (qo.rep h n)
theorem qjs:OpR X (binaryOp .Mult) (qlv κ K Gv Hv .Mult):=by
 rintro pins st σ' H x y v u Q I rx ry ⟨ρ,σ,G,Hb,Hc,r,s,er,h1,h2,h⟩;have h:Wk (ql4 r s) _:=h;unfold ql4 at h
 cases e2:s.int? with
 |none=>cases e1:r.int?<;>rw[e1,e2] at h<;>exact h.elim
 |some j=>
  cases e1:r.int? with
  |some i=>rw[e1,e2] at h;obtain⟨hm,h⟩:=Wk.iff h;exact qiZ pins st σ' H x y v u Q I rx ry ⟨i,j,h1.int e1,h2.int e2,qhn hm,h _ G H (Po.refl er) (by simp only[RvR,Rep])⟩
  |none=>
   rw[e1,e2] at h;dsimp only at h
   cases e3:r.plain? with
   |none=>rw[e3] at h;exact h.elim
   |some l=>rw[e3] at h;obtain⟨hz,h⟩:=Wk.iff h;obtain⟨a,xs,q1,q2,q3⟩:=h1.plain er e3;refine qjd pins st σ' H x y v u Q I rx ry ⟨a,j,xs,q1,h2.int e2,q2,by lia,by lia,by rw[<-q3.len];exact hz.2,λp hp=>?_⟩;obtain⟨z1,z2⟩:=er.newList hp (q3.rep _);exact h _ _ _ z1 z2
theorem qjt(op:Operator):OpR X (binaryOp op) (qlv κ K Gv Hv op):=by
 cases op with
 |Add=>exact qjr
 |Sub=>exact Qj .Sub (qma qiY) (λ_ _=>rfl) λi j F h=>⟨trivial,h⟩
 |Mult=>exact qjs
 |FloorDiv=>exact Qj .FloorDiv qgI (λ_ _=>rfl) λi j F h=>⟨(Wk.iff h).1,(Wk.iff h).2⟩
 |Mod=>exact Qj .Mod qi0 (λ_ _=>rfl) λi j F h=>⟨(Wk.iff h).1,(Wk.iff h).2⟩
 |Pow=>exact Qj .Pow qi1 (λ_ _=>rfl) λi j F h=>⟨(Wk.iff h).1,(Wk.iff h).2⟩
 |_=>exactλ_ _ _ _ _ _ _ _ _ _ _ _ h=>Exists.elim h λ_ h=>Exists.elim h λ_ h=>Exists.elim h λ_ h=>Exists.elim h λ_ h=>Exists.elim h λ_ h=>Exists.elim h λ_ h=>Exists.elim h λ_ h=>h.2.2.2.elim
theorem Qk(op:CmpOp){g:Int->Int->Bool}(hop:OpR X (compareOp op) (rI0 λi j=>.bl (g i j)))(hf:∀r s,JS op r s=qiy r s g):OpR X (compareOp op) (ql9 κ K Gv Hv op):=by
 rintro pins st σ' H x y v u Q I rx ry ⟨ρ,σ,G,Hb,Hc,r,s,b,er,h1,h2,h,q⟩;rw[hf] at h;unfold qiy at h
 cases e1:r.int? with
 |none=>rw[e1] at h;cases h
 |some i=>
  cases e2:s.int? with
  |none=>rw[e1,e2] at h;cases h
  |some j=>rw[e1,e2] at h;cases h;exact hop pins st σ' H x y v u Q I rx ry ⟨i,j,h1.int e1,h2.int e2,q⟩
theorem qf8{x y:D}{b:Bool}(h:eqD x y=some b):∃p q,toP x=some p/\toP y=some q/\SeqAt.shaped p=true/\SeqAt.shaped q=true/\b=PyData.eqv p q:=by
 unfold eqD at h
 cases e1:toP x with
 |none=>rw[e1] at h;cases h
 |some p=>
  cases e2:toP y with
  |none=>rw[e1,e2] at h;cases h
  |some q=>
   rw[e1,e2] at h;dsimp only at h
   by_cases hs:(SeqAt.shaped p&&SeqAt.shaped q)=true
   ·rw[if_pos hs] at h;cases h;rw[Bool.and_eq_true] at hs;exact⟨p,q,rfl,rfl,hs.1,hs.2,rfl⟩
   ·rw[if_neg hs] at h;cases h
theorem qf9(gd:Gd κ K k X Γ)(neg:Bool)(op:CmpOp)(hs:OpR X (compareOp op) (λx y H Q=>∃i j,x=.str i/\y=.str j/\Q (.bl (if neg then !qhg i j else qhg i j)) H))(hl:OpR X (compareOp op) (rIn X.K neg))
  (hf:∀r s,JS op r s=(qen r s).map λb=>if neg then !b else b):OpR X (compareOp op) (ql9 κ K Gv Hv op):=by
 rintro pins st σ' H x y v u Q I rx ry ⟨ρ,σ,G,Hb,Hc,r,s,b,er,h1,h2,h,q⟩;rw[hf] at h;obtain⟨b',hb',rfl⟩:=Option.map_eq_some_iff.mp h
 replace h:=hb'
 unfold qen at h
 have sq:(seqD s).bind (inD r.data)=some b'->wpAny (model X.prog X.w) X.A (compareOp op v u) (EP X pins σ' Q) X.xe st:=λh=>by
  obtain⟨l,e1,e2⟩:=Option.bind_eq_some_iff.mp h;unfold inD at e2
  by_cases hc:(Yy r.data&&l.all Yy)=true
  ·rw[if_pos hc] at e2;cases e2;rw[Bool.and_eq_true] at hc;obtain⟨a,xs,p1,p2,p3⟩:=h2.seq er e1;obtain⟨f1,f2⟩:=qhm h1 hc.1;obtain⟨f3,f4⟩:=Zi p3 hc.2;refine hl pins st σ' H x y v u Q I rx ry ⟨a,xs,p1,by rw[gd.hK];exact p2,f2,f4,?_⟩;rw[f1,f3];exact q
  ·rw[if_neg hc] at e2;cases e2
 cases e1:r.str? with
 |none=>rw[e1] at h;exact sq h
 |some i=>
  cases e2:s.str? with
  |none=>rw[e1,e2] at h;exact sq h
  |some j=>rw[e1,e2] at h;cases h;exact hs pins st σ' H x y v u Q I rx ry ⟨i,j,h1.str e1,h2.str e2,q⟩
theorem qdd{G:Hp}:∀{l:List D} {xs:List V} {ns:List Int},qo κ G l xs->qc8 l=some ns->xs=ns.map V.int
 |[],xs,ns,r,h=>by simp only[qo] at r;subst r;cases h;rfl
 | d::l,xs,ns,r,h=>by
  simp only[qo] at r;obtain⟨x,us,rfl,r1,r2⟩:=r
  cases d with
  |int i=>unfold qc8 at h;obtain⟨ms,e1,rfl⟩:=Option.map_eq_some_iff.mp h;simp only[Rep] at r1;rw[r1,qdd r2 e1];rfl
  |_=>cases h
theorem qga(gd:Gd κ K k X Γ)(op:CmpOp):OpR X (compareOp op) (ql9 κ K Gv Hv op):=by
 have hu:X.A.units+64 < cLine:=by have:=gd.room.un;lia
 cases op with
 |Eq=>rintro pins st σ' H x y v u Q I rx ry ⟨ρ,σ,G,Hb,Hc,r,s,b,er,h1,h2,h,q⟩;obtain⟨p,p',e1,e2,e3,e4,rfl⟩:=qf8 h;exact qjg hu pins st σ' H x y v u Q I rx ry ⟨p,p',by rw[gd.hK];exact h1.dv er e1,by rw[gd.hK];exact h2.dv er e2,e3,e4,q⟩
 |NotEq=>rintro pins st σ' H x y v u Q I rx ry ⟨ρ,σ,G,Hb,Hc,r,s,b,er,h1,h2,h,q⟩;obtain⟨b',h',rfl⟩:=Option.map_eq_some_iff.mp h;obtain⟨p,p',e1,e2,e3,e4,rfl⟩:=qf8 h';exact qjh hu pins st σ' H x y v u Q I rx ry ⟨p,p',by rw[gd.hK];exact h1.dv er e1,by rw[gd.hK];exact h2.dv er e2,e3,e4,q⟩
 |Lt=>exact Qk .Lt qlS λ_ _=>rfl
 |LtE=>exact Qk .LtE qlT λ_ _=>rfl
 |Gt=>exact Qk .Gt qlU λ_ _=>rfl
 |GtE=>exact Qk .GtE qlV λ_ _=>rfl
 |Is=>
  rintro pins st σ' H x y v u Q I rx ry ⟨ρ,σ,G,Hb,Hc,r,s,b,er,h1,h2,h,q⟩;have h:(if s.non?=true then some r.non? else none)=some b:=h
  by_cases hn:s.non?=true
  ·rw[if_pos hn] at h;cases h;refine qi2 pins st σ' H x y v u Q I rx ry ⟨of_decide_eq_true (h2.non.trans hn),?_⟩;rw[h1.non];exact q
  ·rw[if_neg hn] at h;cases h
 |IsNot=>
  rintro pins st σ' H x y v u Q I rx ry ⟨ρ,σ,G,Hb,Hc,r,s,b,er,h1,h2,h,q⟩;have h:(if s.non?=true then some (!r.non?) else none)=some b:=h
  by_cases hn:s.non?=true
  ·rw[if_pos hn] at h;cases h;refine qgJ pins st σ' H x y v u Q I rx ry ⟨of_decide_eq_true (h2.non.trans hn),?_⟩;rw[h1.non];exact q
  ·rw[if_neg hn] at h;cases h
 |In=>exact qf9 gd false .In qcz qcI λr s=>by show qen r s=_;cases qen r s<;>rfl
 |NotIn=>exact qf9 gd true .NotIn QS Q3 λr s=>rfl
theorem Ql{G:Hp}{x:Str}{d:D}:∀{ns:List Str} {ds:List D} {xs:List V},qo κ G ds xs->(ns.zip ds).lookup x=some d->∃v,(ns.zip xs).lookup x=some v/\Rep κ G d v
 |[],_,_,_,h=>by simp at h
 | n::ns,[],_,_,h=>by simp at h
 | n::ns,e::ds,xs,r,h=>by
  simp only[qo] at r;obtain⟨v,us,rfl,r1,r2⟩:=r;rw[List.zip_cons_cons,List.lookup_cons] at h
  cases hx:(x == n) with
  |true=>rw[hx] at h;cases h;exact⟨v,by rw[List.zip_cons_cons,List.lookup_cons,hx],r1⟩
  |false=>rw[hx] at h;obtain⟨u,z1,z2⟩:=Ql r2 h;exact⟨u,by rw[List.zip_cons_cons,List.lookup_cons,hx];exact z1,z2⟩
theorem qju(gd:Gd κ K k X Γ):IxR X (qn6 κ K Gv Hv):=by
 rintro value slice pins st σ' H x y v u Q I rx ry ⟨ρ,σ,G,Hb,Hc,r,s,er,h1,h2,h⟩ hs;unfold idxD at h
 cases e1:s.int? with
 |none=>rw[e1] at h;exact False.elim h
 |some i=>
  rw[e1] at h;dsimp only at h
  cases e2:r.str? with
  |some z=>
   rw[e2] at h;dsimp only at h;obtain⟨hz,h⟩:=Wk.iff h
   cases e3:atI z.cps.toList i with
   |none=>rw[e3] at h;exact h.elim
   |some c=>rw[e3] at h;exact qi8 value slice pins st σ' H x y v u Q I rx ry ⟨z,i,c,h1.str e2,h2.int e1,hz,e3,h _ G H (Po.refl er) (by simp only[RvR,Rep])⟩ hs
  |none=>
   rw[e2] at h;dsimp only at h
   cases e3:seqD r with
   |none=>rw[e3] at h;exact h.elim
   |some l=>
    rw[e3] at h;dsimp only at h
    cases e4:atI l i with
    |none=>rw[e4] at h;exact h.elim
    |some d=>
     rw[e4] at h;obtain⟨a,xs,p1,p2,p3⟩:=h1.seq er e3;obtain⟨w,p4,p5⟩:=qeZ p3 e4;rcases p2 with p2 | p2
     ·exact qgU value slice pins st σ' H x y v u Q I rx ry ⟨a,xs,i,w,p1,h2.int e1,by rw[gd.hK];exact p2,p4,h w G H (Po.refl er) p5⟩ hs
     ·exact qi7 value slice pins st σ' H x y v u Q I rx ry ⟨a,xs,i,w,p1,h2.int e1,by rw[gd.hK];exact p2,p4,h w G H (Po.refl er) p5⟩ hs
theorem qjv(gd:Gd κ K k X Γ):L2.SlR X (qn7 κ K Gv Hv):=by
 rintro pins st σ' H x v vl vu lo hi sl Q I rx hs pl pu ⟨ρ,σ,G,Hb,r,er,h1,h⟩;unfold sliceD at h
 cases e2:r.str? with
 |some z=>rw[e2] at h;dsimp only at h;obtain⟨hz,h⟩:=Wk.iff h;exact qjl pins st σ' H x v vl vu lo hi sl Q I rx hs pl pu ⟨z,h1.str e2,hz,h _ G H (Po.refl er) (by simp only[RvR,Rep])⟩
 |none=>rw[e2] at h;dsimp only at h;obtain⟨l,e1,h⟩:=Wk.of (Wk.th h);obtain⟨a,xs,p1,p2,p3⟩:=h1.list er e1;refine qgV pins st σ' H x v vl vu lo hi sl Q I rx hs pl pu ⟨a,xs,p1,by rw[gd.hK];exact p2,λp hp=>?_⟩;obtain⟨z1,z2⟩:=er.newList hp (qe0 (lo:=lo) (hi:=hi) p3);exact h _ _ _ z1 z2
theorem qjw(gd:Gd κ K k X Γ):q9 X (.builtin "len") (rC1 κ K Gv Hv lenD):=by
 rintro pins st σ' H xs us Q I rs ⟨ρ,σ,G,Hb,r,x,hx,er,h1,h⟩;unfold lenD at h
 cases e2:r.str? with
 |some z=>rw[e2] at h;dsimp only at h;obtain⟨hz,h⟩:=Wk.iff h;exact Q4 pins st σ' H xs us Q I rs ⟨z,by rw[hx,h1.str e2],hz,h _ G H (Po.refl er) (by simp only[RvR,Rep])⟩
 |none=>
  rw[e2] at h;dsimp only at h
  cases e3:seqD r with
  |none=>rw[e3] at h;exact h.elim
  |some l=>rw[e3] at h;obtain⟨a,ys,p1,p2,p3⟩:=h1.seq er e3;refine Jm pins st σ' H xs us Q I rs ⟨a,ys,by rw[hx,p1],by rw[gd.hK];exact p2,?_⟩;rw[<-p3.len];exact h _ G H (Po.refl er) (by simp only[RvR,Rep])
theorem qho(gd:Gd κ K k X Γ):q9 X (.type "list") (rC1 κ K Gv Hv listD):=by
 rintro pins st σ' H xs us Q I rs ⟨ρ,σ,G,Hb,r,x,hx,er,h1,h⟩;unfold listD at h
 cases e3:seqD r with
 |none=>rw[e3] at h;exact h.elim
 |some l=>rw[e3] at h;obtain⟨a,ys,p1,p2,p3⟩:=h1.seq er e3;refine jQ pins st σ' H xs us Q I rs ⟨a,ys,by rw[hx,p1],by rw[gd.hK];exact p2,λp hp=>?_⟩;obtain⟨z1,z2⟩:=er.newList hp p3;exact h _ _ _ z1 z2
theorem qbV(a b c:Int×Int)(h1:Ze a b=true)(h2:Ze b c=true):Ze a c=true:=by
 simp only[Ze,Bool.or_eq_true,Bool.and_eq_true,decide_eq_true_eq] at *
 lia
theorem qbW(a b:Int×Int):(Ze a b||Ze b a)=true:=by
 simp only[Ze,Bool.or_eq_true,Bool.and_eq_true,decide_eq_true_eq] at *
 lia
theorem qe1{ps qs:List (Int×Int)}(p:qs.Perm ps)(s:qs.Pairwise qcQ):yL ps=qs:=by
 have s1:(yL ps).Pairwise λa b=>Ze a b=true:=List.pairwise_mergeSort qbV qbW ps
 have s2:qs.Pairwise λa b=>Ze a b=true:=s.imp λ{a b} h=>by simp only[Ze,Bool.or_eq_true,Bool.and_eq_true,decide_eq_true_eq];exact h
 refine List.Perm.eq_of_pairwise (λa b _ _ h1 h2=>?_) s1 s2 ((List.mergeSort_perm ps Ze).trans p.symm);simp only[Ze,Bool.or_eq_true,Bool.and_eq_true,decide_eq_true_eq] at h1 h2;exact Prod.ext (by lia) (by lia)
theorem qaW{G:Hp}:∀{l:List D} {xs:List V} {ps:List (Int×Int)},qo κ G l xs->qf4 l=some ps->Paired (λx (p:Int×Int)=>∃a,x=V.ref a/\G a=some (.tup [.int p.1,.int p.2])) xs ps
 |[],xs,ps,r,h=>by simp only[qo] at r;subst r;cases h;exact .nil
 | d::l,xs,ps,r,h=>by
  simp only[qo] at r;obtain⟨x,us,rfl,r1,r2⟩:=r;unfold qf4 at h
  cases e1:prD d with
  |none=>rw[e1] at h;cases h
  |some p=>
   cases e2:qf4 l with
   |none=>rw[e1,e2] at h;cases h
   |some qs=>
    rw[e1,e2] at h;cases h;refine .cons ?_ (qaW r2 e2);unfold prD at e1
    split at e1
    ·cases e1;simp only[Rep,qo] at r1;obtain⟨a,ys,rfl,h1,x1,z1,rfl,rfl,x2,z2,rfl,rfl,rfl⟩:=r1;exact⟨a,rfl,h1⟩
    ·cases e1
theorem Paired.memL{α β:Type}{R:α->β->Prop}:∀{l:List α} {m:List β},Paired R l m->∀a∈l,∃b,R a b
 |_,_,.nil,a,h=>by cases h
 |_,_,.cons r rs,a,h=>by
  cases h with
  |head=>exact⟨_,r⟩
  |tail _ h=>exact Paired.memL rs a h
theorem qbX{G H:Hp}(sub:qp G H){xs:List V}(f:∀x∈xs,∃p:Int×Int,∃a,x=V.ref a/\G a=some (.tup [.int p.1,.int p.2])){ys:List V}{qs:List (Int×Int)}(hm:∀y∈ys,y∈xs)(h:Paired (P2 K H) ys qs):qo κ G (qs.map pD) ys:=by
 induction h with
 |nil=>exact .nil
 |cons r rs ih=>refine .cons ?_ (ih λz hz=>hm z (List.mem_cons_of_mem _ hz));obtain⟨p,a,rfl,ga⟩:=f _ (hm _ (List.mem_cons_self ..));obtain⟨b,eb,hb⟩:=r;cases eb;rw[sub _ _ ga] at hb;rw[hb] at ga;simp only[pD,Rep,qo];exact⟨a,_,rfl,ga,_,_,rfl,rfl,_,_,rfl,rfl,rfl⟩
theorem qde(gd:Gd κ K k X Γ):q9 X (.builtin "sorted") (rC1 κ K Gv Hv Qe):=by
 rintro pins st σ' H xs us Q I rs ⟨ρ,σ,G,Hb,r,x,hx,er,h1,h⟩;unfold Qe at h
 cases e3:r.list? with
 |none=>rw[e3] at h;exact h.elim
 |some l=>
  rw[e3] at h;dsimp only at h
  cases e4:qf4 l with
  |none=>rw[e4] at h;exact h.elim
  |some ps=>
   rw[e4] at h;dsimp only at h;obtain⟨h64,h⟩:=Wk.iff h;obtain⟨a,ys,p1,p2,p3⟩:=h1.list er e3;have pr:=qaW p3 e4
   have hlen:ys.length < 64:=by
    have:∀{xs:List V} {ps:List (Int×Int)} {R:V->Int×Int->Prop},Paired R xs ps->xs.length=ps.length:=by
     intro xs ps R q
     induction q with
     |nil=>rfl
     |cons _ _ ih=>simp[ih]
    rw[this pr];exact h64
   have pr2:Paired (P2 X.K H) ys ps:=by
    have:∀{ys:List V} {ps:List (Int×Int)},Paired (λx (p:Int×Int)=>∃a,x=V.ref a/\G a=some (.tup [.int p.1,.int p.2])) ys ps->Paired (P2 X.K H) ys ps:=by
     intro ys ps q
     induction q with
     |nil=>exact .nil
     |cons r rs ih=>obtain⟨a,e,ga⟩:=r;exact .cons ⟨a,e,er.sub _ _ ga⟩ ih
    exact this pr
   refine Qd pins st σ' H xs us Q I rs ⟨a,ys,ps,by rw[hx,p1],by rw[gd.hK];exact p2,hlen,pr2,λp zs qs hp z1 z2 z3 z4=>?_⟩;have e5:yL ps=qs:=qe1 z3 z4
   have rr:qo κ G ((yL ps).map pD) zs:=by rw[e5];refine qbX (K:=X.K) er.sub (λx hx=>?_) (λy hy=>z2.mem_iff.mp hy) z1;obtain⟨p,hp⟩:=Paired.memL pr x hx;exact⟨p,hp⟩
   obtain⟨w1,w2⟩:=er.newList hp rr;exact h _ _ _ w1 w2
theorem qjx(gd:Gd κ K k X Γ):q9 X (.builtin "sum") (rC1 κ K Gv Hv ql5):=by
 rintro pins st σ' H xs us Q I rs ⟨ρ,σ,G,Hb,r,x,hx,er,h1,h⟩;unfold ql5 at h
 cases e3:r.list? with
 |none=>rw[e3] at h;exact h.elim
 |some l=>
  rw[e3] at h;dsimp only at h
  cases e4:qc8 l with
  |none=>rw[e4] at h;exact h.elim
  |some ns=>rw[e4] at h;obtain⟨a,ys,p1,p2,p3⟩:=h1.list er e3;rw[qdd p3 e4] at p2;exact qcV gd.calm pins st σ' H xs us Q I rs ⟨a,ns,by rw[hx,p1],by rw[gd.hK];exact p2,h _ G H (Po.refl er) (by simp only[RvR,Rep])⟩
theorem qjy(gd:Gd κ K k X Γ):q9 X (.builtin "all") (rC1 κ K Gv Hv qmX):=by rintro pins st σ' H xs us Q I rs ⟨ρ,σ,G,Hb,r,x,hx,er,h1,h⟩;exact h.elim
theorem qjz:q9 X (.type "str") (rC1 κ K Gv Hv strD):=by
 rintro pins st σ' H xs us Q I rs ⟨ρ,σ,G,Hb,r,x,hx,er,h1,h⟩;unfold strD at h
 cases e3:r.int? with
 |none=>rw[e3] at h;exact h.elim
 |some i=>rw[e3] at h;obtain⟨hz,h⟩:=Wk.iff h;have e:=h1.int e3;subst e hx;obtain⟨u,rfl,rx⟩:=JK rs;obtain⟨t,rfl⟩:=rx;exact PySem.P.str_of_int hz ⟨.str _,H,I.tok _,⟨_,rfl⟩,h _ G H (Po.refl er) (by simp only[RvR,Rep])⟩
theorem qe2(gd:Gd κ K k X Γ):q9 X (.type "tuple") (rC1 κ K Gv Hv tupD):=by
 rintro pins st σ' H xs us Q I rs ⟨ρ,σ,G,Hb,r,x,hx,er,h1,h⟩;unfold tupD at h
 cases e3:r.list? with
 |none=>rw[e3] at h;exact h.elim
 |some l=>rw[e3] at h;obtain⟨a,ys,p1,p2,p3⟩:=h1.list er e3;refine yH pins st σ' H xs us Q I rs ⟨a,ys,by rw[hx,p1],.inl ⟨by rw[gd.hK];exact p2,λp hp=>?_⟩⟩;have po:=Po.lay (o:=.tup ys) er hp;exact h _ _ _ po (by simp only[RvR,Rep];exact⟨p,ys,rfl,qg,p3.same po.gs⟩)
theorem qjA:q9 X (.type "int") (rC1 κ K Gv Hv intD):=by
 rintro pins st σ' H xs us Q I rs ⟨ρ,σ,G,Hb,r,x,hx,er,h1,h⟩;unfold intD at h
 cases e3:r.int? with
 |some i=>rw[e3] at h;exact QU pins st σ' H xs us Q I rs (.inl ⟨i,by rw[hx,h1.int e3],h _ G H (Po.refl er) (by simp only[RvR,Rep])⟩)
 |none=>
  rw[e3] at h;dsimp only at h
  cases e4:r.bl? with
  |none=>rw[e4] at h;exact False.elim h
  |some b=>rw[e4] at h;exact QU pins st σ' H xs us Q I rs (.inr ⟨b,by rw[hx,h1.bl e4],h _ G H (Po.refl er) (by simp only[RvR,Rep])⟩)
theorem qjB(gd:Gd κ K k X Γ):q9 X (.builtin "max") (rC2 κ K Gv Hv maxD):=by rintro pins st σ' H xs us Q I rs ⟨ρ,σ,G,Hb,Hc,r,s,x,y,hx,er,h1,h2,h⟩;obtain⟨i,j,e1,e2,h⟩:=qab h;exact qcA gd.calm pins st σ' H xs us Q I rs ⟨i,j,by rw[hx,h1.int e1,h2.int e2],h _ G H (Po.refl er) (by simp only[RvR,Rep])⟩
theorem qjC(gd:Gd κ K k X Γ):q9 X (.builtin "min") (rC2 κ K Gv Hv minD):=by rintro pins st σ' H xs us Q I rs ⟨ρ,σ,G,Hb,Hc,r,s,x,y,hx,er,h1,h2,h⟩;obtain⟨i,j,e1,e2,h⟩:=qab h;exact qcB gd.calm pins st σ' H xs us Q I rs ⟨i,j,by rw[hx,h1.int e1,h2.int e2],h _ G H (Po.refl er) (by simp only[RvR,Rep])⟩
theorem qe3(gd:Gd κ K k X Γ){G H Hb:Hp}{ρ:Env}{σ:St}{r:Rv}{x:V}{b:Bool}(er:ER κ K Gv Hv G H ρ σ)(h:RvR κ K Hv Hb G H ρ σ r x)(e:truthD r=some b):qlr X.K x H b:=by
 have sq:∀{r:Rv},RvR κ K Hv Hb G H ρ σ r x->(seqD r).map (λl=>!l.isEmpty)=some b->qlr X.K x H b:=λ{r} h e=>by
  obtain⟨l,e1,rfl⟩:=Option.map_eq_some_iff.mp e;obtain⟨a,xs,rfl,p2,p3⟩:=h.seq er e1
  have hl:(!l.isEmpty) = !xs.isEmpty:=by
   have:=p3.len
   cases l<;>cases xs<;>simp_all
  rw[hl,gd.hK];rcases p2 with p2 | p2
  ·exact .inl ⟨xs,p2,rfl⟩
  ·exact .inr (.inl ⟨xs,p2,rfl⟩)
 cases r with
 |val d=>
  cases d with
  |non=>simp only[RvR,Rep] at h;subst h;simp only[truthD] at e;cases e;exact rfl
  |bl c=>simp only[RvR,Rep] at h;subst h;simp only[truthD] at e;cases e;exact rfl
  |int c=>simp only[RvR,Rep] at h;subst h;simp only[truthD] at e;cases e;exact rfl
  |str c=>
   simp only[RvR,Rep] at h;subst h;simp only[truthD] at e
   by_cases hz:c.length<=sizeLine
   ·rw[if_pos hz] at e;cases e;exact⟨hz,rfl⟩
   ·rw[if_neg hz] at e;cases e
  |lst l=>exact sq h e
  |tup l=>exact sq h e
  |ins c ns l=>exact sq h e
  |exc c ns l=>exact sq h e
  |dct ns l=>exact sq h e
 |tmp l=>exact sq h e
 |cell l=>exact sq h e
 |scr l=>exact sq h e
end
end DE
namespace DE
open PySem PySem.Spec PyProof.Rows L2
structure All(κ:KC)(K:Frag)(k:Nat)(X:Cx)(Γ:Ct)(m:Nat):Prop where
 r:∀Gv Hv e x,cE m Γ e=some x->PE X e (tR κ K Gv Hv (iR Γ.k x))
 e:∀Gv Hv e x,cX m Γ e=some x->PE X e (tE κ K Gv Hv (ze x (iR Γ.k x)))
 t:∀Gv Hv e x,cT m Γ e=some x->PT X e (tT κ K Gv Hv (iT Γ.k x))
 es:∀Gv Hv e x,cEs m Γ e=some x->PA X e (tEs κ K Gv Hv (iEs Γ.k x))
 as:∀Gv Hv e x,cAs m Γ e=some x->PA X e (tAs κ K Gv Hv (iAs Γ.k x))
 o:∀Gv Hv e x,cO m Γ e=some x->PO X e (tO κ K Gv Hv (iO Γ.k x))
 f:∀Gv Hv e x,cF m Γ e=some x->PIf X e (tT κ K Gv Hv (iF Γ.k x))
 l:∀Gv Hv e x,cL m Γ e=some x->PE X e (tL κ K Gv Hv (jf x (iR Γ.k x)))
 i:∀Gv Hv tg e x,cI m Γ (qeU tg) e=some x->PI X tg e (tI κ K Gv Hv (iI Γ.k x))
section
variable{κ:KC}{K:Frag}{Gv Hv:Hp}{k m:Nat}{X:Cx}{Γ:Ct}{x:E}
theorem qn8:All κ K k X Γ 0:={ r:=(λ_ _ _ _ h=>nomatch h),e:=(λ_ _ _ _ h=>nomatch h),t:=(λ_ _ _ _ h=>nomatch h),es:=(λ_ _ _ _ h=>nomatch h),as:=(λ_ _ _ _ h=>nomatch h),o:=(λ_ _ _ _ h=>nomatch h),f:=(λ_ _ _ _ h=>nomatch h),l:=(λ_ _ _ _ h=>nomatch h),i:=(λ_ _ _ _ _ h=>nomatch h) }
theorem qe4(c:Const)(j:Nat)(pos:Pos)(h:qf6 c=some x):PE X (.Constant c j pos) (tR κ K Gv Hv (iR Γ.k x)):=by
 cases c with
 |none=>cases h;exact PE.imp qiJ λσ H Q ⟨ρ,G,er,h⟩=>h _ G H (Po.refl er) (by simp only[RvR,Rep])
 |bool b=>cases h;exact PE.imp qlG λσ H Q ⟨ρ,G,er,h⟩=>h _ G H (Po.refl er) (by simp only[RvR,Rep])
 |int b=>cases h;exact PE.imp YF λσ H Q ⟨ρ,G,er,h⟩=>h _ G H (Po.refl er) (by simp only[RvR,Rep])
 |str b=>cases h;exact PE.imp qiK λσ H Q ⟨ρ,G,er,h⟩=>h _ G H (Po.refl er) (by simp only[RvR,Rep])
 |_=>cases h
theorem qe5(A:All κ K k X Γ m)(a b:Expr)(op:Operator)(pos:Pos)(h:cE (m+1) Γ (.BinOp a op b pos)=some x):PE X (.BinOp a op b pos) (tR κ K Gv Hv (iR Γ.k x)):=by obtain⟨a',b',h1,h2,rfl⟩:=qm h;refine PE.imp (qlR (qjt (κ:=κ) (K:=K) (Gv:=Gv) (Hv:=Hv) op) (A.r Gv Hv _ _ h1) (A.r Gv Hv _ _ h2)) λσ H Q hq1=>?_;obtain⟨ρ,G,er,h⟩:=hq1;refine⟨ρ,G,er,Wk.mono (Wk.th (x:=iR Γ.k a' ρ) h) λx h v G1 H1 p1 r1=>⟨x.2,G1,p1.er,Wk.mono (Wk.th (x:=iR Γ.k b' x.2) h) λy h w G2 H2 p2 r2=>?_⟩⟩;exact⟨y.2,σ,G2,H,H1,x.1,y.1,p2.er,r1.keep p2,r2,Wk.mono (Wk.th h) λz h u G3 H3 p3 r3=>h u G3 H3 (p1.trans (p2.trans p3)) (r3.back (p1.trans p2).hs)⟩
theorem qjD(A:All κ K k X Γ m)(a:Expr)(pos:Pos)(h:cE (m+1) Γ (.UnaryOp .USub a pos)=some x):PE X (.UnaryOp .USub a pos) (tR κ K Gv Hv (iR Γ.k x)):=by
 obtain⟨a',h1,rfl⟩:=ql h;refine PE.imp (qiW qfW (A.r Gv Hv _ _ h1)) λσ H Q hq1=>?_;obtain⟨ρ,G,er,h⟩:=hq1;refine⟨ρ,G,er,Wk.mono (Wk.th (x:=iR Γ.k a' ρ) h) λx h v G1 H1 p1 r1=>?_⟩;obtain⟨rv,ρ1⟩:=x
 cases rv with
 |val d=>
  cases d with
  |int i=>exact⟨i,by simpa only[RvR,Rep] using r1,h _ G1 H1 p1 (by simp only[RvR,Rep])⟩
  |_=>exact False.elim h
 |_=>exact False.elim h
theorem qhp(A:All κ K k X Γ m)(a:Expr)(pos:Pos)(h:cE (m+1) Γ (.UnaryOp .Not a pos)=some x):PE X (.UnaryOp .Not a pos) (tR κ K Gv Hv (iR Γ.k x)):=by
 obtain⟨a',h1,rfl⟩:=ql h;refine PE.imp (qiO (A.r Gv Hv _ _ h1)) λσ H Q hq1=>?_;obtain⟨ρ,G,er,h⟩:=hq1;refine⟨ρ,G,er,Wk.mono (Wk.th (x:=iR Γ.k a' ρ) h) λx h v G1 H1 p1 r1=>?_⟩;obtain⟨rv,ρ1⟩:=x
 cases rv with
 |val d=>
  cases d with
  |bl i=>exact⟨i,by simpa only[RvR,Rep] using r1,h _ G1 H1 p1 (by simp only[RvR,Rep])⟩
  |_=>exact False.elim h
 |_=>exact False.elim h
theorem qhq(gd:Gd κ K k X Γ)(A:All κ K k X Γ m)(a b:Expr)(op:CmpOp)(pos:Pos)(h:cE (m+1) Γ (.Compare a [op] [b] pos)=some x):PE X (.Compare a [op] [b] pos) (tR κ K Gv Hv (iR Γ.k x)):=by obtain⟨hm,h⟩:=qi h;obtain⟨a',b',h1,h2,rfl⟩:=qm h;refine PE.imp (qgK (qga (Gv:=Gv) (Hv:=Hv) gd op) (A.r Gv Hv _ _ h1) (A.r Gv Hv _ _ h2) (by simpa using hm)) λσ H Q hq1=>?_;obtain⟨ρ,G,er,h⟩:=hq1;refine⟨ρ,G,er,Wk.mono (Wk.th (x:=iR Γ.k a' ρ) h) λx h v G1 H1 p1 r1=>⟨x.2,G1,p1.er,Wk.mono (Wk.th (x:=iR Γ.k b' x.2) h) λy h w G2 H2 p2 r2=>?_⟩⟩;obtain⟨c,e,h⟩:=Wk.of (Wk.th h);exact⟨y.2,σ,G2,H,H1,x.1,y.1,c,p2.er,r1.keep p2,r2,e,h _ G2 H2 (p1.trans p2) (by simp only[RvR,Rep])⟩
theorem qhr(gd:Gd κ K k X Γ)(A:All κ K k X Γ m)(a b:Expr)(op:CmpOp)(pos:Pos){x:T}(h:cT (m+1) Γ (.Compare a [op] [b] pos)=some x):PT X (.Compare a [op] [b] pos) (tT κ K Gv Hv (iT Γ.k x)):=by obtain⟨hm,h⟩:=qi h;obtain⟨a',b',h1,h2,rfl⟩:=qm h;refine PT.imp (qgL (qga (Gv:=Gv) (Hv:=Hv) gd op) (A.r Gv Hv _ _ h1) (A.r Gv Hv _ _ h2) (by simpa using hm)) λσ H Q hq1=>?_;obtain⟨ρ,G,er,h⟩:=hq1;refine⟨ρ,G,er,Wk.mono (Wk.th (x:=iR Γ.k a' ρ) h) λx h v G1 H1 p1 r1=>⟨x.2,G1,p1.er,Wk.mono (Wk.th (x:=iR Γ.k b' x.2) h) λy h w G2 H2 p2 r2=>?_⟩⟩;obtain⟨c,e,h⟩:=Wk.of (Wk.th h);exact⟨y.2,σ,G2,H,H1,x.1,y.1,c,p2.er,r1.keep p2,r2,e,c,rfl,h G2 H2 (p1.trans p2)⟩
theorem qjE(A:All κ K k X Γ m)(a b:Expr)(l:List Expr)(pos:Pos)(h:cE (m+1) Γ (.BoolOp .And (a::b::l) pos)=some x):PE X (.BoolOp .And (a::b::l) pos) (tR κ K Gv Hv (iR Γ.k x)):=by
 obtain⟨a',b',h1,h2,rfl⟩:=qm h;refine PE.imp (qiN (A.r Gv Hv _ _ h1) (A.r Gv Hv _ _ h2)) λσ H Q hq1=>?_;obtain⟨ρ,G,er,h⟩:=hq1;refine⟨ρ,G,er,Wk.mono (Wk.th (x:=iR Γ.k a' ρ) h) λx h v G1 H1 p1 r1=>?_⟩;obtain⟨rv,ρ1⟩:=x
 cases rv with
 |val d=>
  cases d with
  |bl c=>
   refine⟨c,by simpa only[RvR,Rep] using r1,?_⟩
   cases c with
   |true=>rw[if_pos rfl];exact⟨ρ1,G1,p1.er,Wk.mono h λy h w G2 H2 p2 r2=>h w G2 H2 (p1.trans p2) (r2.back p1.hs)⟩
   |false=>rw[if_neg (λz=>by cases z)];exact h _ G1 H1 p1 (by simp only[RvR,Rep])
  |_=>exact False.elim h
 |_=>exact False.elim h
theorem qjF(A:All κ K k X Γ m)(c a b:Expr)(pos:Pos)(h:cE (m+1) Γ (.IfExp c a b pos)=some x):PE X (.IfExp c a b pos) (tR κ K Gv Hv (iR Γ.k x)):=by
 obtain⟨c',q,h1,h2,rfl⟩:=qm h;obtain⟨a',b',h3,h4,rfl⟩:=qm h2;refine PE.imp (qev (A.t Gv Hv _ _ h1) (A.r Gv Hv _ _ h3) (A.r Gv Hv _ _ h4)) λσ H Q hq1=>?_;obtain⟨ρ,G,er,h⟩:=hq1;refine⟨ρ,G,er,Wk.mono (Wk.th (x:=iT Γ.k c' ρ) h) λx h G1 H1 p1=>?_⟩;obtain⟨d,ρ1⟩:=x
 cases d with
 |true=>rw[if_pos rfl];exact⟨ρ1,G1,p1.er,Wk.mono h λy h w G2 H2 p2 r2=>h w G2 H2 (p1.trans p2) (r2.back p1.hs)⟩
 |false=>rw[if_neg (λz=>by cases z)];exact⟨ρ1,G1,p1.er,Wk.mono h λy h w G2 H2 p2 r2=>h w G2 H2 (p1.trans p2) (r2.back p1.hs)⟩
theorem qbY{b:Expr}(h:∀lo hi st p,b≠.Slice lo hi st p):qcH b:=λo i=>by cases b<;>first | rfl | exact absurd rfl (h _ _ _ _)
theorem qo.reverse{G:Hp}:∀{l:List D} {xs:List V},qo κ G l xs->qo κ G l.reverse xs.reverse
 |[],xs,h=>by simp only[qo] at h;subst h;exact .nil
 | d::l,xs,h=>by simp only[qo] at h;obtain⟨v,r,rfl,h1,h2⟩:=h;rw[List.reverse_cons,List.reverse_cons];exact(qo.reverse h2).snoc h1
theorem qhs{lo hi:Option Expr}{st:Expr}(h:qlt lo hi st=true):lo=none/\hi=none/\∃j p q,st=.UnaryOp .USub (.Constant (.int 1) j p) q:=by
 unfold qlt at h
 split at h
 ·exact⟨rfl,rfl,_,_,_,rfl⟩
 ·cases h
theorem qjG(gd:Gd κ K k X Γ)(A:All κ K k X Γ m){a:Expr}{lo hi:Option Expr}{st:Expr}(p pos:Pos)(h:oif (qlt lo hi st) ((cE m Γ a).map .rvs)=some x):PE X (.Subscript a (.Slice lo hi (some st) p) pos) (tR κ K Gv Hv (iR Γ.k x)):=by obtain⟨hr,h⟩:=qi h;obtain⟨a',h1,rfl⟩:=ql h;obtain⟨rfl,rfl,j,p1,q1,rfl⟩:=qhs hr;have hst:PE X (.UnaryOp .USub (.Constant (.int 1) j p1) q1) (tC (.int (-1))):=PE.imp (qiW qfW YF) λσ H Q h=>⟨1,rfl,h⟩;refine PE.imp (qcU (A.r Gv Hv _ _ h1) Z4 Z4 hst) λσ H Q hq1=>?_;obtain⟨ρ,G,er,h⟩:=hq1;refine⟨ρ,G,er,Wk.mono (Wk.th (x:=iR Γ.k a' ρ) h) λx h v G1 H1 p1 r1=>?_⟩;obtain⟨l,e1,h⟩:=Wk.of (Wk.th h);obtain⟨b,xs,rfl,q1,q2⟩:=r1.list p1.er e1;refine⟨b,xs,-1,xs.reverse,rfl,by rw[gd.hK];exact q1,rfl,by decide,by simp,qeL,λp hp=>?_⟩;obtain⟨z1,z2⟩:=p1.er.newList hp q2.reverse;exact h _ _ _ (p1.trans z1) (z2.back p1.hs)
theorem qjH(gd:Gd κ K k X Γ)(A:All κ K k X Γ m)(a b:Expr)(pos:Pos)(h:cE (m+1) Γ (.Subscript a b pos)=some x):PE X (.Subscript a b pos) (tR κ K Gv Hv (iR Γ.k x)):=by
 have gen:(∀lo hi st p,b≠.Slice lo hi st p)->o2 (cE m Γ a) (cE m Γ b) .idx=some x->PE X (.Subscript a b pos) (tR κ K Gv Hv (iR Γ.k x)):=λhb h=>by obtain⟨a',b',h1,h2,rfl⟩:=qm h;refine PE.imp (qlY (qju (Gv:=Gv) (Hv:=Hv) gd) (A.r Gv Hv _ _ h1) (A.r Gv Hv _ _ h2) (qbY hb)) λσ H Q hq1=>?_;obtain⟨ρ,G,er,h⟩:=hq1;refine⟨ρ,G,er,Wk.mono (Wk.th (x:=iR Γ.k a' ρ) h) λx h v G1 H1 p1 r1=>⟨x.2,G1,p1.er,Wk.mono (Wk.th (x:=iR Γ.k b' x.2) h) λy h w G2 H2 p2 r2=>?_⟩⟩;exact⟨y.2,σ,G2,H,H1,x.1,y.1,p2.er,r1.keep p2,r2,Wk.mono (Wk.th h) λz h u G3 H3 p3 r3=>h u G3 H3 (p1.trans (p2.trans p3)) (r3.back (p1.trans p2).hs)⟩
 cases b with
 |Slice lo hi st p=>
  cases st with
  |some st=>exact qjG gd A p pos h
  |none=>obtain⟨a',q,h1,h2,rfl⟩:=qm h;obtain⟨l',u',h3,h4,rfl⟩:=qm h2;refine PE.imp (qeG (qjv (Gv:=Gv) (Hv:=Hv) gd) (A.r Gv Hv _ _ h1) (A.o Gv Hv _ _ h3) (A.o Gv Hv _ _ h4)) λσ H Q hq1=>?_;obtain⟨ρ,G,er,h⟩:=hq1;refine⟨ρ,G,er,Wk.mono (Wk.th (x:=iR Γ.k a' ρ) h) λx h v G1 H1 p1 r1=>⟨x.2,G1,p1.er,Wk.mono (Wk.th (x:=iO Γ.k l' x.2) h) λy h G2 H2 p2=>⟨y.2,G2,p2.er,Wk.mono (Wk.th (x:=iO Γ.k u' y.2) h) λz h G3 H3 p3=>?_⟩⟩⟩;exact⟨z.2,σ,G3,H,x.1,p3.er,(r1.keep p2).keep p3,Wk.mono (Wk.th h) λu h w G4 H4 p4 r4=>h w G4 H4 (p1.trans (p2.trans (p3.trans p4))) (r4.back (p1.trans (p2.trans p3)).hs)⟩
 |_=>exact gen (λ_ _ _ _ z=>by cases z) h
theorem qjI(A:All κ K k X Γ m)(es:List Expr)(pos:Pos)(h:cE (m+1) Γ (.List es pos)=some x):PE X (.List es pos) (tR κ K Gv Hv (iR Γ.k x)):=by obtain⟨l,h1,rfl⟩:=ql h;refine PE.imp (qi5 (A.es Gv Hv _ _ h1)) λσ H Q hq1=>?_;obtain⟨ρ,G,er,h⟩:=hq1;refine⟨ρ,G,er,Wk.mono (Wk.th (x:=iEs Γ.k l ρ) h) λx h vs G1 H1 p1 r1=>?_⟩;obtain⟨hz,h⟩:=Wk.iff h;refine⟨by rw[<-r1.len];exact hz,λp hp=>?_⟩;obtain⟨z1,z2⟩:=p1.er.newList hp r1;exact h _ _ _ (p1.trans z1) (z2.back p1.hs)
theorem qjJ(A:All κ K k X Γ m)(es:List Expr)(j:Nat)(pos:Pos)(h:cE (m+1) Γ (.Tuple es j pos)=some x):PE X (.Tuple es j pos) (tR κ K Gv Hv (iR Γ.k x)):=by obtain⟨l,h1,rfl⟩:=ql h;refine PE.imp (qfX (A.es Gv Hv _ _ h1)) λσ H Q hq1=>?_;obtain⟨ρ,G,er,h⟩:=hq1;refine⟨ρ,G,er,Wk.mono (Wk.th (x:=iEs Γ.k l ρ) h) λx h vs G1 H1 p1 r1=>?_⟩;obtain⟨hz,h⟩:=Wk.iff h;refine⟨by rw[<-r1.len];exact hz,λp hp=>?_⟩;have z1:=Po.lay (o:=.tup vs) p1.er hp;refine h _ _ _ (p1.trans z1) ?_;simp only[RvR,Rep];exact⟨p,vs,rfl,qg,r1.same z1.gs⟩
theorem qn9(gd:Gd κ K k X Γ)(A:All κ K k X Γ m)(e:Expr)(x:E)(h:cX (m+1) Γ e=some x):PE X e (tE κ K Gv Hv (ze x (iR Γ.k x))):=by
 have gen:(cE m Γ e).bind Zh=some x->PE X e (tE κ K Gv Hv (ze x (iR Γ.k x))):=λh=>by
  obtain⟨y,h1,h2⟩:=Option.bind_eq_some_iff.mp h;obtain⟨rfl,hv⟩:=jg h2;refine PE.imp (A.r Gv Hv _ _ h1) λσ H Q hq1=>?_;obtain⟨ρ,G,er,h⟩:=hq1;rw[qhi hv] at h;refine⟨ρ,G,er,Wk.mono (Wk.th h) λx h v G1 H1 p1 r1=>?_⟩;obtain⟨rv,ρ1⟩:=x
  cases rv with
  |val d=>exact h v G1 H1 p1 r1
  |tmp l=>obtain⟨a,xs,rfl,h1,h2,h3,h4,h5,h6⟩:=r1;have p2:=p1.freeze h1 h2 h3 h4 h5;refine h _ _ H1 p2 ?_;simp only[Rep];exact⟨a,xs,rfl,qg,h6.same (qp.upd h4)⟩
  |_=>exact False.elim h
 cases e with
 |Name x pos=>exact qaU gd h pos
 |_=>exact gen h
theorem qmb(A:All κ K k X Γ m):∀es x,cEs (m+1) Γ es=some x->PA X es (tEs κ K Gv Hv (iEs Γ.k x))
 |[],_,h=>by cases h;exact PA.imp qw λσ H Q ⟨ρ,G,er,h⟩=>h [] G H (Po.refl er) .nil
 | e::l,_,h=>by obtain⟨hs,h⟩:=qi h;obtain⟨a',l',h1,h2,rfl⟩:=qm h;refine PA.imp (qh (A.e Gv Hv _ _ h1) (A.es Gv Hv _ _ h2) (qf (by simpa using hs))) λσ H Q hq1=>?_;obtain⟨ρ,G,er,h⟩:=hq1;refine⟨ρ,G,er,Wk.mono (Wk.th (x:=ze a' (iR Γ.k a') ρ) h) λx h v G1 H1 p1 r1=>⟨x.2,G1,p1.er,Wk.mono (Wk.th (x:=iEs Γ.k l' x.2) h) λy h vs G2 H2 p2 r2=>?_⟩⟩;exact h _ G2 H2 (p1.trans p2) (.cons (r1.same p2.gs) r2)
theorem qmc(A:All κ K k X Γ m):∀es x,cAs (m+1) Γ es=some x->PA X es (tAs κ K Gv Hv (iAs Γ.k x))
 |[],_,h=>by cases h;exact PA.imp qw λσ H Q ⟨ρ,G,er,h⟩=>h [] G H (Po.refl er) rfl
 | e::l,_,h=>by
  obtain⟨hs,h⟩:=qi h;obtain⟨a',l',h1,h2,rfl⟩:=qm h;refine PA.imp (qh (A.r Gv Hv _ _ h1) (A.as Gv Hv _ _ h2) (qf (by simpa using hs))) λσ H Q hq1=>?_;obtain⟨ρ,G,er,h⟩:=hq1;refine⟨ρ,G,er,Wk.mono (Wk.th (x:=iR Γ.k a' ρ) h) λx h v G1 H1 p1 r1=>?_⟩;have h:=Wk.th (x:=iAs Γ.k l' x.2) h;obtain⟨rv,ρ1⟩:=x
  cases rv with
  |val d=>exact⟨ρ1,G1,p1.er,Wk.mono h λy h vs G2 H2 p2 r2=>h _ G2 H2 (p1.trans p2) ⟨v,vs,rfl,Rep.same p2.gs r1,r2⟩⟩
  |tmp ds=>obtain⟨a,xs,rfl,h1,h2,h3,h4,h5,h6⟩:=r1;have p1':=p1.freeze h1 h2 h3 h4 h5;refine⟨ρ1,_,p1'.er,Wk.mono h λy h vs G2 H2 p2 r2=>h _ G2 H2 (p1'.trans p2) ⟨_,vs,rfl,?_,r2⟩⟩;show Rep κ G2 (.lst ds) (.ref a);simp only[Rep];exact⟨a,xs,rfl,p2.gs _ _ qg,(h6.same (qp.upd h4)).same p2.gs⟩
  |cell ds=>obtain⟨a,xs,rfl,h1,h6⟩:=r1;exact⟨ρ1,G1,p1.er,Wk.mono h λy h vs G2 H2 p2 r2=>h _ G2 H2 (p1.trans p2) ⟨_,vs,rfl,⟨a,xs,rfl,p2.hs _ _ h1,h6.same p2.gs⟩,r2⟩⟩
  |scr ds=>obtain⟨a,xs,rfl,h1,h6⟩:=r1;exact⟨ρ1,G1,p1.er,Wk.mono h λy h vs G2 H2 p2 r2=>h _ G2 H2 (p1.trans p2) ⟨_,vs,rfl,⟨a,xs,rfl,p2.hs.seq h1,h6.same p2.gs⟩,r2⟩⟩
theorem qoa(A:All κ K k X Γ m):∀o x,cO (m+1) Γ o=some x->PO X o (tO κ K Gv Hv (iO Γ.k x))
 |none,_,h=>by cases h;exact PO.imp Z4 λσ H Q ⟨ρ,G,er,h⟩=>h G H (Po.refl er)
 |some e,_,h=>by
  obtain⟨a',h1,rfl⟩:=ql h;refine PO.imp (qgT (A.r Gv Hv _ _ h1)) λσ H Q hq1=>?_;obtain⟨ρ,G,er,h⟩:=hq1;refine⟨ρ,G,er,Wk.mono (Wk.th (x:=iR Γ.k a' ρ) h) λx h v G1 H1 p1 r1=>?_⟩;obtain⟨rv,ρ1⟩:=x
  cases rv with
  |val d=>
   cases d with
   |int i=>exact⟨i,by simpa only[RvR,Rep] using r1,h G1 H1 p1⟩
   |_=>exact False.elim h
  |_=>exact False.elim h
theorem qob(A:All κ K k X Γ m):∀es x,cF (m+1) Γ es=some x->PIf X es (tT κ K Gv Hv (iF Γ.k x))
 |[],_,h=>by cases h;exact PIf.imp qg0 λσ H Q ⟨ρ,G,er,h⟩=>h G H (Po.refl er)
 |[c],_,h=>by obtain⟨a',h1,rfl⟩:=ql h;exact qg1 (A.t Gv Hv _ _ h1)
 | _::_::_,_,h=>by cases h
noncomputable def qgb:Expr->Bool
 |.UnaryOp .Not _ _=>false
 |.BoolOp ..=>false
 |.IfExp ..=>false
 |.Compare ..=>false
 |_=>true
theorem qdf{e:Expr}(h:qgb e=true)(env:PySem.Env):∀whole,isTrue e env whole=(do let v<-whole;standAt e.pos;holding [v] (truthy v)):=by
 intro whole
 cases e with
 |UnaryOp op a pos=>cases op<;>first | rfl | cases h
 |BoolOp=>cases h
 |IfExp=>cases h
 |Compare=>cases h
 |_=>rfl
theorem qoc(gd:Gd κ K k X Γ)(A:All κ K k X Γ m)(e:Expr)(x:T)(h:cT (m+1) Γ e=some x):PT X e (tT κ K Gv Hv (iT Γ.k x)):=by
 have gen:qgb e=true->(cE m Γ e).map .val=some x->PT X e (tT κ K Gv Hv (iT Γ.k x)):=λhp h=>by obtain⟨a',h1,rfl⟩:=ql h;refine PT.imp (qez (A.r Gv Hv _ _ h1) (qdf hp X.env)) λσ H Q hq1=>?_;obtain⟨ρ,G,er,h⟩:=hq1;refine⟨ρ,G,er,Wk.mono (Wk.th (x:=iR Γ.k a' ρ) h) λx h v G1 H1 p1 r1=>?_⟩;obtain⟨b,e1,h⟩:=Wk.of (Wk.th h);exact⟨b,qe3 gd p1.er r1 e1,h G1 H1 p1⟩
 cases e with
 |UnaryOp op a pos=>
  cases op with
  |Not=>obtain⟨a',h1,rfl⟩:=ql h;refine PT.imp (YG (A.t Gv Hv _ _ h1)) λσ H Q hq1=>?_;obtain⟨ρ,G,er,h⟩:=hq1;exact⟨ρ,G,er,Wk.mono (Wk.th (x:=iT Γ.k a' ρ) h) λx h G1 H1 p1=>h G1 H1 p1⟩
  |_=>exact gen rfl h
 |BoolOp op vs pos=>
  cases vs with
  |nil=>cases op<;>cases h
  |cons a vs=>
   cases vs with
   |nil=>
    cases op with
    |And=>obtain⟨a',h1,rfl⟩:=ql h;exact PT.imp (PW.pt (qgD (A.t Gv Hv _ _ h1))) λσ H Q h=>h
    |Or=>obtain⟨a',h1,rfl⟩:=ql h;exact PT.imp (PW.pt (qiL (A.t Gv Hv _ _ h1))) λσ H Q h=>h
   |cons b l=>
    cases op with
    |And=>
     obtain⟨a',b',h1,h2,rfl⟩:=qm h;intro pins s σ H Q I hw;obtain⟨ρ,G,er,h⟩:=hw;refine isTrue_and (thn (A.t Gv Hv _ _ h1 pins s σ H (λc H1=>if c=true then tT κ K Gv Hv (iT Γ.k b') σ H1 Q else Q false H1) I ?_) λc s1 ⟨H1,I1,q1⟩=>?_)
     ·refine⟨ρ,G,er,Wk.mono (Wk.th (x:=iT Γ.k a' ρ) h) λx h G1 H1 p1=>?_⟩;obtain⟨d,ρ1⟩:=x
      cases d with
      |true=>rw[if_pos rfl];exact⟨ρ1,G1,p1.er,Wk.mono h λy h G2 H2 p2=>h G2 H2 (p1.trans p2)⟩
      |false=>rw[if_neg (λz=>by cases z)];exact h G1 H1 p1
     ·cases c with
      |true=>exact A.t Gv Hv _ _ h2 pins s1 σ H1 Q I1 q1
      |false=>exact⟨H1,I1,q1⟩
    |Or=>
     obtain⟨a',b',h1,h2,rfl⟩:=qm h;intro pins s σ H Q I hw;obtain⟨ρ,G,er,h⟩:=hw;refine isTrue_or (thn (A.t Gv Hv _ _ h1 pins s σ H (λc H1=>if c=true then Q true H1 else tT κ K Gv Hv (iT Γ.k b') σ H1 Q) I ?_) λc s1 ⟨H1,I1,q1⟩=>?_)
     ·refine⟨ρ,G,er,Wk.mono (Wk.th (x:=iT Γ.k a' ρ) h) λx h G1 H1 p1=>?_⟩;obtain⟨d,ρ1⟩:=x
      cases d with
      |false=>rw[if_neg (λz=>by cases z)];exact⟨ρ1,G1,p1.er,Wk.mono h λy h G2 H2 p2=>h G2 H2 (p1.trans p2)⟩
      |true=>rw[if_pos rfl];exact h G1 H1 p1
     ·cases c with
      |true=>exact⟨H1,I1,q1⟩
      |false=>exact A.t Gv Hv _ _ h2 pins s1 σ H1 Q I1 q1
 |IfExp c a b pos=>cases h
 |Compare a ops bs pos=>
  match ops,bs,h with
  |[op],[b],h=>exact qhr gd A a b op pos h
  |[_,_],[_,_],h=>cases h
  |[],[],h=>cases h
  | [],_::_,h=>cases h
  |[_],[],h=>cases h
  | [_],_::_::_,h=>cases h
  |[_,_],[],h=>cases h
  |[_,_],[_],h=>cases h
  | [_,_],_::_::_::_,h=>cases h
  | _::_::_::_,_,h=>cases h
 |_=>exact gen rfl h
end
end DE
namespace DE
open PySem PySem.Spec PyProof.Rows L2
section
variable{κ:KC}{K:Frag}{Gv Hv:Hp}{k m:Nat}{X:Cx}{Γ:Ct}
theorem qjK{tg l:Expr}{tl:TE}(hl:PE X l tl):PI X tg l (λσ H R=>tl σ H λx H1=>(∃a,x=.ref a/\(((∃xs,SqL X.K H1 a xs)/\R (Itl X.K a) H1)\/((∃xs,SqT X.K H1 a xs)/\R (Itt X.K a) H1)))\/∃z,x=.str z/\R (Its z) H1):=by
 intro pins s σ H R I h;refine thn (hl pins s σ H _ I h) λv s1 hq1=>?_;obtain⟨x,H1,I1,r1,q1⟩:=hq1;rcases q1 with ⟨a,e,q⟩ | ⟨x,rfl,q⟩
 ·subst e;cases r1;rcases q with ⟨⟨xs,hq⟩,q⟩ | ⟨⟨xs,hq⟩,q⟩
  ·obtain⟨its,rv,p,hz⟩:=I1.list hq;refine wpAny_pyIter_list p.isList ?_;refine⟨s1.heap.objs.size,[s1.heap.objs.size],_,_,H1,rfl,I1.kept (t':=s1.toks) λb o e=>Heap.get?_push_of_some _ e,qcv a _,⟨_,Heap.get?_push_size _ rfl,rfl,rfl⟩,λb hb=>?_,q⟩;have e:b=s1.heap.objs.size:=by simpa using hb
   subst e;exact I1.fpOk (Nat.le_refl _) (I1.hok.fresh (Nat.le_refl _))
  ·obtain⟨its,rv,p,hz⟩:=I1.tuple hq;refine wpAny_pyIter_tuple (show s1.heap.IsTuple a its.toArray from p) ?_;refine⟨s1.heap.objs.size,[s1.heap.objs.size],_,_,H1,rfl,I1.kept (t':=s1.toks) λb o e=>Heap.get?_push_of_some _ e,qbE a _,⟨_,Heap.get?_push_size _ rfl,rfl,rfl⟩,λb hb=>?_,q⟩;have e:b=s1.heap.objs.size:=by simpa using hb
   subst e;exact I1.fpOk (Nat.le_refl _) (I1.hok.fresh (Nat.le_refl _))
 ·obtain⟨t,rfl⟩:=r1
  have fin:∀(T:String) (o:Obj),(T = "str_ascii_iterator"\/T = "str_iterator")->(∀A':Around,A'.handled=none->Walks X.prog X.w A' s1.heap.objs.size [s1.heap.objs.size] [s1.heap.objs.size] x.cps.size (SignAt x) (λi h=>h.IsStrIter s1.heap.objs.size T x t i))->
    (s1.heap.push o).IsStrIter s1.heap.objs.size T x t 0->PIE X pins σ tg R (.ref s1.heap.objs.size) { s1 with heap:=s1.heap.push o }:=λT o hT W st=>by
   refine⟨s1.heap.objs.size,[s1.heap.objs.size],_,_,H1,rfl,I1.kept (t':=s1.toks) λb o e=>Heap.get?_push_of_some _ e,qeP hT W,st,λb hb=>?_,q⟩;have e:b=s1.heap.objs.size:=by simpa using hb
   subst e;exact I1.fpOk (Nat.le_refl _) (I1.hok.fresh (Nat.le_refl _))
  cases ha:x.cps.all (· < 128)
  ·exact wpAny_pyIter_wide ha (fin _ _ (.inr rfl) (λA' hA=>Walks.strWide hA _ x t) ⟨_,Heap.get?_push_size _ rfl,rfl,rfl⟩)
  ·exact wpAny_pyIter_ascii ha (fin _ _ (.inl rfl) (λA' hA=>Walks.strAscii hA _ x t) ⟨_,Heap.get?_push_size _ rfl,rfl,rfl⟩)
theorem qe6(gd:Gd κ K k X Γ){x:Str}{i:Nat}(hi:qel Γ x=some i)(pos:Pos):PE X (.Name x pos) (tL κ K Gv Hv (jf (.var i) (iR Γ.k (.var i)))):=by
 refine PE.imp (qaT gd hi pos) λσ H Q hq1=>?_;obtain⟨ρ,G,er,h⟩:=hq1;have h:Wk (slL ρ i) _:=h;unfold slL at h
 cases q:ρ[i]? with
 |none=>rw[q] at h;exact False.elim h
 |some s=>
  rw[q] at h;have w:=er.sl i s q
  cases s with
  |no=>exact False.elim h
  |val d=>
   obtain⟨v,z,r⟩:=w
   cases d with
   |lst l=>simp only[Rep] at r;obtain⟨a,xs,rfl,r1,r2⟩:=r;exact⟨_,z,h _ G H (Po.refl er) ⟨a,xs,rfl,r2,.inl r1⟩⟩
   |str y=>simp only[Rep] at r;subst r;exact⟨_,z,h _ G H (Po.refl er) ⟨y,rfl,rfl⟩⟩
   |tup l=>simp only[Rep] at r;obtain⟨a,xs,rfl,r1,r2⟩:=r;exact⟨_,z,h _ G H (Po.refl er) ⟨a,xs,rfl,r2,r1⟩⟩
   |_=>exact False.elim h
  |own l=>obtain⟨a,xs,z,p,r⟩:=er.froze q;simp only[Rep] at r;obtain⟨a',xs',e,r1,r2⟩:=r;cases e;exact⟨_,z,h _ _ H p ⟨a,xs',rfl,r2,.inl r1⟩⟩
  |bor l=>obtain⟨a,xs,z,r1,r4⟩:=w;exact⟨_,z,h _ G H (Po.refl er) ⟨a,xs,rfl,r4,.inr (SqL.of r1)⟩⟩
  |scr l=>obtain⟨a,xs,z,r1,r4⟩:=w;exact⟨_,z,h _ G H (Po.refl er) ⟨a,xs,rfl,r4,.inr r1⟩⟩
theorem qod(gd:Gd κ K k X Γ)(A:All κ K k X Γ m)(e:Expr)(x:E)(h:cL (m+1) Γ e=some x):PE X e (tL κ K Gv Hv (jf x (iR Γ.k x))):=by
 have gen:(cE m Γ e).bind Zh=some x->PE X e (tL κ K Gv Hv (jf x (iR Γ.k x))):=λh=>by
  obtain⟨y,h1,h2⟩:=Option.bind_eq_some_iff.mp h;obtain⟨rfl,hv⟩:=jg h2;refine PE.imp (A.r Gv Hv _ _ h1) λσ H Q hq1=>?_;obtain⟨ρ,G,er,h⟩:=hq1;rw[qhj hv] at h;refine⟨ρ,G,er,Wk.mono (Wk.th h) λx h v G1 H1 p1 r1=>?_⟩;obtain⟨rv,ρ1⟩:=x
  cases rv with
  |val d=>
   cases d with
   |lst l=>simp only[RvR,Rep] at r1;obtain⟨a,xs,rfl,q1,q2⟩:=r1;exact h _ G1 H1 p1 ⟨a,xs,rfl,q2,.inl q1⟩
   |str y=>simp only[RvR,Rep] at r1;subst r1;exact h _ G1 H1 p1 ⟨y,rfl,rfl⟩
   |tup l=>simp only[RvR,Rep] at r1;obtain⟨a,xs,rfl,q1,q2⟩:=r1;exact h _ G1 H1 p1 ⟨a,xs,rfl,q2,q1⟩
   |_=>exact False.elim h
  |tmp l=>obtain⟨a,xs,rfl,h1,h2,h3,h4,h5,h6⟩:=r1;exact h _ _ H1 (p1.freeze h1 h2 h3 h4 h5) ⟨a,xs,rfl,h6.same (qp.upd h4),.inl qg⟩
  |_=>exact False.elim h
 cases e with
 |Name x pos=>obtain⟨i,h1,rfl⟩:=ql h;exact qe6 gd h1 pos
 |_=>exact gen h
theorem qjL{G:Hp}{a:Addr}{xs:List V}{l:List D}(h:G a=some (.lst xs)\/SqL K Hv a xs)(r:qo κ G l xs):ItR κ Hv G (Itl K a) l:=by
 intro i G1 H1 s1 s2 s3;have hq:SqL K H1 a xs:=h.elim (λz=>SqL.of (s3 _ _ (s1 _ _ z))) λz=>s2.seq z;refine⟨λd e=>?_,λe=>⟨xs,hq,by rw[<-r.len];omega⟩⟩;obtain⟨v,e1,e2⟩:=r.atD e;refine⟨⟨xs,v,hq,e1⟩,λx H' ⟨z1,z2⟩=>⟨G1,by rw[z1];exactλ_ _ q=>q,λ_ _ q=>q,by rw[z1];exact s3,λ_ o q=>.inl ⟨o,q⟩,?_⟩⟩
 have:=z2 xs hq
 rw[e1] at this;cases this;exact e2.same s1
theorem qjM{G:Hp}{a:Addr}{xs:List V}{l:List D}(h:G a=some (.lst xs)\/SqL K Hv a xs)(r:qo κ G l xs):ItR κ Hv G (Itv K a xs) l.reverse:=by
 intro i G1 H1 s1 s2 s3;have hq:SqL K H1 a xs:=h.elim (λz=>SqL.of (s3 _ _ (s1 _ _ z))) λz=>s2.seq z;have hl:=r.len;refine⟨λd e=>?_,λe=>⟨hq,by simp at e;omega⟩⟩;have hi:i < l.length:=by simpa using (List.getElem?_eq_some_iff.mp e).1
 rw[List.getElem?_reverse hi] at e;obtain⟨v,e1,e2⟩:=r.atD e;refine⟨⟨hq,by omega⟩,λx H' ⟨z1,z2⟩=>⟨G1,by rw[z1];exactλ_ _ q=>q,λ_ _ q=>q,by rw[z1];exact s3,λ_ o q=>.inl ⟨o,q⟩,?_⟩⟩;rw[<-hl,e1] at z2;cases z2;exact e2.same s1
theorem qjN{G:Hp}{a:Addr}{xs:List V}{l:List D}(h:G a=some (.tup xs))(r:qo κ G l xs):ItR κ Hv G (Itt K a) l:=by
 intro i G1 H1 s1 s2 s3;have hq:SqT K H1 a xs:=SqT.of (s3 _ _ (s1 _ _ h));refine⟨λd e=>?_,λe=>⟨xs,hq,by rw[<-r.len];omega⟩⟩;obtain⟨v,e1,e2⟩:=r.atD e;refine⟨⟨xs,v,hq,e1⟩,λx H' ⟨z1,z2⟩=>⟨G1,by rw[z1];exactλ_ _ q=>q,λ_ _ q=>q,by rw[z1];exact s3,λ_ o q=>.inl ⟨o,q⟩,?_⟩⟩
 have:=z2 xs hq
 rw[e1] at this;cases this;exact e2.same s1
theorem qjO{G:Hp}{x:Str}:ItR κ Hv G (Its x) (qbS x):=by
 intro i G1 H1 s1 s2 s3;have hl:(qbS x).length=x.cps.size:=by simp[qbS]
 refine⟨λd e=>?_,λe=>by rw[<-e,hl];rfl⟩;unfold qbS at e;rw[List.getElem?_map] at e;obtain⟨c,e1,rfl⟩:=Option.map_eq_some_iff.mp e;rw[Array.getElem?_toList] at e1;refine⟨(Array.getElem?_eq_some_iff.mp e1).1,λv H' ⟨z1,c',z2,z3⟩=>⟨G1,by rw[z1];exactλ_ _ q=>q,λ_ _ q=>q,by rw[z1];exact s3,λ_ o q=>.inl ⟨o,q⟩,?_⟩⟩;rw[e1] at z2;cases z2;rw[z3];simp only[Rep]
theorem qgc{G:Hp}{lo hi:Int}:ItR κ Hv G (Itr lo (hi - lo).toNat) (zG lo hi):=by
 intro i G1 H1 s1 s2 s3;refine⟨λd e=>?_,λe=>?_⟩
 ·unfold zG at e;rw[List.getElem?_map] at e;obtain⟨j,e1,rfl⟩:=Option.map_eq_some_iff.mp e;obtain⟨h1,h2⟩:=List.getElem?_eq_some_iff.mp e1;have hi':i < (hi - lo).toNat:=by simpa using h1
  have hj:j=i:=by rw[<-h2];simp
  subst hj;refine⟨hi',λx H' ⟨z1,z2⟩=>⟨G1,by rw[z1];exactλ_ _ q=>q,λ_ _ q=>q,by rw[z1];exact s3,λ_ o q=>.inl ⟨o,q⟩,?_⟩⟩;rw[z2];simp only[Rep]
 ·have hl:(zG lo hi).length=(hi - lo).toNat:=by simp only[zG,List.length_map,List.length_range]
  show(hi - lo).toNat<=i;omega
theorem qdg{G H:Hp}{T:Addr}{x y:V}{d e:D}(sub:qp G H)(hT:H T=none)(hx:Rep κ G d x)(hy:Rep κ G e y) :
  ∃G',qp H (upd H T (.tup [x,y]))/\qp G G'/\qp G' (upd H T (.tup [x,y]))/\(∀a o,G' a=some o->(∃o',G a=some o')\/H a=none)/\Rep κ G' (.tup [d,e]) (.ref T):=by
 have gT:G T=none:=qp.none sub hT;have gs:qp G (upd G T (.tup [x,y])):=qp.upd gT;refine⟨upd G T (.tup [x,y]),qp.upd hT,gs,λb u q=>?_,λb u q=>?_,?_⟩
 ·by_cases hb:b=T
  ·subst hb;rw[qg] at q ⊢;exact q
  ·rw[qe hb] at q ⊢;exact sub b u q
 ·by_cases hb:b=T
  ·subst hb;exact .inr hT
  ·rw[qe hb] at q;exact .inl ⟨u,q⟩
 ·simp only[Rep];exact⟨T,_,rfl,qg,.cons (hx.same gs) %[hy.same gs|0]⟩
theorem qjP{G:Hp}{a:Addr}{xs:List V}{l:List D}(h:G a=some (.lst xs)\/SqL K Hv a xs)(r:qo κ G l xs):ItR κ Hv G (Ite K a) (JT l):=by
 intro i G1 H1 s1 s2 s3;have hq:SqL K H1 a xs:=h.elim (λz=>SqL.of (s3 _ _ (s1 _ _ z))) λz=>s2.seq z;have hlen:(JT l).length=l.length:=by simp[JT]
 refine⟨λd e=>?_,λe=>⟨xs,hq,by rw[<-r.len];omega⟩⟩;have hi:i < l.length:=by rw[<-hlen];exact(List.getElem?_eq_some_iff.mp e).1
 have e0:(JT l)[i]?=some (.tup [.int i,l[i]]):=by unfold JT;rw[List.getElem?_zipWith];simp[hi]
 rw[e0] at e;cases e;obtain⟨v,e1,e2⟩:=r.atD (List.getElem?_eq_getElem hi);refine⟨⟨xs,v,hq,e1⟩,λx H' z=>?_⟩;obtain⟨T,x',rfl,hT,rfl,z2⟩:=z
 have:=z2 xs hq
 rw[e1] at this;cases this;exact qdg s3 hT (by simp only[Rep]) (e2.same s1)
theorem qjQ{G:Hp}{a b:Addr}{xs ys:List V}{l n:List D}(h:G a=some (.lst xs)\/SqL K Hv a xs)(r:qo κ G l xs)(h':G b=some (.lst ys)\/SqL K Hv b ys)(r':qo κ G n ys):ItR κ Hv G (Itz K a b) (qbT l n):=by
 intro i G1 H1 s1 s2 s3;have hq:SqL K H1 a xs:=h.elim (λz=>SqL.of (s3 _ _ (s1 _ _ z))) λz=>s2.seq z;have hq':SqL K H1 b ys:=h'.elim (λz=>SqL.of (s3 _ _ (s1 _ _ z))) λz=>s2.seq z;have hlen:(qbT l n).length=min l.length n.length:=by simp[qbT]
 have l1:=r.len;have l2:=r'.len;refine⟨λd e=>?_,λe=>⟨xs,ys,hq,hq',by omega⟩⟩;have hi:i < min l.length n.length:=by rw[<-hlen];exact(List.getElem?_eq_some_iff.mp e).1
 have i1:i < l.length:=by omega
 have i2:i < n.length:=by omega
 have e0:(qbT l n)[i]?=some (.tup [l[i],n[i]]):=by unfold qbT;rw[List.getElem?_zipWith];simp[i1,i2]
 rw[e0] at e;cases e;obtain⟨v,e1,e2⟩:=r.atD (List.getElem?_eq_getElem i1);obtain⟨w,e3,e4⟩:=r'.atD (List.getElem?_eq_getElem i2);refine⟨⟨xs,ys,v,w,hq,hq',e1,e3⟩,λx H' z=>?_⟩;obtain⟨T,x',y',rfl,hT,rfl,z2⟩:=z;obtain⟨z3,z4⟩:=z2 xs ys hq hq';rw[e1] at z3;rw[e3] at z4;cases z3;cases z4;exact qdg s3 hT (e2.same s1) (e4.same s1)
theorem JV{i:Int}(h:qX i=true):-(2 ^ 62)<=i/\i < 2 ^ 62:=by
 unfold qX at h
 simpa [Bool.and_eq_true] using h
theorem qe7(gd:Gd κ K k X Γ)(A:All κ K k X Γ m)(tg e:Expr)(x:I)(h:(cL m Γ e).map .seq=some x):PI X tg e (tI κ K Gv Hv (iI Γ.k x)):=by
 obtain⟨a',h1,rfl⟩:=ql h;refine PI.imp (qjK (A.l Gv Hv _ _ h1)) λσ H Q hq1=>?_;obtain⟨ρ,G,er,h⟩:=hq1;refine⟨ρ,G,er,Wk.mono (Wk.th (x:=jf a' (iR Γ.k a') ρ) h) λx h v G1 H1 p1 r1=>?_⟩;obtain⟨⟨b,l⟩,ρ1⟩:=x
 cases b with
 |str=>obtain⟨y,rfl,rfl⟩:=r1;exact .inr ⟨y,rfl,h _ G1 H1 p1 qjO⟩
 |tup=>obtain⟨a,xs,rfl,r2,r3⟩:=r1;exact .inl ⟨a,rfl,.inr ⟨⟨xs,SqT.of (p1.er.sub _ _ r3)⟩,h _ G1 H1 p1 (by rw[gd.hK];exact qjN r3 r2)⟩⟩
 |lst=>obtain⟨a,xs,rfl,r2,r3⟩:=r1;refine .inl ⟨a,rfl,.inl ⟨⟨xs,?_⟩,h _ G1 H1 p1 (by rw[gd.hK];exact qjL r3 r2)⟩⟩;rw[gd.hK];exact r3.elim (λz=>SqL.of (p1.er.sub _ _ z)) λz=>p1.er.base.seq z
theorem qaX{a b:Expr}{env:PySem.Env}(h1:qE a=false)(h2:qE b=false):starEach [a,b] env=[(false,eval a env),(false,eval b env)]:=by rw[qf h1,qf h2];rfl
theorem qdh{G H:Hp}{ρ:Env}{σ:L2.St}{a:Addr}{xs:List V}(gd:Gd κ K k X Γ)(er:ER κ K Gv Hv G H ρ σ)(r:G a=some (.lst xs)\/SqL K Hv a xs):∃xs,SqL X.K H a xs:=by rw[gd.hK];exact⟨xs,r.elim (λz=>SqL.of (er.sub _ _ z)) λz=>er.base.seq z⟩
theorem qht(gd:Gd κ K k X Γ)(A:All κ K k X Γ m)(tg a:Expr)(f:Str)(p q:Pos)(x:I)(hg:Gl X f)(h:oif (!qE a) (if f = "range" then (cE m Γ a).map .rng else if f = "enumerate" then oif (qeU tg) ((cL m Γ a).map .enum) else if f = "reversed" then (cL m Γ a).map .rev else none)=some x) :
  PI X tg (.Call (.Name f p) [a] [] q) (tI κ K Gv Hv (iI Γ.k x)):=by
 obtain⟨hs,h⟩:=qi h;have hs:qE a=false:=by simpa using hs
 by_cases h1:f = "range"
 ·subst h1;rw[if_pos rfl] at h;obtain⟨a',h1,rfl⟩:=ql h;refine PI.imp (qcw hg (gd.blt _ (2:)) (qh (A.r Gv Hv _ _ h1) qw (qf hs)) (qf hs)) λσ H Q hq1=>?_;obtain⟨ρ,G,er,h⟩:=hq1;refine⟨ρ,G,er,Wk.mono (Wk.th (x:=iR Γ.k a' ρ) h) λx h v G1 H1 p1 r1=>?_⟩
  cases e1:x.1.int? with
  |none=>rw[e1] at h;exact False.elim h
  |some n=>
   rw[e1] at h;obtain⟨hz,h⟩:=Wk.iff h;obtain⟨z1,z2⟩:=JV hz;refine⟨n,by rw[r1.int e1],z1,z2,h _ G1 H1 p1 ?_⟩
   have:=qgc (κ:=κ) (Hv:=Hv) (G:=G1) (lo:=0) (hi:=n)
   rw[Int.sub_zero] at this;exact this
 rw[if_neg h1] at h
 by_cases h2:f = "enumerate"
 ·subst h2;rw[if_pos rfl] at h;obtain⟨ht,h⟩:=qi h;obtain⟨a',h1,rfl⟩:=ql h
  cases tg with
  |Tuple es j tp=>
   refine PI.imp (qhb hg (gd.blt _ (2:)) (qh (A.l Gv Hv _ _ h1) qw (qf hs)) (qf hs)) λσ H Q hq1=>?_;obtain⟨ρ,G,er,h⟩:=hq1;refine⟨ρ,G,er,Wk.mono (Wk.th (x:=jf a' (iR Γ.k a') ρ) h) λx h v G1 H1 p1 r1=>?_⟩;obtain⟨⟨b,l⟩,ρ1⟩:=x
   cases b with
   |lst=>obtain⟨c,xs,rfl,r2,r3⟩:=r1;exact⟨c,rfl,qdh gd p1.er r3,h _ G1 H1 p1 (by rw[gd.hK];exact qjP r3 r2)⟩
   |_=>exact False.elim h
  |_=>cases ht
 rw[if_neg h2] at h
 by_cases h3:f = "reversed"
 ·subst h3;rw[if_pos rfl] at h;obtain⟨a',h1,rfl⟩:=ql h;refine PI.imp (qjm hg (gd.blt _ (2:)) (qh (A.l Gv Hv _ _ h1) qw (qf hs)) (qf hs)) λσ H Q hq1=>?_;obtain⟨ρ,G,er,h⟩:=hq1;refine⟨ρ,G,er,Wk.mono (Wk.th (x:=jf a' (iR Γ.k a') ρ) h) λx h v G1 H1 p1 r1=>?_⟩;obtain⟨⟨b,l⟩,ρ1⟩:=x
  cases b with
  |lst=>obtain⟨c,xs,rfl,r2,r3⟩:=r1;refine⟨c,xs,rfl,?_,h _ G1 H1 p1 (by rw[gd.hK];exact qjM r3 r2)⟩;rw[gd.hK];exact r3.elim (λz=>SqL.of (p1.er.sub _ _ z)) λz=>p1.er.base.seq z
  |_=>exact False.elim h
 rw[if_neg h3] at h;cases h
theorem qhu(gd:Gd κ K k X Γ)(A:All κ K k X Γ m)(tg a b:Expr)(f:Str)(p q:Pos)(x:I)(hg:Gl X f)(h:oif (!(qE a||qE b)) (if f = "range" then o2 (cE m Γ a) (cE m Γ b) .rng2 else if f = "zip" then oif (qeU tg) (o2 (cL m Γ a) (cL m Γ b) .zip) else none)=some x) :
  PI X tg (.Call (.Name f p) [a,b] [] q) (tI κ K Gv Hv (iI Γ.k x)):=by
 obtain⟨hs,h⟩:=qi h;have hs:(qE a||qE b)=false:=by simpa using hs
 rw[Bool.or_eq_false_iff] at hs;obtain⟨s1,s2⟩:=hs
 by_cases h1:f = "range"
 ·subst h1;rw[if_pos rfl] at h;obtain⟨a',b',h1,h2,rfl⟩:=qm h;refine PI.imp (qcx hg (gd.blt _ (2:)) (qh (A.r Gv Hv _ _ h1) (qh (A.r Gv Hv _ _ h2) qw (qf s2)) (qf s1)) (qaX s1 s2) (qf s2)) λσ H Q hq1=>?_;obtain⟨ρ,G,er,h⟩:=hq1;refine⟨ρ,G,er,Wk.mono (Wk.th (x:=iR Γ.k a' ρ) h) λx h v G1 H1 p1 r1=>⟨x.2,G1,p1.er,Wk.mono (Wk.th (x:=iR Γ.k b' x.2) h) λy h w G2 H2 p2 r2=>?_⟩⟩
  cases e1:x.1.int? with
  |none=>rw[e1] at h;exact False.elim h
  |some i=>
   cases e2:y.1.int? with
   |none=>rw[e1,e2] at h;exact False.elim h
   |some j=>rw[e1,e2] at h;obtain⟨hz,h⟩:=Wk.iff h;obtain⟨z1,z2⟩:=JV hz.1;obtain⟨z3,z4⟩:=JV hz.2;exact⟨i,j,by rw[r1.int e1,r2.int e2],⟨z1,z2,z3,z4⟩,h _ G2 H2 (p1.trans p2) qgc⟩
 rw[if_neg h1] at h
 by_cases h2:f = "zip"
 ·subst h2;rw[if_pos rfl] at h;obtain⟨ht,h⟩:=qi h;obtain⟨a',b',h1,h2,rfl⟩:=qm h
  cases tg with
  |Tuple es j tp=>
   refine PI.imp (qjk hg (gd.blt _ (2:)) (qh (A.l Gv Hv _ _ h1) (qh (A.l Gv Hv _ _ h2) qw (qf s2)) (qf s1)) (qaX s1 s2) (qf s2)) λσ H Q hq1=>?_;obtain⟨ρ,G,er,h⟩:=hq1;refine⟨ρ,G,er,Wk.mono (Wk.th (x:=jf a' (iR Γ.k a') ρ) h) λx h v G1 H1 p1 r1=>⟨x.2,G1,p1.er,Wk.mono (Wk.th (x:=jf b' (iR Γ.k b') x.2) h) λy h w G2 H2 p2 r2=>?_⟩⟩;obtain⟨⟨bx,l⟩,ρ1⟩:=x;obtain⟨⟨by',n⟩,ρ2⟩:=y
   cases bx with
   |lst=>
    cases by' with
    |lst=>obtain⟨c,xs,rfl,r3,r4⟩:=r1;obtain⟨d,ys,rfl,r5,r6⟩:=r2;have r4':G2 c=some (.lst xs)\/SqL K Hv c xs:=r4.imp (λz=>p2.gs _ _ z) id;exact⟨c,d,rfl,qdh gd p2.er r4',qdh gd p2.er r6,h _ G2 H2 (p1.trans p2) (by rw[gd.hK];exact qjQ r4' (r3.same p2.gs) r6 r5)⟩
    |_=>exact False.elim h
   |_=>exact False.elim h
  |_=>cases ht
 rw[if_neg h2] at h;cases h
theorem qoe(gd:Gd κ K k X Γ)(A:All κ K k X Γ m)(tg e:Expr)(x:I)(h:cI (m+1) Γ (qeU tg) e=some x):PI X tg e (tI κ K Gv Hv (iI Γ.k x)):=by
 cases e with
 |Call fn es kws q=>
  cases fn with
  |Name f p=>
   cases kws with
   |nil=>
    have h:(if (decide (f = "range")||decide (f = "enumerate")||decide (f = "zip")||decide (f = "reversed"))=true then _ else _)=some x:=h
    by_cases hf:(decide (f = "range")||decide (f = "enumerate")||decide (f = "zip")||decide (f = "reversed"))=true
    ·rw[if_pos hf] at h;obtain⟨hn,h⟩:=qi h;simp only[Bool.and_eq_true] at hn;have hg:=gd.glo _ hn.1.2
     match es,h with
     |[a],h=>exact qht gd A tg a f p q x hg h
     |[a,b],h=>exact qhu gd A tg a b f p q x hg h
     |[_,_,_],h=>cases h
     |[],h=>cases h
     | _::_::_::_::_,h=>cases h
    ·rw[if_neg hf] at h;exact qe7 gd A tg _ x h
   |cons kw kws=>exact qe7 gd A tg _ x h
  |_=>exact qe7 gd A tg _ x h
 |_=>exact qe7 gd A tg _ x h
end
end DE
namespace DE
open PySem PySem.Spec PyProof.Rows L2
section
variable{κ:KC}{K:Frag}{Gv Hv:Hp}{k m:Nat}{X:Cx}{Γ:Ct}{x:E}
theorem YO:∀{m:Nat} {es:List Expr} {l:Es},cAs m Γ es=some l->es.any qE=false
 |0,_,_,h=>nomatch h
 | m+1,[],_,_=>rfl
 | m+1,e::es,_,h=>by
  obtain⟨hs,h⟩:=qi h;obtain⟨a,b,_,h2,_⟩:=qm h;rw[List.any_cons,YO h2,Bool.or_false]
  simpa using hs
theorem qac{m:Nat}{l:Es}(h:cAs m Γ []=some l):l=.nil:=by
 cases m<;>cases h
 rfl
theorem qU{env:PySem.Env}{pos:Pos}:∀{es:List Expr},es.any qE=false->(backTo pos (starEach es env)).any (·.1)=false
 |[],_=>rfl
 | e::l,h=>by simp only[List.any_cons,Bool.or_eq_false_iff] at h;rw[qf h.1];show(false||(backTo pos (starEach l env)).any (·.1))=false;rw[qU h.2];rfl
theorem ReR.rv{G H G1 H1 G2 H2:Hp}{ρ ρ1:Env}{σ:L2.St}{r:Rv}{v:V}(p:Po κ K Gv Hv σ G H ρ G1 H1 ρ1)(hs:qp H1 H2)(gs:qp G1 G2)(sub:qp G2 H2)(new:∀a o,G2 a=some o->(∃o',G1 a=some o')\/H1 a=none)(h:ReR κ G2 H2 H1 r v) :
  Po κ K Gv Hv σ G H ρ G2 H2 ρ1/\RvR κ K Hv H G2 H2 ρ1 σ r v:=by
 refine⟨p.trans (Po.more p.er hs gs sub new),?_⟩
 cases r with
 |val d=>exact h
 |tmp ds=>obtain⟨a,xs,rfl,h1,h2,h3,h4⟩:=h;exact⟨a,xs,rfl,h1,qp.none p.hs h2,qp.none p.er.base h2,h3,p.er.notOwn h2,h4⟩
 |cell ds=>exact False.elim h
 |scr ds=>exact False.elim h
theorem qe8(gd:Gd κ K k X Γ)(A:All κ K k X Γ m)(f:Str)(es:List Expr)(p q:Pos)(hok:zt f=true)(hgl:glB Γ.sc f=true)(ht:Γ.tab.contains f=true)(h:(cAs m Γ es).map (.call f)=some x):PE X (.Call (.Name f p) es [] q) (tR κ K Gv Hv (iR Γ.k x)):=by
 obtain⟨l',h1,rfl⟩:=ql h;have hs:=YO h1;obtain⟨fa,fd,ps,F,hm,hk,hb⟩:=gd.fns f ht;obtain⟨n1,n2,n3⟩:=qC hok
 have key:∀σ H Q,tR κ K Gv Hv (iR Γ.k (.call f l')) σ H Q->qcE (spF κ K Γ.cl f) [] E0 (tAs κ K Gv Hv (iAs Γ.k l')) σ H Q:=λσ H Q ⟨ρ,G,er,h⟩=>by refine⟨ρ,G,er,Wk.mono (Wk.th (x:=iAs Γ.k l' ρ) h) λx h vs G1 H1 p1 r1=>?_⟩;show spF κ K Γ.cl f (vs++[]) H1 Q E0;rw[List.append_nil];refine⟨G1,x.1,p1.er.sub,r1,Wk.mono (Wk.th h) λr h v G2 H2 hs gs sub new rr=>?_⟩;obtain⟨z1,z2⟩:=ReR.rv p1 hs gs sub new rr;exact h v G2 H2 z1 z2
 cases es with
 |nil=>obtain rfl:=qac h1;refine PE.imp (qaJ F gd.room (gd.glo f hgl) hm hk hb .nil jR n1) λσ H Q h=>?_;obtain⟨ρ,G,er,h⟩:=key σ H Q h;exact h [] G H (Po.refl er) rfl
 |cons e l=>simp only[List.any_cons,Bool.or_eq_false_iff] at hs;exact PE.imp (jx F gd.room (gd.glo f hgl) hm hk hb .nil jR (A.as Gv Hv _ _ h1) n1 (qf hs.1) (qU hs.2)) key
theorem qad:∀{m:Nat} {es:List Expr} {l:Es},cEs m Γ es=some l->es.any qE=false
 |0,_,_,h=>nomatch h
 | m+1,[],_,_=>rfl
 | m+1,e::es,_,h=>by
  obtain⟨hs,h⟩:=qi h;obtain⟨a,b,_,h2,_⟩:=qm h;rw[List.any_cons,qad h2,Bool.or_false]
  simpa using hs
theorem qdi{G H:Hp}:∀{ds:List D} {vs:List V},qo κ G ds vs->y9 κ K G H (ds.map .val) vs
 |[],vs,h=>by
  show vs=[]
  simpa only[qo] using h
 | d::ds,vs,h=>by simp only[qo] at h;obtain⟨v,r,rfl,h1,h2⟩:=h;exact⟨v,r,rfl,h1,qdi h2⟩
theorem qe9(gd:Gd κ K k X Γ)(A:All κ K k X Γ m)(f:Str)(es:List Expr)(p q:Pos)(hok:zt f=true)(hgl:glB Γ.sc f=true)(ht:Γ.tab.contains f=true)(h:(cEs m Γ es).map (.calF f)=some x):PE X (.Call (.Name f p) es [] q) (tR κ K Gv Hv (iR Γ.k x)):=by
 obtain⟨l',h1,rfl⟩:=ql h;have hs:=qad h1;obtain⟨fa,fd,ps,F,hm,hk,hb⟩:=gd.fns f ht;obtain⟨n1,n2,n3⟩:=qC hok
 have key:∀σ H Q,tR κ K Gv Hv (iR Γ.k (.calF f l')) σ H Q->qcE (spF κ K Γ.cl f) [] E0 (tEs κ K Gv Hv (iEs Γ.k l')) σ H Q:=λσ H Q ⟨ρ,G,er,h⟩=>by refine⟨ρ,G,er,Wk.mono (Wk.th (x:=iEs Γ.k l' ρ) h) λx h vs G1 H1 p1 r1=>?_⟩;show spF κ K Γ.cl f (vs++[]) H1 Q E0;rw[List.append_nil];refine⟨G1,x.1.map .val,p1.er.sub,qdi r1,Wk.mono (Wk.th h) λr h v G2 H2 hs gs sub new rr=>?_⟩;obtain⟨z1,z2⟩:=ReR.rv p1 hs gs sub new rr;exact h v G2 H2 z1 z2
 cases es with
 |nil=>
  have e:l'=.nil:=by cases m<;>cases h1;rfl
  subst e;refine PE.imp (qaJ F gd.room (gd.glo f hgl) hm hk hb .nil jR n1) λσ H Q h=>?_;obtain⟨ρ,G,er,h⟩:=key σ H Q h;exact h [] G H (Po.refl er) .nil
 |cons e l=>simp only[List.any_cons,Bool.or_eq_false_iff] at hs;exact PE.imp (jx F gd.room (gd.glo f hgl) hm hk hb .nil jR (A.es Gv Hv _ _ h1) n1 (qf hs.1) (qU hs.2)) key
theorem qfa(gd:Gd κ K k X Γ)(A:All κ K k X Γ m)(f:Str)(a:Expr)(p q:Pos)(hgl:glB Γ.sc f=true)(h:oif (!qE a) (o2 (ql7 f) (cE m Γ a) E.b1)=some x):PE X (.Call (.Name f p) [a] [] q) (tR κ K Gv Hv (iR Γ.k x)):=by
 obtain⟨hs,h⟩:=qi h;have s1:qE a=false:=by simpa using hs
 obtain⟨y,a',h1,h2,rfl⟩:=qm h
 have key:∀σ H Q,tR κ K Gv Hv (iR Γ.k (.b1 y a')) σ H Q->tCB (rC1 κ K Gv Hv y.go) (qeC (tR κ K Gv Hv (iR Γ.k a')) qiv) σ H Q:=λσ H Q ⟨ρ,G,er,h⟩=>⟨ρ,G,er,Wk.mono (Wk.th (x:=iR Γ.k a' ρ) h) λx h v G1 H1 p1 r1=>⟨x.2,σ,G1,H,x.1,v,rfl,p1.er,r1,Wk.mono (Wk.th h) λz h u G2 H2 p2 r2=>h u G2 H2 (p1.trans p2) (r2.back p1.hs)⟩⟩
 have pa:=qh (A.r Gv Hv _ _ h2) qw (qf s1);unfold ql7 at h1
 split at h1
 ·rename_i e;cases h1;subst e;exact PE.imp (qN (qjw (Gv:=Gv) (Hv:=Hv) gd) (gd.glo _ hgl) (gd.blt _ (2:)) PySem.boot_len pa (2:) (2:) (qf s1) rfl) key
 split at h1
 ·rename_i e;cases h1;subst e;exact PE.imp (zE (qho (Gv:=Gv) (Hv:=Hv) gd) (gd.glo _ hgl) (gd.blt _ (2:)) PyProof.Rows.boot_list pa (2:) (2:) (qf s1) rfl) key
 split at h1
 ·rename_i e;cases h1;subst e;exact PE.imp (zE (qjA (κ:=κ) (K:=K) (Gv:=Gv) (Hv:=Hv)) (gd.glo _ hgl) (gd.blt _ (2:)) PyProof.Rows.boot_int pa (2:) (2:) (qf s1) rfl) key
 split at h1
 ·rename_i e;cases h1;subst e;exact PE.imp (qN (qde (Gv:=Gv) (Hv:=Hv) gd) (gd.glo _ hgl) (gd.blt _ (2:)) PyProof.Rows.boot_sorted pa (2:) (2:) (qf s1) rfl) key
 split at h1
 ·rename_i e;cases h1;subst e;exact PE.imp (qN (qjx (Gv:=Gv) (Hv:=Hv) gd) (gd.glo _ hgl) (gd.blt _ (2:)) PyProof.Rows.boot_sum pa (2:) (2:) (qf s1) rfl) key
 split at h1
 ·rename_i e;cases h1;subst e;exact PE.imp (qN (qjy (Gv:=Gv) (Hv:=Hv) gd) (gd.glo _ hgl) (gd.blt _ (2:)) PyProof.Rows.boot_all pa (2:) (2:) (qf s1) rfl) key
 split at h1
 ·rename_i e;cases h1;subst e;exact PE.imp (zE (qjz (κ:=κ) (K:=K) (Gv:=Gv) (Hv:=Hv)) (gd.glo _ hgl) (gd.blt _ (2:)) PyProof.Rows.boot_str pa (2:) (2:) (qf s1) rfl) key
 split at h1
 ·rename_i e;cases h1;subst e;exact PE.imp (zE (qe2 (Gv:=Gv) (Hv:=Hv) gd) (gd.glo _ hgl) (gd.blt _ (2:)) PyProof.Rows.boot_tuple pa (2:) (2:) (qf s1) rfl) key
 cases h1
theorem qfb(gd:Gd κ K k X Γ)(A:All κ K k X Γ m)(f:Str)(a b:Expr)(p q:Pos)(hgl:glB Γ.sc f=true)(h:oif (!(qE a||qE b)) (o2 (ql8 f) (o2 (cE m Γ a) (cE m Γ b) Prod.mk) λf p=>E.b2 f p.1 p.2)=some x):PE X (.Call (.Name f p) [a,b] [] q) (tR κ K Gv Hv (iR Γ.k x)):=by
 obtain⟨hs,h⟩:=qi h;have hs:(qE a||qE b)=false:=by simpa using hs
 rw[Bool.or_eq_false_iff] at hs;obtain⟨s1,s2⟩:=hs;obtain⟨y,z,h1,h2,rfl⟩:=qm h;obtain⟨a',b',h3,h4,rfl⟩:=qm h2
 have key:∀σ H Q,tR κ K Gv Hv (iR Γ.k (.b2 y a' b')) σ H Q->tCB (rC2 κ K Gv Hv y.go) (qeC (tR κ K Gv Hv (iR Γ.k a')) (qeC (tR κ K Gv Hv (iR Γ.k b')) qiv)) σ H Q:=λσ H Q ⟨ρ,G,er,h⟩=>⟨ρ,G,er,Wk.mono (Wk.th (x:=iR Γ.k a' ρ) h) λx h v G1 H1 p1 r1=>⟨x.2,G1,p1.er,Wk.mono (Wk.th (x:=iR Γ.k b' x.2) h) λy h w G2 H2 p2 r2=>⟨y.2,σ,G2,H,H1,x.1,y.1,v,w,rfl,p2.er,r1.keep p2,r2,Wk.mono (Wk.th h) λz h u G3 H3 p3 r3=>h u G3 H3 (p1.trans (p2.trans p3)) (r3.back (p1.trans p2).hs)⟩⟩⟩
 have sa:(backTo q (starEach [b] X.env)).any (·.1)=false:=qU (by simp[s2]);have pa:=qh (A.r Gv Hv _ _ h3) (qh (A.r Gv Hv _ _ h4) qw (qf s2)) (qf s1);unfold ql8 at h1
 split at h1
 ·rename_i e;cases h1;subst e;exact PE.imp (qN (qjB (Gv:=Gv) (Hv:=Hv) gd) (gd.glo _ hgl) (gd.blt _ (2:)) PyProof.Rows.boot_max pa (2:) (2:) (qf s1) sa) key
 split at h1
 ·rename_i e;cases h1;subst e;exact PE.imp (qN (qjC (Gv:=Gv) (Hv:=Hv) gd) (gd.glo _ hgl) (gd.blt _ (2:)) PyProof.Rows.boot_min pa (2:) (2:) (qf s1) sa) key
 cases h1
theorem qhv:bootBuiltins "ValueError" = some (.type "ValueError"):=by decide+kernel
noncomputable def tyN:D->String
 |.non=>"NoneType" |.bl _=>"bool" |.int _=>"int" |.str _=>"str" |.lst _=>"list" |.tup _=>"tuple" |.ins ..=>"object" |.exc ..=>"object" |.dct ..=>"object"
def Ty.nm:Ty->String
 |.int=>"int" |.bool=>"bool" |.str=>"str" |.list=>"list" |.tuple=>"tuple"
theorem qmd{G H Hb:Hp}{ρ:Env}{σ:L2.St}{r:Rv}{x:V}{t:Ty}{b:Bool}(er:ER κ K Gv Hv G H ρ σ)(h:RvR κ K Hv Hb G H ρ σ r x)(e:t.go r=some b):TyOf K H x (.type (tyN r.data)):=by
 cases r with
 |val d=>
  cases d<;>simp only[RvR,Rep] at h
  ·subst h;exact .non
  ·subst h;exact .bl _
  ·subst h;exact .int _
  ·subst h;exact .str _
  ·obtain⟨a,xs,rfl,h1,_⟩:=h;exact .lst (er.sub _ _ h1)
  ·obtain⟨a,xs,rfl,h1,_⟩:=h;exact .tup (er.sub _ _ h1)
  ·cases t<;>cases e
  ·cases t<;>cases e
  ·cases t<;>cases e
 |tmp l=>obtain⟨a,xs,rfl,h1,_⟩:=h;exact .lst h1
 |cell l=>obtain⟨a,xs,rfl,h1,_⟩:=h;exact .lst h1
 |scr l=>cases e
theorem qjR{r:Rv}{t:Ty}{b:Bool}(e:t.go r=some b):PySem.W.kitOne K (.type (tyN r.data)) (.type t.nm)=some b:=by
 have main:∀d:D,t.of d=some b->PySem.W.kitOne K (.type (tyN d)) (.type t.nm)=some b:=λd e=>by cases t<;>cases d<;>cases e<;>rfl
 cases r with
 |val d=>exact main d e
 |tmp l=>exact main (.lst l) e
 |cell l=>exact main (.lst l) e
 |scr l=>cases e
theorem qdj{X:Cx}:q9 X (.builtin "isinstance") (λvs H Q=>∃x c t cv b,vs=[x,c]/\TyOf X.K H x t/\qH c cv/\(∀u,qH c u->u=cv)/\PySem.W.kitOne X.K t cv=some b/\Q (.bl b) H):=by intro pins s σ H xs us Q I r h;obtain⟨x,c,t,cv,b,rfl,ty,rc,uq,e,q⟩:=h;obtain⟨u,v,rfl,ru,rv⟩:=QT r;obtain rfl:v=cv:=uq v rv;exact QW I ru ty e λtk=>⟨.bl b,H,I.tok tk,rfl,q⟩
theorem qjS(gd:Gd κ K k X Γ)(A:All κ K k X Γ m)(a:Expr)(t:Str)(p tp q:Pos)(hgl:glB Γ.sc "isinstance" = true)
  (h:oif (zt t&&glB Γ.sc t&&(qck Γ.N t).isNone&&!qE a) (match qlu t with |some y=>(cE m Γ a).map (E.isi y) |none=>(cE m Γ a).map (.isc t))=some x):PE X (.Call (.Name "isinstance" p) [a,.Name t tp] [] q) (tR κ K Gv Hv (iR Γ.k x)):=by
 obtain⟨hc,h⟩:=qi h;simp only[Bool.and_eq_true,Bool.not_eq_true'] at hc;obtain⟨⟨⟨c1,c2⟩,c3⟩,s1⟩:=hc
 cases hy:qlu t with
 |some y=>
  rw[hy] at h;obtain⟨a',h1,rfl⟩:=ql h
  have hb:PE X (.Name t tp) (tC (.ty y.nm)):=by
   unfold qlu at hy
   split at hy
   ·rename_i e;cases hy;subst e;exact y7 (gd.glo _ c2) (gd.blt _ (2:)) PyProof.Rows.boot_int rfl
   split at hy
   ·rename_i e;cases hy;subst e;exact y7 (gd.glo _ c2) (gd.blt _ (2:)) PyProof.Rows.boot_bool rfl
   split at hy
   ·rename_i e;cases hy;subst e;exact y7 (gd.glo _ c2) (gd.blt _ (2:)) PyProof.Rows.boot_str rfl
   split at hy
   ·rename_i e;cases hy;subst e;exact y7 (gd.glo _ c2) (gd.blt _ (2:)) PyProof.Rows.boot_list rfl
   split at hy
   ·rename_i e;cases hy;subst e;exact y7 (gd.glo _ c2) (gd.blt _ (2:)) PyProof.Rows.boot_tuple rfl
   cases hy
  refine PE.imp (qN qeK (gd.glo _ hgl) (gd.blt _ (2:)) PyProof.Rows.boot_isinstance (qh (A.r Gv Hv _ _ h1) (qh hb qw rfl) (qf s1)) (2:) (2:) (qf s1) rfl) λσ H Q hq1=>?_;obtain⟨ρ,G,er,h⟩:=hq1;refine⟨ρ,G,er,Wk.mono (Wk.th (x:=iR Γ.k a' ρ) h) λx h v G1 H1 p1 r1=>?_⟩;obtain⟨b,e1,h⟩:=Wk.of (Wk.th h);exact⟨v,y.nm,_,b,rfl,by rw[gd.hK];exact qmd p1.er r1 e1,by rw[gd.hK];exact qjR e1,h _ G1 H1 p1 (by simp only[RvR,Rep])⟩
 |none=>
  rw[hy] at h;obtain⟨a',h1,rfl⟩:=ql h;rintro pins s σ H Q I ⟨ρ,G,er,h⟩;have h2:=Wk.th (x:=iR Γ.k a' ρ) h
  cases e1:iR Γ.k a' ρ with
  |exc c l=>rw[e1] at h2;exact h2.elim
  |no=>rw[e1] at h2;exact h2.elim
  |ok x=>
   rw[e1] at h2;obtain⟨b,e2,h3⟩:=Wk.of (Wk.th (x:=R.of (qep Γ.cs x.1 t)) h2)
   have e2:(∃c ns ds,x.1=.val (.ins c ns ds)/\Γ.cs.sub c t=some b)\/∃C ns ds,x.1=.val (.exc C ns ds)/\Γ.cs.xs C t=some b:=by
    obtain⟨r,env⟩:=x
    cases r with
    |val d=>
     cases d with
     |ins c ns ds=>exact .inl ⟨c,ns,ds,rfl,e2⟩
     |exc c ns ds=>exact .inr ⟨c,ns,ds,rfl,e2⟩
     |_=>cases e2
    |_=>cases e2
   rcases e2 with ⟨c,ns,ds,ex,e2⟩ | ⟨C,ns,ds,ex,e2⟩
   case inr=>
    obtain⟨hC,hT⟩:=gd.xsubs C t b e2
    have go:∀(c:V) (cv:Value),PE X (.Name t tp) (tC c)->qH c cv->(∀u,qH c u->u=cv)->PySem.W.kitOne X.K (.ref C) cv=some b->wpAny (model X.prog X.w) X.A (eval (.Call (.Name "isinstance" p) [a,.Name t tp] [] q) X.env) (EP X pins σ Q) X.xe s:=λc cv pc rc uq kt=>by
     refine(qN qc1 (gd.glo _ hgl) (gd.blt _ (2:)) PyProof.Rows.boot_isinstance (qh (A.r Gv Hv _ _ h1) (qh pc qw rfl) (qf s1)) (2:) (2:) (qf s1) rfl) pins s σ H Q I ⟨ρ,G,er,?_⟩;rw[e1];intro v G1 H1 p1 r1;rw[ex] at r1;simp only[RvR,Rep] at r1;obtain⟨p',od,xs,rfl,h4,h5,_⟩:=r1;refine⟨p',C,od,c,cv,b,rfl,⟨p1.er.sub _ _ h4,λdd hdd=>?_⟩,hC,rc,uq,kt,h3 _ G1 H1 p1 (by simp only[RvR,Rep])⟩;rcases h5 with ⟨z,_⟩ | ⟨d2,z,z2⟩
     ·rw[z] at hdd;cases hdd
     ·rw[z] at hdd;cases hdd;exact⟨_,p1.er.sub _ _ z2⟩
    rcases hT with ⟨T,hT,kt⟩ | ⟨hT,rfl,kt⟩
    ·exact go (.ref T) (.ref T) (yu (v:=.ref T) (gd.glo _ c2) hT rfl (qC c1).1) rfl (λu hu=>hu) kt
    ·exact go (.ty "ValueError") (.type "ValueError") (y7 (gd.glo _ c2) hT qhv rfl) rfl (λu hu=>hu) kt
   obtain⟨C,T,hC,hty,hT,kt⟩:=gd.subs c t b e2;refine(qN qdj (gd.glo _ hgl) (gd.blt _ (2:)) PyProof.Rows.boot_isinstance (qh (A.r Gv Hv _ _ h1) (qh (yu (v:=.ref T) (gd.glo _ c2) hT rfl (qC c1).1) qw rfl) (qf s1)) (2:) (2:) (qf s1) rfl) pins s σ H Q I ⟨ρ,G,er,?_⟩;rw[e1];intro v G1 H1 p1 r1;rw[ex] at r1;simp only[RvR,Rep] at r1;obtain⟨p',dx,C',xs,hc',rfl,h4,hl,h5⟩:=r1;rw[hC] at hc';cases hc';exact⟨.ref p',.ref T,.ref C,.ref T,b,rfl,hty _ _ _ _ (p1.er.sub _ _ h4),rfl,λu hu=>hu,kt,h3 _ G1 H1 p1 (by simp only[RvR,Rep])⟩
theorem Zj:∀{Ts:List Addr} {its:List Value},qx (List.map V.ref Ts) its->its=List.map Value.ref Ts
 |[],_,h=>by cases h;rfl
 | a::l,_,h=>by
  cases h with
  |cons h1 h2=>cases h1;rw[Zj h2];rfl
theorem qdk{X:Cx}:q9 X (.builtin "isinstance") (λvs H Q=>∃x C od p Ts b,vs=[.ref x,.ref p]/\qeO H x C od/\ExcIs X.K C/\H p=some (.tup (List.map V.ref Ts))/\PySem.W.kitAny X.K (.ref C) (List.map Value.ref Ts)=some b/\Q (.bl b) H):=by intro pins s σ H xs us Q I r h;obtain⟨x,C,od,p,Ts,b,rfl,hx,hC,hp,e,q⟩:=h;obtain⟨u,v,rfl,ru,rv⟩:=QT r;cases ru;cases rv;obtain⟨_,its,hv,ht⟩:=(show qP X.prog X.w H s.heap p (.tup (List.map V.ref Ts)) from I.hok p _ hp);have ei:=Zj hv;subst ei;obtain⟨⟨c,dd,da,sl⟩,h1,h2,n,h3⟩:=ht;cases h2;cases h3;exact PySem.W.kia_tup (qc0 hC) I.kIn (hx.inst I) h1 e (λz=>nomatch z) λtk=>⟨.bl b,H,I.tok tk,rfl,q⟩
theorem qgd(gd:Gd κ K k X Γ){C:Addr}:∀(bs:List Expr) (ts:List Str) (b:Bool),cNm Γ bs=some ts->qls Γ.cs C ts=some b->∃Ts:List Addr,PA X bs (λσ H Q=>Q (List.map V.ref Ts) H)/\PySem.W.kitAny X.K (.ref C) (List.map Value.ref Ts)=some b/\Ts.length=bs.length/\(bs≠[]->ExcIs X.K C)
 |[],ts,b,h1,h2=>by cases h1;cases h2;exact⟨[],qw,rfl,rfl,λz=>absurd rfl z⟩
 | e::bs,ts,b,h1,h2=>by
  cases e with
  |Name t tp=>
   obtain⟨hc,h1⟩:=qi h1;obtain⟨l,h3,rfl⟩:=ql h1;simp only[Bool.and_eq_true,decide_eq_true_eq] at hc;obtain⟨b1,h4,h5⟩:=Option.bind_eq_some_iff.mp h2;obtain⟨b2,h6,rfl⟩:=ql h5;obtain⟨Ts,i1,i2,i3,_⟩:=qgd gd bs l b2 h3 h6;obtain⟨hC,⟨T,hT,kt⟩ | ⟨_,z,_⟩⟩:=gd.xsubs C t b1 h4
   ·refine⟨T::Ts,qh (yu (v:=.ref T) (gd.glo _ hc.1.2) hT rfl (qC hc.1.1).1) i1,?_,by simp[i3],λ_=>hC⟩;rw[List.map_cons];unfold PySem.W.kitAny;rw[kt]
    cases b1 with
    |true=>rfl
    |false=>exact i2
   ·exact absurd z hc.2
  |_=>cases h1
theorem qjT(gd:Gd κ K k X Γ)(A:All κ K k X Γ m)(a:Expr)(bs:List Expr)(j:Nat)(p tp q:Pos)(hgl:glB Γ.sc "isinstance" = true)
  (h:oif (!qE a&&!bs.isEmpty&&decide (bs.length < 100)) (o2 (cNm Γ bs) (cE m Γ a) E.isn)=some x):PE X (.Call (.Name "isinstance" p) [a,.Tuple bs j tp] [] q) (tR κ K Gv Hv (iR Γ.k x)):=by
 obtain⟨hc,h⟩:=qi h;obtain⟨ts,a',h0,h1,rfl⟩:=qm h;simp only[Bool.and_eq_true,Bool.not_eq_true',decide_eq_true_eq,List.isEmpty_eq_false_iff] at hc;obtain⟨⟨s1,ne⟩,hl⟩:=hc;rintro pins s σ H Q I ⟨ρ,G,er,h⟩;have h2:=Wk.th (x:=iR Γ.k a' ρ) h
 cases e1:iR Γ.k a' ρ with
 |exc c l=>rw[e1] at h2;exact h2.elim
 |no=>rw[e1] at h2;exact h2.elim
 |ok x=>
  rw[e1] at h2;obtain⟨b,e2,h3⟩:=Wk.of (Wk.th (x:=R.of (qiz Γ.cs x.1 ts)) h2)
  obtain⟨C,ns,ds,ex,e2⟩:∃C ns ds,x.1=.val (.exc C ns ds)/\qls Γ.cs C ts=some b:=by
   obtain⟨r,env⟩:=x
   cases r with
   |val d=>
    cases d with
    |exc c ns ds=>exact⟨c,ns,ds,rfl,e2⟩
    |_=>cases e2
   |_=>cases e2
  obtain⟨Ts,i1,i2,i3,i4⟩:=qgd gd bs ts b h0 e2;refine(qN qdk (gd.glo _ hgl) (gd.blt _ (2:)) PyProof.Rows.boot_isinstance (qh (A.r Gv Hv _ _ h1) (qh (qfX i1) qw rfl) (qf s1)) (2:) (2:) (qf s1) rfl) pins s σ H Q I ⟨ρ,G,er,?_⟩;rw[e1];intro v G1 H1 p1 r1;refine⟨by rw[List.length_map,i3];exact Nat.le_trans (Nat.le_of_lt hl) (by decide+kernel),λpp hp=>?_⟩;have p2:=Po.room p1.er (qp.upd (o:=HO.tup (List.map V.ref Ts)) hp);rw[ex] at r1;simp only[RvR,Rep] at r1;obtain⟨p',od,xs,rfl,h4,h5,_⟩:=r1;refine⟨p',C,od,pp,Ts,b,rfl,⟨p2.er.sub _ _ h4,λdd hdd=>?_⟩,i4 ne,qg,i2,h3 _ G1 _ (p1.trans p2) (by simp only[RvR,Rep])⟩;rcases h5 with ⟨z,_⟩ | ⟨d2,z,z2⟩
  ·rw[z] at hdd;cases hdd
  ·rw[z] at hdd;cases hdd;exact⟨_,p2.er.sub _ _ z2⟩
theorem qae{o:Expr}(h:yK o=true)(x:Str)(env:PySem.Env):attributeBase o x env (eval o env)=eval o env:=by cases o<;>first | rfl | (simp[yK] at h)
theorem qhw{cs:Cs}{r:Rv}{x:Str}{d:D}(h:qcl cs r x=some d):(∃c ns ds,r=.val (.ins c ns ds)/\cs.fld c x=true/\(ns.zip ds).lookup x=some d)\/∃C ns ds,r=.val (.exc C ns ds)/\cs.xg C x=true/\(ns.zip ds).lookup x=some d:=by
 cases r with
 |val e=>
  cases e with
  |ins c ns ds=>
   have h:(if cs.fld c x=true then (ns.zip ds).lookup x else none)=some d:=h
   by_cases hf:cs.fld c x=true
   ·rw[if_pos hf] at h;exact .inl ⟨c,ns,ds,rfl,hf,h⟩
   ·rw[if_neg hf] at h;cases h
  |exc c ns ds=>
   have h:(if cs.xg c x=true then (ns.zip ds).lookup x else none)=some d:=h
   by_cases hf:cs.xg c x=true
   ·rw[if_pos hf] at h;exact .inr ⟨c,ns,ds,rfl,hf,h⟩
   ·rw[if_neg hf] at h;cases h
  |_=>cases h
 |_=>cases h
theorem qjU{cs:Cs}{r:Rv}{x f:Str}(h:mtD cs r x=some f):∃c ns ds,r=.val (.ins c ns ds)/\ns.contains x=false/\cs.mt c x=some f:=by
 cases r with
 |val e=>
  cases e with
  |ins c ns ds=>
   have h:(if ns.contains x=true then none else cs.mt c x)=some f:=h
   by_cases hf:ns.contains x=true
   ·rw[if_pos hf] at h;cases h
   ·rw[if_neg hf] at h;exact⟨c,ns,ds,rfl,by simpa using hf,h⟩
  |_=>cases h
 |_=>cases h
theorem qaY{x:Str}:∀{ns:List Str} {xs:List V},ns.contains x=false->(ns.zip xs).lookup x=none
 |[],_,_=>by simp
 | n::ns,[],_=>by simp
 | n::ns,v::xs,h=>by simp only[List.contains_cons,Bool.or_eq_false_iff] at h;rw[List.zip_cons_cons,List.lookup_cons,h.1];exact qaY h.2
theorem qjV(gd:Gd κ K k X Γ)(A:All κ K k X Γ m)(o:Expr)(y:Str)(pos:Pos)(h:cE (m+1) Γ (.Attribute o y pos)=some x):PE X (.Attribute o y pos) (tR κ K Gv Hv (iR Γ.k x)):=by
 obtain⟨ho,h⟩:=qi h;obtain⟨a',h1,rfl⟩:=ql h;rintro pins s σ H Q I ⟨ρ,G,er,h⟩;have h2:=Wk.th (x:=iR Γ.k a' ρ) h
 cases e0:iR Γ.k a' ρ with
 |exc c l=>rw[e0] at h2;exact h2.elim
 |no=>rw[e0] at h2;exact h2.elim
 |ok z=>
  rw[e0] at h2;obtain⟨d,e1,h⟩:=Wk.of (Wk.th (x:=R.of (qcl Γ.cs z.1 y)) h2);rcases qhw e1 with ⟨c,ns,ds,e2,e3,e4⟩ | ⟨C,ns,ds,e2,e3,e4⟩
  ·refine qi4 (A.r Gv Hv _ _ h1) (qae ho y X.env) pins s σ H Q I ⟨ρ,G,er,?_⟩;rw[e0];intro v G1 H1 p1 r1;rw[e2] at r1;simp only[RvR,Rep] at r1;obtain⟨p,dx,C,xs,hc,rfl,h1,hl,h2⟩:=r1;obtain⟨u,e5,ru⟩:=Ql h2 e4;exact⟨p,C,dx,_,u,rfl,p1.er.sub _ _ h1,gd.cls c C hc,gd.flds c y C e3 hc,e5,h u G1 H1 p1 ru⟩
  ·refine qhf (A.r Gv Hv _ _ h1) (qae ho y X.env) pins s σ H Q I ⟨ρ,G,er,?_⟩;rw[e0];intro v G1 H1 p1 r1;rw[e2] at r1;simp only[RvR,Rep] at r1;obtain⟨p,od,xs,rfl,h1,h3,h2⟩:=r1;obtain⟨u,e5,ru⟩:=Ql h2 e4;rcases h3 with ⟨_,z⟩ | ⟨dd,rfl,h3⟩
   ·rw[z] at e4;simp at e4
   ·exact⟨p,C,dd,_,u,rfl,p1.er.sub _ _ h1,p1.er.sub _ _ h3,gd.xgs C y e3,e5,h u G1 H1 p1 ru⟩
theorem Zk{o:Expr}{x:Str}{ap q:Pos}{es:List Expr}{env:PySem.Env}(ho:yK o=true)(hs:es.any qE=false)(hl:es.length < 30)(hp:(ap.endLine == q.line)=true) :
  eval (.Call (.Attribute o x ap) es [] q) env=(do
   let ov<-eval o env
   standAt ap.atName
   let (f,first)<-holding [ov] (getMethod ov x (do return (<-importBound o env).getD true))
   callWith q f first (backTo q (starEach es env)) (backToKw q (keywordEach [] env))):=by
 have hm:methodCallForm (es.length+([]:List Keyword).length) (backTo q (starEach es env)) (backToKw q (keywordEach [] env))=true:=by
  have e:=qU (pos:=q) (env:=env) hs;unfold methodCallForm;simp only[Bool.and_eq_true,decide_eq_true_eq];refine⟨⟨?_,rfl⟩,?_⟩
  ·rw[List.all_eq_true];intro y hy
   have:=List.any_eq_false.mp e y hy
   simpa using this
  ·show es.length+0+0 < 30;omega
 show(do
  let ov<-attributeBase o x env (eval o env)
  standAt ap.atName
  methodCall o x ap q env ov (es.length+([]:List Keyword).length) (backTo q (starEach es env)) (backToKw q (keywordEach [] env)))=_
 rw[qae ho];unfold methodCall;simp only[hm,calleeOf,methodCallPos,if_true,hp,Bool.not_true,Bool.false_or];rfl
theorem qfc{pins:PP}{s:Shared}{σ:L2.St}{H G:Hp}{Q:VK}{ρ:Env}{y:Rv×Env}{o:Expr}{ap q:Pos}{es:List Expr}{a':E}{l':Es}(A:All κ K k X Γ m)(ho:yK o=true)(hp:(ap.endLine == q.line)=true)(hl:es.length < 30)(h1:cE m Γ o=some a')(h2:cAs m Γ es=some l')
  (er:ER κ K Gv Hv G H ρ σ) (e1:iR Γ.k a' ρ=.ok y) (h:Wk (iAs Γ.k l' y.2) (λz=>Wk ((ixM y.1 z.1).th λr=>R.ok (r,z.2)) (λx=>∀v G' H',Po κ K Gv Hv σ G H ρ G' H' x.2->RvR κ K Hv H G' H' x.2 σ x.1 v->Q v H'))) (I:Inv X pins σ H s) :
  wpAny (model X.prog X.w) X.A (eval (.Call (.Attribute o "index" ap) es [] q) X.env) (EP X pins σ Q) X.xe s:=by
 refine False.elim ?_
 cases e4:iAs Γ.k l' y.2 with
 |ok z=>rw[e4] at h;exact h
 |exc c l=>rw[e4] at h;exact h
 |no=>rw[e4] at h;exact h
theorem qhx{pins:PP}{s:Shared}{σ:L2.St}{H G:Hp}{Q:VK}{ρ ρ1:Env}{a nm:Str}{o:Expr}{ap q:Pos}{es:List Expr}{a':E}{l':Es}(A:All κ K k X Γ m)(gd:Gd κ K k X Γ)(ho:yK o=true)(hp:(ap.endLine == q.line)=true)(hl:es.length < 30)(h1:cE m Γ o=some a')(h2:cAs m Γ es=some l')
  (er:ER κ K Gv Hv G H ρ σ) (e1:iR Γ.k a' ρ=.ok (.val (.str a),ρ1)) (h:Wk (iAs Γ.k l' ρ1) (λz=>Wk ((bmD nm (.val (.str a)) z.1).th λr=>R.ok (r,z.2)) (λx=>∀v G' H',Po κ K Gv Hv σ G H ρ G' H' x.2->RvR κ K Hv H G' H' x.2 σ x.1 v->Q v H'))) (I:Inv X pins σ H s) :
  wpAny (model X.prog X.w) X.A (eval (.Call (.Attribute o nm ap) es [] q) X.env) (EP X pins σ Q) X.xe s:=by
 have hs:=YO h2
 cases e4:iAs Γ.k l' ρ1 with
 |exc c l=>rw[e4] at h;exact h.elim
 |no=>rw[e4] at h;exact h.elim
 |ok z=>
 rw[e4] at h;exact False.elim h
theorem qhy(gd:Gd κ K k X Γ)(A:All κ K k X Γ m)(o:Expr)(y:Str)(ap:Pos)(es:List Expr)(q:Pos)(h:cE (m+1) Γ (.Call (.Attribute o y ap) es [] q)=some x):PE X (.Call (.Attribute o y ap) es [] q) (tR κ K Gv Hv (iR Γ.k x)):=by
 have h:(if (yK o&&(ap.endLine == q.line)&&decide (es.length < 30))=true then _ else none)=_:=h
 by_cases hc:(yK o&&(ap.endLine == q.line)&&decide (es.length < 30))=true
 case neg=>rw[if_neg hc] at h;cases h
 rw[if_pos hc] at h;obtain⟨a',l',h1,h2,rfl⟩:=qm h;rintro pins s σ H Q I ⟨ρ,G,er,h⟩;have h:=Wk.th (x:=iR Γ.k a' ρ) h;simp only[Bool.and_eq_true,decide_eq_true_eq] at hc;obtain⟨⟨ho,hp⟩,hl⟩:=hc
 cases e1:iR Γ.k a' ρ with
 |exc c l=>rw[e1] at h;exact h.elim
 |no=>rw[e1] at h;exact h.elim
 |ok w=>
  rw[e1] at h
  have h:Wk (match mtD Γ.cs w.1 y with
   |some f=>(iAs Γ.k l' w.2).th λz=>(Γ.cl f (toAr w.1::z.1)).th λr=>R.ok (r,z.2)
   |none=>(iAs Γ.k l' w.2).th λz=>(bmD y w.1 z.1).th λr=>R.ok (r,z.2)) _:=h
  cases e2:mtD Γ.cs w.1 y with
  |none=>
   rw[e2] at h;have h:=Wk.th (x:=iAs Γ.k l' w.2) h;obtain⟨wr,wρ⟩:=w
   by_cases hs:∃a,wr=.val (.str a)
   ·obtain⟨a,rfl⟩:=hs;exact qhx A gd ho hp hl h1 h2 er e1 h I
   ·have hb:∀as,bmD y wr as=if y = "index" then ixM wr as else .no:=by
     cases wr with
     |val d=>
      cases d with
      |str a=>exact absurd ⟨a,rfl⟩ hs
      |_=>intro as;rfl
     |_=>intro as;rfl
    by_cases hx:y = "index"
    ·subst hx;refine qfc A ho hp hl h1 h2 er e1 (Wk.mono h λz hz=>?_) I;rw[hb,if_pos rfl] at hz;exact hz
    ·refine False.elim ?_
     cases e4:iAs Γ.k l' wρ with
     |ok z=>rw[e4] at h;have h:Wk ((bmD y wr z.1).th _) _:=h;rw[hb,if_neg hx] at h;exact h
     |exc c l=>rw[e4] at h;exact h
     |no=>rw[e4] at h;exact h
  |some f=>
  rw[e2] at h;obtain⟨c,ns,ds,e3,e4,e5⟩:=qjU e2;obtain⟨C,fa,fd,ps,hC,M,F,B⟩:=gd.mts c y f e5;have h:=Wk.th (x:=iAs Γ.k l' w.2) h;have hs:=YO h2;have hs0:=hs
  have all:qgO C y (spF κ K Γ.cl f) [] E0 (tR κ K Gv Hv (iR Γ.k a')) (tAs κ K Gv Hv (iAs Γ.k l')) σ H Q:=by
   refine⟨ρ,G,er,?_⟩;rw[e1];intro v G1 H1 p1 r1;have r1':=r1;rw[e3] at r1';simp only[RvR,Rep] at r1';obtain⟨p',dx,C',xs,hc',rfl,h4,hl,h5⟩:=r1';rw[hC] at hc';cases hc';refine⟨p',dx,_,rfl,p1.er.sub _ _ h4,qaY e4,w.2,G1,p1.er,Wk.mono h λz h vs G2 H2 p2 r2=>?_⟩;show spF κ K Γ.cl f (V.ref p'::(vs++[])) H2 Q E0;rw[List.append_nil];refine⟨G2,toAr w.1::z.1,p2.er.sub,⟨_,_,rfl,?_,r2⟩,Wk.mono (Wk.th h) λr h v G3 H3 hs gs sub new rr=>?_⟩
   ·rw[e3] at r1 ⊢;exact Rep.same p2.gs r1
   ·obtain⟨z1,z2⟩:=ReR.rv (p1.trans p2) hs gs sub new rr;exact h v G3 H3 z1 z2
  cases es with
  |nil=>obtain rfl:=qac h2;refine qeD (A.r Gv Hv _ _ h1) (gd.cls c C hC) M F gd.room B .nil jR (ht:=Zk ho hs0 hl hp) pins s σ H Q I ?_;obtain⟨ρ',G',er',z⟩:=all;refine⟨ρ',G',er',Wk.mono z λx z v G1 H1 p1 r1=>?_⟩;obtain⟨a,dx,fs,z1,z2,z3,ρ2,G2,er2,z⟩:=z v G1 H1 p1 r1;exact⟨a,dx,fs,z1,z2,z3,z [] G2 H1 (Po.refl er2) rfl⟩
  |cons e l=>simp only[List.any_cons,Bool.or_eq_false_iff] at hs;exact qgQ (A.r Gv Hv _ _ h1) (gd.cls c C hC) M F gd.room B .nil jR (A.as Gv Hv _ _ h2) (qf hs.1) (qU hs.2) (ht:=Zk ho hs0 hl hp) pins s σ H Q I all
theorem qhz(gd:Gd κ K k X Γ)(A:All κ K k X Γ m)(f:Str)(es:List Expr)(p q:Pos)(hok:zt f=true)(hgl:glB Γ.sc f=true)(ht:Γ.cs.tab.contains f=true)(h:(cAs m Γ es).map (.new f)=some x):PE X (.Call (.Name f p) es [] q) (tR κ K Gv Hv (iR Γ.k x)):=by
 obtain⟨l',h1,rfl⟩:=ql h;have hs:=YO h1;rcases gd.mks f ht with hno | ⟨C,fa,fd,ps,sp,M,F,hm,hb,hk,hsp⟩
 ·rintro pins s σ H Q I ⟨ρ,G,er,h⟩;have h:=Wk.th (x:=iAs Γ.k l' ρ) h
  cases e1:iAs Γ.k l' ρ with
  |ok x=>rw[e1] at h;have h:Wk ((Γ.nw f x.1).th _) _:=h;rw[hno] at h;exact h.elim
  |exc c l=>rw[e1] at h;exact h.elim
  |no=>rw[e1] at h;exact h.elim
 obtain⟨n1,n2,n3⟩:=qC hok
 have rm:Room (k - 1+1) X.A:=by rw[show k - 1+1=k by omega];exact gd.room
 have key:∀σ H Q,tR κ K Gv Hv (iR Γ.k (.new f l')) σ H Q->qgP C sp [] E0 (tAs κ K Gv Hv (iAs Γ.k l')) σ H Q:=λσ H Q ⟨ρ,G,er,h⟩=>by refine⟨ρ,G,er,Wk.mono (Wk.th (x:=iAs Γ.k l' ρ) h) λx h vs G1 H1 p1 r1=>?_⟩;show∀x dx,H1 x=none->H1 dx=none->dx≠x->sp (.ref x::(vs++[])) _ _ E0;rw[List.append_nil];refine hsp vs H1 Q ⟨G1,x.1,p1.er.sub,r1,Wk.mono (Wk.th h) λr h v G2 H2 hs gs sub new rr=>?_⟩;obtain⟨z1,z2⟩:=ReR.rv p1 hs gs sub new rr;exact h v G2 H2 z1 z2
 cases es with
 |nil=>obtain rfl:=qac h1;refine PE.imp (qeE M F rm (gd.glo f hgl) hm hb .nil jR n1) λσ H Q h=>?_;obtain⟨ρ,G,er,h⟩:=key σ H Q h;exact h [] G H (Po.refl er) rfl
 |cons e l=>simp only[List.any_cons,Bool.or_eq_false_iff] at hs;exact PE.imp (qgR M F rm (gd.glo f hgl) hm hb .nil jR (A.as Gv Hv _ _ h1) n1 (qf hs.1) (qU hs.2)) key
end
end DE
namespace DE
open PySem PySem.Spec PyProof.Rows L2
noncomputable def gT(κ:KC)(K:Frag)(t:Tg):TG:=λv σ H Q=>∃(Gv Hv:Hp) (ρ:Env) (G:Hp) (d:D),ER κ K Gv Hv G H ρ σ/\Rep κ G d v/\Wk (t.go d ρ) λρ'=>∀σ',ER κ K Gv Hv G H ρ' σ'->Q σ' H
noncomputable def gNs(κ:KC)(K:Frag)(l:List Nat):TGs:=λvs σ H Q=>∃(Gv Hv:Hp) (ρ:Env) (G:Hp) (ds:List D),ER κ K Gv Hv G H ρ σ/\qo κ G ds vs/\Wk (Qg l ds ρ) λρ'=>∀σ',ER κ K Gv Hv G H ρ' σ'->Q σ' H
theorem PG.imp{X:Cx}{tg:Expr}{t t':TG}(h:PG X tg t')(i:∀v σ H Q,t v σ H Q->t' v σ H Q):PG X tg t:=λpins s σ H v u Q I r hw=>h pins s σ H v u Q I r (i v σ H Q hw)
theorem PGs.imp{X:Cx}{tg:List Expr}{t t':TGs}(h:PGs X tg t')(i:∀v σ H Q,t v σ H Q->t' v σ H Q):PGs X tg t:=λpins s σ H v u Q I r hw=>h pins s σ H v u Q I r (i v σ H Q hw)
section
variable{κ:KC}{K:Frag}{Gv Hv:Hp}{k m:Nat}{X:Cx}{Γ:Ct}{x:E}
theorem Zl(gd:Gd κ K k X Γ){y:Str}{i:Nat}(h:qda Γ y=some i):L2.Loc X.env.scope y/\(X.fn y=true\/X.env.scope.names.lookup y=some .local)/\X.N.Nodup/\X.N[i]?=some y:=by unfold qda at h;obtain⟨hc,h⟩:=qi h;rw[Bool.and_eq_true] at hc;obtain⟨l1,l2⟩:=gd.loc y hc.1;exact⟨l1,l2,by rw[gd.hN];exact gd.nd,by rw[gd.hN];exact Qh h⟩
theorem qjW(gd:Gd κ K k X Γ){y:Str}{i:Nat}(h:qda Γ y=some i)(pos:Pos):PG X (.Name y pos) (gT κ K (.one i)):=by obtain⟨l1,l2,l3,l4⟩:=Zl gd h;refine PG.imp (qgG (i:=i) l3 l4 l1 l2) λv σ H Q hq1=>?_;obtain⟨Gv,Hv,ρ,G,d,er,r,h⟩:=hq1;exact h _ (er.setVal r)
theorem qaZ{e:Expr}{es:List Expr}{j:Nat}{p:Pos}{xs:List Str}(h:zF (.Tuple (e::es) j p)=some xs):∃x pos r,e=.Name x pos/\xs=x::r/\zF (.Tuple es j p)=some r:=by
 have q0:zF (.Tuple es j p)=(es.foldr (λe r=>match e,r with |.Name x _,some l=>some (x::l) |_,_=>none) (some []):Option (List Str)):=rfl
 cases e with
 |Name x pos=>
  cases q:(es.foldr (λe r=>match e,r with |.Name x _,some l=>some (x::l) |_,_=>none) (some []):Option (List Str)) with
  |none=>have h':(match (Expr.Name x pos:Expr),(es.foldr (λe r=>match e,r with |.Name x _,some l=>some (x::l) |_,_=>none) (some []):Option (List Str)) with |.Name x _,some l=>some (x::l) |_,_=>none)=some xs:=h;rw[q] at h';cases h'
  |some l=>have h':(match (Expr.Name x pos:Expr),(es.foldr (λe r=>match e,r with |.Name x _,some l=>some (x::l) |_,_=>none) (some []):Option (List Str)) with |.Name x _,some l=>some (x::l) |_,_=>none)=some xs:=h;rw[q] at h';cases h';exact⟨x,pos,l,rfl,rfl,q0.trans q⟩
 |_=>cases h
theorem qge(gd:Gd κ K k X Γ){j:Nat}{p:Pos}:∀{es:List Expr} {xs:List Str} {l:List Nat},zF (.Tuple es j p)=some xs->qeX Γ xs=some l->PGs X es (gNs κ K l)
 | [],xs,l,h,h'=>by
  have e:xs=[]:=by unfold zF at h;cases h;rfl
  subst e;cases h';refine PGs.imp qgH λvs σ H Q hq1=>?_;obtain⟨Gv,Hv,ρ,G,ds,er,r,h⟩:=hq1
  cases ds with
  |nil=>simp only[qo] at r;exact⟨r,h σ er⟩
  |cons d ds=>exact False.elim h
 | e::es,xs,l,h,h'=>by
  obtain⟨x,pos,r,rfl,rfl,h0⟩:=qaZ h;obtain⟨i,l,h1,h2,rfl⟩:=qm h';refine PGs.imp (qex (qjW gd h1 pos) (qge gd h0 h2)) λvs σ H Q hq1=>?_;obtain⟨Gv,Hv,ρ,G,ds,er,rr,h⟩:=hq1
  cases ds with
  |nil=>exact False.elim h
  |cons d ds=>simp only[qo] at rr;obtain⟨v,vr,rfl,r1,r2⟩:=rr;exact⟨v,vr,rfl,Gv,Hv,ρ,G,d,er,r1,λσ1 er1=>⟨Gv,Hv,_,G,ds,er1,r2,h⟩⟩
theorem Zm{env:PySem.Env}{j:Nat}{p:Pos}:∀{es:List Expr} {xs:List Str} {l:List Nat},zF (.Tuple es j p)=some xs->qeX Γ xs=some l->(assignEach es env).length=l.length/\(assignEach es env).findIdx? (·.1)=none
 | [],xs,l,h,h'=>by unfold zF at h;cases h;cases h';exact⟨rfl,rfl⟩
 | e::es,xs,l,h,h'=>by obtain⟨x,pos,r,rfl,rfl,h0⟩:=qaZ h;obtain⟨i,l,h1,h2,rfl⟩:=qm h';obtain⟨h1,h2⟩:=Zm (env:=env) h0 h2;have e:assignEach (.Name x pos::es) env=(false,assign (.Name x pos) env)::assignEach es env:=rfl;rw[e];refine⟨by simp[h1],?_⟩;rw[List.findIdx?_cons];simp[h2]
theorem Zn:∀{l:List Nat} {ds:List D} {ρ:Env} {F:Env->Prop},Wk (Qg l ds ρ) F->ds.length=l.length
 |[],[],_,_,_=>rfl
 | [],_::_,_,_,h=>False.elim h
 | _::_,[],_,_,h=>False.elim h
 | i::l,d::ds,ρ,F,h=>congrArg (· + 1) (Zn (l:=l) (ds:=ds) (ρ:=ρ.set i (.val d)) h)
theorem qhA(gd:Gd κ K k X Γ)(tg:Expr){t:Tg}(h:cTg Γ tg=some t):PG X tg (gT κ K t):=by
 cases tg with
 |Name x pos=>obtain⟨i,h1,rfl⟩:=ql h;exact qjW gd h1 pos
 |Tuple es j p=>
  obtain⟨hs,h⟩:=qi h
  cases hx:zF (.Tuple es j p) with
  |none=>rw[hx] at h;cases h
  |some xs=>
   rw[hx] at h;obtain⟨l,h2,rfl⟩:=ql h;obtain⟨t1,t2⟩:=Zm (env:=X.env) hx h2;refine PG.imp (qiR (n:=l.length) gd.calm (qge gd hx h2) t1 t2) λv σ H Q hq1=>?_;obtain⟨Gv,Hv,ρ,G,d,er,r,h⟩:=hq1
   cases d with
   |tup ds=>have h:Wk (Qg l ds ρ) _:=h;simp only[Rep] at r;obtain⟨a,ys,rfl,r1,r2⟩:=r;exact⟨a,ys,rfl,SqT.of (er.sub _ _ r1),by rw[<-r2.len];exact Zn h,Gv,Hv,ρ,G,ds,er,r2,h⟩
   |_=>exact False.elim h
 |_=>cases h
theorem qgf{env:PySem.Env}:∀{names:List (Str×NameKind)} {x:Str},names.lookup x=some .globalImplicit->
  (names.map λ(n,k)=>if (k == NameKind.free&&env.scope.kind == .function&&env.kindOf n == some .cell) then (n,NameKind.cell) else (n,k)).lookup x=some .globalImplicit
 |[],_,h=>by simp at h
 | (n,k)::r,x,h=>by
  simp only[List.map_cons]
  by_cases hx:x=n
  ·subst hx;simp[List.lookup_cons] at h;subst h;rw[if_neg (by simp)];simp[List.lookup_cons]
  ·have hb:(x == n)=false:=by simpa using hx
   rw[List.lookup_cons,hb] at h;have ih:=qgf (env:=env) h
   by_cases hc:(k == NameKind.free&&env.scope.kind == .function&&env.kindOf n == some .cell)=true
   ·rw[if_pos hc];simp only[List.lookup_cons,hb];exact ih
   ·rw[if_neg hc];simp only[List.lookup_cons,hb];exact ih
theorem Zo(gd:Gd κ K k X Γ){own:List Str}{fr:List Nat}{sc:Scope}(h:JD Γ.sc Γ.N fr sc=true):BlkScope X own fr sc:=by
 unfold JD at h;simp only[Bool.and_eq_true,List.all_eq_true] at h;obtain⟨⟨hk,hn⟩,hf⟩:=h;refine⟨by simpa using hk,λx hx=>by simpa using (hn x hx).1.1,λx hx e=>?_,λx hx e=>?_,λi hi=>?_⟩
 ·have:=(hn x hx).1.2
  simpa [e] using this
 ·have:=(hn x hx).2
  exact gd.cf x.1 (by simpa [e] using this)
 ·rw[gd.hN]
  simpa using hf i hi
theorem YQ(gd:Gd κ K k X Γ){own:List Str}{fr:List Nat}{sc:Scope}(B:BlkScope X own fr sc)(hnd:(own++fr.map λi=>Γ.N.getD i "").Nodup)(cl:List (Str×Addr))(C:Addr)(fp:List Addr)(s2:Shared)(H2:Hp) :
  Gd κ K k (blk X (Jn X own fr) sc cl C fp s2 H2) { Γ with N:=own++fr.map λi=>Γ.N.getD i "",sc:=sc } where
 hN:=by show Jn X own fr=_;unfold Jn;rw[gd.hN]
 vis:=λx h=>by
  have h:=qf7 h;rcases h with h | h | h
  ·exact .inl (lookup_relabel_local h)
  ·exact absurd rfl (B.nocell _ (PySem.mem_of_lookup h))
  ·rcases JC (env:=X.env) h with z | z
   ·exact .inr (.inl z)
   ·exact .inr (.inr z)
 loc:=λx h=>by
  have h:=qdc h;rcases h with h | h
  ·have z:(relabel sc X.env).names.lookup x=some .local:=lookup_relabel_local h;exact⟨.inl z,.inr z⟩
  ·exact absurd rfl (B.nocell _ (PySem.mem_of_lookup h))
 glo:=λx h=>by unfold glB at h;exact qgf (env:=X.env) (by simpa using h)
 cf:=λx h=>by
  rcases h with h | h
  ·exact absurd rfl (B.nocell _ (PySem.mem_of_lookup h))
  ·exact JC (env:=X.env) h
 nd:=hnd
 calm:=gd.calm
 hK:=gd.hK
 room:=gd.room
 fns:=gd.fns
 blt:=gd.blt
 gl:=gd.gl
 cls:=gd.cls
 flds:=gd.flds
 xsubs:=gd.xsubs
 xgs:=gd.xgs
 mts:=gd.mts
 mks:=gd.mks
 subs:=gd.subs
theorem qjX{G H:Hp}{ρ:Env}{σ:L2.St}(er:ER κ K Gv Hv G H ρ σ)(own:List Str)(fr:List Nat):ER κ K G H G H (JU own.length fr ρ) (Yx own fr σ):=by
 refine⟨by simp[JU,Yx],er.sub,λ_ _ e=>e,λ_ _ e=>e,λa o e=>.inl ⟨o,e⟩,λi s e=>?_,λi j a l n e1=>?_⟩
 ·unfold JU at e;unfold Yx
  by_cases hi:i < own.length
  ·rw[List.getElem?_append_left (by simpa using hi)] at e;obtain rfl:=List.eq_of_mem_replicate (List.mem_of_getElem? e);trivial
  ·rw[List.getElem?_append_right (by simpa using hi)] at e ⊢;simp only[List.length_map,List.length_replicate] at e ⊢;rw[List.getElem?_map] at e ⊢;obtain⟨j,e1,rfl⟩:=Option.map_eq_some_iff.mp e;rw[e1];show SlR κ K G H H (qeV (ρ.getD j .no)) (some (σ[j]?).join)
   cases q:ρ[j]? with
   |none=>rw[List.getD_eq_getElem?_getD,q];trivial
   |some s=>
    rw[List.getD_eq_getElem?_getD,q];have w:=er.sl j s q
    cases s with
    |no=>trivial
    |val d=>obtain⟨v,z,r⟩:=w;exact⟨v,by rw[z];rfl,r⟩
    |own l=>obtain⟨a,xs,z,r1,r2,r3,r4⟩:=w;exact⟨a,xs,by rw[z];rfl,r1,r4⟩
    |bor l=>obtain⟨a,xs,z,r1,r4⟩:=w;exact⟨a,xs,by rw[z];rfl,er.base _ _ r1,r4⟩
    |scr l=>obtain⟨a,xs,z,r1,r4⟩:=w;exact⟨a,xs,by rw[z];rfl,er.base.seq r1,r4⟩
 ·exfalso;unfold JU at e1
  by_cases hi:i < own.length
  ·rw[List.getElem?_append_left (by simpa using hi)] at e1
   cases List.eq_of_mem_replicate (List.mem_of_getElem? e1)
  ·rw[List.getElem?_append_right (by simpa using hi),List.getElem?_map] at e1;obtain⟨j,_,z⟩:=Option.map_eq_some_iff.mp e1
   cases q:ρ.getD j .no<;>rw[q] at z<;>cases z
theorem qaf{it:Expr}(h:Zf it=true)(env:PySem.Env):∀x,foldedSetIterable it env x=pure x:=by
 intro x
 cases it<;>first | rfl | (simp[Zf] at h)
theorem qjY(A:All κ K k X Γ m)(e:Expr){x:E}(hx:cX m Γ e=some x):PE X e (λσ H Q=>∃Gv Hv,tE κ K Gv Hv (ze x (iR Γ.k x)) σ H Q):=λpins s σ H Q I ⟨Gv,Hv,h⟩=>A.e Gv Hv e x hx pins s σ H Q I h
theorem qgg(A:All κ K k X Γ m)(es:List Expr){x:F}(hx:cF m Γ es=some x):PIf X es (λσ H Q=>∃Gv Hv,tT κ K Gv Hv (iF Γ.k x) σ H Q):=λpins s σ H Q I ⟨Gv,Hv,h⟩=>A.f Gv Hv es x hx pins s σ H Q I h
structure CompS(Γ:Ct)(m:Nat)(elt tg it:Expr)(ifs:List Expr)(sc:Scope)(own:List Str)(el:E)(src:I)(t:Tg)(c:F):Prop where
 chk:JD Γ.sc Γ.N (YM Γ.N sc) sc=true
 nd:(own++(YM Γ.N sc).map λi=>Γ.N.getD i "").Nodup
 fold:Zf it=true
 src:cC Γ it (cI m Γ (qeU tg) it)=some src
 tg:cTg { Γ with N:=own++(YM Γ.N sc).map λi=>Γ.N.getD i "",sc:=sc } tg=some t
 c:cF m { Γ with N:=own++(YM Γ.N sc).map λi=>Γ.N.getD i "",sc:=sc } ifs=some c
 el:cX m { Γ with N:=own++(YM Γ.N sc).map λi=>Γ.N.getD i "",sc:=sc } elt=some el
theorem qjZ{elt:Expr}{gs:List Comprehension}{sc:Scope}{pos:Pos}(h:cE (m+1) Γ (.ListComp elt gs sc pos)=some x):∃tg it ifs own el src t c,gs=[⟨tg,it,ifs,0⟩]/\CompS Γ m elt tg it ifs sc own el src t c/\x=.comp el src t c own.length (YM Γ.N sc):=by
 match gs,h with
 |[⟨tg,it,ifs,as⟩],h=>
  obtain⟨ha,h⟩:=qi h;obtain rfl:as=0:=of_decide_eq_true ha;dsimp only at h
  cases hx:zF tg with
  |none=>rw[hx] at h;cases h
  |some own=>rw[hx] at h;obtain⟨hc,h⟩:=qi h;obtain⟨p1,p2,h1,h2,rfl⟩:=qm h;obtain⟨src,t,h3,h4,rfl⟩:=qm h1;obtain⟨c,el,h5,h6,rfl⟩:=qm h2;simp only[Bool.and_eq_true] at hc;exact⟨tg,it,ifs,own,el,src,t,c,rfl,⟨hc.1.1,of_decide_eq_true hc.1.2,hc.2,h3,h4,h5,h6⟩,rfl⟩
 |[],h=>cases h
 | _::_::_,h=>cases h
noncomputable def tC(κ:KC)(K:Frag)(Gv Hv:Hp)(f:Env->R (List D×Env)):TI:=λσ H Q=>∃ρ G,ER κ K Gv Hv G H ρ σ/\Wk (f ρ) λx=>∀J G' H',Po κ K Gv Hv σ G H ρ G' H' x.2->ItR κ H' G' J x.1->Q J H'
theorem qmZ(gd:Gd κ K k X Γ)(A:All κ K k X Γ m)(tg it:Expr){src:I}(hs:cC Γ it (cI m Γ (qeU tg) it)=some src):PI X tg it (tC κ K Gv Hv (iI Γ.k src)):=by rintro pins s σ H Q I ⟨ρ,G,er,h⟩;have hs:cI m Γ (qeU tg) it=some src:=hs;exact A.i Gv Hv tg it src hs pins s σ H Q I ⟨ρ,G,er,Wk.mono h λx h J G' H' p it1=>h J G' H' p λi G2 H2 g hh sub=>it1 i G2 H2 g (λb o e=>hh b o (p.er.base b o e)) sub⟩
theorem qa0{elt tg it:Expr}{ifs:List Expr}{sc:Scope}{own:List Str}{el:E}{src:I}{t:Tg}{c:F}(S:CompS Γ m elt tg it ifs sc own el src t c):∀σ H Q,tR κ K Gv Hv (iR Γ.k (.comp el src t c own.length (YM Γ.N sc))) σ H Q->
  qg2 own (YM Γ.N sc) (tC κ K Gv Hv (iI Γ.k src)) (gT κ K t) (λσ H Q=>∃Gv Hv,tT κ K Gv Hv (iF Γ.k c) σ H Q) (λσ H Q=>∃Gv Hv,tE κ K Gv Hv (ze el (iR Γ.k el)) σ H Q) σ H Q:=λσ H Q ⟨ρ,G,er,h⟩=>by
 refine⟨ρ,G,er,Wk.mono (Wk.th (x:=iI Γ.k src ρ) h) λx h J G1 H1 p1 it1=>?_⟩;obtain⟨hz,h⟩:=Wk.iff h;have h:=Wk.th h
 refine⟨λi mm ys σ' H'=>mm=x.1.length - i/\i<=x.1.length/\∃ρb Gb ds,ER κ K G1 H1 Gb H' ρb σ'/\qo κ Gb ds ys/\ds.length<=i/\
   Wk (qc9 t.go (λρ1=>iF Γ.k c ρ1) (ze el (iR Γ.k el)) (x.1.drop i) ρb ds)
    (λl=>∀v G' H',Po κ K Gv Hv σ G H ρ G' H' x.2->RvR κ K Hv H G' H' x.2 σ (.tmp l) v->Q v H'),
  ⟨x.1.length,by simp,Nat.zero_le _,JU own.length (YM Γ.N sc) x.2,G1,[],qjX p1.er own (YM Γ.N sc),.nil,Nat.le_refl _,?_⟩,?_⟩
 ·rw[List.drop_zero];exact h
 rintro i mm ys σ' H' ⟨rfl,hi,ρb,Gb,ds,erb,rds,hdl,hw⟩;have it2:=it1 i Gb H' erb.g0 erb.base erb.sub
 by_cases hlt:i < x.1.length
 ·obtain⟨go,yl⟩:=it2.1 x.1[i] (List.getElem?_eq_getElem hlt);have hyl:=rds.len;refine .inr ⟨go,by lia,_,λys' σ2 H2 w=>⟨x.1.length - (i+1),by lia,w⟩,λv H2 hy=>?_⟩;obtain⟨G',hs,gs,sub,new,rep⟩:=yl v H2 hy;have p2:=Po.more erb hs gs sub new;rw[List.drop_eq_getElem_cons hlt] at hw;refine⟨G1,H1,ρb,G',x.1[i],p2.er,rep,Wk.mono (Wk.th hw) λρ1 hw σ1 er1=>⟨G1,H1,ρ1,G',er1,Wk.mono (Wk.th hw) λbt hw G2 H3 p3=>?_⟩⟩;obtain⟨b,ρ2⟩:=bt
  cases b with
  |true=>rw[if_pos rfl];refine⟨G1,H1,ρ2,G2,p3.er,Wk.mono (Wk.th hw) λy hw w G3 H4 p4 rep4=>⟨rfl,hlt,y.2,G3,ds++[y.1],p4.er,?_,by simp;lia,(Wk.iff hw).2⟩⟩;exact(((rds.same gs).same p3.gs).same p4.gs).snoc rep4
  |false=>rw[if_neg (λz=>by cases z)];exact⟨rfl,hlt,ρ2,G2,ds,p3.er,(rds.same gs).same p3.gs,by lia,hw⟩
 ·have e:i=x.1.length:=by lia
  subst e;refine .inl ⟨it2.2 rfl,λp hp=>?_⟩;rw[List.drop_length] at hw;have p2:=p1.trans (Po.more p1.er erb.base erb.g0 erb.sub erb.fresh);obtain⟨z1,z2⟩:=p2.er.newList hp rds;exact hw _ _ _ (p2.trans z1) (z2.back p2.hs)
theorem qhB(gd:Gd κ K k X Γ)(A:All κ K k X Γ m)(ih:∀X' Γ',Gd κ K k X' Γ'->All κ K k X' Γ' m)(elt:Expr)(gs:List Comprehension)(sc:Scope)(pos:Pos)(h:cE (m+1) Γ (.ListComp elt gs sc pos)=some x):PE X (.ListComp elt gs sc pos) (tR κ K Gv Hv (iR Γ.k x)):=by
 obtain⟨tg,it,ifs,own,el,src,t,c,rfl,S,rfl⟩:=qjZ h;have B:BlkScope X own (YM Γ.N sc) sc:=Zo gd S.chk
 exact PE.imp (qg4 own (YM Γ.N sc) gd.calm B (qmZ (Gv:=Gv) (Hv:=Hv) gd A tg it S.src) (λcl C fp s2 H2=>qhA (YQ gd B S.nd cl C fp s2 H2) tg S.tg) (λcl C fp s2 H2=>qgg (ih _ _ (YQ gd B S.nd cl C fp s2 H2)) ifs S.c)
  (λcl C fp s2 H2=>qjY (ih _ _ (YQ gd B S.nd cl C fp s2 H2)) elt S.el) (qaf S.fold X.env)) (qa0 S)
theorem qhC(gd:Gd κ K k X Γ)(A:All κ K k X Γ m)(f:Str)(es:List Expr)(p q:Pos)(h:cE (m+1) Γ (.Call (.Name f p) es [] q)=some x):PE X (.Call (.Name f p) es [] q) (tR κ K Gv Hv (iR Γ.k x)):=by
 obtain⟨hn,h⟩:=qi h;simp only[Bool.and_eq_true] at hn;obtain⟨⟨h1,h2⟩,h3⟩:=hn
 by_cases hi:f = "isinstance"
 ·subst hi;rw[if_pos rfl] at h
  match es,h with
  |[a,b],h=>
   cases b with
   |Name t tp=>exact qjS gd A a t p tp q h2 h
   |Tuple bs j tp=>exact qjT gd A a bs j p tp q h2 h
   |_=>cases h
  |[],h=>cases h
  |[_],h=>cases h
  | _::_::_::_,h=>cases h
 rw[if_neg hi] at h
 by_cases ht:Γ.tab.contains f=true
 ·rw[if_pos ht] at h
  by_cases hf:(f = "_law_let"/\es.length=2)\/f = "_law_day"\/f = "_law_alike"
  ·rw[if_pos hf] at h;exact qe9 gd A f es p q h1 h2 ht h
  ·rw[if_neg hf] at h;exact qe8 gd A f es p q h1 h2 ht h
 rw[if_neg ht] at h
 by_cases hk:Γ.cs.tab.contains f=true
 ·rw[if_pos hk] at h;exact qhz gd A f es p q h1 h2 hk h
 rw[if_neg hk] at h
 match es,h with
 |[a],h=>exact qfa gd A f a p q h2 h
 |[a,b],h=>exact qfb gd A f a b p q h2 h
 |[],h=>cases h
 | _::_::_::_,h=>cases h
theorem qof(gd:Gd κ K k X Γ)(A:All κ K k X Γ m)(ih:∀X' Γ',Gd κ K k X' Γ'->All κ K k X' Γ' m)(e:Expr)(x:E)(h:cE (m+1) Γ e=some x):PE X e (tR κ K Gv Hv (iR Γ.k x)):=by
 cases e with
 |Name x pos=>exact qeY gd h pos
 |Constant c j pos=>exact qe4 c j pos h
 |BinOp a op b pos=>exact qe5 A a b op pos h
 |UnaryOp op a pos=>
  cases op with
  |USub=>exact qjD A a pos h
  |Not=>exact qhp A a pos h
  |_=>cases h
 |BoolOp op vs pos=>
  match vs,h with
  |[],h=>cases op<;>cases h
  |[a],h=>cases op<;>(obtain⟨a',h1,rfl⟩:=ql h;exact PE.imp (qiM (A.r Gv Hv _ _ h1)) λσ H Q h=>h)
  | a::b::l,h=>
   cases op with
   |And=>exact qjE A a b l pos h
   |Or=>cases h
 |Compare a ops bs pos=>
  match ops,bs,h with
  |[op],[b],h=>exact qhq gd A a b op pos h
  |[],_,h=>cases h
  |[_],[],h=>cases h
  | [_],_::_::_,h=>cases h
  | _::_::_,_,h=>cases h
 |IfExp c a b pos=>exact qjF A c a b pos h
 |Subscript a b pos=>exact qjH gd A a b pos h
 |List es pos=>exact qjI A es pos h
 |Tuple es j pos=>exact qjJ A es j pos h
 |Call fn es kws q=>
  cases fn with
  |Name f p=>
   cases kws with
   |nil=>exact qhC gd A f es p q h
   |cons kw kws=>cases h
  |Attribute o x ap=>
   cases kws with
   |nil=>exact qhy gd A o x ap es q h
   |cons kw kws=>cases h
  |_=>cases h
 |Attribute o x pos=>exact qjV gd A o x pos h
 |ListComp elt gens sc pos=>exact qhB gd A ih elt gens sc pos h
 |_=>cases h
theorem all:∀(m:Nat) (X:Cx) (Γ:Ct),Gd κ K k X Γ->All κ K k X Γ m
 |0,_,_,_=>qn8
 | m+1,X,Γ,gd=>
  have A:=all m X Γ gd
  ⟨λGv Hv=>qof gd A (all m),λGv Hv=>qn9 gd A,λGv Hv=>qoc gd A,λGv Hv=>qmb A,λGv Hv=>qmc A,λGv Hv=>qoa A,λGv Hv=>qob A,λGv Hv=>qod gd A,λGv Hv=>qoe gd A⟩
end
end DE
namespace DE
open PySem PySem.Spec PyProof.Rows L2
section
variable(κ:KC)(K:Frag)(Gv Hv:Hp)
noncomputable def FlP(G:Hp)(D:Ends):Fl->Prop
 | .next ρ'=>∀σ' G' H',ER κ K Gv Hv G' H' ρ' σ'->qp G G'->D.nx σ' H'
 |.ret r=>∀v G' H',qp Hv H'->qp Gv G'->qp G' H'->(∀a o,G' a=some o->(∃o',Gv a=some o')\/Hv a=none)->ReR κ G' H' Hv r v->D.rt v H'
def tS(f:Env->R Fl):TS:=λD σ H=>∃ρ G,ER κ K Gv Hv G H ρ σ/\Wk (f ρ) (FlP κ K Gv Hv G D)
end
structure Gs(κ:KC)(K:Frag)(k:Nat)(X:Cx)(Γ:Ct):Prop extends Gd κ K k X Γ where
 own:PassesOwn (model X.prog X.w) X.A X.env X.xe
 nx:∀e s,X.xe e s->False
 sceq:X.env.scope=Γ.sc
 fnk:Γ.sc.kind=.function
theorem PS.imp{X:Cx}{st:Stmt}{t t':TS}(h:PS X st t')(i:∀D σ H,t D σ H->t' D σ H):PS X st t:=λpins s σ H D I hw=>h pins s σ H D I (i D σ H hw)
theorem PSs.imp{X:Cx}{st:List Stmt}{t t':TS}(h:PSs X st t')(i:∀D σ H,t D σ H->t' D σ H):PSs X st t:=λpins s σ H D I hw=>h pins s σ H D I (i D σ H hw)
theorem YR{e:Expr}(h:y8 e=true)(t:Option Expr)(l:Nat)(env:PySem.Env):swapsWith e t l env=pure false:=by cases e<;>first | rfl | (simp[y8] at h)
section
variable{κ:KC}{K:Frag}{Gv Hv:Hp}{k m w:Nat}{X:Cx}{Γ:Ct}
theorem jy{ρ:Env}{i:Nat}{l:List D}(h:zA ρ i=some l):ρ[i]?=some (.own l):=by
 unfold zA at h
 split at h
 ·rename_i e;cases h;exact e
 ·cases h
theorem ER.ownSlot{G H:Hp}{ρ:Env}{σ:L2.St}{i:Nat}{l:List D}(er:ER κ K Gv Hv G H ρ σ)(e:ρ[i]?=some (.own l)):∃a xs,σ[i]?=some (some (.ref a))/\H a=some (.lst xs)/\qo κ G l xs:=by obtain⟨a,xs,z,h1,h2,h3,h4⟩:=er.sl i _ e;exact⟨a,xs,z,h1,h4⟩
theorem qdl(gd:Gd κ K k X Γ)(A:All κ K k X Γ m)(x:Str)(a:Expr)(xp ap cp p:Pos){i:Nat}{a':E}(hl:(ap.endLine == cp.line)=true)(s1:qE a=false)(hi:qel Γ x=some i)(ha:cX m Γ a=some a') :
  PS X (.Expr (.Call (.Attribute (.Name x xp) "append" ap) [a] [] cp) p) (tS κ K Gv Hv (iS Γ.k w (.app i a'))):=by
 have few:((backTo cp (starEach [a] X.env)).all (λx=>!x.1)&&(backToKw cp (keywordEach [] X.env)).all (λx=>x.1.isSome)&&decide (([a]:List Expr).length+([]:List Keyword).length+(if ([]:List Keyword).isEmpty then 0 else 1) < 30))=true:=by rw[qf s1];rfl
 refine PS.imp (jP (qjb PySem.F.plainAttrs_list PySem.F.slot_list_append PySem.F.type_list_append qcJ (qaT gd hi xp) (qh (A.e Gv Hv _ _ ha) qw (qf s1)) rfl few hl (qf s1) rfl) rfl) λD σ H hq1=>?_;obtain⟨ρ,G,er,h⟩:=hq1;have h:Wk (α:=Fl) (match zA ρ i with |none=>R.no |some _=>(ze a' (iR Γ.k a') ρ).th λy=>match zA y.2 i with |some l=>if l.length < sizeLine then .ok (.next (y.2.set i (.own (l++[y.1])))) else .no |none=>.no) _:=h
 cases e1:zA ρ i with
 |none=>rw[e1] at h;exact False.elim h
 |some l0=>
  rw[e1] at h;obtain⟨b,xs,z,h1,h2⟩:=er.ownSlot (jy e1);refine⟨_,z,.inl ⟨rfl,xs,SqL.of h1⟩,ρ,G,er,Wk.mono (Wk.th h) λy h v G1 H1 p1 r1=>?_⟩
  cases e2:zA y.2 i with
  |none=>rw[e2] at h;exact False.elim h
  |some l=>rw[e2] at h;obtain⟨hz,h⟩:=Wk.iff h;obtain⟨b',ys,z',h3,h4⟩:=p1.er.ownSlot (jy e2);rw[z] at z';cases z';refine⟨b,ys,v,rfl,rfl,h3,by rw[<-h4.len];exact hz,?_⟩;exact h σ G1 _ (p1.er.write (jy e2) z (h4.snoc r1)) p1.gs
theorem qdm(gd:Gd κ K k X Γ)(A:All κ K k X Γ m)(x:Str)(a:Expr)(xp ap cp p:Pos){i:Nat}{a':E}(hl:(ap.endLine == cp.line)=true)(s1:qE a=false)(hi:qel Γ x=some i)(ha:cE m Γ a=some a') :
  PS X (.Expr (.Call (.Attribute (.Name x xp) "extend" ap) [a] [] cp) p) (tS κ K Gv Hv (iS Γ.k w (.ext i a'))):=by
 have few:((backTo cp (starEach [a] X.env)).all (λx=>!x.1)&&(backToKw cp (keywordEach [] X.env)).all (λx=>x.1.isSome)&&decide (([a]:List Expr).length+([]:List Keyword).length+(if ([]:List Keyword).isEmpty then 0 else 1) < 30))=true:=by rw[qf s1];rfl
 refine PS.imp (jP (qjb PySem.F.plainAttrs_list PySem.F.slot_list_extend PySem.F.type_list_extend qcK (qaT gd hi xp) (qh (A.r Gv Hv _ _ ha) qw (qf s1)) rfl few hl (qf s1) rfl) rfl) λD σ H hq1=>?_;obtain⟨ρ,G,er,h⟩:=hq1;have h:Wk (α:=Fl) (match zA ρ i with |none=>R.no |some _=>(iR Γ.k a' ρ).th λy=>match zA y.2 i,y.1.plain? with |some l,some n=>if l.length+n.length<=sizeLine then .ok (.next (y.2.set i (.own (l++n)))) else .no |_,_=>.no) _:=h
 cases e1:zA ρ i with
 |none=>rw[e1] at h;exact False.elim h
 |some l0=>
  rw[e1] at h;obtain⟨b,xs,z,h1,h2⟩:=er.ownSlot (jy e1);refine⟨_,z,.inl ⟨rfl,xs,SqL.of h1⟩,ρ,G,er,Wk.mono (Wk.th h) λy h v G1 H1 p1 r1=>?_⟩
  cases e2:zA y.2 i with
  |none=>rw[e2] at h;exact False.elim h
  |some l=>
   cases e3:y.1.plain? with
   |none=>rw[e2,e3] at h;exact False.elim h
   |some n=>rw[e2,e3] at h;obtain⟨hz,h⟩:=Wk.iff h;obtain⟨b',ys,z',h3,h4⟩:=p1.er.ownSlot (jy e2);obtain⟨c,zs,rfl,h5,h6⟩:=r1.plain p1.er e3;rw[z] at z';cases z';refine⟨b,c,ys,zs,rfl,rfl,h3,h5,by rw[<-h4.len,<-h6.len];exact hz,?_⟩;exact h σ G1 _ (p1.er.write (jy e2) z (h4.app h6)) p1.gs
theorem qj0(gd:Gd κ K k X Γ)(A:All κ K k X Γ m)(e:Expr)(p:Pos){z:E}(h:cV m Γ e=some z):PS X (.Return (some e) p) (tS κ K Gv Hv (iS Γ.k w (.ret z))):=by
 have gen:(cE m Γ e).bind Zh=some z->PS X (.Return (some e) p) (tS κ K Gv Hv (iS Γ.k w (.ret z))):=λh=>by
  obtain⟨y,h1,h2⟩:=Option.bind_eq_some_iff.mp h;obtain⟨rfl,hv⟩:=jg h2;refine PS.imp (qct (A.r Gv Hv _ _ h1)) λD σ H hq1=>?_;obtain⟨ρ,G,er,h⟩:=hq1;have h:=Wk.th (x:=Zg y (iR Γ.k y) ρ) h;rw[qhk hv] at h;refine⟨ρ,G,er,Wk.mono (Wk.th h) λx h v G1 H1 p1 r1=>?_⟩;obtain⟨rv,ρ1⟩:=x
  cases rv with
  |val d=>exact h v G1 H1 p1.er.base p1.er.g0 p1.er.sub p1.er.fresh r1
  |tmp l=>obtain⟨a,xs,rfl,h1,h2,h3,h4,h5,h6⟩:=r1;exact h _ G1 H1 p1.er.base p1.er.g0 p1.er.sub p1.er.fresh ⟨a,xs,rfl,h1,h3,h4,h6⟩
  |_=>exact False.elim h
 cases e with
 |Name x pos=>
  rcases Qi gd h pos with ⟨i,rfl,P⟩ | ⟨d,v,rfl,e3,P⟩
  ·refine PS.imp (qct P) λD σ H hq1=>?_;obtain⟨ρ,G,er,h⟩:=hq1;have h:=Wk.th (x:=slX ρ i) h;unfold slX at h
   cases q:ρ[i]? with
   |none=>rw[q] at h;exact False.elim h
   |some s=>
    rw[q] at h;have w:=er.sl i s q
    cases s with
    |val d=>obtain⟨v,z,r⟩:=w;exact⟨v,z,h v G H er.base er.g0 er.sub er.fresh r⟩
    |own l=>obtain⟨a,xs,z,r1,r2,r3,r4⟩:=w;exact⟨_,z,h _ G H er.base er.g0 er.sub er.fresh ⟨a,xs,rfl,r1,r2,r3,r4⟩⟩
    |_=>exact False.elim h
  ·exact PS.imp (qct P) λD σ H ⟨ρ,G,er,h⟩=>h v G H er.base er.g0 er.sub er.fresh (e3 G)
 |_=>exact gen h
noncomputable def AsR(κ:KC)(K:Frag)(Hv G H:Hp)(ρ:Env)(σ:L2.St):Sl->V->Prop
 |.val d,v=>Rep κ G d v
 |.own l,v=>∃a xs,v=.ref a/\H a=some (.lst xs)/\Hv a=none/\G a=none/\¬ qbR ρ σ a/\qo κ G l xs
 |_,_=>False
noncomputable def tA(κ:KC)(K:Frag)(Gv Hv:Hp)(f:Env->R (Sl×Env)):TE:=λσ H Q=>∃ρ G,ER κ K Gv Hv G H ρ σ/\Wk (f ρ) λs=>∀v G' H',Po κ K Gv Hv σ G H ρ G' H' s.2->AsR κ K Hv G' H' s.2 σ s.1 v->Q v H'
theorem qag{G H:Hp}{ρ:Env}{σ:L2.St}{s:Sl}{v:V}{i:Nat}(er:ER κ K Gv Hv G H ρ σ)(h:AsR κ K Hv G H ρ σ s v):ER κ K Gv Hv G H (ρ.set i s) (σ.set i (some v)):=by
 cases s with
 |val d=>exact er.setVal h
 |own l=>obtain⟨a,xs,rfl,h1,h2,h3,h4,h5⟩:=h;exact er.setOwn h1 h2 h3 h4 h5
 |_=>exact False.elim h
theorem qm0{z:E}(hv:∀i,z≠.var i)(σ:L2.St)(H:Hp)(Q:VK)(h:tA κ K Gv Hv (YN z (iR Γ.k z)) σ H Q):tR κ K Gv Hv (iR Γ.k z) σ H Q:=by
 obtain⟨ρ,G,er,h⟩:=h;rw[qhl hv] at h;refine⟨ρ,G,er,Wk.mono (Wk.th h) λx h v G1 H1 p1 r1=>?_⟩;obtain⟨rv,ρ1⟩:=x
 cases rv with
 |val d=>exact h v G1 H1 p1 r1
 |tmp l=>obtain⟨a,xs,rfl,h1,h2,h3,h4,h5,h6⟩:=r1;exact h _ G1 H1 p1 ⟨a,xs,rfl,h1,h3,h4,h5,h6⟩
 |_=>exact False.elim h
theorem qm1(gd:Gd κ K k X Γ)(A:All κ K k X Γ m)(e:Expr){z:E}(h:cV m Γ e=some z):PE X e (tA κ K Gv Hv (YN z (iR Γ.k z))):=by
 have gen:(cE m Γ e).bind Zh=some z->PE X e (tA κ K Gv Hv (YN z (iR Γ.k z))):=λh=>by obtain⟨y,h1,h2⟩:=Option.bind_eq_some_iff.mp h;obtain⟨rfl,hv⟩:=jg h2;exact PE.imp (A.r Gv Hv _ _ h1) (qm0 hv)
 cases e with
 |Name x pos=>
  have P:=qaU (Gv:=Gv) (Hv:=Hv) gd h pos;rcases Qi gd h pos with ⟨i,rfl,_⟩ | ⟨d,v,rfl,_,_⟩
  ·refine PE.imp P λσ H Q hq1=>?_;obtain⟨ρ,G,er,h⟩:=hq1;exact⟨ρ,G,er,Wk.mono (Wk.th (x:=slE ρ i) h) λy h v G1 H1 p1 r1=>h v G1 H1 p1 r1⟩
  ·exact PE.imp P λσ H Q ⟨ρ,G,er,h⟩=>⟨ρ,G,er,h⟩
 |_=>exact gen h
theorem qj1(gs:Gs κ K k X Γ)(A:All κ K k X Γ m)(x:Str)(e:Expr)(xp p:Pos){i:Nat}{z:E}(hi:qda Γ x=some i)(hz:cV m Γ e=some z):PS X (.Assign [.Name x xp] e p) (tS κ K Gv Hv (iS Γ.k w (.set i z))):=by
 have gd:=gs.toGd;obtain⟨l1,l2,hN,hxi⟩:=Zl gd hi
 have fin:∀(D:Ends) (σ:L2.St) (H:Hp),tS κ K Gv Hv (iS Γ.k w (.set i z)) D σ H->tA κ K Gv Hv (YN z (iR Γ.k z)) σ H (λy H1=>qew i y σ H1 D.nx):=λD σ H ⟨ρ,G,er,h⟩=>⟨ρ,G,er,Wk.mono (Wk.th (x:=YN z (iR Γ.k z) ρ) h) λs h v G1 H1 p1 r1=>h _ G1 H1 (qag p1.er r1) p1.gs⟩
 by_cases hn:y8 e=true
 ·exact PS.imp (qaG (i:=i) hN hxi l1 (qm1 gd A e hz) (YR hn _ _ _) l2) fin
 cases e with
 |ListComp elt gens sc cp=>
  have hsw:∀b:Bool,(X.env.blockKind == .function&&X.env.kindOf x == some .local&&xp.line == cp.line&&!(sc.names.any λ(n,k)=>n == x&&(k == .local||k == .cell)))=b->swapsWith (.ListComp elt gens sc cp) (some (.Name x xp)) p.line X.env=pure b:=λb hb=>by rw[<-hb];rfl
  cases hb:(X.env.blockKind == .function&&X.env.kindOf x == some .local&&xp.line == cp.line&&!(sc.names.any λ(n,k)=>n == x&&(k == .local||k == .cell))) with
  |false=>exact PS.imp (qaG (i:=i) hN hxi l1 (qm1 gd A _ hz) (hsw false hb) l2) fin
  |true=>
   have hloc:X.env.scope.names.lookup x=some .local:=by
    simp only[Bool.and_eq_true] at hb
    have:=hb.1.1.2
    unfold PySem.Env.kindOf at this
    simpa using this
   obtain⟨y,h1,h2⟩:=Option.bind_eq_some_iff.mp hz;obtain⟨rfl,hv⟩:=jg h2
   cases m with
   |zero=>cases h1
   |succ m=>
    obtain⟨tg,it,ifs,own,el,src,t,c,rfl,S,rfl⟩:=qjZ h1;have B:BlkScope X own (YM Γ.N sc) sc:=Zo gd S.chk
    exact PS.imp (qg5 (i:=i) own (YM Γ.N sc) hN hxi hloc gd.calm B (qmZ (Gv:=Gv) (Hv:=Hv) gd (all m X Γ gd) tg it S.src) (λcl C fp s2 H2=>qhA (YQ gd B S.nd cl C fp s2 H2) tg S.tg) (λcl C fp s2 H2=>qgg (all m _ _ (YQ gd B S.nd cl C fp s2 H2)) ifs S.c)
     (λcl C fp s2 H2=>qjY (all m _ _ (YQ gd B S.nd cl C fp s2 H2)) elt S.el) (hsw true hb) (qaf S.fold X.env)) λD σ H h=>qa0 S σ H _ (qm0 hv σ H _ (fin D σ H h))
 |SetComp=>cases m<;>cases hz
 |DictComp=>cases m<;>cases hz
 |_=>exact absurd rfl hn
end
end DE
namespace DE
open PySem PySem.Spec PyProof.Rows L2
structure AllS(κ:KC)(K:Frag)(X:Cx)(Γ:Ct)(m w:Nat):Prop where
 s:∀Gv Hv st x,cS m Γ st=some x->PS X st (tS κ K Gv Hv (iS Γ.k w x))
 ss:∀Gv Hv l x,cSs m Γ l=some x->PSs X l (tS κ K Gv Hv (iSs Γ.k w x))
section
variable{κ:KC}{K:Frag}{Gv Hv:Hp}{k m w:Nat}{X:Cx}{Γ:Ct}
theorem FlP.back{G G1:Hp}{D:Ends}{f:Fl}(h:FlP κ K Gv Hv G D f)(g:qp G G1):FlP κ K Gv Hv G1 D f:=by
 cases f with
 |next ρ=>exactλσ' G' H' er g'=>h σ' G' H' er λb o e=>g' b o (g b o e)
 |ret r=>exact h
noncomputable def qme(r:Env->R (Rv×Env))(i:Nat)(d:D)(ρ:Env):R Fl:=match zA ρ i with
 |none=>.no
 |some _=>(r ρ).th λz=>match zA z.2 i,z.1.int? with
  |some l,some n=>(match ixN l.length n with
   |some k=>.ok (.next (z.2.set i (.own (l.set k d))))
   |none=>.no)
  |_,_=>.no
noncomputable def gS(κ:KC)(K:Frag)(Gv Hv:Hp)(r:Env->R (Rv×Env))(i:Nat):TG:=λv σ H Q=>∃(ρ:Env) (G:Hp) (d:D) (D:Ends),ER κ K Gv Hv G H ρ σ/\Rep κ G d v/\Wk (qme r i d ρ) (FlP κ K Gv Hv G D)/\∀H',D.nx σ H'->Q σ H'
theorem qmf(gd:Gd κ K k X Γ)(A:All κ K k X Γ m)(x:Str)(i:Expr)(xp p:Pos)(hs:Qf i=true){j:Nat}{i':E}(hj:qel Γ x=some j)(hi:cE m Γ i=some i'):PG X (.Subscript (.Name x xp) i p) (gS κ K Gv Hv (iR Γ.k i') j):=by
 refine PG.imp (qiS (qaT gd hj xp) (A.r Gv Hv _ _ hi) qeI (λv=>by cases i<;>first | rfl |(simp[Qf] at hs))) λv σ H Q hq1=>?_;obtain⟨ρ,G,d,D,er,r,h,hQ⟩:=hq1;unfold qme at h
 cases e1:zA ρ j with
 |none=>rw[e1] at h;exact False.elim h
 |some l0=>
  rw[e1] at h;obtain⟨b,xs,z,h1,h2⟩:=er.ownSlot (jy e1);refine⟨_,z,ρ,G,er,Wk.mono (Wk.th h) λy h u G1 H1 p1 r1=>?_⟩
  cases e2:zA y.2 j with
  |none=>rw[e2] at h;exact False.elim h
  |some l=>
   cases e3:y.1.int? with
   |none=>rw[e2,e3] at h;exact False.elim h
   |some n=>
    rw[e2,e3] at h;dsimp only at h
    cases e4:ixN l.length n with
    |none=>rw[e4] at h;exact False.elim h
    |some c=>rw[e4] at h;obtain⟨b',ys,z',h3,h4⟩:=p1.er.ownSlot (jy e2);rw[z] at z';cases z';refine⟨b,ys,n,c,rfl,r1.int e3,h3,by rw[<-h4.len];exact e4,hQ _ ?_⟩;exact h σ G1 _ (p1.er.write (jy e2) z (h4.set c (r.same p1.gs))) p1.gs
theorem qdn(gd:Gd κ K k X Γ)(A:All κ K k X Γ m)(x:Str)(i e:Expr)(xp sp p:Pos){y:S}(h:cS (m+1) Γ (.Assign [.Subscript (.Name x xp) i sp] e p)=some y):PS X (.Assign [.Subscript (.Name x xp) i sp] e p) (tS κ K Gv Hv (iS Γ.k w y)):=by obtain⟨hc,h⟩:=qi h;obtain⟨j,q,h1,h2,rfl⟩:=qm h;obtain⟨i',a',h3,h4,rfl⟩:=qm h2;rw[Bool.and_eq_true] at hc;refine PS.imp (qiT (A.e Gv Hv _ _ h4) (qmf (Gv:=Gv) (Hv:=Hv) gd A x i xp sp hc.2 h1 h3) (show swapsWithSole [.Subscript (.Name x xp) i sp] e p.line X.env=pure false from YR hc.1 (some (.Subscript (.Name x xp) i sp)) p.line X.env) rfl rfl) λD σ H hq1=>?_;obtain⟨ρ,G,er,h⟩:=hq1;exact⟨ρ,G,er,Wk.mono (Wk.th (x:=ze a' (iR Γ.k a') ρ) h) λy h v G1 H1 p1 r1=>⟨y.2,G1,y.1,D,p1.er,r1,Wk.mono (show Wk (qme (iR Γ.k i') j y.1 y.2) _ from h) λf hf=>hf.back p1.gs,λ_ h=>h⟩⟩
theorem qmg(A:All κ K k X Γ m)(S:AllS κ K X Γ m w)(c:Expr)(a b:List Stmt)(p:Pos){x:DE.S}(h:cS (m+1) Γ (.If c a b p)=some x):PS X (.If c a b p) (tS κ K Gv Hv (iS Γ.k w x)):=by
 obtain⟨c',q,h1,h2,rfl⟩:=qm h;obtain⟨a',b',h3,h4,rfl⟩:=qm h2;refine PS.imp (Z2 (A.t Gv Hv _ _ h1) (S.ss Gv Hv _ _ h3) (S.ss Gv Hv _ _ h4)) λD σ H hq1=>?_;obtain⟨ρ,G,er,h⟩:=hq1;refine⟨ρ,G,er,Wk.mono (Wk.th (x:=iT Γ.k c' ρ) h) λt h G1 H1 p1=>?_⟩;obtain⟨d,ρ1⟩:=t
 cases d with
 |true=>rw[if_pos rfl];exact⟨ρ1,G1,p1.er,Wk.mono h λf hf=>hf.back p1.gs⟩
 |false=>rw[if_neg (λz=>by cases z)];exact⟨ρ1,G1,p1.er,Wk.mono h λf hf=>hf.back p1.gs⟩
theorem qj2(gs:Gs κ K k X Γ)(A:All κ K k X Γ m)(S:AllS κ K X Γ m w)(tg it:Expr)(body:List Stmt)(p:Pos){x:DE.S}(h:cS (m+1) Γ (.For tg it body [] p)=some x):PS X (.For tg it body [] p) (tS κ K Gv Hv (iS Γ.k w x)):=by
 obtain⟨hf,h⟩:=qi h;obtain⟨q,b',h1,h2,rfl⟩:=qm h;obtain⟨t,src,h3,h4,rfl⟩:=qm h1;refine PS.imp (qiV gs.own gs.calm (A.i Gv Hv _ _ _ h4) (qhA gs.toGd tg h3) (S.ss Gv Hv _ _ h2) (qaf hf X.env)) λD σ H hq1=>?_;obtain⟨ρ,G,er,h⟩:=hq1;refine⟨ρ,G,er,Wk.mono (Wk.th (x:=iI Γ.k src ρ) h) λx h J G1 H1 p1 it1=>?_⟩
 refine⟨λi mm σ' H'=>mm=x.1.length - i/\i<=x.1.length/\∃ρb Gb,ER κ K Gv Hv Gb H' ρb σ'/\qp G1 Gb/\Wk (qeW (λd ρ1=>(t.go d ρ1).th λρ2=>iSs Γ.k w b' ρ2) (x.1.drop i) ρb) (FlP κ K Gv Hv G D),
  ⟨x.1.length,by simp,Nat.zero_le _,x.2,G1,p1.er,λ_ _ e=>e,by rw[List.drop_zero];exact h⟩,?_⟩
 rintro i mm σ' H' ⟨rfl,hi,ρb,Gb,erb,g1,hw⟩;have it2:=it1 i Gb H' g1 erb.base erb.sub
 by_cases hlt:i < x.1.length
 ·obtain⟨go,yl⟩:=it2.1 x.1[i] (List.getElem?_eq_getElem hlt);refine .inr ⟨go,_,λσ2 H2 w=>⟨x.1.length - (i+1),by omega,w⟩,λv H2 hy=>?_⟩;obtain⟨G',hs,gss,sub,new,rep⟩:=yl v H2 hy;have p2:=Po.more erb hs gss sub new;rw[List.drop_eq_getElem_cons hlt] at hw;refine⟨Gv,Hv,ρb,G',x.1[i],p2.er,rep,Wk.mono (Wk.th (Wk.th hw)) λρ2 hw σ2 er2=>⟨ρ2,G',er2,Wk.mono hw λf hf=>?_⟩⟩
  cases f with
  |next ρ3=>exactλσ3 G3 H3 er3 g3=>⟨rfl,hlt,ρ3,G3,er3,λb o e=>g3 b o (gss b o (g1 b o e)),hf⟩
  |ret r=>exact hf
 ·have e:i=x.1.length:=by omega
  subst e;rw[List.drop_length] at hw;exact .inl ⟨it2.2 rfl,hw σ' Gb H' erb λb o e=>g1 b o (p1.gs b o e)⟩
theorem qfd(gs:Gs κ K k X Γ)(A:All κ K k X Γ m)(S:AllS κ K X Γ m w)(c:Expr)(body:List Stmt)(p:Pos){x:DE.S}(h:cS (m+1) Γ (.While c body [] p)=some x):PS X (.While c body [] p) (tS κ K Gv Hv (iS Γ.k w x)):=by
 obtain⟨c',b',h1,h2,rfl⟩:=qm h;refine PS.imp (qey gs.own (A.t Gv Hv _ _ h1) (S.ss Gv Hv _ _ h2)) λD σ H hq1=>?_;obtain⟨ρ,G,er,h⟩:=hq1;refine⟨λn σ' H'=>∃ρb Gb,ER κ K Gv Hv Gb H' ρb σ'/\qp G Gb/\Wk (whL (λρ1=>iT Γ.k c' ρ1) (λρ1=>iSs Γ.k w b' ρ1) n ρb) (FlP κ K Gv Hv G D),⟨w,ρ,G,er,λ_ _ e=>e,h⟩,?_⟩;rintro n σ' H' ⟨ρb,Gb,erb,g1,hw⟩
 cases n with
 |zero=>exact False.elim hw
 |succ n=>
  refine⟨ρb,Gb,erb,Wk.mono (Wk.th (x:=iT Γ.k c' ρb) hw) λb hw G2 H2 p2=>?_⟩;obtain⟨d,ρ2⟩:=b
  cases d with
  |false=>rw[if_neg (λz=>by cases z)];exact hw σ' G2 H2 p2.er λb o e=>p2.gs b o (g1 b o e)
  |true=>
   rw[if_pos rfl];refine⟨_,λσ3 H3 w=>⟨n,Nat.lt_succ_self n,w⟩,ρ2,G2,p2.er,Wk.mono (Wk.th hw) λf hf=>?_⟩
   cases f with
   |next ρ3=>exactλσ3 G3 H3 er3 g3=>⟨ρ3,G3,er3,λb o e=>g3 b o (p2.gs b o (g1 b o e)),hf⟩
   |ret r=>exact hf
theorem qhD(gd:Gd κ K k X Γ)(A:All κ K k X Γ m)(e:Expr)(p:Pos){x:S}(h:cS (m+1) Γ (.Expr e p)=some x):PS X (.Expr e p) (tS κ K Gv Hv (iS Γ.k w x)):=by
 have gen:oif (y8 e) ((cE m Γ e).map .expr)=some x->PS X (.Expr e p) (tS κ K Gv Hv (iS Γ.k w x)):=λh=>by obtain⟨hn,h⟩:=qi h;obtain⟨a',h1,rfl⟩:=ql h;refine PS.imp (jP (A.r Gv Hv _ _ h1) (YR hn _ _ _)) λD σ H hq1=>?_;obtain⟨ρ,G,er,h⟩:=hq1;exact⟨ρ,G,er,Wk.mono (Wk.th (x:=iR Γ.k a' ρ) h) λx h v G1 H1 p1 r1=>h σ G1 H1 p1.er p1.gs⟩
 cases e with
 |Call fn es kws cp=>
  cases fn with
  |Attribute o meth ap=>
   cases o with
   |Name y yp=>
    cases kws with
    |cons kw kws=>exact match es,h,gen with |[],h,gen=>gen h |[_],h,gen=>gen h | _::_::_,h,gen=>gen h
    |nil=>
     match es,h,gen with
     |[a],h,gen=>
      obtain⟨hc,h⟩:=qi h;rw[Bool.and_eq_true] at hc;have hs:qE a=false:=by simpa using hc.2
      by_cases h1:meth = "append"
      ·subst h1;rw[if_pos rfl] at h;obtain⟨i,a',h2,h3,rfl⟩:=qm h;exact qdl gd A y a yp ap cp p hc.1 hs h2 h3
      rw[if_neg h1] at h
      by_cases h2:meth = "extend"
      ·subst h2;rw[if_pos rfl] at h;obtain⟨i,a',h2,h3,rfl⟩:=qm h;exact qdm gd A y a yp ap cp p hc.1 hs h2 h3
      rw[if_neg h2] at h;cases h
     |[],h,gen=>cases h
     | _::_::_,h,gen=>exact gen h
   |_=>exact gen h
  |_=>exact gen h
 |_=>exact gen h
theorem qog(gs:Gs κ K k X Γ)(A:All κ K k X Γ m)(S:AllS κ K X Γ m w)(st:Stmt)(x:DE.S)(h:cS (m+1) Γ st=some x):PS X st (tS κ K Gv Hv (iS Γ.k w x)):=by
 cases st with
 |Pass p=>cases h;exact PS.imp qgE λD σ H ⟨ρ,G,er,h⟩=>h σ G H er λ_ _ e=>e
 |Raise a b c=>cases h;exactλpins s σ H D I ⟨ρ,G,er,h⟩=>h.elim
 |Expr e p=>exact qhD gs.toGd A e p h
 |Return o p=>
  cases o with
  |some e=>obtain⟨y,h1,rfl⟩:=ql h;exact qj0 gs.toGd A e p h1
  |none=>cases h;exact PS.imp qgF λD σ H ⟨ρ,G,er,h⟩=>h .non G H er.base er.g0 er.sub er.fresh (by simp only[ReR,Rep])
 |Assign tgs e p=>
  match tgs,h with
  |[],h=>cases h
  | _::_::_,h=>cases h
  |[tg],h=>
   cases tg with
   |Name x xp=>obtain⟨i,z,h1,h2,rfl⟩:=qm h;exact qj1 gs A x e xp p h1 h2
   |Tuple es j tp=>cases h
   |Subscript o i sp=>
    cases o with
    |Name x xp=>exact qdn gs.toGd A x i e xp sp p h
    |_=>cases h
   |_=>cases h
 |If c a b p=>exact qmg A S c a b p h
 |Try body hs orelse fin p=>
  cases hs with
  |nil=>cases h
  |cons h0 hs=>
   cases orelse with
   |cons _ _=>cases h
   |nil=>
    cases fin with
    |cons _ _=>cases h
    |nil=>
     obtain⟨b,h1,rfl⟩:=ql h;intro pins s σ H D I hq;refine wpAny_Try_except (wpAny_mono (S.ss Gv Hv _ _ h1 pins s σ H D I hq) (λf s1 q=>?_) λe s1 hq=>(gs.nx e s1 hq).elim)
     cases f with
     |next=>exact wpAny_execs_nil q
     |_=>exact q
 |For tg it body orelse p=>
  cases orelse with
  |nil=>exact qj2 gs A S tg it body p h
  |cons s l=>cases h
 |While c body orelse p=>
  cases orelse with
  |nil=>exact qfd gs A S c body p h
  |cons s l=>cases h
 |_=>cases h
theorem qmh(S:AllS κ K X Γ m w):∀l x,cSs (m+1) Γ l=some x->PSs X l (tS κ K Gv Hv (iSs Γ.k w x))
 |[],_,h=>by cases h;exact PSs.imp yv λD σ H ⟨ρ,G,er,h⟩=>h σ G H er λ_ _ e=>e
 | st::l,_,h=>by
  obtain⟨s',l',h1,h2,rfl⟩:=qm h;refine PSs.imp (qI (S.s Gv Hv _ _ h1) (S.ss Gv Hv _ _ h2)) λD σ H hq1=>?_;obtain⟨ρ,G,er,h⟩:=hq1;refine⟨ρ,G,er,Wk.mono (Wk.th (x:=iS Γ.k w s' ρ) h) λf hf=>?_⟩
  cases f with
  |next ρ1=>exactλσ1 G1 H1 er1 g1=>⟨ρ1,G1,er1,Wk.mono hf λf hf=>hf.back g1⟩
  |ret r=>exact hf
theorem qmi(gs:Gs κ K k X Γ):∀m,AllS κ K X Γ m w
 |0=>⟨(λ_ _ _ _ h=>nomatch h),(λ_ _ _ _ h=>nomatch h)⟩
 | m+1=>
  have S:=qmi gs m
  ⟨λGv Hv=>qog gs (all m X Γ gs.toGd) S,λGv Hv=>qmh S⟩
end
end DE
namespace DE
open PySem PySem.Spec PyProof.Rows L2
mutual
inductive Y where
 | s (s:S) | rai (n:Str) (l:Es) | cal (o:Option Nat) (f:Str) (l:Es) | ite (c:T) (a b:Ys) | for_ (tg:Tg) (src:I) (b:Ys) | try_ (b:Ys) (hs:List (Str×Nat×Nat))
inductive Ys where
 | nil | cons (y:Y) (l:Ys)
end
def noX{α:Type}:R α->R α
 |.ok a=>.ok a
 |_=>.no
def qlw:D->Bool
 |.int i=>decide (i.natAbs.log2 < 1920)
 |.non=>true
 |_=>false
noncomputable def mkX(cs:Cs)(n:Str)(ds:List D):R Fl:=match cs.xn n with
 |some []=>if ds.length<=sizeLine then .exc (cs.xa n) [] else .no
 |some ns=>if (decide (ds.length=ns.length)&&decide (ds.length<=sizeLine)&&ds.all qlw)=true then .exc (cs.xa n) (ns.zip ds) else .no
 |none=>.no
noncomputable def qhE(o:Option Nat)(r:Rv)(ρ:Env):R Fl:=match o with
 |none=>.ok (.next ρ)
 |some i=>(match r with
  |.val d=>.ok (.next (ρ.set i (.val d)))
  |.tmp l=>.ok (.next (ρ.set i (.own l)))
  |_=>.no)
noncomputable def yh(cs:Cs)(n:Nat)(C:Addr)(l:List (Str×D)):List (Str×Nat×Nat)->R Fl
 |[]=>.no
 | h::hs=>match cs.xs C h.1 with
  |some true=>.ok (.next ((List.replicate n Sl.no).set h.2.2 (.val (.exc C (l.map (·.1)) (l.map (·.2))))))
  |some false=>yh cs n C l hs
  |none=>.no
mutual
noncomputable def iY(cl:Cl)(cx:Str->List Ar->R Rv)(w:Nat):Y->Env->R Fl
 |.s s,ρ=>noX (iS cl w s ρ)
 |.rai n l,ρ=>(noX (iEs cl l ρ)).th λx=>mkX cl.cs n x.1
 |.cal o f l,ρ=>(noX (iAs cl l ρ)).th λx=>(cx f x.1).th λr=>qhE o r x.2
 |.ite c a b,ρ=>(noX (iT cl c ρ)).th λt=>if t.1 then iYs cl cx w a t.2 else iYs cl cx w b t.2
 |.for_ tg src b,ρ=>(noX (iI cl src ρ)).th λx=>qeW (λd ρ1=>(noX (tg.go d ρ1)).th λρ2=>iYs cl cx w b ρ2) x.1 x.2
 |.try_ b hs,ρ=>match iYs cl cx w b ρ with
  |.exc C l=>yh cl.cs ρ.length C l hs
  |r=>r
noncomputable def iYs(cl:Cl)(cx:Str->List Ar->R Rv)(w:Nat):Ys->Env->R Fl
 |.nil,ρ=>.ok (.next ρ)
 |.cons y l,ρ=>(iY cl cx w y ρ).th λf=>match f with
  |.next ρ1=>iYs cl cx w l ρ1
  |.ret r=>.ok (.ret r)
end
noncomputable def cHs(Γ:Ct):List ExceptHandler->Option (List (Str×Nat×Nat))
 |[]=>some []
 | .ExceptHandler (some (.Name t _)) (some n) [.Assign [.Name v _] (.Name n2 _) _] _::hs=>oif (decide (n2=n)&&decide (v≠n)&&decide (t≠"ValueError")&&zt t&&glB Γ.sc t&&zt n&&(Γ.sc.names.lookup n == some .local)) (o2 (o2 (qda Γ n) (qda Γ v) Prod.mk) (cHs Γ hs) λp r=>(t,p.1,p.2)::r)
 |_=>none
def xnB(Γ:Ct)(f:Str):Bool:=zt f&&glB Γ.sc f
noncomputable def qlx(xt:List Str):Nat->Stmt->Bool
 |0,_=>true
 | m+1,st=>match st with
  |.Raise ..=>true
  |.Try ..=>true
  |.Expr (.Call (.Name f _) _ _ _) _=>xt.contains f
  |.Assign _ (.Call (.Name f _) _ _ _) _=>xt.contains f
  |.If _ a b _=>a.any (qlx xt m)||b.any (qlx xt m)
  |.For _ _ a _ _=>a.any (qlx xt m)
  |_=>false
mutual
noncomputable def cY:Nat->Ct->Bool->Stmt->Option Y
 |0,_,_,_=>none
 | m+1,Γ,z,st=>match st with
  | .Raise (some (.Call (.Name n _) (e::es) [] _)) none _=>oif (!z&&xnB Γ n) ((cEs m Γ (e::es)).map (.rai n))
  | .Expr (.Call (.Name f fp) (e::es) [] cp) p=>if Γ.cs.xt.contains f=true then oif (xnB Γ f) ((cAs m Γ (e::es)).map (.cal none f)) else (cS (m+1) Γ (.Expr (.Call (.Name f fp) (e::es) [] cp) p)).map .s
  | .Assign [.Name x xp] (.Call (.Name f fp) (e::es) [] cp) p=>if Γ.cs.xt.contains f=true then oif (xnB Γ f) (o2 (qda Γ x) (cAs m Γ (e::es)) λi l=>.cal (some i) f l) else (cS (m+1) Γ (.Assign [.Name x xp] (.Call (.Name f fp) (e::es) [] cp) p)).map .s
  |.If c a b _=>o2 (cT m Γ c) (o2 (cYs m Γ z a) (cYs m Γ z b) Prod.mk) λc p=>.ite c p.1 p.2
  |.For tg it body [] p=>if body.any (qlx Γ.cs.xt m)=false then (cS (m+1) Γ (.For tg it body [] p)).map .s else none
  | .Try body (h::hs) [] [] _=>oif (!z) (o2 (cYs m Γ true body) (cHs Γ (h::hs)) .try_)
  |st=>(cS (m+1) Γ st).map .s
noncomputable def cYs:Nat->Ct->Bool->List Stmt->Option Ys
 |0,_,_,_=>none
 | m+1,Γ,z,l=>match l with
  |[]=>some .nil
  | st::l=>o2 (cY m Γ z st) (cYs m Γ z l) .cons
end
noncomputable def Wx{α:Type}(Ξ:Addr->List (Str×D)->Prop)(x:R α)(f:α->Prop):Prop:=match x with
 |.ok a=>f a
 |.exc c l=>Ξ c l
 |.no=>False
section
variable{α β:Type}{Ξ:Addr->List (Str×D)->Prop}
theorem Wx.th{x:R α}{g:α->R β}{f:β->Prop}(h:Wx Ξ (x.th g) f):Wx Ξ x λa=>Wx Ξ (g a) f:=by cases x<;>exact h
theorem Wx.mono{x:R α}{f g:α->Prop}(h:Wx Ξ x f)(i:∀a,f a->g a):Wx Ξ x g:=by
 cases x with
 |ok a=>exact i a h
 |exc c l=>exact h
 |no=>exact h
theorem Wx.mono2{Ξ':Addr->List (Str×D)->Prop}{x:R α}{f g:α->Prop}(h:Wx Ξ x f)(j:∀c l,Ξ c l->Ξ' c l)(i:∀a,f a->g a):Wx Ξ' x g:=by
 cases x with
 |ok a=>exact i a h
 |exc c l=>exact j c l h
 |no=>exact h
theorem Wx.nox{x:R α}{f:α->Prop}(h:Wx Ξ (noX x) f):Wk x f:=by
 cases x with
 |ok a=>exact h
 |exc c l=>exact h
 |no=>exact h
end
section
variable(κ:KC)(K:Frag)(Gv Hv:Hp)
noncomputable def qmj(G:Hp)(od:Option Addr)(l:List (Str×D)):Prop:=(od=none/\l=[])\/∃dd xs,od=some dd/\G dd=some (xD dd ((l.map (·.1)).zip xs))/\qo κ G (l.map (·.2)) xs
noncomputable def XP(G:Hp)(E:XK)(C:Addr)(l:List (Str×D)):Prop:=∀od G' H',qp Hv H'->qp Gv G'->qp G G'->qp G' H'->(∀a o,G' a=some o->(∃o',Gv a=some o')\/Hv a=none)->qmj κ G' od l->E (.ref C) od H'
noncomputable def tY(E:XK)(f:Env->R Fl):TS:=λD σ H=>∃ρ G,ER κ K Gv Hv G H ρ σ/\Wx (XP κ Gv Hv G E) (f ρ) (FlP κ K Gv Hv G D)
noncomputable def spX(cx:Str->List Ar->R Rv)(f:Str):Sp:=λvs H Q E=>∃G args,qp G H/\y9 κ K G H args vs/\
 Wx (XP κ G H G E) (cx f args) λr=>∀v G' H',qp H H'->qp G G'->qp G' H'->(∀a o,G' a=some o->(∃o',G a=some o')\/H a=none)->ReR κ G' H' H r v->Q v H'
end
theorem XP.up{κ:KC}{Gv Hv G G1:Hp}{E:XK}{C:Addr}{l:List (Str×D)}(h:XP κ Gv Hv G E C l)(g:qp G G1):XP κ Gv Hv G1 E C l:=λod G' H' h1 h2 h3=>h od G' H' h1 h2 λb o q=>h3 b o (g b o q)
noncomputable def qly(C:Addr)(ns:List Str):Sp:=λvs H Q _=>∃x us,vs=.ref x::us/\H x=some (qf3 x C none)/\us.length=ns.length/\(∀u∈us,qjn u)/\∀dd,H dd=none->dd≠x->Q .non (upd (upd H dd (xD dd (ns.zip us))) x (qf3 x C (some dd)))
structure Gb(κ:KC)(K:Frag)(k:Nat)(X:Cx)(Γ:Ct)(cx:Str->List Ar->R Rv)(E:XK):Prop where
 gs:Gs κ K k X.nox Γ
 ps:jG (CX1 X.prog X.w) X E
 xfn:∀f,Γ.cs.xt.contains f=true->∃fa fd ps,FnOk X.prog X.w X.K X.mg X.base (CX1 X.prog X.w) k fa fd ps (spX κ K cx f)/\X.mg f=some (.ref fa)/\PySem.W.keepIn X.K (.ref fa)=true/\qK X.K fd ps []
structure Gx(κ:KC)(K:Frag)(k:Nat)(X:Cx)(Γ:Ct)(cx:Str->List Ar->R Rv)(E:XK):Prop where
 ex:X.ex=[]
 stk:X.stack=X.env::X.outer/\X.env.frame=some X.env.locals
 rs:JE X E
 own:PassesOwn (model X.prog X.w) X.A X.env X.xe
 xn0:∀n,Γ.cs.xn n=some []->X.mg n=some (.ref (Γ.cs.xa n))/\PySem.W.excIn X.K (Γ.cs.xa n) bV "ValueError.__new__" = true
 xn1:∀n ns,Γ.cs.xn n=some ns->ns≠[]->∃fI fd j,k=j+1/\X.mg n=some (.ref (Γ.cs.xa n))/\XcC X.K (Γ.cs.xa n) fI/\FnOk X.prog X.w X.K X.mg X.base CX0 j fI fd ("self" :: ns) (qly (Γ.cs.xa n) ns)/\qK X.K fd ("self" :: ns) []
 xhs:∀C (t:Str) b,t≠("ValueError" : Str)->Γ.cs.xs C t=some b->∃D,X.mg t=some (.ref D)/\PySem.W.exmOne X.K (.ref C) (.ref D)=some b
section
variable{κ:KC}{K:Frag}{Gv Hv:Hp}{k m w:Nat}{X:Cx}{Γ:Ct}{cx:Str->List Ar->R Rv}{E:XK}{z:Bool}
theorem PS.nox{st:Stmt}{t:TS}(h:PS X.nox st t):PS X st t:=λpins s σ H D I hw=>wpAny_mono (h pins s σ H D (I.wish _) hw) (λ_ _ q=>q.unwish) λ_ _ z=>False.elim z
theorem qmk(gb:Gb κ K k X Γ cx E)(st:Stmt)(x:S)(h:cS m Γ st=some x):PS X st (tY κ K Gv Hv E (iY Γ.k cx w (.s x))):=by refine PS.imp (PS.nox ((qmi gb.gs (w:=w) m).s Gv Hv st x h)) λD σ H hq=>?_;obtain⟨ρ,G,er,h⟩:=hq;exact⟨ρ,G,er,Wx.nox (x:=iS Γ.k w x ρ) h⟩
end
end DE
namespace DE
open PySem PySem.Spec PyProof.Rows L2
section
variable{κ:KC}{K:Frag}{Gv Hv:Hp}{k m w:Nat}{X:Cx}{Γ:Ct}{cx:Str->List Ar->R Rv}{E:XK}{z:Bool}
theorem qjn.of{G:Hp}{d:D}{v:V}(h:qlw d=true)(r:Rep κ G d v):qjn v:=by
 cases d with
 |int i=>simp only[Rep] at r;subst r;exact of_decide_eq_true (p:=i.natAbs.log2 < 1920) h
 |non=>simp only[Rep] at r;subst r;trivial
 |_=>cases h
theorem qdo{G:Hp}:∀{ds:List D} {vs:List V},ds.all qlw=true->qo κ G ds vs->∀u∈vs,qjn u
 |[],vs,_,r=>by simp only[qo] at r;subst r;simp
 | d::ds,vs,h,r=>by
  simp only[qo] at r;obtain⟨v,us,rfl,r1,r2⟩:=r;rw[List.all_cons,Bool.and_eq_true] at h;intro u hu;rcases List.mem_cons.mp hu with rfl | hu
  ·exact qjn.of h.1 r1
  ·exact qdo h.2 r2 u hu
theorem qfe(gb:Gb κ K k X Γ cx E)(gx:Gx κ K k X Γ cx E)(n:Str)(e:Expr)(es:List Expr)(np cp p:Pos){y:Y}(h:oif (!z&&xnB Γ n) ((cEs m Γ (e::es)).map (.rai n))=some y) :
  PS X (.Raise (some (.Call (.Name n np) (e::es) [] cp)) none p) (tY κ K Gv Hv E (iY Γ.k cx w y)):=by
 obtain⟨hc,h⟩:=qi h;obtain⟨l,h1,rfl⟩:=ql h;rw[Bool.and_eq_true,xnB,Bool.and_eq_true] at hc;obtain⟨n1,n2,n3⟩:=qC hc.2.1;have gd:=gb.gs.toGd;have hg:Gl X n:=gd.glo n hc.2.2;have hs:=qad h1;simp only[List.any_cons,Bool.or_eq_false_iff] at hs;have pa:PA X (e::es) (tEs κ K Gv Hv (iEs Γ.k l)):=PA.nox ((all m X.nox Γ gd).es Gv Hv _ _ h1);intro pins s σ H D I hq;obtain⟨ρ,G,er,hw⟩:=hq;have hw:=Wx.nox (x:=iEs Γ.k l ρ) (Wx.th hw)
 cases e0:Γ.cs.xn n with
 |none=>
  exfalso
  cases e1:iEs Γ.k l ρ with
  |ok v=>rw[e1] at hw;have hw:Wx (XP κ Gv Hv G E) (mkX Γ.cs n v.1) _:=hw;unfold mkX at hw;rw[e0] at hw;exact hw
  |exc c l=>rw[e1] at hw;exact hw
  |no=>rw[e1] at hw;exact hw
 |some ns=>
  cases ns with
  |nil=>
   obtain⟨hm,hk⟩:=gx.xn0 n e0;refine qeN (qeT gx.ex gx.rs) gd.calm hg hm hk PySem.F.excBase_ValueError pa (qf hs.1) (qU hs.2) n1 pins s σ H D I ⟨ρ,G,er,Wk.mono hw λv hv vs G1 H1 p1 r1=>?_⟩;have hv:Wx (XP κ Gv Hv G E) (mkX Γ.cs n v.1) _:=hv;unfold mkX at hv;rw[e0] at hv;dsimp only at hv
   by_cases hl:v.1.length<=sizeLine
   ·rw[if_pos hl] at hv;exact⟨by rw[<-r1.len];exact hl,hv none G1 H1 p1.er.base p1.er.g0 p1.gs p1.er.sub p1.er.fresh (.inl ⟨rfl,rfl⟩)⟩
   ·rw[if_neg hl] at hv;exact hv.elim
  |cons a ns=>
   obtain⟨fI,fd,j,hj,hm,hk,F,hb⟩:=gx.xn1 n _ e0 (by simp);subst hj;refine qc7 gx.ex gx.rs gd.calm hg hm hk F gd.room hb pa (qf hs.1) (qU hs.2) n1 pins s σ H D I ⟨ρ,G,er,Wk.mono hw λv hv vs G1 H1 p1 r1=>?_⟩;have hv:Wx (XP κ Gv Hv G E) (mkX Γ.cs n v.1) _:=hv;unfold mkX at hv;rw[e0] at hv;dsimp only at hv
   by_cases hl:(decide (v.1.length=(a::ns).length)&&decide (v.1.length<=sizeLine)&&v.1.all qlw)=true
   case neg=>rw[if_neg hl] at hv;exact hv.elim
   rw[if_pos hl] at hv;simp only[Bool.and_eq_true,decide_eq_true_eq] at hl;obtain⟨⟨l1,l2⟩,l3⟩:=hl;refine⟨by rw[<-r1.len];exact l2,λx hx=>⟨x,vs,rfl,qg,by rw[<-r1.len];exact l1,qdo l3 r1,λdd hd ne=>⟨rfl,some dd,qg,?_⟩⟩⟩;rw[qe ne] at hd;have gdd:G1 dd=none:=qp.none p1.er.sub hd;have gx1:G1 x=none:=qp.none p1.er.sub hx
   have old:∀{b:Addr} {o:HO},H1 b=some o->rem (upd (upd (upd H1 x (qf3 x (Γ.cs.xa n) none)) dd (xD dd ((a::ns).zip vs))) x (qf3 x (Γ.cs.xa n) (some dd))) x b=some o:=λ{b o} q=>by
    have b1:b≠x:=λz=>by rw[z,hx] at q;cases q
    have b2:b≠dd:=λz=>by rw[z,hd] at q;cases q
    rw[qaS b1,qe b1,qe b2,qe b1];exact q
   have fz:((a::ns).zip v.1).map (·.1)=a::ns:=by rw[List.map_fst_zip];lia
   have sz:((a::ns).zip v.1).map (·.2)=v.1:=by rw[List.map_snd_zip];lia
   have gs1:qp G1 (upd G1 dd (xD dd ((a::ns).zip vs))):=qp.upd gdd;refine hv (some dd) (upd G1 dd (xD dd ((a::ns).zip vs))) _ (λb o q=>old (p1.er.base b o q)) (λb o q=>gs1 b o (p1.er.g0 b o q)) (λb o q=>gs1 b o (p1.gs b o q)) (λb o q=>?_) (λb o q=>?_) (.inr ⟨dd,vs,rfl,by rw[fz];exact qg,by rw[sz];exact r1.same gs1⟩)
   ·by_cases hb:b=dd
    ·subst hb;rw[qg] at q;cases q;rw[qaS ne,qe ne,qg]
    ·rw[qe hb] at q;exact old (p1.er.sub b o q)
   ·by_cases hb:b=dd
    ·subst hb;exact .inr (qp.none p1.er.base hd)
    ·rw[qe hb] at q;exact p1.er.fresh b o q
theorem XP.back{G H:Hp}{ρ ρ':Env}{σ:L2.St}{G1 H1:Hp}{C:Addr}{l:List (Str×D)}(h:XP κ Gv Hv G E C l)(p1:Po κ K Gv Hv σ G H ρ G1 H1 ρ'):XP κ G1 H1 G1 E C l:=λod G' H' hs gs _ sub fr xr=>
 h od G' H' (λb o q=>hs b o (p1.er.base b o q)) (λb o q=>gs b o (p1.er.g0 b o q)) (λb o q=>gs b o (p1.gs b o q)) sub (λb o q=>by
  rcases fr b o q with ⟨o',q'⟩ | q'
  ·exact p1.er.fresh b o' q'
  ·exact .inr (qp.none p1.er.base q')) xr
theorem qdp(gb:Gb κ K k X Γ cx E)(f:Str)(e:Expr)(es:List Expr)(fp cp:Pos){l:Es}(ht:Γ.cs.xt.contains f=true)(hc:xnB Γ f=true)(h1:cAs m Γ (e::es)=some l)(g:Rv->Env->R Fl)(D':Env->Hp->Fl->Prop) :
  PE X (.Call (.Name f fp) (e::es) [] cp) (λσ H Q=>∃ρ G,ER κ K Gv Hv G H ρ σ/\Wx (XP κ Gv Hv G E) ((noX (iAs Γ.k l ρ)).th λx=>(cx f x.1).th λr=>.ok (r,x.2)) λy=>∀v G' H',Po κ K Gv Hv σ G H ρ G' H' y.2->RvR κ K Hv H G' H' y.2 σ y.1 v->Q v H'):=by
 rw[xnB,Bool.and_eq_true] at hc;obtain⟨n1,n2,n3⟩:=qC hc.1;have gd:=gb.gs.toGd;have hs:=YO h1;simp only[List.any_cons,Bool.or_eq_false_iff] at hs;obtain⟨fa,fd,ps,F,hm,hk,hb⟩:=gb.xfn f ht;have pa:PA X (e::es) (tAs κ K Gv Hv (iAs Γ.k l)):=PA.nox ((all m X.nox Γ gd).as Gv Hv _ _ h1);refine PE.imp (jx F gd.room (gd.glo f hc.2) hm hk hb .nil gb.ps pa n1 (qf hs.1) (qU hs.2)) λσ H Q hq=>?_;obtain⟨ρ,G,er,h⟩:=hq;refine⟨ρ,G,er,Wk.mono (Wx.nox (x:=iAs Γ.k l ρ) (Wx.th h)) λx h vs G1 H1 p1 r1=>?_⟩;show spX κ K cx f (vs++[]) H1 Q E;rw[List.append_nil];refine⟨G1,x.1,p1.er.sub,r1,?_⟩
 cases e1:cx f x.1 with
 |no=>rw[e1] at h;exact h
 |exc C l=>rw[e1] at h;exact XP.back h p1
 |ok r=>rw[e1] at h;intro v G2 H2 hs gs sub new rr;obtain⟨z1,z2⟩:=ReR.rv p1 hs gs sub new rr;exact h v G2 H2 z1 z2
end
end DE
namespace DE
open PySem PySem.Spec PyProof.Rows L2
structure AllY(κ:KC)(K:Frag)(k:Nat)(X:Cx)(Γ:Ct)(cx:Str->List Ar->R Rv)(E:XK)(z:Bool)(m w:Nat):Prop where
 y:∀Gv Hv st x,cY m Γ z st=some x->PS X st (tY κ K Gv Hv E (iY Γ.k cx w x))
 ys:∀Gv Hv l x,cYs m Γ z l=some x->PSs X l (tY κ K Gv Hv E (iYs Γ.k cx w x))
section
variable{κ:KC}{K:Frag}{Gv Hv:Hp}{k m w:Nat}{X:Cx}{Γ:Ct}{cx:Str->List Ar->R Rv}{E:XK}{z:Bool}
theorem qff(gb:Gb κ K k X Γ cx E)(f:Str)(e:Expr)(es:List Expr)(fp cp p:Pos){l:Es}(ht:Γ.cs.xt.contains f=true)(hc:xnB Γ f=true)(h1:cAs m Γ (e::es)=some l) :
  PS X (.Expr (.Call (.Name f fp) (e::es) [] cp) p) (tY κ K Gv Hv E (iY Γ.k cx w (.cal none f l))):=by
 refine PS.imp (jP (qdp (Gv:=Gv) (Hv:=Hv) gb f e es fp cp ht hc h1 (λ_ _=>.no) (λ_ _ _=>True)) (YR rfl _ _ _)) λD σ H hq=>?_;obtain⟨ρ,G,er,h⟩:=hq;refine⟨ρ,G,er,?_⟩;have h:Wx (XP κ Gv Hv G E) ((noX (iAs Γ.k l ρ)).th λx=>(cx f x.1).th λr=>qhE none r x.2) (FlP κ K Gv Hv G D):=h
 cases e1:iAs Γ.k l ρ with
 |exc c l=>rw[e1] at h;exact h
 |no=>rw[e1] at h;exact h
 |ok x=>
  rw[e1] at h;have h:Wx (XP κ Gv Hv G E) ((cx f x.1).th λr=>qhE none r x.2) (FlP κ K Gv Hv G D):=h;show Wx (XP κ Gv Hv G E) ((cx f x.1).th λr=>.ok (r,x.2)) _
  cases e2:cx f x.1 with
  |exc c l=>rw[e2] at h;exact h
  |no=>rw[e2] at h;exact h
  |ok r=>rw[e2] at h;exactλv G1 H1 p1 r1=>h σ G1 H1 p1.er p1.gs
theorem qhF(gb:Gb κ K k X Γ cx E)(y f:Str)(e:Expr)(es:List Expr)(yp fp cp p:Pos){i:Nat}{l:Es}(hi:qda Γ y=some i)(ht:Γ.cs.xt.contains f=true)(hc:xnB Γ f=true)(h1:cAs m Γ (e::es)=some l) :
  PS X (.Assign [.Name y yp] (.Call (.Name f fp) (e::es) [] cp) p) (tY κ K Gv Hv E (iY Γ.k cx w (.cal (some i) f l))):=by
 obtain⟨l1,l2,hN,hxi⟩:=Zl gb.gs.toGd hi;refine PS.imp (qaG (i:=i) hN hxi l1 (qdp (Gv:=Gv) (Hv:=Hv) gb f e es fp cp ht hc h1 (λ_ _=>.no) (λ_ _ _=>True)) (YR rfl _ _ _) l2) λD σ H hq=>?_;obtain⟨ρ,G,er,h⟩:=hq;refine⟨ρ,G,er,?_⟩;have h:Wx (XP κ Gv Hv G E) ((noX (iAs Γ.k l ρ)).th λx=>(cx f x.1).th λr=>qhE (some i) r x.2) (FlP κ K Gv Hv G D):=h
 cases e1:iAs Γ.k l ρ with
 |exc c l=>rw[e1] at h;exact h
 |no=>rw[e1] at h;exact h
 |ok x=>
  rw[e1] at h;have h:Wx (XP κ Gv Hv G E) ((cx f x.1).th λr=>qhE (some i) r x.2) (FlP κ K Gv Hv G D):=h;show Wx (XP κ Gv Hv G E) ((cx f x.1).th λr=>.ok (r,x.2)) _
  cases e2:cx f x.1 with
  |exc c l=>rw[e2] at h;exact h
  |no=>rw[e2] at h;exact h
  |ok r=>
   rw[e2] at h;have h:Wx (XP κ Gv Hv G E) (qhE (some i) r x.2) (FlP κ K Gv Hv G D):=h;intro v G1 H1 p1 r1
   cases r with
   |val d=>exact h _ G1 H1 (qag (s:=.val d) p1.er r1) p1.gs
   |tmp l=>obtain⟨a,xs,rfl,q1,q2,q3,q4,q5,q6⟩:=r1;exact h _ G1 H1 (qag (s:=.own l) p1.er ⟨a,xs,rfl,q1,q3,q4,q5,q6⟩) p1.gs
   |_=>exact h.elim
theorem qj3(gb:Gb κ K k X Γ cx E)(S:AllY κ K k X Γ cx E z m w)(c:Expr)(a b:List Stmt)(p:Pos){x:Y}(h:o2 (cT m Γ c) (o2 (cYs m Γ z a) (cYs m Γ z b) Prod.mk) (λc p=>Y.ite c p.1 p.2)=some x):PS X (.If c a b p) (tY κ K Gv Hv E (iY Γ.k cx w x)):=by
 obtain⟨c',q,h1,h2,rfl⟩:=qm h;obtain⟨a',b',h3,h4,rfl⟩:=qm h2;refine PS.imp (Z2 (PT.nox ((all m X.nox Γ gb.gs.toGd).t Gv Hv _ _ h1)) (S.ys Gv Hv _ _ h3) (S.ys Gv Hv _ _ h4)) λD σ H hq1=>?_;obtain⟨ρ,G,er,h⟩:=hq1;refine⟨ρ,G,er,Wk.mono (Wx.nox (x:=iT Γ.k c' ρ) (Wx.th h)) λt h G1 H1 p1=>?_⟩;obtain⟨d,ρ1⟩:=t
 cases d with
 |true=>rw[if_pos rfl];exact⟨ρ1,G1,p1.er,Wx.mono2 h (λc l hx=>hx.up p1.gs) λf hf=>hf.back p1.gs⟩
 |false=>rw[if_neg (λz=>by cases z)];exact⟨ρ1,G1,p1.er,Wx.mono2 h (λc l hx=>hx.up p1.gs) λf hf=>hf.back p1.gs⟩
theorem qgh(S:AllY κ K k X Γ cx E z m w):∀l x,cYs (m+1) Γ z l=some x->PSs X l (tY κ K Gv Hv E (iYs Γ.k cx w x))
 |[],_,h=>by cases h;exact PSs.imp yv λD σ H ⟨ρ,G,er,h⟩=>h σ G H er λ_ _ e=>e
 | st::l,_,h=>by
  obtain⟨s',l',h1,h2,rfl⟩:=qm h;refine PSs.imp (qI (S.y Gv Hv _ _ h1) (S.ys Gv Hv _ _ h2)) λD σ H hq1=>?_;obtain⟨ρ,G,er,h⟩:=hq1;refine⟨ρ,G,er,Wx.mono (Wx.th (x:=iY Γ.k cx w s' ρ) h) λf hf=>?_⟩
  cases f with
  |next ρ1=>exactλσ1 G1 H1 er1 g1=>⟨ρ1,G1,er1,Wx.mono2 hf (λc l hx=>hx.up g1) λf hf=>hf.back g1⟩
  |ret r=>exact hf
end
end DE
namespace DE
open PySem PySem.Spec PyProof.Rows L2
noncomputable abbrev atX(X:Cx)(pins:PP)(E1:PQ):Cx:={ X with pn:=X.pn++pins,xe:=E1 }
section
variable{κ:KC}{K:Frag}{Gv Hv:Hp}{k m w:Nat}{X:Cx}{Γ:Ct}{cx:Str->List Ar->R Rv}{E:XK}{z:Bool}{pins pins':PP}{E1:PQ}{σ:L2.St}{H:Hp}{s:Shared}
theorem qj4(ok:X.Ok):(atX X pins E1).Ok:=⟨ok.mod,ok.kind,ok.glob,ok.blt,ok.above,ok.inj,ok.has,ok.cab,ok.hd,ok.frames,ok.stk,ok.exf,ok.bs,ok.bsz,ok.noex,ok.exfs,ok.funs,ok.frf⟩
theorem qj5(ok:(atX X pins E1).Ok):X.Ok:=⟨ok.mod,ok.kind,ok.glob,ok.blt,ok.above,ok.inj,ok.has,ok.cab,ok.hd,ok.frames,ok.stk,ok.exf,ok.bs,ok.bsz,ok.noex,ok.exfs,ok.funs,ok.frf⟩
theorem qj6(I:L2.Inv X pins σ H s):L2.Inv (atX X pins E1) [] σ H s:=⟨qj4 I.ok,I.os,I.bare,I.base,I.loc,I.cell,I.free,I.freeC,λp hp=>I.pin p (by simpa using hp),I.hok,I.len⟩
theorem Zp(I:L2.Inv (atX X pins E1) pins' σ H s):L2.Inv X pins σ H s:=⟨qj5 I.ok,I.os,I.bare,I.base,I.loc,I.cell,I.free,I.freeC,λp hp=>I.pin p (List.mem_append_left _ hp),I.hok,I.len⟩
theorem qj7{D:Ends}{f:Flow}(h:SP (atX X pins E1) [] D f s):SP X pins D f s:=by
 cases f with
 |next=>obtain⟨σ',H',I,q⟩:=h;exact⟨σ',H',Zp I,q⟩
 |brk=>obtain⟨σ',H',I,q⟩:=h;exact⟨σ',H',Zp I,q⟩
 |cont=>obtain⟨σ',H',I,q⟩:=h;exact⟨σ',H',Zp I,q⟩
 |ret u=>obtain⟨v,σ',H',I,r,q⟩:=h;exact⟨v,σ',H',Zp I,r,q⟩
theorem qj8(gs:Gs κ K k X.nox Γ):Gs κ K k (atX X pins E1).nox Γ:=
 { nx:=gs.nx,hN:=gs.hN,vis:=gs.vis,loc:=gs.loc,glo:=gs.glo,cf:=gs.cf,nd:=gs.nd,calm:=gs.calm,hK:=gs.hK,room:=gs.room,fns:=gs.fns,blt:=gs.blt,gl:=gs.gl,cls:=gs.cls,flds:=gs.flds,mts:=gs.mts,mks:=gs.mks,xsubs:=gs.xsubs,xgs:=gs.xgs,subs:=gs.subs,own:=gs.own,sceq:=gs.sceq,fnk:=gs.fnk }
theorem qml(gs:Gs κ K k X.nox Γ)(gx:Gx κ K k X Γ cx E){x T C:Addr}{od:Option Addr}{G2:Hp}{hh:Heap}{l:List (Str×D)}{D:Ends}{G:Hp}{n:Nat}{Ξ:Addr->List (Str×DE.D)->Prop}(hn:σ.length=n)(Hd:Held X pins σ H s x T C od hh)
  (h1:qp Hv H) (h2:qp Gv G2) (h3:qp G2 H) (h4:∀a o,G2 a=some o->(∃o',Gv a=some o')\/Hv a=none) (h5:qmj κ G2 od l) (g:qp G G2) :
  ∀(hs:List ExceptHandler) (hs':List (Str×Nat×Nat)),cHs Γ hs=some hs'->Wx Ξ (yh Γ.cs n C l hs') (FlP κ K Gv Hv G D)->wpAny (model X.prog X.w) X.A (handleBy (.ref x) X.env hs) (SP X pins D) X.xe { s with heap:=hh }:=by
 intro hs
 induction hs with
 |nil=>intro hs' hc hw;cases hc;exact hw.elim
 |cons hd hs ih=>
  intro hs' hc hw;unfold cHs at hc
  split at hc
  ·rename_i e;cases e
  ·rename_i t tp n v vp n2 np ap hp r e;injection e with e1 e2;subst e1 e2;obtain⟨hb,hc⟩:=qi hc;obtain⟨q,r',h6,h7,rfl⟩:=qm hc;obtain⟨i,j,h8,h9,rfl⟩:=qm h6;simp only[Bool.and_eq_true,decide_eq_true_eq,beq_iff_eq] at hb;obtain⟨⟨⟨⟨⟨⟨b1,b2⟩,b3⟩,b4⟩,b5⟩,b6⟩,b7⟩:=hb;subst b1;have hg:Gl X t:=gs.glo t b5;obtain⟨n1,n2',n3⟩:=qC b4;obtain⟨m1,m2,m3⟩:=qC b6;have hw:Wx Ξ (match Γ.cs.xs C t with |some true=>R.ok (Fl.next ((List.replicate n Sl.no).set j (.val (.exc C (l.map (·.1)) (l.map (·.2)))))) |some false=>yh Γ.cs n C l r' |none=>.no) (FlP κ K Gv Hv G D):=hw
   cases ex:Γ.cs.xs C t with
   |none=>rw[ex] at hw;exact hw.elim
   |some b=>
    obtain⟨Dc,hm,hq⟩:=gx.xhs C t b b3 ex
    cases b with
    |false=>rw[ex] at hw;exact Z9 Hd gx.ex hg hm hq (ih r' h7 hw) n1
    |true=>
     rw[ex] at hw;obtain⟨i1,i2,hN,hxi⟩:=Zl gs.toGd h8;obtain⟨j1,j2,_,hxj⟩:=Zl gs.toGd h9;have hN:X.N.Nodup:=hN;have hxi:X.N[i]?=some n2:=hxi;have hxj:X.N[j]?=some v:=hxj;have hl:X.env.scope.names.lookup n2=some .local:=by rw[show X.env.scope=Γ.sc from gs.sceq];exact b7
     have hij:i≠j:=λz=>by rw[z,hxj] at hxi;exact b2 (Option.some.inj hxi)
     have hlen:X.N.length=n:=by rw[<-hn];exact Hd.inv.len.symm
     have hi:i < n:=by rw[<-hlen];exact(List.getElem?_eq_some_iff.mp hxi).1
     have hj:j < n:=by rw[<-hlen];exact(List.getElem?_eq_some_iff.mp hxj).1
     refine qbN Hd gx.ex hg hm hq hN hxi hl (zC (qaG (X:=X.mark (.ref x)) (i:=j) hN hxj j1 (qaF (X:=X.mark (.ref x)) (i:=i) hxi (.inl hl) m1 m2) (YR rfl _ _ _) j2)) ⟨.ref x,by rw[List.getElem?_set_self (by rw[hn];exact hi)],?_⟩ n1;have hHx:H x=none:=Hd.mine.hx;have gx2:G2 x=none:=qp.none h3 hHx;have gs2:qp G2 (upd G2 x (qek x C od)):=qp.upd gx2;refine hw _ (upd G2 x (qek x C od)) _ ⟨by simp[hn],λb o q=>?_,λb o q=>?_,λb o q=>gs2 b o (h2 b o q),λb o q=>?_,λi' sl q=>?_,λi1' j1' a l' m' q1=>?_⟩ λb o q=>gs2 b o (g b o q)
     ·by_cases hb:b=x
      ·subst hb;rw[qg] at q ⊢;exact q
      ·rw[qe hb] at q ⊢;exact h3 b o q
     ·rw[qe (λz=>by rw[z] at q;have:=h1 _ _ q;rw[hHx] at this;cases this)];exact h1 b o q
     ·by_cases hb:b=x
      ·subst hb;exact .inr (qp.none h1 hHx)
      ·rw[qe hb] at q;exact h4 b o q
     ·by_cases he:j=i'
      ·subst he;rw[List.getElem?_set_self (by simpa using hj)] at q;cases q;refine⟨.ref x,?_,?_⟩
       ·rw[List.getElem?_set_ne hij,List.getElem?_set_self (by simp[hn];exact hj)]
       ·simp only[Rep];rcases h5 with ⟨z1,z2⟩ | ⟨dd,xs,z1,z2,z3⟩
        ·exact⟨x,od,[],rfl,qg,.inl ⟨z1,by rw[z2];rfl⟩,by rw[z2];exact .nil⟩
        ·exact⟨x,od,xs,rfl,qg,.inr ⟨dd,z1,gs2 _ _ z2⟩,z3.same gs2⟩
      ·rw[List.getElem?_set_ne he] at q
       have:=List.eq_of_mem_replicate (List.mem_of_getElem? q)
       subst this;trivial
     ·exfalso
      by_cases he:j=i1'
      ·subst he;rw[List.getElem?_set_self (by simpa using hj)] at q1;cases q1
      ·rw[List.getElem?_set_ne he] at q1
       have:=List.eq_of_mem_replicate (List.mem_of_getElem? q1)
       cases this
  ·cases hc
theorem qhG(gb:Gb κ K k X Γ cx E)(gx:Gx κ K k X Γ cx E)(S:∀X' E',Gb κ K k X' Γ cx E'->AllY κ K k X' Γ cx E' true m w)(body:List Stmt)(h0:ExceptHandler)(hs:List ExceptHandler)(p:Pos){y:Y}(h:o2 (cYs m Γ true body) (cHs Γ (h0::hs)) Y.try_=some y) :
  PS X (.Try body (h0::hs) [] [] p) (tY κ K Gv Hv E (iY Γ.k cx w y)):=by
 obtain⟨b,hs',h1,h2,rfl⟩:=qm h;intro pins s σ H D I hq;obtain⟨ρ,G,er,hw⟩:=hq;have hw:Wx (XP κ Gv Hv G E) (match iYs Γ.k cx w b ρ with |.exc C l=>yh Γ.cs ρ.length C l hs' |r=>r) (FlP κ K Gv Hv G D):=hw
 let E':XK:=λcv od H2=>∃C l G2,cv=.ref C/\qp Hv H2/\qp Gv G2/\qp G G2/\qp G2 H2/\(∀a o,G2 a=some o->(∃o',Gv a=some o')\/Hv a=none)/\qmj κ G2 od l/\Wx (XP κ Gv Hv G E) (yh Γ.cs ρ.length C l hs') (FlP κ K Gv Hv G D)
 let E1:Value->Shared->Prop:=λe s'=>∃pins' σ' H1 s1,L2.Inv (atX X pins (λ_ _=>True)) pins' σ' H1 s1/\CX1 X.prog X.w X.stack H1 s1 E' e s'
 have gb':Gb κ K k (atX X pins E1) Γ cx E':=⟨qj8 gb.gs,λpins' σ' H1 s1 e s' I' c=>⟨pins',σ',H1,s1,⟨⟨I'.ok.mod,I'.ok.kind,I'.ok.glob,I'.ok.blt,I'.ok.above,I'.ok.inj,I'.ok.has,I'.ok.cab,I'.ok.hd,I'.ok.frames,I'.ok.stk,I'.ok.exf,I'.ok.bs,I'.ok.bsz,I'.ok.noex,I'.ok.exfs,I'.ok.funs,I'.ok.frf⟩,I'.os,I'.bare,I'.base,I'.loc,I'.cell,I'.free,I'.freeC,I'.pin,I'.hok,I'.len⟩,c⟩,gb.xfn⟩
 have B:=(S _ _ gb').ys Gv Hv body b h1 [] s σ H D (qj6 I) ⟨ρ,G,er,by
  cases e1:iYs Γ.k cx w b ρ with
  |ok f=>rw[e1] at hw;exact hw
  |no=>rw[e1] at hw;exact hw
  |exc C l=>rw[e1] at hw;exactλod G' H' q1 q2 q3 q4 q5 q6=>⟨C,l,G',rfl,q1,q2,q3,q4,q5,q6,hw⟩⟩
 refine wpAny_Try_except (wpAny_mono B (λf s1 q=>?_) λe s1 hq=>?_)
 ·have q:=qj7 q
  cases f with
  |next=>exact wpAny_execs_nil q
  |_=>exact q
 ·obtain⟨pins',σ',H1,s2,I2,c⟩:=hq
  exact qnX (D:=D) gx.stk gx.ex (Zp I2) c λx T C od H2 hh q Hd=>by obtain⟨C',l,G2,ec,q1,q2,q3,q4,q5,q6,q7⟩:=q;cases ec;exact qml gb.gs gx (by rw[er.len,I.len];exact Hd.inv.len) Hd q1 q2 q4 q5 q6 q3 (h0::hs) hs' h2 q7
end
end DE
namespace DE
open PySem PySem.Spec PyProof.Rows L2
section
variable{κ:KC}{K:Frag}{Gv Hv:Hp}{k m w:Nat}{X:Cx}{Γ:Ct}{cx:Str->List Ar->R Rv}{E:XK}{z:Bool}
theorem qm2(gb:Gb κ K k X Γ cx E)(gx:z=false->Gx κ K k X Γ cx E)(A:AllY κ K k X Γ cx E z m w)(S:∀X' E',Gb κ K k X' Γ cx E'->AllY κ K k X' Γ cx E' true m w)(st:Stmt)(x:Y)(h:cY (m+1) Γ z st=some x):PS X st (tY κ K Gv Hv E (iY Γ.k cx w x)):=by
 have gen:(cS (m+1) Γ st).map Y.s=some x->PS X st (tY κ K Gv Hv E (iY Γ.k cx w x)):=λh=>by obtain⟨y,h1,rfl⟩:=ql h;exact qmk gb st y h1
 unfold cY at h
 split at h
 ·rename_i n np e es cp p
  have hz:z=false:=by
   obtain⟨hc,_⟩:=qi h;rw[Bool.and_eq_true] at hc
   simpa using hc.1
  exact qfe gb (gx hz) n e es np cp p h
 ·rename_i f fp e es cp p
  by_cases ht:Γ.cs.xt.contains f=true
  ·rw[if_pos ht] at h;obtain⟨hc,h⟩:=qi h;obtain⟨l,h1,rfl⟩:=ql h;exact qff gb f e es fp cp p ht hc h1
  ·rw[if_neg ht] at h;exact gen h
 ·rename_i y yp f fp e es cp p
  by_cases ht:Γ.cs.xt.contains f=true
  ·rw[if_pos ht] at h;obtain⟨hc,h⟩:=qi h;obtain⟨i,l,h1,h2,rfl⟩:=qm h;exact qhF gb y f e es yp fp cp p h1 ht hc h2
  ·rw[if_neg ht] at h;exact gen h
 ·rename_i c a b p;exact qj3 gb A c a b p h
 ·rename_i tg it body p
  split at h
  ·exact gen h
  cases h
 ·rename_i body h0 hs p;obtain⟨hc,h⟩:=qi h;exact qhG gb (gx (by simpa using hc)) S body h0 hs p h
 ·exact gen h
theorem qhH:∀m X E,Gb κ K k X Γ cx E->AllY κ K k X Γ cx E true m w
 |0,_,_,_=>⟨(λ_ _ _ _ h=>nomatch h),(λ_ _ _ _ h=>nomatch h)⟩
 | m+1,X,E,gb=>
  have A:=qhH m X E gb
  ⟨λGv Hv=>qm2 gb (λz=>by cases z) A λX' E' g=>qhH m X' E' g,λGv Hv=>qgh A⟩
theorem qm3(gb:Gb κ K k X Γ cx E)(gx:Gx κ K k X Γ cx E):∀m,AllY κ K k X Γ cx E false m w
 |0=>⟨(λ_ _ _ _ h=>nomatch h),(λ_ _ _ _ h=>nomatch h)⟩
 | m+1=>
  have A:=qm3 gb gx m
  ⟨λGv Hv=>qm2 gb (λ_=>gx) A λX' E' g=>qhH m X' E' g,λGv Hv=>qgh A⟩
end
end DE
namespace DE
open PySem PySem.Spec PyProof.Rows L2
def yC(st:Stmt):List Str:=(zd st).args.map (·.arg)
noncomputable def fnN(st:Stmt):List Str:=yC st++(qj st).names.filterMap λx=>if ((x.2 == .local||x.2 == .cell)&&!(yC st).contains x.1)=true then some x.1 else none
noncomputable def qR(st:Stmt):Bool:=(qj st).kind == .function&&!(qj st).isCoroutine&&!(qj st).isGenerator&&decide (fnN st).Nodup&&(yC st).all (qjq (qj st))&&(qj st).names.all λy=>y.2 != .free
def toSl:Ar->Sl
 |.val d=>.val d
 |.bor l=>.bor l
 |.scr l=>.scr l
def jz(N:List Str)(args:List Ar):Env:=args.map toSl++List.replicate (N.length - args.length) .no
structure Pg where
 defs:List (Str×Stmt)
 gl:Str->Option D
 m:Nat
 w:Nat
 meths:List (Str×Stmt):=[]
 cs:Cs:=Cs.non
 nw:Nat->Str->List Ar->R Rv:=λ_ _ _=>.no
 xl:List Str:=[]
 xx:Xs:={}
noncomputable def Pg.ct(pg:Pg)(k:Nat)(cl:Str->List Ar->R Rv)(st:Stmt):Ct:=⟨fnN st,qj st,pg.defs.map (·.1),pg.gl,cl,pg.cs,pg.nw k⟩
def flR:Fl->R Rv
 |.next _=>.ok (.val .non)
 |.ret r=>.ok r
noncomputable def evF(pg:Pg)(k:Nat)(cl:Str->List Ar->R Rv)(st:Stmt)(args:List Ar):R Rv:=
 if (qR st&&args.length == (yC st).length)=true then (match cSs pg.m (pg.ct k cl st) (qt st) with
  |some b=>(iSs (pg.ct k cl st).k pg.w b (jz (fnN st) args)).th flR
  |none=>.no) else .no
noncomputable def evX(pg:Pg)(k:Nat)(cl cx:Str->List Ar->R Rv)(st:Stmt)(args:List Ar):R Rv:=
 if (qR st&&args.length == (yC st).length&&decide (2<=k))=true then (match cYs pg.m (pg.ct k cl st) false (qt st) with
  |some b=>(iYs (pg.ct k cl st).k cx pg.w b (jz (fnN st) args)).th flR
  |none=>.no) else .no
noncomputable def clB(pg:Pg):Nat->Bool->Str->List Ar->R Rv
 |0,_,_,_=>.no
 | k+1,x,f,args=>match (pg.defs++pg.meths).lookup f with
  |some st=>if x=true then evX pg k (clB pg k false) (clB pg k true) st args else if pg.xl.contains f=true then noX (evX pg k (clB pg k false) (clB pg k true) st args) else evF pg k (clB pg k false) st args
  |none=>.no
def clK(pg:Pg)(k:Nat)(f:Str)(args:List Ar):R Rv:=clB pg k false f args
def clX(pg:Pg)(k:Nat)(f:Str)(args:List Ar):R Rv:=clB pg k true f args
noncomputable def FnF(K:Frag)(mg:PR)(f:Str)(st:Stmt):Prop:=∃fa fd,Fun K f f st fa fd/\mg f=some (.ref fa)/\qK K fd (yC st) []
inductive AllF(K:Frag)(mg:PR):List (Str×Stmt)->Prop where
 | nil:AllF K mg []
 | cons {f:Str} {st:Stmt} {l:List (Str×Stmt)} (h:FnF K mg f st) (t:AllF K mg l):AllF K mg ((f,st)::l)
theorem AllF.mem{K:Frag}{mg:PR}:∀{l:List (Str×Stmt)} {f:Str} {st:Stmt},AllF K mg l->(f,st)∈l->FnF K mg f st
 |_,_,_,.nil,h=>by cases h
 |_,_,_,.cons h t,m=>by
  cases m with
  |head=>exact h
  |tail _ m=>exact t.mem m
noncomputable def qa1(P:Program)(wd:World)(κ:KC)(K:Frag)(mg:PR)(base:Heap)(pg:Pg)(k:Nat):Prop:=
 (∀(f:Str) (st:Stmt),pg.defs.lookup f=some st->∃fa fd,FnOk P wd K mg base CX0 k fa fd (yC st) (spF κ K (clK pg k) f)/\mg f=some (.ref fa)/\PySem.W.keepIn K (.ref fa)=true/\qK K fd (yC st) [])/\
 (∀(f:Str) (st:Stmt),pg.meths.lookup f=some st->pg.defs.lookup f=none->∀nm fa fd,Fun K nm f st fa fd->FnOk P wd K mg base CX0 k fa fd (yC st) (spF κ K (clK pg k) f))/\
 ∀(f:Str) (st:Stmt),pg.defs.lookup f=some st->∃fa fd,FnOk P wd K mg base (CX1 P wd) k fa fd (yC st) (spX κ K (clX pg k) f)/\mg f=some (.ref fa)/\PySem.W.keepIn K (.ref fa)=true/\qK K fd (yC st) []
structure PgOk(κ:KC)(K:Frag)(mg:PR)(pg:Pg):Prop where
 fn:AllF K mg pg.defs
 blt:∀f∈qdb,mg f=none
 gl:∀x d,pg.gl x=some d->∃v u,mg x=some u/\qH v u/\∀G,Rep κ G d v
 cls:∀c C,κ c=some C->Cls K C
 flds:∀c x C,pg.cs.fld c x=true->κ c=some C->zD K C x
 mts:∀c x f,pg.cs.mt c x=some f->∃C fa fd st nm,κ c=some C/\Meth K C x fa/\pg.meths.lookup f=some st/\pg.defs.lookup f=none/\Fun K nm f st fa fd/\qK K fd (yC st) []
 mks:∀P wd base k,(∀j,j < k->qa1 P wd κ K mg base pg j)->∀f,pg.cs.tab.contains f=true->(∀args,pg.nw k f args=.no)\/∃C fa fd ps sp,Mk K C fa/\FnOk P wd K mg base CX0 (k - 1) fa fd ps sp/\mg f=some (.ref C)/\qK K fd ps []/\0 < k/\
  ∀vs H Q,spF κ K (pg.nw k) f vs H Q E0->∀x dx,H x=none->H dx=none->dx≠x->sp (.ref x::vs) (upd (upd H dx (.own x)) x (.ins C dx [])) (λv H2=>v=.non/\Q (.ref x) H2) E0
 xsubs:∀C t b,pg.cs.xs C t=some b->ExcIs K C/\((∃T,mg t=some (.ref T)/\PySem.W.kitOne K (.ref C) (.ref T)=some b)\/(mg t=none/\t = "ValueError"/\PySem.W.kitOne K (.ref C) (.type "ValueError")=some b)):=by exactλ_ _ _ h=>by cases h
 xgs:∀C x,pg.cs.xg C x=true->XcG K C x:=by exactλ_ _ h=>by cases h
 xn0:∀n,pg.cs.xn n=some []->mg n=some (.ref (pg.cs.xa n))/\PySem.W.excIn K (pg.cs.xa n) bV "ValueError.__new__" = true:=by exactλ_ h=>by cases h
 xn1:∀n ns,pg.cs.xn n=some ns->ns≠[]->∀P wd base j,∃fI fd,mg n=some (.ref (pg.cs.xa n))/\XcC K (pg.cs.xa n) fI/\FnOk P wd K mg base CX0 (j+1) fI fd ("self" :: ns) (qly (pg.cs.xa n) ns)/\qK K fd ("self" :: ns) []:=by exactλ_ _ h=>by cases h
 xhs:∀C (t:Str) b,t≠("ValueError" : Str)->pg.cs.xs C t=some b->∃D,mg t=some (.ref D)/\PySem.W.exmOne K (.ref C) (.ref D)=some b:=by exactλ_ _ _ _ h=>by cases h
 xtd:∀f,pg.cs.xt.contains f=true->(pg.defs.map (·.1)).contains f=true:=by exactλ_ h=>by cases h
 subs:∀c t b,pg.cs.sub c t=some b->∃C T,κ c=some C/\(∀H p dx fs,H p=some (HO.ins C dx fs)->TyOf K H (.ref p) (.ref C))/\mg t=some (.ref T)/\PySem.W.kitOne K (.ref C) (.ref T)=some b
section
variable{P:Program}{wd:World}{κ:KC}{K:Frag}{mg:PR}{base:Heap}{pg:Pg}
theorem y9.len{G H:Hp}:∀{args:List Ar} {vs:List V},y9 κ K G H args vs->args.length=vs.length
 |[],vs,h=>by simp only[y9] at h;subst h;rfl
 | a::l,vs,h=>by simp only[y9] at h;obtain⟨v,r,rfl,_,h2⟩:=h;simp[y9.len h2]
theorem y9.at{G H:Hp}:∀{args:List Ar} {vs:List V} {i:Nat} {a:Ar},y9 κ K G H args vs->args[i]?=some a->∃v,vs[i]?=some v/\ArR κ K G H a v
 |[],vs,i,a,h,e=>by simp at e
 | b::l,vs,0,a,h,e=>by simp only[y9] at h;obtain⟨v,r,rfl,h1,h2⟩:=h;simp at e;subst e;exact⟨v,rfl,h1⟩
 | b::l,vs,i+1,a,h,e=>by simp only[y9] at h;obtain⟨v,r,rfl,h1,h2⟩:=h;obtain⟨v',e1,e2⟩:=y9.at (i:=i) h2 (by simpa using e);exact⟨v',by simpa using e1,e2⟩
theorem qa2{G H:Hp}{args:List Ar}{vs:List V}{N:List Str}(sub:qp G H)(h:y9 κ K G H args vs):ER κ K G H G H (jz N args) (L2.Jv N vs):=by
 have hl:=h.len;refine⟨by simp[jz,L2.Jv,hl],sub,λ_ _ e=>e,λ_ _ e=>e,λa o e=>.inl ⟨o,e⟩,λi s e=>?_,λi j a l n e1=>?_⟩
 ·unfold jz at e;unfold L2.Jv
  by_cases hi:i < args.length
  ·rw[List.getElem?_append_left (by simpa using hi),List.getElem?_map] at e;obtain⟨b,e1,rfl⟩:=Option.map_eq_some_iff.mp e;obtain⟨v,e2,e3⟩:=h.at e1;rw[List.getElem?_append_left (by rw[List.length_map,<-hl];exact hi),List.getElem?_map,e2]
   cases b with
   |val d=>exact⟨v,rfl,e3⟩
   |bor l=>obtain⟨a,xs,rfl,h1,h2⟩:=e3;exact⟨a,xs,rfl,h1,h2⟩
   |scr l=>obtain⟨a,xs,rfl,h1,h2⟩:=e3;exact⟨a,xs,rfl,h1,h2⟩
  ·rw[List.getElem?_append_right (by simpa using hi)] at e
   have:s=.no:=by
    have:=List.mem_of_getElem? e
    exact List.eq_of_mem_replicate this
   subst this;trivial
 ·exfalso;unfold jz at e1
  by_cases hi:i < args.length
  ·rw[List.getElem?_append_left (by simpa using hi),List.getElem?_map] at e1;obtain⟨b,_,z⟩:=Option.map_eq_some_iff.mp e1
   cases b<;>cases z
  ·rw[List.getElem?_append_right (by simpa using hi)] at e1
   have:=List.eq_of_mem_replicate (List.mem_of_getElem? e1)
   cases this
theorem yb{st:Stmt}(h:qR st=true):FnScope (fnN st) (yC st) (qj st):=by unfold qR at h;simp only[Bool.and_eq_true,Bool.not_eq_true',List.all_eq_true] at h;obtain⟨⟨⟨⟨⟨h1,h2⟩,h3⟩,h4⟩,h5⟩,h6⟩:=h;refine⟨by simpa using h1,h2,h3,of_decide_eq_true h4,by simp[fnN],λx hx=>qdc (h5 x hx),λy hy=>by simpa using h6 y hy⟩
theorem jA{k:Nat}{x:Bool}{f:Str}{st:Stmt}{args:List Ar}(h:(pg.defs++pg.meths).lookup f=some st):clB pg (k+1) x f args=if x=true then evX pg k (clK pg k) (clX pg k) st args else if pg.xl.contains f=true then noX (evX pg k (clK pg k) (clX pg k) st args) else evF pg k (clK pg k) st args:=by show(match (pg.defs++pg.meths).lookup f with |some st=>_ |none=>R.no)=_;rw[h];rfl
theorem JF{k:Nat}{f:Str}{st:Stmt}{args:List Ar}(h:(pg.defs++pg.meths).lookup f=some st)(hx:pg.xl.contains f=false):clK pg (k+1) f args=evF pg k (clK pg k) st args:=by unfold clK;rw[jA h,if_neg (λz=>by cases z),if_neg (by rw[hx];exactλz=>by cases z)];rfl
theorem qa3{f:Str}{st:Stmt}:∀{l m:List (Str×Stmt)},l.lookup f=some st->(l++m).lookup f=some st
 |[],m,h=>by cases h
 | (g,s)::l,m,h=>by
  rw[List.lookup_cons] at h;rw[List.cons_append,List.lookup_cons]
  cases e:(f == g) with
  |true=>rw[e] at h;exact h
  |false=>rw[e] at h;exact qa3 h
theorem qgi{f:Str}:∀{l m:List (Str×Stmt)},l.lookup f=none->(l++m).lookup f=m.lookup f
 |[],m,h=>rfl
 | (g,s)::l,m,h=>by
  rw[List.lookup_cons] at h;rw[List.cons_append,List.lookup_cons]
  cases e:(f == g) with
  |true=>rw[e] at h;cases h
  |false=>rw[e] at h;exact qgi h
theorem JW{f:Str}:∀{l:List (Str×Stmt)},(l.map (·.1)).contains f=true->∃st,l.lookup f=some st
 |[],h=>by simp at h
 | (g,st)::l,h=>by
  by_cases e:f=g
  ·subst e;exact⟨st,by simp[List.lookup_cons]⟩
  ·have hb:(f == g)=false:=by simpa using e
   obtain⟨s,hs⟩:=JW (l:=l) (f:=f) (by simp only[List.map_cons,List.contains_cons,hb,Bool.false_or] at h;exact h)
   exact⟨s,by rw[List.lookup_cons,hb];exact hs⟩
theorem qj9(ok:PgOk κ K mg pg){k:Nat}(ih:∀j,j<=k->qa1 P wd κ K mg base pg j){f:Str}{st:Stmt}{fa:Addr}{CX:CXT}{cdv:Value}{A:Around}{outer:List PySem.Env}{s:Shared}{H:Hp}{E:XK}(S:FnScope (fnN st) (yC st) (qj st))(hr:Room k (A.deeper (envOfC f (qj st) s.heap.objs.size fa cdv))) :
  Gs κ K k (qaL CX P wd K mg base (fnN st) f (qj st) fa cdv A outer s H E).nox (pg.ct k (clK pg k) st):=
 {hN:=rfl
  vis:=λx h=>qf7 h
  loc:=λx h=>⟨qdc h,.inl rfl⟩
  glo:=λx h=>by have h:((qj st).names.lookup x == some NameKind.globalImplicit)=true:=h;exact(by simpa using h:(qj st).names.lookup x=some .globalImplicit)
  cf:=λx h=>h
  nd:=S.nd
  calm:=rfl
  hK:=rfl
  room:=hr
  fns:=λg hg=>by obtain⟨st',hl⟩:=JW (l:=pg.defs) hg;obtain⟨ga,gd,G1,G2,G3,G4⟩:=(ih k (Nat.le_refl k)).1 g st' hl;exact⟨ga,gd,yC st',G1,G2,G3,G4⟩
  blt:=ok.blt
  gl:=ok.gl
  cls:=ok.cls
  flds:=ok.flds
  mts:=λc x f h=>by obtain⟨C,fa,fd,st',nm,m1,m2,m3,m4,m5,m6⟩:=ok.mts c x f h;exact⟨C,fa,fd,_,m1,m2,(ih k (Nat.le_refl k)).2.1 f st' m3 m4 nm fa fd m5,m6⟩
  mks:=ok.mks P wd base k λj hj=>ih j (Nat.le_of_lt hj)
  xsubs:=ok.xsubs
  xgs:=ok.xgs
  subs:=ok.subs
  own:=PassesOwn.never
  nx:=λ_ _ h=>h
  sceq:=rfl
  fnk:=S.kind }
theorem qa4{k:Nat}{st:Stmt}{args:List Ar}{cl cx:Str->List Ar->R Rv}{Ξ:Addr->List (Str×D)->Prop}{g:Rv->Prop}(z:Wx Ξ (evX pg k cl cx st args) g):(qR st=true/\args.length=(yC st).length/\2<=k)/\
  Wx Ξ (match cYs pg.m (pg.ct k cl st) false (qt st) with |some b=>(iYs (pg.ct k cl st).k cx pg.w b (jz (fnN st) args)).th flR |none=>.no) g:=by
 unfold evX at z
 by_cases hc:(qR st&&args.length == (yC st).length&&decide (2<=k))=true
 ·rw[if_pos hc] at z;simp only[Bool.and_eq_true,decide_eq_true_eq,beq_iff_eq] at hc;exact⟨⟨hc.1.1,hc.1.2,hc.2⟩,z⟩
 ·rw[if_neg hc] at z;exact z.elim
theorem qa5(ok:PgOk κ K mg pg){k:Nat}(ih:∀j,j<=k->qa1 P wd κ K mg base pg j){nm f:Str}{st:Stmt}{fa:Addr}{fd:FuncData}(F:Fun K nm f st fa fd)(h:(pg.defs++pg.meths).lookup f=some st):FnOk P wd K mg base (CX1 P wd) (k+1) fa fd (yC st) (spX κ K (clX pg (k+1)) f):=by
 have un:∀{args:List Ar},clX pg (k+1) f args=evX pg k (clK pg k) (clX pg k) st args:=λ{args}=>by unfold clX;rw[jA h,if_pos rfl];rfl
 by_cases hc:qR st=true/\2<=k
 case neg=>
  have no:∀{vs:List V} {H:Hp} {Q:VK} {E:XK},spX κ K (clX pg (k+1)) f vs H Q E->False:=λ{vs H Q E} ⟨G,args,_,_,z⟩=>by rw[un] at z;exact hc ⟨(qa4 z).1.1,(qa4 z).1.2.2⟩
  exact⟨λvs H Q E z=>(no z).elim,λA outer s H args us vs Q E _ _ _ _ z=>(no z).elim⟩
 obtain⟨hc,h2⟩:=hc;refine F.okx (yb hc) (λvs H Q E z=>?_) (λcdv A outer s H vs Q E hr z=>?_)
 ·obtain⟨G,args,_,ha,z⟩:=z;rw[un] at z;rw[<-ha.len];exact(qa4 z).1.2.1
 ·obtain⟨G,args,sub,ha,z⟩:=z;rw[un] at z;have z:=(qa4 z).2;have S:=yb hc
  have gb:Gb κ K k (qaL (CX1 P wd) P wd K mg base (fnN st) f (qj st) fa cdv A outer s H E) (pg.ct k (clK pg k) st) (clX pg k) E:=
   ⟨qj9 ok ih S hr,qha λ_ _ _ q=>q,λg hg=>by obtain⟨st',hl⟩:=JW (l:=pg.defs) (ok.xtd g hg);obtain⟨ga,gd,G1,G2,G3,G4⟩:=(ih k (Nat.le_refl k)).2.2 g st' hl;exact⟨ga,gd,yC st',G1,G2,G3,G4⟩⟩
  have gx:Gx κ K k (qaL (CX1 P wd) P wd K mg base (fnN st) f (qj st) fa cdv A outer s H E) (pg.ct k (clK pg k) st) (clX pg k) E:=
   {ex:=rfl
    stk:=⟨rfl,rfl⟩
    rs:=qc6
    own:=PassesOwn.leaving
    xn0:=ok.xn0
    xn1:=λn ns e1 e2=>by obtain⟨j,rfl⟩:∃j,k=j+2:=⟨k - 2,by omega⟩;obtain⟨fI,fd,q1,q2,q3,q4⟩:=ok.xn1 n ns e1 e2 P wd base j;exact⟨fI,fd,j+1,rfl,q1,q2,q3,q4⟩
    xhs:=ok.xhs }
  cases hb:cYs pg.m (pg.ct k (clK pg k) st) false (qt st) with
  |none=>rw[hb] at z;exact z.elim
  |some b=>
   rw[hb] at z;refine⟨_,(qm3 gb gx (w:=pg.w) pg.m).ys G H (qt st) b hb,jz (fnN st) args,G,qa2 sub ha,Wx.mono (Wx.th z) λfl hf=>?_⟩
   cases fl with
   |next ρ=>exactλσ' G' H' er g'=>hf .non G' H' er.base er.g0 er.sub er.fresh (by simp only[ReR,Rep])
   |ret r=>exact hf
theorem qfg{k:Nat}{fa:Addr}{fd:FuncData}{ps:List Str}{sp sp':Sp}(F:FnOk P wd K mg base (CX1 P wd) k fa fd ps sp)(h:∀vs H Q E,sp' vs H Q E->sp vs H Q E0):FnOk P wd K mg base CX0 k fa fd ps sp':=
 ⟨λvs H Q E q=>F.len vs H Q E0 (h vs H Q E q),λA outer s H args us vs Q E hr he hb hv hs=>codeAny_mono (F.run A outer s H args us vs Q E0 hr he hb hv (h vs H Q E hs)) λr s' q=>by
  cases r with
  |error e=>obtain⟨x,T,C,od,H',_,_,_,_,_,_,_,_,_,_,z⟩:=(show CX1 P wd outer H s E0 e s' from q);exact z.elim
  |ok fl=>cases fl<;>exact q⟩
theorem qah(ok:PgOk κ K mg pg){k:Nat}(ih:∀j,j<=k->qa1 P wd κ K mg base pg j){nm f:Str}{st:Stmt}{fa:Addr}{fd:FuncData}(F:Fun K nm f st fa fd)(h:(pg.defs++pg.meths).lookup f=some st):FnOk P wd K mg base CX0 (k+1) fa fd (yC st) (spF κ K (clK pg (k+1)) f):=by
 cases hx:pg.xl.contains f with
 |true=>
  refine qfg (qa5 ok ih F h) λvs H Q E z=>?_;obtain⟨G,args,sub,ha,z⟩:=z;refine⟨G,args,sub,ha,?_⟩
  have e1:clK pg (k+1) f args=noX (clX pg (k+1) f args):=by unfold clK clX;rw[jA h,jA h,if_neg (λz=>by cases z),if_pos hx,if_pos rfl]
  rw[e1] at z
  cases e2:clX pg (k+1) f args with
  |ok r=>rw[e2] at z;exact z
  |exc c l=>rw[e2] at z;exact z.elim
  |no=>rw[e2] at z;exact z.elim
 |false=>
  by_cases hc:qR st=true
  case neg=>
   have no:∀{vs:List V} {H:Hp} {Q:VK} {E:XK},spF κ K (clK pg (k+1)) f vs H Q E->False:=λ{vs H Q E} ⟨G,args,_,_,z⟩=>by
    rw[JF h hx] at z
    have:=(Wk.iff (show Wk (if (qR st&&args.length == (yC st).length)=true then _ else R.no) _ from z)).1
    rw[Bool.and_eq_true] at this;exact hc this.1
   exact⟨λvs H Q E z=>(no z).elim,λA outer s H args us vs Q E _ _ _ _ z=>(no z).elim⟩
  refine F.ok (yb hc) (λvs H Q E z=>?_) (λcdv A outer s H vs Q E hr z=>?_)
  ·obtain⟨G,args,_,ha,z⟩:=z;rw[JF h hx] at z
   have:=(Wk.iff (show Wk (if (qR st&&args.length == (yC st).length)=true then _ else R.no) _ from z)).1
   rw[Bool.and_eq_true] at this;rw[<-ha.len]
   simpa using this.2
  ·obtain⟨G,args,sub,ha,z⟩:=z;rw[JF h hx] at z;have z:=(Wk.iff (show Wk (if (qR st&&args.length == (yC st).length)=true then _ else R.no) _ from z)).2;have gs:Gs κ K k (qaL CX0 P wd K mg base (fnN st) f (qj st) fa cdv A outer s H E).nox (pg.ct k (clK pg k) st):=qj9 ok ih (yb hc) hr
   cases hb:cSs pg.m (pg.ct k (clK pg k) st) (qt st) with
   |none=>rw[hb] at z;exact z.elim
   |some b=>
   rw[hb] at z;refine⟨_,(qmi gs (w:=pg.w) pg.m).ss G H (qt st) b hb,jz (fnN st) args,G,qa2 sub ha,Wk.mono (Wk.th z) λfl hf=>?_⟩
   cases fl with
   |next ρ=>exactλσ' G' H' er g'=>hf .non G' H' er.base er.g0 er.sub er.fresh (by simp only[ReR,Rep])
   |ret r=>exact hf
theorem qka(ok:PgOk κ K mg pg):∀k j:Nat,j<=k->qa1 P wd κ K mg base pg j:=by
 have zero:qa1 P wd κ K mg base pg 0:=by
  refine⟨λf st h=>?_,λf st h _ nm fa fd F=>⟨λvs H Q E ⟨G,args,_,_,z⟩=>False.elim z,λA outer s H args us vs Q E _ _ _ _ ⟨G,args',_,_,z⟩=>False.elim z⟩,λf st h=>?_⟩
  ·obtain⟨fa,fd,F,hm,hb⟩:=ok.fn.mem (PySem.mem_of_lookup h);exact⟨fa,fd,⟨λvs H Q E ⟨G,args,_,_,z⟩=>False.elim z,λA outer s H args us vs Q E _ _ _ _ ⟨G,args',_,_,z⟩=>False.elim z⟩,hm,F.kp,hb⟩
  ·obtain⟨fa,fd,F,hm,hb⟩:=ok.fn.mem (PySem.mem_of_lookup h);exact⟨fa,fd,⟨λvs H Q E ⟨G,args,_,_,z⟩=>False.elim z,λA outer s H args us vs Q E _ _ _ _ ⟨G,args',_,_,z⟩=>False.elim z⟩,hm,F.kp,hb⟩
 intro k
 induction k with
 |zero=>intro j hj;rw[Nat.le_zero.mp hj];exact zero
 |succ k ih=>
  intro j hj;rcases Nat.lt_or_ge j (k+1) with h | h
  ·exact ih j (Nat.le_of_lt_succ h)
  ·obtain rfl:j=k+1:=Nat.le_antisymm hj h;refine⟨λf st h=>?_,λf st h h0 nm fa fd F=>?_,λf st h=>?_⟩
   ·obtain⟨fa,fd,F,hm,hb⟩:=ok.fn.mem (PySem.mem_of_lookup h);exact⟨fa,fd,qah ok ih F (qa3 h),hm,F.kp,hb⟩
   ·exact qah ok ih F ((qgi h0).trans h)
   ·obtain⟨fa,fd,F,hm,hb⟩:=ok.fn.mem (PySem.mem_of_lookup h);exact⟨fa,fd,qa5 ok ih F (qa3 h),hm,F.kp,hb⟩
theorem Zq(G:Hp):∀ns:List Int,qo κ G (ns.map D.int) (ns.map V.int)
 |[]=>.nil
 | n::ns=>.cons (by simp only[Rep]) (Zq G ns)
theorem qkb{st:Stmt}{k:Nat}{fa:Addr}{fd:FuncData}(ok:PgOk κ K mg pg)(F:Fun K "law" "law" st fa fd)(hl:pg.defs.lookup ("law" : Str)=some st)(hp:yC st=(["_law_script"]:List Str)) :
  FnOk P wd K mg base CX0 (k+1) fa fd (["_law_script"]:List Str) (spF κ K (clK pg (k+1)) "law"):=by
 have:=qah (P:=P) (wd:=wd) (base:=base) ok (qka ok k) F (qa3 hl)
 rw[hp] at this;exact this
theorem qkc{k:Nat}{H:Hp}{a:Addr}{ns:List Int}(hq:SqL K H a (ns.map V.int))(h:clK pg k "law" [.scr (ns.map D.int)]=.ok (.val (.bl true))):spF κ K (clK pg k) "law" [.ref a] H (λv _=>v=.bl true) λ_ _ _=>False:=by
 refine⟨λ_=>none,[.scr (ns.map D.int)],λ_ _ e=>(by cases e),⟨_,_,rfl,⟨a,_,rfl,hq,Zq _ ns⟩,rfl⟩,?_⟩;rw[h];intro v G' H' _ _ _ _ r
 simpa only[ReR,Rep] using r
end
noncomputable def qoh(pg:Pg)(k:Nat)(cl:Str->List Ar->R Rv)(st:Stmt):Option (Nat×Nat×Ss):=oif (qR st) ((cSs pg.m (pg.ct k cl st) (qt st)).map λb=>((yC st).length,(fnN st).length,b))
def slN(n:Nat)(args:List Ar):Env:=args.map toSl++List.replicate (n - args.length) .no
noncomputable def runD(cl:Cl)(w:Nat)(c:Nat×Nat×Ss)(args:List Ar):R Rv:=if args.length=c.1 then (iSs cl w c.2.2 (slN c.2.1 args)).th flR else .no
def Pg.kk(pg:Pg)(k:Nat):Cl:=⟨clK pg k,pg.cs,pg.nw k⟩
theorem qq{pg:Pg}{f:Str}{st:Stmt}{c:Nat×Nat×Ss}(hl:(pg.defs++pg.meths).lookup f=some st)(hc:∀k cl,qoh pg k cl st=some c)(k:Nat)(args:List Ar)(hx:pg.xl.contains f=false:=by rfl):clK pg (k+1) f args=runD (pg.kk k) pg.w c args:=by
 obtain⟨h1,h2⟩:=qi (hc k (clK pg k));obtain⟨b,h3,rfl⟩:=ql h2;rw[JF hl hx];unfold evF runD
 by_cases hn:args.length=(yC st).length
 ·rw[if_pos (by rw[h1,hn];simp),if_pos hn];rw[h3];rfl
 ·rw[if_neg (by simp[hn]),if_neg hn]
noncomputable def qmm(pg:Pg)(k:Nat)(cl:Str->List Ar->R Rv)(st:Stmt):Option (Nat×Nat×Ys):=oif (qR st) ((cYs pg.m (pg.ct k cl st) false (qt st)).map λb=>((yC st).length,(fnN st).length,b))
noncomputable def runX(cl:Cl)(cx:Str->List Ar->R Rv)(w:Nat)(c:Nat×Nat×Ys)(args:List Ar):R Rv:=if args.length=c.1 then (iYs cl cx w c.2.2 (slN c.2.1 args)).th flR else .no
theorem qdq{pg:Pg}{f:Str}{st:Stmt}{c:Nat×Nat×Ys}(hl:(pg.defs++pg.meths).lookup f=some st)(hc:∀k cl,qmm pg k cl st=some c)(k:Nat)(args:List Ar):clX pg (k+3) f args=runX (pg.kk (k+2)) (clX pg (k+2)) pg.w c args:=by
 obtain⟨h1,h2⟩:=qi (hc (k+2) (clK pg (k+2)));obtain⟨b,h3,rfl⟩:=ql h2;unfold clX;rw[jA hl,if_pos rfl];unfold evX runX
 by_cases hn:args.length=(yC st).length
 ·rw[if_pos (by rw[h1,hn];simp),if_pos hn,h3];rfl
 ·rw[if_neg (by simp[hn]),if_neg hn]
theorem qfh{pg:Pg}{f:Str}{st:Stmt}(hl:(pg.defs++pg.meths).lookup f=some st)(hx:pg.xl.contains f=true)(k:Nat)(args:List Ar):clK pg (k+1) f args=noX (clX pg (k+1) f args):=by unfold clK clX;rw[jA hl,jA hl,if_neg (λz=>by cases z),if_pos hx,if_pos rfl]
end DE
namespace DE
open PySem L2
variable{cl:Cl}{w:Nat}
theorem th_ok{α β:Type}(a:α)(f:α->R β):(R.ok a).th f=f a:=(rfl)
theorem of_some{α:Type}(a:α):R.of (some a)=.ok a:=(rfl)
noncomputable def yc(cl:Cl)(w:Nat)(tg:Tg)(b:Ss)(l:List D)(ρ:Env):R Fl:=qeW (λd ρ1=>(tg.go d ρ1).th λρ2=>iSs cl w b ρ2) l ρ
noncomputable def whD(cl:Cl)(w:Nat)(c:T)(b:Ss)(n:Nat)(ρ:Env):R Fl:=whL (λρ1=>iT cl c ρ1) (λρ1=>iSs cl w b ρ1) n ρ
noncomputable def zw(cl:Cl)(e:E)(tg:Tg)(c:F)(l:List D)(ρ:Env)(acc:List D):R (List D):=qc9 tg.go (λρ1=>iF cl c ρ1) (ze e (iR cl e)) l ρ acc
def qbZ(f:Fl)(g:Env->R Fl):R Fl:=match f with
 |.next ρ1=>g ρ1
 |.ret r=>.ok (.ret r)
section
variable(cl:Cl)(w:Nat)(ρ:Env)
theorem zU(tg:Tg)(b:Ss):yc cl w tg b [] ρ=.ok (.next ρ):=(rfl)
theorem qdr(tg:Tg)(b:Ss)(d:D)(l:List D):yc cl w tg b (d::l) ρ=((tg.go d ρ).th λρ2=>iSs cl w b ρ2).th λf=>qbZ f λρ1=>yc cl w tg b l ρ1:=(rfl)
theorem qfi(c:T)(b:Ss)(n:Nat):whD cl w c b (n+1) ρ=(iT cl c ρ).th λt=>if t.1=true then (iSs cl w b t.2).th λf=>qbZ f λρ1=>whD cl w c b n ρ1 else .ok (.next t.2):=(rfl)
theorem qD(e:E)(tg:Tg)(c:F)(acc:List D):zw cl e tg c [] ρ acc=.ok acc:=(rfl)
theorem qb0(e:E)(tg:Tg)(c:F)(d:D)(l acc:List D):zw cl e tg c (d::l) ρ acc=(tg.go d ρ).th λρ1=>(iF cl c ρ1).th λbt=>if bt.1=true then (ze e (iR cl e) bt.2).th λx=>if acc.length < sizeLine then zw cl e tg c l x.2 (acc++[x.1]) else .no else zw cl e tg c l bt.2 acc:=(rfl)
theorem qkd(i:Nat)(e:E):iS cl w (.app i e) ρ=(match zA ρ i with
  |none=>.no
  |some _=>(ze e (iR cl e) ρ).th λy=>(match zA y.2 i with
   |some l=>if l.length < sizeLine then .ok (.next (y.2.set i (.own (l++[y.1])))) else .no
   |none=>.no)):=(rfl)
theorem qke(i:Nat)(e:E):iS cl w (.ext i e) ρ=(match zA ρ i with
  |none=>.no
  |some _=>(iR cl e ρ).th λy=>(match zA y.2 i,y.1.plain? with
   |some l,some n=>if l.length+n.length<=sizeLine then .ok (.next (y.2.set i (.own (l++n)))) else .no
   |_,_=>.no)):=(rfl)
theorem qkf(e:E):iS cl w (.ret e) ρ=(Zg e (iR cl e) ρ).th λr=>.ok (.ret r):=(rfl)
theorem qkg(i:Nat)(e:E):iS cl w (.set i e) ρ=(YN e (iR cl e) ρ).th λs=>.ok (.next (s.2.set i s.1)):=(rfl)
theorem qhI(i:Nat)(x e:E):iS cl w (.setI i x e) ρ=(ze e (iR cl e) ρ).th λy=>(match zA y.2 i with
  |none=>.no
  |some _=>(iR cl x y.2).th λz=>(match zA z.2 i,z.1.int? with
   |some l,some n=>(match ixN l.length n with
    |some k=>.ok (.next (z.2.set i (.own (l.set k y.1))))
    |none=>.no)
   |_,_=>.no)):=(rfl)
theorem qkh(c:T)(a b:Ss):iS cl w (.ite c a b) ρ=(iT cl c ρ).th λt=>if t.1=true then iSs cl w a t.2 else iSs cl w b t.2:=(rfl)
theorem qki(tg:Tg)(src:I)(b:Ss):iS cl w (.for_ tg src b) ρ=(iI cl src ρ).th λx=>yc cl w tg b x.1 x.2:=(rfl)
theorem qfj(s:S)(l:Ss):iSs cl w (.cons s l) ρ=(iS cl w s ρ).th λf=>qbZ f λρ1=>iSs cl w l ρ1:=(rfl)
theorem qkj(op:Operator)(a b:E):iR cl (.bin op a b) ρ=(iR cl a ρ).th λx=>(iR cl b x.2).th λy=>(Zd op x.1 y.1).th λr=>.ok (r,y.2):=(rfl)
theorem qkk(a:E):iR cl (.neg a) ρ=(iR cl a ρ).th λx=>match x.1 with
  |.val (.int i)=>.ok (.val (.int (-i)),x.2)
  |_=>.no:=(rfl)
theorem qkl(a:E):iR cl (.not a) ρ=(iR cl a ρ).th λx=>match x.1 with
  |.val (.bl b)=>.ok (.val (.bl (!b)),x.2)
  |_=>.no:=(rfl)
theorem qkm(a b:E):iR cl (.and a b) ρ=(iR cl a ρ).th λx=>match x.1 with
  |.val (.bl true)=>iR cl b x.2
  |.val (.bl false)=>.ok (.val (.bl false),x.2)
  |_=>.no:=(rfl)
theorem qkn(op:CmpOp)(a b:E):iR cl (.cmp op a b) ρ=(iR cl a ρ).th λx=>(iR cl b x.2).th λy=>(R.of (JS op x.1 y.1)).th λr=>.ok (.val (.bl r),y.2):=(rfl)
theorem qko(c:T)(a b:E):iR cl (.ite c a b) ρ=(iT cl c ρ).th λt=>if t.1=true then iR cl a t.2 else iR cl b t.2:=(rfl)
theorem qkp(a i:E):iR cl (.idx a i) ρ=(iR cl a ρ).th λx=>(iR cl i x.2).th λy=>(idxD x.1 y.1).th λr=>.ok (r,y.2):=(rfl)
theorem qkq(a:E)(lo hi:O):iR cl (.sli a lo hi) ρ=(iR cl a ρ).th λx=>(iO cl lo x.2).th λl=>(iO cl hi l.2).th λh=>(sliceD x.1 l.1 h.1).th λr=>.ok (r,h.2):=(rfl)
theorem qkr(l:Es):iR cl (.lst l) ρ=(iEs cl l ρ).th λx=>if x.1.length<=sizeLine then .ok (.tmp x.1,x.2) else .no:=(rfl)
theorem qks(l:Es):iR cl (.tup l) ρ=(iEs cl l ρ).th λx=>if x.1.length<=sizeLine then .ok (.val (.tup x.1),x.2) else .no:=(rfl)
theorem qkt(a:E):iR cl (.rvs a) ρ=(iR cl a ρ).th λx=>(R.of x.1.list?).th λl=>.ok (.tmp l.reverse,x.2):=(rfl)
theorem qhJ(f:Str)(l:Es):iR cl (.calF f l) ρ=(iEs cl l ρ).th λx=>(cl f (x.1.map .val)).th λr=>.ok (r,x.2):=(rfl)
theorem qhK(f:Str)(l:Es):iR cl (.call f l) ρ=(iAs cl l ρ).th λx=>(cl f x.1).th λr=>.ok (r,x.2):=(rfl)
theorem qmn(f:B1)(a:E):iR cl (.b1 f a) ρ=(iR cl a ρ).th λx=>(f.go x.1).th λr=>.ok (r,x.2):=(rfl)
theorem qmo(f:B2)(a b:E):iR cl (.b2 f a b) ρ=(iR cl a ρ).th λx=>(iR cl b x.2).th λy=>(f.go x.1 y.1).th λr=>.ok (r,y.2):=(rfl)
theorem qku(t:Ty)(a:E):iR cl (.isi t a) ρ=(iR cl a ρ).th λx=>(R.of (t.go x.1)).th λb=>.ok (.val (.bl b),x.2):=(rfl)
theorem qkv(ts:List Str)(a:E):iR cl (.isn ts a) ρ=(iR cl a ρ).th λx=>(R.of (qiz cl.cs x.1 ts)).th λb=>.ok (.val (.bl b),x.2):=(rfl)
theorem qkw(t:Str)(a:E):iR cl (.isc t a) ρ=(iR cl a ρ).th λx=>(R.of (qep cl.cs x.1 t)).th λb=>.ok (.val (.bl b),x.2):=(rfl)
theorem qkx(a:E)(x:Str):iR cl (.fld a x) ρ=(iR cl a ρ).th λy=>(R.of (qcl cl.cs y.1 x)).th λd=>.ok (.val d,y.2):=(rfl)
noncomputable def goM(cl:Cl)(x:Str)(l:Es)(v:Rv)(ρ:Env):Option Str->R (Rv×Env)
 |some f=>(iAs cl l ρ).th λz=>(cl f (toAr v::z.1)).th λr=>.ok (r,z.2)
 |none=>(iAs cl l ρ).th λz=>(bmD x v z.1).th λr=>.ok (r,z.2)
theorem qky(a:E)(x:Str)(l:Es):iR cl (.met a x l) ρ=(iR cl a ρ).th λy=>goM cl x l y.1 y.2 (mtD cl.cs y.1 x):=by
 show(iR cl a ρ).th _=_
 congr 1
theorem qkz(f:Str)(l:Es):iR cl (.new f l) ρ=(iAs cl l ρ).th λx=>(cl.nw f x.1).th λr=>.ok (r,x.2):=(rfl)
theorem qhL(e:E)(src:I)(tg:Tg)(c:F)(n:Nat)(fr:List Nat):iR cl (.comp e src tg c n fr) ρ=(iI cl src ρ).th λx=>if x.1.length<=sizeLine then (zw cl e tg c x.1 (JU n fr x.2) []).th λl=>.ok (.tmp l,x.2) else .no:=(rfl)
theorem qkA(a:T):iT cl (.not a) ρ=(iT cl a ρ).th λt=>.ok (!t.1,t.2):=(rfl)
theorem qkB(a b:T):iT cl (.and a b) ρ=(iT cl a ρ).th λt=>if t.1=true then iT cl b t.2 else .ok (false,t.2):=(rfl)
theorem qmp(a b:T):iT cl (.or a b) ρ=(iT cl a ρ).th λt=>if t.1=true then .ok (true,t.2) else iT cl b t.2:=(rfl)
theorem qkC(op:CmpOp)(a b:E):iT cl (.cmp op a b) ρ=(iR cl a ρ).th λx=>(iR cl b x.2).th λy=>(R.of (JS op x.1 y.1)).th λr=>.ok (r,y.2):=(rfl)
theorem qkD(a:E):iT cl (.val a) ρ=(iR cl a ρ).th λx=>(R.of (truthD x.1)).th λb=>.ok (b,x.2):=(rfl)
theorem qfk(e:E)(l:Es):iEs cl (.cons e l) ρ=(ze e (iR cl e) ρ).th λx=>(iEs cl l x.2).th λy=>.ok (x.1::y.1,y.2):=(rfl)
theorem qfl(e:E)(l:Es):iAs cl (.cons e l) ρ=(iR cl e ρ).th λx=>(iAs cl l x.2).th λy=>.ok (toAr x.1::y.1,y.2):=(rfl)
theorem qhM(e:E):iO cl (.some e) ρ=(iR cl e ρ).th λx=>match x.1 with
  |.val (.int i)=>.ok (some i,x.2)
  |_=>.no:=(rfl)
theorem qkE(a:E):iI cl (.seq a) ρ=(jf a (iR cl a) ρ).th λx=>.ok (x.1.2,x.2):=(rfl)
theorem qkF(a:E):iI cl (.rng a) ρ=(iR cl a ρ).th λx=>(match x.1.int? with
  |some n=>if qX n=true then .ok (zG 0 n,x.2) else .no
  |none=>.no):=(rfl)
theorem qhN(a:E):iI cl (.enum a) ρ=(jf a (iR cl a) ρ).th λx=>match x.1.1 with |.lst=>.ok (JT x.1.2,x.2) |_=>.no:=(rfl)
theorem qkG(a:E):iI cl (.rev a) ρ=(jf a (iR cl a) ρ).th λx=>match x.1.1 with |.lst=>.ok (x.1.2.reverse,x.2) |_=>.no:=(rfl)
theorem qkH(a b:E):iI cl (.zip a b) ρ=(jf a (iR cl a) ρ).th λx=>(jf b (iR cl b) x.2).th λy=>match x.1.1,y.1.1 with |.lst,.lst=>.ok (qbT x.1.2 y.1.2,y.2) |_,_=>.no:=(rfl)
variable(s:Sl)(i:Nat)(d:D)(l:List D)
theorem slR_s:slR (s::ρ) (i+1)=slR ρ i:=(rfl)
theorem slR_v:slR (.val d::ρ) 0=.ok (.val d):=(rfl)
theorem slR_o:slR (.own l::ρ) 0=.ok (.cell l):=(rfl)
theorem slR_b:slR (.bor l::ρ) 0=.ok (.cell l):=(rfl)
theorem slR_c:slR (.scr l::ρ) 0=.ok (.scr l):=(rfl)
theorem slX_s:slX (s::ρ) (i+1)=slX ρ i:=(rfl)
theorem slX_v:slX (.val d::ρ) 0=.ok (.val d):=(rfl)
theorem slX_o:slX (.own l::ρ) 0=.ok (.tmp l):=(rfl)
theorem qmq:slE (s::ρ) (i+1)=(slE ρ i).th λx=>.ok (x.1,s::x.2):=by
 show(match ρ[i]? with |some (.val d)=>_ |some (.own l)=>_ |_=>_)=R.th (match ρ[i]? with |some (.val d)=>_ |some (.own l)=>_ |_=>_) _
 cases ρ[i]? with
 |none=>rfl
 |some z=>cases z<;>rfl
theorem qmr:slL (s::ρ) (i+1)=(slL ρ i).th λx=>.ok (x.1,s::x.2):=by
 show(match ρ[i]? with |some (.val (.lst l))=>_ |some (.val (.tup l))=>_ |some (.val (.str z))=>_ |some (.own l)=>_ |some (.bor l)=>_ |some (.scr l)=>_ |_=>_)=R.th (match ρ[i]? with |some (.val (.lst l))=>_ |some (.val (.tup l))=>_ |some (.val (.str z))=>_ |some (.own l)=>_ |some (.bor l)=>_ |some (.scr l)=>_ |_=>_) _
 cases ρ[i]? with
 |none=>rfl
 |some z=>
  cases z with
  |val d=>cases d<;>rfl
  |_=>rfl
theorem ownI_s:zA (s::ρ) (i+1)=zA ρ i:=(rfl)
theorem ownI_o:zA (.own l::ρ) 0=some l:=(rfl)
end
theorem qhO{a b:Str}(ha:PyData.strOk a=true)(hb:PyData.strOk b=true):eqD (.str a) (.str b)=some (a == b):=by unfold eqD;simp only[toP];rw[show SeqAt.shaped (.str a)=true by unfold SeqAt.shaped;simp[PyData.canLay0,PyData.depth,ha],show SeqAt.shaped (.str b)=true by unfold SeqAt.shaped;simp[PyData.canLay0,PyData.depth,hb]];simp[PyData.eqv]
theorem qkI:SeqAt.shaped .none=true:=by unfold SeqAt.shaped;simp[PyData.canLay0,PyData.depth]
theorem qkJ(n:Int):SeqAt.shaped (.int n)=true:=by unfold SeqAt.shaped;simp[PyData.canLay0,PyData.depth]
theorem qkK{a:Str}(ha:PyData.strOk a=true):SeqAt.shaped (.str a)=true:=by unfold SeqAt.shaped;simp[PyData.canLay0,PyData.depth,ha]
theorem qL(a b:Int):eqD (.int a) (.int b)=some (a == b):=by unfold eqD;simp only[toP,qkJ,Bool.and_self,if_true,PyData.eqv]
theorem qkL{a:Str}(ha:PyData.strOk a=true):eqD (.str a) .non=some false:=by unfold eqD;simp only[toP,qkI,qkK ha,Bool.and_self,if_true,PyData.eqv]
theorem Qm{α:Type}{l:List α}{i:Int}{j:Nat}(h:i=(j:Int))(hj:j < l.length):atI l i=some l[j]:=by subst h;unfold atI ixN;rw[if_pos (by lia),if_pos (by lia)];simp[hj]
theorem qfm{n:Nat}:ixN (n+1) (-1)=some n:=by unfold ixN;rw[if_neg (by lia),if_pos (by lia),show((-1:Int)+((n+1:Nat):Int)).toNat=n by lia]
theorem kk_f(pg:Pg)(k:Nat)(f:Str)(args:List Ar):(pg.kk k).f f args=clK pg k f args:=(rfl)
theorem kk_cs(pg:Pg)(k:Nat):(pg.kk k).cs=pg.cs:=(rfl)
theorem kk_nw(pg:Pg)(k:Nat)(f:Str)(args:List Ar):(pg.kk k).nw f args=pg.nw k f args:=(rfl)
end DE
namespace DE
open PySem L2
theorem at_0{α:Type}(a:α)(l:List α):atI (a::l) 0=some a:=by exact Qm (i:=0) (j:=0) rfl (by simp)
theorem at_1{α:Type}(a b:α)(l:List α):atI (a::b::l) 1=some b:=by exact Qm (i:=1) (j:=1) rfl (by simp)
theorem at_2{α:Type}(a b c:α)(l:List α):atI (a::b::c::l) 2=some c:=by exact Qm (i:=2) (j:=2) rfl (by simp)
theorem qiA{α:Type}{l:List α}{j:Nat}{x:α}(h:l[j]?=some x):atI l (j:Int)=some x:=by obtain⟨h1,h2⟩:=List.getElem?_eq_some_iff.mp h;rw[Qm rfl h1,h2]
def enF(i:Nat):List D->List D
 |[]=>[]
 | d::l=>.tup [.int i,d]::enF (i+1) l
theorem qgj:∀(l:List D) (i:Nat),(List.range' i l.length).zipWith (λ(i:Nat) d=>D.tup [.int i,d]) l=enF i l
 |[],i=>rfl
 | d::l,i=>by rw[List.length_cons,List.range'_succ,List.zipWith_cons_cons,qgj l (i+1)];rfl
theorem JG(l:List D):JT l=enF 0 l:=by unfold JT;rw[List.range_eq_range',qgj]
def rgF(i:Int):Nat->List D
 |0=>[]
 | n+1=>.int i::rgF (i+1) n
theorem qgk:∀(n:Nat) (lo:Int) (s:Nat),(List.range' s n).map (λi:Nat=>D.int (lo+i))=rgF (lo+s) n
 |0,_,_=>rfl
 | n+1,lo,s=>by rw[List.range'_succ,List.map_cons,qgk n lo (s+1)];show _=D.int (lo+s)::rgF (lo+s+1) n;rw[show lo+((s+1:Nat):Int)=lo+s+1 by lia]
theorem JX(lo hi:Int):zG lo hi=rgF lo (hi - lo).toNat:=by
 unfold zG;rw[List.range_eq_range',qgk]
 congr 1
 lia
theorem ixN_app{α:Type}(l:List α)(x:α):ixN (l++[x]).length (-1)=some l.length:=by rw[List.length_append];exact qfm
theorem set_app{α:Type}(l:List α)(x y:α):(l++[x]).set l.length y=l++[y]:=by simp
theorem emp_app{α:Type}(l:List α)(x:α):(l++[x]).isEmpty=false:=by cases l<;>rfl
end DE
namespace DE
open PySem L2
theorem qc{α β γ:Type}(x:R α)(f:α->R β)(g:β->R γ):(x.th f).th g=x.th λa=>(f a).th g:=by cases x<;>rfl
theorem qk{α:Type}(x:R α):x.th R.ok=x:=by cases x<;>rfl
section
variable{β:Type}(cl:Cl)(w:Nat)
def Yz(ρ:Env)(K:Rv×Env->R β)(r:Rv):R β:=K (r,ρ)
def kBl(ρ:Env)(K:Rv×Env->R β)(b:Bool):R β:=K (.val (.bl b),ρ)
def kBo(ρ:Env)(K:Bool×Env->R β)(b:Bool):R β:=K (b,ρ)
def qms(ρ:Env)(K:Rv×Env->R β)(l:List D):R β:=K (.tmp l,ρ)
def kB2(op:Operator)(u:Rv)(K:Rv×Env->R β)(y:Rv×Env):R β:=(Zd op u y.1).th (Yz y.2 K)
def kB1(op:Operator)(b:E)(K:Rv×Env->R β)(x:Rv×Env):R β:=(iR cl b x.2).th (kB2 op x.1 K)
noncomputable def qm4(K:Rv×Env->R β)(x:Rv×Env):R β:=R.th (match x.1 with
  |.val (.int i)=>.ok (.val (.int (-i)),x.2)
  |_=>.no) K
noncomputable def qm5(K:Rv×Env->R β)(x:Rv×Env):R β:=R.th (match x.1 with
  |.val (.bl b)=>.ok (.val (.bl (!b)),x.2)
  |_=>.no) K
noncomputable def qm6(b:E)(K:Rv×Env->R β)(x:Rv×Env):R β:=R.th (match x.1 with
  |.val (.bl true)=>iR cl b x.2
  |.val (.bl false)=>.ok (.val (.bl false),x.2)
  |_=>.no) K
def kC2(op:CmpOp)(u:Rv)(K:Rv×Env->R β)(y:Rv×Env):R β:=(R.of (JS op u y.1)).th (kBl y.2 K)
def kC1(op:CmpOp)(b:E)(K:Rv×Env->R β)(x:Rv×Env):R β:=(iR cl b x.2).th (kC2 op x.1 K)
noncomputable def kIf(a b:E)(K:Rv×Env->R β)(t:Bool×Env):R β:=if t.1=true then (iR cl a t.2).th K else (iR cl b t.2).th K
def kI2(u:Rv)(K:Rv×Env->R β)(y:Rv×Env):R β:=(idxD u y.1).th (Yz y.2 K)
def kI1(b:E)(K:Rv×Env->R β)(x:Rv×Env):R β:=(iR cl b x.2).th (kI2 x.1 K)
noncomputable def kS3(v:Rv)(l:Option Int)(K:Rv×Env->R β)(h:Option Int×Env):R β:=(sliceD v l h.1).th (Yz h.2 K)
def kS2(v:Rv)(hi:O)(K:Rv×Env->R β)(l:Option Int×Env):R β:=(iO cl hi l.2).th (kS3 v l.1 K)
def kS1(lo hi:O)(K:Rv×Env->R β)(x:Rv×Env):R β:=(iO cl lo x.2).th (kS2 cl x.1 hi K)
def qm7(K:Rv×Env->R β)(x:List D×Env):R β:=if x.1.length<=sizeLine then K (.tmp x.1,x.2) else .no
noncomputable def qm8(K:Rv×Env->R β)(x:List D×Env):R β:=if x.1.length<=sizeLine then K (.val (.tup x.1),x.2) else .no
def qmt(K:Rv×Env->R β)(x:Rv×Env):R β:=(R.of x.1.list?).th λl=>K (.tmp l.reverse,x.2)
def qkM(f:Str)(K:Rv×Env->R β)(x:List D×Env):R β:=(cl f (x.1.map .val)).th (Yz x.2 K)
def qkN(f:Str)(K:Rv×Env->R β)(x:List Ar×Env):R β:=(cl f x.1).th (Yz x.2 K)
def kF1(f:B1)(K:Rv×Env->R β)(x:Rv×Env):R β:=(f.go x.1).th (Yz x.2 K)
def kG2(f:B2)(u:Rv)(K:Rv×Env->R β)(y:Rv×Env):R β:=(f.go u y.1).th (Yz y.2 K)
def kG1(f:B2)(b:E)(K:Rv×Env->R β)(x:Rv×Env):R β:=(iR cl b x.2).th (kG2 f x.1 K)
def qm9(t:Str)(K:Rv×Env->R β)(x:Rv×Env):R β:=(R.of (qep cl.cs x.1 t)).th (kBl x.2 K)
def qna(t:List Str)(K:Rv×Env->R β)(x:Rv×Env):R β:=(R.of (qiz cl.cs x.1 t)).th (kBl x.2 K)
def qmu(ρ:Env)(K:Rv×Env->R β)(d:D):R β:=K (.val d,ρ)
def qnb(x:Str)(K:Rv×Env->R β)(y:Rv×Env):R β:=(R.of (qcl cl.cs y.1 x)).th (qmu y.2 K)
def qmv(f:Str)(v:Rv)(K:Rv×Env->R β)(z:List Ar×Env):R β:=(cl f (toAr v::z.1)).th (Yz z.2 K)
def qmw(v:Rv)(l:Es)(ρ:Env)(K:Rv×Env->R β)(f:Str):R β:=(iAs cl l ρ).th (qmv cl f v K)
def qoi(x:Str)(v:Rv)(K:Rv×Env->R β)(z:List Ar×Env):R β:=(bmD x v z.1).th (Yz z.2 K)
noncomputable def qmx(x:Str)(v:Rv)(l:Es)(ρ:Env)(K:Rv×Env->R β)(o:Option Str):R β:=match o with
 |some f=>qmw cl v l ρ K f
 |none=>(iAs cl l ρ).th (qoi x v K)
def qmy(x:Str)(l:Es)(K:Rv×Env->R β)(y:Rv×Env):R β:=qmx cl x y.1 l y.2 K (mtD cl.cs y.1 x)
def qnc(f:Str)(K:Rv×Env->R β)(x:List Ar×Env):R β:=(cl.nw f x.1).th (Yz x.2 K)
def qnd(t:Ty)(K:Rv×Env->R β)(x:Rv×Env):R β:=(R.of (t.go x.1)).th (kBl x.2 K)
noncomputable def qkO(e:E)(tg:Tg)(c:F)(n:Nat)(fr:List Nat)(K:Rv×Env->R β)(x:List D×Env):R β:=if x.1.length<=sizeLine then (zw cl e tg c x.1 (JU n fr x.2) []).th (qms x.2 K) else .no
def kTn(K:Bool×Env->R β)(t:Bool×Env):R β:=K (!t.1,t.2)
noncomputable def kTa(b:T)(K:Bool×Env->R β)(t:Bool×Env):R β:=if t.1=true then (iT cl b t.2).th K else K (false,t.2)
noncomputable def kTo(b:T)(K:Bool×Env->R β)(t:Bool×Env):R β:=if t.1=true then K (true,t.2) else (iT cl b t.2).th K
def kD2(op:CmpOp)(u:Rv)(K:Bool×Env->R β)(y:Rv×Env):R β:=(R.of (JS op u y.1)).th (kBo y.2 K)
def kD1(op:CmpOp)(b:E)(K:Bool×Env->R β)(x:Rv×Env):R β:=(iR cl b x.2).th (kD2 op x.1 K)
def kTv(K:Bool×Env->R β)(x:Rv×Env):R β:=(R.of (truthD x.1)).th (kBo x.2 K)
def kE2(d:D)(K:List D×Env->R β)(y:List D×Env):R β:=K (d::y.1,y.2)
def kE1(l:Es)(K:List D×Env->R β)(x:D×Env):R β:=(iEs cl l x.2).th (kE2 x.1 K)
def kA2(v:Rv)(K:List Ar×Env->R β)(y:List Ar×Env):R β:=K (toAr v::y.1,y.2)
def kA1(l:Es)(K:List Ar×Env->R β)(x:Rv×Env):R β:=(iAs cl l x.2).th (kA2 x.1 K)
noncomputable def kO(K:Option Int×Env->R β)(x:Rv×Env):R β:=R.th (match x.1 with
  |.val (.int i)=>.ok (some i,x.2)
  |_=>.no) K
def qne(K:List D×Env->R β)(x:(Sk×List D)×Env):R β:=K (x.1.2,x.2)
noncomputable def qnf(K:List D×Env->R β)(x:Rv×Env):R β:=R.th (match x.1.int? with
  |some n=>if qX n=true then .ok (zG 0 n,x.2) else .no
  |none=>.no) K
noncomputable def kR2(u:Rv)(K:List D×Env->R β)(y:Rv×Env):R β:=R.th (match u.int?,y.1.int? with
  |some i,some j=>if qX i=true/\qX j=true then .ok (zG i j,y.2) else .no
  |_,_=>.no) K
noncomputable def qkP(K:List D×Env->R β)(x:(Sk×List D)×Env):R β:=R.th (match x.1.1 with |.lst=>.ok (JT x.1.2,x.2) |_=>.no) K
noncomputable def qng(K:List D×Env->R β)(x:(Sk×List D)×Env):R β:=R.th (match x.1.1 with |.lst=>.ok (x.1.2.reverse,x.2) |_=>.no) K
noncomputable def kZ2(x:Sk×List D)(K:List D×Env->R β)(y:(Sk×List D)×Env):R β:=R.th (match x.1,y.1.1 with |.lst,.lst=>.ok (qbT x.2 y.1.2,y.2) |_,_=>.no) K
def kZ1(b:E)(K:List D×Env->R β)(x:(Sk×List D)×Env):R β:=(jf b (iR cl b) x.2).th (kZ2 x.1 K)
def qcm(K:D×Env->R β)(x:Rv×Env):R β:=(qbU x).th K
def JY(K:(Sk×List D)×Env->R β)(x:Rv×Env):R β:=(qeq x).th K
noncomputable def kX(K:Rv->R β)(x:Rv×Env):R β:=R.th (match x.1 with
  |.val d=>.ok (.val d)
  |.tmp l=>.ok (.tmp l)
  |_=>.no) K
def kAv(K:Sl×Env->R β)(x:D×Env):R β:=K (.val x.1,x.2)
noncomputable def kAx(K:Sl×Env->R β)(x:Rv×Env):R β:=R.th (match x.1 with
  |.val d=>.ok (.val d,x.2)
  |.tmp l=>.ok (.own l,x.2)
  |_=>.no) K
def qhP{α:Type}(s:Sl)(K:α×Env->R β)(x:α×Env):R β:=K (x.1,s::x.2)
def oGo(o:Option (List D))(x:R β):R β:=match o with
 |none=>.no
 |some _=>x
noncomputable def qhQ(i:Nat)(d:D)(ρ:Env)(K:Fl->R β)(o:Option (List D)):R β:=R.th (match o with
   |some l=>if l.length < sizeLine then .ok (.next (ρ.set i (.own (l++[d])))) else .no
   |none=>.no) K
def qnh(i:Nat)(K:Fl->R β)(y:D×Env):R β:=qhQ i y.1 y.2 K (zA y.2 i)
noncomputable def qhR(i:Nat)(ρ:Env)(K:Fl->R β)(o p:Option (List D)):R β:=R.th (match o,p with
   |some l,some n=>if l.length+n.length<=sizeLine then .ok (.next (ρ.set i (.own (l++n)))) else .no
   |_,_=>.no) K
def qni(i:Nat)(K:Fl->R β)(y:Rv×Env):R β:=qhR i y.2 K (zA y.2 i) y.1.plain?
def kRt(K:Fl->R β)(r:Rv):R β:=K (.ret r)
def qnj(i:Nat)(K:Fl->R β)(s:Sl×Env):R β:=K (.next (s.2.set i s.1))
noncomputable def qmz(i:Nat)(d:D)(ρ:Env)(K:Fl->R β)(l:List D)(o:Option Nat):R β:=R.th (match o with
    |some k=>.ok (.next (ρ.set i (.own (l.set k d))))
    |none=>.no) K
noncomputable def qlz(i:Nat)(d:D)(ρ:Env)(K:Fl->R β)(o:Option (List D))(v:Option Int):R β:=match o,v with
 |some l,some n=>qmz i d ρ K l (ixN l.length n)
 |_,_=>.no
def qmA(i:Nat)(d:D)(K:Fl->R β)(z:Rv×Env):R β:=qlz i d z.2 K (zA z.2 i) z.1.int?
def kSI(i:Nat)(x:E)(K:Fl->R β)(y:D×Env):R β:=oGo (zA y.2 i) ((iR cl x y.2).th (qmA i y.1 K))
noncomputable def qnk(a b:Ss)(K:Fl->R β)(t:Bool×Env):R β:=if t.1=true then (iSs cl w a t.2).th K else (iSs cl w b t.2).th K
def qnl(tg:Tg)(b:Ss)(K:Fl->R β)(x:List D×Env):R β:=(yc cl w tg b x.1 x.2).th K
def qhS(l:Ss)(K:Fl->R β)(f:Fl):R β:=(qbZ f λρ1=>iSs cl w l ρ1).th K
def qlA(tg:Tg)(b:Ss)(l:List D)(K:Fl->R β)(f:Fl):R β:=(qbZ f λρ1=>yc cl w tg b l ρ1).th K
def qnm(tg:Tg)(b:Ss)(l:List D)(K:Fl->R β)(ρ:Env):R β:=(iSs cl w b ρ).th (qlA cl w tg b l K)
def qmB(c:T)(b:Ss)(n:Nat)(K:Fl->R β)(f:Fl):R β:=(qbZ f λρ1=>whD cl w c b n ρ1).th K
noncomputable def qnn(c:T)(b:Ss)(n:Nat)(K:Fl->R β)(t:Bool×Env):R β:=if t.1=true then (iSs cl w b t.2).th (qmB cl w c b n K) else K (.next t.2)
noncomputable def kP3(e:E)(tg:Tg)(c:F)(l acc:List D)(K:List D->R β)(x:D×Env):R β:=if acc.length < sizeLine then (zw cl e tg c l x.2 (acc++[x.1])).th K else .no
noncomputable def kP2(e:E)(tg:Tg)(c:F)(l acc:List D)(K:List D->R β)(t:Bool×Env):R β:=if t.1=true then (ze e (iR cl e) t.2).th (kP3 cl e tg c l acc K) else (zw cl e tg c l t.2 acc).th K
noncomputable def kP1(e:E)(tg:Tg)(c:F)(l acc:List D)(K:List D->R β)(ρ:Env):R β:=(iF cl c ρ).th (kP2 cl e tg c l acc K)
theorem jh{α:Type}{c:Prop}[Decidable c](x y:R α)(K:α->R β):(if c then x else y).th K=if c then x.th K else y.th K:=by split<;>rfl
theorem qy{α:Type}(x:R α){f g:α->R β}(h:∀a,f a=g a):x.th f=x.th g:=by cases x<;>first | rfl | exact h _
section
variable(ρ:Env)(K:Rv×Env->R β)
theorem xR_var(i:Nat):(iR cl (.var i) ρ).th K=(slR ρ i).th (Yz ρ K):=(qc (slR ρ i) _ _)
theorem xR_con(d:D):(iR cl (.con d) ρ).th K=K (.val d,ρ):=(rfl)
theorem xR_bin(op:Operator)(a b:E):(iR cl (.bin op a b) ρ).th K=(iR cl a ρ).th (kB1 cl op b K):=by rw[qkj,qc];refine qy _ λx=>?_;rw[qc];refine qy _ λy=>?_;rw[qc];rfl
theorem xR_neg(a:E):(iR cl (.neg a) ρ).th K=(iR cl a ρ).th (qm4 K):=by rw[qkk,qc];rfl
theorem xR_not(a:E):(iR cl (.not a) ρ).th K=(iR cl a ρ).th (qm5 K):=by rw[qkl,qc];rfl
theorem xR_one(a:E):(iR cl (.one a) ρ).th K=(iR cl a ρ).th K:=(rfl)
theorem xR_and(a b:E):(iR cl (.and a b) ρ).th K=(iR cl a ρ).th (qm6 cl b K):=by rw[qkm,qc];rfl
theorem xR_cmp(op:CmpOp)(a b:E):(iR cl (.cmp op a b) ρ).th K=(iR cl a ρ).th (kC1 cl op b K):=by rw[qkn,qc];refine qy _ λx=>?_;rw[qc];refine qy _ λy=>?_;rw[qc];rfl
theorem xR_ite(c:T)(a b:E):(iR cl (.ite c a b) ρ).th K=(iT cl c ρ).th (kIf cl a b K):=by rw[qko,qc];refine qy _ λt=>?_;rw[jh];rfl
theorem xR_idx(a b:E):(iR cl (.idx a b) ρ).th K=(iR cl a ρ).th (kI1 cl b K):=by rw[qkp,qc];refine qy _ λx=>?_;rw[qc];refine qy _ λy=>?_;rw[qc];rfl
theorem xR_sli(a:E)(lo hi:O):(iR cl (.sli a lo hi) ρ).th K=(iR cl a ρ).th (kS1 cl lo hi K):=by rw[qkq,qc];refine qy _ λx=>?_;rw[qc];refine qy _ λy=>?_;rw[qc];refine qy _ λz=>?_;rw[qc];rfl
theorem xR_lst(l:Es):(iR cl (.lst l) ρ).th K=(iEs cl l ρ).th (qm7 K):=by rw[qkr,qc];refine qy _ λx=>?_;rw[jh];rfl
theorem xR_tup(l:Es):(iR cl (.tup l) ρ).th K=(iEs cl l ρ).th (qm8 K):=by rw[qks,qc];refine qy _ λx=>?_;rw[jh];rfl
theorem xR_rvs(a:E):(iR cl (.rvs a) ρ).th K=(iR cl a ρ).th (qmt K):=by rw[qkt,qc];refine qy _ λx=>?_;rw[qc];rfl
theorem xR_calF(f:Str)(l:Es):(iR cl (.calF f l) ρ).th K=(iEs cl l ρ).th (qkM cl f K):=by rw[qhJ,qc];refine qy _ λx=>?_;rw[qc];rfl
theorem xR_call(f:Str)(l:Es):(iR cl (.call f l) ρ).th K=(iAs cl l ρ).th (qkN cl f K):=by rw[qhK,qc];refine qy _ λx=>?_;rw[qc];rfl
theorem xR_b1(f:B1)(a:E):(iR cl (.b1 f a) ρ).th K=(iR cl a ρ).th (kF1 f K):=by rw[qmn,qc];refine qy _ λx=>?_;rw[qc];rfl
theorem xR_b2(f:B2)(a b:E):(iR cl (.b2 f a b) ρ).th K=(iR cl a ρ).th (kG1 cl f b K):=by rw[qmo,qc];refine qy _ λx=>?_;rw[qc];refine qy _ λy=>?_;rw[qc];rfl
theorem xR_isc(t:Str)(a:E):(iR cl (.isc t a) ρ).th K=(iR cl a ρ).th (qm9 cl t K):=by rw[qkw,qc];refine qy _ λx=>?_;rw[qc];rfl
theorem xR_isn(t:List Str)(a:E):(iR cl (.isn t a) ρ).th K=(iR cl a ρ).th (qna cl t K):=by rw[qkv,qc];refine qy _ λx=>?_;rw[qc];rfl
theorem xR_fld(a:E)(x:Str):(iR cl (.fld a x) ρ).th K=(iR cl a ρ).th (qnb cl x K):=by rw[qkx,qc];refine qy _ λy=>?_;rw[qc];rfl
theorem xR_met(a:E)(x:Str)(l:Es):(iR cl (.met a x l) ρ).th K=(iR cl a ρ).th (qmy cl x l K):=by
 rw[qky,qc];refine qy _ λy=>?_;unfold qmy
 cases mtD cl.cs y.1 x with
 |some f=>unfold goM;rw[qc];refine qy _ λz=>?_;rw[qc];rfl
 |none=>unfold goM;rw[qc];refine qy _ λz=>?_;rw[qc];rfl
theorem xR_new(f:Str)(l:Es):(iR cl (.new f l) ρ).th K=(iAs cl l ρ).th (qnc cl f K):=by rw[qkz,qc];refine qy _ λx=>?_;rw[qc];rfl
theorem xR_isi(t:Ty)(a:E):(iR cl (.isi t a) ρ).th K=(iR cl a ρ).th (qnd t K):=by rw[qku,qc];refine qy _ λx=>?_;rw[qc];rfl
theorem xR_comp(e:E)(src:I)(tg:Tg)(c:F)(n:Nat)(fr:List Nat):(iR cl (.comp e src tg c n fr) ρ).th K=(iI cl src ρ).th (qkO cl e tg c n fr K):=by rw[qhL,qc];refine qy _ λx=>?_;rw[jh,qc];rfl
end
section
variable(ρ:Env)(K:Rv×Env->R β)(v u:Rv)
theorem yRet:Yz ρ K v=K (v,ρ):=(rfl)
theorem yBl(b:Bool):kBl ρ K b=K (.val (.bl b),ρ):=(rfl)
theorem yTmp(l:List D):qms ρ K l=K (.tmp l,ρ):=(rfl)
theorem yB1(op:Operator)(b:E):kB1 cl op b K (v,ρ)=(iR cl b ρ).th (kB2 op v K):=(rfl)
theorem yB2(op:Operator):kB2 op u K (v,ρ)=(Zd op u v).th (Yz ρ K):=(rfl)
theorem yNeg(i:Int):qm4 K (.val (.int i),ρ)=K (.val (.int (-i)),ρ):=(rfl)
theorem yNot(b:Bool):qm5 K (.val (.bl b),ρ)=K (.val (.bl (!b)),ρ):=(rfl)
theorem yAnd(b:E)(t:Bool):qm6 cl b K (.val (.bl t),ρ)=if t=true then (iR cl b ρ).th K else K (.val (.bl false),ρ):=by cases t<;>rfl
theorem yC1(op:CmpOp)(b:E):kC1 cl op b K (v,ρ)=(iR cl b ρ).th (kC2 op v K):=(rfl)
theorem yC2(op:CmpOp):kC2 op u K (v,ρ)=(R.of (JS op u v)).th (kBl ρ K):=(rfl)
theorem yIf(a b:E)(t:Bool):kIf cl a b K (t,ρ)=if t=true then (iR cl a ρ).th K else (iR cl b ρ).th K:=(rfl)
theorem yI1(b:E):kI1 cl b K (v,ρ)=(iR cl b ρ).th (kI2 v K):=(rfl)
theorem yI2:kI2 u K (v,ρ)=(idxD u v).th (Yz ρ K):=(rfl)
theorem yS1(lo hi:O):kS1 cl lo hi K (v,ρ)=(iO cl lo ρ).th (kS2 cl v hi K):=(rfl)
theorem yS2(hi:O)(l:Option Int):kS2 cl v hi K (l,ρ)=(iO cl hi ρ).th (kS3 v l K):=(rfl)
theorem yS3(l h:Option Int):kS3 v l K (h,ρ)=(sliceD v l h).th (Yz ρ K):=(rfl)
theorem yLst(l:List D):qm7 K (l,ρ)=if l.length<=sizeLine then K (.tmp l,ρ) else .no:=(rfl)
theorem yTup(l:List D):qm8 K (l,ρ)=if l.length<=sizeLine then K (.val (.tup l),ρ) else .no:=(rfl)
theorem yRvs_c(l:List D):qmt K (.cell l,ρ)=K (.tmp l.reverse,ρ):=(rfl)
theorem yRvs_v(l:List D):qmt K (.val (.lst l),ρ)=K (.tmp l.reverse,ρ):=(rfl)
theorem yCalF(f:Str)(l:List D):qkM cl f K (l,ρ)=(cl f (l.map .val)).th (Yz ρ K):=(rfl)
theorem yCall(f:Str)(l:List Ar):qkN cl f K (l,ρ)=(cl f l).th (Yz ρ K):=(rfl)
theorem yF1(f:B1):kF1 f K (v,ρ)=(f.go v).th (Yz ρ K):=(rfl)
theorem yG1(f:B2)(b:E):kG1 cl f b K (v,ρ)=(iR cl b ρ).th (kG2 f v K):=(rfl)
theorem yG2(f:B2):kG2 f u K (v,ρ)=(f.go u v).th (Yz ρ K):=(rfl)
theorem yIsc(t:Str):qm9 cl t K (v,ρ)=(R.of (qep cl.cs v t)).th (kBl ρ K):=(rfl)
theorem yIsn(t:List Str):qna cl t K (v,ρ)=(R.of (qiz cl.cs v t)).th (kBl ρ K):=(rfl)
theorem yDat(d:D):qmu ρ K d=K (.val d,ρ):=(rfl)
theorem yFld(x:Str):qnb cl x K (v,ρ)=(R.of (qcl cl.cs v x)).th (qmu ρ K):=(rfl)
theorem yMt3(f:Str)(l:List Ar):qmv cl f v K (l,ρ)=(cl f (toAr v::l)).th (Yz ρ K):=(rfl)
theorem yMt2(f:Str)(l:Es):qmw cl v l ρ K f=(iAs cl l ρ).th (qmv cl f v K):=(rfl)
theorem yMt1(x:Str)(l:Es):qmy cl x l K (v,ρ)=qmx cl x v l ρ K (mtD cl.cs v x):=(rfl)
theorem yMtO(x:Str)(l:Es)(f:Str):qmx cl x v l ρ K (some f)=qmw cl v l ρ K f:=(rfl)
theorem yNew(f:Str)(l:List Ar):qnc cl f K (l,ρ)=(cl.nw f l).th (Yz ρ K):=(rfl)
theorem yIsi(t:Ty):qnd t K (v,ρ)=(R.of (t.go v)).th (kBl ρ K):=(rfl)
theorem yComp(e:E)(tg:Tg)(c:F)(n:Nat)(fr:List Nat)(l:List D):qkO cl e tg c n fr K (l,ρ)=if l.length<=sizeLine then (zw cl e tg c l (JU n fr ρ) []).th (qms ρ K) else .no:=(rfl)
end
section
variable(ρ:Env)(K:Bool×Env->R β)(v u:Rv)(t:Bool)
theorem xT_not(a:T):(iT cl (.not a) ρ).th K=(iT cl a ρ).th (kTn K):=by rw[qkA,qc];rfl
theorem xT_one(a:T):(iT cl (.one a) ρ).th K=(iT cl a ρ).th K:=(rfl)
theorem xT_and(a b:T):(iT cl (.and a b) ρ).th K=(iT cl a ρ).th (kTa cl b K):=by rw[qkB,qc];refine qy _ λt=>?_;rw[jh];rfl
theorem xT_or(a b:T):(iT cl (.or a b) ρ).th K=(iT cl a ρ).th (kTo cl b K):=by rw[qmp,qc];refine qy _ λt=>?_;rw[jh];rfl
theorem xT_cmp(op:CmpOp)(a b:E):(iT cl (.cmp op a b) ρ).th K=(iR cl a ρ).th (kD1 cl op b K):=by rw[qkC,qc];refine qy _ λx=>?_;rw[qc];refine qy _ λy=>?_;rw[qc];rfl
theorem xT_val(a:E):(iT cl (.val a) ρ).th K=(iR cl a ρ).th (kTv K):=by rw[qkD,qc];refine qy _ λx=>?_;rw[qc];rfl
theorem yBo:kBo ρ K t=K (t,ρ):=(rfl)
theorem yTn:kTn K (t,ρ)=K (!t,ρ):=(rfl)
theorem yTa(b:T):kTa cl b K (t,ρ)=if t=true then (iT cl b ρ).th K else K (false,ρ):=(rfl)
theorem yTo(b:T):kTo cl b K (t,ρ)=if t=true then K (true,ρ) else (iT cl b ρ).th K:=(rfl)
theorem yD1(op:CmpOp)(b:E):kD1 cl op b K (v,ρ)=(iR cl b ρ).th (kD2 op v K):=(rfl)
theorem yD2(op:CmpOp):kD2 op u K (v,ρ)=(R.of (JS op u v)).th (kBo ρ K):=(rfl)
theorem yTv:kTv K (v,ρ)=(R.of (truthD v)).th (kBo ρ K):=(rfl)
theorem xF_yes:(iF cl .yes ρ).th K=K (true,ρ):=(rfl)
theorem xF_test(c:T):(iF cl (.test c) ρ).th K=(iT cl c ρ).th K:=(rfl)
end
section
variable(ρ:Env)
theorem xEs_nil(K:List D×Env->R β):(iEs cl .nil ρ).th K=K ([],ρ):=(rfl)
theorem xEs_cons(K:List D×Env->R β)(e:E)(l:Es):(iEs cl (.cons e l) ρ).th K=(ze e (iR cl e) ρ).th (kE1 cl l K):=by rw[qfk,qc];refine qy _ λx=>?_;rw[qc];rfl
theorem yE1(K:List D×Env->R β)(l:Es)(d:D):kE1 cl l K (d,ρ)=(iEs cl l ρ).th (kE2 d K):=(rfl)
theorem yE2(K:List D×Env->R β)(d:D)(ds:List D):kE2 d K (ds,ρ)=K (d::ds,ρ):=(rfl)
theorem xAs_nil(K:List Ar×Env->R β):(iAs cl .nil ρ).th K=K ([],ρ):=(rfl)
theorem xAs_cons(K:List Ar×Env->R β)(e:E)(l:Es):(iAs cl (.cons e l) ρ).th K=(iR cl e ρ).th (kA1 cl l K):=by rw[qfl,qc];refine qy _ λx=>?_;rw[qc];rfl
theorem yA1(K:List Ar×Env->R β)(l:Es)(v:Rv):kA1 cl l K (v,ρ)=(iAs cl l ρ).th (kA2 v K):=(rfl)
theorem yA2(K:List Ar×Env->R β)(v:Rv)(l:List Ar):kA2 v K (l,ρ)=K (toAr v::l,ρ):=(rfl)
theorem xO_none(K:Option Int×Env->R β):(iO cl .none ρ).th K=K (none,ρ):=(rfl)
theorem xO_some(K:Option Int×Env->R β)(e:E):(iO cl (.some e) ρ).th K=(iR cl e ρ).th (kO K):=by rw[qhM,qc];rfl
theorem yO(K:Option Int×Env->R β)(i:Int):kO K (.val (.int i),ρ)=K (some i,ρ):=(rfl)
variable(K:List D×Env->R β)
theorem xI_seq(a:E):(iI cl (.seq a) ρ).th K=(jf a (iR cl a) ρ).th (qne K):=by rw[qkE,qc];rfl
theorem xI_rng(a:E):(iI cl (.rng a) ρ).th K=(iR cl a ρ).th (qnf K):=by rw[qkF,qc];rfl
theorem xI_rev(a:E):(iI cl (.rev a) ρ).th K=(jf a (iR cl a) ρ).th (qng K):=by rw[qkG,qc];rfl
theorem xI_enum(a:E):(iI cl (.enum a) ρ).th K=(jf a (iR cl a) ρ).th (qkP K):=by rw[qhN,qc];rfl
theorem xI_zip(a b:E):(iI cl (.zip a b) ρ).th K=(jf a (iR cl a) ρ).th (kZ1 cl b K):=by rw[qkH,qc];refine qy _ λx=>?_;rw[qc];rfl
theorem ySeq(s:Sk)(l:List D):qne K ((s,l),ρ)=K (l,ρ):=(rfl)
theorem yRng(n:Int):qnf K (.val (.int n),ρ)=if qX n=true then K (zG 0 n,ρ) else .no:=by show R.th (if qX n=true then _ else _) K=_;rw[jh];rfl
theorem yRev(l:List D):qng K ((.lst,l),ρ)=K (l.reverse,ρ):=(rfl)
theorem yEnum(l:List D):qkP K ((.lst,l),ρ)=K (JT l,ρ):=(rfl)
theorem yZ1(b:E)(x:Sk×List D):kZ1 cl b K (x,ρ)=(jf b (iR cl b) ρ).th (kZ2 x K):=(rfl)
theorem yZ2(l n:List D):kZ2 (.lst,l) K ((.lst,n),ρ)=K (qbT l n,ρ):=(rfl)
end
section
variable(ρ:Env)(s:Sl)(i:Nat)(d:D)(l:List D)
theorem yVal(K:D×Env->R β):qcm K (.val d,ρ)=K (d,ρ):=(rfl)
theorem yValt(K:D×Env->R β):qcm K (.tmp l,ρ)=K (.lst l,ρ):=(rfl)
theorem yValL(K:(Sk×List D)×Env->R β):JY K (.val (.lst l),ρ)=K ((.lst,l),ρ):=(rfl)
theorem yValLt(K:(Sk×List D)×Env->R β):JY K (.val (.tup l),ρ)=K ((.tup,l),ρ):=(rfl)
theorem yValLs(K:(Sk×List D)×Env->R β)(z:Str):JY K (.val (.str z),ρ)=K ((.str,qbS z),ρ):=(rfl)
theorem yValLm(K:(Sk×List D)×Env->R β):JY K (.tmp l,ρ)=K ((.lst,l),ρ):=(rfl)
theorem yX(K:Rv->R β):kX K (.val d,ρ)=K (.val d):=(rfl)
theorem yXt(K:Rv->R β):kX K (.tmp l,ρ)=K (.tmp l):=(rfl)
theorem yAv(K:Sl×Env->R β):kAv K (d,ρ)=K (.val d,ρ):=(rfl)
theorem yAx(K:Sl×Env->R β):kAx K (.val d,ρ)=K (.val d,ρ):=(rfl)
theorem yAxt(K:Sl×Env->R β):kAx K (.tmp l,ρ)=K (.own l,ρ):=(rfl)
theorem yCons{α:Type}(K:α×Env->R β)(x:α):qhP s K (x,ρ)=K (x,s::ρ):=(rfl)
theorem xE_s(K:D×Env->R β):(slE (s::ρ) (i+1)).th K=(slE ρ i).th (qhP s K):=by rw[qmq,qc];rfl
theorem xE_v(K:D×Env->R β):(slE (.val d::ρ) 0).th K=K (d,.val d::ρ):=(rfl)
theorem xE_o(K:D×Env->R β):(slE (.own l::ρ) 0).th K=K (.lst l,.val (.lst l)::ρ):=(rfl)
variable(K:(Sk×List D)×Env->R β)
theorem xL_s:(slL (s::ρ) (i+1)).th K=(slL ρ i).th (qhP s K):=by rw[qmr,qc];rfl
theorem xL_l:(slL (.val (.lst l)::ρ) 0).th K=K ((.lst,l),.val (.lst l)::ρ):=(rfl)
theorem xL_z(z:Str):(slL (.val (.str z)::ρ) 0).th K=K ((.str,qbS z),.val (.str z)::ρ):=(rfl)
theorem xL_o:(slL (.own l::ρ) 0).th K=K ((.lst,l),.val (.lst l)::ρ):=(rfl)
theorem xL_b:(slL (.bor l::ρ) 0).th K=K ((.lst,l),.bor l::ρ):=(rfl)
end
section
variable(ρ:Env)(K:Fl->R β)(i:Nat)
theorem oGo_some(l:List D)(x:R β):oGo (some l) x=x:=(rfl)
theorem xS_app(e:E):(iS cl w (.app i e) ρ).th K=oGo (zA ρ i) ((ze e (iR cl e) ρ).th (qnh i K)):=by
 rw[qkd]
 cases zA ρ i with
 |none=>rfl
 |some l=>show R.th (R.th (ze e (iR cl e) ρ) _) K=_;rw[qc];rfl
theorem yApp(d:D):qnh i K (d,ρ)=qhQ i d ρ K (zA ρ i):=(rfl)
theorem yApp2(d:D)(l:List D):qhQ i d ρ K (some l)=if l.length < sizeLine then K (.next (ρ.set i (.own (l++[d])))) else .no:=by show R.th (if l.length < sizeLine then _ else _) K=_;rw[jh];rfl
theorem xS_ext(e:E):(iS cl w (.ext i e) ρ).th K=oGo (zA ρ i) ((iR cl e ρ).th (qni i K)):=by
 rw[qke]
 cases zA ρ i with
 |none=>rfl
 |some l=>show R.th (R.th (iR cl e ρ) _) K=_;rw[qc];rfl
theorem yExt(v:Rv):qni i K (v,ρ)=qhR i ρ K (zA ρ i) v.plain?:=(rfl)
theorem yExt2(l n:List D):qhR i ρ K (some l) (some n)=if l.length+n.length<=sizeLine then K (.next (ρ.set i (.own (l++n)))) else .no:=by show R.th (if l.length+n.length<=sizeLine then _ else _) K=_;rw[jh];rfl
theorem xS_ret(e:E):(iS cl w (.ret e) ρ).th K=(Zg e (iR cl e) ρ).th (kRt K):=by rw[qkf,qc];rfl
theorem yRt(r:Rv):kRt K r=K (.ret r):=(rfl)
theorem xS_set(e:E):(iS cl w (.set i e) ρ).th K=(YN e (iR cl e) ρ).th (qnj i K):=by rw[qkg,qc];rfl
theorem ySet(s:Sl):qnj i K (s,ρ)=K (.next (ρ.set i s)):=(rfl)
theorem xS_setI(x e:E):(iS cl w (.setI i x e) ρ).th K=(ze e (iR cl e) ρ).th (kSI cl i x K):=by
 rw[qhI,qc];refine qy _ λy=>?_;show R.th (match zA y.2 i with |none=>_ |some _=>_) K=oGo (zA y.2 i) _
 cases zA y.2 i with
 |none=>rfl
 |some l=>
  show R.th (R.th (iR cl x y.2) _) K=R.th _ _;rw[qc];refine qy _ λz=>?_;show R.th (match zA z.2 i,z.1.int? with |some l,some n=>_ |_,_=>_) K=qlz i y.1 z.2 K (zA z.2 i) z.1.int?
  cases zA z.2 i with
  |none=>rfl
  |some l=>cases z.1.int?<;>rfl
theorem ySI(x:E)(d:D):kSI cl i x K (d,ρ)=oGo (zA ρ i) ((iR cl x ρ).th (qmA i d K)):=(rfl)
theorem ySI2(d:D)(v:Rv):qmA i d K (v,ρ)=qlz i d ρ K (zA ρ i) v.int?:=(rfl)
theorem ySI3(d:D)(l:List D)(n:Int):qlz i d ρ K (some l) (some n)=qmz i d ρ K l (ixN l.length n):=(rfl)
theorem ySI4(d:D)(l:List D)(k:Nat):qmz i d ρ K l (some k)=K (.next (ρ.set i (.own (l.set k d)))):=(rfl)
theorem xS_ite(c:T)(a b:Ss):(iS cl w (.ite c a b) ρ).th K=(iT cl c ρ).th (qnk cl w a b K):=by rw[qkh,qc];refine qy _ λt=>?_;rw[jh];rfl
theorem yIte(a b:Ss)(t:Bool):qnk cl w a b K (t,ρ)=if t=true then (iSs cl w a ρ).th K else (iSs cl w b ρ).th K:=(rfl)
theorem xS_for(tg:Tg)(src:I)(b:Ss):(iS cl w (.for_ tg src b) ρ).th K=(iI cl src ρ).th (qnl cl w tg b K):=by rw[qki,qc];rfl
theorem yFor(tg:Tg)(b:Ss)(l:List D):qnl cl w tg b K (l,ρ)=(yc cl w tg b l ρ).th K:=(rfl)
theorem xS_whl(c:T)(b:Ss):(iS cl w (.whl c b) ρ).th K=(whD cl w c b w ρ).th K:=(rfl)
theorem xSs_nil:(iSs cl w .nil ρ).th K=K (.next ρ):=(rfl)
theorem xSs_cons(s:S)(l:Ss):(iSs cl w (.cons s l) ρ).th K=(iS cl w s ρ).th (qhS cl w l K):=by rw[qfj,qc];rfl
theorem yNext(l:Ss):qhS cl w l K (.next ρ)=(iSs cl w l ρ).th K:=(rfl)
theorem yNextr(l:Ss)(r:Rv):qhS cl w l K (.ret r)=K (.ret r):=(rfl)
theorem xFo_cons(tg:Tg)(b:Ss)(d:D)(l:List D):(yc cl w tg b (d::l) ρ).th K=(tg.go d ρ).th (qnm cl w tg b l K):=by rw[qdr,qc,qc];refine qy _ λρ2=>?_;rfl
theorem yFo1(tg:Tg)(b:Ss)(l:List D):qnm cl w tg b l K ρ=(iSs cl w b ρ).th (qlA cl w tg b l K):=(rfl)
theorem yFo2(tg:Tg)(b:Ss)(l:List D):qlA cl w tg b l K (.next ρ)=(yc cl w tg b l ρ).th K:=(rfl)
theorem yFo2r(tg:Tg)(b:Ss)(l:List D)(r:Rv):qlA cl w tg b l K (.ret r)=K (.ret r):=(rfl)
theorem xWh(c:T)(b:Ss)(n:Nat):(whD cl w c b (n+1) ρ).th K=(iT cl c ρ).th (qnn cl w c b n K):=by rw[qfi,qc];refine qy _ λt=>?_;rw[jh,qc];rfl
theorem yWh1(c:T)(b:Ss)(n:Nat)(t:Bool):qnn cl w c b n K (t,ρ)=if t=true then (iSs cl w b ρ).th (qmB cl w c b n K) else K (.next ρ):=(rfl)
theorem yWh2(c:T)(b:Ss)(n:Nat):qmB cl w c b n K (.next ρ)=(whD cl w c b n ρ).th K:=(rfl)
end
section
variable(ρ:Env)(K:List D->R β)(e:E)(tg:Tg)(c:F)(l acc:List D)(d:D)
theorem xP_cons:(zw cl e tg c (d::l) ρ acc).th K=(tg.go d ρ).th (kP1 cl e tg c l acc K):=by
 rw[qb0,qc];refine qy _ λρ1=>?_;rw[qc];refine qy _ λbt=>?_;rw[jh,qc];show(if bt.1=true then _ else _)=(if bt.1=true then _ else _)
 by_cases h:bt.1=true
 ·rw[if_pos h,if_pos h];refine qy _ λx=>?_;rw[jh];rfl
 ·rw[if_neg h,if_neg h]
theorem yP1:kP1 cl e tg c l acc K ρ=(iF cl c ρ).th (kP2 cl e tg c l acc K):=(rfl)
theorem yP2(t:Bool):kP2 cl e tg c l acc K (t,ρ)=if t=true then (ze e (iR cl e) ρ).th (kP3 cl e tg c l acc K) else (zw cl e tg c l ρ acc).th K:=(rfl)
theorem yP3:kP3 cl e tg c l acc K (d,ρ)=if acc.length < sizeLine then (zw cl e tg c l ρ (acc++[d])).th K else .no:=(rfl)
end
end
section
variable{β:Type}(r:Env->R (Rv×Env))(ρ:Env)
theorem eE_bin(K:D×Env->R β)(op:Operator)(a b:E):(ze (.bin op a b) r ρ).th K=(r ρ).th (qcm K):=by rw[show ze (.bin op a b) r ρ=(r ρ).th qbU from rfl,qc];rfl
theorem eL_bin(K:(Sk×List D)×Env->R β)(op:Operator)(a b:E):(jf (.bin op a b) r ρ).th K=(r ρ).th (JY K):=by rw[show jf (.bin op a b) r ρ=(r ρ).th qeq from rfl,qc];rfl
theorem eX_bin(K:Rv->R β)(op:Operator)(a b:E):(Zg (.bin op a b) r ρ).th K=(r ρ).th (kX K):=qc (r ρ) _ _
theorem eA_bin(K:Sl×Env->R β)(op:Operator)(a b:E):(YN (.bin op a b) r ρ).th K=(r ρ).th (kAx K):=qc (r ρ) _ _
theorem eE_rvs(K:D×Env->R β)(a:E):(ze (.rvs a) r ρ).th K=(r ρ).th (qcm K):=by rw[show ze (.rvs a) r ρ=(r ρ).th qbU from rfl,qc];rfl
theorem eX_and(K:Rv->R β)(a b:E):(Zg (.and a b) r ρ).th K=(r ρ).th (kX K):=qc (r ρ) _ _
theorem eX_cmp(K:Rv->R β)(op:CmpOp)(a b:E):(Zg (.cmp op a b) r ρ).th K=(r ρ).th (kX K):=qc (r ρ) _ _
theorem eX_ite(K:Rv->R β)(c:T)(a b:E):(Zg (.ite c a b) r ρ).th K=(r ρ).th (kX K):=qc (r ρ) _ _
theorem eE_idx(K:D×Env->R β)(a b:E):(ze (.idx a b) r ρ).th K=(r ρ).th (qcm K):=by rw[show ze (.idx a b) r ρ=(r ρ).th qbU from rfl,qc];rfl
theorem eL_idx(K:(Sk×List D)×Env->R β)(a b:E):(jf (.idx a b) r ρ).th K=(r ρ).th (JY K):=by rw[show jf (.idx a b) r ρ=(r ρ).th qeq from rfl,qc];rfl
theorem eX_idx(K:Rv->R β)(a b:E):(Zg (.idx a b) r ρ).th K=(r ρ).th (kX K):=qc (r ρ) _ _
theorem eA_idx(K:Sl×Env->R β)(a b:E):(YN (.idx a b) r ρ).th K=(r ρ).th (kAx K):=qc (r ρ) _ _
theorem eL_sli(K:(Sk×List D)×Env->R β)(a:E)(lo hi:O):(jf (.sli a lo hi) r ρ).th K=(r ρ).th (JY K):=by rw[show jf (.sli a lo hi) r ρ=(r ρ).th qeq from rfl,qc];rfl
theorem eE_lst(K:D×Env->R β)(l:Es):(ze (.lst l) r ρ).th K=(r ρ).th (qcm K):=by rw[show ze (.lst l) r ρ=(r ρ).th qbU from rfl,qc];rfl
theorem eA_lst(K:Sl×Env->R β)(l:Es):(YN (.lst l) r ρ).th K=(r ρ).th (kAx K):=qc (r ρ) _ _
theorem eE_tup(K:D×Env->R β)(l:Es):(ze (.tup l) r ρ).th K=(r ρ).th (qcm K):=by rw[show ze (.tup l) r ρ=(r ρ).th qbU from rfl,qc];rfl
theorem eX_tup(K:Rv->R β)(l:Es):(Zg (.tup l) r ρ).th K=(r ρ).th (kX K):=qc (r ρ) _ _
theorem eA_tup(K:Sl×Env->R β)(l:Es):(YN (.tup l) r ρ).th K=(r ρ).th (kAx K):=qc (r ρ) _ _
theorem eE_call(K:D×Env->R β)(f:Str)(l:Es):(ze (.call f l) r ρ).th K=(r ρ).th (qcm K):=by rw[show ze (.call f l) r ρ=(r ρ).th qbU from rfl,qc];rfl
theorem eL_call(K:(Sk×List D)×Env->R β)(f:Str)(l:Es):(jf (.call f l) r ρ).th K=(r ρ).th (JY K):=by rw[show jf (.call f l) r ρ=(r ρ).th qeq from rfl,qc];rfl
theorem eX_call(K:Rv->R β)(f:Str)(l:Es):(Zg (.call f l) r ρ).th K=(r ρ).th (kX K):=qc (r ρ) _ _
theorem eA_calF(K:Sl×Env->R β)(f:Str)(l:Es):(YN (.calF f l) r ρ).th K=(r ρ).th (kAx K):=qc (r ρ) _ _
theorem eA_call(K:Sl×Env->R β)(f:Str)(l:Es):(YN (.call f l) r ρ).th K=(r ρ).th (kAx K):=qc (r ρ) _ _
theorem eE_b1(K:D×Env->R β)(f:B1)(a:E):(ze (.b1 f a) r ρ).th K=(r ρ).th (qcm K):=by rw[show ze (.b1 f a) r ρ=(r ρ).th qbU from rfl,qc];rfl
theorem eL_b1(K:(Sk×List D)×Env->R β)(f:B1)(a:E):(jf (.b1 f a) r ρ).th K=(r ρ).th (JY K):=by rw[show jf (.b1 f a) r ρ=(r ρ).th qeq from rfl,qc];rfl
theorem eX_b1(K:Rv->R β)(f:B1)(a:E):(Zg (.b1 f a) r ρ).th K=(r ρ).th (kX K):=qc (r ρ) _ _
theorem eE_b2(K:D×Env->R β)(f:B2)(a b:E):(ze (.b2 f a b) r ρ).th K=(r ρ).th (qcm K):=by rw[show ze (.b2 f a b) r ρ=(r ρ).th qbU from rfl,qc];rfl
theorem eA_b2(K:Sl×Env->R β)(f:B2)(a b:E):(YN (.b2 f a b) r ρ).th K=(r ρ).th (kAx K):=qc (r ρ) _ _
theorem eL_fld(K:(Sk×List D)×Env->R β)(a:E)(x:Str):(jf (.fld a x) r ρ).th K=(r ρ).th (JY K):=by rw[show jf (.fld a x) r ρ=(r ρ).th qeq from rfl,qc];rfl
theorem eL_met(K:(Sk×List D)×Env->R β)(a:E)(x:Str)(l:Es):(jf (.met a x l) r ρ).th K=(r ρ).th (JY K):=by rw[show jf (.met a x l) r ρ=(r ρ).th qeq from rfl,qc];rfl
theorem eA_met(K:Sl×Env->R β)(a:E)(x:Str)(l:Es):(YN (.met a x l) r ρ).th K=(r ρ).th (kAx K):=qc (r ρ) _ _
theorem eE_new(K:D×Env->R β)(f:Str)(l:Es):(ze (.new f l) r ρ).th K=(r ρ).th (qcm K):=by rw[show ze (.new f l) r ρ=(r ρ).th qbU from rfl,qc];rfl
theorem eX_new(K:Rv->R β)(f:Str)(l:Es):(Zg (.new f l) r ρ).th K=(r ρ).th (kX K):=qc (r ρ) _ _
theorem eE_comp(K:D×Env->R β)(e:E)(src:I)(tg:Tg)(c:F)(n:Nat)(fr:List Nat):(ze (.comp e src tg c n fr) r ρ).th K=(r ρ).th (qcm K):=by rw[show ze (.comp e src tg c n fr) r ρ=(r ρ).th qbU from rfl,qc];rfl
theorem eX_comp(K:Rv->R β)(e:E)(src:I)(tg:Tg)(c:F)(n:Nat)(fr:List Nat):(Zg (.comp e src tg c n fr) r ρ).th K=(r ρ).th (kX K):=qc (r ρ) _ _
theorem eA_comp(K:Sl×Env->R β)(e:E)(src:I)(tg:Tg)(c:F)(n:Nat)(fr:List Nat):(YN (.comp e src tg c n fr) r ρ).th K=(r ρ).th (kAx K):=qc (r ρ) _ _
theorem eE_var(K:D×Env->R β)(i:Nat):(ze (.var i) r ρ).th K=(slE ρ i).th K:=(rfl)
theorem eE_con(K:D×Env->R β)(d:D):(ze (.con d) r ρ).th K=K (d,ρ):=(rfl)
theorem eL_var(K:(Sk×List D)×Env->R β)(i:Nat):(jf (.var i) r ρ).th K=(slL ρ i).th K:=(rfl)
theorem eX_var(K:Rv->R β)(i:Nat):(Zg (.var i) r ρ).th K=(slX ρ i).th K:=(rfl)
theorem eX_con(K:Rv->R β)(d:D):(Zg (.con d) r ρ).th K=K (.val d):=(rfl)
theorem eA_var(K:Sl×Env->R β)(i:Nat):(YN (.var i) r ρ).th K=(slE ρ i).th (kAv K):=qc (slE ρ i) _ _
theorem eA_con(K:Sl×Env->R β)(d:D):(YN (.con d) r ρ).th K=K (.val d,ρ):=(rfl)
end
theorem bAdd(a b:Int):Zd .Add (.val (.int a)) (.val (.int b))=.ok (.val (.int (a+b))):=(rfl)
theorem bAdds(a b:Str):Zd .Add (.val (.str a)) (.val (.str b))=if a.length+b.length<=sizeLine then .ok (.val (.str (a++b))) else .no:=(rfl)
theorem bAddtt(a b:List D):Zd .Add (.tmp a) (.tmp b)=if a.length+b.length<=sizeLine then .ok (.tmp (a++b)) else .no:=(rfl)
theorem bAddct(a b:List D):Zd .Add (.cell a) (.tmp b)=if a.length+b.length<=sizeLine then .ok (.tmp (a++b)) else .no:=(rfl)
theorem bAddvt(a b:List D):Zd .Add (.val (.lst a)) (.tmp b)=if a.length+b.length<=sizeLine then .ok (.tmp (a++b)) else .no:=(rfl)
theorem bSub(a b:Int):Zd .Sub (.val (.int a)) (.val (.int b))=.ok (.val (.int (a - b))):=(rfl)
theorem bMult(a b:Int):Zd .Mult (.val (.int a)) (.val (.int b))=if qem a b=true then .ok (.val (.int (a * b))) else .no:=(rfl)
theorem bDiv(a b:Int):Zd .FloorDiv (.val (.int a)) (.val (.int b))=if 0 < b/\b < 1073741824 then .ok (.val (.int (a / b))) else .no:=(rfl)
theorem bMod(a b:Int):Zd .Mod (.val (.int a)) (.val (.int b))=if 0 < b then .ok (.val (.int (a % b))) else .no:=(rfl)
theorem bPow(a b:Int):Zd .Pow (.val (.int a)) (.val (.int b))=if 0<=b/\b<=1000000/\a.natAbs < 2 ^ 64 then .ok (.val (.int (a ^ b.toNat))) else .no:=(rfl)
theorem cEq(x y:Rv):JS .Eq x y=eqD x.data y.data:=(rfl)
theorem cNe(x y:Rv):JS .NotEq x y=(eqD x.data y.data).map (!·):=(rfl)
theorem cLt(a b:Int):JS .Lt (.val (.int a)) (.val (.int b))=some (decide (a < b)):=(rfl)
theorem cLe(a b:Int):JS .LtE (.val (.int a)) (.val (.int b))=some (decide (a<=b)):=(rfl)
theorem cGt(a b:Int):JS .Gt (.val (.int a)) (.val (.int b))=some (decide (b < a)):=(rfl)
theorem cGe(a b:Int):JS .GtE (.val (.int a)) (.val (.int b))=some (decide (b<=a)):=(rfl)
theorem cIs(x:Rv):JS .Is x (.val .non)=some x.non?:=(rfl)
theorem cIsN(x:Rv):JS .IsNot x (.val .non)=some (!x.non?):=(rfl)
theorem cIn(x y:Rv):JS .In x y=qen x y:=(rfl)
theorem cNi(x y:Rv):JS .NotIn x y=(qen x y).map (!·):=(rfl)
theorem mIn(a b:Str):qen (.val (.str a)) (.val (.str b))=some (qhg a b):=(rfl)
theorem rgoV(i:Nat)(d:D)(ρ:Env):Tg.go (.one i) d ρ=.ok (ρ.set i (.val d)):=(rfl)
theorem rgoT(l:List Nat)(ds:List D)(ρ:Env):Tg.go (.many l) (.tup ds) ρ=Qg l ds ρ:=(rfl)
theorem setIs_nil(ρ:Env):Qg [] [] ρ=.ok ρ:=(rfl)
theorem setIs_cons(i:Nat)(l:List Nat)(d:D)(ds:List D)(ρ:Env):Qg (i::l) (d::ds) ρ=Qg l ds (ρ.set i (.val d)):=(rfl)
end DE
namespace DE
open PySem L2
section
variable{α β:Type}(f:α->β)(a b:α)(l m:List α)(n:Nat)
theorem g_mapc:List.map f (a::l)=f a::List.map f l:=(rfl)
theorem g_mapn:List.map f []=[]:=(rfl)
theorem g_lenc:(a::l).length=l.length+1:=(rfl)
theorem g_lenn:([]:List α).length=0:=(rfl)
theorem g_rep0:List.replicate 0 a=[]:=(rfl)
theorem g_reps:List.replicate (n+1) a=a::List.replicate n a:=(rfl)
theorem g_appc:(a::l)++m=a::(l++m):=(rfl)
theorem g_appn:[]++m=m:=(rfl)
theorem g_set0:(a::l).set 0 b=b::l:=(rfl)
theorem g_sets:(a::l).set (n+1) b=a::l.set n b:=(rfl)
theorem g_last(l:List α)(x:α):atI (l++[x]) (-1)=some x:=L2.qeH ..
theorem g_nott:(!true)=false:=(rfl)
theorem g_notf:(!false)=true:=(rfl)
theorem g_omap:Option.map f (some a)=some (f a):=(rfl)
theorem g_fe:(false=true)=False:=Bool.false_eq_true
theorem g_and(p:Prop):(p/\p)=p:=and_self p
theorem g_dt(h:Decidable True):@decide True h=true:=decide_true ..
theorem g_df(h:Decidable False):@decide False h=false:=decide_false ..
end
def aL(b:Bool)(l:List D):Ar:=match b with
 |true=>.bor l
 |false=>.val (.lst l)
def rA(b:Bool)(l:List D):Rv:=match b with
 |true=>.cell l
 |false=>.val (.lst l)
def pS(b:Bool)(l:List D):Sl:=match b with
 |true=>.bor l
 |false=>.val (.lst l)
def qlB(b:Bool)(l:List D):Sl:=match b with
 |true=>.own l
 |false=>.val (.lst l)
section
variable{β:Type}(b:Bool)(l:List D)(ρ:DE.Env)
theorem lend_v(d:D):qeV (.val d)=.val d:=(rfl)
theorem qmC:qlB true l=.own l:=rfl
theorem qmD:qlB false l=.val (.lst l):=rfl
theorem qb1:aL true l=.bor l:=rfl
theorem qb2:aL false l=.val (.lst l):=rfl
theorem sA_p:toSl (aL b l)=pS b l:=by cases b<;>rfl
theorem sA_R:slR (pS b l::ρ) 0=.ok (rA b l):=by cases b<;>rfl
theorem sA_L(K:(Sk×List D)×DE.Env->R β):(slL (pS b l::ρ) 0).th K=K ((.lst,l),pS b l::ρ):=by cases b<;>rfl
theorem sL_L(K:(Sk×List D)×DE.Env->R β):(slL (qlB b l::ρ) 0).th K=K ((.lst,l),.val (.lst l)::ρ):=by cases b<;>rfl
theorem rA_a:toAr (rA b l)=aL b l:=by cases b<;>rfl
theorem rA_l:(rA b l).list?=some l:=by cases b<;>rfl
theorem rA_s:(rA b l).str?=none:=by cases b<;>rfl
theorem rA_t:(rA b l).tup?=none:=by cases b<;>rfl
theorem rA_y:Ty.list.go (rA b l)=some true:=by cases b<;>rfl
end
noncomputable abbrev RW(pg:Pg)(f:Str)(c:Nat×Nat×Ss):Prop:=∀(k:Nat) (args:List Ar),clK pg (k+1) f args=runD (pg.kk k) 1000 c args
noncomputable abbrev USs(b c:Ss):Prop:=∀{β:Type} (cl:Cl) (w:Nat) (ρ:DE.Env) (K:Fl->R β),(iSs cl w b ρ).th K=(iSs cl w c ρ).th K
noncomputable abbrev UT(b c:T):Prop:=∀{β:Type} (cl:Cl) (ρ:DE.Env) (K:Bool×DE.Env->R β),(iT cl b ρ).th K=(iT cl c ρ).th K
noncomputable abbrev UE(b c:E):Prop:=∀{β:Type} (cl:Cl) (ρ:DE.Env) (K:D×DE.Env->R β),(ze b (iR cl b) ρ).th K=(ze c (iR cl c) ρ).th K
end DE
namespace DE
open PySem L2
section
variable{α β:Type}(cl:Cl)(cx:Str->List Ar->R Rv)(w:Nat)
def zK(l:Ys)(f:Fl):R Fl:=match f with
 |.next ρ1=>iYs cl cx w l ρ1
 |.ret r=>.ok (.ret r)
def zIf(a b:Ys)(t:Bool×Env):R Fl:=if t.1 then iYs cl cx w a t.2 else iYs cl cx w b t.2
def qno(n:Str)(x:List D×Env):R Fl:=mkX cl.cs n x.1
def qnp(o:Option Nat)(ρ:Env)(r:Rv):R Fl:=qhE o r ρ
def qnq(o:Option Nat)(f:Str)(x:List Ar×Env):R Fl:=(cx f x.1).th (qnp o x.2)
noncomputable def qnr(hs:List (Str×Nat×Nat))(n:Nat)(r:R Fl):R Fl:=match r with
 |.exc C l=>yh cl.cs n C l hs
 |r=>r
theorem nTx{x:R α}{a:α}(h:x=.ok a):noX x=.ok a:=by rw[h];rfl
theorem zth_exc(c:Addr)(l:List (Str×D))(K:α->R β):(R.exc c l:R α).th K=.exc c l:=(rfl)
theorem zs_nil(ρ:Env):iYs cl cx w .nil ρ=.ok (.next ρ):=by rw[iYs]
theorem zs_cons(y:Y)(l:Ys)(ρ:Env):iYs cl cx w (.cons y l) ρ=(iY cl cx w y ρ).th (zK cl cx w l):=by rw[iYs];rfl
theorem zK_next(l:Ys)(ρ:Env):zK cl cx w l (.next ρ)=iYs cl cx w l ρ:=(rfl)
theorem zK_ret(l:Ys)(r:Rv):zK cl cx w l (.ret r)=.ok (.ret r):=(rfl)
theorem z_s(s:S)(ρ:Env):iY cl cx w (.s s) ρ=noX (iS cl w s ρ):=by rw[iY]
theorem z_rai(n:Str)(l:Es)(ρ:Env):iY cl cx w (.rai n l) ρ=(noX (iEs cl l ρ)).th (qno cl n):=by rw[iY];rfl
theorem zRai_is(n:Str)(x:List D×Env):qno cl n x=mkX cl.cs n x.1:=(rfl)
theorem z_ite(c:T)(a b:Ys)(ρ:Env):iY cl cx w (.ite c a b) ρ=(noX (iT cl c ρ)).th (zIf cl cx w a b):=by rw[iY];rfl
theorem zIf_t(a b:Ys)(ρ:Env):zIf cl cx w a b (true,ρ)=iYs cl cx w a ρ:=(rfl)
theorem zIf_f(a b:Ys)(ρ:Env):zIf cl cx w a b (false,ρ)=iYs cl cx w b ρ:=(rfl)
theorem z_cal(o:Option Nat)(f:Str)(l:Es)(ρ:Env):iY cl cx w (.cal o f l) ρ=(noX (iAs cl l ρ)).th (qnq cx o f):=by rw[iY];rfl
theorem zCal_is(o:Option Nat)(f:Str)(as:List Ar)(ρ:Env):qnq cx o f (as,ρ)=(cx f as).th (qnp o ρ):=(rfl)
theorem z_try(b:Ys)(hs:List (Str×Nat×Nat))(ρ:Env):iY cl cx w (.try_ b hs) ρ=qnr cl hs ρ.length (iYs cl cx w b ρ):=by
 rw[iY]
 cases iYs cl cx w b ρ<;>rfl
theorem zTry_exc(hs:List (Str×Nat×Nat))(n:Nat)(C:Addr)(l:List (Str×D)):qnr cl hs n (.exc C l)=yh cl.cs n C l hs:=(rfl)
end
end DE
namespace DG
open PySem L2 DE
def qhT:Stmt->List Stmt
 |.ClassDef _ _ _ b _ _ _ _ _ _ _=>b
 |_=>[]
def rk(c:Str):Bool:=c == "Within" || c == "Since" || c == "InRow"
noncomputable def pcs(x:Xs:={}):Cs where
 toXs:=x
 tab:=["Within","Since","InRow","Book"]
 fld:=λc x=>(rk c&&(x == "lands" || x == "most" || (x == "span" && c == "Within")||(x == "leave" && c != "Within")))||(c == "Book" && (x == "kept_rules" || x == "kept_papers"))
 mt:=λc x=>if rk c&&x == "weight" then some "Rule.weight" else if c == "Book" && x == "rules" then some "Book.rules" else if c == "Book" && x == "lifted" then some "Book.lifted" else if c == "Book" && x == "papers" then some "Book.papers" else none
 sub:=λc t=>if rk c&&t == "Within" then some (c == "Within") else if rk c&&t == "Since" then some (c != "Within") else none
noncomputable def qb3(s:Str):Bool:=decide (1<=s.length)&&decide (s.length<=8)&&s.cps.toList.all λc=>decide (97<=c)&&decide (c<=122)
noncomputable def qds:D->Option (Str×Int)
 |.tup [.str s,.int w]=>if qb3 s&&decide (1<=w)&&decide (w<=9) then some (s,w) else none
 |_=>none
noncomputable def YS:List Str->List D->Bool
 |_,[]=>true
 | acc,d::l=>match qds d with
  |some p=>!acc.contains p.1&&YS (acc++[p.1]) l
  |none=>false
def qB(l:List D):Bool:=decide (1<=l.length)&&decide (l.length<=6)&&YS [] l
def btw(n a b:Int):Bool:=decide (a<=n)&&decide (n<=b)
def Zr:D->Bool
 |.ins c _ _=>rk c
 |_=>false
noncomputable def yi(many:Int):D->Bool
 |.tup [.int o,.int a,.int b]=>btw o 0 (many - 1)&&btw a 0 1000000000&&btw b 0 1000000000&&decide (a<=b)
 |_=>false
def arL:Ar->Option (List D)
 |.val (.lst l)=>some l
 |.bor l=>some l
 |_=>none
def arI:Ar->Option Int
 |.val (.int n)=>some n
 |_=>none
noncomputable def qa6:List Ar->Option (List (Str×D))
 |[a,b]=>match arL a,arI b with
  |some l,some m=>if (qB l&&btw m 0 1000000000)=true then some [("lands",.tup l),("most",.int m)] else none
  |_,_=>none
 |_=>none
noncomputable def jS(x:Str):List Ar->Option (List (Str×D))
 |[a,b,c]=>match arL a,arI b,arI c with
  |some l,some m,some s=>if (qB l&&btw m 0 1000000000&&btw s 1 1000000000)=true then some [("lands",.tup l),("most",.int m),(x,.int s)] else none
  |_,_,_=>none
 |_=>none
noncomputable def qb4:List Ar->Option (List (Str×D))
 |[a,b]=>match arL a,arI b with
  |some l,some m=>if (qB l&&btw m 0 1000000000)=true then some [("lands",.tup l),("most",.int m),("leave",.int 1)] else none
  |_,_=>none
 |_=>none
noncomputable def YT:List Ar->Option (List (Str×D))
 |[a,b]=>match arL a,arL b with
  |some l,some ps=>if ((decide (l.length<=8)&&l.all Zr)&&(decide (ps.length<=12)&&ps.all (yi l.length)))=true then some [("kept_rules",.lst l),("kept_papers",.lst ps)] else none
  |_,_=>none
 |_=>none
noncomputable def qb5(c:Str):Option (List (Str×D))->R Rv
 |some fs=>.ok (.val (.ins c (fs.map (·.1)) (fs.map (·.2))))
 |none=>.no
noncomputable def pnw(k:Nat)(f:Str)(args:List Ar):R Rv:=if k < 12 then .no else
 if f = "Within" then qb5 "Within" (jS "span" args) else if f = "Since" then qb5 "Since" (jS "leave" args) else if f = "InRow" then qb5 "InRow" (qb4 args) else if f = "Book" then qb5 "Book" (YT args) else .no
noncomputable def YU:Nat×Nat×Ss:=(1,1,%[.ret (.and (.isi Ty.int (.var 0)) (.one (.not (.isi Ty.bool (.var 0)))))|0])
noncomputable def Jo:Nat×Nat×Ss:=(3,3,%[.ret (.and (.call "is_whole" %[0|0]) (.and (.cmp .LtE (.var 1) (.var 0)) (.one (.cmp .LtE (.var 0) (.var 2)))))|0])
noncomputable def YV:Nat×Nat×Ss:=(2,2,%[.ret (.and (.call "is_between" %[0,.con (.int 0),.con (.int 1000000000)|0]) (.and (.call "is_between" %[1,.con (.int 0),.con (.int 1000000000)|0]) (.one (.cmp .LtE (.var 0) (.var 1)))))|0])
noncomputable abbrev jT:Ss:=%[.ite (.cmp .NotIn (.var 2) (.var 1)) %[.ret (.con (.bl false))|0] .nil|0]
def qV:Ss:=jT
theorem jH:USs qV jT:=λ_ _ _ _=>(rfl)
noncomputable def jU:Nat×Nat×Ss:=(2,3,%[.for_ (.one 2) (.seq (.var 0)) qV,.ret (.con (.bl true))|0])
noncomputable def ji:Nat×Nat×Ss:=(1,1,%[.ite (.not (.val (.isi Ty.str (.var 0)))) %[.ret (.con (.bl false))|0] .nil,.ret (.and (.cmp .LtE (.con (.int 1)) (.b1 .len (.var 0))) (.and (.cmp .LtE (.b1 .len (.var 0)) (.con (.int 8))) (.one (.call "is_made_of" %[0,.con (.str "abcdefghijklmnopqrstuvwxyz")|0]))))|0])
class CH(pg:Pg):Prop where
 r_is_whole:RW pg "is_whole" YU
 r_is_between:RW pg "is_between" Jo
 r_are_days:RW pg "are_days" YV
 r_is_made_of:RW pg "is_made_of" jU
 r_is_name:RW pg "is_name" ji
noncomputable abbrev JZ:Ss:=%[.ite (.and (.val (.var 1)) (.one (.cmp .LtE (.var 2) (.bin .Add (.idx (.idx (.var 1) (.neg (.con (.int 1)))) (.con (.int 1))) (.con (.int 1)))))) %[.setI 1 (.neg (.con (.int 1))) (.tup %[.idx (.idx (.var 1) (.neg (.con (.int 1)))) (.con (.int 0)),.b2 .max (.idx (.idx (.var 1) (.neg (.con (.int 1)))) (.con (.int 1))) (.var 3)|0])|0] %[.app 1 (.tup %[2,3|0])|0]|0]
def Ja:Ss:=JZ
theorem jV:USs Ja JZ:=λ_ _ _ _=>(rfl)
noncomputable def qa7:Nat×Nat×Ss:=(1,4,%[.set 1 (.lst .nil),.for_ (.many [2,3]) (.seq (.b1 .srt (.var 0))) Ja,.ret (.var 1)|0])
class SP(pg:Pg):Prop where
 r_spread:RW pg "spread" qa7
noncomputable def Zs:Nat×Nat×Ss:=(1,1,%[.ite (.or (.not (.val (.isi Ty.tuple (.var 0)))) (.one (.cmp .NotEq (.b1 .len (.var 0)) (.con (.int 2))))) %[.ret (.con (.bl false))|0] .nil,.ret (.and (.call "is_name" %[.idx (.var 0) (.con (.int 0))|0]) (.one (.call "is_between" %[.idx (.var 0) (.con (.int 1)),.con (.int 1),.con (.int 9)|0])))|0])
noncomputable abbrev yj:Ss:=%[.ite (.or (.not (.val (.call "is_land" %[2|0]))) (.one (.cmp .In (.idx (.var 2) (.con (.int 0))) (.var 1)))) %[.ret (.con (.bl false))|0] .nil,.app 1 (.idx (.var 2) (.con (.int 0)))|0]
def jB:Ss:=yj
theorem J0:USs jB yj:=λ_ _ _ _=>(rfl)
noncomputable def J1:Nat×Nat×Ss:=(1,3,%[.ite (.or (.not (.val (.isi Ty.list (.var 0)))) (.or (.cmp .Lt (.b1 .len (.var 0)) (.con (.int 1))) (.one (.cmp .Gt (.b1 .len (.var 0)) (.con (.int 6)))))) %[.ret (.con (.bl false))|0] .nil,.set 1 (.lst .nil),.for_ (.one 2) (.seq (.var 0)) jB,.ret (.con (.bl true))|0])
abbrev jI:Ss:=%[.ite (.cmp .Eq (.var 2) (.var 1)) %[.ret (.var 3)|0] .nil|0]
def zH:Ss:=jI
theorem jj:USs zH jI:=λ_ _ _ _=>(rfl)
noncomputable def jC:Nat×Nat×Ss:=(2,4,%[.for_ (.many [2,3]) (.seq (.fld (.var 0) "lands")) zH,.ret (.con (.int 0))|0])
class RU(pg:Pg):Prop where
 cs:pg.cs=pcs pg.xx
 nw:pg.nw=pnw
 r_is_land:RW pg "is_land" Zs
 r_are_lands:RW pg "are_lands" J1
 r_Rule_weight:RW pg "Rule.weight" jC
noncomputable abbrev yk:Ss:=%[.ite (.and (.not (.val (.isc "Within" (.var 1)))) (.one (.not (.val (.isc "Since" (.var 1)))))) %[.ret (.con (.bl false))|0] .nil|0]
def jD:Ss:=yk
theorem jW:USs jD yk:=λ_ _ _ _=>(rfl)
noncomputable def J2:Nat×Nat×Ss:=(1,2,%[.ite (.or (.not (.val (.isi Ty.list (.var 0)))) (.one (.cmp .Gt (.b1 .len (.var 0)) (.con (.int 8))))) %[.ret (.con (.bl false))|0] .nil,.for_ (.one 1) (.seq (.var 0)) jD,.ret (.con (.bl true))|0])
noncomputable def YW:Nat×Nat×Ss:=(2,2,%[.ite (.or (.not (.val (.isi Ty.tuple (.var 0)))) (.one (.cmp .NotEq (.b1 .len (.var 0)) (.con (.int 3))))) %[.ret (.con (.bl false))|0] .nil,.ret (.and (.call "is_between" %[.idx (.var 0) (.con (.int 0)),.con (.int 0),.bin .Sub (.var 1) (.con (.int 1))|0]) (.one (.call "are_days" %[.idx (.var 0) (.con (.int 1)),.idx (.var 0) (.con (.int 2))|0])))|0])
noncomputable abbrev jk:Ss:=%[.ite (.not (.val (.call "is_paper" %[3,1|0]))) %[.stuck|0] .nil|0]
def zg:Ss:=jk
theorem yM:USs zg jk:=λ_ _ _ _=>(rfl)
noncomputable def ym:Nat×Nat×Ss:=(2,4,%[.ite (.not (.val (.isi Ty.list (.var 0)))) %[.stuck|0] .nil,.for_ (.many [2,3]) (.enum (.var 0)) zg,.ite (.cmp .Gt (.b1 .len (.var 0)) (.con (.int 12))) %[.stuck|0] .nil|0])
def Jp:Nat×Nat×Ss:=(1,1,%[.ret (.b1 .list (.fld (.var 0) "kept_rules"))|0])
def Qn:Nat×Nat×Ss:=(1,1,%[.ret (.b1 .list (.fld (.var 0) "kept_papers"))|0])
abbrev jJ:E:=(.tup %[1,2|0])
def zI:E:=jJ
theorem jl:UE zI jJ:=λ_ _ _=>(rfl)
noncomputable def yN:Nat×Nat×Ss:=(2,2,%[.ret (.call "spread" %[.comp zI (.seq (.fld (.var 0) "kept_papers")) (.many [0,1,2]) (.test (.cmp .Eq (.var 0) (.var 3))) 3 [1]|0])|0])
class BO(pg:Pg):Prop where
 r_are_rules:RW pg "are_rules" J2
 r_is_paper:RW pg "is_paper" YW
 r_check_papers:RW pg "check_papers" ym
 r_Book_rules:RW pg "Book.rules" Jp
 r_Book_papers:RW pg "Book.papers" Qn
 r_Book_lifted:RW pg "Book.lifted" yN
end DG
namespace DG
open PySem L2 DE
noncomputable abbrev Zt:T:=(.and (.cmp .Lt (.var 3) (.b1 .len (.var 0))) (.one (.cmp .Lt (.var 4) (.b1 .len (.var 1)))))
def Qo:T:=Zt
theorem yd:UT Qo Zt:=λ_ _ _=>(rfl)
noncomputable abbrev Zu:Ss:=%[.set 5 (.b2 .max (.idx (.idx (.var 0) (.var 3)) (.con (.int 0))) (.idx (.idx (.var 1) (.var 4)) (.con (.int 0)))),.set 6 (.b2 .min (.idx (.idx (.var 0) (.var 3)) (.con (.int 1))) (.idx (.idx (.var 1) (.var 4)) (.con (.int 1)))),.ite (.cmp .LtE (.var 5) (.var 6)) %[.app 2 (.tup %[5,6|0])|0] .nil,.ite (.cmp .Lt (.idx (.idx (.var 0) (.var 3)) (.con (.int 1))) (.idx (.idx (.var 1) (.var 4)) (.con (.int 1)))) %[.set 3 (.bin .Add (.var 3) (.con (.int 1)))|0] %[.set 4 (.bin .Add (.var 4) (.con (.int 1)))|0]|0]
def Qp:Ss:=Zu
theorem YX:USs Qp Zu:=λ_ _ _ _=>(rfl)
noncomputable def qgl:Nat×Nat×Ss:=(2,7,%[.set 2 (.lst .nil),.set 3 (.con (.int 0)),.set 4 (.con (.int 0)),.whl Qo Qp,.ret (.var 2)|0])
noncomputable abbrev Jq:Ss:=%[.ite (.cmp .Lt (.var 4) (.idx (.var 5) (.con (.int 0)))) %[.app 3 (.tup %[4,.bin .Sub (.idx (.var 5) (.con (.int 0))) (.con (.int 1))|0])|0] .nil,.set 4 (.b2 .max (.var 4) (.bin .Add (.idx (.var 5) (.con (.int 1))) (.con (.int 1))))|0]
def yw:Ss:=Jq
theorem yP:USs yw Jq:=λ_ _ _ _=>(rfl)
noncomputable def J3:Nat×Nat×Ss:=(3,6,%[.set 3 (.lst .nil),.set 4 (.var 1),.for_ (.one 5) (.seq (.var 0)) yw,.ite (.cmp .LtE (.var 4) (.var 2)) %[.app 3 (.tup %[4,2|0])|0] .nil,.ret (.var 3)|0])
noncomputable def qgm:Nat×Nat×Ss:=(2,2,%[.ite (.not (.val (.var 0))) %[.ret (.lst .nil)|0] .nil,.ret (.call "both" %[0,.call "outside" %[1,.idx (.idx (.var 0) (.con (.int 0))) (.con (.int 0)),.idx (.idx (.var 0) (.neg (.con (.int 1)))) (.con (.int 1))|0]|0])|0])
class BT(pg:Pg):Prop where
 r_both:RW pg "both" qgl
 r_outside:RW pg "outside" J3
 r_less:RW pg "less" qgm
abbrev jm:E:=(.tup %[0,1,2|0])
def zh:E:=jm
theorem yQ:UE zh jm:=λ_ _ _=>(rfl)
noncomputable abbrev jn:Ss:=%[.set 9 (.met (.var 3) "weight" %[6|0]),.ite (.cmp .Gt (.var 9) (.con (.int 0))) %[.ext 5 (.comp zh (.seq (.call "less" %[.lst %[.tup %[7,8|0]|0],4|0])) (.many [0,1]) .yes 2 [9])|0] .nil|0]
def zi:Ss:=jn
theorem zV:USs zi jn:=λ_ _ _ _=>(rfl)
noncomputable def yn:Nat×Nat×Ss:=(3,10,%[.set 3 (.idx (.met (.var 0) "rules" .nil) (.var 1)),.set 4 (.met (.var 0) "lifted" %[1|0]),.set 5 (.lst .nil),.for_ (.many [6,7,8]) (.seq (.var 2)) zi,.ret (.var 5)|0])
class PC(pg:Pg):Prop where
 r_pieces_among:RW pg "pieces_among" yn
noncomputable abbrev J4:Ss:=%[.set 7 (.bin .Add (.bin .Sub (.b2 .min (.var 5) (.var 2)) (.b2 .max (.var 4) (.var 1))) (.con (.int 1))),.ite (.cmp .Gt (.var 7) (.con (.int 0))) %[.set 3 (.bin .Add (.var 3) (.bin .Mult (.var 7) (.var 6)))|0] .nil|0]
def Jb:Ss:=J4
theorem Jr:USs Jb J4:=λ_ _ _ _=>(rfl)
noncomputable def qa8:Nat×Nat×Ss:=(3,8,%[.set 3 (.con (.int 0)),.for_ (.many [4,5,6]) (.seq (.var 0)) Jb,.ret (.var 3)|0])
noncomputable abbrev jK:Ss:=%[.ite (.cmp .LtE (.var 4) (.var 2)) %[.ite (.cmp .GtE (.bin .Sub (.bin .Sub (.var 3) (.con (.int 1))) (.b2 .min (.var 5) (.var 2))) (.var 1)) %[.ret (.var 3)|0] .nil,.set 3 (.var 4)|0] .nil|0]
def zJ:Ss:=jK
theorem qS:USs zJ jK:=λ_ _ _ _=>(rfl)
noncomputable def yR:Nat×Nat×Ss:=(3,7,%[.set 3 (.bin .Add (.var 2) (.con (.int 1))),.for_ (.many [4,5,6]) (.rev (.var 0)) zJ,.ret (.var 3)|0])
noncomputable def qT:Nat×Nat×Ss:=(3,3,%[.ite (.val (.isc "Within" (.var 0))) %[.ret (.bin .Add (.bin .Sub (.var 2) (.fld (.var 0) "span")) (.con (.int 1)))|0] .nil,.ret (.call "first_since" %[1,.fld (.var 0) "leave",2|0])|0])
noncomputable def yS:Nat×Nat×Ss:=(3,3,%[.ret (.call "sum_of" %[1,.call "first_of_window" %[0,1,2|0],2|0])|0])
class SU(pg:Pg):Prop where
 r_sum_of:RW pg "sum_of" qa8
 r_first_since:RW pg "first_since" yR
 r_first_of_window:RW pg "first_of_window" qT
 r_count_among:RW pg "count_among" yS
noncomputable abbrev yT:Ss:=%[.app 2 (.bin .Add (.var 3) (.fld (.var 0) "span")),.app 2 (.bin .Add (.bin .Add (.var 4) (.con (.int 1))) (.fld (.var 0) "span"))|0]
def jX:Ss:=yT
theorem YA:USs jX yT:=λ_ _ _ _=>(rfl)
noncomputable def Jc:Nat×Nat×Ss:=(2,6,%[.set 2 (.lst .nil),.ite (.val (.isc "Within" (.var 0))) %[.for_ (.many [3,4,5]) (.seq (.var 1)) jX|0] .nil,.ret (.var 2)|0])
noncomputable def zy:Nat×Nat×Ss:=(4,7,%[.set 4 (.call "count_among" %[0,1,.bin .Sub (.var 2) (.con (.int 1))|0]),.set 5 (.bin .Sub (.call "count_among" %[0,1,2|0]) (.var 4)),.ite (.cmp .LtE (.var 5) (.con (.int 0))) %[.ret (.con .non)|0] .nil,.set 6 (.bin .Add (.var 2) (.bin .FloorDiv (.bin .Sub (.fld (.var 0) "most") (.var 4)) (.var 5))),.ret (.ite (.cmp .LtE (.var 6) (.var 3)) (.var 6) (.con .non))|0])
abbrev jo:E:=(.var 0)
def zj:E:=jo
theorem yU:UE zj jo:=λ_ _ _=>(rfl)
abbrev jp:E:=(.bin .Sub (.var 0) (.con (.int 1)))
def zk:E:=jp
theorem yV:UE zk jp:=λ_ _ _=>(rfl)
noncomputable abbrev jq:Ss:=%[.set 10 (.call "first_above" %[0,1,7,9|0]),.ite (.cmp .IsNot (.var 10) (.con .non)) %[.ret (.var 10)|0] .nil|0]
def zn:Ss:=jq
theorem zW:USs zn jq:=λ_ _ _ _=>(rfl)
noncomputable abbrev jr:Ss:=%[.set 6 (.bin .Add (.lst %[3|0]) (.comp zj (.seq (.var 2)) (.one 0) (.test (.and (.cmp .Lt (.var 1) (.var 0)) (.one (.cmp .LtE (.var 0) (.var 2))))) 1 [3,4])),.set 8 (.bin .Add (.comp zk (.seq (.sli (.var 6) (.some (.con (.int 1))) .none)) (.one 0) .yes 1 []) (.lst %[4|0])),.for_ (.many [7,9]) (.zip (.var 6) (.var 8)) zn|0]
def zo:Ss:=jr
theorem zX:USs zo jr:=λ_ _ _ _=>(rfl)
noncomputable def z9:Nat×Nat×Ss:=(2,11,%[.set 2 (.call "turns_of" %[0,1|0]),.for_ (.many [3,4,5]) (.seq (.var 1)) zo,.ret (.con .non)|0])
class FK(pg:Pg):Prop where
 r_turns_of:RW pg "turns_of" Jc
 r_first_above:RW pg "first_above" zy
 r_first_broken:RW pg "first_broken" z9
noncomputable abbrev jL:Ss:=%[.set 5 (.call "pieces_among" %[0,3,1|0]),.set 6 (.call "first_broken" %[4,5|0]),.ite (.and (.cmp .IsNot (.var 6) (.con .non)) (.one (.or (.cmp .Is (.var 2) (.con .non)) (.one (.cmp .Lt (.var 6) (.idx (.var 2) (.con (.int 0)))))))) %[.set 2 (.tup %[6,3,.call "first_of_window" %[4,5,6|0]|0])|0] .nil|0]
def zL:Ss:=jL
theorem Jd:USs zL jL:=λ_ _ _ _=>(rfl)
noncomputable def yW:Nat×Nat×Ss:=(2,7,%[.set 2 (.con .non),.for_ (.many [3,4]) (.enum (.met (.var 0) "rules" .nil)) zL,.ret (.var 2)|0])
class FM(pg:Pg):Prop where
 r_fault_among:RW pg "fault_among" yW
end DG
namespace FZ
open PySem L2 DE DG
noncomputable def J5:Nat×Nat×Ss:=(2,2,%[.ite (.cmp .Lt (.var 1) (.b1 .len (.var 0))) %[.ret (.idx (.var 0) (.var 1))|0] .nil,.ret (.con (.int 0))|0])
class ZA(pg:Pg):Prop where
 r__law_at:RW pg "_law_at" J5
noncomputable abbrev yo:Ss:=%[.set 3 (.bin .Add (.var 3) (.idx (.con (.str "abcdefghijklmnopqrstuvwxyz")) (.bin .Mod (.var 1) (.con (.int 26))))),.set 1 (.bin .FloorDiv (.var 1) (.con (.int 26)))|0]
def jE:Ss:=yo
theorem J6:USs jE yo:=λ_ _ _ _=>(rfl)
noncomputable def J7:Nat×Nat×Ss:=(1,5,%[.set 1 (.bin .Mod (.bin .Mult (.var 0) (.con (.int 1099087573))) (.con (.int 10000000000037))),.set 2 (.bin .Add (.con (.int 1)) (.bin .Mod (.var 1) (.con (.int 7)))),.set 1 (.bin .FloorDiv (.var 1) (.con (.int 7))),.set 3 (.con (.str "")),.for_ (.one 4) (.rng (.var 2)) jE,.ret (.var 3)|0])
class ZW(pg:Pg):Prop where
 r__law_word:RW pg "_law_word" J7
noncomputable abbrev jY:E:=(.bin .Add (.bin .Add (.sli (.var 1) .none (.some (.var 2))) (.var 0)) (.sli (.var 1) (.some (.var 2)) .none))
def ja:E:=jY
theorem Jw:UE ja jY:=λ_ _ _=>(rfl)
noncomputable def Js:Nat×Nat×Ss:=(2,4,%[.set 2 (.call "_law_word" %[0|0]),.set 3 (.bin .Mod (.var 0) (.bin .Add (.b1 .len (.var 2)) (.con (.int 1)))),.ret (.comp ja (.seq (.sli (.con (.str "kcxq")) .none (.some (.var 1)))) (.one 0) .yes 1 [2,3])|0])
class ZN(pg:Pg):Prop where
 r__law_names:RW pg "_law_names" Js
noncomputable def jF:Nat×Nat×Ss:=(1,1,%[.ite (.cmp .Eq (.idx (.var 0) (.con (.int 0))) (.con (.int 0))) %[.ret (.new "Within" %[.b1 .list (.idx (.var 0) (.con (.int 1))),.idx (.var 0) (.con (.int 2)),.idx (.var 0) (.con (.int 3))|0])|0] .nil,.ite (.cmp .Eq (.idx (.var 0) (.con (.int 0))) (.con (.int 1))) %[.ret (.new "Since" %[.b1 .list (.idx (.var 0) (.con (.int 1))),.idx (.var 0) (.con (.int 2)),.idx (.var 0) (.con (.int 3))|0])|0] .nil,.ret (.new "InRow" %[.b1 .list (.idx (.var 0) (.con (.int 1))),.idx (.var 0) (.con (.int 2))|0])|0])
class ZR(pg:Pg):Prop where
 r__law_rule:RW pg "_law_rule" jF
noncomputable abbrev jM:Ss:=%[.set 6 (.bin .Mod (.bin .Mult (.var 5) (.con (.int 16807))) (.con (.int 2147483629))),.ite (.cmp .Gt (.var 1) (.con (.int 0))) %[.set 7 (.bin .Add (.var 2) (.bin .Mod (.bin .FloorDiv (.var 6) (.con (.int 8))) (.b2 .max (.con (.int 1)) (.var 3)))),.app 4 (.tup %[.bin .Mod (.var 6) (.var 1),7,.bin .Add (.var 7) (.bin .Mod (.bin .FloorDiv (.var 6) (.con (.int 64))) (.bin .Add (.con (.int 1)) (.bin .FloorDiv (.var 3) (.con (.int 4)))))|0])|0] .nil|0]
def zM:Ss:=jM
theorem Je:USs zM jM:=λ_ _ _ _=>(rfl)
noncomputable def yY:Nat×Nat×Ss:=(4,8,%[.set 4 (.lst .nil),.for_ (.one 5) (.seq (.var 0)) zM,.ret (.var 4)|0])
class ZP(pg:Pg):Prop where
 r__law_papers:RW pg "_law_papers" yY
end FZ
namespace FY
open PySem L2 DE DG
noncomputable def J8:Nat×Nat×Ss:=(3,7,%[.set 3 (.bin .Mod (.bin .Mult (.var 0) (.con (.int 48271))) (.con (.int 2147483647))),.set 4 (.lst %[.tup %[.idx (.var 1) (.bin .Mod (.var 3) (.b1 .len (.var 1))),.bin .Add (.con (.int 1)) (.bin .Mod (.bin .FloorDiv (.var 3) (.con (.int 4))) (.con (.int 3)))|0]|0]),.ite (.and (.cmp .Eq (.bin .Mod (.bin .FloorDiv (.var 3) (.con (.int 12))) (.con (.int 2))) (.con (.int 1))) (.one (.cmp .Gt (.b1 .len (.var 1)) (.con (.int 1))))) %[.app 4 (.tup %[.idx (.var 1) (.bin .Mod (.bin .Add (.var 3) (.con (.int 1))) (.b1 .len (.var 1))),.bin .Add (.con (.int 1)) (.bin .Mod (.bin .FloorDiv (.var 3) (.con (.int 24))) (.con (.int 9)))|0])|0] .nil,.set 5 (.bin .Mod (.bin .FloorDiv (.var 3) (.con (.int 216))) (.con (.int 25))),.set 6 (.bin .Add (.con (.int 1)) (.bin .Mod (.bin .FloorDiv (.var 3) (.con (.int 5400))) (.con (.int 30)))),.ite (.val (.var 2)) %[.set 5 (.bin .Mod (.var 0) (.bin .Pow (.con (.int 10)) (.con (.int 7)))),.set 6 (.bin .Add (.con (.int 1)) (.bin .Mod (.var 3) (.bin .Pow (.con (.int 10)) (.con (.int 7)))))|0] .nil,.ret (.tup %[.bin .Mod (.bin .FloorDiv (.var 3) (.con (.int 162000))) (.con (.int 3)),4,5,6|0])|0])
class ZY(pg:Pg):Prop where
 r__law_spec:RW pg "_law_spec" J8
end FY
namespace DG
open PySem L2 DE
open CH SP RU BO
section
variable{pg:Pg}[CH pg]
theorem qfn(k:Nat)(n:Int):clK pg (k+1) "is_whole" [.val (.int n)]=.ok (.val (.bl true)):=by rw[r_is_whole];simp? only[YU]
theorem js(k:Nat)(n a b:Int)(h1:a<=n)(h2:n<=b):clK pg (k+2) "is_between" [.val (.int n),.val (.int a),.val (.int b)]=.ok (.val (.bl true)):=by rw[r_is_between];simp? only[Jo,qfn,h1,h2,decide_true]
theorem qhU(k:Nat)(a b:Int)(h0:0<=a)(h1:a<=b)(h2:b<=1000000000):clK pg (k+3) "are_days" [.val (.int a),.val (.int b)]=.ok (.val (.bl true)):=by
 have h3:a<=1000000000:=by lia
 have h4:0<=b:=by lia
 rw[r_are_days];simp? only[YV,js k a 0 1000000000 h0 h3,js k b 0 1000000000 h4 h2,h1,decide_true]
def jZ(c:Nat):Prop:=97<=c/\c < 123
theorem qhV(c:Nat)(h:jZ c):qhg ⟨#[c]⟩ "abcdefghijklmnopqrstuvwxyz" = true:=by
 have key:∀j:Fin 26,qhg ⟨#[97+j.val]⟩ "abcdefghijklmnopqrstuvwxyz" = true:=by decide+kernel
 have:=key ⟨c - 97,by unfold jZ at h;lia⟩
 rw[show 97+(c - 97)=c by unfold jZ at h;lia] at this;exact this
theorem J9(k:Nat)(z:Str):∀(l:List Nat) (s:Sl),(∀c∈l,jZ c)->∃s',yc (pg.kk k) 1000 (.one 2) qV (l.map λc=>D.str ⟨#[c]⟩) [.val (.str z),.val (.str "abcdefghijklmnopqrstuvwxyz"),s]=.ok (.next [.val (.str z),.val (.str "abcdefghijklmnopqrstuvwxyz"),s'])
 |[],s,_=>⟨s,by rw[List.map_nil,zU]⟩
 | c::l,s,h=>by obtain⟨s',e⟩:=J9 k z l (.val (.str ⟨#[c]⟩)) λx hx=>h x (by simp[hx]);refine⟨s',?_⟩;refine(qk _).symm.trans ?_;rw[List.map_cons];simp? only[jH,qhV c (h c (by simp)),e]
theorem qhW(k:Nat)(z:Str)(h:∀c∈z.cps.toList,jZ c):clK pg (k+1) "is_made_of" [.val (.str z),.val (.str "abcdefghijklmnopqrstuvwxyz")]=.ok (.val (.bl true)):=by rw[r_is_made_of];obtain⟨s',e⟩:=J9 (pg:=pg) k z z.cps.toList .no h;simp? only[jU,Nat.reduceAdd,Nat.reduceSub,qbS,e]
structure NameOk(z:Str):Prop where
 one:1<=z.cps.size
 eight:z.cps.size<=8
 lets:∀c∈z.cps.toList,jZ c
theorem qai(k:Nat)(z:Str)(h:NameOk z):clK pg (k+2) "is_name" [.val (.str z)]=.ok (.val (.bl true)):=by
 have hz:z.length<=sizeLine:=by
  have:=h.eight
  show z.cps.size<=2 ^ 24
  lia
 have h1:(1:Int)<=(z.length:Int):=by
  have:=h.one
  show(1:Int)<=(z.cps.size:Int)
  lia
 have h8:(z.length:Int)<=8:=by
  have:=h.eight
  show(z.cps.size:Int)<=8
  lia
 rw[r_is_name];simp? only[ji,hz,h1,h8,decide_true,qhW k z h.lets]
def stD(s:Str×Int×Int):D:=.tup [.str s.1,.int s.2.1,.int s.2.2]
theorem qdt(s:Str×Int×Int):stD s=.tup [.str s.1,.int s.2.1,.int s.2.2]:=rfl
structure StOk(e:Int)(s:Str×Int×Int):Prop where
 nm:NameOk s.1
 lo:e < s.2.1
 ab:s.2.1<=s.2.2
 hi:s.2.2<=1000000000
end
section
variable{pg:Pg}[CH pg]
def Ch:Int->List (Str×Int×Int)->Prop
 |_,[]=>True
 | e,s::l=>StOk e s/\Ch s.2.2 l
end
theorem NameOk.of{z:Str}(h:qb3 z=true):NameOk z:=by
 unfold qb3 at h;simp only[Bool.and_eq_true,decide_eq_true_eq,List.all_eq_true] at h;refine⟨h.1.1,h.1.2,λc hc=>?_⟩
 have:=h.2 c hc
 unfold jZ
 lia
theorem qfo{d:D}{p:Str×Int}(h:qds d=some p):d=.tup [.str p.1,.int p.2]/\NameOk p.1/\1<=p.2/\p.2<=9:=by
 unfold qds at h
 split at h
 ·rename_i s w
  split at h
  ·rename_i hc;cases h;simp only[Bool.and_eq_true,decide_eq_true_eq] at hc;exact⟨rfl,NameOk.of hc.1.1,hc.1.2,hc.2⟩
  ·cases h
 ·cases h
section
variable{pg:Pg}[CH pg][RU pg]
theorem qhX(k:Nat)(s:Str)(w:Int)(hs:NameOk s)(h1:1<=w)(h9:w<=9):clK pg (k+3) "is_land" [.val (.tup [.str s,.int w])]=.ok (.val (.bl true)):=by
 rw[r_is_land];have e0:atI [D.str s,D.int w] 0=some (.str s):=by rfl
 have e1:atI [D.str s,D.int w] 1=some (.int w):=by rfl
 simp? only[Zs,e0,e1,qL,qai k s hs,js k w 1 9 h1 h9,show((((0+1+1:Nat):Int) == 2)=true) from rfl]
end
theorem qfp(s:Str)(acc:List Str):inD (.str s) (acc.map D.str)=some (acc.contains s):=by
 have e:∀acc:List Str,inV (V.str s) (acc.map V.str)=acc.contains s:=by
  intro acc
  induction acc with
  |nil=>rfl
  |cons z l ih=>
   rw[List.map_cons,List.contains_cons,<-ih];show(eqV (V.str z) (V.str s)||_)=_
   congr 1
   exact BEq.comm
 unfold inD;rw[if_pos (by simp[Yy]),show(acc.map D.str).map flV=acc.map V.str by simp[flV]];exact congrArg some (e acc)
theorem Yb(s:Str)(acc:List Str):qen (.val (.str s)) (.cell (acc.map D.str))=some (acc.contains s):=qfp s acc
section
variable{pg:Pg}[CH pg][RU pg]
theorem YY(k:Nat)(v:Sl):∀(l:List D) (acc:List Str) (s2:Sl),YS acc l=true->acc.length+l.length < 1000->∃acc' s2',yc (pg.kk (k+3)) 1000 (.one 2) jB l [v,.own (acc.map D.str),s2]=.ok (.next [v,.own acc',s2'])
 |[],acc,s2,_,_=>⟨_,s2,rfl⟩
 | d::l,acc,s2,h,hl=>by
  unfold YS at h
  cases e:qds d with
  |none=>rw[e] at h;cases h
  |some p=>
   rw[e] at h;simp only[Bool.and_eq_true,Bool.not_eq_true'] at h;obtain⟨rfl,hn,h1,h9⟩:=qfo e;rw[List.length_cons] at hl;obtain⟨acc',s2',ih⟩:=YY k v l (acc++[p.1]) (.val (.tup [.str p.1,.int p.2])) h.2 (by simp;lia);refine⟨acc',s2',?_⟩;rw[List.map_append,List.map_cons,List.map_nil] at ih;have e0:atI [D.str p.1,D.int p.2] 0=some (.str p.1):=by rfl
   have hs:(acc.map D.str).length < sizeLine:=by
    rw[List.length_map];show acc.length < 2 ^ 24
    lia
   refine(qk _).symm.trans ?_;simp? only[J0,e0,qhX k p.1 p.2 hn h1 h9,Yb,h.1,hs,ih]
theorem qaj(k:Nat)(b:Bool)(l:List D)(h:qB l=true):clK pg (k+4) "are_lands" [aL b l]=.ok (.val (.bl true)):=by
 unfold qB at h;simp only[Bool.and_eq_true,decide_eq_true_eq] at h;have h1:¬ (l.length:Int) < 1:=by have:=h.1.1;lia
 have h2:¬ (6:Int) < (l.length:Int):=by have:=h.1.2;lia
 rw[r_are_lands];obtain⟨acc',s2',ih⟩:=YY (pg:=pg) k (pS b l) l [] .no h.2 (by have:=h.1.2;simp;lia);rw[List.map_nil] at ih;simp? only[J1,h1,h2,show(0:Nat)<=sizeLine by decide+kernel,ih]
end
section
variable{pg:Pg}[CH pg]
theorem qkQ(k:Nat)(n a b:Int)(h:btw n a b=true):clK pg (k+2) "is_between" [.val (.int n),.val (.int a),.val (.int b)]=.ok (.val (.bl true)):=by unfold btw at h;simp only[Bool.and_eq_true,decide_eq_true_eq] at h;exact js k n a b h.1 h.2
end
theorem YZ(cl:Cl){xx:Xs}(hc:cl.cs=pcs xx)(v:Sl):∀(l:List D) (s1:Sl),l.all Zr=true->∃s1',yc cl 1000 (.one 1) jD l [v,s1]=.ok (.next [v,s1'])
 |[],s1,_=>⟨s1,rfl⟩
 | d::l,s1,h=>by
  rw[List.all_cons,Bool.and_eq_true] at h
  cases d with
  |ins c ns ds=>
   obtain⟨s1',ih⟩:=YZ cl hc v l (.val (.ins c ns ds)) h.2;refine⟨s1',?_⟩;have hk:rk c=true:=h.1
   have i1:qep (pcs xx) (.val (.ins c ns ds)) "Within" = some (c == "Within"):=by show(if (rk c&&_)=true then _ else _)=_;rw[hk];rfl
   have i2:qep (pcs xx) (.val (.ins c ns ds)) "Since" = some (c != "Within"):=by show(if (rk c&&false)=true then _ else if (rk c&&true)=true then _ else _)=_;rw[hk];rfl
   refine(qk _).symm.trans ?_
   by_cases hw:(c == "Within")=true
   ·simp? only[jW,hc,i1,hw,ih]
   ·have hw:(c == "Within")=false:=by simpa using hw
    have hn:(c != "Within")=true:=by simp[bne,hw]
    simp? only[jW,hc,i1,i2,hw,hn,ih]
  |_=>cases h.1
section
variable{pg:Pg}[CH pg][RU pg][BO pg]
theorem qak(k:Nat)(b:Bool)(l:List D)(h:(decide (l.length<=8)&&l.all Zr)=true):clK pg (k+1) "are_rules" [aL b l]=.ok (.val (.bl true)):=by
 simp only[Bool.and_eq_true,decide_eq_true_eq] at h;have h2:¬ (8:Int) < (l.length:Int):=by have:=h.1;lia
 rw[r_are_rules];obtain⟨s1',ih⟩:=YZ (pg.kk k) RU.cs (pS b l) l .no h.2;simp? only[J2,h2,ih]
end
theorem qdu{n:Int}{d:D}(h:yi n d=true):∃o a b,d=.tup [.int o,.int a,.int b]/\0<=o/\o<=n - 1/\0<=a/\a<=b/\b<=1000000000:=by
 unfold yi at h
 split at h
 ·rename_i o a b;simp only[btw,Bool.and_eq_true,decide_eq_true_eq] at h;exact⟨o,a,b,rfl,by lia,by lia,by lia,by lia,by lia⟩
 ·cases h
section
variable{pg:Pg}[CH pg][BO pg]
theorem qfq(k:Nat)(n:Int)(d:D)(h:yi n d=true):clK pg (k+4) "is_paper" [.val d,.val (.int n)]=.ok (.val (.bl true)):=by
 obtain⟨o,a,b,rfl,h1,h2,h3,h4,h5⟩:=qdu h;have e0:atI [D.int o,D.int a,D.int b] 0=some (.int o):=by rfl
 have e1:atI [D.int o,D.int a,D.int b] 1=some (.int a):=by rfl
 have e2:atI [D.int o,D.int a,D.int b] 2=some (.int b):=by rfl
 rw[r_is_paper];simp? only[YW,e0,e1,e2,qL,js (k+1) o 0 (n - 1) h1 h2,qhU k a b h3 h4 h5,show((((0+1+1+1:Nat):Int) == 3)=true) from rfl]
theorem zN(k:Nat)(v:Sl)(n:Int):∀(l:List D) (i:Nat) (s2 s3:Sl),l.all (yi n)=true->∃s2' s3',yc (pg.kk (k+4)) 1000 (.many [2,3]) zg (enF i l) [v,.val (.int n),s2,s3]=.ok (.next [v,.val (.int n),s2',s3'])
 |[],i,s2,s3,_=>⟨s2,s3,rfl⟩
 | d::l,i,s2,s3,h=>by rw[List.all_cons,Bool.and_eq_true] at h;obtain⟨s2',s3',ih⟩:=zN k v n l (i+1) (.val (.int i)) (.val d) h.2;refine⟨s2',s3',?_⟩;refine(qk _).symm.trans ?_;rw[enF];simp? only[yM,qfq k n d h.1,ih]
theorem YB(k:Nat)(b:Bool)(ps:List D)(n:Int)(h:(decide (ps.length<=12)&&ps.all (yi n))=true):clK pg (k+5) "check_papers" [aL b ps,.val (.int n)]=.ok (.val .non):=by
 simp only[Bool.and_eq_true,decide_eq_true_eq] at h;have h2:¬ (12:Int) < (ps.length:Int):=by have:=h.1;lia
 rw[r_check_papers];obtain⟨s2',s3',ih⟩:=zN (pg:=pg) k (pS b ps) n ps 0 .no .no h.2;simp? only[ym,JG,ih,h2]
end
end DG
namespace FA
open PySem L2 DE DG
theorem qa9{i j:Int}(h1:-(2 ^ 64) < j)(h2:j < 2 ^ 64):qem i j=true:=by unfold qem;rw[decide_eq_true h1,decide_eq_true h2];simp
def qY(ns:List Int)(i:Nat):Int:=ns.getD i 0
theorem qkR(i:Int)(h0:0<=i)(h1:i < 26):atI (Str.cps "abcdefghijklmnopqrstuvwxyz").toList i=some (97+i.toNat)/\jZ (97+i.toNat):=by
 have key:∀j:Fin 26,atI (Str.cps "abcdefghijklmnopqrstuvwxyz").toList (j.val:Int)=some (97+j.val):=by decide+kernel
 obtain⟨j,rfl⟩:=Int.eq_ofNat_of_zero_le h0;exact⟨key ⟨j,by lia⟩,by unfold jZ;simp;lia⟩
theorem Qq(z:Str)(c:Nat):(z++(⟨#[c]⟩:Str)).cps.size=z.cps.size+1:=by show(z.cps ++ #[c]).size=_;simp
theorem qfr(z:Str)(c:Nat):(z++(⟨#[c]⟩:Str)).cps.toList=z.cps.toList++[c]:=by show(z.cps ++ #[c]).toList=_;simp
structure NamesOk(zs:List Str):Prop where
 two:2<=zs.length
 four:zs.length<=4
 ok:∀z∈zs,NameOk z
 once:∀(i j:Nat) (z:Str),zs[i]?=some z->zs[j]?=some z->i=j
end FA
namespace FA
open PySem L2 DE DG
def lnD(p:Str×Int):D:=.tup [.str p.1,.int p.2]
theorem qdv(p:Str×Int):lnD p=.tup [.str p.1,.int p.2]:=rfl
theorem qfs{z:Str}(h:NameOk z):qb3 z=true:=by
 unfold qb3;simp only[Bool.and_eq_true,decide_eq_true_eq,List.all_eq_true];refine⟨⟨h.one,h.eight⟩,λc hc=>?_⟩
 have:=h.lets c hc
 unfold jZ at this
 lia
structure LnOk(p:Str×Int):Prop where
 nm:NameOk p.1
 one:1<=p.2
 nine:p.2<=9
theorem qft{p:Str×Int}(h:LnOk p):qds (lnD p)=some p:=by show(if (qb3 p.1&&decide (1<=p.2)&&decide (p.2<=9))=true then some (p.1,p.2) else none)=_;rw[if_pos (by rw[qfs h.nm,decide_eq_true h.one,decide_eq_true h.nine];rfl)]
theorem Zv:∀(l:List (Str×Int)) (acc:List Str),(∀p∈l,LnOk p)->(acc++l.map (·.1)).Nodup->YS acc (l.map lnD)=true
 |[],acc,_,_=>rfl
 | p::l,acc,h,nd=>by
  rw[List.map_cons];unfold YS;rw[qft (h p (by simp))];have e:acc++(p::l).map (·.1)=(acc++[p.1])++l.map (·.1):=by simp
  rw[e] at nd
  have n1:p.1∉acc:=by
   have:=(List.nodup_append.mp nd).1
   have:=(List.nodup_append.mp this).2.2
   intro hm;exact this p.1 hm p.1 (by simp) rfl
  simp only[Bool.and_eq_true,Bool.not_eq_true'];exact⟨by simpa using n1,Zv l (acc++[p.1]) (λq hq=>h q (by simp[hq])) nd⟩
theorem qb6{l:List (Str×Int)}(h:∀p∈l,LnOk p)(nd:(l.map (·.1)).Nodup)(h1:1<=l.length)(h6:l.length<=6):qB (l.map lnD)=true:=by unfold qB;rw[List.length_map,decide_eq_true h1,decide_eq_true h6,Zv l [] h (by simpa using nd)];rfl
theorem qba{zs:List Str}(i:Int)(h0:0<=i)(h1:i < zs.length):∃z,atI (zs.map D.str) i=some (.str z)/\zs[i.toNat]?=some z:=by
 obtain⟨j,rfl⟩:=Int.eq_ofNat_of_zero_le h0;have hj:j < zs.length:=by lia
 exact⟨zs[j],qiA (by rw[List.getElem?_map,List.getElem?_eq_getElem hj];rfl),by simp[hj]⟩
theorem Zw(zs:List Str):((zs.map D.str).length:Int)=(zs.length:Int):=by rw[List.length_map]
noncomputable def Lns(zs:List Str)(a:Int)(l:List (Str×Int)):Prop:=∀(i:Nat) (p:Str×Int),l[i]?=some p->zs[((a+(i:Int)) % (zs.length:Int)).toNat]?=some p.1/\LnOk p
inductive Kd where
 | wi | si | ro
structure Ru where
 kd:Kd
 lands:List (Str×Int)
 most:Int
 days:Int
theorem Lns.nodup{zs:List Str}(hz:NamesOk zs){a:Int}{l:List (Str×Int)}(h:Lns zs a l)(hl:l.length<=zs.length):(l.map (·.1)).Nodup:=by
 rw[List.nodup_iff_pairwise_ne,List.pairwise_iff_getElem];intro i j hi hj hij e;rw[List.length_map] at hi hj;rw[List.getElem_map,List.getElem_map] at e;have h1:=(h i _ (List.getElem?_eq_getElem hi)).1;have h2:=(h j _ (List.getElem?_eq_getElem hj)).1;rw[e] at h1
 have:=hz.once _ _ _ h1 h2
 have hL:(0:Int) < (zs.length:Int):=by have:=hz.two;lia
 have a0:0<=(a+(i:Int)) % (zs.length:Int):=Int.emod_nonneg _ (by lia);have b0:0<=(a+(j:Int)) % (zs.length:Int):=Int.emod_nonneg _ (by lia);have e3:(a+(i:Int)) % (zs.length:Int)=(a+(j:Int)) % (zs.length:Int):=by lia
 have e4:=Int.emod_emod_of_dvd (a+j - (a+i)) (Int.dvd_refl (zs.length:Int));have e5:(a+(j:Int) - (a+(i:Int))) % (zs.length:Int)=0:=by rw[Int.sub_emod,e3,Int.sub_self,Int.zero_emod]
 rw[show a+(j:Int) - (a+(i:Int))=((j - i:Nat):Int) by lia] at e5;rw[Int.emod_eq_of_lt (by lia) (by lia)] at e5
 lia
end FA
namespace Dy
abbrev P:=Int×Int
def Day(fs:List P)(d:Int):Prop:=∃p∈fs,p.1<=d/\d<=p.2
structure Spr(fs:List P):Prop where
 ok:∀p∈fs,p.1<=p.2
 gap:fs.Pairwise λp q=>p.2+2<=q.1
def lex(p q:P):Prop:=p.1 < q.1\/(p.1=q.1/\p.2<=q.2)
noncomputable def stp(acc:List P)(p:P):List P:=match acc.getLast? with
 |some l=>if p.1<=l.2+1 then acc.dropLast++[(l.1,if p.2 > l.2 then p.2 else l.2)] else acc++[p]
 |none=>[p]
theorem qal(p:P):stp [] p=[p]:=rfl
theorem Qr(a:List P)(l p:P):stp (a++[l]) p=if p.1<=l.2+1 then a++[(l.1,if p.2 > l.2 then p.2 else l.2)] else (a++[l])++[p]:=by unfold stp;rw[List.getLast?_append];simp
theorem qam{α:Type}(l:List α):l=[]\/∃a x,l=a++[x]:=by
 cases l with
 |nil=>exact .inl rfl
 |cons a r=>exact .inr ⟨(a::r).dropLast,(a::r).getLast (by simp),(List.dropLast_concat_getLast (by simp)).symm⟩
theorem Jf{a b:List P}{d:Int}:Day (a++b) d↔Day a d\/Day b d:=by
 unfold Day;constructor
 ·rintro⟨p,hp,h⟩;rcases List.mem_append.mp hp with q | q
  ·exact .inl ⟨p,q,h⟩
  ·exact .inr ⟨p,q,h⟩
 ·rintro (⟨p,hp,h⟩ | ⟨p,hp,h⟩)
  ·exact⟨p,List.mem_append_left _ hp,h⟩
  ·exact⟨p,List.mem_append_right _ hp,h⟩
theorem Qs{p:P}{d:Int}:Day [p] d↔p.1<=d/\d<=p.2:=by
 unfold Day;constructor
 ·rintro⟨q,hq,h⟩;rw[List.mem_singleton.mp hq] at h;exact h
 ·intro h;exact⟨p,List.mem_singleton.mpr rfl,h⟩
structure Run(done acc:List P):Prop where
 spr:Spr acc
 day:∀d,Day acc d↔Day done d
 low:∀a l,acc=a++[l]->∃q∈done,q.1=l.1
 len:acc.length<=done.length
 emp:acc=[]->done=[]
theorem qhY:Run [] []:=⟨⟨(λ_ h=>nomatch h),List.Pairwise.nil⟩,λ_=>Iff.rfl,λa l e=>by simp at e,Nat.le_refl _,λ_=>rfl⟩
theorem qfu{done acc:List P}{p:P}(R:Run done acc)(hp:p.1<=p.2)(hs:∀q∈done,q.1<=p.1):Run (done++[p]) (stp acc p):=by
 rcases qam acc with rfl | ⟨a,l,rfl⟩
 ·have hd:=R.emp rfl;subst hd;rw[qal];refine⟨⟨λq hq=>by rw[List.mem_singleton.mp hq];exact hp,by simp⟩,λd=>by simp,λa l e=>?_,by simp,λe=>by simp at e⟩;refine⟨p,by simp,?_⟩
  have:a=[]/\p=l:=by
   cases a with
   |nil=>simpa using e
   |cons x r=>simp at e
  rw[this.2]
 ·rw[Qr];obtain⟨q0,hq0,e0⟩:=R.low a l rfl;have hl:l.1<=p.1:=by rw[<-e0];exact hs q0 hq0
  have hlo:=R.spr.ok l (by simp);have hg:=List.pairwise_append.mp R.spr.gap
  by_cases hc:p.1<=l.2+1
  ·rw[if_pos hc];refine⟨⟨λq hq=>?_,?_⟩,λd=>?_,λa' l' e=>?_,?_,λe=>by simp at e⟩
   ·rcases List.mem_append.mp hq with h | h
    ·exact R.spr.ok q (List.mem_append_left _ h)
    ·rw[List.mem_singleton.mp h];dsimp only
     split<;>lia
   ·refine List.pairwise_append.mpr ⟨hg.1,by simp,λx hx y hy=>?_⟩;rw[List.mem_singleton.mp hy];exact hg.2.2 x hx l (by simp)
   ·rw[Jf,Qs,Jf,Qs,<-R.day d,Jf,Qs];dsimp only;constructor
    ·rintro (h | h)
     ·exact .inl (.inl h)
     ·by_cases h2:d<=l.2
      ·exact .inl (.inr ⟨h.1,h2⟩)
      ·right
       have:=h.2
       split at this<;>lia
    ·rintro ((h | h) | h)
     ·exact .inl h
     ·right;refine⟨h.1,?_⟩
      split<;>lia
     ·right;refine⟨by lia,?_⟩
      split<;>lia
   ·have:l'.1=l.1:=by
     have:=(List.append_inj' e rfl).2
     simp at this;rw[<-this]
    exact⟨q0,List.mem_append_left _ hq0,by rw[this];exact e0⟩
   ·have:=R.len
    simp at this ⊢
    lia
  ·rw[if_neg hc];refine⟨⟨λq hq=>?_,?_⟩,λd=>?_,λa' l' e=>?_,?_,λe=>by simp at e⟩
   ·rcases List.mem_append.mp hq with h | h
    ·exact R.spr.ok q h
    ·rw[List.mem_singleton.mp h];exact hp
   ·refine List.pairwise_append.mpr ⟨R.spr.gap,by simp,λx hx y hy=>?_⟩;rw[List.mem_singleton.mp hy];rcases List.mem_append.mp hx with h | h
    ·have:=hg.2.2 x h l (by simp)
     lia
    ·rw[List.mem_singleton.mp h];lia
   ·rw[Jf (a:=a++[l]),Jf (a:=done),R.day d]
   ·have:=(List.append_inj' e rfl).2
    simp at this;exact⟨p,by simp,by rw[this]⟩
   ·have:=R.len
    simp at this ⊢
    lia
theorem qhZ{qs:List P}(hs:qs.Pairwise lex)(hq:∀p∈qs,p.1<=p.2):∀n,n<=qs.length->Run (qs.take n) ((qs.take n).foldl stp []):=by
 intro n
 induction n with
 |zero=>intro _;simpa using qhY
 |succ n ih=>
  intro hn;have e:qs.take (n+1)=qs.take n++[qs[n]]:=by rw[List.take_succ_eq_append_getElem (by lia)]
  rw[e,List.foldl_append];refine qfu (ih (by lia)) (hq _ (List.getElem_mem _)) λq hq'=>?_;obtain⟨i,hi,rfl⟩:=List.mem_take_iff_getElem.mp hq'
  have:=List.pairwise_iff_getElem.mp hs i n (by lia) (by lia) (by lia)
  rcases this with h | h
  ·lia
  ·lia
end Dy
namespace Dy
def qmE(A:List P)(d:Int):Bool:=A.any λp=>decide (p.1<=d)&&decide (d<=p.2)
theorem Qt{A:List P}{d:Int}:qmE A d=true↔Day A d:=by unfold qmE Day;simp[List.any_eq_true]
end Dy
namespace DG
open PySem L2 DE FA Dy
open CH SP RU BO
theorem qdw:∀ps:List (Int×Int),qf4 (ps.map pD)=some ps
 |[]=>rfl
 | p::ps=>by rw[List.map_cons,qf4,qdw ps];rfl
theorem yf(p:Int×Int):pD p=.tup [.int p.1,.int p.2]:=rfl
def spr(ps:List (Int×Int)):List (Int×Int):=(yL ps).foldl stp []
theorem qh0(acc:List (Int×Int))(p:Int×Int):(stp acc p).length<=acc.length+1:=by
 rcases qam acc with rfl | ⟨a,l,rfl⟩
 ·simp[qal]
 ·rw[Qr]
  split<;>simp
theorem qu{n:Nat}(h:n < 100000):n < sizeLine:=Nat.lt_trans h (by decide+kernel)
theorem qv{n:Nat}(h:n < 100000):n<=sizeLine:=Nat.le_of_lt (qu h)
theorem Yc(cl:Cl)(v:Sl):∀(ps acc:List (Int×Int)) (s2 s3:Sl),acc.length+ps.length < 10000->∃s2' s3',yc cl 1000 (.many [2,3]) Ja (ps.map pD) [v,.own (acc.map pD),s2,s3]=.ok (.next [v,.own ((ps.foldl stp acc).map pD),s2',s3'])
 |[],acc,s2,s3,_=>⟨s2,s3,rfl⟩
 | p::ps,acc,s2,s3,hl=>by
  rw[List.length_cons] at hl
  have:=qh0 acc p
  obtain⟨s2',s3',ih⟩:=Yc cl v ps (stp acc p) (.val (.int p.1)) (.val (.int p.2)) (by lia);refine⟨s2',s3',?_⟩;have hs:acc.length < sizeLine:=qu (by lia);have two:0+1+1<=sizeLine:=by decide+kernel
  rw[List.foldl_cons];rcases qam acc with rfl | ⟨a,l,rfl⟩
  ·rw[qal] at ih ⊢;simp only[List.map_cons,List.map_nil,yf] at ih;refine(qk _).symm.trans ?_;simp? only[jV,yf,List.isEmpty_nil,two,show(0:Nat) < sizeLine by decide+kernel,ih]
  ·rw[Qr] at ih ⊢
   by_cases hc:p.1<=l.2+1
   ·rw[if_pos hc] at ih ⊢;simp only[List.map_append,List.map_cons,List.map_nil,yf] at ih;refine(qk _).symm.trans ?_;simp? only[jV,yf,List.map_append,hc,two,ih]
   ·rw[if_neg hc] at ih ⊢;simp only[List.map_append,List.map_cons,List.map_nil,yf] at ih;have hs':(a.map pD++[D.tup [.int l.1,.int l.2]]).length < sizeLine:=by simpa using hs
    refine(qk _).symm.trans ?_;simp? only[jV,yf,List.map_append,hc,two,hs',ih]
theorem qdx{pg:Pg}[SP pg](k:Nat)(b:Bool)(ps:List (Int×Int))(hl:ps.length < 64):clK pg (k+1) "spread" [aL b (ps.map pD)]=.ok (.tmp ((spr ps).map pD)):=by
 have hl':(yL ps).length < 10000:=by unfold yL;rw[List.length_mergeSort];lia
 rw[r_spread];obtain⟨s2,s3,e⟩:=Yc (pg.kk k) (pS b (ps.map pD)) (yL ps) [] .no .no (by simpa using hl');rw[List.map_nil] at e;simp? only[qa7,Qe,qdw,hl,show(0:Nat)<=sizeLine by decide+kernel,e,spr]
theorem Qu(p q:Int×Int):Ze p q=true↔lex p q:=by unfold Ze lex;simp
theorem qbb(ps:List (Int×Int))(h:∀p∈ps,p.1<=p.2):Run (yL ps) (spr ps):=by
 have hs:(yL ps).Pairwise lex:=by
  have:=List.pairwise_mergeSort (le:=Ze) (λa b c h1 h2=>by rw[Qu] at h1 h2 ⊢;unfold lex at *;lia) (λa b=>by simp only[Bool.or_eq_true,Qu];unfold lex;lia) ps
  exact this.imp λ{a b} h=>(Qu a b).mp h
 have hq:∀p∈yL ps,p.1<=p.2:=λp hp=>h p ((List.mergeSort_perm ps Ze).mem_iff.mp hp)
 have:=qhZ hs hq (yL ps).length (Nat.le_refl _)
 rwa[List.take_length] at this
theorem qh1{ps:List (Int×Int)}(h:∀p∈ps,p.1<=p.2):Spr (spr ps):=(qbb ps h).spr
theorem qh2{ps:List (Int×Int)}(h:∀p∈ps,p.1<=p.2):(spr ps).length<=ps.length:=by
 have:=(qbb ps h).len
 unfold yL at this
 rwa[List.length_mergeSort] at this
end DG
namespace DG
open PySem L2 DE FA Dy
open CH SP RU BO
def _root_.FA.Kd.cls:Kd->Str
 |.wi=>"Within"
 |.si=>"Since"
 |.ro=>"InRow"
def _root_.FA.Kd.fld:Kd->Str
 |.wi=>"span"
 |.si=>"leave"
 |.ro=>"leave"
def _root_.FA.Kd.isW:Kd->Bool
 |.wi=>true
 |.si=>false
 |.ro=>false
noncomputable def ruI(r:Ru):D:=.ins r.kd.cls ["lands","most",r.kd.fld] [.tup (r.lands.map lnD),.int r.most,.int r.days]
theorem qbc{xx:Xs}(r:Ru):qcl (pcs xx) (.val (ruI r)) "lands" = some (.tup (r.lands.map lnD)):=by obtain⟨kd,l,m,d⟩:=r;cases kd<;>rfl
theorem qdy{xx:Xs}(r:Ru):qcl (pcs xx) (.val (ruI r)) "most" = some (.int r.most):=by obtain⟨kd,l,m,d⟩:=r;cases kd<;>rfl
theorem qdz{xx:Xs}(r:Ru)(h:r.kd.isW=true):qcl (pcs xx) (.val (ruI r)) "span" = some (.int r.days):=by
 obtain⟨kd,l,m,d⟩:=r
 cases kd<;>first | rfl | cases h
theorem qfv{xx:Xs}(r:Ru)(h:r.kd.isW=false):qcl (pcs xx) (.val (ruI r)) "leave" = some (.int r.days):=by
 obtain⟨kd,l,m,d⟩:=r
 cases kd<;>first | rfl | cases h
theorem Zx{xx:Xs}(r:Ru):mtD (pcs xx) (.val (ruI r)) "weight" = some ("Rule.weight" : Str):=by obtain⟨kd,l,m,d⟩:=r;cases kd<;>rfl
theorem Zy{xx:Xs}(r:Ru):qep (pcs xx) (.val (ruI r)) "Within" = some r.kd.isW:=by obtain⟨kd,l,m,d⟩:=r;cases kd<;>rfl
abbrev St:=Str×Int×Int
abbrev Pa:=Int×Int×Int
def paD(p:Pa):D:=.tup [.int p.1,.int p.2.1,.int p.2.2]
theorem zO(p:Pa):paD p=.tup [.int p.1,.int p.2.1,.int p.2.2]:=rfl
noncomputable def bkI(rs:List Ru)(ps:List Pa):D:=.ins "Book" ["kept_rules","kept_papers"] [.lst (rs.map ruI),.lst (ps.map paD)]
theorem qfw{xx:Xs}(rs:List Ru)(ps:List Pa):qcl (pcs xx) (.val (bkI rs ps)) "kept_rules" = some (.lst (rs.map ruI)):=rfl
theorem qdA{xx:Xs}(rs:List Ru)(ps:List Pa):qcl (pcs xx) (.val (bkI rs ps)) "kept_papers" = some (.lst (ps.map paD)):=rfl
theorem qbd{xx:Xs}(rs:List Ru)(ps:List Pa):mtD (pcs xx) (.val (bkI rs ps)) "rules" = some ("Book.rules" : Str):=rfl
theorem qdB{xx:Xs}(rs:List Ru)(ps:List Pa):mtD (pcs xx) (.val (bkI rs ps)) "lifted" = some ("Book.lifted" : Str):=rfl
noncomputable def Yd:List St->Int->Option Str
 |[],_=>none
 | s::l,d=>if s.2.1<=d/\d<=s.2.2 then some s.1 else Yd l d
def qh3:Option Str->D
 |some z=>.str z
 |none=>.non
def wt:List (Str×Int)->Option Str->Int
 |[],_=>0
 | p::l,o=>if o=some p.1 then p.2 else wt l o
theorem Qv{z:Str}(h:NameOk z):PyData.strOk z=true:=by
 unfold PyData.strOk;rw[<-Array.all_toList,List.all_eq_true];intro c hc
 have:=h.lets c hc
 unfold jZ at this;rw[decide_eq_true_eq]
 lia
theorem qh4{p:Str}(hp:NameOk p){o:Option Str}(ho:∀z,o=some z->NameOk z):eqD (.str p) (qh3 o)=some (decide (o=some p)):=by
 cases o with
 |none=>show eqD (.str p) .non=_;rw[qkL (Qv hp)];simp
 |some z=>
  show eqD (.str p) (.str z)=_;rw[qhO (Qv hp) (Qv (ho z rfl))]
  congr 1
  rw[Bool.eq_iff_iff,beq_iff_eq,decide_eq_true_eq];constructor
  ·rintro rfl;rfl
  ·intro e;cases e;rfl
theorem Ye(cl:Cl)(v:Sl)(o:Option Str)(ho:∀z,o=some z->NameOk z):∀(l:List (Str×Int)) (s2 s3:Sl),(∀p∈l,LnOk p)->∃F,yc cl 1000 (.many [2,3]) zH (l.map lnD) [v,.val (qh3 o),s2,s3]=.ok F/\(F=.ret (.val (.int (wt l o)))\/(wt l o=0/\∃ρ',F=.next ρ'))
 |[],s2,s3,_=>⟨_,rfl,.inr ⟨rfl,_,rfl⟩⟩
 | p::l,s2,s3,h=>by
  obtain⟨F,i,a⟩:=Ye cl v o ho l (.val (.str p.1)) (.val (.int p.2)) λq hq=>h q (by simp[hq]);have e:=qh4 (h p (by simp)).nm ho;unfold wt
  by_cases hc:o=some p.1
  ·rw[if_pos hc];rw[decide_eq_true hc] at e;refine⟨_,?_,.inl rfl⟩;refine(qk _).symm.trans ?_;rw[List.map_cons];simp? only[jj,qdv,e]
  ·rw[if_neg hc];rw[decide_eq_false hc] at e;refine⟨F,?_,a⟩;refine(qk _).symm.trans ?_;rw[List.map_cons];simp? only[jj,qdv,e,i]
theorem qdC{pg:Pg}[RU pg](k:Nat)(r:Ru)(h:∀p∈r.lands,LnOk p)(o:Option Str)(ho:∀z,o=some z->NameOk z):clK pg (k+1) "Rule.weight" [.val (ruI r),.val (qh3 o)]=.ok (.val (.int (wt r.lands o))):=by
 rw[r_Rule_weight];obtain⟨F,i,a⟩:=Ye (pg.kk k) (.val (ruI r)) o ho r.lands .no .no h;rcases a with rfl | ⟨i0,ρ',rfl⟩
 ·simp? only[jC,RU.cs,qbc,i]
 ·simp? only[jC,RU.cs,qbc,i,i0]
theorem qbe{pg:Pg}[RU pg][BO pg](k:Nat)(rs:List Ru)(ps:List Pa):clK pg (k+1) "Book.rules" [.val (bkI rs ps)]=.ok (.tmp (rs.map ruI)):=by rw[r_Book_rules];simp? only[Jp,RU.cs,qfw]
def ofN(n:Int)(ps:List Pa):List (Int×Int):=(ps.filter λp=>p.1 == n).map λp=>(p.2.1,p.2.2)
def yx(n:Int)(ps:List Pa):List (Int×Int):=spr (ofN n ps)
theorem yy(cl:Cl)(n:Int):∀(ps:List Pa) (acc:List (Int×Int)) (s0 s1 s2:Sl),acc.length+ps.length < 10000->zw cl zI (.many [0,1,2]) (.test (.cmp .Eq (.var 0) (.var 3))) (ps.map paD) [s0,s1,s2,.val (.int n)] (acc.map pD)=.ok ((acc++ofN n ps).map pD)
 |[],acc,s0,s1,s2,_=>by simp[ofN,qD]
 | p::ps,acc,s0,s1,s2,hl=>by
  rw[List.length_cons] at hl;have two:0+1+1<=sizeLine:=by decide+kernel
  have hs:(acc.map pD).length < sizeLine:=by rw[List.length_map];exact qu (by lia)
  cases hc:(p.1 == n) with
  |true=>
   have ih:=yy cl n ps (acc++[(p.2.1,p.2.2)]) (.val (.int p.1)) (.val (.int p.2.1)) (.val (.int p.2.2)) (by simp;lia);have e:ofN n (p::ps)=(p.2.1,p.2.2)::ofN n ps:=by simp[ofN,hc]
   rw[e];simp only[List.map_append,List.map_cons,List.map_nil,yf,List.append_assoc,List.cons_append,List.nil_append] at ih ⊢;refine(qk _).symm.trans ?_;simp? only[jl,zO,qL,hc,two,hs,ih]
  |false=>
   have ih:=yy cl n ps acc (.val (.int p.1)) (.val (.int p.2.1)) (.val (.int p.2.2)) (by lia);have e:ofN n (p::ps)=ofN n ps:=by simp[ofN,hc]
   rw[e];refine(qk _).symm.trans ?_;rw[List.map_cons];simp? only[jl,zO,qL,hc,two,hs,ih]
theorem qdD(n:Int)(ps:List Pa):(ofN n ps).length<=ps.length:=by unfold ofN;rw[List.length_map];exact List.length_filter_le ..
theorem qdE{pg:Pg}[RU pg][BO pg][SP pg](k:Nat)(rs:List Ru)(ps:List Pa)(n:Int)(hl:ps.length < 64):clK pg (k+2) "Book.lifted" [.val (bkI rs ps),.val (.int n)]=.ok (.tmp ((yx n ps).map pD)):=by
 have i:=yy (pg.kk (k+1)) n ps [] .no .no .no (by simp;lia);have s:=qdx (pg:=pg) k false (ofN n ps) (Nat.lt_of_le_of_lt (qdD n ps) hl);have hs:(ps.map paD).length<=sizeLine:=by rw[List.length_map];exact qv (by lia)
 simp only[qb1,qb2] at s;rw[List.map_nil,List.nil_append] at i;rw[r_Book_lifted];simp? only[yN,RU.cs,qdA,JU,List.getD_cons_succ,List.getD_cons_zero,hs,i,s,yx]
noncomputable def wgt(r:Ru)(lf:List (Int×Int))(st:List St)(d:Int):Int:=if qmE lf d=true then 0 else wt r.lands (Yd st d)
end DG
namespace DG
open PySem L2 DE FA Dy
open CH SP RU BO
def ws(f:Int->Int)(lo:Int):Nat->List Int
 |0=>[]
 | n+1=>f lo::ws f (lo+1) n
theorem qdF:∀(n:Nat) (lo:Int),(rgF lo n).length=n
 |0,_=>rfl
 | n+1,lo=>by rw[rgF,List.length_cons,qdF n]
theorem Zz{i:Int}(h1:-1000000000000<=i)(h2:i<=1000000000000):qX i=true:=by
 unfold qX;simp
 lia
section
variable{pg:Pg}[RU pg]
noncomputable def qdG(f:Int->Int)(leave:Int):Nat->Int->Int->Int->Int->Int×Int
 |0,fi,to,_,_=>(fi,to)
 | n+1,fi,to,em,ba=>if em < leave then (if f ba=0 then qdG f leave n fi to (em+1) (ba - 1) else qdG f leave n ba (to+f ba) 0 (ba - 1)) else (fi,to)
end
noncomputable def win(r:Ru)(f:Int->Int)(d:Int):Int×Int:=if r.kd.isW=true then (d - r.days+1,(ws f (d - r.days+1) r.days.toNat).sum) else qdG f r.days 1000 (d+1) 0 0 d
theorem qh5{rs:List Ru}{n:Nat}{r:Ru}(h:rs[n]?=some r):atI (rs.map ruI) (n:Int)=some (ruI r):=qiA (by rw[List.getElem?_map,h];rfl)
abbrev Rl:=Ru×List (Int×Int)
noncomputable def qgn(st:List St)(d:Int):Nat->List Rl->Option (Int×Int×Int)
 |_,[]=>none
 | i,x::l=>if x.1.most < (win x.1 (wgt x.1 x.2 st) d).2 then some (d,(i:Int),(win x.1 (wgt x.1 x.2 st) d).1) else qgn st d (i+1) l
noncomputable def flt(st:List St)(rs:List Rl)(lo:Int):Nat->Option (Int×Int×Int)
 |0=>none
 | n+1=>match qgn st lo 0 rs with
  |some x=>some x
  |none=>flt st rs (lo+1) n
def f3D(x:Int×Int×Int):D:=.tup [.int x.1,.int x.2.1,.int x.2.2]
def qcn:Option (Int×Int×Int)->D
 |none=>.non
 |some x=>f3D x
end DG
namespace DG
open PySem L2 DE FA Dy
open CH SP RU BO
def rlF(ps:List Pa):Nat->List Ru->List Rl
 |_,[]=>[]
 | i,r::l=>(r,yx i ps)::rlF ps (i+1) l
theorem qgo(ps:List Pa):∀(i:Nat) (rs:List Ru),(rlF ps i rs).map (λx=>ruI x.1)=rs.map ruI
 |_,[]=>rfl
 | i,r::l=>by rw[rlF,List.map_cons,List.map_cons,qgo ps (i+1) l]
theorem Qw(ps:List Pa):∀(i:Nat) (rs:List Ru) (j:Nat),(rlF ps i rs)[j]?=(rs[j]?).map λr=>(r,yx ((i+j:Nat):Int) ps)
 |_,[],j=>by simp[rlF]
 | i,r::l,0=>by simp[rlF]
 | i,r::l,j+1=>by rw[rlF,List.getElem?_cons_succ,Qw ps (i+1) l j,List.getElem?_cons_succ,show i+1+j=i+(j+1) by lia]
theorem qdH{ps:List Pa}{i:Nat}{rs:List Ru}{x:Rl}(h:x∈rlF ps i rs):∃j:Nat,rs[j]?=some x.1/\x.2=yx ((i+j:Nat):Int) ps:=by obtain⟨j,hj⟩:=List.getElem?_of_mem h;rw[Qw] at hj;obtain⟨r,e1,e2⟩:=Option.map_eq_some_iff.mp hj;exact⟨j,by rw[e1,<-e2],by rw[<-e2]⟩
end DG
namespace FA
open PySem DE DG Dy
open L2 hiding St
open RU
theorem Qx{k:Nat}:¬ (k+12 < 12):=by lia
end FA
namespace DG
open PySem DE FA Dy
open L2 hiding St
theorem qdI:∀l:List (Str×Int),wt l none=0
 |[]=>rfl
 | p::l=>by unfold wt;rw[if_neg (by simp)];exact qdI l
theorem qmF{l:List (Str×Int)}(h:∀p∈l,LnOk p)(o:Option Str):0<=wt l o:=by
 induction l with
 |nil=>exact Int.le_refl _
 |cons p l ih=>
  unfold wt;split
  ·have:=(h p (by simp)).one;lia
  ·exact ih λq hq=>h q (by simp[hq])
theorem qh6{r:Ru}{lf:List (Int×Int)}{st:List St}{d:Int}(h:Yd st d=none):wgt r lf st d=0:=by unfold wgt;rw[h,qdI];simp
theorem qan{f:Int->Int}:∀(n:Nat) (lo:Int),(ws f lo (n+1)).sum=(ws f lo n).sum+f (lo+n)
 |0,lo=>by simp[ws]
 | n+1,lo=>by
  rw[ws,List.sum_cons,qan n (lo+1),ws,List.sum_cons,show lo+1+(n:Int)=lo+((n+1:Nat):Int) by lia]
  lia
theorem qkS{f:Int->Int}(hf:∀x,0<=f x):∀(n:Nat) (lo:Int),0<=(ws f lo n).sum
 |0,_=>by simp[ws]
 | n+1,lo=>by
  rw[ws,List.sum_cons]
  have:=hf lo
  have:=qkS hf n (lo+1)
  lia
theorem Qy{f:Int->Int}:∀(n:Nat) (lo:Int),(∀x,lo<=x->x < lo+n->f x=0)->(ws f lo n).sum=0
 |0,_,_=>by simp[ws]
 | n+1,lo,h=>by rw[ws,List.sum_cons,h lo (by lia) (by lia),Qy n (lo+1) λx h1 h2=>h x (by lia) (by lia)];rfl
end DG
namespace FA
open PySem DE DG Dy
open L2 hiding St
open RU
theorem qh7(ns:List Int)(a b:Nat):∃ms:List Int,qeo (ns.map D.int) (some (a:Int)) (some (b:Int))=ms.map D.int/\ms.length<=b - a:=by
 refine⟨(ns.drop (min a ns.length)).take (min b ns.length - min a ns.length),?_,?_⟩
 ·unfold qeo;rw[HT.Z3,HT.Z3,List.length_map,List.map_take,List.map_drop]
 ·refine Nat.le_trans (List.length_take_le ..) ?_;rcases Nat.le_total a ns.length with h | h
  ·rw[Nat.min_eq_left h];exact Nat.sub_le_sub_right (Nat.min_le_left ..) a
  ·rw[Nat.min_eq_right h,Nat.sub_eq_zero_of_le (Nat.min_le_right ..)];exact Nat.zero_le _
end FA
namespace DG
open PySem DE FA Dy
open L2 hiding St
theorem qfx(r:Ru):Zr (ruI r)=true:=by obtain⟨kd,l,m,d⟩:=r;cases kd<;>rfl
theorem qh8{pg:Pg}[RU pg](k:Nat)(b c:Bool)(rs:List Ru)(ps:List Pa)(hr:rs.length<=8)(hp:ps.length<=12)(h:∀p∈ps,0<=p.1/\p.1 < rs.length/\0<=p.2.1/\p.2.1<=p.2.2/\p.2.2<=1000000000) :
  pg.nw (k+12) "Book" [aL b (rs.map ruI),aL c (ps.map paD)]=.ok (.val (bkI rs ps)):=by
 have e:∀(b:Bool) (l:List D),arL (aL b l)=some l:=λb l=>by cases b<;>rfl
 have h1:((decide ((rs.map ruI).length<=8)&&(rs.map ruI).all Zr)&&(decide ((ps.map paD).length<=12)&&(ps.map paD).all (yi (rs.map ruI).length)))=true:=by
  simp only[List.length_map,Bool.and_eq_true,decide_eq_true_eq,List.all_eq_true,List.mem_map];refine⟨⟨hr,λx ⟨r,_,hx⟩=>by rw[<-hx];exact qfx r⟩,hp,λx ⟨p,hm,hx⟩=>?_⟩;obtain⟨q1,q2,q3,q4,q5⟩:=h p hm;rw[<-hx];show(btw p.1 0 ((rs.length:Int) - 1)&&btw p.2.1 0 1000000000&&btw p.2.2 0 1000000000&&decide (p.2.1<=p.2.2))=true;unfold btw;simp only[Bool.and_eq_true,decide_eq_true_eq]
  lia
 rw[RU.nw]
 show(if k+12 < 12 then R.no else qb5 "Book" (match arL (aL b (rs.map ruI)),arL (aL c (ps.map paD)) with
  |some l,some ps=>if ((decide (l.length<=8)&&l.all Zr)&&(decide (ps.length<=12)&&ps.all (yi l.length)))=true then some [("kept_rules",D.lst l),("kept_papers",D.lst ps)] else none
  |_,_=>none))=_
 rw[if_neg (by lia),e,e];dsimp only;rw[if_pos h1];rfl
end DG
namespace DG
open PySem DE FA Dy
open L2 hiding St
open CH SP RU BO BT PC SU FK FM
abbrev Pr:=Int×Int
def mx(a b:Int):Int:=if b > a then b else a
def mn(a b:Int):Int:=if b < a then b else a
theorem mxF(a b:Int):(if b > a then b else a)=mx a b:=(rfl)
theorem mnF(a b:Int):(if b < a then b else a)=mn a b:=(rfl)
theorem qfy(a b:Int):(a<=b->mx a b=b)/\(b<=a->mx a b=a):=by unfold mx;split<;>lia
theorem ZB(a b:Int):(a<=b->mn a b=a)/\(b<=a->mn a b=b):=by unfold mn;split<;>lia
noncomputable def jt:Nat->List Pr->List Pr->List Pr
 |0,_,_=>[]
 | _+1,[],_=>[]
 | _+1,_,[]=>[]
 | n+1,p::a,q::b=>(if mx p.1 q.1<=mn p.2 q.2 then [(mx p.1 q.1,mn p.2 q.2)] else [])++(if p.2 < q.2 then jt n a (q::b) else jt n (p::a) b)
theorem qdJ(l:List Pr)(i:Nat)(p:Pr)(h:l[i]?=some p):atI (l.map pD) (i:Int)=some (.tup [.int p.1,.int p.2]):=qiA (by rw[List.getElem?_map,h];rfl)
theorem Yg(cl:Cl)(A B:List Pr):∀(n i j:Nat) (acc:List Pr) (s5 s6:Sl),(A.length - i)+(B.length - j) < n->acc.length+n < 10000->
  ∃ρ',whD cl 1000 Qo Qp n [.val (.lst (A.map pD)),.val (.lst (B.map pD)),.own (acc.map pD),.val (.int (i:Int)),.val (.int (j:Int)),s5,s6]=.ok (.next (.val (.lst (A.map pD))::.val (.lst (B.map pD))::.own ((acc++jt n (A.drop i) (B.drop j)).map pD)::ρ'))
 |0,i,j,acc,s5,s6,h,_=>by lia
 | n+1,i,j,acc,s5,s6,h,hl=>by
  have two:0+1+1<=sizeLine:=by decide+kernel
  have hs:(acc.map pD).length < sizeLine:=by rw[List.length_map];exact qu (by lia)
  by_cases hi:i < A.length
  ·by_cases hj:j < B.length
   ·obtain⟨p,hp⟩:∃p,A[i]?=some p:=⟨A[i],List.getElem?_eq_getElem hi⟩;obtain⟨q,hq⟩:∃q,B[j]?=some q:=⟨B[j],List.getElem?_eq_getElem hj⟩;have ap:=qdJ A i p hp;have aq:=qdJ B j q hq;have c1:(i:Int) < ((A.map pD).length:Int):=by rw[List.length_map];lia
    have c2:(j:Int) < ((B.map pD).length:Int):=by rw[List.length_map];lia
    have dA:A.drop i=p::A.drop (i+1):=by rw[List.drop_eq_getElem_cons hi];congr 1;rw[List.getElem?_eq_getElem hi] at hp;exact Option.some.inj hp
    have dB:B.drop j=q::B.drop (j+1):=by rw[List.drop_eq_getElem_cons hj];congr 1;rw[List.getElem?_eq_getElem hj] at hq;exact Option.some.inj hq
    have X:∀{β:Type} (K:Fl->R β) (a b c d:Sl),(iS cl 1000 (.ite (.cmp .LtE (.var 5) (.var 6)) %[.app 2 (.tup %[5,6|0])|0] .nil) [a,b,.own (acc.map pD),c,d,.val (.int (mx p.1 q.1)),.val (.int (mn p.2 q.2))]).th K=K (.next [a,b,.own ((acc++if mx p.1 q.1<=mn p.2 q.2 then [(mx p.1 q.1,mn p.2 q.2)] else []).map pD),c,d,.val (.int (mx p.1 q.1)),.val (.int (mn p.2 q.2))]):=by
     intro β K a b c d
     by_cases hc:mx p.1 q.1<=mn p.2 q.2
     ·rw[if_pos hc,List.map_append];simp? only[hc,two,hs,yf]
     ·rw[if_neg hc,List.append_nil];simp? only[hc]
    have hl':(acc++if mx p.1 q.1<=mn p.2 q.2 then [(mx p.1 q.1,mn p.2 q.2)] else []).length<=acc.length+1:=by
     rw[List.length_append]
     split<;>simp
    rw[dA,dB,jt,<-List.append_assoc];generalize acc++(if mx p.1 q.1<=mn p.2 q.2 then [(mx p.1 q.1,mn p.2 q.2)] else [])=acc' at *
    by_cases hd:p.2 < q.2
    ·obtain⟨ρ',e⟩:=Yg cl A B n (i+1) j acc' (.val (.int (mx p.1 q.1))) (.val (.int (mn p.2 q.2))) (by lia) (by lia);refine⟨ρ',?_⟩;rw[dB] at e;rw[if_pos hd];simp only[show((i+1:Nat):Int)=(i:Int)+1 by lia] at e;refine(qk _).symm.trans ?_;simp? only[↓X,yd,YX,c1,c2,ap,aq,mxF,mnF,hd,e]
    ·obtain⟨ρ',e⟩:=Yg cl A B n i (j+1) acc' (.val (.int (mx p.1 q.1))) (.val (.int (mn p.2 q.2))) (by lia) (by lia);refine⟨ρ',?_⟩;rw[dA] at e;rw[if_neg hd];simp only[show((j+1:Nat):Int)=(j:Int)+1 by lia] at e;refine(qk _).symm.trans ?_;simp? only[↓X,yd,YX,c1,c2,ap,aq,mxF,mnF,hd,e]
   ·have c1:(i:Int) < ((A.map pD).length:Int):=by rw[List.length_map];lia
    have c2:¬ (j:Int) < ((B.map pD).length:Int):=by rw[List.length_map];lia
    have e:jt (n+1) (A.drop i) (B.drop j)=[]:=by
     rw[show B.drop j=[] from List.drop_eq_nil_of_le (by lia)]
     cases A.drop i<;>rfl
    rw[e,List.append_nil];refine⟨[.val (.int (i:Int)),.val (.int (j:Int)),s5,s6],?_⟩;refine(qk _).symm.trans ?_;simp? only[yd,c1,c2]
  ·have c1:¬ (i:Int) < ((A.map pD).length:Int):=by rw[List.length_map];lia
   have e:jt (n+1) (A.drop i) (B.drop j)=[]:=by rw[show A.drop i=[] from List.drop_eq_nil_of_le (by lia)];rfl
   rw[e,List.append_nil];refine⟨[.val (.int (i:Int)),.val (.int (j:Int)),s5,s6],?_⟩;refine(qk _).symm.trans ?_;simp? only[yd,c1]
theorem qh9{pg:Pg}[BT pg](k:Nat)(A B:List Pr)(hl:A.length+B.length < 999):clK pg (k+1) "both" [.val (.lst (A.map pD)),.val (.lst (B.map pD))]=.ok (.tmp ((jt 1000 A B).map pD)):=by obtain⟨ρ',e⟩:=Yg (pg.kk k) A B 1000 0 0 [] .no .no (by lia) (by simp);rw[List.map_nil,List.nil_append,List.drop_zero,List.drop_zero,show((0:Nat):Int)=0 from rfl] at e;rw[r_both];simp? only[qgl,show(0:Nat)<=sizeLine by decide+kernel,e]
noncomputable def Jx:Int->List Pr->List Pr×Int
 |b,[]=>([],b)
 | b,t::l=>((if b < t.1 then [(b,t.1 - 1)] else [])++(Jx (mx b (t.2+1)) l).1,(Jx (mx b (t.2+1)) l).2)
noncomputable def qJ(l:List Pr)(first last:Int):List Pr:=(Jx first l).1++(if (Jx first l).2<=last then [((Jx first l).2,last)] else [])
theorem ye(cl:Cl)(v0 v1 v2:Sl):∀(l:List Pr) (b:Int) (acc:List Pr) (s5:Sl),acc.length+l.length < 10000->∃s5',yc cl 1000 (.one 5) yw (l.map pD) [v0,v1,v2,.own (acc.map pD),.val (.int b),s5]=.ok (.next [v0,v1,v2,.own ((acc++(Jx b l).1).map pD),.val (.int (Jx b l).2),s5'])
 |[],b,acc,s5,_=>⟨s5,by simp[Jx,zU]⟩
 | t::l,b,acc,s5,hl=>by
  rw[List.length_cons] at hl;have two:0+1+1<=sizeLine:=by decide+kernel
  have hs:(acc.map pD).length < sizeLine:=by rw[List.length_map];exact qu (by lia)
  rw[Jx]
  by_cases hc:b < t.1
  ·obtain⟨s5',ih⟩:=ye cl v0 v1 v2 l (mx b (t.2+1)) (acc++[(b,t.1 - 1)]) (.val (pD t)) (by simp;lia);refine⟨s5',?_⟩;rw[if_pos hc];simp only[List.map_append,List.map_cons,List.map_nil,yf,List.append_assoc,List.cons_append,List.nil_append] at ih ⊢;refine(qk _).symm.trans ?_;simp? only[yP,hc,two,hs,mxF,ih]
  ·obtain⟨s5',ih⟩:=ye cl v0 v1 v2 l (mx b (t.2+1)) acc (.val (pD t)) (by lia);refine⟨s5',?_⟩;rw[if_neg hc,List.nil_append];simp only[yf] at ih;refine(qk _).symm.trans ?_;rw[List.map_cons];simp? only[yP,yf,hc,mxF,ih]
theorem qb7{pg:Pg}[BT pg](k:Nat)(b:Bool)(l:List Pr)(hl:l.length < 5000)(first last:Int):clK pg (k+1) "outside" [aL b (l.map pD),.val (.int first),.val (.int last)]=.ok (.tmp ((qJ l first last).map pD)):=by
 have two:0+1+1<=sizeLine:=by decide+kernel
 have len:∀(l:List Pr) (b:Int),(Jx b l).1.length<=l.length:=by
  intro l
  induction l with
  |nil=>intro b;simp[Jx]
  |cons t l ih=>
   intro b;rw[Jx]
   have:=ih (mx b (t.2+1))
   dsimp only;rw[List.length_append,List.length_cons]
   split<;>simp<;>lia
 have hs:((Jx first l).1.map pD).length < sizeLine:=by rw[List.length_map];have:=len l first;exact qu (by lia)
 rw[r_outside];unfold qJ;obtain⟨s5,e⟩:=ye (pg.kk k) (pS b (l.map pD)) (.val (.int first)) (.val (.int last)) l first [] .no (by simp;lia);rw[List.map_nil,List.nil_append] at e
 by_cases hc:(Jx first l).2<=last
 ·rw[if_pos hc,List.map_append,List.map_cons,List.map_nil];simp? only[J3,show(0:Nat)<=sizeLine by decide+kernel,e,hc,two,hs,yf]
 ·rw[if_neg hc,List.append_nil];simp? only[J3,show(0:Nat)<=sizeLine by decide+kernel,e,hc]
def yZ(p:Pr)(l:List Pr):List Pr:=jt 1000 [p] (qJ l p.1 p.2)
theorem yz(l:List Pr)(f t:Int):(qJ l f t).length<=l.length+1:=by
 have len:∀(l:List Pr) (b:Int),(Jx b l).1.length<=l.length:=by
  intro l
  induction l with
  |nil=>intro b;simp[Jx]
  |cons t l ih=>
   intro b;rw[Jx]
   have:=ih (mx b (t.2+1))
   dsimp only;rw[List.length_append,List.length_cons]
   split<;>simp<;>lia
 unfold qJ;rw[List.length_append]
 have:=len l f
 split<;>simp<;>lia
theorem qia{pg:Pg}[BT pg](k:Nat)(b:Bool)(p:Pr)(l:List Pr)(hl:l.length < 900):clK pg (k+2) "less" [.val (.lst [.tup [.int p.1,.int p.2]]),aL b (l.map pD)]=.ok (.tmp ((yZ p l).map pD)):=by
 have o:=qb7 (pg:=pg) k b l (by lia) p.1 p.2;have t:=qh9 (pg:=pg) k [p] (qJ l p.1 p.2) (by have:=yz l p.1 p.2;simp;lia);simp only[qb1,qb2,List.map_cons,List.map_nil,yf] at t;have g:atI [D.tup [.int p.1,.int p.2]] (-1)=some (.tup [.int p.1,.int p.2]):=g_last [] _;rw[r_less]
 try simp only[qb1,qb2] at o ⊢
 simp? only[qgm,List.isEmpty_cons,g,o,t,yZ]
end DG
namespace DG
open PySem DE FA Dy
open L2 hiding St
open CH SP RU BO BT PC SU FK FM
theorem Yh:∀(n:Nat) (A B:List Pr),(jt n A B).length<=A.length+B.length
 |0,_,_=>by simp[jt]
 | n+1,[],B=>by simp[jt]
 | n+1,p::A,[]=>by simp[jt]
 | n+1,p::A,q::B=>by
  have h1:=Yh n A (q::B);have h2:=Yh n (p::A) B;simp only[List.length_cons] at h1 h2;rw[jt,List.length_append,List.length_cons,List.length_cons]
  split<;>split<;>simp<;>lia
theorem Yi(p:Pr)(l:List Pr):(yZ p l).length<=l.length+2:=by
 have h1:=Yh 1000 [p] (qJ l p.1 p.2);have h2:=yz l p.1 p.2;unfold yZ;simp at h1
 lia
def Qz(w:Int)(p:Pr):Pa:=(p.1,p.2,w)
noncomputable def qF(r:Ru)(lf:List Pr)(s:St):List Pa:=if 0 < wt r.lands (some s.1) then (yZ (s.2.1,s.2.2) lf).map (Qz (wt r.lands (some s.1))) else []
def qz(r:Ru)(lf:List Pr):List St->List Pa
 |[]=>[]
 | s::l=>qF r lf s++qz r lf l
theorem qkT(cl:Cl)(w:Int):∀(l:List Pr) (acc:List Pa) (s0 s1:Sl),acc.length+l.length < 10000->zw cl zh (.many [0,1]) .yes (l.map pD) [s0,s1,.val (.int w)] (acc.map paD)=.ok ((acc++l.map (Qz w)).map paD)
 |[],acc,s0,s1,_=>by simp[qD]
 | p::l,acc,s0,s1,hl=>by
  rw[List.length_cons] at hl;have ih:=qkT cl w l (acc++[Qz w p]) (.val (.int p.1)) (.val (.int p.2)) (by simp;lia);have three:0+1+1+1<=sizeLine:=by decide+kernel
  have hs:(acc.map paD).length < sizeLine:=by rw[List.length_map];exact qu (by lia)
  simp only[List.map_append,List.map_cons,List.map_nil,List.append_assoc,List.cons_append,List.nil_append,zO,Qz] at ih ⊢;refine(qk _).symm.trans ?_;simp? only[yQ,yf,three,hs,ih]
theorem Yj(r:Ru)(lf:List Pr)(s:St):(qF r lf s).length<=lf.length+2:=by
 unfold qF;split
 ·rw[List.length_map];exact Yi _ _
 ·simp
theorem Yk(r:Ru)(lf:List Pr):∀st:List St,(qz r lf st).length<=st.length * (lf.length+2)
 |[]=>by simp[qz]
 | s::l=>by
  rw[qz,List.length_append,List.length_cons,Nat.succ_mul]
  have:=Yj r lf s
  have:=Yk r lf l
  lia
section
variable{pg:Pg}[RU pg][BT pg]
theorem yA(k:Nat)(v0 v1 v2:Sl)(r:Ru)(hr:∀p∈r.lands,LnOk p)(lf:List Pr)(hf:lf.length<=20):∀(st:List St) (acc:List Pa) (s6 s7 s8 s9:Sl),(∀s∈st,NameOk s.1)->acc.length+st.length * 22 < 9000->
  ∃ρ',yc (pg.kk (k+2)) 1000 (.many [6,7,8]) zi (st.map stD) [v0,v1,v2,.val (ruI r),.own (lf.map pD),.own (acc.map paD),s6,s7,s8,s9]=.ok (.next (v0::v1::v2::.val (ruI r)::.own (lf.map pD)::.own ((acc++qz r lf st).map paD)::ρ'))
 |[],acc,s6,s7,s8,s9,_,_=>⟨[s6,s7,s8,s9],by simp[qz,zU]⟩
 | s::st,acc,s6,s7,s8,s9,hn,hl=>by
  rw[List.length_cons,Nat.succ_mul] at hl;have w:clK pg (k+2) "Rule.weight" [.val (ruI r),.val (.str s.1)]=.ok (.val (.int (wt r.lands (some s.1)))):=qdC (pg:=pg) (k+1) r hr (some s.1) (λz hz=>by cases hz;exact hn s (by simp));have l1:=Yj r lf s;have two:0+1+1<=sizeLine:=by decide+kernel
  have one:0+1<=sizeLine:=by decide+kernel
  by_cases hc:0 < wt r.lands (some s.1)
  ·have e1:qF r lf s=(yZ (s.2.1,s.2.2) lf).map (Qz (wt r.lands (some s.1))):=by unfold qF;rw[if_pos hc]
   obtain⟨ρ',ih⟩:=yA k v0 v1 v2 r hr lf hf st (acc++qF r lf s) (.val (.str s.1)) (.val (.int s.2.1)) (.val (.int s.2.2)) (.val (.int (wt r.lands (some s.1)))) (λx hx=>hn x (by simp[hx])) (by rw[List.length_append];lia);refine⟨ρ',?_⟩;have le:clK pg (k+2) "less" [.val (.lst [.tup [.int s.2.1,.int s.2.2]]),.bor (lf.map pD)]=.ok (.tmp ((yZ (s.2.1,s.2.2) lf).map pD)):=qia (pg:=pg) k true (s.2.1,s.2.2) lf (by lia);have c:=qkT (pg.kk (k+2)) (wt r.lands (some s.1)) (yZ (s.2.1,s.2.2) lf) [] .no .no (by have:=Yi (s.2.1,s.2.2) lf;simp;lia);rw[List.map_nil,List.nil_append,<-e1] at c;have z1:((yZ (s.2.1,s.2.2) lf).map pD).length<=sizeLine:=by rw[List.length_map];have:=Yi (s.2.1,s.2.2) lf;exact qv (by lia)
   have z2:(acc.map paD).length+((qF r lf s).map paD).length<=sizeLine:=by rw[List.length_map,List.length_map];exact qv (by lia)
   rw[qz,<-List.append_assoc];rw[List.map_append (l₁:=acc)] at ih;refine(qk _).symm.trans ?_;rw[List.map_cons];simp? only[zV,qdt,RU.cs,Zx,w,hc,one,two,le,z1,JU,List.getD_cons_succ,List.getD_cons_zero,c,z2,ih]
  ·have e1:qF r lf s=[]:=by unfold qF;rw[if_neg hc]
   obtain⟨ρ',ih⟩:=yA k v0 v1 v2 r hr lf hf st acc (.val (.str s.1)) (.val (.int s.2.1)) (.val (.int s.2.2)) (.val (.int (wt r.lands (some s.1)))) (λx hx=>hn x (by simp[hx])) (by lia);refine⟨ρ',?_⟩;rw[qz,e1,List.nil_append];refine(qk _).symm.trans ?_;rw[List.map_cons];simp? only[zV,qdt,RU.cs,Zx,w,hc,ih]
end
section
variable{pg:Pg}[RU pg][BO pg][SP pg][BT pg][PC pg]
theorem qdK(k:Nat)(b:Bool)(rs:List Ru)(ps:List Pa)(hp:ps.length<=18)(n:Nat)(r:Ru)(hn:rs[n]?=some r)(hr:∀p∈r.lands,LnOk p)(hlf:(yx n ps).length<=20)(st:List St)(hs:∀s∈st,NameOk s.1)(hl:st.length<=170) :
  clK pg (k+3) "pieces_among" [.val (bkI rs ps),.val (.int (n:Int)),aL b (st.map stD)]=.ok (.tmp ((qz r (yx n ps) st).map paD)):=by
 have a:=qbe (pg:=pg) (k+1) rs ps;have l:=qdE (pg:=pg) k rs ps (n:Int) (by lia);have e:=qh5 hn;rw[r_pieces_among];obtain⟨ρ',i⟩:=yA (pg:=pg) k (.val (bkI rs ps)) (.val (.int (n:Int))) (pS b (st.map stD)) r hr (yx n ps) hlf st [] .no .no .no .no hs (by simp;lia);rw[List.map_nil,List.nil_append] at i;simp? only[yn,RU.cs,qbd,qdB,a,l,e,show(0:Nat)<=sizeLine by decide+kernel,i]
end
noncomputable def qgp(f t:Int):List Pa->Int->Int
 |[],a=>a
 | p::l,a=>qgp f t l (if 0 < mn p.2.1 t - mx p.1 f+1 then a+(mn p.2.1 t - mx p.1 f+1) * p.2.2 else a)
def WOk(l:List Pa):Prop:=∀p∈l,1<=p.2.2/\p.2.2<=9
theorem QA(cl:Cl)(v0:Sl)(f t:Int):∀(l:List Pa) (a:Int) (s4 s5 s6 s7:Sl),WOk l->∃ρ',yc cl 1000 (.many [4,5,6]) Jb (l.map paD) [v0,.val (.int f),.val (.int t),.val (.int a),s4,s5,s6,s7]=.ok (.next (v0::.val (.int f)::.val (.int t)::.val (.int (qgp f t l a))::ρ'))
 |[],a,s4,s5,s6,s7,_=>⟨[s4,s5,s6,s7],rfl⟩
 | p::l,a,s4,s5,s6,s7,h=>by
  have hw:=h p (by simp);have mul:qem (mn p.2.1 t - mx p.1 f+1) p.2.2=true:=qa9 (by lia) (by lia);rw[qgp]
  by_cases hc:0 < mn p.2.1 t - mx p.1 f+1
  ·obtain⟨ρ',ih⟩:=QA cl v0 f t l (a+(mn p.2.1 t - mx p.1 f+1) * p.2.2) (.val (.int p.1)) (.val (.int p.2.1)) (.val (.int p.2.2)) (.val (.int (mn p.2.1 t - mx p.1 f+1))) (λq hq=>h q (by simp[hq]));refine⟨ρ',?_⟩;rw[if_pos hc];refine(qk _).symm.trans ?_;rw[List.map_cons];simp? only[Jr,zO,mxF,mnF,hc,mul,ih]
  ·obtain⟨ρ',ih⟩:=QA cl v0 f t l a (.val (.int p.1)) (.val (.int p.2.1)) (.val (.int p.2.2)) (.val (.int (mn p.2.1 t - mx p.1 f+1))) (λq hq=>h q (by simp[hq]));refine⟨ρ',?_⟩;rw[if_neg hc];refine(qk _).symm.trans ?_;rw[List.map_cons];simp? only[Jr,zO,mxF,mnF,hc,ih]
noncomputable def fsF(leave day:Int):List Pa->Int->Int
 |[],f=>f
 | p::l,f=>if p.1<=day then (if leave<=f - 1 - mn p.2.1 day then f else fsF leave day l p.1) else fsF leave day l f
theorem qao(cl:Cl)(v0:Sl)(leave day:Int):∀(l:List Pa) (f:Int) (s4 s5 s6:Sl),∃F,yc cl 1000 (.many [4,5,6]) zJ (l.map paD) [v0,.val (.int leave),.val (.int day),.val (.int f),s4,s5,s6]=.ok F/\(F=.ret (.val (.int (fsF leave day l f)))\/∃ρ',F=.next (v0::.val (.int leave)::.val (.int day)::.val (.int (fsF leave day l f))::ρ'))
 |[],f,s4,s5,s6=>⟨_,rfl,.inr ⟨[s4,s5,s6],rfl⟩⟩
 | p::l,f,s4,s5,s6=>by
  rw[fsF]
  by_cases h1:p.1<=day
  ·rw[if_pos h1]
   by_cases h2:leave<=f - 1 - mn p.2.1 day
   ·rw[if_pos h2];refine⟨_,?_,.inl rfl⟩;refine(qk _).symm.trans ?_;rw[List.map_cons];simp? only[qS,zO,h1,mnF,h2]
   ·rw[if_neg h2];obtain⟨F,i,a⟩:=qao cl v0 leave day l p.1 (.val (.int p.1)) (.val (.int p.2.1)) (.val (.int p.2.2));refine⟨F,?_,a⟩;refine(qk _).symm.trans ?_;rw[List.map_cons];simp? only[qS,zO,h1,mnF,h2,i]
  ·rw[if_neg h1];obtain⟨F,i,a⟩:=qao cl v0 leave day l f (.val (.int p.1)) (.val (.int p.2.1)) (.val (.int p.2.2));refine⟨F,?_,a⟩;refine(qk _).symm.trans ?_;rw[List.map_cons];simp? only[qS,zO,h1,i]
section
variable{pg:Pg}[RU pg][SU pg]
theorem qfz(k:Nat)(b:Bool)(l:List Pa)(h:WOk l)(f t:Int):clK pg (k+1) "sum_of" [aL b (l.map paD),.val (.int f),.val (.int t)]=.ok (.val (.int (qgp f t l 0))):=by rw[r_sum_of];obtain⟨ρ',i⟩:=QA (pg.kk k) (pS b (l.map paD)) f t l 0 .no .no .no .no h;simp? only[qa8,i]
theorem QB(k:Nat)(b:Bool)(l:List Pa)(leave day:Int):clK pg (k+1) "first_since" [aL b (l.map paD),.val (.int leave),.val (.int day)]=.ok (.val (.int (fsF leave day l.reverse (day+1)))):=by rw[r_first_since];obtain⟨F,i,a⟩:=qao (pg.kk k) (pS b (l.map paD)) leave day l.reverse (day+1) .no .no .no;rw[List.map_reverse] at i;rcases a with rfl | ⟨ρ',rfl⟩<;>simp? only[yR,i]
noncomputable def qdL(r:Ru)(l:List Pa)(d:Int):Int:=if r.kd.isW=true then d - r.days+1 else fsF r.days d l.reverse (d+1)
def qG(r:Ru)(l:List Pa)(d:Int):Int:=qgp (qdL r l d) d l 0
theorem qgq(k:Nat)(b:Bool)(r:Ru)(l:List Pa)(d:Int):clK pg (k+2) "first_of_window" [.val (ruI r),aL b (l.map paD),.val (.int d)]=.ok (.val (.int (qdL r l d))):=by
 have s:=QB (pg:=pg) k b l r.days d;have iw:=Zy (xx:=pg.xx) r;rw[r_first_of_window];unfold qdL
 cases hk:r.kd.isW with
 |true=>rw[hk] at iw;simp? only[qT,RU.cs,iw,qdz r hk]
 |false=>
  rw[hk] at iw
  try simp only[qb1,qb2] at s
  simp? only[qT,RU.cs,iw,qfv r hk,s]
theorem y0(k:Nat)(b:Bool)(r:Ru)(l:List Pa)(h:WOk l)(d:Int):clK pg (k+3) "count_among" [.val (ruI r),aL b (l.map paD),.val (.int d)]=.ok (.val (.int (qG r l d))):=by
 have s:=qfz (pg:=pg) (k+1) b l h (qdL r l d) d;have f:=qgq (pg:=pg) k b r l d;rw[r_count_among];unfold qG
 try simp only[qb1,qb2] at s f
 simp? only[yS,f,s]
end
end DG
namespace DG
open PySem DE FA Dy
open L2 hiding St
open CH SP RU BO BT PC SU FK FM
def zP(span:Int):List Pa->List Int
 |[]=>[]
 | p::l=>(p.1+span)::(p.2.1+1+span)::zP span l
def zY(r:Ru)(l:List Pa):List Int:=if r.kd.isW=true then zP r.days l else []
theorem Y0(cl:Cl){xx:Xs}(hcs:cl.cs=pcs xx)(v1:Sl)(r:Ru)(hk:r.kd.isW=true):∀(l:List Pa) (acc:List Int) (s3 s4 s5:Sl),acc.length+2 * l.length < 10000->∃ρ',yc cl 1000 (.many [3,4,5]) jX (l.map paD) [.val (ruI r),v1,.own (acc.map D.int),s3,s4,s5]=.ok (.next (.val (ruI r)::v1::.own ((acc++zP r.days l).map D.int)::ρ'))
 |[],acc,s3,s4,s5,_=>⟨[s3,s4,s5],by simp[zP,zU]⟩
 | p::l,acc,s3,s4,s5,hl=>by
  rw[List.length_cons] at hl;obtain⟨ρ',ih⟩:=Y0 cl hcs v1 r hk l (acc++[p.1+r.days]++[p.2.1+1+r.days]) (.val (.int p.1)) (.val (.int p.2.1)) (.val (.int p.2.2)) (by simp;lia);refine⟨ρ',?_⟩;have hs:(acc.map D.int).length < sizeLine:=by rw[List.length_map];exact qu (by lia)
  have hs2:(acc.map D.int++[D.int (p.1+r.days)]).length < sizeLine:=by simp;exact qu (by lia)
  rw[zP,show acc++(p.1+r.days)::(p.2.1+1+r.days)::zP r.days l=acc++[p.1+r.days]++[p.2.1+1+r.days]++zP r.days l by simp];rw[List.map_append (l₁:=acc++[p.1+r.days]),List.map_append (l₁:=acc),List.map_cons,List.map_nil,List.map_cons,List.map_nil] at ih;refine(qk _).symm.trans ?_;rw[List.map_cons];simp? only[YA,zO,hcs,qdz r hk,hs,hs2,ih]
theorem Y1(s:Int):∀l:List Pa,(zP s l).length=2 * l.length
 |[]=>rfl
 | p::l=>by rw[zP,List.length_cons,List.length_cons,Y1 s l,List.length_cons];lia
noncomputable def Jt(r:Ru)(l:List Pa)(b e:Int):Option Int:=if qG r l b - qG r l (b - 1)<=0 then none else if b+(r.most - qG r l (b - 1)) / (qG r l b - qG r l (b - 1))<=e then some (b+(r.most - qG r l (b - 1)) / (qG r l b - qG r l (b - 1))) else none
def ZZ:Option Int->D
 |none=>.non
 |some d=>.int d
noncomputable def Jg(r:Ru)(l:List Pa):List Pr->Option Int
 |[]=>none
 | p::s=>match Jt r l p.1 p.2 with
  |some d=>some d
  |none=>Jg r l s
def inB(f t x:Int):Bool:=decide (f < x)&&decide (x<=t)
def qgr(f t:Int)(ts:List Int):List Pr:=(f::ts).zip (ts.map (· - 1)++[t])
noncomputable def j0(r:Ru)(L:List Pa)(ts:List Int):List Pa->Option Int
 |[]=>none
 | p::l=>match Jg r L (qgr p.1 p.2.1 (ts.filter (inB p.1 p.2.1))) with
  |some d=>some d
  |none=>j0 r L ts l
theorem qgs:∀(a b:List Int),qbT (a.map D.int) (b.map D.int)=(a.zip b).map pD
 |[],b=>by simp[qbT]
 | x::a,[]=>by simp[qbT]
 | x::a,y::b=>by
  have:=qgs a b
  unfold qbT at this ⊢;rw[List.map_cons,List.map_cons,List.zipWith_cons_cons,this];rfl
theorem qdM(d:D)(l:List D):qeo (d::l) (some 1) none=l:=by unfold qeo;rw[show(some (1:Int))=some ((1:Nat):Int) from rfl,HT.Z3,HT.qeF];simp
theorem qfA(cl:Cl)(f t:Int):∀(ts acc:List Int) (s0:Sl),acc.length+ts.length < 10000->zw cl zj (.one 0) (.test (.and (.cmp .Lt (.var 1) (.var 0)) (.one (.cmp .LtE (.var 0) (.var 2))))) (ts.map D.int) [s0,.val (.int f),.val (.int t)] (acc.map D.int)=.ok ((acc++ts.filter (inB f t)).map D.int)
 |[],acc,s0,_=>by simp[qD]
 | x::ts,acc,s0,hl=>by
  rw[List.length_cons] at hl;have hs:(acc.map D.int).length < sizeLine:=by rw[List.length_map];exact qu (by lia)
  by_cases h1:f < x
  ·by_cases h2:x<=t
   ·have ih:=qfA cl f t ts (acc++[x]) (.val (.int x)) (by simp;lia);have e:(x::ts).filter (inB f t)=x::ts.filter (inB f t):=by simp[inB,h1,h2]
    rw[e];simp only[List.map_append,List.map_cons,List.map_nil,List.append_assoc,List.cons_append,List.nil_append] at ih ⊢;refine(qk _).symm.trans ?_;simp? only[yU,h1,h2,hs,ih]
   ·have ih:=qfA cl f t ts acc (.val (.int x)) (by lia);have e:(x::ts).filter (inB f t)=ts.filter (inB f t):=by simp[inB,h2]
    rw[e];refine(qk _).symm.trans ?_;rw[List.map_cons];simp? only[h1,h2,ih]
  ·have ih:=qfA cl f t ts acc (.val (.int x)) (by lia);have e:(x::ts).filter (inB f t)=ts.filter (inB f t):=by simp[inB,h1]
   rw[e];refine(qk _).symm.trans ?_;rw[List.map_cons];simp? only[h1,ih]
theorem qkU(cl:Cl):∀(ts acc:List Int) (s0:Sl),acc.length+ts.length < 10000->zw cl zk (.one 0) .yes (ts.map D.int) [s0] (acc.map D.int)=.ok ((acc++ts.map (· - 1)).map D.int)
 |[],acc,s0,_=>by simp[qD]
 | x::ts,acc,s0,hl=>by
  rw[List.length_cons] at hl;have hs:(acc.map D.int).length < sizeLine:=by rw[List.length_map];exact qu (by lia)
  have ih:=qkU cl ts (acc++[x - 1]) (.val (.int x)) (by simp;lia);simp only[List.map_append,List.map_cons,List.map_nil,List.append_assoc,List.cons_append,List.nil_append] at ih ⊢;refine(qk _).symm.trans ?_;simp? only[yV,hs,ih]
def qiB(r:Ru)(l:List Pa):Prop:=∀d,qG r l d - qG r l (d - 1) < 1073741824
section
variable{pg:Pg}[RU pg][SU pg][FK pg]
theorem qb8(k:Nat)(b:Bool)(r:Ru)(l:List Pa)(hl:l.length < 4000):clK pg (k+1) "turns_of" [.val (ruI r),aL b (l.map paD)]=.ok (.tmp ((zY r l).map D.int)):=by
 have iw:=Zy (xx:=pg.xx) r;rw[r_turns_of];unfold zY
 cases hk:r.kd.isW with
 |true=>rw[hk] at iw;obtain⟨ρ',i⟩:=Y0 (pg.kk k) RU.cs (pS b (l.map paD)) r hk l [] .no .no .no (by simp;lia);rw[List.map_nil,List.nil_append] at i;simp? only[Jc,RU.cs,iw,show(0:Nat)<=sizeLine by decide+kernel,i]
 |false=>rw[hk] at iw;simp? only[Jc,RU.cs,iw,show(0:Nat)<=sizeLine by decide+kernel]
theorem qfB(k:Nat)(b:Bool)(r:Ru)(l:List Pa)(h:WOk l)(hs:qiB r l)(f t:Int):clK pg (k+4) "first_above" [.val (ruI r),aL b (l.map paD),.val (.int f),.val (.int t)]=.ok (.val (ZZ (Jt r l f t))):=by
 have c1:=y0 (pg:=pg) k b r l h (f - 1);have c2:=y0 (pg:=pg) k b r l h f;have hg:=hs f;rw[r_first_above];unfold Jt
 by_cases h1:qG r l f - qG r l (f - 1)<=0
 ·rw[if_pos h1]
  try simp only[qb1,qb2] at c1 c2
  simp? only[zy,c1,c2,h1,ZZ]
 ·rw[if_neg h1];have hd:(0:Int) < qG r l f - qG r l (f - 1)/\qG r l f - qG r l (f - 1) < 1073741824:=⟨by lia,hg⟩
  by_cases h2:f+(r.most - qG r l (f - 1)) / (qG r l f - qG r l (f - 1))<=t
  ·rw[if_pos h2]
   try simp only[qb1,qb2] at c1 c2
   simp? only[zy,c1,c2,h1,RU.cs,qdy,hd,h2,ZZ]
  ·rw[if_neg h2]
   try simp only[qb1,qb2] at c1 c2
   simp? only[zy,c1,c2,h1,RU.cs,qdy,hd,h2,ZZ]
theorem qbf(k:Nat)(b:Bool)(r:Ru)(l:List Pa)(h:WOk l)(hs:qiB r l)(v2 v3 v4 v5 v6 v8:Sl):∀(ss:List Pr) (s7 s9 s10:Sl),
  ∃F,yc (pg.kk (k+4)) 1000 (.many [7,9]) zn (ss.map pD) [.val (ruI r),pS b (l.map paD),v2,v3,v4,v5,v6,s7,v8,s9,s10]=.ok F/\(∀d,Jg r l ss=some d->F=.ret (.val (.int d)))/\(Jg r l ss=none->∃s7' s9' s10',F=.next [.val (ruI r),pS b (l.map paD),v2,v3,v4,v5,v6,s7',v8,s9',s10'])
 |[],s7,s9,s10=>⟨_,rfl,λd e=>(by cases e),λ_=>⟨s7,s9,s10,rfl⟩⟩
 | p::ss,s7,s9,s10=>by
  have a:=qfB (pg:=pg) k b r l h hs p.1 p.2;rw[Jg]
  cases e:Jt r l p.1 p.2 with
  |some d0=>rw[e] at a;dsimp only;refine⟨_,?_,λd ed=>(by cases ed;rfl),λq=>(by cases q)⟩;refine(qk _).symm.trans ?_;rw[List.map_cons];simp? only[zW,yf,a,ZZ]
  |none=>rw[e] at a;dsimp only;obtain⟨F,i,c⟩:=qbf k b r l h hs v2 v3 v4 v5 v6 v8 ss (.val (.int p.1)) (.val (.int p.2)) (.val .non);refine⟨F,?_,c⟩;refine(qk _).symm.trans ?_;rw[List.map_cons];simp? only[zW,yf,a,ZZ,i]
theorem Yl(k:Nat)(b:Bool)(r:Ru)(L:List Pa)(h:WOk L)(hs:qiB r L)(ts:List Int)(ht:ts.length < 8000):∀(l:List Pa) (c:Bool) (s3 s4 s5 s6 s7 s8 s9 s10:Sl),
  ∃F,yc (pg.kk (k+4)) 1000 (.many [3,4,5]) zo (l.map paD) [.val (ruI r),pS b (L.map paD),qlB c (ts.map D.int),s3,s4,s5,s6,s7,s8,s9,s10]=.ok F/\(∀d,j0 r L ts l=some d->F=.ret (.val (.int d)))/\(j0 r L ts l=none->∃ρ',F=.next ρ')
 |[],c,s3,s4,s5,s6,s7,s8,s9,s10=>⟨_,rfl,λd e=>(by cases e),λ_=>⟨_,rfl⟩⟩
 | p::l,c,s3,s4,s5,s6,s7,s8,s9,s10=>by
  have fl:=List.length_filter_le (inB p.1 p.2.1) ts;have t1:=qfA (pg.kk (k+4)) p.1 p.2.1 ts [] .no (by simp;lia);have t2:=qkU (pg.kk (k+4)) (ts.filter (inB p.1 p.2.1)) [] .no (by simp;lia);rw[List.map_nil,List.nil_append] at t1 t2;have z:=qgs (p.1::ts.filter (inB p.1 p.2.1)) ((ts.filter (inB p.1 p.2.1)).map (· - 1)++[p.2.1]);rw[List.map_cons,List.map_append,List.map_cons,List.map_nil] at z;have z0:ts.length<=sizeLine:=qv (by lia);have z1:0+1<=sizeLine:=by decide+kernel
  have z2:1+(ts.filter (inB p.1 p.2.1)).length<=sizeLine:=qv (by lia);have z3:(ts.filter (inB p.1 p.2.1)).length<=sizeLine:=qv (by lia);have z4:(ts.filter (inB p.1 p.2.1)).length+1<=sizeLine:=qv (by lia);obtain⟨G,i,seg⟩:=qbf (pg:=pg) k b r L h hs (.val (.lst (ts.map D.int))) (.val (.int p.1)) (.val (.int p.2.1)) (.val (.int p.2.2)) (.val (.lst (D.int p.1::(ts.filter (inB p.1 p.2.1)).map D.int))) (.val (.lst (((ts.filter (inB p.1 p.2.1)).map (· - 1)).map D.int++[D.int p.2.1]))) (qgr p.1 p.2.1 (ts.filter (inB p.1 p.2.1))) s7 s9 s10;rw[show qgr p.1 p.2.1 (ts.filter (inB p.1 p.2.1))=(p.1::ts.filter (inB p.1 p.2.1)).zip ((ts.filter (inB p.1 p.2.1)).map (· - 1)++[p.2.1]) from rfl] at i seg;rw[j0,show qgr p.1 p.2.1 (ts.filter (inB p.1 p.2.1))=(p.1::ts.filter (inB p.1 p.2.1)).zip ((ts.filter (inB p.1 p.2.1)).map (· - 1)++[p.2.1]) from rfl]
  cases e:Jg r L ((p.1::ts.filter (inB p.1 p.2.1)).zip ((ts.filter (inB p.1 p.2.1)).map (· - 1)++[p.2.1])) with
  |some d0=>rw[seg.1 d0 e] at i;dsimp only;refine⟨_,?_,λd ed=>(by cases ed;rfl),λq=>(by cases q)⟩;refine(qk _).symm.trans ?_;rw[List.map_cons];simp? only[zX,zO,List.length_map,z0,z1,z2,z3,z4,JU,List.getD_cons_succ,List.getD_cons_zero,t1,qdM,t2,z,i]
  |none=>obtain⟨s7',s9',s10',eG⟩:=seg.2 e;rw[eG] at i;dsimp only;obtain⟨F,i2,c2⟩:=Yl k b r L h hs ts ht l false (.val (.int p.1)) (.val (.int p.2.1)) (.val (.int p.2.2)) (.val (.lst (D.int p.1::(ts.filter (inB p.1 p.2.1)).map D.int))) s7' (.val (.lst (((ts.filter (inB p.1 p.2.1)).map (· - 1)).map D.int++[D.int p.2.1]))) s9' s10';refine⟨F,?_,c2⟩;simp only[qmC,qmD] at i2;refine(qk _).symm.trans ?_;rw[List.map_cons];simp? only[zX,zO,List.length_map,z0,z1,z2,z3,z4,JU,List.getD_cons_succ,List.getD_cons_zero,t1,qdM,t2,z,i,i2]
def qr(r:Ru)(l:List Pa):Option Int:=j0 r l (zY r l) l
theorem qb9(r:Ru)(l:List Pa):(zY r l).length<=2 * l.length:=by
 unfold zY;split
 ·rw[Y1];lia
 ·simp
theorem qdN(k:Nat)(b:Bool)(r:Ru)(l:List Pa)(h:WOk l)(hs:qiB r l)(hl:l.length < 3900):clK pg (k+5) "first_broken" [.val (ruI r),aL b (l.map paD)]=.ok (.val (ZZ (qr r l))):=by
 have t:=qb8 (pg:=pg) (k+3) b r l (by lia);obtain⟨F,i,lp⟩:=Yl (pg:=pg) k b r l h hs (zY r l) (by have:=qb9 r l;lia) l true .no .no .no .no .no .no .no .no;rw[r_first_broken];unfold qr
 cases e:j0 r l (zY r l) l with
 |some d=>
  rw[lp.1 d e] at i
  try simp only[qb1,qb2,qmC,qmD] at t i ⊢
  simp? only[z9,t,i,ZZ]
 |none=>
  obtain⟨ρ',eF⟩:=lp.2 e;rw[eF] at i
  try simp only[qb1,qb2,qmC,qmD] at t i ⊢
  simp? only[z9,t,i,ZZ]
end
end DG
namespace DG
open PySem DE FA Dy
open L2 hiding St
open CH SP RU BO BT PC SU FK FM
def y2(st:List St)(x:Rl):List Pa:=qz x.1 x.2 st
def qbg(d:Int):Option (Int×Int×Int)->Bool
 |none=>true
 |some z=>decide (d < z.1)
noncomputable def j5(st:List St):List Rl->Nat->Option (Int×Int×Int)->Option (Int×Int×Int)
 |[],_,f=>f
 | x::l,i,f=>match qr x.1 (y2 st x) with
  |none=>j5 st l (i+1) f
  |some d=>if qbg d f=true then j5 st l (i+1) (some (d,(i:Int),qdL x.1 (y2 st x) d)) else j5 st l (i+1) f
structure RlOk(st:List St)(x:Rl):Prop where
 ln:∀p∈x.1.lands,LnOk p
 w:WOk (y2 st x)
 slow:qiB x.1 (y2 st x)
 lf:x.2.length<=20
section
variable{pg:Pg}[RU pg][BO pg][SP pg][BT pg][PC pg][SU pg][FK pg]
theorem Y2(k:Nat)(b:Bool)(rs:List Ru)(ps:List Pa)(hp:ps.length<=18)(st:List St)(hs:∀s∈st,NameOk s.1)(hl:st.length<=70):∀(rest:List Rl) (i:Nat) (f:Option (Int×Int×Int)) (s3 s4 s5 s6:Sl),(∀(j:Nat) x,rest[j]?=some x->rs[i+j]?=some x.1/\x.2=yx ((i+j:Nat):Int) ps/\RlOk st x)->
  ∃ρ',yc (pg.kk (k+6)) 1000 (.many [3,4]) zL (enF i (rest.map λx=>ruI x.1)) [.val (bkI rs ps),pS b (st.map stD),.val (qcn f),s3,s4,s5,s6]=.ok (.next (.val (bkI rs ps)::pS b (st.map stD)::.val (qcn (j5 st rest i f))::ρ'))
 |[],i,f,s3,s4,s5,s6,_=>⟨[s3,s4,s5,s6],rfl⟩
 | x::rest,i,f,s3,s4,s5,s6,h=>by
  obtain⟨e1,e2,ok⟩:=h 0 x rfl;rw[Nat.add_zero] at e1 e2
  have nxt:∀(j:Nat) y,rest[j]?=some y->rs[i+1+j]?=some y.1/\y.2=yx ((i+1+j:Nat):Int) ps/\RlOk st y:=λj y hy=>by
   have:=h (j+1) y hy
   rwa[show i+(j+1)=i+1+j by lia] at this
  have pl:(y2 st x).length < 3900:=by
   have:=Yk x.1 x.2 st
   have h1:=ok.lf
   have:st.length * (x.2.length+2)<=70 * 22:=Nat.mul_le_mul hl (by lia)
   unfold y2
   lia
  have p:=qdK (pg:=pg) (k+3) b rs ps hp i x.1 e1 ok.ln (by rw[<-e2];exact ok.lf) st hs (by lia);rw[<-e2] at p;rw[show qz x.1 x.2 st=y2 st x from rfl] at p;have br:=qdN (pg:=pg) (k+1) true x.1 (y2 st x) ok.w ok.slow pl;have three:0+1+1+1<=sizeLine:=by decide+kernel
  simp only[qb1,qb2] at br;have fw:∀d,clK pg (k+6) "first_of_window" [.val (ruI x.1),.bor ((y2 st x).map paD),.val (.int d)]=.ok (.val (.int (qdL x.1 (y2 st x) d))):=λd=>qgq (pg:=pg) (k+4) true x.1 (y2 st x) d
  obtain⟨f',ef,X⟩:∃f',j5 st (x::rest) i f=j5 st rest (i+1) f'/\∀{β:Type} (K:Fl->R β) (a b:Sl),(iS (pg.kk (k+6)) 1000 (.ite (.and (.cmp .IsNot (.var 6) (.con D.non)) (.one (.or (.cmp .Is (.var 2) (.con D.non)) (.one (.cmp .Lt (.var 6) (.idx (.var 2) (.con (D.int 0)))))))) %[.set 2 (.tup %[6,3,.call "first_of_window" %[4,5,6|0]|0])|0] .nil) [a,b,.val (qcn f),.val (.int i),.val (ruI x.1),.own ((y2 st x).map paD),.val (ZZ (qr x.1 (y2 st x)))]).th K=K (.next [a,b,.val (qcn f'),.val (.int i),.val (ruI x.1),.own ((y2 st x).map paD),.val (ZZ (qr x.1 (y2 st x)))]):=by
   rw[j5]
   cases e:qr x.1 (y2 st x) with
   |none=>exact⟨f,rfl,λK a b=>by simp? only[ZZ]⟩
   |some d=>
    dsimp only
    cases f with
    |none=>exact⟨some (d,(i:Int),qdL x.1 (y2 st x) d),by rw[show qbg d none=true from rfl,if_pos rfl],λK a b=>by simp? only[ZZ,qcn,f3D,fw,three]⟩
    |some z=>
     by_cases hc:d < z.1
     ·exact⟨some (d,(i:Int),qdL x.1 (y2 st x) d),by rw[if_pos (by simp[qbg,hc])],λK a b=>by simp? only[ZZ,qcn,f3D,hc,fw,three]⟩
     ·exact⟨some z,by rw[if_neg (by simp[qbg,hc])],λK a b=>by simp? only[ZZ,qcn,f3D,hc]⟩
  rw[ef];obtain⟨ρ',ih⟩:=Y2 k b rs ps hp st hs hl rest (i+1) f' (.val (.int i)) (.val (ruI x.1)) (.own ((y2 st x).map paD)) (.val (ZZ (qr x.1 (y2 st x)))) nxt;refine⟨ρ',?_⟩;refine(qk _).symm.trans ?_;rw[List.map_cons,enF];simp? only[↓X,Jd,p,br,ih]
end
def zu(rs:List Ru)(ps:List Pa)(st:List St):Option (Int×Int×Int):=j5 st (rlF ps 0 rs) 0 none
section
variable{pg:Pg}[RU pg][BO pg][SP pg][BT pg][PC pg][SU pg][FK pg][FM pg]
theorem QC(k:Nat)(b:Bool)(rs:List Ru)(ps:List Pa)(hp:ps.length<=18)(st:List St)(hs:∀s∈st,NameOk s.1)(hl:st.length<=70)(hr:∀x∈rlF ps 0 rs,RlOk st x) :
  clK pg (k+7) "fault_among" [.val (bkI rs ps),aL b (st.map stD)]=.ok (.val (qcn (zu rs ps st))):=by
 have a:=qbe (pg:=pg) (k+5) rs ps
 obtain⟨ρ',i⟩:=Y2 (pg:=pg) k b rs ps hp st hs hl (rlF ps 0 rs) 0 none .no .no .no .no (λj x hx=>by have hm:=List.mem_of_getElem? hx;rw[Qw] at hx;obtain⟨r,e1,e2⟩:=Option.map_eq_some_iff.mp hx;rw[Nat.zero_add];rw[Nat.zero_add] at e2;exact⟨by rw[e1,<-e2],by rw[<-e2],hr x hm⟩)
 rw[qgo] at i;rw[r_fault_among]
 try simp only[qb1,qb2,qcn] at i ⊢
 simp? only[yW,RU.cs,qbd,a,JG,i,zu]
end
end DG
namespace FZ
open PySem DE DG Dy FA
open L2 hiding St
open ZA ZW ZN ZR ZP RU
theorem qbh(z:Str)(i:Nat)(h:i<=z.length):(Txt.slice z none (some (i:Int))).cps.toList=z.cps.toList.take i:=by
 have e:Builtin.Str.strSliceIndices none (some (i:Int)) 1 z.length=(List.range i).map (0 + ·):=by
  have:=sliceRange_one 0 i
  rw[Nat.sub_zero] at this;rw[<-this];unfold Builtin.Str.strSliceIndices;simp only[show(1:Int) > 0 by decide,if_true]
  congr 1
  rw[if_neg (1:)];omega
 unfold Txt.slice;rw[e];split
 ·rename_i hc;simp at hc;rw[hc,List.take_of_length_le (by simp[Str.length])]
 ·show(List.toArray _).toList=_;rw[pick_run];simp
theorem qfC(z:Str)(i:Nat)(h:i<=z.length):(Txt.slice z (some (i:Int)) none).cps.toList=z.cps.toList.drop i:=by
 have e:Builtin.Str.strSliceIndices (some (i:Int)) none 1 z.length=(List.range (z.length - i)).map (i + ·):=by
  rw[<-sliceRange_one i z.length];unfold Builtin.Str.strSliceIndices;simp only[show(1:Int) > 0 by decide,if_true]
  congr 1
  rw[if_neg (1:)];omega
 unfold Txt.slice;rw[e];split
 ·rename_i hc;simp at hc
  have:i=0\/z.length=0:=by omega
  rcases this with q | q
  ·rw[q];simp
  ·have:z.cps.toList=[]:=by simpa [Str.length] using q
   rw[this];simp
 ·show(List.toArray _).toList=_;rw[pick_run,List.take_of_length_le (by simp[Str.length])]
section
variable{pg:Pg}[ZA pg]
theorem qkV(k:Nat)(ns:List Int)(i:Nat):clK pg (k+1) "_law_at" [.scr (ns.map D.int),.val (.int (i:Int))]=.ok (.val (.int (qY ns i))):=by
 rw[r__law_at]
 by_cases h:i < ns.length
 ·have h1:(i:Int) < ((ns.map D.int).length:Int):=by rw[List.length_map];omega
  have h2:atI (ns.map D.int) (i:Int)=some (.int (qY ns i)):=qiA (by simp[h,qY]);simp? only[J5,Nat.reduceAdd,Nat.reduceSub,h1,h2,decide_true]
 ·have h1:¬ (i:Int) < ((ns.map D.int).length:Int):=by rw[List.length_map];omega
  have h2:qY ns i=0:=by simp[qY,h]
  simp? only[J5,Nat.reduceAdd,Nat.reduceSub,h1,h2,decide_false]
end
def qlC(z:Str):Prop:=∀c∈z.cps.toList,jZ c
theorem ZC(cl:Cl)(v0 v2:Sl):∀(n:Nat) (j:Int) (m:Int) (z:Str) (s4:Sl),z.cps.size+n<=8->qlC z->∃(z':Str) (m':Int) (s4':Sl),yc cl 1000 (.one 4) jE (rgF j n) [v0,.val (.int m),v2,.val (.str z),s4]=.ok (.next [v0,.val (.int m'),v2,.val (.str z'),s4'])/\z'.cps.size=z.cps.size+n/\qlC z'
 |0,j,m,z,s4,_,h=>⟨z,m,s4,rfl,rfl,h⟩
 | n+1,j,m,z,s4,hn,h=>by
  obtain⟨h1,hl⟩:=qkR (m % 26) (Int.emod_nonneg _ (2:)) (Int.emod_lt_of_pos _ (2:));generalize 97+(m % 26).toNat=c at h1 hl
  obtain⟨z',m',s4',ih,i1,i2⟩:=ZC cl v0 v2 n (j+1) (m / 26) (z++(⟨#[c]⟩:Str)) (.val (.int j)) (by rw[Qq];omega) (λx hx=>by
   rw[qfr] at hx;rcases List.mem_append.mp hx with q | q
   ·exact h x q
   ·rw[List.mem_singleton.mp q];exact hl)
  refine⟨z',m',s4',?_,by rw[i1,Qq];omega,i2⟩
  have hs:z.length+(⟨#[c]⟩:Str).length<=sizeLine:=by show z.cps.size+1<=2 ^ 24;omega
  have h26:("abcdefghijklmnopqrstuvwxyz" : Str).length<=sizeLine:=by decide+kernel
  refine(qk _).symm.trans ?_;rw[rgF];simp? only[J6,h1,hs,h26,ih]
theorem qib{pg:Pg}[ZW pg](k:Nat)(c:Int):∃z:Str,clK pg (k+1) "_law_word" [.val (.int c)]=.ok (.val (.str z))/\1<=z.cps.size/\z.cps.size<=7/\qlC z:=by
 have mul:qem c 1099087573=true:=qa9 (2:) (2:);generalize hN:c * 1099087573 % 10000000000037=n;have a0:0<=n % 7:=Int.emod_nonneg _ (2:);have a1:n % 7 < 7:=Int.emod_lt_of_pos _ (2:);obtain⟨m,em⟩:∃m:Nat,1+n % 7=(m:Int):=⟨(1+n % 7).toNat,by omega⟩;have e0:("" : Str).cps.size=0:=by decide+kernel
 obtain⟨z,m',s4,e,e1,e2⟩:=ZC (pg.kk k) (.val (.int c)) (.val (.int (m:Int))) m 0 (n / 7) "" .no (1:) (λx hx=>by rw[show("" : Str).cps.toList=[] by decide+kernel] at hx;cases hx)
 refine⟨z,?_,by omega,by omega,e2⟩
 have sm:qX (m:Int)=true:=by unfold qX;simp;omega
 rw[r__law_word];simp? only[J7,mul,hN,em,sm,JX,Int.sub_zero,Int.toNat_natCast,e]
noncomputable def YC(z:Str)(a c:Nat):Str:=Txt.slice z none (some (a:Int))++(⟨#[c]⟩:Str)++Txt.slice z (some (a:Int)) none
theorem qdO(x y:Str):(x++y).cps.toList=x.cps.toList++y.cps.toList:=by show(x.cps++y.cps).toList=_;simp
theorem ju{z:Str}{a:Nat}(h:a<=z.length)(c:Nat):(YC z a c).cps.toList=z.cps.toList.take a++c::z.cps.toList.drop a:=by unfold YC;rw[qdO,qdO,qbh z a h,qfC z a h];simp
theorem Y3{z:Str}{a:Nat}(h:a<=z.length)(c:Nat):(YC z a c).cps.size=z.cps.size+1:=by have h':a<=z.cps.size:=h;rw[<-Array.length_toList,ju h];simp;omega
theorem qfD{z:Str}{a:Nat}(h:a<=z.length)(h7:z.cps.size<=7)(hl:qlC z){c:Nat}(hc:jZ c):NameOk (YC z a c):=by
 refine⟨by rw[Y3 h];omega,by rw[Y3 h];omega,λx hx=>?_⟩;rw[ju h] at hx;rcases List.mem_append.mp hx with q | q
 ·exact hl x (List.mem_of_mem_take q)
 ·rcases List.mem_cons.mp q with q | q
  ·rw[q];exact hc
  ·exact hl x (List.mem_of_mem_drop q)
theorem qdP{z:Str}{a:Nat}(h:a<=z.length){c c':Nat}(e:YC z a c=YC z a c'):c=c':=by
 have e1:=congrArg (λx:Str=>x.cps.toList) e;rw[ju h,ju h] at e1
 have:=List.append_cancel_left e1
 exact(List.cons.inj this).1
theorem Y4(cl:Cl)(z:Str)(a:Nat)(ha:a<=z.length)(h7:z.cps.size<=7):∀(cs:List Nat) (acc:List Str) (s0:Sl),acc.length+cs.length < 10000->zw cl ja (.one 0) .yes (cs.map λc=>D.str ⟨#[c]⟩) [s0,.val (.str z),.val (.int (a:Int))] (acc.map D.str)=.ok ((acc++cs.map (YC z a)).map D.str)
 |[],acc,s0,_=>by simp[qD]
 | c::cs,acc,s0,hl=>by
  rw[List.length_cons] at hl;have hs:(acc.map D.str).length < sizeLine:=by rw[List.length_map];exact qu (1:)
  have hz:z.length<=sizeLine:=by show z.cps.size<=2 ^ 24;omega
  have l1:(Txt.slice z none (some (a:Int))).length<=z.length:=Txt.slice_le _ _ _;have l2:(Txt.slice z (some (a:Int)) none).length<=z.length:=Txt.slice_le _ _ _;have h7':z.length<=7:=h7
  have s1:(Txt.slice z none (some (a:Int))).length+(⟨#[c]⟩:Str).length<=sizeLine:=by
   have:(⟨#[c]⟩:Str).length=1:=rfl
   show _<=2 ^ 24;omega
  have s2:(Txt.slice z none (some (a:Int))++(⟨#[c]⟩:Str)).length+(Txt.slice z (some (a:Int)) none).length<=sizeLine:=by
   have:(Txt.slice z none (some (a:Int))++(⟨#[c]⟩:Str)).length=(Txt.slice z none (some (a:Int))).length+1:=Qq _ _
   show _<=2 ^ 24;omega
  have ih:=Y4 cl z a ha h7 cs (acc++[YC z a c]) (.val (.str ⟨#[c]⟩)) (by simp;omega);simp only[List.map_append,List.map_cons,List.map_nil,List.append_assoc,List.cons_append,List.nil_append,YC] at ih ⊢;refine(qk _).symm.trans ?_;simp? only[Jw,hs,hz,s1,s2,ih]
theorem qfE(n:Nat)(h:n<=4):qbS (Txt.slice "kcxq" none (some (n:Int)))=(([107,99,120,113]:List Nat).take n).map λc=>D.str ⟨#[c]⟩:=by unfold qbS;rw[qbh _ _ (by show n<=("kcxq" : Str).length;rw[show("kcxq" : Str).length=4 by decide+kernel];exact h),show("kcxq" : Str).cps.toList=[107,99,120,113] by decide+kernel]
theorem qfF{pg:Pg}[ZW pg][ZN pg](k:Nat)(c:Int)(n:Nat)(hn:2<=n/\n<=4):∃zs:List Str,clK pg (k+2) "_law_names" [.val (.int c),.val (.int (n:Int))]=.ok (.tmp (zs.map D.str))/\zs.length=n/\NamesOk zs/\∀y∈zs,∃c∈([107,99,120,113]:List Nat),c∈y.cps.toList:=by
 obtain⟨z,hw,h1,h7,hl⟩:=qib (pg:=pg) k c;have hp:(0:Int) < (z.length:Int)+1:=by omega
 obtain⟨a,ea⟩:∃a:Nat,c % ((z.length:Int)+1)=(a:Int):=⟨(c % ((z.length:Int)+1)).toNat,by have:=Int.emod_nonneg c (show(z.length:Int)+1≠0 by omega);omega⟩;have ha:a<=z.length:=by have:=Int.emod_lt_of_pos c hp;omega
 have hz:z.length<=sizeLine:=by show z.cps.size<=2 ^ 24;omega
 have cs:=Y4 (pg.kk (k+1)) z a ha h7 (([107,99,120,113]:List Nat).take n) [] .no (by simp;omega);rw[List.map_nil,List.nil_append] at cs;have hk:("kcxq" : Str).length<=sizeLine:=by decide+kernel
 have let4:∀x∈([107,99,120,113]:List Nat).take n,jZ x:=λx hx=>by
  have:=List.mem_of_mem_take hx
  unfold jZ;simp at this;omega
 refine⟨(([107,99,120,113]:List Nat).take n).map (YC z a),?_,by simp;omega,⟨by simp;omega,by simp;omega,λy hy=>?_,λi j y hi hj=>?_⟩,λy hy=>?_⟩
 ·have sig:=qfE n hn.2;rw[r__law_names];have hs4:((([107,99,120,113]:List Nat).take n).map λc=>D.str ⟨#[c]⟩).length<=sizeLine:=qv (by simp;omega);simp? only[Js,hw,hz,hp,ea,hk,sig,hs4,JU,List.getD_cons_succ,List.getD_cons_zero,cs]
 ·obtain⟨x,hx,rfl⟩:=List.mem_map.mp hy;exact qfD ha h7 hl (let4 x hx)
 ·rw[List.getElem?_map] at hi hj;obtain⟨x,hx,ex⟩:=Option.map_eq_some_iff.mp hi;obtain⟨x',hx',ex'⟩:=Option.map_eq_some_iff.mp hj;have e:=qdP ha (ex.trans ex'.symm);subst e;have nd:(([107,99,120,113]:List Nat).take n).Nodup:=(List.take_sublist n _).nodup (2:);exact(List.getElem?_inj (List.getElem?_eq_some_iff.mp hx).1 nd).mp (hx.trans hx'.symm)
 ·obtain⟨x,hx,rfl⟩:=List.mem_map.mp hy;exact⟨x,List.mem_of_mem_take hx,by rw[ju ha];simp⟩
end FZ
namespace FZ
open PySem DE DG Dy FA
open L2 hiding St
open ZA ZW ZN ZR ZP RU
def kw:Kd->Int
 |.wi=>0
 |.si=>1
 |.ro=>2
def spD(r:Ru):D:=.tup [.int (kw r.kd),.lst (r.lands.map lnD),.int r.most,.int r.days]
theorem qbi(r:Ru):spD r=.tup [.int (kw r.kd),.lst (r.lands.map lnD),.int r.most,.int r.days]:=rfl
def mkR(r:Ru):Ru:=match r.kd with
 |.ro=>{ r with days:=1 }
 |_=>r
structure SpOk(r:Ru):Prop where
 nd:(r.lands.map (·.1)).Nodup
 l1:1<=r.lands.length
 l6:r.lands.length<=6
 ok:∀p∈r.lands,LnOk p
 m0:0<=r.most
 m1:r.most<=1000000000
 d0:1<=r.days
 d1:r.days<=1000000000
theorem SpOk.lands{r:Ru}(h:SpOk r):qB (r.lands.map lnD)=true:=qb6 h.ok h.nd h.l1 h.l6
theorem qdQ(r:Ru):(mkR r).lands=r.lands:=by obtain⟨kd,_,_,_⟩:=r;cases kd<;>rfl
theorem QD(r:Ru):(mkR r).most=r.most:=by obtain⟨kd,_,_,_⟩:=r;cases kd<;>rfl
theorem qgt(r:Ru):(mkR r).kd=r.kd:=by obtain⟨kd,_,_,_⟩:=r;cases kd<;>rfl
theorem QE(r:Ru):(mkR r).days=match r.kd with |.ro=>1 |_=>r.days:=by obtain⟨kd,_,_,_⟩:=r;cases kd<;>rfl
theorem qkW{r:Ru}(h:SpOk r):(∀p∈(mkR r).lands,LnOk p)/\1<=(mkR r).days/\0<=(mkR r).most:=by
 have h1:=h.d0;refine⟨by rw[qdQ];exact h.ok,?_,by rw[QD];exact h.m0⟩;rw[QE]
 split<;>omega
theorem qkX(n:Int):∃kd:Kd,n % 3=kw kd:=by
 have h0:0<=n % 3:=Int.emod_nonneg _ (2:);have h1:n % 3 < 3:=Int.emod_lt_of_pos _ (2:)
 by_cases a:n % 3=0
 ·exact⟨.wi,a⟩
 ·by_cases b:n % 3=1
  ·exact⟨.si,b⟩
  ·exact⟨.ro,by show n % 3=2;omega⟩
theorem at3(a b c d:D):atI [a,b,c,d] (3:Int)=some d:=(rfl)
theorem qic{pg:Pg}[RU pg][ZR pg](k:Nat)(r:Ru)(h:SpOk r):clK pg (k+13) "_law_rule" [.val (spD r)]=.ok (.val (ruI (mkR r))):=by
 have hl:=h.lands;have h0:=h.m0;have h1:=h.m1;have h2:=h.d0;have h3:=h.d1;have hm:btw r.most 0 1000000000=true:=by unfold btw;simp;omega
 have hd:btw r.days 1 1000000000=true:=by unfold btw;simp;omega
 obtain⟨kd,lands,most,days⟩:=r;dsimp only at hl hm hd;rw[r__law_rule]
 cases kd with
 |wi=>
  have e:pg.nw (k+12) "Within" [.val (.lst (lands.map lnD)),.val (.int most),.val (.int days)]=.ok (.val (ruI ⟨.wi,lands,most,days⟩)):=by rw[RU.nw];show(if k+12 < 12 then R.no else qb5 "Within" (if (qB (lands.map lnD)&&btw most 0 1000000000&&btw days 1 1000000000)=true then _ else none))=_;rw[if_neg Qx,if_pos (by rw[hl,hm,hd];rfl)];rfl
  simp? only[jF,spD,kw,mkR,qL,show((0:Int) == 0)=true by decide,at3,e]
 |si=>
  have e:pg.nw (k+12) "Since" [.val (.lst (lands.map lnD)),.val (.int most),.val (.int days)]=.ok (.val (ruI ⟨.si,lands,most,days⟩)):=by rw[RU.nw];show(if k+12 < 12 then R.no else qb5 "Since" (if (qB (lands.map lnD)&&btw most 0 1000000000&&btw days 1 1000000000)=true then _ else none))=_;rw[if_neg Qx,if_pos (by rw[hl,hm,hd];rfl)];rfl
  simp? only[jF,spD,kw,mkR,qL,show((1:Int) == 0)=false by decide,show((1:Int) == 1)=true by decide,at3,e]
 |ro=>
  have e:pg.nw (k+12) "InRow" [.val (.lst (lands.map lnD)),.val (.int most)]=.ok (.val (ruI ⟨.ro,lands,most,1⟩)):=by rw[RU.nw];show(if k+12 < 12 then R.no else qb5 "InRow" (if (qB (lands.map lnD)&&btw most 0 1000000000)=true then _ else none))=_;rw[if_neg Qx,if_pos (by rw[hl,hm];rfl)];rfl
  simp? only[jF,spD,kw,mkR,qL,show((2:Int) == 0)=false by decide,show((2:Int) == 1)=false by decide,e]
end FZ
namespace FZ
open PySem DE DG Dy FA
open L2 hiding St
open ZA ZW ZN ZR ZP RU
theorem qgu(a b:Int):a<=mx a b/\b<=mx a b/\(mx a b=a\/mx a b=b):=by
 unfold mx
 split<;>omega
def wd(g:Bool):Int:=if g=true then 4000030 else 21
structure PpOk(m:Int)(p:Pa):Prop where
 o0:0<=p.1
 o1:p.1 < m
 a0:0<=p.2.1
 ab:p.2.1<=p.2.2
 b1:p.2.2<=1000000000
theorem zN(cl:Cl)(v0:Sl)(m long day:Int)(hm:0 < m)(h0:0<=day)(hl0:0<=long)(hl1:day+long+long / 4<=1000000000):∀(cs:List Int) (acc:List Pa) (s5 s6 s7:Sl),acc.length+cs.length < 10000->
  ∃(l:List Pa) (ρ':List Sl),yc cl 1000 (.one 5) zM (cs.map D.int) [v0,.val (.int m),.val (.int day),.val (.int long),.own (acc.map paD),s5,s6,s7]=.ok (.next (v0::.val (.int m)::.val (.int day)::.val (.int long)::.own ((acc++l).map paD)::ρ'))/\l.length=cs.length/\∀p∈l,PpOk m p/\p.2.2<=day+long+long / 4
 |[],acc,s5,s6,s7,_=>⟨[],[s5,s6,s7],by simp[zU],rfl,λs h=>(by cases h)⟩
 | c::cs,acc,s5,s6,s7,hl=>by
  rw[List.length_cons] at hl;have mul:qem c 16807=true:=qa9 (2:) (2:);generalize hN:c * 16807 % 2147483629=n;have hn:0<=n:=by rw[<-hN];exact Int.emod_nonneg _ (2:)
  have hx:(0:Int) < mx 1 long:=by have:=qgu 1 long;omega
  have hx2:mx 1 long<=long+1:=by have:=qgu 1 long;omega
  have hq:(0:Int) < 1+long / 4:=by omega
  have a0:0<=n / 8 % mx 1 long:=Int.emod_nonneg _ (1:);have a1:n / 8 % mx 1 long < mx 1 long:=Int.emod_lt_of_pos _ hx;have b0:0<=n / 64 % (1+long / 4):=Int.emod_nonneg _ (1:);have b1:n / 64 % (1+long / 4) < 1+long / 4:=Int.emod_lt_of_pos _ hq;have o0:0<=n % m:=Int.emod_nonneg _ (1:);have o1:n % m < m:=Int.emod_lt_of_pos _ hm;obtain⟨l,ρ',i0,i1,i2⟩:=zN cl v0 m long day hm h0 hl0 hl1 cs (acc++[(n % m,day+n / 8 % mx 1 long,day+n / 8 % mx 1 long+n / 64 % (1+long / 4))]) (.val (.int c)) (.val (.int n)) (.val (.int (day+n / 8 % mx 1 long))) (by simp;omega);refine⟨(n % m,day+n / 8 % mx 1 long,day+n / 8 % mx 1 long+n / 64 % (1+long / 4))::l,ρ',?_,by rw[List.length_cons,i1,List.length_cons],λp hp=>?_⟩
  ·have hs:(acc.map paD).length < sizeLine:=by rw[List.length_map];exact qu (1:)
   have three:0+1+1+1<=sizeLine:=by decide+kernel
   have mxr:(if long > 1 then long else 1)=mx 1 long:=rfl;simp only[List.map_append,List.map_cons,List.map_nil,List.append_assoc,List.cons_append,List.nil_append,zO] at i0 ⊢;refine(qk _).symm.trans ?_;simp? only[Je,mul,hN,hm,hx,hq,three,hs,mxr,i0]
  ·rcases List.mem_cons.mp hp with rfl | hp
   ·exact⟨⟨o0,o1,by dsimp only;omega,by dsimp only;omega,by dsimp only;omega⟩,by dsimp only;omega⟩
   ·exact i2 p hp
theorem qdR{pg:Pg}[ZP pg](k:Nat)(b:Bool)(m long day:Int)(hm:0 < m)(h0:0<=day)(hl0:0<=long)(hl1:day+long+long / 4<=1000000000)(cs:List Int)(hl:cs.length < 1000) :
  ∃l:List Pa,clK pg (k+1) "_law_papers" [.val (.lst (cs.map D.int)),.val (.int m),.val (.int day),.val (.int long)]=.ok (.tmp (l.map paD))/\l.length=cs.length/\∀p∈l,PpOk m p/\p.2.2<=day+long+long / 4:=by
 obtain⟨l,ρ',e,e1,e2⟩:=zN (pg.kk k) (.val (.lst (cs.map D.int))) m long day hm h0 hl0 hl1 cs [] .no .no .no (by simp;omega);refine⟨l,?_,e1,e2⟩;rw[List.map_nil,List.nil_append] at e;rw[r__law_papers];simp? only[yY,show(0:Nat)<=sizeLine by decide+kernel,e]
end FZ
namespace DG
open PySem DE FA Dy
open L2 hiding St
theorem Spr.tail{p:Pr}{l:List Pr}(h:Spr (p::l)):Spr l:=⟨λq hq=>h.ok q (by simp[hq]),(List.pairwise_cons.mp h.gap).2⟩
theorem qO{p:Pr}{l:List Pr}{d:Int}:Day (p::l) d↔(p.1<=d/\d<=p.2)\/Day l d:=by
 unfold Day;constructor
 ·rintro⟨q,hq,h⟩;rcases List.mem_cons.mp hq with rfl | hq
  ·exact .inl h
  ·exact .inr ⟨q,hq,h⟩
 ·rintro (h | ⟨q,hq,h⟩)
  ·exact⟨p,by simp,h⟩
  ·exact⟨q,by simp[hq],h⟩
theorem Ym{d:Int}:¬ Day [] d:=λ⟨_,h,_⟩=>by cases h
structure Apart(l:List Pr):Prop where
 ok:∀p∈l,p.1<=p.2
 ap:l.Pairwise λp q=>p.2+1 < q.1
structure OutOk(b:Int)(l:List Pr)(F:List Pr)(b':Int):Prop where
 apart:Apart F
 lo:∀x∈F,b<=x.1
 hi:∀x∈F,x.2+1 < b'
 le:b<=b'
 day:∀d,b<=d->d < b'->(Day F d↔¬ Day l d)
 end_:∀d,b'<=d->¬ Day l d
theorem qgv:∀(l:List Pr) (b:Int),Spr l->OutOk b l (Jx b l).1 (Jx b l).2
 |[],b,_=>⟨⟨λ_ h=>(by cases h),List.Pairwise.nil⟩,λ_ h=>(by cases h),λ_ h=>(by cases h),Int.le_refl _,λd h1 h2=>by dsimp only[Jx] at h2;lia,λd _=>Ym⟩
 | t::l,b,hS=>by
  have hS':=Spr.tail hS;have ht:=hS.ok t (by simp);have hg:=(List.pairwise_cons.mp hS.gap).1;have hlow:∀d,Day l d->t.2+2<=d:=λd ⟨q,hq,h1,_⟩=>by have:=hg q hq;lia
  have ih:=qgv l (mx b (t.2+1)) hS';have hm:=qfy b (t.2+1);rw[Jx];generalize hb1:mx b (t.2+1)=b1 at *;have hle:=ih.le
  have hb:b<=b1/\t.2+1<=b1/\(b1=b\/b1=t.2+1):=by
   rcases Int.le_total b (t.2+1) with q | q
   ·have:=hm.1 q;lia
   ·have:=hm.2 q;lia
  generalize (Jx b1 l).1=F at *;generalize (Jx b1 l).2=b' at *;dsimp only
  by_cases hc:b < t.1
  ·rw[if_pos hc];refine⟨⟨λx hx=>?_,?_⟩,λx hx=>?_,λx hx=>?_,by lia,λd h1 h2=>?_,λd h1=>?_⟩
   ·rcases List.mem_cons.mp hx with rfl | hx
    ·dsimp only;lia
    ·exact ih.apart.ok x hx
   ·refine List.pairwise_cons.mpr ⟨λx hx=>?_,ih.apart.ap⟩
    have:=ih.lo x hx
    dsimp only
    lia
   ·rcases List.mem_cons.mp hx with rfl | hx
    ·dsimp only;lia
    ·have:=ih.lo x hx;lia
   ·rcases List.mem_cons.mp hx with rfl | hx
    ·dsimp only;lia
    ·exact ih.hi x hx
   ·show Day ((b,t.1 - 1)::F) d↔_;rw[qO,qO]
    by_cases q:d < b1
    ·have n1:¬ Day F d:=λ⟨x,hx,h3,_⟩=>by have:=ih.lo x hx;lia
     have n2:¬ Day l d:=λz=>by have:=hlow d z;lia
     dsimp only;constructor
     ·rintro (z | z)
      ·rintro (y | y)
       ·lia
       ·exact n2 y
      ·exact absurd z n1
     ·intro z;left;refine⟨h1,?_⟩
      by_cases y:t.1<=d
      ·exact absurd (.inl ⟨y,by lia⟩) z
      ·lia
    ·have:=ih.day d (by lia) h2
     rw[this];dsimp only;constructor
     ·rintro (z | z)
      ·lia
      ·rintro (y | y)
       ·lia
       ·exact z y
     ·intro z;exact .inr λy=>z (.inr y)
   ·rw[qO];rintro (z | z)
    ·lia
    ·exact ih.end_ d h1 z
  ·rw[if_neg hc,List.nil_append];refine⟨ih.apart,λx hx=>by have:=ih.lo x hx;lia,ih.hi,by lia,λd h1 h2=>?_,λd h1=>?_⟩
   ·rw[qO]
    by_cases q:d < b1
    ·have n1:¬ Day F d:=λ⟨x,hx,h3,_⟩=>by have:=ih.lo x hx;lia
     constructor
     ·intro z;exact absurd z n1
     ·intro z;exact absurd (.inl ⟨by lia,by lia⟩) z
    ·rw[ih.day d (by lia) h2];constructor
     ·intro z;rintro (y | y)
      ·lia
      ·exact z y
     ·intro z y;exact z (.inr y)
   ·rw[qO];rintro (z | z)
    ·lia
    ·exact ih.end_ d h1 z
theorem qca{l:List Pr}(h:Spr l)(f t:Int):Apart (qJ l f t)/\(∀x∈qJ l f t,f<=x.1)/\∀d,f<=d->d<=t->(Day (qJ l f t) d↔¬ Day l d):=by
 have o:=qgv l f h;have hle:=o.le;unfold qJ;generalize (Jx f l).1=F at *;generalize (Jx f l).2=b at *
 by_cases hc:b<=t
 ·rw[if_pos hc];refine⟨⟨λx hx=>?_,?_⟩,λx hx=>?_,λd h1 h2=>?_⟩
  ·rcases List.mem_append.mp hx with q | q
   ·exact o.apart.ok x q
   ·rw[List.mem_singleton.mp q];exact hc
  ·refine List.pairwise_append.mpr ⟨o.apart.ap,by simp,λx hx y hy=>?_⟩;rw[List.mem_singleton.mp hy];exact o.hi x hx
  ·rcases List.mem_append.mp hx with q | q
   ·exact o.lo x q
   ·rw[List.mem_singleton.mp q];exact hle
  ·rw[Jf,Qs]
   by_cases q:d < b
   ·rw[<-o.day d h1 q];dsimp only;constructor
    ·rintro (z | z)
     ·exact z
     ·lia
    ·exact .inl
   ·have n:=o.end_ d (by lia);constructor
    ·intro _;exact n
    ·intro _;exact .inr ⟨by dsimp only;lia,h2⟩
 ·rw[if_neg hc,List.append_nil];exact⟨o.apart,o.lo,λd h1 h2=>o.day d h1 (by lia)⟩
theorem qkY(p:Pr)(hp:p.1<=p.2):∀(n:Nat) (B:List Pr),B.length < n->Apart B->Apart (jt n [p] B)/\(∀x∈jt n [p] B,p.1<=x.1/\x.2<=p.2/\∃q∈B,q.1<=x.1/\x.2<=q.2)/\∀d,Day (jt n [p] B) d↔(p.1<=d/\d<=p.2)/\Day B d
 |0,B,h,_=>by lia
 | n+1,[],_,_=>⟨⟨λ_ h=>(by cases h),List.Pairwise.nil⟩,λ_ h=>(by cases h),λd=>⟨λz=>absurd z Ym,λz=>absurd z.2 Ym⟩⟩
 | n+1,q::B,h,hA=>by
  rw[List.length_cons] at h;have hq:=hA.ok q (by simp);have hg:=(List.pairwise_cons.mp hA.ap);have hlow:∀d,Day B d->q.2 < d:=λd ⟨x,hx,h1,_⟩=>by have:=hg.1 x hx;lia
  have m1:=qfy p.1 q.1;have m2:=ZB p.2 q.2;rw[jt]
  have hm1:p.1<=mx p.1 q.1/\q.1<=mx p.1 q.1/\(mx p.1 q.1=p.1\/mx p.1 q.1=q.1):=by
   rcases Int.le_total p.1 q.1 with z | z
   ·have:=m1.1 z;lia
   ·have:=m1.2 z;lia
  have hm2:mn p.2 q.2<=p.2/\mn p.2 q.2<=q.2/\(mn p.2 q.2=p.2\/mn p.2 q.2=q.2):=by
   rcases Int.le_total p.2 q.2 with z | z
   ·have:=m2.1 z;lia
   ·have:=m2.2 z;lia
  generalize mx p.1 q.1=a at *;generalize mn p.2 q.2=b at *
  obtain⟨R,hR,r1,r2,r3⟩:∃R,(if p.2 < q.2 then jt n [] (q::B) else jt n [p] B)=R/\Apart R/\(∀x∈R,p.1<=x.1/\x.2<=p.2/\(∃y∈q::B,y.1<=x.1/\x.2<=y.2)/\b+1 < x.1)/\∀d,Day R d↔(p.1<=d/\d<=p.2)/\Day B d:=by
   by_cases hd:p.2 < q.2
   ·rw[if_pos hd];have e:jt n [] (q::B)=[]:=by cases n<;>rfl
    rw[e];exact⟨[],rfl,⟨λ_ h=>(by cases h),List.Pairwise.nil⟩,λ_ h=>(by cases h),λd=>⟨λz=>absurd z Ym,λz=>by have:=hlow d z.2;lia⟩⟩
   ·rw[if_neg hd];obtain⟨i1,i2,i3⟩:=qkY p hp n B (by lia) ⟨λx hx=>hA.ok x (by simp[hx]),hg.2⟩;refine⟨_,rfl,i1,λx hx=>?_,i3⟩;obtain⟨j1,j2,y,hy,j3,j4⟩:=i2 x hx
    have:=hg.1 y hy
    exact⟨j1,j2,⟨y,by simp[hy],j3,j4⟩,by lia⟩
  rw[hR]
  by_cases hc:a<=b
  ·rw[if_pos hc];refine⟨⟨λx hx=>?_,?_⟩,λx hx=>?_,λd=>?_⟩
   ·rcases List.mem_cons.mp hx with rfl | hx
    ·exact hc
    ·exact r1.ok x hx
   ·exact List.pairwise_cons.mpr ⟨λx hx=>(r2 x hx).2.2.2,r1.ap⟩
   ·rcases List.mem_cons.mp hx with rfl | hx
    ·exact⟨by dsimp only;lia,by dsimp only;lia,q,by simp,by dsimp only;lia,by dsimp only;lia⟩
    ·exact⟨(r2 x hx).1,(r2 x hx).2.1,(r2 x hx).2.2.1⟩
   ·show Day ((a,b)::R) d↔_;rw[qO,qO,r3];dsimp only;constructor
    ·rintro (z | z)
     ·exact⟨by lia,.inl (by lia)⟩
     ·exact⟨z.1,.inr z.2⟩
    ·rintro⟨z,y | y⟩
     ·left;lia
     ·exact .inr ⟨z,y⟩
  ·rw[if_neg hc,List.nil_append];refine⟨r1,λx hx=>⟨(r2 x hx).1,(r2 x hx).2.1,(r2 x hx).2.2.1⟩,λd=>?_⟩;rw[qO,r3];constructor
   ·intro z;exact⟨z.1,.inr z.2⟩
   ·rintro⟨z,y | y⟩
    ·lia
    ·exact⟨z,y⟩
theorem qid{l:List Pr}(h:Spr l)(hl:l.length < 900){p:Pr}(hp:p.1<=p.2):Apart (yZ p l)/\(∀x∈yZ p l,p.1<=x.1/\x.2<=p.2)/\∀d,Day (yZ p l) d↔(p.1<=d/\d<=p.2)/\¬ Day l d:=by
 obtain⟨o1,o2,o3⟩:=qca h p.1 p.2;obtain⟨b1,b2,b3⟩:=qkY p hp 1000 (qJ l p.1 p.2) (by have:=yz l p.1 p.2;lia) o1;refine⟨b1,λx hx=>⟨(b2 x hx).1,(b2 x hx).2.1⟩,λd=>?_⟩;unfold yZ;rw[b3];constructor
 ·rintro⟨z,y⟩;exact⟨z,(o3 d z.1 z.2).mp y⟩
 ·rintro⟨z,y⟩;exact⟨z,(o3 d z.1 z.2).mpr y⟩
end DG
namespace DG
open PySem DE FA Dy
open L2 hiding St
def inP(p:Pa)(d:Int):Prop:=p.1<=d/\d<=p.2.1
instance (p:Pa)(d:Int):Decidable (inP p d):=by unfold inP;infer_instance
def ind(p:Pa)(d:Int):Int:=if inP p d then p.2.2 else 0
def pf:List Pa->Int->Int
 |[],_=>0
 | p::l,d=>if inP p d then p.2.2 else pf l d
structure PcOk(L:List Pa):Prop where
 ok:∀p∈L,p.1<=p.2.1/\1<=p.2.2/\p.2.2<=9
 ap:L.Pairwise λp q=>p.2.1 < q.1
theorem PcOk.tail{p:Pa}{l:List Pa}(h:PcOk (p::l)):PcOk l:=⟨λq hq=>h.ok q (by simp[hq]),(List.pairwise_cons.mp h.ap).2⟩
theorem PcOk.w{L:List Pa}(h:PcOk L):WOk L:=λp hp=>(h.ok p hp).2
theorem zq{L:List Pa}{d:Int}(h:∀p∈L,¬ inP p d):pf L d=0:=by
 induction L with
 |nil=>rfl
 |cons p l ih=>rw[pf,if_neg (h p (by simp))];exact ih λq hq=>h q (by simp[hq])
theorem qkZ{a b:List Pa}{d:Int}:pf (a++b) d=if ∃p∈a,inP p d then pf a d else pf b d:=by
 induction a with
 |nil=>simp
 |cons p l ih=>
  rw[List.cons_append,pf]
  by_cases h:inP p d
  ·rw[if_pos h,if_pos ⟨p,by simp,h⟩,pf,if_pos h]
  ·rw[if_neg h,ih]
   by_cases g:∃q∈l,inP q d
   ·rw[if_pos g,if_pos (by obtain⟨q,hq,hh⟩:=g;exact⟨q,by simp[hq],hh⟩),pf,if_neg h]
   ·rw[if_neg g,if_neg];rintro⟨q,hq,hh⟩;rcases List.mem_cons.mp hq with rfl | hq
    ·exact h hh
    ·exact g ⟨q,hq,hh⟩
theorem j6{L:List Pa}(hL:PcOk L){p:Pa}(hp:p∈L){d:Int}(h:inP p d):pf L d=p.2.2:=by
 induction L with
 |nil=>cases hp
 |cons q l ih=>
  rw[pf];rcases List.mem_cons.mp hp with rfl | hp
  ·rw[if_pos h]
  ·have:=(List.pairwise_cons.mp hL.ap).1 p hp
   rw[if_neg (λz=>by unfold inP at *;lia)];exact ih hL.tail hp
theorem qmG{L:List Pa}(hL:PcOk L)(d:Int):0<=pf L d:=by
 by_cases h:∃p∈L,inP p d
 ·obtain⟨p,hp,hd⟩:=h;rw[j6 hL hp hd]
  have:=(hL.ok p hp).2.1
  lia
 ·rw[zq λp hp hd=>h ⟨p,hp,hd⟩];exact Int.le_refl _
theorem qmH{L:List Pa}{d:Int}(h:pf L d≠0):∃p∈L,inP p d:=by
 by_cases q:∃p∈L,inP p d
 ·exact q
 ·exact absurd (zq λp hp hd=>q ⟨p,hp,hd⟩) h
theorem qmI{l:List (Str×Int)}(h:∀p∈l,LnOk p)(o:Option Str):wt l o<=9:=by
 induction l with
 |nil=>show(0:Int)<=9;decide
 |cons p l ih=>
  unfold wt;split
  ·exact(h p (by simp)).nine
  ·exact ih λq hq=>h q (by simp[hq])
instance dayDec(F:List Pr)(d:Int):Decidable (Day F d):=decidable_of_iff _ Qt
theorem qk0(w:Int)(F:List Pr)(d:Int):pf (F.map (Qz w)) d=if Day F d then w else 0:=by
 induction F with
 |nil=>rw[if_neg Ym];rfl
 |cons p l ih=>
  rw[List.map_cons,pf,ih]
  by_cases h:p.1<=d/\d<=p.2
  ·rw[if_pos (show inP (Qz w p) d from h),if_pos (qO.mpr (.inl h))];rfl
  ·rw[if_neg (show ¬ inP (Qz w p) d from h)]
   by_cases g:Day l d
   ·rw[if_pos g,if_pos (qO.mpr (.inr g))]
   ·rw[if_neg g,if_neg (λz=>(qO.mp z).elim h g)]
def Chw:Int->List St->Prop
 |_,[]=>True
 | e,s::l=>(e < s.2.1/\s.2.1<=s.2.2)/\Chw s.2.2 l
theorem Ch.w:∀{l:List St} {e:Int},Ch e l->Chw e l
 |[],_,_=>trivial
 | _::_,_,h=>⟨⟨h.1.lo,h.1.ab⟩,Ch.w h.2⟩
theorem ZD{r:Ru}(hr:∀p∈r.lands,LnOk p){lf:List Pr}(hS:Spr lf)(hl:lf.length < 900):∀(st:List St) (e:Int),Chw e st->PcOk (qz r lf st)/\(∀p∈qz r lf st,e < p.1)/\∀d,pf (qz r lf st) d=wgt r lf st d
 |[],e,_=>⟨⟨λ_ h=>(by cases h),List.Pairwise.nil⟩,λ_ h=>(by cases h),λd=>(qh6 rfl).symm⟩
 | s::st,e,hc=>by
  obtain⟨i1,i2,i3⟩:=ZD hr hS hl st s.2.2 hc.2;have h1:=hc.1.1;have h2:=hc.1.2;obtain⟨l1,l2,l3⟩:=qid hS hl (p:=(s.2.1,s.2.2)) h2;have w9:=qmI hr (some s.1)
  have one:PcOk (qF r lf s)/\(∀p∈qF r lf s,s.2.1<=p.1/\p.2.1<=s.2.2)/\∀d,pf (qF r lf s) d=if (s.2.1<=d/\d<=s.2.2)/\¬ Day lf d then wt r.lands (some s.1) else 0:=by
   unfold qF
   by_cases hw:0 < wt r.lands (some s.1)
   ·rw[if_pos hw];refine⟨⟨λp hp=>?_,?_⟩,λp hp=>?_,λd=>?_⟩
    ·obtain⟨x,hx,rfl⟩:=List.mem_map.mp hp;exact⟨l1.ok x hx,hw,w9⟩
    ·exact List.pairwise_map.mpr (l1.ap.imp λq=>by dsimp only[Qz];lia)
    ·obtain⟨x,hx,rfl⟩:=List.mem_map.mp hp;exact l2 x hx
    ·rw[qk0]
     by_cases g:Day (yZ (s.2.1,s.2.2) lf) d
     ·rw[if_pos g,if_pos ((l3 d).mp g)]
     ·rw[if_neg g,if_neg (λz=>g ((l3 d).mpr z))]
   ·rw[if_neg hw];refine⟨⟨λ_ h=>(by cases h),List.Pairwise.nil⟩,λ_ h=>(by cases h),λd=>?_⟩
    have:wt r.lands (some s.1)=0:=by have:=qmF hr (some s.1);lia
    rw[this];simp[pf]
  obtain⟨o1,o2,o3⟩:=one;rw[qz];refine⟨⟨λp hp=>?_,?_⟩,λp hp=>?_,λd=>?_⟩
  ·rcases List.mem_append.mp hp with q | q
   ·exact o1.ok p q
   ·exact i1.ok p q
  ·refine List.pairwise_append.mpr ⟨o1.ap,i1.ap,λx hx y hy=>?_⟩
   have:=(o2 x hx).2
   have:=i2 y hy
   lia
  ·rcases List.mem_append.mp hp with q | q
   ·have:=(o2 p q).1;lia
   ·have:=i2 p q;lia
  ·rw[qkZ]
   by_cases hd:s.2.1<=d/\d<=s.2.2
   ·have n:pf (qz r lf st) d=0:=zq λp hp z=>by have:=i2 p hp;unfold inP at z;lia
    have e1:(if ∃p∈qF r lf s,inP p d then pf (qF r lf s) d else pf (qz r lf st) d)=pf (qF r lf s) d:=by
     split
     ·rfl
     ·rename_i g;rw[n,zq λp hp hz=>g ⟨p,hp,hz⟩]
    rw[e1,o3];unfold wgt Yd;rw[if_pos hd]
    by_cases g:Day lf d
    ·rw[if_neg (λz=>z.2 g),if_pos (Qt.mpr g)]
    ·rw[if_pos ⟨hd,g⟩,if_neg (λz=>g (Qt.mp z))]
   ·rw[if_neg (λ⟨p,hp,z⟩=>by have:=o2 p hp;unfold inP at z;lia),i3];unfold wgt;rw[show Yd (s::st) d=Yd st d by conv=>lhs;unfold Yd;rw[if_neg hd]]
noncomputable def qfG(f t:Int)(p:Pa):Int:=if 0 < mn p.2.1 t - mx p.1 f+1 then (mn p.2.1 t - mx p.1 f+1) * p.2.2 else 0
def Yw(f t:Int):List Pa->Int
 |[]=>0
 | p::l=>qfG f t p+Yw f t l
theorem Yn(f t:Int):∀(l:List Pa) (a:Int),qgp f t l a=a+Yw f t l
 |[],a=>by simp[qgp,Yw]
 | p::l,a=>by
  rw[qgp,Yn f t l,Yw];unfold qfG
  split<;>lia
theorem qbj(f t:Int):∀a b:List Pa,Yw f t (a++b)=Yw f t a+Yw f t b
 |[],b=>by simp[Yw]
 | p::a,b=>by rw[List.cons_append,Yw,Yw,qbj f t a b];lia
theorem qbk(f t:Int):∀l:List Pa,Yw f t l.reverse=Yw f t l
 |[]=>rfl
 | p::l=>by rw[List.reverse_cons,qbj,qbk f t l,Yw,Yw,Yw];lia
theorem qgw(p:Pa)(hp:p.1<=p.2.1)(f:Int):∀n:Nat,(ws (ind p) f n).sum=qfG f (f+n - 1) p
 |0=>by
  have m1:=qfy p.1 f;have m2:=ZB p.2.1 (f+(0:Nat) - 1);unfold qfG;rw[if_neg]
  ·simp[ws]
  ·rcases Int.le_total p.1 f with z | z<;>rcases Int.le_total p.2.1 (f+(0:Nat) - 1) with y | y
   ·have:=m1.1 z;have:=m2.1 y;lia
   ·have:=m1.1 z;have:=m2.2 y;lia
   ·have:=m1.2 z;have:=m2.1 y;lia
   ·have:=m1.2 z;have:=m2.2 y;lia
 | n+1=>by
  rw[qan,qgw p hp f n];have m1:=qfy p.1 f;have m2:=ZB p.2.1 (f+(n:Int) - 1);have m3:=ZB p.2.1 (f+((n+1:Nat):Int) - 1);have e:f+((n+1:Nat):Int) - 1=f+n:=by lia
  rw[e] at m3 ⊢;unfold qfG ind
  have hm1:p.1<=mx p.1 f/\f<=mx p.1 f/\(mx p.1 f=p.1\/mx p.1 f=f):=by
   rcases Int.le_total p.1 f with z | z
   ·have:=m1.1 z;lia
   ·have:=m1.2 z;lia
  generalize mx p.1 f=a at *
  by_cases h1:f+(n:Int) < p.1
  ·rw[if_neg (c:=inP p (f+(n:Int))) (λz=>by unfold inP at z;lia)]
   have:=m2.2 (by lia)
   have:=m3.2 (by lia)
   rw[if_neg (by lia),if_neg (by lia)];rfl
  ·by_cases h2:p.2.1 < f+(n:Int)
   ·rw[if_neg (c:=inP p (f+(n:Int))) (λz=>by unfold inP at z;lia)];have a1:=m2.1 (by lia);have a2:=m3.1 (by lia);rw[a1,a2]
    lia
   ·rw[if_pos (c:=inP p (f+(n:Int))) ⟨by lia,by lia⟩];have a1:=m2.2 (by lia);have a2:=m3.2 (by lia);rw[a1,a2];have hpos:0 < f+(n:Int) - a+1:=by lia
    rw[if_pos hpos]
    by_cases h3:0 < f+(n:Int) - 1 - a+1
    ·rw[if_pos h3,show f+(n:Int) - a+1=(f+(n:Int) - 1 - a+1)+1 by lia];generalize f+(n:Int) - 1 - a+1=k;rw[Int.add_mul,Int.one_mul]
    ·rw[if_neg h3,show f+(n:Int) - a+1=1 by lia,Int.one_mul]
     lia
theorem qgx{f g h:Int->Int}:∀(n:Nat) (lo:Int),(∀x,f x=g x+h x)->(ws f lo n).sum=(ws g lo n).sum+(ws h lo n).sum
 |0,_,_=>by simp[ws]
 | n+1,lo,e=>by
  rw[ws,ws,ws,List.sum_cons,List.sum_cons,List.sum_cons,qgx n (lo+1) e,e lo]
  lia
theorem qmJ{L:List Pa}(hL:PcOk L)(f:Int)(n:Nat):(ws (pf L) f n).sum=Yw f (f+n - 1) L:=by
 induction L with
 |nil=>rw[Yw];exact Qy n f λx _ _=>rfl
 |cons p l ih=>
  have hp:=(hL.ok p (by simp)).1;rw[Yw,<-qgw p hp,<-ih hL.tail];refine qgx n f λx=>?_;rw[pf];unfold ind
  by_cases h:inP p x
  ·rw[if_pos h,if_pos h,zq λq hq z=>by have:=(List.pairwise_cons.mp hL.ap).1 q hq;unfold inP at *;lia]
   lia
  ·rw[if_neg h,if_neg h]
   lia
noncomputable def chn(leave d:Int):List Pa->Int->Int
 |[],_=>0
 | p::R,f=>if p.1<=d then (if leave<=f - 1 - mn p.2.1 d then 0 else (mn p.2.1 d - p.1+1) * p.2.2+chn leave d R p.1) else chn leave d R f
structure RvOk(R:List Pa):Prop where
 ok:∀p∈R,p.1<=p.2.1
 ap:R.Pairwise λp q=>q.2.1 < p.1
theorem RvOk.of{L:List Pa}(h:PcOk L):RvOk L.reverse:=⟨λp hp=>(h.ok p (by simpa using hp)).1,List.pairwise_reverse.mpr h.ap⟩
theorem RvOk.tail{p:Pa}{R:List Pa}(h:RvOk (p::R)):RvOk R:=⟨λq hq=>h.ok q (by simp[hq]),(List.pairwise_cons.mp h.ap).2⟩
theorem qk1(a b:Int):mn a b<=a/\mn a b<=b/\(mn a b=a\/mn a b=b):=by
 unfold mn
 split<;>lia
theorem qfH(a b:Int):a<=mx a b/\b<=mx a b/\(mx a b=a\/mx a b=b):=by
 unfold mx
 split<;>lia
theorem ZE{f t:Int}:∀{R:List Pa},(∀p∈R,p.2.1 < f)->Yw f t R=0
 |[],_=>rfl
 | p::R,h=>by rw[Yw,ZE λq hq=>h q (by simp[hq])];have h0:=h p (by simp);have h1:=qk1 p.2.1 t;have h2:=qfH p.1 f;unfold qfG;rw[if_neg (by lia)];rfl
theorem qdS{leave d:Int}(hl:1<=leave):∀(R:List Pa) (f:Int),RvOk R->(d < f\/∀p∈R,p.2.1 < f)->fsF leave d R f<=f/\Yw (fsF leave d R f) d R=chn leave d R f
 |[],f,_,_=>⟨Int.le_refl _,rfl⟩
 | p::R,f,hR,hf=>by
  have hp:=hR.ok p (by simp);have hg:=(List.pairwise_cons.mp hR.ap).1;have hm:=qk1 p.2.1 d;rw[fsF,chn,Yw]
  by_cases h1:p.1<=d
  ·rw[if_pos h1,if_pos h1]
   by_cases h2:leave<=f - 1 - mn p.2.1 d
   ·rw[if_pos h2,if_pos h2];refine⟨Int.le_refl _,?_⟩;rw[ZE λq hq=>by have:=hg q hq;lia]
    have:=qfH p.1 f
    unfold qfG;rw[if_neg (by lia)];rfl
   ·rw[if_neg h2,if_neg h2];obtain⟨i1,i2⟩:=qdS (d:=d) hl R p.1 hR.tail (.inr hg)
    have hlt:p.1<=f:=by
     rcases hf with q | q
     ·lia
     ·have:=q p (by simp);lia
    refine⟨by lia,?_⟩;rw[i2]
    have:=qfH p.1 (fsF leave d R p.1)
    have e:mx p.1 (fsF leave d R p.1)=p.1:=by lia
    unfold qfG;rw[e,if_pos (by lia)]
  ·rw[if_neg h1,if_neg h1];obtain⟨i1,i2⟩:=qdS hl R f hR.tail (hf.imp id λq x hx=>q x (by simp[hx]));refine⟨i1,?_⟩;rw[i2]
   have:=qfH p.1 (fsF leave d R f)
   unfold qfG;rw[if_neg (by lia)]
   lia
theorem QF{leave d:Int}:∀(B R:List Pa) (f:Int),(∀p∈B,d < p.1)->chn leave d (B++R) f=chn leave d R f
 |[],R,f,_=>rfl
 | p::B,R,f,h=>by have h0:=h p (by simp);rw[List.cons_append,chn,if_neg (by lia)];exact QF B R f λq hq=>h q (by simp[hq])
theorem QG{leave d d':Int}:∀(R:List Pa) (f:Int),(∀p∈R,p.1<=p.2.1/\p.2.1<=d/\p.2.1<=d')->chn leave d R f=chn leave d' R f
 |[],_,_=>rfl
 | p::R,f,h=>by have h0:=h p (by simp);have e1:mn p.2.1 d=p.2.1:=(ZB p.2.1 d).1 h0.2.1;have e2:mn p.2.1 d'=p.2.1:=(ZB p.2.1 d').1 h0.2.2;rw[chn,chn,if_pos (c:=p.1<=d) (by lia),if_pos (c:=p.1<=d') (by lia),e1,e2,QG R p.1 λq hq=>h q (by simp[hq])]
end DG
namespace DG
open PySem DE FA Dy
open L2 hiding St
theorem qdT{r:Ru}(hk:r.kd.isW=true)(h1:1<=r.days){L:List Pa}(hL:PcOk L)(d:Int):qG r L d=(ws (pf L) (d - r.days+1) r.days.toNat).sum:=by
 unfold qG qdL;rw[if_pos hk,Yn,qmJ hL,show d - r.days+1+(r.days.toNat:Int) - 1=d by lia]
 lia
theorem qdU{r:Ru}(hk:r.kd.isW=false)(h1:1<=r.days){L:List Pa}(hL:PcOk L)(d:Int):qG r L d=chn r.days d L.reverse (d+1):=by
 unfold qG qdL;rw[if_neg (by rw[hk];decide),Yn,<-qbk,(qdS h1 L.reverse (d+1) (RvOk.of hL) (.inl (by lia))).2]
 lia
theorem qbl{d:Int}:∀{R:List Pa},RvOk R->∃B A,R=B++A/\(∀p∈B,d < p.1)/\∀p∈A,p.1<=d
 |[],_=>⟨[],[],rfl,λ_ h=>(by cases h),λ_ h=>(by cases h)⟩
 | p::R,h=>by
  by_cases hd:d < p.1
  ·obtain⟨B,A,e,h1,h2⟩:=qbl (d:=d) h.tail;refine⟨p::B,A,by rw[e];rfl,λq hq=>?_,h2⟩;rcases List.mem_cons.mp hq with rfl | hq
   ·exact hd
   ·exact h1 q hq
  ·refine⟨[],p::R,rfl,λ_ h=>(by cases h),λq hq=>?_⟩;rcases List.mem_cons.mp hq with rfl | hq
   ·lia
   ·have:=(List.pairwise_cons.mp h.ap).1 q hq
    have:=h.ok q (by simp[hq])
    lia
def qgy(f:Int->Int)(n d:Int):Prop:=∀x,d - n < x->x<=d->f x=0
theorem qcb{leave:Int}(h1:1<=leave){L:List Pa}(hL:PcOk L)(d:Int) :
  (qgy (pf L) leave d->chn leave d L.reverse (d+1)=0)/\(¬ qgy (pf L) leave d->chn leave d L.reverse (d+1)=chn leave (d - 1) L.reverse d+pf L d):=by
 have hR:=RvOk.of hL;obtain⟨B,A,e,hB,hA⟩:=qbl (d:=d) hR;have mem:∀p,p∈L↔p∈B\/p∈A:=λp=>by rw[<-List.mem_reverse,e,List.mem_append]
 rw[e,QF B A _ hB,QF B A _ (λp hp=>by have:=hB p hp;lia)]
 cases A with
 |nil=>
  refine⟨λ_=>rfl,λh=>absurd (λx _ hx=>?_) h⟩
  exact zq λp hp z=>by
   rcases (mem p).mp hp with q | q
   ·have:=hB p q;unfold inP at z;lia
   ·cases q
 |cons q A=>
  have hq:q∈L:=(mem q).mpr (.inr (by simp));have hqo:=hL.ok q hq;have hq1:=hA q (by simp)
  have hap:∀p∈A,p.2.1 < q.1:=by
   have:=hR.ap
   rw[e] at this;exact(List.pairwise_cons.mp (List.pairwise_append.mp this).2.1).1
  have hAo:∀p∈A,p.1<=p.2.1:=λp hp=>(hL.ok p ((mem p).mpr (.inr (by simp[hp])))).1;have hm:=ZB q.2.1 d;have hm':=ZB q.2.1 (d - 1)
  by_cases hd:d<=q.2.1
  ·have hpf:pf L d=q.2.2:=j6 hL hq ⟨hq1,hd⟩;refine⟨λh=>?_,λ_=>?_⟩
   ·have:=h d (by lia) (Int.le_refl _)
    lia
   ·rw[hpf,chn,if_pos hq1,hm.2 hd,if_neg (by lia)]
    by_cases hb:q.1<=d - 1
    ·rw[chn,if_pos hb,hm'.2 (by lia),if_neg (by lia),QG (d:=d) (d':=d - 1) A q.1 λp hp=>by have:=hap p hp;have:=hAo p hp;lia];rw[show d - q.1+1=(d - 1 - q.1+1)+1 by lia];generalize d - 1 - q.1+1=k;rw[Int.add_mul,Int.one_mul]
     lia
    ·rw[chn,if_neg hb,QG (d:=d) (d':=d - 1) A q.1 λp hp=>by have:=hap p hp;have:=hAo p hp;lia];rw[show q.1=d by lia,show d - d+1=1 by lia,Int.one_mul]
     lia
  ·have hz:∀x,q.2.1 < x->x<=d->pf L x=0:=λx h2 h3=>zq λp hp z=>by
    rcases (mem p).mp hp with y | y
    ·have:=hB p y;unfold inP at z;lia
    ·rcases List.mem_cons.mp y with rfl | y
     ·unfold inP at z;lia
     ·have:=hap p y;unfold inP at z;lia
   have hpf:pf L q.2.1=q.2.2:=j6 hL hq ⟨hqo.1,Int.le_refl _⟩;rw[chn,if_pos hq1,hm.1 (by lia),chn,if_pos (c:=q.1<=d - 1) (by lia),hm'.1 (by lia),hz d (by lia) (Int.le_refl _)];refine⟨λh=>?_,λh=>?_⟩
   ·rw[if_pos]
    by_cases y:leave<=d+1 - 1 - q.2.1
    ·exact y
    ·have:=h q.2.1 (by lia) (by lia)
     lia
   ·have y:¬ leave<=d+1 - 1 - q.2.1:=λy=>h λx h2 h3=>hz x (by lia) h3;rw[if_neg y,if_neg (by lia),QG (d:=d) (d':=d - 1) A q.1 λp hp=>by have:=hap p hp;have:=hAo p hp;lia]
    lia
structure Cnt(w:Bool)(n:Int)(f C:Int->Int):Prop where
 nn:∀d,0<=f d
 low:∃b,∀d,d < b->C d=0/\f d=0
 win:w=true->∀d,C d=(ws f (d - n+1) n.toNat).sum
 idle:w=false->∀d,qgy f n d->C d=0
 busy:w=false->∀d,¬ qgy f n d->C d=C (d - 1)+f d
theorem qk2{L:List Pa}(hL:PcOk L):∃b,∀d,d < b->pf L d=0:=by
 induction L with
 |nil=>exact⟨0,λ_ _=>rfl⟩
 |cons p l _=>
  refine⟨p.1,λd hd=>zq λq hq z=>?_⟩;have h0:=(hL.ok p (by simp)).1;rcases List.mem_cons.mp hq with rfl | hq
  ·unfold inP at z;lia
  ·have:=(List.pairwise_cons.mp hL.ap).1 q hq
   unfold inP at z;lia
theorem qbm{r:Ru}(h1:1<=r.days){L:List Pa}(hL:PcOk L):Cnt r.kd.isW r.days (pf L) (qG r L):=by
 obtain⟨b,hb⟩:=qk2 hL
 have sn:r.kd.isW=false->∀d,(qgy (pf L) r.days d->qG r L d=0)/\(¬ qgy (pf L) r.days d->qG r L d=qG r L (d - 1)+pf L d):=λhk d=>by rw[qdU hk h1 hL,qdU hk h1 hL,show d - 1+1=d by lia];exact qcb h1 hL d
 refine⟨qmG hL,⟨b,λd hd=>⟨?_,hb d hd⟩⟩,λhk=>qdT hk h1 hL,λhk d=>(sn hk d).1,λhk d=>(sn hk d).2⟩
 cases hk:r.kd.isW with
 |true=>rw[qdT hk h1 hL];exact Qy _ _ λx h2 h3=>hb x (by lia)
 |false=>exact(sn hk d).1 λx _ hx=>hb x (by lia)
namespace Cnt
variable{w:Bool}{n:Int}{f C:Int->Int}
theorem step(h:Cnt w n f C)(hw:w=true)(hn:1<=n)(d:Int):C d=C (d - 1)+f d - f (d - n):=by
 rw[h.win hw d,h.win hw (d - 1)];obtain⟨m,rfl⟩:∃m:Nat,n=((m+1:Nat):Int):=⟨(n - 1).toNat,by lia⟩;rw[Int.toNat_natCast,qan,show d - 1 - ((m+1:Nat):Int)+1=d - ((m+1:Nat):Int) by lia,ws,List.sum_cons,show d - ((m+1:Nat):Int)+1+(m:Int)=d by lia]
 lia
theorem pos(h:Cnt w n f C)(d:Int):0<=C d:=by
 cases hw:w with
 |true=>rw[h.win hw];exact qkS h.nn _ _
 |false=>
  obtain⟨b,hb⟩:=h.low
  have:∀m:Nat,∀d,d < b+m->0<=C d:=by
   intro m
   induction m with
   |zero=>intro d hd;rw[(hb d (by lia)).1];exact Int.le_refl _
   |succ m ih=>
    intro d hd
    by_cases hi:qgy f n d
    ·rw[h.idle hw d hi];exact Int.le_refl _
    ·rw[h.busy hw d hi]
     have:=ih (d - 1) (by lia)
     have:=h.nn d
     lia
  exact this (d - b+1).toNat d (by lia)
theorem grow(h:Cnt w n f C)(hn:1<=n)(d:Int):C d<=C (d - 1)+f d:=by
 cases hw:w with
 |true=>rw[h.step hw hn d];have:=h.nn (d - n);lia
 |false=>
  by_cases hi:qgy f n d
  ·rw[h.idle hw d hi]
   have:=h.pos (d - 1)
   have:=h.nn d
   lia
  ·rw[h.busy hw d hi];exact Int.le_refl _
theorem busy'(h:Cnt w n f C)(hw:w=false)(hn:1<=n){d:Int}(hd:f d≠0):C d=C (d - 1)+f d:=
 h.busy hw d λz=>hd (z d (by lia) (Int.le_refl _))
theorem keeps(h:Cnt w n f C)(hn:1<=n){m a b:Int}(ha:C a<=m)(hz:∀x,a < x->x < b->f x=0):∀x,a<=x->x < b->C x<=m:=by
 have:∀k:Nat,∀x,a<=x->x < b->x < a+k+1->C x<=m:=by
  intro k
  induction k with
  |zero=>intro x h1 h2 h3;rw[show x=a by lia];exact ha
  |succ k ih=>
   intro x h1 h2 h3
   by_cases y:x=a
   ·rw[y];exact ha
   ·have:=h.grow hn x
    rw[hz x (by lia) h2] at this
    have:=ih (x - 1) (by lia) (by lia) (by lia)
    lia
 exactλx h1 h2=>this (x - a).toNat x h1 h2 (by lia)
end Cnt
end DG
namespace DG
open PySem DE FA Dy
open L2 hiding St
theorem qie{r:Ru}(h1:1<=r.days){L:List Pa}(hL:PcOk L):qiB r L:=λd=>by
 have g:=(qbm h1 hL).grow h1 d
 have:pf L d<=9:=by
  by_cases h:∃p∈L,inP p d
  ·obtain⟨p,hp,hd⟩:=h;rw[j6 hL hp hd];exact(hL.ok p hp).2.2
  ·rw[zq λp hp hd=>h ⟨p,hp,hd⟩];decide
 lia
theorem qif{L:List Pa}(hL:PcOk L){y:Int}(h:pf L y≠pf L (y - 1)):∃p∈L,y=p.1\/y=p.2.1+1:=by
 by_cases h1:∃p∈L,inP p y
 ·obtain⟨p,hp,hd⟩:=h1;refine⟨p,hp,?_⟩
  by_cases h2:inP p (y - 1)
  ·rw[j6 hL hp hd,j6 hL hp h2] at h;exact absurd rfl h
  ·unfold inP at *;lia
 ·rw[zq λp hp hd=>h1 ⟨p,hp,hd⟩] at h;obtain⟨p,hp,hd⟩:=qmH (Ne.symm h);refine⟨p,hp,?_⟩;have nz:¬ inP p y:=λz=>h1 ⟨p,hp,z⟩;unfold inP at *
  lia
theorem Yo{s x:Int}:∀{L:List Pa},x∈zP s L↔∃p∈L,x=p.1+s\/x=p.2.1+1+s
 |[]=>by simp[zP]
 | p::L=>by
  rw[zP,List.mem_cons,List.mem_cons,Yo];constructor
  ·rintro (h | h | ⟨q,hq,h⟩)
   ·exact⟨p,by simp,.inl h⟩
   ·exact⟨p,by simp,.inr h⟩
   ·exact⟨q,by simp[hq],h⟩
  ·rintro⟨q,hq,h⟩;rcases List.mem_cons.mp hq with rfl | hq
   ·exact h.elim .inl λz=>.inr (.inl z)
   ·exact .inr (.inr ⟨q,hq,h⟩)
theorem qbn(s:Int):∀{L:List Pa},PcOk L->(zP s L).Pairwise (·<=·)
 |[],_=>List.Pairwise.nil
 | p::L,h=>by
  have h0:=(h.ok p (by simp)).1;have hg:=(List.pairwise_cons.mp h.ap).1
  have lo:∀x∈zP s L,p.2.1+1+s<=x:=λx hx=>by
   obtain⟨q,hq,z⟩:=Yo.mp hx
   have:=hg q hq
   have:=(h.ok q (by simp[hq])).1
   lia
  rw[zP];refine List.pairwise_cons.mpr ⟨λx hx=>?_,List.pairwise_cons.mpr ⟨lo,qbn s h.tail⟩⟩;rcases List.mem_cons.mp hx with rfl | hx
  ·lia
  ·have:=lo x hx;lia
noncomputable def Fst(r:Ru)(L:List Pa)(f t:Int):Option Int->Prop
 |none=>∀x,f<=x->x<=t->qG r L x<=r.most
 |some d=>f<=d/\d<=t/\r.most < qG r L d/\∀x,f<=x->x < d->qG r L x<=r.most
theorem qbo{r:Ru}{L:List Pa}{b e:Int}(h0:qG r L (b - 1)<=r.most)(hg:∀x,b < x->x<=e->qG r L x - qG r L (x - 1)=qG r L (x - 1) - qG r L (x - 2)):Fst r L b e (Jt r L b e):=by
 have lin:∀k:Nat,b+k<=e->qG r L (b+k)=qG r L (b - 1)+((k:Int)+1) * (qG r L b - qG r L (b - 1))/\qG r L (b+k) - qG r L (b+k - 1)=qG r L b - qG r L (b - 1):=by
  intro k
  induction k with
  |zero=>intro _;rw[show b+((0:Nat):Int)=b by lia,show(((0:Nat):Int)+1)=1 by rfl,Int.one_mul];lia
  |succ k ih=>
   intro hk;obtain⟨i1,i2⟩:=ih (by lia);have g:=hg (b+((k+1:Nat):Int)) (by lia) hk;rw[show b+((k+1:Nat):Int) - 1=b+k by lia,show b+((k+1:Nat):Int) - 2=b+k - 1 by lia] at g;rw[show b+((k+1:Nat):Int) - 1=b+k by lia,show(((k+1:Nat):Int)+1)=((k:Int)+1)+1 by lia,Int.add_mul _ 1,Int.one_mul]
   lia
 have lin':∀x,b<=x->x<=e->qG r L x=qG r L (b - 1)+(x - b+1) * (qG r L b - qG r L (b - 1)):=λx h1 h2=>by
  have:=(lin (x - b).toNat (by lia)).1
  rw[show b+((x - b).toNat:Int)=x by lia,show((x - b).toNat:Int)=x - b by lia] at this;exact this
 unfold Jt;generalize qG r L b - qG r L (b - 1)=g at *;generalize hc:qG r L (b - 1)=c at *
 by_cases h1:g<=0
 ·rw[if_pos h1];intro x h2 h3;rw[lin' x h2 h3]
  have:=Int.mul_nonpos_of_nonneg_of_nonpos (show 0<=x - b+1 by lia) h1
  lia
 ·rw[if_neg h1];have q:∀x,x - b+1<=(r.most - c) / g↔(x - b+1) * g<=r.most - c:=λx=>Int.le_ediv_iff_mul_le (by lia);have q0:0<=(r.most - c) / g:=Int.ediv_nonneg (by lia) (by lia);generalize (r.most - c) / g=k at *
  by_cases h2:b+k<=e
  ·rw[if_pos h2];refine⟨by lia,h2,?_,λx h3 h4=>?_⟩
   ·rw[lin' _ (by lia) h2]
    have:=mt (q (b+k)).mpr (by lia)
    lia
   ·rw[lin' x h3 (by lia)]
    have:=(q x).mp (by lia)
    lia
  ·rw[if_neg h2];intro x h3 h4;rw[lin' x h3 h4]
   have:=(q x).mp (by lia)
   lia
theorem qgz{r:Ru}{L:List Pa}{t:Int}:∀(ts:List Int) (f:Int),qG r L (f - 1)<=r.most->(∀x,f < x->x<=t->x∉ts->qG r L x - qG r L (x - 1)=qG r L (x - 1) - qG r L (x - 2))->(f::ts).Pairwise (·<=·)->(∀b∈ts,b<=t)->Fst r L f t (Jg r L (qgr f t ts))
 |[],f,h0,hg,_,_=>by
  have a:=qbo (r:=r) (L:=L) (b:=f) (e:=t) h0 λx h1 h2=>hg x h1 h2 (by simp);show Fst r L f t (Jg r L [(f,t)]);rw[Jg]
  cases e:Jt r L f t with
  |none=>rw[e] at a;exact a
  |some d=>rw[e] at a;exact a
 | b::ts,f,h0,hg,hp,ht=>by
  obtain⟨hp1,hp2⟩:=List.pairwise_cons.mp hp;have hfb:=hp1 b (by simp);have hbt:=ht b (by simp);have hpb:=(List.pairwise_cons.mp hp2).1
  have a:=qbo (r:=r) (L:=L) (b:=f) (e:=b - 1) h0 λx h1 h2=>hg x h1 (by lia) (λz=>by
   rcases List.mem_cons.mp z with rfl | z
   ·lia
   ·have:=hpb x z;lia)
  show Fst r L f t (Jg r L ((f,b - 1)::qgr b t ts));rw[Jg]
  cases e:Jt r L f (b - 1) with
  |some d=>rw[e] at a;exact⟨a.1,by have:=a.2.1;lia,a.2.2.1,a.2.2.2⟩
  |none=>
   rw[e] at a;have low:∀x,f<=x->x<=b - 1->qG r L x<=r.most:=a
   have i:=qgz ts b (by
    by_cases z:f<=b - 1
    ·exact low _ z (Int.le_refl _)
    ·rw[show b - 1=f - 1 by lia];exact h0) (λx h1 h2 h3=>hg x (by lia) h2 λz=>by
     rcases List.mem_cons.mp z with rfl | z
     ·lia
     ·exact h3 z) hp2 λx hx=>ht x (by simp[hx])
   dsimp only;generalize Jg r L (qgr b t ts)=o at i
   cases o with
   |none=>
    intro x h1 h2
    by_cases z:x<=b - 1
    ·exact low x h1 z
    ·exact i x (by lia) h2
   |some d=>
    refine⟨by have:=i.1;lia,i.2.1,i.2.2.1,λx h1 h2=>?_⟩
    by_cases z:x<=b - 1
    ·exact low x h1 z
    ·exact i.2.2.2 x (by lia) h2
noncomputable def qns(r:Ru)(L:List Pa):Option Int->Prop
 |none=>∀x,qG r L x<=r.most
 |some d=>r.most < qG r L d/\∀x,x < d->qG r L x<=r.most
theorem qdV{r:Ru}(h1:1<=r.days){L:List Pa}(hL:PcOk L){p:Pa}(hp:p∈L){x:Int}(hx:p.1 < x)(hx':x<=p.2.1)(ht:x∉zY r L):qG r L x - qG r L (x - 1)=qG r L (x - 1) - qG r L (x - 2):=by
 have c:=qbm h1 hL;have e1:pf L x=p.2.2:=j6 hL hp ⟨by lia,hx'⟩;have e2:pf L (x - 1)=p.2.2:=j6 hL hp ⟨by lia,by lia⟩;have hw:=(hL.ok p hp).2.1
 cases hk:r.kd.isW with
 |true=>
  have s1:=c.step hk h1 x;have s2:=c.step hk h1 (x - 1);unfold zY at ht;rw[if_pos hk] at ht
  have:pf L (x - r.days)=pf L (x - r.days - 1):=by
   by_cases z:pf L (x - r.days)=pf L (x - r.days - 1)
   ·exact z
   ·obtain⟨q,hq,y⟩:=qif hL z;exact absurd (Yo.mpr ⟨q,hq,by lia⟩) ht
  rw[show x - 1 - r.days=x - r.days - 1 by lia,show x - 1 - 1=x - 2 by lia] at s2
  lia
 |false=>
  have s1:=c.busy' hk h1 (d:=x) (by lia);have s2:=c.busy' hk h1 (d:=x - 1) (by lia);rw[show x - 1 - 1=x - 2 by lia] at s2
  lia
theorem ZF{r:Ru}(h1:1<=r.days)(h0:0<=r.most){L:List Pa}(hL:PcOk L):∀(l A:List Pa),L=A++l->(∀x,(∀p∈l,x < p.1)->qG r L x<=r.most)->qns r L (j0 r L (zY r L) l)
 |[],A,_,h=>λx=>h x λ_ z=>(by cases z)
 | p::l,A,e,h=>by
  have hp:p∈L:=by rw[e];simp
  have hpo:=hL.ok p hp;have hsp:=hL.ap;rw[e] at hsp;have hlo:=(List.pairwise_cons.mp (List.pairwise_append.mp hsp).2.1).1;have hA:=(List.pairwise_append.mp hsp).2.2;have hl:∀q∈l,q.1<=q.2.1:=λq hq=>(hL.ok q (by rw[e];simp[hq])).1
  have before:∀x,x < p.1->qG r L x<=r.most:=λx hx=>h x λq hq=>by
   rcases List.mem_cons.mp hq with rfl | hq
   ·exact hx
   ·have:=hlo q hq;lia
  have tu:(zY r L).Pairwise (·<=·):=by
   unfold zY;split
   ·exact qbn _ hL
   ·exact List.Pairwise.nil
  have i:=qgz (r:=r) (L:=L) (t:=p.2.1) ((zY r L).filter (inB p.1 p.2.1)) p.1 (before _ (by lia)) (λx h2 h3 h4=>qdV h1 hL hp h2 h3 λz=>h4 (List.mem_filter.mpr ⟨z,by unfold inB;simp;lia⟩)) (List.pairwise_cons.mpr ⟨λb hb=>by
    have:=(List.mem_filter.mp hb).2
    unfold inB at this;simp at this
    lia,tu.filter _⟩) (λb hb=>by
    have:=(List.mem_filter.mp hb).2
    unfold inB at this;simp at this
    lia)
  rw[j0]
  cases o:Jg r L (qgr p.1 p.2.1 ((zY r L).filter (inB p.1 p.2.1))) with
  |some d=>
   rw[o] at i;refine⟨i.2.2.1,λx hx=>?_⟩
   by_cases z:x < p.1
   ·exact before x z
   ·exact i.2.2.2 x (by lia) hx
  |none=>
   rw[o] at i;have within:∀x,p.1<=x->x<=p.2.1->qG r L x<=r.most:=i;refine ZF h1 h0 hL l (A++[p]) (by rw[e];simp) λx hx=>?_
   by_cases z:x < p.1
   ·exact before x z
   ·by_cases y:x<=p.2.1
    ·exact within x (by lia) y
    ·refine(qbm h1 hL).keeps h1 (a:=p.2.1) (b:=x+1) (within _ hpo.1 (Int.le_refl _)) (λu h2 h3=>zq λq hq hz=>?_) x (by lia) (by lia);rw[e] at hq;unfold inP at hz;rcases List.mem_append.mp hq with g | g
     ·have:=hA q g p (by simp);lia
     ·rcases List.mem_cons.mp g with rfl | g
      ·lia
      ·have:=hx q g;lia
theorem qbp{r:Ru}(h1:1<=r.days)(h0:0<=r.most){L:List Pa}(hL:PcOk L):qns r L (qr r L):=by
 refine ZF h1 h0 hL L [] rfl λx hx=>?_;have z:∀y,y<=x->pf L y=0:=λy hy=>zq λp hp hz=>by have:=hx p hp;unfold inP at hz;lia
 have c:=qbm h1 hL
 have:qG r L x=0:=by
  cases hk:r.kd.isW with
  |true=>rw[c.win hk];exact Qy _ _ λy _ h3=>z y (by lia)
  |false=>exact c.idle hk x λy _ hy=>z y hy
 lia
end DG
namespace DG
open PySem DE FA Dy
open L2 hiding St
def cb(st:List St)(x:Rl)(d:Int):Int:=qG x.1 (y2 st x) d
structure Rlw(x:Rl):Prop where
 ln:∀p∈x.1.lands,LnOk p
 days:1<=x.1.days
 most:0<=x.1.most
 spr:Spr x.2
 len:x.2.length<=20
section
variable{st:List St}{x:Rl}(h:Rlw x){e:Int}(hc:Chw e st)
include h hc
theorem qbq:PcOk (y2 st x):=(ZD h.ln h.spr (by have:=h.len;lia) st e hc).1
theorem qmK:RlOk st x:=⟨h.ln,(qbq h hc).w,qie h.days (qbq h hc),h.len⟩
theorem qig(hn:qr x.1 (y2 st x)=none)(d:Int):cb st x d<=x.1.most:=by
 have:=qbp h.days h.most (qbq h hc)
 rw[hn] at this;exact this d
theorem qih{d:Int}(hn:qr x.1 (y2 st x)=some d):x.1.most < cb st x d/\∀y,y < d->cb st x y<=x.1.most:=by
 have:=qbp h.days h.most (qbq h hc)
 rw[hn] at this;exact this
end
theorem qk3{rs:List Ru}{ps:List Pa}(hr:∀r∈rs,(∀p∈r.lands,LnOk p)/\1<=r.days/\0<=r.most)(hp:∀p∈ps,p.2.1<=p.2.2)(hl:ps.length<=18):∀x∈rlF ps 0 rs,Rlw x:=λx hx=>by
 obtain⟨j,e1,e2⟩:=qdH hx;obtain⟨a,b,c⟩:=hr x.1 (List.mem_of_getElem? e1)
 have ok:∀n:Int,∀p∈ofN n ps,p.1<=p.2:=λn p h=>by unfold ofN at h;obtain⟨q,hq,rfl⟩:=List.mem_map.mp h;exact hp q (List.mem_filter.mp hq).1
 refine⟨a,b,c,?_,?_⟩
 ·rw[e2];exact qh1 (ok _)
 ·rw[e2];have h1:=qh2 (ok ((0+j:Nat):Int));have h2:=qdD ((0+j:Nat):Int) ps;unfold yx
  lia
end DG
namespace FY
open PySem DE DG FZ FA Dy
open L2 hiding St
open ZY
theorem qii{pg:Pg}[ZY pg](k:Nat)(g:Bool)(c:Int)(zs:List Str)(hz:NamesOk zs):∃r:Ru,SpOk r/\(r.most<=10000000/\(∀p∈r.lands,p.1∈zs)/\r.days<=10000000/\(g=false->r.most<=24/\r.days<=30))/\clK pg (k+1) "_law_spec" [.val (.int c),.bor (zs.map D.str),.val (.bl g)]=.ok (.val (spD r)):=by
 have two:=hz.two;have four:=hz.four;have hL:(0:Int) < (zs.length:Int):=by omega
 have mul:qem c 48271=true:=qa9 (2:) (2:);generalize hN:c * 48271 % 2147483647=n;have hn:0<=n:=by rw[<-hN];exact Int.emod_nonneg _ (2:)
 obtain⟨z1,e1,f1⟩:=qba (zs:=zs) (n % (zs.length:Int)) (Int.emod_nonneg _ (1:)) (Int.emod_lt_of_pos _ hL);obtain⟨z2,e2,f2⟩:=qba (zs:=zs) ((n+1) % (zs.length:Int)) (Int.emod_nonneg _ (1:)) (Int.emod_lt_of_pos _ hL);have w1:LnOk (z1,1+n / 4 % 3):=⟨hz.ok _ (List.mem_of_getElem? f1),by dsimp only;omega,by dsimp only;omega⟩;have w2:LnOk (z2,1+n / 24 % 9):=⟨hz.ok _ (List.mem_of_getElem? f2),by dsimp only;omega,by dsimp only;omega⟩
 have lns:Lns zs n [(z1,1+n / 4 % 3),(z2,1+n / 24 % 9)]:=λi p hp=>by
  match i with
  |0=>simp at hp;subst hp;exact⟨by simpa using f1,w1⟩
  |1=>simp at hp;subst hp;exact⟨by simpa using f2,w2⟩
  | i+2=>simp at hp
 have nd2:=lns.nodup hz (by simpa using two);obtain⟨kd,ek⟩:=qkX (n / 162000)
 have lands:∃l:List (Str×Int),(∀p∈l,LnOk p)/\((l.map (·.1)).Nodup/\1<=l.length/\l.length<=6)/\(((n / 12 % 2 == 1)=true/\l=[(z1,1+n / 4 % 3),(z2,1+n / 24 % 9)])\/((n / 12 % 2 == 1)=false/\l=[(z1,1+n / 4 % 3)])):=by
  cases q:(n / 12 % 2 == 1) with
  |true=>
   have ok:∀p∈[(z1,1+n / 4 % 3),(z2,1+n / 24 % 9)],LnOk p:=λp hp=>by
    rcases List.mem_cons.mp hp with rfl | hp
    ·exact w1
    ·rw[List.mem_singleton.mp hp];exact w2
   exact⟨_,ok,⟨nd2,by simp,by simp⟩,.inl ⟨rfl,rfl⟩⟩
  |false=>
   have ok:∀p∈[(z1,1+n / 4 % 3)],LnOk p:=λp hp=>by rw[List.mem_singleton.mp hp];exact w1
   exact⟨_,ok,⟨by simp,by simp,by simp⟩,.inr ⟨rfl,rfl⟩⟩
 obtain⟨l,lok,lnd,hl⟩:=lands
 have lz:∀p∈l,p.1∈zs:=by
  have q1:=List.mem_of_getElem? f1;have q2:=List.mem_of_getElem? f2;rcases hl with ⟨_,rfl⟩ | ⟨_,rfl⟩
  ·intro p hp;rcases List.mem_cons.mp hp with rfl | hp
   ·exact q1
   ·rw[List.mem_singleton.mp hp];exact q2
  ·intro p hp;rw[List.mem_singleton.mp hp];exact q1
 have s1:0+1+1<=sizeLine:=by decide+kernel
 have s0:0+1<=sizeLine:=by decide+kernel
 have s4:0+1+1+1+1<=sizeLine:=by decide+kernel
 have sa:0+1 < sizeLine:=by decide+kernel
 have gt:(1:Int) < (zs.length:Int):=by omega
 have p7:(10:Int) ^ (7:Int).toNat=10000000:=by decide
 have c7:(0:Int)<=7/\(7:Int)<=1000000/\(10:Int).natAbs < 2 ^ 64:=by decide
 have A:∀{β:Type} (K:Fl->R β),(iS (pg.kk k) 1000 (.ite (.and (.cmp .Eq (.bin .Mod (.bin .FloorDiv (.var 3) (.con (D.int 12))) (.con (D.int 2))) (.con (D.int 1))) (.one (.cmp .Gt (.b1 .len (.var 1)) (.con (D.int 1))))) %[.app 4 (.tup %[.idx (.var 1) (.bin .Mod (.bin .Add (.var 3) (.con (D.int 1))) (.b1 .len (.var 1))),.bin .Add (.con (D.int 1)) (.bin .Mod (.bin .FloorDiv (.var 3) (.con (D.int 24))) (.con (D.int 9)))|0])|0] .nil) [.val (.int c),.bor (zs.map D.str),.val (.bl g),.val (.int n),.own [.tup [.str z1,.int (1+n / 4 % 3)]],.no,.no]).th K=K (.next [.val (.int c),.bor (zs.map D.str),.val (.bl g),.val (.int n),.own (l.map lnD),.no,.no]):=by intro β K;rcases hl with ⟨q,rfl⟩ | ⟨q,rfl⟩<;>simp? only[Zw,hL,e2,qL,q,gt,s1,sa,qdv,List.map_cons,List.map_nil]
 have m0:0<=c % 10000000:=Int.emod_nonneg _ (2:);have m1:c % 10000000 < 10000000:=Int.emod_lt_of_pos _ (2:);have d0:0<=n % 10000000:=Int.emod_nonneg _ (2:);have d1:n % 10000000 < 10000000:=Int.emod_lt_of_pos _ (2:)
 obtain⟨most,days,⟨b1,b2,b3,b4,b5⟩,B⟩:∃most days:Int,(0<=most/\most<=10000000/\1<=days/\days<=10000000/\(g=false->most<=24/\days<=30))/\∀{β:Type} (K:Fl->R β),(iS (pg.kk k) 1000 (.ite (.val (.var 2)) %[.set 5 (.bin .Mod (.var 0) (.bin .Pow (.con (D.int 10)) (.con (D.int 7)))),.set 6 (.bin .Add (.con (D.int 1)) (.bin .Mod (.var 3) (.bin .Pow (.con (D.int 10)) (.con (D.int 7)))))|0] .nil) [.val (.int c),.bor (zs.map D.str),.val (.bl g),.val (.int n),.own (l.map lnD),.val (.int (n / 216 % 25)),.val (.int (1+n / 5400 % 30))]).th K=K (.next [.val (.int c),.bor (zs.map D.str),.val (.bl g),.val (.int n),.own (l.map lnD),.val (.int most),.val (.int days)]):=by
  cases g with
  |false=>exact⟨n / 216 % 25,1+n / 5400 % 30,⟨by omega,by omega,by omega,by omega,λ_=>⟨by omega,by omega⟩⟩,λK=>by simp? only[qL]⟩
  |true=>exact⟨c % 10000000,1+n % 10000000,⟨by omega,by omega,by omega,by omega,λh=>(by cases h)⟩,λK=>by simp? only[p7,c7]⟩
 refine⟨⟨kd,l,most,days⟩,⟨lnd.1,lnd.2.1,lnd.2.2,lok,b1,by dsimp only;omega,b3,by dsimp only;omega⟩,⟨b2,lz,b4,b5⟩,?_⟩;rw[r__law_spec];simp? only[↓A,↓B,J8,Zw,mul,hN,hL,e1,s0,s1,s4,qbi,ek]
end FY
namespace DE
open PySem L2
def isX(n t:Str):Bool:=t == n||t == "DayError"
noncomputable def qbr(l:List (Str×Addr×List Str))(er:List (Str×Addr))(xt:List Str):Xs where
 xa n:=((l.lookup n).map (·.1)).getD 0
 xn n:=(l.lookup n).map (·.2)
 xs C t:=(l.find? λe=>e.2.1 == C).bind λe=>if t == "ValueError" then some true else (er.lookup t).map λ_=>isX e.1 t
 xg C x:=l.any λe=>e.2.1 == C&&e.2.2.contains x
 xt:=xt
noncomputable def RX(pg:Pg)(f:Str)(y:Nat×Nat×Ys):Prop:=∀(k:Nat) (args:List Ar),clX pg (k+3) f args=runX (pg.kk (k+2)) (clX pg (k+2)) 1000 y args
end DE
namespace DG
open PySem L2 DE
noncomputable abbrev yq:Ss:=%[.ite (.or (.not (.val (.call "is_name" %[3|0]))) (.one (.cmp .In (.var 3) (.var 2)))) %[.ret (.con (.bl false))|0] .nil,.app 2 (.var 3)|0]
def zz:Ss:=yq
theorem zQ:USs zz yq:=λ_ _ _ _=>(rfl)
noncomputable def qM:Nat×Nat×Ss:=(2,4,%[.ite (.or (.not (.val (.isi Ty.list (.var 0)))) (.or (.cmp .Lt (.b1 .len (.var 0)) (.con (.int 1))) (.one (.cmp .Gt (.b1 .len (.var 0)) (.var 1))))) %[.ret (.con (.bl false))|0] .nil,.set 2 (.lst .nil),.for_ (.one 3) (.seq (.var 0)) zz,.ret (.con (.bl true))|0])
class PN(pg:Pg):Prop where
 r_are_names:RW pg "are_names" qM
end DG
namespace K72
open PySem L2 DE DG FY FZ
noncomputable def top(i:Nat):Stmt:=PySem.Challenge.pw_daysgate_k72_books_alike.main.body.getD i (.Pass ⟨0,0,0,0⟩)
def mem(i j:Nat):Stmt:=(qhT (top i)).getD j (.Pass ⟨0,0,0,0⟩)
def xE:List (Str×Addr×List Str):=[("NoWish",148,[])]
noncomputable def xR:List (Str×Addr):=[("DayError",66),("NoRule",79),("NoPaper",98),("NoStay",117),("NotLet",136),("NoWish",148),("NoDeed",160),("NoText",172),("NoRow",184)]
def pxx:Xs:=qbr xE xR ["parted"]
noncomputable def pg:Pg:={ defs:=[(("is_whole" : Str),top 4),(("is_between" : Str),top 5),(("are_days" : Str),top 6),(("is_made_of" : Str),top 7),(("is_name" : Str),top 8),(("are_names" : Str),top 9),(("spread" : Str),top 21),(("both" : Str),top 22),(("outside" : Str),top 23),(("less" : Str),top 24),(("is_land" : Str),top 28),(("are_lands" : Str),top 29),(("pieces_among" : Str),top 36),(("sum_of" : Str),top 37),(("first_since" : Str),top 38),(("first_of_window" : Str),top 39),(("count_among" : Str),top 40),(("turns_of" : Str),top 41),(("first_above" : Str),top 42),(("first_broken" : Str),top 43),(("fault_among" : Str),top 44),(("lets" : Str),top 47),(("longer_rows" : Str),top 48),(("parted" : Str),top 49),(("are_rules" : Str),top 53),(("is_paper" : Str),top 54),(("check_papers" : Str),top 55),(("_law_at" : Str),top 58),(("_law_word" : Str),top 59),(("_law_names" : Str),top 60),(("_law_spec" : Str),top 61),(("_law_rule" : Str),top 62),(("_law_papers" : Str),top 64),(("_law_alike" : Str),top 65),(("_law_refused" : Str),top 66),(("law" : Str),top 67)],gl:=λx=>if x = "GREATEST" then some (.int 1000000000) else if x = "LETTERS" then some (.str "abcdefghijklmnopqrstuvwxyz") else if x = "LONGEST_NAME" then some (.int 8) else if x = "MOST_LANDS" then some (.int 6) else if x = "GREATEST_WEIGHT" then some (.int 9) else if x = "MOST_NAMES" then some (.int 2) else if x = "MOST_RULES" then some (.int 8) else if x = "MOST_PAPERS" then some (.int 12) else none,m:=40,w:=1000,meths:=[("Rule.weight",mem 30 1),("Book.rules",mem 56 1),("Book.papers",mem 56 2),("Book.lifted",mem 56 3)],cs:=pcs pxx,nw:=pnw,xl:=["_law_refused"],xx:=pxx }
instance:DG.CH pg:=⟨%[4|1],%[5|1],%[6|1],%[7|1],%[8|1]⟩
instance:DG.SP pg:=⟨%[21|1]⟩
instance:DG.RU pg:=⟨rfl,rfl,%[28|1],%[29|1],qq (pg:=pg) (st:=mem 30 1) (by kernel_rfl) (λk cl=>by kernel_rfl)⟩
instance:DG.BO pg:=⟨%[53|1],%[54|1],%[55|1],qq (pg:=pg) (st:=mem 56 1) (by kernel_rfl) (λk cl=>by kernel_rfl),qq (pg:=pg) (st:=mem 56 2) (by kernel_rfl) (λk cl=>by kernel_rfl),qq (pg:=pg) (st:=mem 56 3) (by kernel_rfl) (λk cl=>by kernel_rfl)⟩
instance:DG.BT pg:=⟨%[22|1],%[23|1],%[24|1]⟩
instance:DG.PC pg:=⟨%[36|1]⟩
instance:DG.SU pg:=⟨%[37|1],%[38|1],%[39|1],%[40|1]⟩
instance:DG.FK pg:=⟨%[41|1],%[42|1],%[43|1]⟩
instance:DG.FM pg:=⟨%[44|1]⟩
instance:FZ.ZA pg:=⟨%[58|1]⟩
instance:FZ.ZW pg:=⟨%[59|1]⟩
instance:FZ.ZN pg:=⟨%[60|1]⟩
instance:FZ.ZR pg:=⟨%[62|1]⟩
instance:FZ.ZP pg:=⟨%[64|1]⟩
instance:FY.ZY pg:=⟨%[61|1]⟩
instance:DG.PN pg:=⟨%[9|1]⟩
abbrev ZG:E:=(.tup %[1,0,0|0])
def QH:E:=ZG
theorem qcc:UE QH ZG:=λ_ _ _=>(rfl)
noncomputable def qdW:Nat×Nat×Ss:=(2,2,%[.ret (.cmp .Is (.call "fault_among" %[0,.comp QH (.enum (.var 1)) (.many [0,1]) (.test (.cmp .IsNot (.var 1) (.con .non))) 2 []|0]) (.con .non))|0])
theorem qk4:RW pg "lets" qdW:=%[47|1]
abbrev jN:E:=(.bin .Add (.var 1) (.lst %[0|0]))
def zR:E:=jN
theorem Jh:UE zR jN:=λ_ _ _=>(rfl)
noncomputable abbrev jO:Ss:=%[.ext 2 (.comp zR (.seq (.bin .Add (.var 1) (.lst %[.con .non|0]))) (.one 0) .yes 1 [3])|0]
def zS:Ss:=jO
theorem jv:USs zS jO:=λ_ _ _ _=>(rfl)
noncomputable def y3:Nat×Nat×Ss:=(2,4,%[.set 2 (.lst .nil),.for_ (.one 3) (.seq (.var 0)) zS,.ret (.var 2)|0])
theorem QI:RW pg "longer_rows" y3:=%[48|1]
noncomputable abbrev Yp:Ss:=%[.set 8 (.call "lets" %[0,7|0]),.ite (.cmp .NotEq (.var 8) (.call "lets" %[1,7|0])) %[.ret (.var 7)|0] .nil,.ite (.val (.var 8)) %[.app 4 (.var 7)|0] .nil|0]
def Ji:Ss:=Yp
theorem Ju:USs Ji Yp:=λ_ _ _ _=>(rfl)
noncomputable abbrev Yq:Ss:=%[.set 6 (.call "longer_rows" %[4,2|0]),.set 4 (.lst .nil),.for_ (.one 7) (.seq (.var 6)) Ji|0]
def Jj:Ss:=Yq
theorem ZH:USs Jj Yq:=λ_ _ _ _=>(rfl)
noncomputable def qbs:Nat×Nat×Ss:=(4,9,%[.ite (.not (.val (.call "are_names" %[2,.con (.int 2)|0]))) %[.stuck|0] .nil,.set 4 (.lst %[.lst .nil|0]),.for_ (.one 5) (.rng (.var 3)) Jj,.ret (.con .non)|0])
theorem qfI:RW pg "parted" qbs:=%[49|1]
abbrev j7:E:=(.tup %[.bin .Sub (.var 3) (.var 0),1,2|0])
def jb:E:=j7
theorem Jy:UE jb j7:=λ_ _ _=>(rfl)
noncomputable abbrev zT:E:=(.tup %[.bin .Add (.var 3) (.con (.int 1)),1,2|0])
def jc:E:=zT
theorem Jz:UE jc zT:=λ_ _ _=>(rfl)
noncomputable abbrev j8:E:=(.tup %[.bin .Add (.var 3) (.con (.int 1)),1,2|0])
def jd:E:=j8
theorem JA:UE jd j8:=λ_ _ _=>(rfl)
noncomputable abbrev j9:E:=(.idx (.lst %[.tup %[.con (.int 0),.idx (.var 0) (.con (.int 1)),.idx (.var 0) (.con (.int 2)),.idx (.var 0) (.con (.int 3))|0],0,.tup %[.con (.int 1),.idx (.var 0) (.con (.int 1)),.idx (.var 0) (.con (.int 2)),.con (.int 1)|0]|0]) (.idx (.var 0) (.con (.int 0))))
def je:E:=j9
theorem JB:UE je j9:=λ_ _ _=>(rfl)
noncomputable def qZ:Nat×Nat×Ss:=(3,5,%[.set 3 (.bin .Sub (.b1 .len (.var 0)) (.con (.int 1))),.ite (.cmp .Eq (.var 2) (.con (.int 0))) %[.ret (.tup %[.rvs (.var 0),.comp jb (.seq (.var 1)) (.many [0,1,2]) .yes 3 [3]|0])|0] .nil,.ite (.cmp .Eq (.var 2) (.con (.int 1))) %[.ret (.tup %[.bin .Add (.var 0) (.sli (.var 0) .none (.some (.con (.int 1)))),.bin .Add (.var 1) (.comp jc (.seq (.var 1)) (.many [0,1,2]) (.test (.cmp .Eq (.var 0) (.con (.int 0)))) 3 [3])|0])|0] .nil,.ite (.cmp .Eq (.var 2) (.con (.int 2))) %[.set 4 (.tup %[.idx (.idx (.var 0) (.con (.int 0))) (.con (.int 0)),.idx (.idx (.var 0) (.con (.int 0))) (.con (.int 1)),.bin .Add (.idx (.idx (.var 0) (.con (.int 0))) (.con (.int 2))) (.con (.int 1)),.idx (.idx (.var 0) (.con (.int 0))) (.con (.int 3))|0]),.ret (.tup %[.bin .Add (.var 0) (.lst %[4|0]),.bin .Add (.var 1) (.comp jd (.seq (.var 1)) (.many [0,1,2]) (.test (.cmp .Eq (.var 0) (.con (.int 0)))) 3 [3])|0])|0] .nil,.ret (.tup %[.comp je (.seq (.var 0)) (.one 0) .yes 1 [],1|0])|0])
theorem zZ:RW pg "_law_alike" qZ:=%[65|1]
noncomputable abbrev qbt:E:=(.call "_law_spec" %[.call "_law_at" %[1,.bin .Add (.con (.int 1)) (.var 0)|0],2,.con (.bl false)|0])
def qap:E:=qbt
theorem qdX:UE qap qbt:=λ_ _ _=>(rfl)
abbrev QJ:E:=(.call "_law_rule" %[0|0])
def qaq:E:=QJ
theorem qdY:UE qaq QJ:=λ_ _ _=>(rfl)
abbrev qbu:E:=(.call "_law_rule" %[0|0])
def qar:E:=qbu
theorem qdZ:UE qar qbu:=λ_ _ _=>(rfl)
noncomputable def qk5:Nat×Nat×Ss:=(1,8,%[.set 1 (.call "_law_names" %[.call "_law_at" %[0,.con (.int 0)|0],.con (.int 2)|0]),.set 2 (.comp qap (.rng (.bin .Add (.con (.int 2)) (.bin .Mod (.call "_law_at" %[0,.con (.int 0)|0]) (.con (.int 2))))) (.one 0) .yes 1 [0,1]),.set 3 (.call "_law_papers" %[.sli (.var 0) (.some (.con (.int 4))) (.some (.con (.int 7))),.b1 .len (.var 2),.con (.int 0),.con (.int 4)|0]),.set 4 (.calF "_law_alike" %[2,3,.bin .Mod (.call "_law_at" %[0,.con (.int 7)|0]) (.con (.int 4))|0]),.set 5 (.lst %[.new "Book" %[.comp qaq (.seq (.var 2)) (.one 0) .yes 1 [],3|0],.new "Book" %[.comp qar (.seq (.idx (.var 4) (.con (.int 0)))) (.one 0) .yes 1 [],.idx (.var 4) (.con (.int 1))|0]|0]),.set 6 (.idx (.lst %[.con (.int 1),.con (.int 2),.con (.int 3),.con (.int 4)|0]) (.bin .Mod (.call "_law_at" %[0,.con (.int 8)|0]) (.con (.int 4)))),.ite (.or (.cmp .IsNot (.call "parted" %[.idx (.var 5) (.con (.int 0)),.idx (.var 5) (.con (.int 1)),1,6|0]) (.con .non)) (.one (.cmp .IsNot (.call "parted" %[.idx (.var 5) (.con (.int 1)),.idx (.var 5) (.con (.int 0)),.rvs (.var 1),6|0]) (.con .non)))) %[.ret (.con (.bl false))|0] .nil,.set 7 (.lst %[.lst .nil,.bin .Add (.var 1) (.lst %[.con (.str "z")|0]),.bin .Mult (.sli (.var 1) .none (.some (.con (.int 1)))) (.con (.int 2)),.b1 .tup (.var 1),.con .non,.idx (.var 1) (.con (.int 0)),.lst %[.con (.str "abcdefghi")|0],.lst %[.idx (.var 1) (.con (.int 0)),.con .non|0]|0]),.set 7 (.bin .Add (.var 7) (.lst %[.lst %[.con (.str "A")|0],.lst %[.con (.int 7)|0],.lst %[.con (.str "")|0]|0])),.ret (.call "_law_refused" %[.idx (.var 5) (.con (.int 0)),.idx (.var 5) (.con (.int 1)),.idx (.var 7) (.bin .Mod (.call "_law_at" %[0,.con (.int 9)|0]) (.con (.int 11)))|0])|0])
theorem qmL:RW pg "law" qk5:=%[67|1]
noncomputable def qbv:Nat×Nat×Ys:=(4,9,(Ys.cons (Y.ite (T.not (T.val (E.call "are_names" (Es.cons (E.var 2) (Es.cons (E.con (D.int 2)) Es.nil))))) (Ys.cons (Y.rai "NoWish" (Es.cons (E.con (D.str "lands: a list of one or two names, each once")) Es.nil)) Ys.nil) Ys.nil) (Ys.cons (Y.s (S.set 4 (E.lst (Es.cons (E.lst Es.nil) Es.nil)))) (Ys.cons (Y.s (S.for_ (Tg.one 5) (I.rng (E.var 3)) (Ss.cons (S.set 6 (E.call "longer_rows" (Es.cons (E.var 4) (Es.cons (E.var 2) Es.nil)))) (Ss.cons (S.set 4 (E.lst Es.nil)) (Ss.cons (S.for_ (Tg.one 7) (I.seq (E.var 6)) (Ss.cons (S.set 8 (E.call "lets" (Es.cons (E.var 0) (Es.cons (E.var 7) Es.nil)))) (Ss.cons (S.ite (T.cmp CmpOp.NotEq (E.var 8) (E.call "lets" (Es.cons (E.var 1) (Es.cons (E.var 7) Es.nil)))) (Ss.cons (S.ret (E.var 7)) Ss.nil) Ss.nil) (Ss.cons (S.ite (T.val (E.var 8)) (Ss.cons (S.app 4 (E.var 7)) Ss.nil) Ss.nil) Ss.nil)))) Ss.nil))))) (Ys.cons (Y.s (S.ret (E.con D.non))) Ys.nil)))))
theorem qfJ:RX pg "parted" qbv:=qdq (pg:=pg) (st:=top 49) (by kernel_rfl) (λk cl=>by kernel_rfl)
noncomputable def yr:Nat×Nat×Ys:=(3,5,(Ys.cons (Y.s (S.set 3 (E.con D.non))) (Ys.cons (Y.try_ (Ys.cons (Y.cal none "parted" (Es.cons (E.var 0) (Es.cons (E.var 1) (Es.cons (E.var 2) (Es.cons (E.con (D.int 2)) Es.nil))))) Ys.nil) [("DayError",4,3)]) (Ys.cons (Y.ite (T.val (E.isn ["NoDeed","NoPaper","NoRow","NoRule","NoStay","NotLet","NoText"] (E.var 3))) (Ys.cons (Y.s (S.ret (E.con (D.bl false)))) Ys.nil) Ys.nil) (Ys.cons (Y.s (S.ret (E.and (E.isc "NoWish" (E.var 3)) (E.one (E.isc "ValueError" (E.var 3)))))) Ys.nil)))))
theorem YD:RX pg "_law_refused" yr:=qdq (pg:=pg) (st:=top 66) (by kernel_rfl) (λk cl=>by kernel_rfl)
theorem YE(k:Nat)(args:List Ar):clK pg (k+1) "_law_refused" args=noX (clX pg (k+1) "_law_refused" args):=qfh (pg:=pg) (st:=top 66) (by kernel_rfl) rfl k args
end K72
namespace DG
open PySem DE FA
open L2 hiding St
open CH PN
theorem qbw{step:D->DE.Env->R Fl}{m:List D}{ρ':DE.Env}:∀{l:List D} {ρ:DE.Env},qeW step l ρ=.ok (.next ρ')->qeW step (l++m) ρ=qeW step m ρ'
 |[],ρ,h=>by cases h;rfl
 | d::l,ρ,h=>by
  unfold qeW at h;rw[List.cons_append];show(step d ρ).th _=_
  cases e:step d ρ with
  |ok f=>
   rw[e] at h
   cases f with
   |next ρ1=>exact qbw (l:=l) h
   |ret r=>cases h
  |exc c l=>rw[e] at h;cases h
  |no=>rw[e] at h;cases h
theorem qbx{cl:Cl}{tg:Tg}{b:Ss}{l m:List D}{ρ ρ':DE.Env}(h:yc cl 1000 tg b l ρ=.ok (.next ρ')):yc cl 1000 tg b (l++m) ρ=yc cl 1000 tg b m ρ':=qbw h
def qoj:D->Bool
 |.str _=>false
 |.ins ..=>false
 |.exc ..=>false
 |.dct ..=>false
 |_=>true
noncomputable def qgA(d:D):Prop:=qoj d=true\/(∃a:Str,d=.str (a++("A" : Str))/\a.cps.size<=99/\∀c∈a.cps.toList,jZ c)\/d=.str ""\/∃z,d=.str z/\8 < z.cps.size/\z.cps.size<=100
section
variable{pg:Pg}[CH pg]
theorem qk6(k:Nat)(a:Str)(h:∀c∈a.cps.toList,jZ c):clK pg (k+1) "is_made_of" [.val (.str (a++("A" : Str))),.val (.str "abcdefghijklmnopqrstuvwxyz")]=.ok (.val (.bl false)):=by
 have e:qbS (a++("A" : Str))=(a.cps.toList.map λc=>D.str ⟨#[c]⟩)++[D.str "A"]:=by show(a.cps++Str.cps "A").toList.map _=_;rw[Array.toList_append,List.map_append];rfl
 have o:qhg "A" "abcdefghijklmnopqrstuvwxyz" = false:=by decide+kernel
 generalize a++("A" : Str)=z at e ⊢;obtain⟨s',l⟩:=J9 (pg:=pg) k z a.cps.toList .no h
 have l2:yc (pg.kk k) 1000 (.one 2) qV [D.str "A"] [.val (.str z),.val (.str "abcdefghijklmnopqrstuvwxyz"),s']=.ok (.ret (.val (.bl false))):=by refine(qk _).symm.trans ?_;simp? only[jH,o]
 have l3:=(qbx (m:=[D.str "A"]) l).trans l2;rw[r_is_made_of];simp? only[jU,e,l3]
theorem qij(k:Nat)(d:D)(h:qgA d):clK pg (k+2) "is_name" [.val d]=.ok (.val (.bl false)):=by
 have long:∀z:Str,8 < z.cps.size->z.cps.size<=100->clK pg (k+2) "is_name" [.val (.str z)]=.ok (.val (.bl false)):=λz h8 h9=>by
  have hz:z.length<=sizeLine:=by show z.cps.size<=2 ^ 24;lia
  have h1:(1:Int)<=(z.length:Int):=by show(1:Int)<=(z.cps.size:Int);lia
  have h2:¬ (z.length:Int)<=8:=by show ¬ (z.cps.size:Int)<=8;lia
  rw[r_is_name];simp? only[ji,hz,h1,h2,decide_true,decide_false]
 rcases h with h | ⟨a,rfl,c2,h⟩ | rfl | ⟨z,rfl,h8,h9⟩
 ·rw[r_is_name]
  cases d with
  |str n=>cases h
  |ins c ns l=>cases h
  |exc c ns l=>cases h
  |dct ns l=>cases h
  |_=>simp? only[ji]
 ·have ln:(a++("A" : Str)).length=a.cps.size+1:=by
   show(a.cps++Str.cps "A").size=_;rw[Array.size_append];rfl
  by_cases c:a.cps.size<=7
  ·have e:=qk6 (pg:=pg) k a h;generalize a++("A" : Str)=z at *;have hz:z.length<=sizeLine:=by rw[ln];show a.cps.size+1<=2 ^ 24;lia
   have h1:(1:Int)<=(z.length:Int):=by lia
   have h2:(z.length:Int)<=8:=by lia
   rw[r_is_name];simp? only[ji,hz,h1,h2,decide_true,e]
  ·exact long _ (by show 8 < (a++("A" : Str)).length;lia) (by show(a++("A" : Str)).length<=100;lia)
 ·have hz:Str.length ""<=sizeLine:=by decide+kernel
  have h1:¬ (1:Int)<=((Str.length "" : Nat):Int):=by decide
  rw[r_is_name];simp? only[ji,hz,h1,decide_false]
 ·exact long z h8 h9
noncomputable def qnt(l:List D):Prop:=∃(zs:List Str) (x:D) (r:List D),l=zs.map D.str++x::r/\(∀z∈zs,NameOk z)/\zs.Nodup/\(qgA x\/∃z∈zs,x=.str z/\NameOk z)
def qok:D->Bool
 |.lst _=>false
 |.ins ..=>false
 |.exc ..=>false
 |.dct ..=>false
 |_=>true
noncomputable def qmM(m:Int)(d:D):Prop:=qok d=true\/∃l,d=.lst l/\l.length < 1000/\(l=[]\/m < (l.length:Int)\/qnt l)
end
section
variable{pg:Pg}[CH pg]
theorem Jk(k:Nat)(v0 v1:Sl):∀(zs acc:List Str) (s3:Sl),(∀z∈zs,NameOk z)->(acc++zs).Nodup->acc.length+zs.length < 1000->
  ∃s3',yc (pg.kk (k+2)) 1000 (.one 3) zz (zs.map D.str) [v0,v1,.own (acc.map D.str),s3]=.ok (.next [v0,v1,.own ((acc++zs).map D.str),s3'])
 |[],acc,s3,_,_,_=>⟨s3,by simp[zU]⟩
 | z::zs,acc,s3,hz,hn,ha=>by
  rw[List.length_cons] at ha;have nm:=qai (pg:=pg) k z (hz z (by simp));have mm:=Yb z acc
  have nc:acc.contains z=false:=by
   rw[List.contains_eq_any_beq,List.any_eq_false];intro y hy q;have q:z=y:=by simpa using q
   subst q;exact(List.nodup_append.mp hn).2.2 z hy z (by simp) rfl
  rw[nc] at mm;obtain⟨s3',ih⟩:=Jk k v0 v1 zs (acc++[z]) (.val (.str z)) (λy hy=>hz y (by simp[hy])) (by simpa using hn) (by simp;lia);refine⟨s3',?_⟩;have za:acc.length < sizeLine:=qu (by lia);simp only[List.map_append,List.map_cons,List.map_nil,List.append_assoc,List.cons_append,List.nil_append] at ih ⊢;refine(qk _).symm.trans ?_;simp? only[zQ,nm,mm,List.length_map,za,ih]
theorem qas[PN pg](k:Nat)(m:Int)(d:D)(h:qmM m d):clK pg (k+3) "are_names" [.val d,.val (.int m)]=.ok (.val (.bl false)):=by
 rw[r_are_names];rcases h with h | ⟨l,rfl,hl,h⟩
 ·cases d with
  |lst n=>cases h
  |ins c ns l=>cases h
  |exc c ns l=>cases h
  |dct ns l=>cases h
  |_=>simp? only[qM]
 ·by_cases c1:(l.length:Int) < 1
  ·simp? only[qM,c1]
  ·by_cases c2:m < (l.length:Int)
   ·simp? only[qM,c1,c2]
   ·obtain⟨zs,x,r,rfl,hz,hn,hx⟩:qnt l:=by
     rcases h with h | h | h
     ·rw[h] at c1;exact absurd (by show(0:Int) < 1;decide) c1
     ·exact absurd h c2
     ·exact h
    have lz:zs.length < 1000:=by simp at hl;lia
    obtain⟨s3,lp⟩:=Jk (pg:=pg) k (.val (.lst (zs.map D.str++x::r))) (.val (.int m)) zs [] .no hz (by simpa using hn) (by simpa using lz);rw[List.map_nil,List.nil_append] at lp
    have l2:yc (pg.kk (k+2)) 1000 (.one 3) zz (x::r) [.val (.lst (zs.map D.str++x::r)),.val (.int m),.own (zs.map D.str),s3]=.ok (.ret (.val (.bl false))):=by
     generalize zs.map D.str++x::r=L;refine(qk _).symm.trans ?_;rcases hx with hx | ⟨z,hm,rfl,nz⟩
     ·simp? only[zQ,qij (pg:=pg) k x hx]
     ·have mm:=Yb z zs;rw[show zs.contains z=true by simpa using hm] at mm;simp? only[zQ,qai (pg:=pg) k z nz,mm]
    have l3:=(qbx (m:=x::r) lp).trans l2;have z0:(0:Nat)<=sizeLine:=by decide+kernel
    generalize zs.map D.str++x::r=L at *;simp? only[qM,c1,c2,z0,l3]
end
end DG
namespace K72
open PySem DE DG FZ FA Dy
open L2 hiding St
abbrev NB(st:List St)(x:Rl):Prop:=qr x.1 (y2 st x)=none
theorem Yr(st:List St):∀(l:List Rl) (i:Nat) (f:Option (Int×Int×Int)),j5 st l i f=none↔(f=none/\∀x∈l,NB st x)
 |[],i,f=>by simp[j5]
 | x::l,i,f=>by
  rw[j5]
  cases e:qr x.1 (y2 st x) with
  |none=>
   dsimp only;rw[Yr st l];constructor
   ·rintro⟨h1,h2⟩;refine⟨h1,λy hy=>?_⟩;rcases List.mem_cons.mp hy with rfl | hy
    ·exact e
    ·exact h2 y hy
   ·exactλh=>⟨h.1,λy hy=>h.2 y (List.mem_cons_of_mem _ hy)⟩
  |some d=>
   dsimp only;have no:¬ NB st x:=λq=>by rw[NB,e] at q;cases q
   constructor
   ·intro h
    split at h
    ·exact absurd ((Yr st l _ _).mp h).1 (λq=>by cases q)
    ·rename_i hb
     have:=((Yr st l _ _).mp h).1
     rw[this] at hb;exact absurd rfl hb
   ·exactλh=>absurd (h.2 x (by simp)) no
def qmN(st:List St)(A B:List Rl):Prop:=∀x∈A,∃y∈B,NB st y->NB st x
theorem qat{st:List St}{rs rs':List Ru}{ps ps':List Pa}(h1:qmN st (rlF ps 0 rs) (rlF ps' 0 rs'))(h2:qmN st (rlF ps' 0 rs') (rlF ps 0 rs)):zu rs ps st=none↔zu rs' ps' st=none:=by
 unfold zu;rw[Yr,Yr];constructor
 ·refineλh=>⟨rfl,λx hx=>?_⟩;obtain⟨y,hy,q⟩:=h2 x hx;exact q (h.2 y hy)
 ·refineλh=>⟨rfl,λx hx=>?_⟩;obtain⟨y,hy,q⟩:=h1 x hx;exact q (h.2 y hy)
theorem y4{ps:List Pa}{rs:List Ru}{j:Nat}{r:Ru}(h:rs[j]?=some r):(r,yx (j:Int) ps)∈rlF ps 0 rs:=by
 have:=Qw ps 0 rs j
 rw[h,Nat.zero_add] at this;exact List.mem_of_getElem? this
theorem qcd{ps:List Pa}{rs:List Ru}{x:Rl}(h:x∈rlF ps 0 rs):∃j:Nat,rs[j]?=some x.1/\x.2=yx (j:Int) ps:=by obtain⟨j,e1,e2⟩:=qdH h;rw[Nat.zero_add] at e2;exact⟨j,e1,e2⟩
theorem qau{st:List St}{A B:List Rl}(h:∀x∈A,x∈B):qmN st A B:=λx hx=>⟨x,h x hx,id⟩
def qd0(last:Int)(ps:List Pa):List Pa:=ps.map λp=>(last - p.1,p.2)
theorem qd1(last n:Int)(ps:List Pa):ofN n (qd0 last ps)=ofN (last - n) ps:=by
 induction ps with
 |nil=>rfl
 |cons p l ih=>
  unfold ofN qd0 at ih ⊢;rw[List.map_cons,List.filter_cons,List.filter_cons]
  have e:((last - p.1 == n):Bool)=(p.1 == last - n):=by rw[Bool.eq_iff_iff];simp only[beq_iff_eq];omega
  dsimp only;rw[e];split
  ·rw[List.map_cons,List.map_cons,ih]
  ·exact ih
theorem qol(st:List St)(rs:List Ru)(ps:List Pa):zu rs ps st=none↔zu rs.reverse (qd0 ((rs.length:Int) - 1) ps) st=none:=by
 have go:∀(rs:List Ru) (j:Nat) (r:Ru),rs.reverse[j]?=some r->∃i:Nat,rs[i]?=some r/\(rs.length:Int) - 1 - (j:Int)=(i:Int):=λrs j r h=>by
  have hj:j < rs.length:=by have:=(List.getElem?_eq_some_iff.mp h).1;simpa using this
  refine⟨rs.length - 1 - j,?_,by omega⟩;rw[List.getElem?_reverse hj] at h;exact h
 refine qat (qau λx hx=>?_) (qau λx hx=>?_)
 ·obtain⟨j,e1,e2⟩:=qcd hx;obtain⟨i,i1,i2⟩:=go rs.reverse j x.1 (by rw[List.reverse_reverse];exact e1);rw[List.length_reverse] at i2
  have:=y4 (ps:=qd0 ((rs.length:Int) - 1) ps) i1
  unfold yx at this;rw[qd1,show(rs.length:Int) - 1 - (i:Int)=(j:Int) by omega] at this;rw[show x=(x.1,yx (j:Int) ps) by rw[<-e2]];exact this
 ·obtain⟨j,e1,e2⟩:=qcd hx;obtain⟨i,i1,i2⟩:=go rs j x.1 e1
  have:=y4 (ps:=ps) i1
  unfold yx at e2;rw[qd1,i2] at e2;rw[show x=(x.1,yx (i:Int) ps) by rw[show yx (i:Int) ps=spr (ofN (i:Int) ps) from rfl,<-e2]];exact this
def Z0(n:Int)(ps:List Pa):List Pa:=ps++(ps.filter λp=>p.1 == 0).map λp=>(n,p.2)
theorem qav{n:Int}{ps:List Pa}{j:Int}(h:j≠n):ofN j (Z0 n ps)=ofN j ps:=by
 unfold ofN Z0
 have e:((ps.filter λp=>p.1 == 0).map λp=>(n,p.2)).filter (λp=>p.1 == j)=[]:=List.filter_eq_nil_iff.mpr λp hp=>by
  obtain⟨q,_,rfl⟩:=List.mem_map.mp hp
  simpa using λz=>h z.symm
 rw[List.filter_append,e,List.append_nil]
theorem qaw{n:Int}{ps:List Pa}(h:∀p∈ps,p.1≠n):ofN n (Z0 n ps)=ofN 0 ps:=by
 unfold ofN Z0
 rw[List.filter_append,List.filter_eq_nil_iff.mpr (λp hp=>by simpa using h p hp),List.nil_append,List.filter_eq_self.mpr (λp hp=>by
  obtain⟨q,_,rfl⟩:=List.mem_map.mp hp
  simp),List.map_map]
 rfl
theorem qnu(st:List St){rs:List Ru}{ps:List Pa}{r0 r':Ru}(h0:rs[0]?=some r0)(hp:∀p∈ps,p.1 < rs.length)(hr:NB st (r0,yx 0 ps)->NB st (r',yx 0 ps)):zu rs ps st=none↔zu (rs++[r']) (Z0 rs.length ps) st=none:=by
 have old:∀(j:Nat),j < rs.length->yx (j:Int) (Z0 rs.length ps)=yx (j:Int) ps:=λj hj=>by unfold yx;rw[qav (1:)]
 have new:yx (rs.length:Int) (Z0 rs.length ps)=yx 0 ps:=by unfold yx;rw[qaw λp hq=>by have:=hp p hq;omega]
 refine qat (qau λx hx=>?_) λx hx=>?_
 ·obtain⟨j,e1,e2⟩:=qcd hx;have hj:=(List.getElem?_eq_some_iff.mp e1).1
  have:=y4 (ps:=Z0 rs.length ps) (rs:=rs++[r']) (j:=j) (by rw[List.getElem?_append_left hj];exact e1)
  rw[old j hj,<-e2] at this;exact this
 ·obtain⟨j,e1,e2⟩:=qcd hx
  by_cases hj:j < rs.length
  ·rw[List.getElem?_append_left hj] at e1;rw[old j hj] at e2;refine⟨x,?_,id⟩
   have:=y4 (ps:=ps) e1
   rw[<-e2] at this;exact this
  ·have hj2:=(List.getElem?_eq_some_iff.mp e1).1;rw[List.length_append] at hj2;have hj2:j < rs.length+1:=hj2;obtain rfl:j=rs.length:=by omega
   rw[List.getElem?_append_right (Nat.le_refl _),Nat.sub_self] at e1;cases e1;rw[new] at e2;refine⟨(r0,yx 0 ps),y4 (j:=0) h0,λq=>?_⟩
   have:=hr q
   rw[<-e2] at this;exact this
theorem ZI{r r':Ru}(h:r.lands=r'.lands)(lf:List Pr):∀st:List St,qz r lf st=qz r' lf st
 |[]=>rfl
 | s::st=>by rw[qz,qz,ZI h lf st];unfold qF;rw[h]
theorem QK{st:List St}{e:Int}(hc:Chw e st){r r':Ru}{lf:List Pr}(hx:Rlw (r,lf))(hx':Rlw (r',lf))(h1:r'.kd.isW=r.kd.isW)(h2:r'.lands=r.lands)(h3:r'.days=r.days)(h4:r.most<=r'.most):NB st (r,lf)->NB st (r',lf):=λh=>by
 have a:=qig hx hc h
 cases q:qr r' (y2 st (r',lf)) with
 |none=>exact q
 |some d=>
  have b:=(qih hx' hc q).1;have ep:y2 st (r',lf)=y2 st (r,lf):=ZI h2 lf st
  have ec:cb st (r',lf) d=cb st (r,lf) d:=by unfold cb qG qdL;rw[ep];dsimp only;rw[h1,h3]
  have:=a d
  rw[ec] at b;dsimp only at b this;omega
end K72
namespace K72
open PySem DE DG FZ FA Dy
open L2 hiding St
abbrev Row:=List (Option Str)
def opD:Option Str->D
 |none=>.non
 |some z=>.str z
def yt(r:Row):D:=.lst (r.map opD)
noncomputable def stR:Nat->Row->List St
 |_,[]=>[]
 | i,none::l=>stR (i+1) l
 | i,some z::l=>(z,(i:Int),(i:Int))::stR (i+1) l
def qfK(r:Row):Prop:=r.length<=20/\∀z,some z∈r->NameOk z
theorem qby:∀(r:Row) (i:Nat) (e:Int),e < (i:Int)->i+r.length<=100->(∀z,some z∈r->NameOk z)->Ch e (stR i r)
 |[],_,_,_,_,_=>trivial
 | none::l,i,e,he,hl,h=>by rw[stR];exact qby l (i+1) e (1:) (by simp at hl;omega) λz hz=>h z (by simp[hz])
 | some z::l,i,e,he,hl,h=>by rw[stR];rw[List.length_cons] at hl;exact⟨⟨h z (by simp),he,Int.le_refl _,by show(i:Int)<=1000000000;omega⟩,qby l (i+1) _ (by show(i:Int) < _;omega) (1:) λz hz=>h z (by simp[hz])⟩
theorem qax:∀(r:Row) (i:Nat),(stR i r).length<=r.length
 |[],_=>Nat.le_refl _
 | none::l,i=>by
  rw[stR,List.length_cons]
  have:=qax l (i+1)
  omega
 | some z::l,i=>by
  rw[stR,List.length_cons,List.length_cons]
  have:=qax l (i+1)
  omega
theorem qd2:∀(r:Row) (i:Nat),(∀z,some z∈r->NameOk z)->∀s∈stR i r,NameOk s.1
 |[],_,_,s,h=>by cases h
 | none::l,i,h,s,hs=>qd2 l (i+1) (λz hz=>h z (by simp[hz])) s hs
 | some z::l,i,h,s,hs=>by
  rw[stR] at hs;rcases List.mem_cons.mp hs with rfl | hs
  ·exact h z (by simp)
  ·exact qd2 l (i+1) (λz hz=>h z (by simp[hz])) s hs
theorem qay(cl:Cl):∀(r:Row) (i:Nat) (acc:List D) (s0 s1:Sl),acc.length+r.length < 1000->zw cl QH (.many [0,1]) (.test (T.cmp CmpOp.IsNot (E.var 1) (E.con D.non))) (enF i (r.map opD)) [s0,s1] acc=.ok (acc++(stR i r).map stD)
 |[],i,acc,s0,s1,_=>by simp[enF,stR,qD]
 | none::l,i,acc,s0,s1,h=>by rw[List.length_cons] at h;have ih:=qay cl l (i+1) acc (.val (.int (i:Int))) (.val .non) (1:);rw[List.map_cons,enF,stR];refine(qk _).symm.trans ?_;simp? only[opD,ih]
 | some z::l,i,acc,s0,s1,h=>by
  rw[List.length_cons] at h;have ih:=qay cl l (i+1) (acc++[.tup [.str z,.int (i:Int),.int (i:Int)]]) (.val (.int (i:Int))) (.val (.str z)) (by simp;omega);rw[List.append_assoc,List.cons_append,List.nil_append] at ih;have za:acc.length < sizeLine:=qu (1:);have three:0+1+1+1<=sizeLine:=by decide+kernel
  rw[List.map_cons,enF,stR,List.map_cons,qdt];dsimp only;refine(qk _).symm.trans ?_;simp? only[opD,qcc,three,za,ih]
theorem qd3:∀(l:List D) (i:Nat),(enF i l).length=l.length
 |[],i=>rfl
 | d::l,i=>by rw[enF,List.length_cons,List.length_cons,qd3 l]
structure BkW(rs:List Ru)(ps:List Pa):Prop where
 w:∀x∈rlF ps 0 rs,Rlw x
 p18:ps.length<=18
def qco(rs:List Ru)(ps:List Pa)(r:Row):Bool:=(zu rs ps (stR 0 r)).isNone
theorem qd4(k:Nat){rs:List Ru}{ps:List Pa}(h:BkW rs ps){r:Row}(hr:qfK r):clK pg (k+8) "lets" [.val (bkI rs ps),.val (yt r)]=.ok (.val (.bl (qco rs ps r))):=by
 have hc:Ch (-1) (stR 0 r):=qby r 0 (-1) (2:) (by have:=hr.1;omega) hr.2;have hl:=qax r 0;have h20:=hr.1;have f:clK pg (k+7) "fault_among" [.val (bkI rs ps),.val (.lst ((stR 0 r).map stD))]=.ok (.val (qcn (zu rs ps (stR 0 r)))):=QC (pg:=pg) k false rs ps h.p18 (stR 0 r) (qd2 r 0 hr.2) (1:) λx hx=>qmK (h.w x hx) hc.w;have cp:=qay (pg.kk (k+7)) r 0 [] .no .no (by simp;omega);rw[List.nil_append] at cp;have zl:(enF 0 (r.map opD)).length<=sizeLine:=qv (by rw[qd3,List.length_map];omega);rw[qk4];unfold qco yt
 cases q:zu rs ps (stR 0 r) with
 |none=>rw[q] at f;dsimp only[qcn] at f;simp? only[qdW,JG,JU,List.map_nil,zl,cp,f,Option.isNone]
 |some z=>rw[q] at f;dsimp only[qcn,f3D] at f;simp? only[qdW,JG,JU,List.map_nil,zl,cp,f,Option.isNone]
noncomputable def lgF(zs:List Str)(rows:List Row):List Row:=rows.flatMap λr=>(zs.map some++[none]).map λz=>r++[z]
theorem qd5(cl:Cl)(r:Row)(hr:r.length<=1000):∀(zs:List (Option Str)) (acc:List Row) (s0:Sl),acc.length+zs.length < 1000->zw cl zR (.one 0) .yes (zs.map opD) [s0,.val (yt r)] (acc.map yt)=.ok ((acc++zs.map λz=>r++[z]).map yt)
 |[],acc,s0,_=>by simp[qD]
 | z::zs,acc,s0,h=>by
  rw[List.length_cons] at h;have ih:=qd5 cl r hr zs (acc++[r++[z]]) (.val (opD z)) (by simp;omega);have za:acc.length < sizeLine:=qu (1:);have one:0+1<=sizeLine:=by decide+kernel
  have zr:r.length+(0+1)<=sizeLine:=qv (1:);rw[List.map_cons,List.map_cons];rw[List.append_assoc,List.cons_append,List.nil_append,List.map_append (l₁:=acc) (l₂:=[r++[z]]),List.map_cons,List.map_nil,show yt (r++[z])=.lst (r.map opD++[opD z]) by simp[yt]] at ih;unfold yt at ih ⊢;refine(qk _).symm.trans ?_;simp? only[Jh,one,List.length_map,zr,za,ih]
theorem qd6(k:Nat)(v0:Sl)(b:Bool)(zs:List Str)(hz:zs.length<=2):∀(rows acc:List Row) (s3:Sl),(∀r∈rows,r.length<=1000)->acc.length+3 * rows.length < 1000->
  ∃s3',yc (pg.kk k) 1000 (.one 3) zS (rows.map yt) [v0,pS b (zs.map D.str),.own (acc.map yt),s3]=.ok (.next [v0,pS b (zs.map D.str),.own ((acc++lgF zs rows).map yt),s3'])
 |[],acc,s3,_,_=>⟨s3,by simp[zU,lgF]⟩
 | r::rows,acc,s3,hr,h=>by
  rw[List.length_cons] at h;have lz:(zs.map some++[none]).length=zs.length+1:=by simp
  have cp:=qd5 (pg.kk k) r (hr r (by simp)) (zs.map some++[none]) [] .no (by rw[lz];simp;omega);obtain⟨s3',ih⟩:=qd6 k v0 b zs hz rows (acc++(zs.map some++[none]).map λz=>r++[z]) (.val (yt r)) (λx hx=>hr x (by simp[hx])) (by simp;omega);refine⟨s3',?_⟩;rw[show lgF zs (r::rows)=((zs.map some++[none]).map λz=>r++[z])++lgF zs rows from rfl];rw[List.append_assoc] at ih;have e1:(zs.map some++[none]).map opD=zs.map D.str++[.non]:=by simp[opD,Function.comp_def]
  rw[e1,List.map_nil,List.nil_append] at cp;have zc:(zs.map D.str++[D.non]).length<=sizeLine:=qv (by simp;omega);have za:zs.length+(0+1)<=sizeLine:=qv (1:);have zx:acc.length+(zs.length+1)<=sizeLine:=qv (1:);have one:0+1<=sizeLine:=by decide+kernel
  rw[List.map_append (l₁:=acc)] at ih;generalize hL:((zs.map some++[none]).map λz=>r++[z]).map yt=L at cp ih;have ll:L.length=zs.length+1:=by rw[<-hL,List.length_map,List.length_map,lz]
  rw[List.map_cons]
  cases b with
  |true=>rw[show pS true (zs.map D.str)=.bor (zs.map D.str) from rfl] at ih ⊢;refine(qk _).symm.trans ?_;simp? only[jv,one,List.length_map,za,zc,JU,qeV,List.map_cons,List.map_nil,List.getD_cons_succ,List.getD_cons_zero,cp,ll,zx,ih]
  |false=>rw[show pS false (zs.map D.str)=.val (.lst (zs.map D.str)) from rfl] at ih ⊢;refine(qk _).symm.trans ?_;simp? only[jv,one,List.length_map,za,zc,JU,qeV,List.map_cons,List.map_nil,List.getD_cons_succ,List.getD_cons_zero,cp,ll,zx,ih]
theorem qd7(k:Nat)(b:Bool)(zs:List Str)(hz:zs.length<=2)(rows:List Row)(hr:∀r∈rows,r.length<=1000)(h:rows.length<=300):clK pg (k+1) "longer_rows" [.bor (rows.map yt),aL b (zs.map D.str)]=.ok (.tmp ((lgF zs rows).map yt)):=by
 obtain⟨s3,lp⟩:=qd6 k (.bor (rows.map yt)) b zs hz rows [] .no hr (by simp;omega);rw[List.map_nil,List.nil_append] at lp;have z0:(0:Nat)<=sizeLine:=by decide+kernel
 rw[QI];simp? only[y3,z0,lp]
end K72
namespace K72
open PySem DE DG FZ FA Dy
open L2 hiding St
open CH PN
theorem qk7(k:Nat)(b:Bool)(zs:List Str)(hz:∀z∈zs,NameOk z)(hn:zs.Nodup)(h1:1<=zs.length)(h2:zs.length<=2):clK pg (k+3) "are_names" [aL b (zs.map D.str),.val (.int 2)]=.ok (.val (.bl true)):=by
 obtain⟨s3,lp⟩:=Jk (pg:=pg) k (pS b (zs.map D.str)) (.val (.int 2)) zs [] .no hz (by simpa using hn) (by simp;omega);rw[List.map_nil,List.nil_append] at lp;have z0:(0:Nat)<=sizeLine:=by decide+kernel
 have c1:¬ (zs.length:Int) < 1:=by omega
 have c6:¬ (2:Int) < (zs.length:Int):=by omega
 rw[r_are_names]
 cases b with
 |true=>rw[show pS true (zs.map D.str)=.bor (zs.map D.str) from rfl] at lp;simp only[qb1];simp? only[qM,List.length_map,c1,c6,z0,lp]
 |false=>rw[show pS false (zs.map D.str)=.val (.lst (zs.map D.str)) from rfl] at lp;simp only[qb2];simp? only[qM,List.length_map,c1,c6,z0,lp]
theorem qmO(b:Bool):eqD (.bl b) (.bl b)=some true:=by cases b<;>decide+kernel
section
variable{R1 R2:List Ru}{P1 P2:List Pa}(w1:BkW R1 P1)(w2:BkW R2 P2)(same:∀r,qfK r->qco R1 P1 r=qco R2 P2 r)
include w1 w2 same
theorem qaz(k:Nat)(v2 v3 v5 v6:Sl):∀(L acc:List Row) (s7 s8:Sl),(∀r∈L,qfK r)->acc.length+L.length < 1000->
  ∃s7' s8',yc (pg.kk (k+8)) 1000 (.one 7) Ji (L.map yt) [.val (bkI R1 P1),.val (bkI R2 P2),v2,v3,.own (acc.map yt),v5,v6,s7,s8]=.ok (.next [.val (bkI R1 P1),.val (bkI R2 P2),v2,v3,.own ((acc++L.filter (qco R1 P1)).map yt),v5,v6,s7',s8'])
 |[],acc,s7,s8,_,_=>⟨s7,s8,by simp[zU]⟩
 | r::L,acc,s7,s8,hr,h=>by
  rw[List.length_cons] at h;have ok:=hr r (by simp);have e1:=qd4 k w1 ok;have e2:=qd4 k w2 ok;rw[<-same r ok] at e2;have eb:=qmO (qco R1 P1 r);have za:acc.length < sizeLine:=qu (1:);rw[List.filter_cons]
  cases q:qco R1 P1 r with
  |true=>rw[q] at e1 e2 eb;obtain⟨s7',s8',ih⟩:=qaz k v2 v3 v5 v6 L (acc++[r]) (.val (yt r)) (.val (.bl true)) (λx hx=>hr x (by simp[hx])) (by simp;omega);refine⟨s7',s8',?_⟩;rw[if_pos rfl];rw[List.append_assoc,List.cons_append,List.nil_append,List.map_append (l₁:=acc) (l₂:=[r]),List.map_cons,List.map_nil] at ih;rw[List.map_cons];generalize yt r=X at *;refine(qk _).symm.trans ?_;simp? only[Ju,e1,e2,eb,List.length_map,za,ih]
  |false=>rw[q] at e1 e2 eb;obtain⟨s7',s8',ih⟩:=qaz k v2 v3 v5 v6 L acc (.val (yt r)) (.val (.bl false)) (λx hx=>hr x (by simp[hx])) (1:);refine⟨s7',s8',?_⟩;rw[if_neg (2:)];rw[List.map_cons];generalize yt r=X at *;refine(qk _).symm.trans ?_;simp? only[Ju,e1,e2,eb,ih]
structure RI(t:Nat)(rows:List Row):Prop where
 len:rows.length<=3 ^ t
 ok:∀r∈rows,r.length=t/\∀z,some z∈r->NameOk z
omit w1 w2 same in
theorem RI.next{zs:List Str}(hz:∀z∈zs,NameOk z)(h2:zs.length<=2){t:Nat}{rows:List Row}(h:RI t rows):RI (t+1) (lgF zs rows):=by
 refine⟨?_,λr hr=>?_⟩
 ·have e:(lgF zs rows).length<=3 * rows.length:=by
   unfold lgF;clear h
   induction rows with
   |nil=>simp
   |cons r l ih=>
    rw[List.flatMap_cons,List.length_append,List.length_cons]
    have:((zs.map some++[none]).map λz=>r++[z]).length=zs.length+1:=by simp
    omega
  have:=h.len
  rw[Nat.pow_succ];omega
 ·unfold lgF at hr;obtain⟨q,hq,hr⟩:=List.mem_flatMap.mp hr;obtain⟨z,hzz,rfl⟩:=List.mem_map.mp hr;obtain⟨a,b⟩:=h.ok q hq;refine⟨by simp[a],λy hy=>?_⟩;rcases List.mem_append.mp hy with hy | hy
  ·exact b y hy
  ·have e:=List.mem_singleton.mp hy;subst e;rcases List.mem_append.mp hzz with hzz | hzz
   ·obtain⟨x,hx,e⟩:=List.mem_map.mp hzz;cases e;exact hz y hx
   ·exact absurd (List.mem_singleton.mp hzz) (by simp)
theorem ye(k:Nat)(b:Bool)(v3:Sl)(zs:List Str)(hz:∀z∈zs,NameOk z)(h2:zs.length<=2):∀(n t:Nat) (rows:List Row) (s5 s6 s7 s8:Sl),RI t rows->t+n<=4->
  ∃ρ',yc (pg.kk (k+8)) 1000 (.one 5) Jj (rgF (t:Int) n) [.val (bkI R1 P1),.val (bkI R2 P2),pS b (zs.map D.str),v3,.own (rows.map yt),s5,s6,s7,s8]=.ok (.next ρ')
 |0,t,rows,s5,s6,s7,s8,_,_=>⟨_,rfl⟩
 | n+1,t,rows,s5,s6,s7,s8,h,hn=>by
  have h27:3 ^ t<=27:=by
   have:(3:Nat) ^ t<=3 ^ 3:=Nat.pow_le_pow_right (2:) (1:)
   omega
  have hlen:=h.len;have nx:=h.next hz h2
  have h81:(lgF zs rows).length<=81:=by
   have:=nx.len
   rw[Nat.pow_succ] at this;omega
  have lo:clK pg (k+8) "longer_rows" [.bor (rows.map yt),aL b (zs.map D.str)]=.ok (.tmp ((lgF zs rows).map yt)):=qd7 (k+7) b zs h2 rows (λr hr=>by have:=(h.ok r hr).1;omega) (1:);obtain⟨s7',s8',il⟩:=qaz w1 w2 same k (pS b (zs.map D.str)) v3 (.val (.int (t:Int))) (.val (.lst ((lgF zs rows).map yt))) (lgF zs rows) [] s7 s8 (λr hr=>⟨by have:=(nx.ok r hr).1;omega,(nx.ok r hr).2⟩) (by simp;omega);rw[List.map_nil,List.nil_append] at il;have nx2:RI (t+1) ((lgF zs rows).filter (qco R1 P1)):=⟨Nat.le_trans (List.length_filter_le _ _) nx.len,λr hr=>nx.ok r (List.mem_filter.mp hr).1⟩;obtain⟨ρ',ih⟩:=ye k b v3 zs hz h2 n (t+1) _ (.val (.int (t:Int))) (.val (.lst ((lgF zs rows).map yt))) s7' s8' nx2 (1:);refine⟨ρ',?_⟩;rw[show((t+1:Nat):Int)=(t:Int)+1 by omega] at ih;have z0:(0:Nat)<=sizeLine:=by decide+kernel
  generalize (lgF zs rows).map yt=LL at *;generalize ((lgF zs rows).filter (qco R1 P1)).map yt=FF at *;generalize rows.map yt=RR at *;rw[rgF];refine(qk _).symm.trans ?_;simp? only[ZH,lo,z0,il,ih]
theorem ZJ(k:Nat)(b:Bool)(zs:List Str)(hz:∀z∈zs,NameOk z)(hn:zs.Nodup)(h1:1<=zs.length)(h2:zs.length<=2)(n:Nat)(h4:n<=4):clK pg (k+9) "parted" [.val (bkI R1 P1),.val (bkI R2 P2),aL b (zs.map D.str),.val (.int (n:Int))]=.ok (.val .non):=by
 have e:clK pg (k+8) "are_names" [aL b (zs.map D.str),.val (.int 2)]=.ok (.val (.bl true)):=qk7 (k+5) b zs hz hn h1 h2;obtain⟨ρ',lp⟩:=ye w1 w2 same k b (.val (.int (n:Int))) zs hz h2 n 0 [[]] .no .no .no .no ⟨by decide,λr hr=>by rw[List.mem_singleton.mp hr];exact⟨rfl,λz hz=>by cases hz⟩⟩ (1:);rw[show((0:Nat):Int)=0 from rfl,show(([[]]:List Row).map yt)=[.lst []] from rfl] at lp;have z0:(0:Nat)<=sizeLine:=by decide+kernel
 have z1:0+1<=sizeLine:=by decide+kernel
 have s1:qX (n:Int)=true:=Zz (1:) (1:);have rg:zG 0 (n:Int)=rgF 0 n:=by rw[JX];congr 1
 rw[qfI];simp? only[qbs,e,z0,z1,s1,rg,lp]
end
theorem qd8(k:Nat)(B1 B2 w n:D)(e3:clK pg (k+8) "are_names" [.val w,.val (.int 2)]=.ok (.val (.bl false))):clX pg (k+9) "parted" [.val B1,.val B2,.val w,.val n]=.exc (pg.cs.xa "NoWish") []:=by
 rw[show k+9=k+6+3 from rfl,qfJ];unfold runX qbv;dsimp only;rw[if_pos (show([.val B1,.val B2,.val w,.val n]:List Ar).length=4 from rfl),show slN 9 [.val B1,.val B2,.val w,.val n]=[.val B1,.val B2,.val w,.val n,.no,.no,.no,.no,.no] from rfl]
 have t:iT (pg.kk (k+8)) (T.not (T.val (E.call "are_names" (Es.cons (E.var 2) (Es.cons (E.con (D.int 2)) Es.nil))))) [.val B1,.val B2,.val w,.val n,.no,.no,.no,.no,.no]=.ok (true,[.val B1,.val B2,.val w,.val n,.no,.no,.no,.no,.no]):=by refine(qk _).symm.trans ?_;simp? only[e3]
 have s:∀z:Str,iEs (pg.kk (k+8)) (Es.cons (E.con (D.str z)) Es.nil) [.val B1,.val B2,.val w,.val n,.no,.no,.no,.no,.no]=.ok ([.str z],[.val B1,.val B2,.val w,.val n,.no,.no,.no,.no,.no]):=λz=>by refine(qk _).symm.trans ?_;simp? only[decide_true]
 have m:∀z:Str,mkX pg.cs "NoWish" [.str z]=.exc (pg.cs.xa "NoWish") []:=λz=>by unfold mkX;rw[show pg.cs.xn "NoWish" = some [] from rfl];dsimp only;rw[if_pos (by show 1<=sizeLine;decide+kernel)]
 simp? only[nTx t,nTx (s _),m]
def xD0:D:=.exc (pg.cs.xa "NoWish") [] []
theorem qce(k:Nat)(B1 B2 w:D)(hw:qmM 2 w):clK pg (k+10) "_law_refused" [.val B1,.val B2,.val w]=.ok (.val (.bl true)):=by
 have h:=qd8 k B1 B2 w (.int 2) (qas (pg:=pg) (k+5) 2 w hw);rw[YE (k+9),show k+9+1=k+7+3 from rfl,YD (k+7)];refine nTx ?_;unfold runX yr;dsimp only;rw[if_pos (show([.val B1,.val B2,.val w]:List Ar).length=3 from rfl),show slN 5 [.val B1,.val B2,.val w]=[.val B1,.val B2,.val w,.no,.no] from rfl]
 have s1:iS (pg.kk (k+9)) 1000 (S.set 3 (E.con D.non)) [.val B1,.val B2,.val w,.no,.no]=.ok (.next [.val B1,.val B2,.val w,.val .non,.no]):=by refine(qk _).symm.trans ?_;simp? only[decide_true]
 have s2:iAs (pg.kk (k+9)) (Es.cons (E.var 0) (Es.cons (E.var 1) (Es.cons (E.var 2) (Es.cons (E.con (D.int 2)) Es.nil)))) [.val B1,.val B2,.val w,.val .non,.no]=.ok ([.val B1,.val B2,.val w,.val (.int 2)],[.val B1,.val B2,.val w,.val .non,.no]):=by refine(qk _).symm.trans ?_;simp? only[decide_true]
 have ca:yh pg.cs 5 (pg.cs.xa "NoWish") [] [("DayError",4,3)]=.ok (.next [.no,.no,.no,.val xD0,.no]):=by unfold yh;rw[show pg.cs.xs (pg.cs.xa "NoWish") "DayError" = some true by decide+kernel];rfl
 have i1:qiz pg.cs (.val xD0) ["NoDeed","NoPaper","NoRow","NoRule","NoStay","NotLet","NoText"]=some false:=by decide+kernel
 have i2:qep pg.cs (.val xD0) "NoWish" = some true:=by decide+kernel
 have i3:qep pg.cs (.val xD0) "ValueError" = some true:=by decide+kernel
 have t:iT (pg.kk (k+9)) (T.val (E.isn ["NoDeed","NoPaper","NoRow","NoRule","NoStay","NotLet","NoText"] (E.var 3))) [.no,.no,.no,.val xD0,.no]=.ok (false,[.no,.no,.no,.val xD0,.no]):=by refine(qk _).symm.trans ?_;simp? only[i1]
 have s4:iS (pg.kk (k+9)) 1000 (S.ret (E.and (E.isc "NoWish" (E.var 3)) (E.one (E.isc "ValueError" (E.var 3))))) [.no,.no,.no,.val xD0,.no]=.ok (.ret (.val (.bl true))):=by refine(qk _).symm.trans ?_;simp? only[i2,i3]
 simp? only[nTx s1,nTx s2,h,List.length_cons,List.length_nil,ca,nTx t,nTx s4]
end K72
namespace K72
open PySem DE DG FZ FA Dy
open L2 hiding St
structure PpR(n:Nat)(p:Pa):Prop where
 o0:0<=p.1
 o1:p.1 < n
 a0:0<=p.2.1
 ab:p.2.1<=p.2.2
 b1:p.2.2<=1000000000
def k3(r:Ru):Ru:=match r.kd with
 |.ro=>⟨.si,r.lands,r.most,1⟩
 |_=>r
theorem qk8{r:Ru}(h:SpOk r):SpOk (k3 r):=by
 obtain⟨kd,l,m,d⟩:=r;cases kd
 ·exact h
 ·exact h
 ·exact⟨h.nd,h.l1,h.l6,h.ok,h.m0,h.m1,by show(1:Int)<=1;decide,by show(1:Int)<=1000000000;decide⟩
theorem qk9{q:List Ru}{p:List Pa}{n:Nat}(h:∀r∈q,SpOk r)(hp:∀x∈p,PpR n x)(hl:p.length<=18):∀x∈rlF p 0 (q.map mkR),Rlw x:=qk3 (λr hr=>by obtain⟨s,hs,rfl⟩:=List.mem_map.mp hr;exact qkW (h s hs)) (λx hx=>(hp x hx).ab) hl
theorem qd9(cl:Cl)(last:Int):∀(ps:List Pa) (acc:List D) (s0 s1 s2:Sl),acc.length+ps.length < 1000->zw cl jb (.many [0,1,2]) .yes (ps.map paD) [s0,s1,s2,.val (.int last)] acc=.ok (acc++(qd0 last ps).map paD)
 |[],acc,s0,s1,s2,_=>by simp[qD,qd0]
 | p::ps,acc,s0,s1,s2,h=>by
  rw[List.length_cons] at h;have ih:=qd9 cl last ps (acc++[.tup [.int (last - p.1),.int p.2.1,.int p.2.2]]) (.val (.int p.1)) (.val (.int p.2.1)) (.val (.int p.2.2)) (by simp;omega);rw[List.append_assoc,List.cons_append,List.nil_append] at ih;have za:acc.length < sizeLine:=qu (1:);have three:0+1+1+1<=sizeLine:=by decide+kernel
  rw[show(qd0 last (p::ps)).map paD=.tup [.int (last - p.1),.int p.2.1,.int p.2.2]::(qd0 last ps).map paD from rfl,List.map_cons,zO];generalize (qd0 last ps).map paD=T at *;refine(qk _).symm.trans ?_;simp? only[Jy,three,za,ih]
theorem QL(cl:Cl)(last:Int)(e:E)(ue:UE e zT):∀(ps:List Pa) (acc:List D) (s0 s1 s2:Sl),acc.length+ps.length < 1000->zw cl e (.many [0,1,2]) (.test (T.cmp CmpOp.Eq (E.var 0) (E.con (D.int 0)))) (ps.map paD) [s0,s1,s2,.val (.int last)] acc=.ok (acc++((ps.filter λp=>p.1 == 0).map λp=>(last+1,p.2)).map paD)
 |[],acc,s0,s1,s2,_=>by simp[qD]
 | p::ps,acc,s0,s1,s2,h=>by
  rw[List.length_cons] at h;have za:acc.length < sizeLine:=qu (1:);have three:0+1+1+1<=sizeLine:=by decide+kernel
  rw[List.filter_cons,List.map_cons (f:=paD),zO]
  by_cases q:(p.1 == 0)=true
  ·rw[if_pos q];have ih:=QL cl last e ue ps (acc++[.tup [.int (last+1),.int p.2.1,.int p.2.2]]) (.val (.int p.1)) (.val (.int p.2.1)) (.val (.int p.2.2)) (by simp;omega);rw[List.append_assoc,List.cons_append,List.nil_append] at ih;rw[List.map_cons,List.map_cons,zO];dsimp only;generalize ((ps.filter λp=>p.1 == 0).map λp=>(last+1,p.2)).map paD=T at *;refine(qk _).symm.trans ?_;simp? only[ue,three,za,qL,q,ih]
  ·rw[if_neg q];have ih:=QL cl last e ue ps acc (.val (.int p.1)) (.val (.int p.2.1)) (.val (.int p.2.2)) (1:);have q:(p.1 == 0)=false:=by simpa using q
   generalize ((ps.filter λp=>p.1 == 0).map λp=>(last+1,p.2)).map paD=T at *;refine(qk _).symm.trans ?_;simp? only[qL,q,ih]
theorem qea(cl:Cl):∀(rs:List Ru) (acc:List D) (s0:Sl),acc.length+rs.length < 1000->zw cl je (.one 0) .yes (rs.map spD) [s0] acc=.ok (acc++(rs.map k3).map spD)
 |[],acc,s0,_=>by simp[qD]
 | r::rs,acc,s0,h=>by
  rw[List.length_cons] at h;have ih:=qea cl rs (acc++[spD (k3 r)]) (.val (spD r)) (by simp;omega);rw[List.append_assoc,List.cons_append,List.nil_append] at ih;have za:acc.length < sizeLine:=qu (1:);have three:0+1+1+1<=sizeLine:=by decide+kernel
  have four:0+1+1+1+1<=sizeLine:=by decide+kernel
  have a0:∀a b c d:D,atI [a,b,c,d] 0=some a:=λ_ _ _ _=>rfl;have a1:∀a b c d:D,atI [a,b,c,d] 1=some b:=λ_ _ _ _=>rfl;have a2:∀a b c d:D,atI [a,b,c,d] 2=some c:=λ_ _ _ _=>rfl;have a3:∀a b c d:D,atI [a,b,c,d] 3=some d:=λ_ _ _ _=>rfl
  have b3:atI [D.tup [.int 0,.lst (r.lands.map lnD),.int r.most,.int r.days],.tup [.int (kw r.kd),.lst (r.lands.map lnD),.int r.most,.int r.days],.tup [.int 1,.lst (r.lands.map lnD),.int r.most,.int 1]] (kw r.kd)=some (spD (k3 r)):=by obtain⟨kd,l,m,d⟩:=r;cases kd<;>rfl
  rw[List.map_cons,List.map_cons,List.map_cons];generalize (rs.map k3).map spD=T at *;generalize spD (k3 r)=X at *;rw[qbi] at ih ⊢;refine(qk _).symm.trans ?_;simp? only[JB,three,four,a0,a1,a2,a3,b3,za,ih]
theorem qaA{α β:Type}(f:α->β)(l:List α):(l.map f).reverse=l.reverse.map f:=(List.map_reverse ..).symm
section
variable{rs:List Ru}(hr:∀r∈rs,SpOk r)(hm:∀r∈rs,r.most<=24)(h2:2<=rs.length)(h3:rs.length<=3){ps:List Pa}(hp:ps.length<=3)(hpo:∀p∈ps,PpR rs.length p)
include hr hm h2 h3 hp hpo
theorem qfL(k:Nat)(w:Int)(hw:0<=w/\w < 4):∃(rs2:List Ru) (ps2:List Pa),(∀r∈rs2,SpOk r)/\rs2.length<=4/\ps2.length<=6/\(∀p∈ps2,PpR rs2.length p)/\(∀(st:List St) (e:Int),Chw e st->(zu (rs.map mkR) ps st=none↔zu (rs2.map mkR) ps2 st=none))/\
  clK pg (k+1) "_law_alike" [.val (.lst (rs.map spD)),.val (.lst (ps.map paD)),.val (.int w)]=.ok (.val (.tup [.lst (rs2.map spD),.lst (ps2.map paD)])):=by
 have lm:(rs.map mkR).length=rs.length:=List.length_map ..;have two:0+1+1<=sizeLine:=by decide+kernel
 have one:0+1<=sizeLine:=by decide+kernel
 have four:0+1+1+1+1<=sizeLine:=by decide+kernel
 have zp:ps.length<=sizeLine:=qv (1:);have zr:rs.length<=sizeLine:=qv (1:)
 obtain⟨r0,rest,ers⟩:∃r0 rest,rs=r0::rest:=by
  cases rs with
  |nil=>simp at h2
  |cons a l=>exact⟨a,l,rfl⟩
 have g0:(rs.map mkR)[0]?=some (mkR r0):=by rw[ers];rfl
 have hr0:SpOk r0:=hr r0 (by rw[ers];simp);have hm0:r0.most<=24:=hm r0 (by rw[ers];simp);have own:∀p∈ps,p.1 < ((rs.map mkR).length:Int):=λp q=>by rw[lm];exact(hpo p q).o1
 have addl:(Z0 (rs.length:Int) ps).length<=6:=by
  unfold Z0;rw[List.length_append,List.length_map]
  have:=List.length_filter_le (λp:Pa=>p.1 == 0) ps
  omega
 have addo:∀p∈Z0 (rs.length:Int) ps,PpR (rs.length+1) p:=λp q=>by
  unfold Z0 at q;rcases List.mem_append.mp q with q | q
  ·have z:=hpo p q;exact⟨z.o0,by have:=z.o1;omega,z.a0,z.ab,z.b1⟩
  ·obtain⟨x,hx,rfl⟩:=List.mem_map.mp q;have z:=hpo x (List.mem_filter.mp hx).1;exact⟨by show(0:Int)<=(rs.length:Int);omega,by show(rs.length:Int) < ((rs.length+1:Nat):Int);omega,z.a0,z.ab,z.b1⟩
 have adde:ps.map paD++((ps.filter λp=>p.1 == 0).map λp=>((rs.length:Int) - 1+1,p.2)).map paD=(Z0 (rs.length:Int) ps).map paD:=by rw[show((rs.length:Int) - 1+1)=(rs.length:Int) by omega];unfold Z0;rw[List.map_append]
 have W:=qk9 hr hpo (by omega:ps.length<=18);rcases (by omega:w=0\/w=1\/w=2\/w=3) with rfl | rfl | rfl | rfl
 ·refine⟨rs.reverse,qd0 ((rs.length:Int) - 1) ps,λr q=>hr r (List.mem_reverse.mp q),by rw[List.length_reverse];omega,by rw[qd0,List.length_map];omega,λp q=>?_,λst e hc=>?_,?_⟩
  ·obtain⟨x,hx,rfl⟩:=List.mem_map.mp q;have z:=hpo x hx;rw[List.length_reverse];exact⟨by show 0<=(rs.length:Int) - 1 - x.1;have:=z.o1;omega,by show(rs.length:Int) - 1 - x.1 < rs.length;have:=z.o0;omega,z.a0,z.ab,z.b1⟩
  ·have:=qol st (rs.map mkR) ps
   rw[lm,qaA] at this;exact this
  ·have cp:=qd9 (pg.kk k) ((rs.length:Int) - 1) ps [] .no .no .no (by simp;omega);rw[List.nil_append] at cp;rw[zZ];have b0:((0:Int) == 0)=true:=rfl;simp? only[qZ,List.length_map,qL,b0,qaA,zp,JU,qeV,List.map_cons,List.map_nil,List.getD_cons_succ,List.getD_cons_zero,cp,two]
 ·refine⟨rs++[r0],Z0 (rs.length:Int) ps,λr q=>?_,by rw[List.length_append];show rs.length+1<=4;omega,addl,by rw[List.length_append];exact addo,λst e hc=>?_,?_⟩
  ·rcases List.mem_append.mp q with q | q
   ·exact hr r q
   ·rw[List.mem_singleton.mp q];exact hr0
  ·have:=qnu st g0 own (r':=mkR r0) id
   rw[lm] at this;rw[List.map_append];exact this
  ·have cp:=QL (pg.kk k) ((rs.length:Int) - 1) jc Jz ps [] .no .no .no (by simp;omega);rw[List.nil_append] at cp;have ct:qeo (rs.map spD) none (some 1)=[spD r0]:=by rw[ers];rfl
   rw[zZ];have b0:((1:Int) == 0)=false:=rfl;have b1:((1:Int) == 1)=true:=rfl;have zs:rs.length+(0+1)<=sizeLine:=qv (1:)
   have zf:ps.length+((ps.filter λp=>p.1 == 0).map λp=>((rs.length:Int) - 1+1,p.2)).length<=sizeLine:=qv (by
    rw[List.length_map]
    have:=List.length_filter_le (λp:Pa=>p.1 == 0) ps
    omega)
   rw[List.length_map] at zf;rw[<-adde,List.map_append (l₁:=rs),List.map_cons,List.map_nil];simp? only[qZ,List.length_map,qL,b0,b1,ct,zs,zf,zp,JU,qeV,List.map_cons,List.map_nil,List.getD_cons_succ,List.getD_cons_zero,cp,two]
 ·have hl:SpOk ⟨r0.kd,r0.lands,r0.most+1,r0.days⟩:=⟨hr0.nd,hr0.l1,hr0.l6,hr0.ok,by have:=hr0.m0;show 0<=r0.most+1;omega,by show r0.most+1<=_;omega,hr0.d0,hr0.d1⟩;refine⟨rs++[⟨r0.kd,r0.lands,r0.most+1,r0.days⟩],Z0 (rs.length:Int) ps,λr q=>?_,by rw[List.length_append];show rs.length+1<=4;omega,addl,by rw[List.length_append];exact addo,λst e hc=>?_,?_⟩
  ·rcases List.mem_append.mp q with q | q
   ·exact hr r q
   ·rw[List.mem_singleton.mp q];exact hl
  ·have x0:Rlw (mkR r0,yx 0 ps):=W _ (y4 (j:=0) g0);have x1:Rlw (mkR ⟨r0.kd,r0.lands,r0.most+1,r0.days⟩,yx 0 ps):=qk9 (q:=[⟨r0.kd,r0.lands,r0.most+1,r0.days⟩]) (λr q=>by rw[List.mem_singleton.mp q];exact hl) hpo (by omega:ps.length<=18) _ (y4 (j:=0) rfl)
   have:=qnu st g0 own (r':=mkR ⟨r0.kd,r0.lands,r0.most+1,r0.days⟩) (QK hc x0 x1 (by rw[qgt,qgt]) (by rw[qdQ,qdQ]) (by rw[QE,QE]) (by rw[QD,QD];dsimp only;omega))
   rw[lm] at this;rw[List.map_append];exact this
  ·have cp:=QL (pg.kk k) ((rs.length:Int) - 1) jd JA ps [] .no .no .no (by simp;omega);rw[List.nil_append] at cp;have at0:atI (rs.map spD) 0=some (spD r0):=by rw[ers];exact qiA (j:=0) rfl
   have a0:∀a b c d:D,atI [a,b,c,d] 0=some a:=λ_ _ _ _=>rfl;have a1:∀a b c d:D,atI [a,b,c,d] 1=some b:=λ_ _ _ _=>rfl;have a2:∀a b c d:D,atI [a,b,c,d] 2=some c:=λ_ _ _ _=>rfl;have a3:∀a b c d:D,atI [a,b,c,d] 3=some d:=λ_ _ _ _=>rfl;rw[zZ];have b0:((2:Int) == 0)=false:=rfl;have b1:((2:Int) == 1)=false:=rfl;have b2:((2:Int) == 2)=true:=rfl;have zs:rs.length+(0+1)<=sizeLine:=qv (1:)
   have zf:ps.length+((ps.filter λp=>p.1 == 0).map λp=>((rs.length:Int) - 1+1,p.2)).length<=sizeLine:=qv (by
    rw[List.length_map]
    have:=List.length_filter_le (λp:Pa=>p.1 == 0) ps
    omega)
   rw[List.length_map] at zf;rw[<-adde,List.map_append (l₁:=rs),List.map_cons,List.map_nil,qbi ⟨r0.kd,r0.lands,r0.most+1,r0.days⟩];dsimp only;rw[qbi] at at0;simp? only[qZ,List.length_map,qL,b0,b1,b2,at0,a0,a1,a2,a3,one,four,zs,zf,zp,JU,qeV,List.map_cons,List.map_nil,List.getD_cons_succ,List.getD_cons_zero,cp,two]
 ·refine⟨rs.map k3,ps,λr q=>?_,by rw[List.length_map];omega,by omega,λp q=>by rw[List.length_map];exact hpo p q,λst e hc=>?_,?_⟩
  ·obtain⟨s,hs,rfl⟩:=List.mem_map.mp q;exact qk8 (hr s hs)
  ·have W3:=qk9 (q:=rs.map k3) (λr q=>by
    obtain⟨s,hs,rfl⟩:=List.mem_map.mp q;exact qk8 (hr s hs)) hpo (by omega:ps.length<=18)
   have kk:∀r:Ru,(mkR (k3 r)).kd.isW=(mkR r).kd.isW/\(mkR (k3 r)).lands=(mkR r).lands/\(mkR (k3 r)).days=(mkR r).days/\(mkR (k3 r)).most=(mkR r).most:=λr=>by
    obtain⟨kd,l,m,d⟩:=r
    cases kd<;>exact⟨rfl,rfl,rfl,rfl⟩
   refine qat (λx hx=>?_) λx hx=>?_
   ·obtain⟨j,e1,e2⟩:=qcd hx;rw[List.getElem?_map] at e1;obtain⟨r,q1,q2⟩:=Option.map_eq_some_iff.mp e1;have m2:=y4 (ps:=ps) (rs:=(rs.map k3).map mkR) (j:=j) (r:=mkR (k3 r)) (by rw[List.getElem?_map,List.getElem?_map,q1];rfl);refine⟨_,m2,?_⟩;have ex:x=(mkR r,yx (j:Int) ps):=by rw[q2,<-e2]
    rw[ex] at hx ⊢;obtain⟨a,b,c,d⟩:=kk r;exact QK hc (W3 _ m2) (W _ hx) a.symm b.symm c.symm (by rw[d];exact Int.le_refl _)
   ·obtain⟨j,e1,e2⟩:=qcd hx;rw[List.getElem?_map,List.getElem?_map] at e1;obtain⟨r',q1,q2⟩:=Option.map_eq_some_iff.mp e1;obtain⟨r,q3,rfl⟩:=Option.map_eq_some_iff.mp q1;have m2:=y4 (ps:=ps) (rs:=rs.map mkR) (j:=j) (r:=mkR r) (by rw[List.getElem?_map,q3];rfl);refine⟨_,m2,?_⟩;have ex:x=(mkR (k3 r),yx (j:Int) ps):=by rw[q2,<-e2]
    rw[ex] at hx ⊢;obtain⟨a,b,c,d⟩:=kk r;exact QK hc (W _ m2) (W3 _ hx) a b c (by rw[d];exact Int.le_refl _)
  ·have cp:=qea (pg.kk k) rs [] .no (by simp;omega);rw[List.nil_append] at cp;rw[zZ];have b0:((3:Int) == 0)=false:=rfl;have b1:((3:Int) == 1)=false:=rfl;have b2:((3:Int) == 2)=false:=rfl;simp? only[qZ,List.length_map,qL,b0,b1,b2,zr,JU,List.map_nil,cp,two]
end
end K72
namespace K72
open PySem DE DG FZ FA Dy
open L2 hiding St
theorem ZK(ns:List Int)(zs:List Str)(hz:NamesOk zs):∀(n i:Nat) (acc:List Ru) (s0:Sl),acc.length+n < 1000->
  ∃rs:List Ru,(∀r∈rs,SpOk r/\r.most<=24)/\rs.length=n/\zw (pg.kk 19) qap (.one 0) .yes (rgF (i:Int) n) [s0,.scr (ns.map D.int),.bor (zs.map D.str)] (acc.map spD)=.ok ((acc++rs).map spD)
 |0,i,acc,s0,_=>⟨[],λ_ h=>(by cases h),rfl,by simp[rgF,qD]⟩
 | n+1,i,acc,s0,hl=>by
  have c1:=qkV (pg:=pg) 18 ns (1+i)
  have c1:clK pg 19 "_law_at" [.scr (ns.map D.int),.val (.int (1+(i:Int)))]=.ok (.val (.int (qY ns (1+i)))):=by rw[show(1+(i:Int))=((1+i:Nat):Int) by omega];exact c1
  obtain⟨r,h1,⟨_,_,_,h2⟩,e⟩:=FY.qii (pg:=pg) 18 false (qY ns (1+i)) zs hz;have e:clK pg 19 "_law_spec" [.val (.int (qY ns (1+i))),.bor (zs.map D.str),.val (.bl false)]=.ok (.val (spD r)):=e;obtain⟨rs,g1,g2,ih⟩:=ZK ns zs hz n (i+1) (acc++[r]) (.val (.int (i:Int))) (by simp;omega);refine⟨r::rs,λx hx=>?_,by simp[g2],?_⟩
  ·rcases List.mem_cons.mp hx with rfl | hx
   ·exact⟨h1,(h2 rfl).1⟩
   ·exact g1 x hx
  ·have hs:(acc.map spD).length < sizeLine:=by rw[List.length_map];exact qu (1:)
   rw[show((i+1:Nat):Int)=(i:Int)+1 by omega] at ih;rw[show acc++r::rs=acc++[r]++rs by simp];rw[List.map_append (l₁:=acc),List.map_cons,List.map_nil] at ih;refine(qk _).symm.trans ?_;rw[rgF];simp? only[qdX,c1,e,hs,ih]
theorem Yt(e:E)(ue:UE e QJ):∀(rs acc:List Ru) (s0:Sl),acc.length+rs.length < 1000->(∀r∈rs,SpOk r)->zw (pg.kk 19) e (.one 0) .yes (rs.map spD) [s0] (acc.map ruI)=.ok ((acc++rs.map mkR).map ruI)
 |[],acc,s0,_,_=>by simp[qD]
 | r::rs,acc,s0,hl,h=>by
  rw[List.length_cons] at hl;have e1:clK pg 19 "_law_rule" [.val (spD r)]=.ok (.val (ruI (mkR r))):=FZ.qic (pg:=pg) 6 r (h r (by simp));have ih:=Yt e ue rs (acc++[mkR r]) (.val (spD r)) (by simp;omega) λx hx=>h x (by simp[hx]);have hs:(acc.map ruI).length < sizeLine:=by rw[List.length_map];exact qu (1:)
  simp only[List.map_append,List.map_cons,List.map_nil,List.append_assoc,List.cons_append,List.nil_append] at ih ⊢;refine(qk _).symm.trans ?_;simp? only[ue,e1,hs,ih]
noncomputable def qlD(z y:Str):List D:=[.lst [],.lst [.str z,.str y,.str "z"],.lst [.str z,.str z],.tup [.str z,.str y],.non,.str z,.lst [.str "abcdefghi"],.lst [.str z,.non],.lst [.str "A"],.lst [.int 7],.lst [.str ""]]
theorem qfM{z y:Str}(hz:NameOk z):∀x∈qlD z y,qmM 2 x:=by
 have one:∀u∈[z],NameOk u:=λu hu=>by rw[List.mem_singleton.mp hu];exact hz
 have no:∀u∈([]:List Str),NameOk u:=λu hu=>by cases hu
 intro x hx;simp only[qlD,List.mem_cons,List.not_mem_nil,or_false] at hx;rcases hx with rfl | rfl | rfl | rfl | rfl | rfl | rfl | rfl | rfl | rfl | rfl
 ·exact .inr ⟨_,rfl,by decide,.inl rfl⟩
 ·exact .inr ⟨_,rfl,by show 3 < 1000;decide,.inr (.inl (by show(2:Int) < 3;decide))⟩
 ·exact .inr ⟨_,rfl,by show 2 < 1000;decide,.inr (.inr ⟨[z],.str z,[],rfl,one,by simp,.inr ⟨z,by simp,rfl,hz⟩⟩)⟩
 ·exact .inl rfl
 ·exact .inl rfl
 ·exact .inl rfl
 ·exact .inr ⟨_,rfl,by show 1 < 1000;decide,.inr (.inr ⟨[],.str "abcdefghi",[],rfl,no,by simp,.inl (.inr (.inr (.inr ⟨_,rfl,by decide,by decide⟩)))⟩)⟩
 ·exact .inr ⟨_,rfl,by show 2 < 1000;decide,.inr (.inr ⟨[z],.non,[],rfl,one,by simp,.inl (.inl rfl)⟩)⟩
 ·exact .inr ⟨_,rfl,by show 1 < 1000;decide,.inr (.inr ⟨[],.str "A",[],rfl,no,by simp,.inl (.inr (.inl ⟨"",rfl,by decide,λc hc=>by cases hc⟩))⟩)⟩
 ·exact .inr ⟨_,rfl,by show 1 < 1000;decide,.inr (.inr ⟨[],.int 7,[],rfl,no,by simp,.inl (.inl rfl)⟩)⟩
 ·exact .inr ⟨_,rfl,by show 1 < 1000;decide,.inr (.inr ⟨[],.str "",[],rfl,no,by simp,.inl (.inr (.inr (.inl rfl)))⟩)⟩
theorem at_mem{l:List D}{i:Int}(h0:0<=i)(h1:i < l.length):∃d∈l,atI l i=some d:=by
 obtain⟨n,rfl⟩:=Int.eq_ofNat_of_zero_le h0;have hn:n < l.length:=by omega
 exact⟨l[n],List.getElem_mem hn,qiA (List.getElem?_eq_getElem hn)⟩
theorem qla{zs:List Str}(h:zs.length=2):∃z y,zs=[z,y]:=by
 match zs,h with
 |[z,y],_=>exact⟨z,y,rfl⟩
theorem qfN{zs:List Str}(h:NamesOk zs):zs.Nodup:=by rw[List.nodup_iff_pairwise_ne,List.pairwise_iff_getElem];intro i j hi hj hij q;exact absurd (h.once i j zs[i] (List.getElem?_eq_getElem hi) (by rw[q];exact List.getElem?_eq_getElem hj)) (1:)
theorem qfO(ns:List Int)(hl:ns.length<=63):clK pg 20 "law" [.scr (ns.map D.int)]=.ok (.val (.bl true)):=by
 have cell:∀i:Nat,clK pg 19 "_law_at" [.scr (ns.map D.int),.val (.int (i:Int))]=.ok (.val (.int (qY ns i))):=λi=>qkV (pg:=pg) 18 ns i;have c0:clK pg 19 "_law_at" [.scr (ns.map D.int),.val (.int 0)]=.ok (.val (.int (qY ns 0))):=cell 0;have c7:clK pg 19 "_law_at" [.scr (ns.map D.int),.val (.int 7)]=.ok (.val (.int (qY ns 7))):=cell 7;have c8:clK pg 19 "_law_at" [.scr (ns.map D.int),.val (.int 8)]=.ok (.val (.int (qY ns 8))):=cell 8;have c9:clK pg 19 "_law_at" [.scr (ns.map D.int),.val (.int 9)]=.ok (.val (.int (qY ns 9))):=cell 9;generalize qY ns 0=n0 at c0;generalize qY ns 7=n7 at c7;generalize qY ns 8=n8 at c8;generalize qY ns 9=n9 at c9;obtain⟨cs,e1,l1⟩:=qh7 ns 4 7;have e1:qeo (ns.map D.int) (some 4) (some 7)=cs.map D.int:=e1;obtain⟨zs,ez,lz,hz,_⟩:=qfF (pg:=pg) 17 n0 2 (1:);have ez:clK pg 19 "_law_names" [.val (.int n0),.val (.int 2)]=.ok (.tmp (zs.map D.str)):=ez;have nd:=qfN hz;have m0:0<=n0 % 2:=Int.emod_nonneg _ (2:);have m1:n0 % 2 < 2:=Int.emod_lt_of_pos _ (2:);obtain⟨m,em⟩:∃m:Nat,2+n0 % 2=(m:Int):=⟨(2+n0 % 2).toNat,by omega⟩;obtain⟨rs,r1,r2,er⟩:=ZK ns zs hz m 0 [] .no (by simp;omega);rw[List.map_nil,List.nil_append,show((0:Nat):Int)=0 from rfl] at er;have rok:∀r∈rs,SpOk r:=λr hr=>(r1 r hr).1;have rg:zG 0 (m:Int)=rgF 0 m:=by rw[JX];congr 1
 have sm:qX (m:Int)=true:=Zz (1:) (1:);have zm:(rgF 0 m).length<=sizeLine:=qv (by rw[qdF];omega);obtain⟨ps,ep,p1,p2⟩:=qdR (pg:=pg) 18 false (rs.length:Int) 4 0 (1:) (2:) (2:) (2:) cs (1:);have ep:clK pg 19 "_law_papers" [.val (.lst (cs.map D.int)),.val (.int (rs.length:Int)),.val (.int 0),.val (.int 4)]=.ok (.tmp (ps.map paD)):=ep
 have pok:∀p∈ps,PpR rs.length p:=λp hp=>by have z:=(p2 p hp).1;exact⟨z.o0,z.o1,z.a0,z.ab,z.b1⟩
 obtain⟨rs2,ps2,q1,q2,q3,q4,q5,ea⟩:=qfL rok (λr hr=>(r1 r hr).2) (1:) (1:) (1:) pok 18 (n7 % 4) ⟨Int.emod_nonneg _ (2:),Int.emod_lt_of_pos _ (2:)⟩;have ea:clK pg 19 "_law_alike" [.val (.lst (rs.map spD)),.val (.lst (ps.map paD)),.val (.int (n7 % 4))]=_:=ea
 have bk:∀(q:List Ru) (p:List Pa),q.length<=8->p.length<=12->(∀x∈p,PpR q.length x)->pg.nw 19 "Book" [.val (.lst ((q.map mkR).map ruI)),.val (.lst (p.map paD))]=.ok (.val (bkI (q.map mkR) p)):=λq p h1 h2 h3=>qh8 (pg:=pg) 7 false false (q.map mkR) p (by rw[List.length_map];exact h1) h2 λx hx=>by
  have z:=h3 x hx
  have:=z.o0;have:=z.o1;have:=z.a0;have:=z.ab;have:=z.b1
  rw[List.length_map];omega
 have bk1:=bk rs ps (1:) (1:) pok;have bk2:=bk rs2 ps2 (1:) (1:) q4;have w1:BkW (rs.map mkR) ps:=⟨qk9 rok pok (1:),by omega⟩;have w2:BkW (rs2.map mkR) ps2:=⟨qk9 q1 q4 (1:),by omega⟩
 have same:∀r,qfK r->qco (rs.map mkR) ps r=qco (rs2.map mkR) ps2 r:=λr hr=>by
  have z:=q5 (stR 0 r) (-1) (qby r 0 (-1) (2:) (by have:=hr.1;omega) hr.2).w;unfold qco
  cases a:zu (rs.map mkR) ps (stR 0 r) with
  |none=>rw[z.mp a]
  |some x=>
   cases b:zu (rs2.map mkR) ps2 (stR 0 r) with
   |none=>rw[z.mpr b] at a;cases a
   |some y=>rfl
 have rc1:=Yt qaq qdY rs [] .no (by simp;omega) rok;have rc2:=Yt qar qdZ rs2 [] .no (by simp;omega) q1;rw[List.map_nil,List.nil_append] at rc1 rc2
 obtain⟨n,hn1,hn4,an⟩:∃n:Nat,1<=n/\n<=4/\atI [D.int 1,.int 2,.int 3,.int 4] (n8 % 4)=some (.int (n:Int)):=by
  have a:=Int.emod_nonneg n8 (show(4:Int)≠0 by decide);have b:=Int.emod_lt_of_pos n8 (show(0:Int) < 4 by decide);rcases (by omega:n8 % 4=0\/n8 % 4=1\/n8 % 4=2\/n8 % 4=3) with e | e | e | e<;>rw[e]
  ·exact⟨1,by decide,by decide,rfl⟩
  ·exact⟨2,by decide,by decide,rfl⟩
  ·exact⟨3,by decide,by decide,rfl⟩
  ·exact⟨4,by decide,by decide,rfl⟩
 have pa1:clK pg 19 "parted" [.val (bkI (rs.map mkR) ps),.val (bkI (rs2.map mkR) ps2),.bor (zs.map D.str),.val (.int (n:Int))]=.ok (.val .non):=ZJ w1 w2 same 10 true zs hz.ok nd (1:) (1:) n hn4
 have pa2:clK pg 19 "parted" [.val (bkI (rs2.map mkR) ps2),.val (bkI (rs.map mkR) ps),.val (.lst (zs.map D.str).reverse),.val (.int (n:Int))]=.ok (.val .non):=by rw[qaA];exact ZJ w2 w1 (λr hr=>(same r hr).symm) 10 false zs.reverse (λz q=>hz.ok z (List.mem_reverse.mp q)) (by rw[List.nodup_iff_pairwise_ne,List.pairwise_reverse];exact(List.nodup_iff_pairwise_ne.mp nd).imp λh=>h.symm) (by rw[List.length_reverse];omega) (by rw[List.length_reverse];omega) n hn4
 obtain⟨z,y,hzy⟩:=qla lz;have nz:NameOk z:=hz.ok z (by rw[hzy];simp);obtain⟨wb,hwb,awb⟩:=at_mem (l:=qlD z y) (i:=n9 % 11) (Int.emod_nonneg _ (2:)) (Int.emod_lt_of_pos _ (2:));have rf:clK pg 19 "_law_refused" [.val (bkI (rs.map mkR) ps),.val (bkI (rs2.map mkR) ps2),.val wb]=.ok (.val (.bl true)):=qce 9 _ _ wb (qfM nz wb hwb);unfold qlD at awb;subst hzy;simp only[List.map_cons,List.map_nil] at ez er pa1 pa2;have a0:∀x y:D,atI [x,y] 0=some x:=λ_ _=>rfl;have a1:∀x y:D,atI [x,y] 1=some y:=λ_ _=>rfl;have ct:qeo [D.str z,D.str y] none (some 1)=[.str z]:=rfl;have mu:Zd .Mult (.tmp [.str z]) (.val (.int 2))=.ok (.tmp [.str z,.str z]):=by rfl
 have z0:(0:Nat)<=sizeLine:=by decide+kernel
 have z1:0+1<=sizeLine:=by decide+kernel
 have z2:0+1+1<=sizeLine:=by decide+kernel
 have z3:0+1+1+(0+1)<=sizeLine:=by decide+kernel
 have z4:0+1+1+1+1<=sizeLine:=by decide+kernel
 have z5:0+1+1+1<=sizeLine:=by decide+kernel
 have z8:0+1+1+1+1+1+1+1+1<=sizeLine:=by decide+kernel
 have y1:0+1+1+1+1+1+1+1+1+(0+1+1+1)<=sizeLine:=by decide+kernel
 have w11:11<=sizeLine:=by decide+kernel
 have zr1:rs.length<=sizeLine:=qv (1:);have zr2:rs2.length<=sizeLine:=qv (1:);generalize bkI (rs.map mkR) ps=B1 at *;generalize bkI (rs2.map mkR) ps2=B2 at *;rw[show(20:Nat)=19+1 from rfl,qmL];simp? only[qk5,c0,c7,c8,c9,ez,em,rg,sm,zm,JU,qeV,List.map_cons,List.map_nil,List.getD_cons_succ,List.getD_cons_zero,er,e1,List.length_map,ep,ea,a0,a1,zr1,zr2,rc1,rc2,bk1,bk2,z0,z1,z2,z3,z4,z5,z8,y1,w11,an,pa1,pa2,ct,mu,awb,rf]
end K72
namespace DE
open PySem PySem.Spec PyProof.Rows L2
def yB(G G' H:Hp):Prop:=∀a o,G' a=some o->(∃o',G a=some o')\/H a=none
def But(p:Addr)(H H':Hp):Prop:=∀a o,a≠p->H a=some o->H' a=some o
noncomputable def qcf(κ:KC)(K:Frag)(ok:Str->Bool)(go:List Ar->Option (List (Str×D))):Sp:=λvs H Q _=>∃(G:Hp) (c:Str) (C p dx:Addr) (us:List V) (args:List Ar) (fs:List (Str×D)),vs=.ref p::us/\ok c=true/\κ c=some C/\
 H p=some (.ins C dx [])/\G p=none/\qp G H/\y9 κ K G H args us/\go args=some fs/\
 ∀G' H' xs,qp G G'->qp G' H'->G' p=none->But p H H'->yB G G' H->H' p=some (.ins C dx ((fs.map (·.1)).zip xs))->xs.length=fs.length->qo κ G' (fs.map (·.2)) xs->Q .non H'
section
variable{κ:KC}{K:Frag}{G H G' H':Hp}
theorem Y5{cl:Str->List Ar->R Rv}{f:Str}{args:List Ar}{vs:List V}{r:Rv}{Q:VK}{E:XK}(sub:qp G H)(ha:y9 κ K G H args vs)(e:cl f args=.ok r)
  (h:∀v G' H',qp H H'->qp G G'->qp G' H'->yB G G' H->ReR κ G' H' H r v->Q v H'):spF κ K cl f vs H Q E:=⟨G,args,sub,ha,by rw[e];exact h⟩
theorem ArR.low{a:Ar}{v:V}(h:ArR κ K G H a v)(gs:qp G G')(hs:∀b o,H b=some o->(∀C dx fs,o≠.ins C dx fs)->H' b=some o):(∀l,a≠.scr l)->ArR κ K G' H' a v:=λhn=>by
 cases a with
 |val d=>exact Rep.same gs h
 |bor l=>obtain⟨b,xs,e,h1,h2⟩:=h;exact⟨b,xs,e,hs _ _ h1 (by intros;intro z;cases z),h2.same gs⟩
 |scr l=>exact absurd rfl (hn l)
theorem QM{nw:Str->List Ar->R Rv}{f c:Str}{C:Addr}{ok:Str->Bool}{go:List Ar->Option (List (Str×D))}(hC:κ c=some C)(hok:ok c=true)
  (hgo:∀args r,nw f args=.ok r->(∀a∈args,∀l,a≠.scr l)/\∃fs,go args=some fs/\r=.val (.ins c (fs.map (·.1)) (fs.map (·.2)))) :
  ∀vs H Q,spF κ K nw f vs H Q E0->∀x dx,H x=none->H dx=none->dx≠x->qcf κ K ok go (.ref x::vs) (upd (upd H dx (.own x)) x (.ins C dx [])) (λv H2=>v=.non/\Q (.ref x) H2) E0:=by
 rintro vs H Q ⟨G,args,sub,ha,hw⟩ x dx hx hdx ne
 cases e:nw f args with
 |no=>rw[e] at hw;exact hw.elim
 |exc c l=>rw[e] at hw;exact hw.elim
 |ok r=>
  rw[e] at hw;obtain⟨hs,fs,hg,rfl⟩:=hgo args r e;have gx:G x=none:=qp.none sub hx;have gd:G dx=none:=qp.none sub hdx
  have up:qp H (upd (upd H dx (.own x)) x (.ins C dx [])):=λb o hb=>by
   have nb:b≠x:=λz=>by rw[z,hx] at hb;cases hb
   have nd:b≠dx:=λz=>by rw[z,hdx] at hb;cases hb
   rw[qe nb,qe nd];exact hb
  have ha':∀{args:List Ar} {vs:List V},(∀a∈args,∀l,a≠.scr l)->y9 κ K G H args vs->y9 κ K G (upd (upd H dx (.own x)) x (.ins C dx [])) args vs:=by
   intro args
   induction args with
   |nil=>intro vs _ h;simp only[y9] at h ⊢;exact h
   |cons a l ih=>intro vs hn h;simp only[y9] at h ⊢;obtain⟨v,r,e,h1,h2⟩:=h;exact⟨v,r,e,h1.low (λ_ _ z=>z) (λb o hb _=>up b o hb) (hn a (List.mem_cons_self ..)),ih (λb hb=>hn b (List.mem_cons_of_mem _ hb)) h2⟩
  refine⟨G,c,C,x,dx,vs,args,fs,rfl,hok,hC,qg,gx,λb o hb=>up b o (sub b o hb),ha' hs ha,hg,λG' H' xs gs sub' gx' but fr hp hl rp=>⟨rfl,?_⟩⟩;refine hw (.ref x) (upd G' x (.ins C dx ((fs.map (·.1)).zip xs))) H' (λb o hb=>?_) (λb o hb=>?_) (λb o hb=>?_) (λb o hb=>?_) ?_
  ·exact but b o (λz=>by rw[z,hx] at hb;cases hb) (up b o hb)
  ·exact qp.upd gx' b o (gs b o hb)
  ·by_cases z:b=x
   ·subst z;rw[qg] at hb;cases hb;exact hp
   ·rw[qe z] at hb;exact sub' b o hb
  ·by_cases z:b=x
   ·subst z;exact .inr hx
   ·rw[qe z] at hb;rcases fr b o hb with q | q
    ·exact .inl q
    ·refine .inr ?_
     cases w:H b with
     |none=>rfl
     | some o'=>rw[up b o' w] at q;cases q
  ·simp only[ReR,Rep];exact⟨x,dx,C,xs,hC,rfl,qg,by rw[hl,List.length_map],rp.same (qp.upd gx')⟩
end
end DE
namespace DG
open PySem PySem.Spec PyProof.Rows L2 DE
theorem zB{G G' H:Hp}{p:Addr}{o:L2.HO}(fr:yB G G' H)(g:G p=none)(h:H p=some o):G' p=none:=by
 cases e:G' p with
 |none=>rfl
 | some o'=>
  rcases fr p o' e with ⟨o'',z⟩ | z
  ·rw[g] at z;cases z
  ·rw[h] at z;cases z
theorem yB.trans{G G1 G2 H H1:Hp}(a:yB G G1 H)(s:qp H H1)(b:yB G1 G2 H1):yB G G2 H:=λx o h=>by
 rcases b x o h with ⟨o',z⟩ | z
 ·exact a x o' z
 ·exact .inr (qp.none s z)
theorem yB.transB{G G1 G2 H H1:Hp}{p:Addr}{o:L2.HO}(a:yB G G1 H)(s:But p H H1)(hp:H1 p=some o)(b:yB G1 G2 H1):yB G G2 H:=λx o h=>by
 rcases b x o h with ⟨o',z⟩ | z
 ·exact a x o' z
 ·refine .inr ?_;have nx:x≠p:=λq=>by rw[q,hp] at z;cases z
  cases w:H x with
  |none=>rfl
  | some o'=>rw[s x o' nx w] at z;cases z
def aA(b:Bool)(l:List D):Ar:=match b with
 |true=>.bor l
 |false=>.val (.lst l)
theorem ZL{a:Ar}{l:List D}(e:arL a=some l):∃b,a=aA b l:=by
 unfold arL at e
 split at e
 ·cases e;exact⟨false,rfl⟩
 ·cases e;exact⟨true,rfl⟩
 ·cases e
theorem qbz{a:Ar}{n:Int}(e:arI a=some n):a=.val (.int n):=by
 unfold arI at e
 split at e
 ·cases e;rfl
 ·cases e
theorem qaB{κ:KC}{K:Frag}{G H:Hp}{b:Bool}{l:List D}{v:V}(sub:qp G H)(h:ArR κ K G H (aA b l) v):∃p xs,v=.ref p/\H p=some (.lst xs)/\qo κ G l xs:=by
 cases b with
 |false=>simp only[aA,ArR,Rep] at h;obtain⟨a,xs,e,h1,h2⟩:=h;exact⟨a,xs,e,sub _ _ h1,h2⟩
 |true=>exact h
theorem qlb{κ:KC}{K:Frag}{G H G' H':Hp}{b:Bool}{l:List D}{v:V}(h:ArR κ K G H (aA b l) v)(gs:qp G G')(hs:qp H H'):ArR κ K G' H' (aA b l) v:=h.low gs (λb o e _=>hs b o e) (λl'=>by cases b<;>(intro z;cases z))
theorem ZM{args:List Ar}{fs:List (Str×D)}(h:qa6 args=some fs):∃b l m,args=[aA b l,.val (.int m)]/\qB l=true/\btw m 0 1000000000=true/\fs=([("lands",.tup l),("most",.int m)]:List (Str×D)):=by
 unfold qa6 at h
 split at h
 ·split at h
  ·rename_i e1 e2
   split at h
   ·rename_i hc;cases h;rw[Bool.and_eq_true] at hc;obtain⟨b,rfl⟩:=ZL e1;obtain rfl:=qbz e2;exact⟨b,_,_,rfl,hc.1,hc.2,rfl⟩
   ·cases h
  ·cases h
 ·cases h
theorem jw{x:Str}{args:List Ar}{fs:List (Str×D)}(h:jS x args=some fs):∃b l m s,args=[aA b l,.val (.int m),.val (.int s)]/\qB l=true/\btw m 0 1000000000=true/\btw s 1 1000000000=true/\fs=([("lands",.tup l),("most",.int m),(x,.int s)]:List (Str×D)):=by
 unfold jS at h
 split at h
 ·split at h
  ·rename_i e1 e2 e3
   split at h
   ·rename_i hc;cases h;rw[Bool.and_eq_true,Bool.and_eq_true] at hc;obtain⟨b,rfl⟩:=ZL e1;obtain rfl:=qbz e2;obtain rfl:=qbz e3;exact⟨b,_,_,_,rfl,hc.1.1,hc.1.2,hc.2,rfl⟩
   ·cases h
  ·cases h
 ·cases h
theorem QN{args:List Ar}{fs:List (Str×D)}(h:qb4 args=some fs):∃b l m,args=[aA b l,.val (.int m)]/\qB l=true/\btw m 0 1000000000=true/\fs=([("lands",.tup l),("most",.int m),("leave",.int 1)]:List (Str×D)):=by
 unfold qb4 at h
 split at h
 ·split at h
  ·rename_i e1 e2
   split at h
   ·rename_i hc;cases h;rw[Bool.and_eq_true] at hc;obtain⟨b,rfl⟩:=ZL e1;obtain rfl:=qbz e2;exact⟨b,_,_,rfl,hc.1,hc.2,rfl⟩
   ·cases h
  ·cases h
 ·cases h
theorem Yu{args:List Ar}{fs:List (Str×D)}(h:YT args=some fs):∃b c l ps,args=[aA b l,aA c ps]/\(decide (l.length<=8)&&l.all Zr)=true/\(decide (ps.length<=12)&&ps.all (yi l.length))=true/\fs=([("kept_rules",.lst l),("kept_papers",.lst ps)]:List (Str×D)):=by
 unfold YT at h
 split at h
 ·split at h
  ·rename_i e1 e2
   split at h
   ·rename_i hc;cases h;rw[Bool.and_eq_true] at hc;obtain⟨b,rfl⟩:=ZL e1;obtain⟨c,rfl⟩:=ZL e2;exact⟨b,c,_,_,rfl,hc.1,hc.2,rfl⟩
   ·cases h
  ·cases h
 ·cases h
theorem ZO{b:Bool}{l:List D}{m:Int}(ol:qB l=true)(om:btw m 0 1000000000=true):qa6 [aA b l,.val (.int m)]=some ([("lands",.tup l),("most",.int m)]:List (Str×D)):=by cases b<;>(show(if (qB l&&btw m 0 1000000000)=true then _ else none)=_;rw[if_pos (by rw[ol,om];rfl)])
theorem qeb{x:Str}{b:Bool}{l:List D}{m s:Int}(ol:qB l=true)(om:btw m 0 1000000000=true)(os:btw s 1 1000000000=true):jS x [aA b l,.val (.int m),.val (.int s)]=some ([("lands",.tup l),("most",.int m),(x,.int s)]:List (Str×D)):=by cases b<;>(show(if (qB l&&btw m 0 1000000000&&btw s 1 1000000000)=true then _ else none)=_;rw[if_pos (by rw[ol,om,os];rfl)])
structure Tx(κ:KC)(K:Frag)(mg:PR):Prop where
 tup:mg "tuple" = none
 lst:mg "list" = none
 len:mg "len" = none
 gG:∃t,mg "GREATEST" = some (.int 1000000000 t)
 cls:∀c C,κ c=some C->Cls K C
 nA:∀c x C,(pcs {}).fld c x=true->κ c=some C->zD K C x
structure Ck(pg:Pg)(j:Nat):Prop where
 lands:∀b l,qB l=true->clK pg j "are_lands" [aA b l]=.ok (.val (.bl true))
 rules:∀b l,(decide (l.length<=8)&&l.all Zr)=true->clK pg j "are_rules" [aA b l]=.ok (.val (.bl true))
 papers:∀b (ps:List D) (n:Int),(decide (ps.length<=12)&&ps.all (yi n))=true->clK pg j "check_papers" [aA b ps,.val (.int n)]=.ok (.val .non)
 btw:∀n a b,btw n a b=true->clK pg j "is_between" [.val (.int n),.val (.int a),.val (.int b)]=.ok (.val (.bl true))
theorem qbA{c:Str}(h:rk c=true):(pcs {}).fld c "lands" = true/\(pcs {}).fld c "most" = true:=by
 constructor
 ·show((rk c&&(true||_||_||_))||_)=true;rw[h];rfl
 ·show((rk c&&(false||true||_||_))||_)=true;rw[h];rfl
def okW(c:Str):Bool:=c == "Within"
def okS(c:Str):Bool:=c == "Since" || c == "InRow"
def okI(c:Str):Bool:=c == "InRow"
def okB(c:Str):Bool:=c == "Book"
theorem qlc{c:Str}(h:okW c=true):rk c=true:=by unfold okW at h;unfold rk;rw[h];rfl
theorem qld{c:Str}(h:okS c=true):rk c=true:=by unfold okS at h;unfold rk;rw[Bool.or_assoc,h,Bool.or_true]
theorem qik{c:Str}(h:okI c=true):okS c=true:=by unfold okI at h;unfold okS;rw[h,Bool.or_true]
theorem qil{c:Str}(h:okW c=true):(pcs {}).fld c "span" = true:=by
 have e:c = "Within":=by simpa [okW] using h
 subst e;decide
theorem qfP{c:Str}(h:okS c=true):(pcs {}).fld c "leave" = true:=by
 have e:c = "Since"\/c = "InRow":=by simpa [okS] using h
 rcases e with e | e<;>subst e<;>decide
theorem qec{c:Str}(h:okB c=true):(pcs {}).fld c "kept_rules" = true/\(pcs {}).fld c "kept_papers" = true:=by
 have e:c = "Book":=by simpa [okB] using h
 subst e;decide
end DG
namespace K72
open PySem PySem.Spec PyProof.Rows L2 DE DG
section
variable{P:Program}{wd:World}{κ:KC}{K:Frag}{mg:PR}{base:Heap}{j:Nat}{f:Addr}{fd:FuncData}
theorem qim:FnScope ["self","lands","most"] ["self","lands","most"] (qj (mem 30 0)):=⟨rfl,rfl,rfl,by decide+kernel,rfl,by decide+kernel,by decide+kernel⟩
theorem qbB(tx:Tx κ K mg)(F:Fun K "__init__" "Rule.__init__" (mem 30 0) f fd)(at_:qa1 P wd κ K mg base pg j)(ck:Ck pg j):FnOk P wd K mg base CX0 (j+1) f fd ["self","lands","most"] (qcf κ K rk qa6):=by
 obtain⟨fA,dA,FA,mA,kA,bA⟩:=at_.1 "are_lands" (top 29) (by kernel_rfl);obtain⟨fB,dB,FB,mB,kB,bB⟩:=at_.1 "is_between" (top 5) (by kernel_rfl);obtain⟨t1,g1⟩:=tx.gG;refine F.ok qim (λvs H Q E h=>?_) (λcdv A outer s H vs Q E hr h=>?_)
 ·obtain⟨G,c,C,p,dx,us,args,fs,rfl,_,_,_,_,_,ha,hg,_⟩:=h;obtain⟨b,l,m,rfl,_⟩:=ZM hg
  have:=ha.len
  simp at this;simp[<-this]
 ·obtain⟨G,c,C,p,dx,us,args,fs,rfl,hrk,hC,hp,gp,sub,ha,hg,k1⟩:=h;obtain⟨b,l,m,rfl,ol,om,rfl⟩:=ZM hg;simp only[y9] at ha;obtain⟨v1,us1,rfl,r1,v2,us2,rfl,r2,rfl⟩:=ha;simp only[ArR,Rep] at r2;subst r2;obtain⟨a,xs,rfl,hxa,rl⟩:=qaB sub r1
  refine⟨_,qI (Z2 (YG (QQ (jx FA hr (by rfl) mA kA bA .nil jR (qh (pv 1) qw)))) (zC yF) yv)
   (qI (Z2 (YG (QQ (jx FB hr (by rfl) mB kB bB .nil jR (qh (pv 2) (qh YF (qh (yu (v:=.int 1000000000) (by rfl) g1 ⟨_,rfl⟩) qw)))))) (zC yF) yv)
   (qI (YJ (pv 0) (zE yH (by rfl) tx.tup PyProof.Rows.boot_tuple (qh (pv 1) qw)) rfl)
   (zC (YJ (pv 0) (pv 2) rfl)))),?_⟩
  refine⟨_,rfl,Y5 (E:=E0) (G:=G) (args:=[aA b l]) sub ⟨_,_,rfl,r1,rfl⟩ (ck.lands b l ol) λv G1 H1 hs1 gs1 sub1 fr1 rr=>?_⟩;simp only[ReR,Rep] at rr;subst rr;refine⟨_,rfl,?_⟩;refine⟨_,rfl,Y5 (E:=E0) (G:=G1) (args:=[.val (.int m),.val (.int 0),.val (.int 1000000000)]) sub1 ⟨_,_,rfl,by simp only[ArR,Rep],_,_,rfl,by simp only[ArR,Rep],_,_,rfl,by simp only[ArR,Rep],rfl⟩ (ck.btw m 0 1000000000 om) λv G2 H2 hs2 gs2 sub2 fr2 rr=>?_⟩;simp only[ReR,Rep] at rr;subst rr;refine⟨_,rfl,?_⟩;have hp2:H2 p=some (.ins C dx []):=hs2 _ _ (hs1 _ _ hp);have ga2:H2 a=some (.lst xs):=hs2 _ _ (hs1 _ _ hxa);have gp1:G1 p=none:=zB fr1 gp hp;have gp2:G2 p=none:=zB fr2 gp1 (hs1 _ _ hp);refine⟨_,rfl,a,xs,rfl,.inl ⟨SqL.of ga2,λt ht=>?_⟩⟩;have ntp:t≠p:=λz=>by rw[z,hp2] at ht;cases ht
  have gt:G2 t=none:=qp.none sub2 ht;refine⟨_,rfl,p,C,dx,_,rfl,by rw[qe ntp.symm];exact hp2,tx.cls c C hC,tx.nA c _ C (qbA hrk).1 hC,by decide,?_⟩;refine⟨_,rfl,_,rfl,p,C,dx,_,rfl,qg,tx.cls c C hC,tx.nA c _ C (qbA hrk).2 hC,(by show 1 < 1000;decide),?_⟩;refine k1 (upd G2 t (.tup xs)) _ [.ref t,.int m] ?_ ?_ ?_ ?_ ?_ ?_ rfl ?_
  ·exactλb o e=>qp.upd gt b o (gs2 b o (gs1 b o e))
  ·intro b o e
   by_cases z:b=t
   ·subst z;rw[qg] at e;cases e;rw[qe ntp,qe ntp,qg]
   ·rw[qe z] at e;have nb:b≠p:=λq=>by rw[q,gp2] at e;cases e
    rw[qe nb,qe nb,qe z];exact sub2 b o e
  ·rw[qe ntp.symm];exact gp2
  ·intro b o nb e;have e2:=hs2 b o (hs1 b o e);have nt:b≠t:=λq=>by rw[q,ht] at e2;cases e2
   rw[qe nb,qe nb,qe nt];exact e2
  ·intro b o e
   by_cases z:b=t
   ·subst z;exact .inr (qp.none hs1 (qp.none hs2 ht))
   ·rw[qe z] at e;exact(yB.trans fr1 hs1 fr2) b o e
  ·rw[qg];rfl
  ·simp only[List.map_cons,List.map_nil,qo,Rep];exact⟨_,_,rfl,⟨t,xs,rfl,qg,(rl.same gs1 |>.same gs2).same (qp.upd gt)⟩,_,_,rfl,rfl,rfl⟩
theorem qed:FnScope ["self","lands","most","span"] ["self","lands","most","span"] (qj (mem 31 0)):=⟨rfl,rfl,rfl,by decide+kernel,rfl,by decide+kernel,by decide+kernel⟩
theorem qcg{fR cR:Addr}{dR:FuncData}(tx:Tx κ K mg)(F:Fun K "__init__" "Within.__init__" (mem 31 0) f fd)(FR:Fun K "__init__" "Rule.__init__" (mem 30 0) fR dR)(bR:qK K dR ["self","lands","most"] [])(mR:mg "Rule" = some (.ref cR))(cf:ClsFn K cR "__init__" fR)
  (at0:qa1 P wd κ K mg base pg j) (at1:qa1 P wd κ K mg base pg (j+1)) (ck0:Ck pg j) (ck1:Ck pg (j+1)):FnOk P wd K mg base CX0 (j+2) f fd ["self","lands","most","span"] (qcf κ K okW (jS "span")):=by
 obtain⟨fB,dB,FB,mB,kB,bB⟩:=at1.1 "is_between" (top 5) (by kernel_rfl);obtain⟨t1,g1⟩:=tx.gG;refine F.ok qed (λvs H Q E h=>?_) (λcdv A outer s H vs Q E hr h=>?_)
 ·obtain⟨G,c,C,p,dx,us,args,fs,rfl,_,_,_,_,_,ha,hg,_⟩:=h;obtain⟨b,l,m,z,rfl,_⟩:=jw hg
  have:=ha.len
  simp at this;simp[<-this]
 ·obtain⟨G,c,C,p,dx,us,args,fs,rfl,hrk,hC,hp,gp,sub,ha,hg,k1⟩:=h;obtain⟨b,l,m,z,rfl,ol,om,oz,rfl⟩:=jw hg;simp only[y9] at ha;obtain⟨v1,us1,rfl,r1,v2,us2,rfl,r2,v3,us3,rfl,r3,rfl⟩:=ha;simp only[ArR,Rep] at r2 r3;subst r2 r3
  refine⟨_,qI (jP (Qc cf (qbB tx FR at0 ck0) hr (by rfl) mR bR .nil jR (qh (pv 0) (qh (pv 1) (qh (pv 2) qw)))))
   (qI (Z2 (YG (QQ (jx FB hr (by rfl) mB kB bB .nil jR (qh (pv 3) (qh YF (qh (yu (v:=.int 1000000000) (by rfl) g1 ⟨_,rfl⟩) qw)))))) (zC yF) yv)
   (zC (YJ (pv 0) (pv 3) rfl))),?_⟩
  refine⟨_,rfl,_,rfl,_,rfl,G,c,C,p,dx,[v1,.int m],[aA b l,.val (.int m)],_,rfl,qlc hrk,hC,hp,gp,sub,⟨_,_,rfl,r1,_,_,rfl,by simp only[ArR,Rep],rfl⟩,ZO ol om,λG1 H1 xs gs1 sub1 gp1 but1 fr1 hp1 hl1 rp1=>?_⟩;simp only[List.map_cons,List.map_nil,qo] at rp1;obtain⟨x1,w1,rfl,q1,x2,w2,rfl,q2,rfl⟩:=rp1;refine⟨_,rfl,Y5 (E:=E0) (G:=G1) (args:=[.val (.int z),.val (.int 1),.val (.int 1000000000)]) sub1 ⟨_,_,rfl,by simp only[ArR,Rep],_,_,rfl,by simp only[ArR,Rep],_,_,rfl,by simp only[ArR,Rep],rfl⟩ (ck1.btw z 1 1000000000 oz) λv G2 H2 hs2 gs2 sub2 fr2 rr=>?_⟩;simp only[ReR,Rep] at rr;subst rr;refine⟨_,rfl,?_⟩;have hp2:=hs2 _ _ hp1;have gp2:G2 p=none:=zB fr2 gp1 hp1;refine⟨_,rfl,_,rfl,p,C,dx,_,rfl,hp2,tx.cls c C hC,tx.nA c _ C (qil hrk) hC,(by show 2 < 1000;decide),?_⟩;refine k1 G2 _ [x1,x2,.int z] (λb o e=>gs2 b o (gs1 b o e)) (λb o e=>?_) gp2 (λb o nb e=>?_) (λb o e=>?_) ?_ rfl ?_
  ·rw[qe (λq=>by rw[q,gp2] at e;cases e)];exact sub2 b o e
  ·rw[qe nb];exact hs2 b o (but1 b o nb e)
  ·exact(yB.transB fr1 but1 hp1 fr2) b o e
  ·rw[qg];rfl
  ·simp only[List.map_cons,List.map_nil,qo];exact⟨_,_,rfl,q1.same gs2,_,_,rfl,q2.same gs2,_,_,rfl,by simp only[Rep],rfl⟩
theorem qfQ:FnScope ["self","lands","most","leave"] ["self","lands","most","leave"] (qj (mem 32 0)):=⟨rfl,rfl,rfl,by decide+kernel,rfl,by decide+kernel,by decide+kernel⟩
theorem ZQ{fR cR:Addr}{dR:FuncData}(tx:Tx κ K mg)(F:Fun K "__init__" "Since.__init__" (mem 32 0) f fd)(FR:Fun K "__init__" "Rule.__init__" (mem 30 0) fR dR)(bR:qK K dR ["self","lands","most"] [])(mR:mg "Rule" = some (.ref cR))(cf:ClsFn K cR "__init__" fR)
  (at0:qa1 P wd κ K mg base pg j) (at1:qa1 P wd κ K mg base pg (j+1)) (ck0:Ck pg j) (ck1:Ck pg (j+1)):FnOk P wd K mg base CX0 (j+2) f fd ["self","lands","most","leave"] (qcf κ K okS (jS "leave")):=by
 obtain⟨fB,dB,FB,mB,kB,bB⟩:=at1.1 "is_between" (top 5) (by kernel_rfl);obtain⟨t1,g1⟩:=tx.gG;refine F.ok qfQ (λvs H Q E h=>?_) (λcdv A outer s H vs Q E hr h=>?_)
 ·obtain⟨G,c,C,p,dx,us,args,fs,rfl,_,_,_,_,_,ha,hg,_⟩:=h;obtain⟨b,l,m,z,rfl,_⟩:=jw hg
  have:=ha.len
  simp at this;simp[<-this]
 ·obtain⟨G,c,C,p,dx,us,args,fs,rfl,hrk,hC,hp,gp,sub,ha,hg,k1⟩:=h;obtain⟨b,l,m,z,rfl,ol,om,oz,rfl⟩:=jw hg;simp only[y9] at ha;obtain⟨v1,us1,rfl,r1,v2,us2,rfl,r2,v3,us3,rfl,r3,rfl⟩:=ha;simp only[ArR,Rep] at r2 r3;subst r2 r3
  refine⟨_,qI (jP (Qc cf (qbB tx FR at0 ck0) hr (by rfl) mR bR .nil jR (qh (pv 0) (qh (pv 1) (qh (pv 2) qw)))))
   (qI (Z2 (YG (QQ (jx FB hr (by rfl) mB kB bB .nil jR (qh (pv 3) (qh YF (qh (yu (v:=.int 1000000000) (by rfl) g1 ⟨_,rfl⟩) qw)))))) (zC yF) yv)
   (zC (YJ (pv 0) (pv 3) rfl))),?_⟩
  refine⟨_,rfl,_,rfl,_,rfl,G,c,C,p,dx,[v1,.int m],[aA b l,.val (.int m)],_,rfl,qld hrk,hC,hp,gp,sub,⟨_,_,rfl,r1,_,_,rfl,by simp only[ArR,Rep],rfl⟩,ZO ol om,λG1 H1 xs gs1 sub1 gp1 but1 fr1 hp1 hl1 rp1=>?_⟩;simp only[List.map_cons,List.map_nil,qo] at rp1;obtain⟨x1,w1,rfl,q1,x2,w2,rfl,q2,rfl⟩:=rp1;refine⟨_,rfl,Y5 (E:=E0) (G:=G1) (args:=[.val (.int z),.val (.int 1),.val (.int 1000000000)]) sub1 ⟨_,_,rfl,by simp only[ArR,Rep],_,_,rfl,by simp only[ArR,Rep],_,_,rfl,by simp only[ArR,Rep],rfl⟩ (ck1.btw z 1 1000000000 oz) λv G2 H2 hs2 gs2 sub2 fr2 rr=>?_⟩;simp only[ReR,Rep] at rr;subst rr;refine⟨_,rfl,?_⟩;have hp2:=hs2 _ _ hp1;have gp2:G2 p=none:=zB fr2 gp1 hp1;refine⟨_,rfl,_,rfl,p,C,dx,_,rfl,hp2,tx.cls c C hC,tx.nA c _ C (qfP hrk) hC,(by show 2 < 1000;decide),?_⟩;refine k1 G2 _ [x1,x2,.int z] (λb o e=>gs2 b o (gs1 b o e)) (λb o e=>?_) gp2 (λb o nb e=>?_) (λb o e=>?_) ?_ rfl ?_
  ·rw[qe (λq=>by rw[q,gp2] at e;cases e)];exact sub2 b o e
  ·rw[qe nb];exact hs2 b o (but1 b o nb e)
  ·exact(yB.transB fr1 but1 hp1 fr2) b o e
  ·rw[qg];rfl
  ·simp only[List.map_cons,List.map_nil,qo];exact⟨_,_,rfl,q1.same gs2,_,_,rfl,q2.same gs2,_,_,rfl,by simp only[Rep],rfl⟩
theorem qfR:FnScope ["self","lands","most"] ["self","lands","most"] (qj (mem 33 0)):=⟨rfl,rfl,rfl,by decide+kernel,rfl,by decide+kernel,by decide+kernel⟩
theorem qee{fR cR fS cS:Addr}{dR dS:FuncData}(tx:Tx κ K mg)(F:Fun K "__init__" "InRow.__init__" (mem 33 0) f fd)(FS:Fun K "__init__" "Since.__init__" (mem 32 0) fS dS)(bS:qK K dS ["self","lands","most","leave"] [])(mS:mg "Since" = some (.ref cS))(cfS:ClsFn K cS "__init__" fS)
  (FR:Fun K "__init__" "Rule.__init__" (mem 30 0) fR dR) (bR:qK K dR ["self","lands","most"] []) (mR:mg "Rule" = some (.ref cR)) (cf:ClsFn K cR "__init__" fR)
  (at0:qa1 P wd κ K mg base pg j) (at1:qa1 P wd κ K mg base pg (j+1)) (ck0:Ck pg j) (ck1:Ck pg (j+1)):FnOk P wd K mg base CX0 (j+3) f fd ["self","lands","most"] (qcf κ K okI qb4):=by
 refine F.ok qfR (λvs H Q E h=>?_) (λcdv A outer s H vs Q E hr h=>?_)
 ·obtain⟨G,c,C,p,dx,us,args,fs,rfl,_,_,_,_,_,ha,hg,_⟩:=h;obtain⟨b,l,m,rfl,_⟩:=QN hg
  have:=ha.len
  simp at this;simp[<-this]
 ·obtain⟨G,c,C,p,dx,us,args,fs,rfl,hrk,hC,hp,gp,sub,ha,hg,k1⟩:=h;obtain⟨b,l,m,rfl,ol,om,rfl⟩:=QN hg;simp only[y9] at ha;obtain⟨v1,us1,rfl,r1,v2,us2,rfl,r2,rfl⟩:=ha;simp only[ArR,Rep] at r2;subst r2;refine⟨_,zC (jP (Qc cfS (ZQ tx FS FR bR mR cf at0 at1 ck0 ck1) hr (by rfl) mS bS .nil jR (qh (pv 0) (qh (pv 1) (qh (pv 2) (qh YF qw)))))),?_⟩
  exact⟨_,rfl,_,rfl,_,rfl,G,c,C,p,dx,[v1,.int m,.int 1],[aA b l,.val (.int m),.val (.int 1)],_,rfl,qik hrk,hC,hp,gp,sub,⟨_,_,rfl,r1,_,_,rfl,by simp only[ArR,Rep],_,_,rfl,by simp only[ArR,Rep],rfl⟩,
   qeb ol om (2:),λG1 H1 xs gs1 sub1 gp1 but1 fr1 hp1 hl1 rp1=>k1 G1 H1 xs gs1 sub1 gp1 but1 fr1 hp1 hl1 rp1⟩
theorem qin:FnScope ["self","rules","papers"] ["self","rules","papers"] (qj (mem 56 0)):=⟨rfl,rfl,rfl,by decide+kernel,rfl,by decide+kernel,by decide+kernel⟩
theorem qfS(tx:Tx κ K mg)(F:Fun K "__init__" "Book.__init__" (mem 56 0) f fd)(at_:qa1 P wd κ K mg base pg j)(ck:Ck pg j):FnOk P wd K mg base CX0 (j+1) f fd ["self","rules","papers"] (qcf κ K okB YT):=by
 obtain⟨fA,dA,FA,mA,kA,bA⟩:=at_.1 "are_rules" (top 53) (by kernel_rfl);obtain⟨fB,dB,FB,mB,kB,bB⟩:=at_.1 "check_papers" (top 55) (by kernel_rfl);refine F.ok qin (λvs H Q E h=>?_) (λcdv A outer s H vs Q E hr h=>?_)
 ·obtain⟨G,c,C,p,dx,us,args,fs,rfl,_,_,_,_,_,ha,hg,_⟩:=h;obtain⟨b0,c0,l,ps,rfl,_⟩:=Yu hg
  have:=ha.len
  simp at this;simp[<-this]
 ·obtain⟨G,c,C,p,dx,us,args,fs,rfl,hrk,hC,hp,gp,sub,ha,hg,k1⟩:=h;obtain⟨b0,c0,l,ps,rfl,ol,op,rfl⟩:=Yu hg;simp only[y9] at ha;obtain⟨v1,us1,rfl,r1,v2,us2,rfl,r2,rfl⟩:=ha;obtain⟨a,xs,rfl,hxa,rl⟩:=qaB sub r1;obtain⟨b,ys,rfl,hb,rp⟩:=qaB sub r2
  refine⟨_,qI (Z2 (YG (QQ (jx FA hr (by rfl) mA kA bA .nil jR (qh (pv 1) qw)))) (zC yF) yv)
   (qI (jP (jx FB hr (by rfl) mB kB bB .nil jR (qh (pv 2) (qh (qN Jm (by rfl) tx.len PySem.boot_len (qh (pv 1) qw)) qw))))
   (qI (YJ (pv 0) (zE jQ (by rfl) tx.lst PyProof.Rows.boot_list (qh (pv 1) qw)) rfl)
   (zC (YJ (pv 0) (zE jQ (by rfl) tx.lst PyProof.Rows.boot_list (qh (pv 2) qw)) rfl)))),?_⟩
  refine⟨_,rfl,Y5 (E:=E0) (G:=G) (args:=[aA b0 l]) sub ⟨_,_,rfl,r1,rfl⟩ (ck.rules b0 l ol) λv G1 H1 hs1 gs1 sub1 fr1 rr=>?_⟩;simp only[ReR,Rep] at rr;subst rr;refine⟨_,rfl,?_⟩;have ga1:H1 a=some (.lst xs):=hs1 _ _ hxa;refine⟨_,rfl,_,rfl,a,xs,rfl,.inl (SqL.of ga1),?_⟩;refine Y5 (E:=E0) (G:=G1) (args:=[aA c0 ps,.val (.int l.length)]) sub1 ⟨_,_,rfl,qlb r2 gs1 hs1,_,_,rfl,by simp only[ArR,Rep];rw[rl.len],rfl⟩ (ck.papers c0 ps l.length op) λv G2 H2 hs2 gs2 sub2 fr2 rr=>?_;have hp2:H2 p=some (.ins C dx []):=hs2 _ _ (hs1 _ _ hp);have gp1:G1 p=none:=zB fr1 gp hp;have gp2:G2 p=none:=zB fr2 gp1 (hs1 _ _ hp);have ga2:H2 a=some (.lst xs):=hs2 _ _ ga1;have hb2:H2 b=some (.lst ys):=hs2 _ _ (hs1 _ _ hb);refine⟨_,rfl,a,xs,rfl,.inl (SqL.of ga2),λt ht=>?_⟩;have ntp:t≠p:=λz=>by rw[z,hp2] at ht;cases ht
  have gt:G2 t=none:=qp.none sub2 ht;refine⟨_,rfl,p,C,dx,_,rfl,by rw[qe ntp.symm];exact hp2,tx.cls c C hC,tx.nA c _ C (qec hrk).1 hC,by decide,?_⟩;have nbt:b≠t:=λz=>by rw[z,ht] at hb2;cases hb2
  have nbp:b≠p:=λz=>by rw[z,hp2] at hb2;cases hb2
  refine⟨_,rfl,b,ys,rfl,.inl (SqL.of (by rw[qe nbp,qe nbt];exact hb2)),λu hu=>?_⟩;have nup:u≠p:=λz=>by rw[z,qg] at hu;cases hu
  have nut:u≠t:=λz=>by rw[z,qe ntp,qg] at hu;cases hu
  have hu2:H2 u=none:=by rw[qe nup,qe nut] at hu;exact hu
  have gu:G2 u=none:=qp.none sub2 hu2;refine⟨_,rfl,p,C,dx,_,rfl,by rw[qe nup.symm,qg],tx.cls c C hC,tx.nA c _ C (qec hrk).2 hC,(by show 1 < 1000;decide),?_⟩;have gut:upd G2 t (.lst xs) u=none:=by rw[qe nut];exact gu
  refine k1 (upd (upd G2 t (.lst xs)) u (.lst ys)) _ [.ref t,.ref u] ?_ ?_ ?_ ?_ ?_ ?_ rfl ?_
  ·exactλb o e=>qp.upd gut b o (qp.upd gt b o (gs2 b o (gs1 b o e)))
  ·intro q o e
   by_cases z:q=u
   ·subst z;rw[qg] at e;cases e;rw[qe nup,qg]
   ·rw[qe z] at e
    by_cases z2:q=t
    ·subst z2;rw[qg] at e;cases e;rw[qe ntp,qe z,qe ntp,qg]
    ·rw[qe z2] at e;have nq:q≠p:=λw=>by rw[w,gp2] at e;cases e
     rw[qe nq,qe z,qe nq,qe z2];exact sub2 q o e
  ·rw[qe nup.symm,qe ntp.symm];exact gp2
  ·intro q o nq e;have e2:=hs2 q o (hs1 q o e);have n1:q≠t:=λw=>by rw[w,ht] at e2;cases e2
   have n2:q≠u:=λw=>by rw[w,hu2] at e2;cases e2
   rw[qe nq,qe n2,qe nq,qe n1];exact e2
  ·intro q o e
   by_cases z:q=u
   ·subst z;exact .inr (qp.none hs1 (qp.none hs2 hu2))
   ·rw[qe z] at e
    by_cases z2:q=t
    ·subst z2;exact .inr (qp.none hs1 (qp.none hs2 ht))
    ·rw[qe z2] at e;exact(yB.trans fr1 hs1 fr2) q o e
  ·rw[qg];rfl
  ·simp only[List.map_cons,List.map_nil,qo,Rep];exact⟨_,_,rfl,⟨t,xs,rfl,by rw[qe nut.symm];exact qg,((rl.same gs1 |>.same gs2).same (qp.upd gt)).same (qp.upd gut)⟩,_,_,rfl,⟨u,ys,rfl,qg,((rp.same gs1 |>.same gs2).same (qp.upd gt)).same (qp.upd gut)⟩,rfl⟩
end
end K72
namespace HD
open PySem PySem.W
noncomputable def Yv(tb:String->Option Builtin)(p:Program)(w:World)(n₀:Nat)(ann:Option Value):Nat->SharedT->Thread->Option SharedT
 |0,_,_=>none
 | n+1,s,t=>match through t with
  |true=>some s
  |false=>match stepOk n₀ ann t with
   |false=>none
   |true=>match stepT (denote tb) p w s t with
    | some (s',t')=>Yv tb p w n₀ ann n s' t'
    |none=>none
theorem ZU{tb:String->Option Builtin}{p:Program}{w:World}{n₀:Nat}{ann:Option Value}:∀{n:Nat} {s s':SharedT} {t:Thread},Yv tb p w n₀ ann n s t=some s'->topRun tb p w n₀ ann n s.abs t=some s'.abs
 |0,_,_,_,h=>by cases h
 | n+1,s,s',t,h=>by
  unfold Yv at h;unfold topRun
  cases ht:through t with
  |true=>rw[ht] at h;cases h;rfl
  |false=>
   rw[ht] at h
   cases hk:stepOk n₀ ann t with
   |false=>rw[hk] at h;cases h
   |true=>
    rw[hk] at h
    cases hs:stepT (denote tb) p w s t with
    |none=>rw[hs] at h;cases h
    |some r=>obtain⟨s₂,t₂⟩:=r;rw[hs] at h;dsimp only;rw[stepT_spec hs];exact ZU h
def ofL:List Obj->Nat->BT->BT
 |[],_,t=>t
 | o::r,n,t=>ofL r (n+1) (t.ins n o)
noncomputable def qio(P:Params)(os:OsState):SharedT:=⟨ofL (boot_heap P).objs.toList 0 .nil,(boot_heap P).objs.toList.length,(boot_heap P).life,Array.mk [],boot_drawn,boot_toks,os⟩
theorem qef(P:Params)(os:OsState):(qio P os).abs=⟨boot_heap P,Array.mk [],boot_drawn,boot_toks,os⟩:=by kernel_rfl
noncomputable def qip{α:Type}(p q:Program)(loose:List Str)(Xt:Shared->Bool)(Yf:Shared->α)(g0:Bool)(Hv:Heap)(s:Shared):=
 (staticsOk (importedModules p.main.body) Hv s.heap&&namesBound p s.heap&&gensDone s&&laidKept Hv s.heap,openSeen q loose (importedModules p.main.body) Xt g0 s,Yf s)
theorem qiq{p q:Program}{loose:List Str}{Xt:Shared->Bool}{α:Type}{Yf:Shared->α}{Ya:World->α}{N:Nat}{g0:Bool}{m₀:Nat}{ann:Option Value}
  (open_:∀w:World,(fencedOpening treeTable p w N).map (λs=>(s.heap,s.gens,s.drawn,s.toks))=some (boot_heap w.params,Array.mk [],boot_drawn,boot_toks))
  (size:∀w:World,((boot_heap w.params).isNs mainGlobals&&(Array.mk []:Array GenState).size == 0,(boot_heap w.params).objs.size,(boot_heap w.params).nsMap mainGlobals "__annotations__")=(true,m₀,ann))
  (h:∀w os,(Yv treeTable p w m₀ ann N (qio w.params os) (topStub p)).map (λs=>qip p q loose Xt Yf g0 (boot_heap w.params) s.abs)=some (true,openGood q loose,Ya w)):LeftO p q loose Xt Yf Ya N g0:=λw=>by
 obtain⟨⟨h0,gs,d,k,os⟩,e,e'⟩:=Option.map_eq_some_iff.mp (open_ w);obtain⟨rfl,rfl,rfl,rfl⟩:h0=boot_heap w.params/\gs=Array.mk []/\d=boot_drawn/\k=boot_toks:=by simpa using e'
 obtain⟨z1,z2,z3⟩:_/\_/\_:=by simpa only[Prod.mk.injEq] using size w
 obtain⟨s₁,r,l⟩:=Option.map_eq_some_iff.mp (h w os);have r':=ZU r;rw[qef] at r';obtain⟨l1,l2,l3⟩:_/\_/\_:=by simpa only[qip,Prod.mk.injEq] using l
 have t:topFrom treeTable p w N ⟨boot_heap w.params,Array.mk [],boot_drawn,boot_toks,os⟩=some s₁.abs:=by unfold topFrom;dsimp only;rw[z1,z2,z3,r'];show(match staticsOk (importedModules p.main.body) (boot_heap w.params) s₁.abs.heap&&namesBound p s₁.abs.heap&&gensDone s₁.abs&&laidKept (boot_heap w.params) s₁.abs.heap with |true=>_ |false=>_)=_;rw[l1]
 unfold openEnds;rw[e];show(topFrom treeTable p w N _).map _=_;rw[t];exact congrArg some (Prod.ext l2 l3)
end HD
namespace HD
open PySem PySem.W
def dE(P:Params)(k:Str)(t:Tok)(v:Value):DictEntry:=⟨PyData.keyHash P k,.str k t,v⟩
noncomputable def oFn(d:Option Addr)(st:Stmt)(name qual:Str)(dV kV doc pm:Value)(an:Option Addr)(cd ct:Value):Obj:=⟨.type "function",d,.func (fnOf name qual (L2.zd st) (L2.qt st) (L2.qj st) dV kV doc pm an cd ct),#[]⟩
noncomputable def oC(n:Str)(t1:Tok)(q:Str)(t2 t3:Tok)(l ar:Int)(a b:Addr)(x y:Value)(c:Addr)(u:Int)(v:Tok):Obj:=⟨.type "code",none,.fields #[.str n t1,.str q t2,.str "/claim/cut.py" t3,.int l 0,.int ar 0,.int 0 0,.int 0 0,.int 3 0,.ref a,.bool true,.int 181 0,.ref b,.none,x,y,.ref c,.int u 0,.int l 0,.str "/claim/cut.py" v],#[]⟩
noncomputable def oG(st:Stmt)(n m:Str)(t:Tok)(a:Addr):Obj:=oFn none st n n .none .none .none (.str m t) none (.ref a) .none
noncomputable def oB(n:Str)(t:Tok)(l ar:Int)(a:Addr)(v:Nat):Obj:=oC n t n (t+1) (t+2) l ar a (a+1) (.ref (a+2)) (.ref (a+3)) (a+4) v (v+1)
theorem qeg(w:World):((boot_heap w.params).isNs mainGlobals&&(Array.mk []:Array GenState).size == 0,(boot_heap w.params).objs.size,(boot_heap w.params).nsMap mainGlobals "__annotations__")=(true,11,some (.ref 6)):=by kernel_rfl
end HD
namespace K72
open PySem PySem.W HD DG
abbrev HP:Program:=PySem.Challenge.rw_daysgate_k72_books_alike.row.toRowW.prog
noncomputable def Hq:Program:=view HP [1,2,3,4,5,6,7,8,9,11,12,13,14,15,16,17,18,19,21,22,23,24,26,27,28,29,30,31,32,33,34,36,37,38,39,40,41,42,43,44,46,47,48,49,51,52,53,54,55,56,58,59,60,61,62,63,64,65,66,67]
noncomputable def Hx(s:Shared):Bool:=xlAt Hq [] s&&recOk (RowW.records PySem.Challenge.rw_daysgate_k72_books_alike.row.toRowW) s
noncomputable def Has:List Addr:=[2,3,20,21,27,28,34,35,41,42,48,49,55,56,65,66,67,78,79,94,95,97,98,113,114,116,117,132,133,135,136,147,148,159,160,171,172,183,184,192,193,199,200,206,207,213,214,220,221,227,228,241,242,248,249,251,252,253,254,269,270,276,277,279,280,295,296,302,303,305,306,321,322,328,329,331,332,338,339,343,344,350,351,357,358,364,365,371,372,378,379,385,386,390,391,397,398,402,403,407,408,414,415,421,422,428,429,435,436,449,450,456,457,463,464,468,469,471,472,473,474,482,483,489,490,494,495,501,502,508,509,522,523,527,528,534,535,539,540]
noncomputable def HK(P:Params):Frag:=(nat_lit 2,⟨.none,none,.dict #[] 0,#[]⟩)::(nat_lit 3,⟨(.type "dict"),none,.dict #[dE P "__name__" 165 (.str "law_daysgate_k72_books_alike" 851),dE P "__doc__" 166 .none,dE P "__package__" 167 .none,dE P "__loader__" 168 (.builtin "__main__.__loader__#opaque"),dE P "__spec__" 169 .none,dE P "__annotations__" 170 (.ref 6),dE P "__builtins__" 171 (.ref 4),dE P "__file__" 173 (.str "/claim/cut.py" 172),dE P "__cached__" 174 .none,dE P "GREATEST" 190 (.int (1000000000) 189),dE P "LETTERS" 192 (.str "abcdefghijklmnopqrstuvwxyz" 191),dE P "LONGEST_NAME" 194 (.int (8) 193),dE P "is_whole" 201 (.ref 21),dE P "is_between" 210 (.ref 28),dE P "are_days" 218 (.ref 35),dE P "is_made_of" 227 (.ref 42),dE P "is_name" 234 (.ref 49),dE P "are_names" 244 (.ref 56),dE P "DayError" 264 (.ref 66),dE P "NoRule" 280 (.ref 79),dE P "NoPaper" 305 (.ref 98),dE P "NoStay" 330 (.ref 117),dE P "NotLet" 359 (.ref 136),dE P "NoWish" 375 (.ref 148),dE P "NoDeed" 391 (.ref 160),dE P "NoText" 407 (.ref 172),dE P "NoRow" 423 (.ref 184),dE P "spread" 435 (.ref 193),dE P "both" 448 (.ref 200),dE P "outside" 460 (.ref 207),dE P "less" 468 (.ref 214),dE P "MOST_LANDS" 472 (.int (6) 471),dE P "GREATEST_WEIGHT" 474 (.int (9) 473),dE P "is_land" 481 (.ref 221),dE P "are_lands" 490 (.ref 228),dE P "Rule" 531 (.ref 252),dE P "Within" 566 (.ref 280),dE P "Since" 601 (.ref 306),dE P "InRow" 633 (.ref 332),dE P "line_of" 639 (.ref 339),dE P "pieces_among" 647 (.ref 344),dE P "sum_of" 661 (.ref 351),dE P "first_since" 674 (.ref 358),dE P "first_of_window" 683 (.ref 365),dE P "count_among" 692 (.ref 372),dE P "turns_of" 704 (.ref 379),dE P "first_above" 717 (.ref 386),dE P "first_broken" 723 (.ref 391),dE P "fault_among" 736 (.ref 398),dE P "MOST_NAMES" 740 (.int (2) 739),dE P "lets" 746 (.ref 403),dE P "longer_rows" 752 (.ref 408),dE P "parted" 767 (.ref 415),dE P "MOST_RULES" 771 (.int (8) 770),dE P "MOST_PAPERS" 773 (.int (12) 772),dE P "are_rules" 781 (.ref 422),dE P "is_paper" 789 (.ref 429),dE P "check_papers" 799 (.ref 436),dE P "Book" 850 (.ref 472),dE P "_law_at" 860 (.ref 483),dE P "_law_word" 871 (.ref 490),dE P "_law_names" 877 (.ref 495),dE P "_law_spec" 890 (.ref 502),dE P "_law_rule" 897 (.ref 509),dE P "_law_stays" 912 (.ref 516),dE P "_law_papers" 926 (.ref 523),dE P "_law_alike" 932 (.ref 528),dE P "_law_refused" 943 (.ref 535),dE P "law" 949 (.ref 540)] 69,#[]⟩)::(nat_lit 20,oB "is_whole" 195 5 1 15 199)::(nat_lit 21,oG (top 4) "is_whole" "daysgate.checks" 187 20)::(nat_lit 27,oB "is_between" 202 7 3 22 208)::(nat_lit 28,oG (top 5) "is_between" "daysgate.checks" 187 27)::(nat_lit 34,oB "are_days" 211 9 2 29 216)::(nat_lit 35,oG (top 6) "are_days" "daysgate.checks" 187 34)::(nat_lit 41,oB "is_made_of" 219 11 2 36 225)::(nat_lit 42,oG (top 7) "is_made_of" "daysgate.checks" 187 41)::(nat_lit 48,oB "is_name" 228 16 1 43 232)::(nat_lit 49,oG (top 8) "is_name" "daysgate.checks" 187 48)::(nat_lit 55,oB "are_names" 235 20 2 50 242)::(nat_lit 56,oG (top 9) "are_names" "daysgate.checks" 187 55)::(nat_lit 65,⟨(.type "dict"),none,.dict #[dE P "__module__" 254 (.str "daysgate.errors" 245),dE P "__firstlineno__" 258 (.int (30) 257),dE P "__static_attributes__" 259 (.ref 64),dE P "__weakref__" 261 (.ref 67),dE P "__doc__" 262 .none] 3,#[]⟩)::(nat_lit 66,⟨(.type "type"),none,.cls ⟨"DayError",[(.type "ValueError")],[(.ref 66),(.type "ValueError"),(.type "Exception"),(.type "BaseException"),(.type "object")],65,"DayError",true,[],[(.ref 79),(.ref 98),(.ref 117),(.ref 136),(.ref 148),(.ref 160),(.ref 172),(.ref 184)],false,none,false⟩,#[some (.ref 57),none,some (.str "DayError" 247),some (.str "DayError" 255),some (.builtin "ValueError.__new__"),some (.bool true)]⟩)::(nat_lit 67,⟨(.type "getset_descriptor"),none,.fields #[(.str "__weakref__" 260),(.ref 66),(.builtin "ExceptionGroup.__weakref__"),.none],#[]⟩)::(nat_lit 78,⟨(.type "dict"),none,.dict #[dE P "__module__" 272 (.str "daysgate.errors" 245),dE P "__firstlineno__" 276 (.int (32) 275),dE P "__static_attributes__" 277 (.ref 77),dE P "__doc__" 278 .none] 2,#[]⟩)::(nat_lit 79,⟨(.type "type"),none,.cls ⟨"NoRule",[(.ref 66)],[(.ref 79),(.ref 66),(.type "ValueError"),(.type "Exception"),(.type "BaseException"),(.type "object")],78,"NoRule",true,[],[],false,none,false⟩,#[some (.ref 70),none,some (.str "NoRule" 265),some (.str "NoRule" 273),some (.builtin "ValueError.__new__"),some (.bool true)]⟩)::(nat_lit 94,oC "__init__" 293 "NoPaper.__init__" 294 295 36 2 89 90 (.ref 91) (.ref 92) 93 298 299)::(nat_lit 95,oFn none (mem 13 0) "__init__" "NoPaper.__init__" .none .none .none (.str "daysgate.errors" 245) none (.ref 94) .none)::(nat_lit 97,⟨(.type "dict"),none,.dict #[dE P "__module__" 288 (.str "daysgate.errors" 245),dE P "__firstlineno__" 292 (.int (34) 291),dE P "__init__" 300 (.ref 95),dE P "__static_attributes__" 302 (.ref 96),dE P "__doc__" 303 .none] 2,#[]⟩)::(nat_lit 98,⟨(.type "type"),none,.cls ⟨"NoPaper",[(.ref 66)],[(.ref 98),(.ref 66),(.type "ValueError"),(.type "Exception"),(.type "BaseException"),(.type "object")],97,"NoPaper",true,[],[],false,none,false⟩,#[some (.ref 82),none,some (.str "NoPaper" 281),some (.str "NoPaper" 289),some (.builtin "ValueError.__new__"),some (.bool true)]⟩)::(nat_lit 113,oC "__init__" 318 "NoStay.__init__" 319 320 41 2 108 109 (.ref 110) (.ref 111) 112 323 324)::(nat_lit 114,oFn none (mem 14 0) "__init__" "NoStay.__init__" .none .none .none (.str "daysgate.errors" 245) none (.ref 113) .none)::(nat_lit 116,⟨(.type "dict"),none,.dict #[dE P "__module__" 313 (.str "daysgate.errors" 245),dE P "__firstlineno__" 317 (.int (39) 316),dE P "__init__" 325 (.ref 114),dE P "__static_attributes__" 327 (.ref 115),dE P "__doc__" 328 .none] 2,#[]⟩)::(nat_lit 117,⟨(.type "type"),none,.cls ⟨"NoStay",[(.ref 66)],[(.ref 117),(.ref 66),(.type "ValueError"),(.type "Exception"),(.type "BaseException"),(.type "object")],116,"NoStay",true,[],[],false,none,false⟩,#[some (.ref 101),none,some (.str "NoStay" 306),some (.str "NoStay" 314),some (.builtin "ValueError.__new__"),some (.bool true)]⟩)::(nat_lit 132,oC "__init__" 343 "NotLet.__init__" 344 345 46 4 127 128 (.ref 129) (.ref 130) 131 350 351)::(nat_lit 133,oFn none (mem 15 0) "__init__" "NotLet.__init__" .none .none .none (.str "daysgate.errors" 245) none (.ref 132) .none)::(nat_lit 135,⟨(.type "dict"),none,.dict #[dE P "__module__" 338 (.str "daysgate.errors" 245),dE P "__firstlineno__" 342 (.int (44) 341),dE P "__init__" 352 (.ref 133),dE P "__static_attributes__" 356 (.ref 134),dE P "__doc__" 357 .none] 2,#[]⟩)::(nat_lit 136,⟨(.type "type"),none,.cls ⟨"NotLet",[(.ref 66)],[(.ref 136),(.ref 66),(.type "ValueError"),(.type "Exception"),(.type "BaseException"),(.type "object")],135,"NotLet",true,[],[],false,none,false⟩,#[some (.ref 120),none,some (.str "NotLet" 331),some (.str "NotLet" 339),some (.builtin "ValueError.__new__"),some (.bool true)]⟩)::(nat_lit 147,⟨(.type "dict"),none,.dict #[dE P "__module__" 367 (.str "daysgate.errors" 245),dE P "__firstlineno__" 371 (.int (51) 370),dE P "__static_attributes__" 372 (.ref 146),dE P "__doc__" 373 .none] 2,#[]⟩)::(nat_lit 148,⟨(.type "type"),none,.cls ⟨"NoWish",[(.ref 66)],[(.ref 148),(.ref 66),(.type "ValueError"),(.type "Exception"),(.type "BaseException"),(.type "object")],147,"NoWish",true,[],[],false,none,false⟩,#[some (.ref 139),none,some (.str "NoWish" 360),some (.str "NoWish" 368),some (.builtin "ValueError.__new__"),some (.bool true)]⟩)::(nat_lit 159,⟨(.type "dict"),none,.dict #[dE P "__module__" 383 (.str "daysgate.errors" 245),dE P "__firstlineno__" 387 (.int (53) 386),dE P "__static_attributes__" 388 (.ref 158),dE P "__doc__" 389 .none] 2,#[]⟩)::(nat_lit 160,⟨(.type "type"),none,.cls ⟨"NoDeed",[(.ref 66)],[(.ref 160),(.ref 66),(.type "ValueError"),(.type "Exception"),(.type "BaseException"),(.type "object")],159,"NoDeed",true,[],[],false,none,false⟩,#[some (.ref 151),none,some (.str "NoDeed" 376),some (.str "NoDeed" 384),some (.builtin "ValueError.__new__"),some (.bool true)]⟩)::(nat_lit 171,⟨(.type "dict"),none,.dict #[dE P "__module__" 399 (.str "daysgate.errors" 245),dE P "__firstlineno__" 403 (.int (55) 402),dE P "__static_attributes__" 404 (.ref 170),dE P "__doc__" 405 .none] 2,#[]⟩)::(nat_lit 172,⟨(.type "type"),none,.cls ⟨"NoText",[(.ref 66)],[(.ref 172),(.ref 66),(.type "ValueError"),(.type "Exception"),(.type "BaseException"),(.type "object")],171,"NoText",true,[],[],false,none,false⟩,#[some (.ref 163),none,some (.str "NoText" 392),some (.str "NoText" 400),some (.builtin "ValueError.__new__"),some (.bool true)]⟩)::(nat_lit 183,⟨(.type "dict"),none,.dict #[dE P "__module__" 415 (.str "daysgate.errors" 245),dE P "__firstlineno__" 419 (.int (57) 418),dE P "__static_attributes__" 420 (.ref 182),dE P "__doc__" 421 .none] 2,#[]⟩)::(nat_lit 184,⟨(.type "type"),none,.cls ⟨"NoRow",[(.ref 66)],[(.ref 184),(.ref 66),(.type "ValueError"),(.type "Exception"),(.type "BaseException"),(.type "object")],183,"NoRow",true,[],[],false,none,false⟩,#[some (.ref 175),none,some (.str "NoRow" 408),some (.str "NoRow" 416),some (.builtin "ValueError.__new__"),some (.bool true)]⟩)::(nat_lit 192,oB "spread" 426 60 1 187 433)::(nat_lit 193,oG (top 21) "spread" "daysgate.days" 424 192)::(nat_lit 199,oB "both" 436 68 2 194 446)::(nat_lit 200,oG (top 22) "both" "daysgate.days" 424 199)::(nat_lit 206,oB "outside" 449 82 3 201 458)::(nat_lit 207,oG (top 23) "outside" "daysgate.days" 424 206)::(nat_lit 213,oB "less" 461 92 2 208 466)::(nat_lit 214,oG (top 24) "less" "daysgate.days" 424 213)::(nat_lit 220,oB "is_land" 475 99 1 215 479)::(nat_lit 221,oG (top 28) "is_land" "daysgate.rules" 469 220)::(nat_lit 227,oB "are_lands" 482 103 1 222 488)::(nat_lit 228,oG (top 29) "are_lands" "daysgate.rules" 469 227)::(nat_lit 241,oC "__init__" 503 "Rule.__init__" 504 505 114 3 236 237 (.ref 238) (.ref 239) 240 509 510)::(nat_lit 242,oFn none (mem 30 0) "__init__" "Rule.__init__" .none .none .none (.str "daysgate.rules" 469) none (.ref 241) .none)::(nat_lit 248,oC "weight" 512 "Rule.weight" 513 514 122 2 243 244 (.ref 245) (.ref 246) 247 519 520)::(nat_lit 249,oFn none (mem 30 1) "weight" "Rule.weight" .none .none .none (.str "daysgate.rules" 469) none (.ref 248) .none)::(nat_lit 251,⟨(.type "dict"),none,.dict #[dE P "__module__" 498 (.str "daysgate.rules" 469),dE P "__firstlineno__" 502 (.int (112) 501),dE P "__init__" 511 (.ref 242),dE P "weight" 521 (.ref 249),dE P "__static_attributes__" 524 (.ref 250),dE P "__dict__" 526 (.ref 253),dE P "__weakref__" 528 (.ref 254),dE P "__doc__" 529 .none] 4,#[]⟩)::(nat_lit 252,⟨(.type "type"),none,.cls ⟨"Rule",[(.type "object")],[(.ref 252),(.type "object")],251,"Rule",true,[],[(.ref 280),(.ref 306)],false,none,false⟩,#[none,none,some (.str "Rule" 491),some (.str "Rule" 499),some (.builtin "object.__new__"),some (.bool true)]⟩)::(nat_lit 253,⟨(.type "getset_descriptor"),none,.fields #[(.str "__dict__" 525),(.ref 252),(.builtin "function.__dict__"),(.builtin "function.__dict__#set")],#[]⟩)::(nat_lit 254,⟨(.type "getset_descriptor"),none,.fields #[(.str "__weakref__" 527),(.ref 252),(.builtin "ExceptionGroup.__weakref__"),.none],#[]⟩)::(nat_lit 269,oC "__init__" 544 "Within.__init__" 545 546 129 4 264 265 (.ref 266) (.ref 267) 268 551 552)::(nat_lit 270,oFn none (mem 31 0) "__init__" "Within.__init__" .none .none .none (.str "daysgate.rules" 469) none (.ref 269) .none)::(nat_lit 276,oC "line" 554 "Within.line" 555 556 135 1 271 272 (.ref 273) (.ref 274) 275 559 560)::(nat_lit 277,oFn none (mem 31 1) "line" "Within.line" .none .none .none (.str "daysgate.rules" 469) none (.ref 276) .none)::(nat_lit 279,⟨(.type "dict"),none,.dict #[dE P "__module__" 539 (.str "daysgate.rules" 469),dE P "__firstlineno__" 543 (.int (127) 542),dE P "__init__" 553 (.ref 270),dE P "line" 561 (.ref 277),dE P "__static_attributes__" 563 (.ref 278),dE P "__doc__" 564 .none] 2,#[]⟩)::(nat_lit 280,⟨(.type "type"),none,.cls ⟨"Within",[(.ref 252)],[(.ref 280),(.ref 252),(.type "object")],279,"Within",true,[],[],false,none,false⟩,#[some (.ref 257),none,some (.str "Within" 532),some (.str "Within" 540),some (.builtin "object.__new__"),some (.bool true)]⟩)::(nat_lit 295,oC "__init__" 579 "Since.__init__" 580 581 140 4 290 291 (.ref 292) (.ref 293) 294 586 587)::(nat_lit 296,oFn none (mem 32 0) "__init__" "Since.__init__" .none .none .none (.str "daysgate.rules" 469) none (.ref 295) .none)::(nat_lit 302,oC "line" 589 "Since.line" 590 591 146 1 297 298 (.ref 299) (.ref 300) 301 594 595)::(nat_lit 303,oFn none (mem 32 1) "line" "Since.line" .none .none .none (.str "daysgate.rules" 469) none (.ref 302) .none)::(nat_lit 305,⟨(.type "dict"),none,.dict #[dE P "__module__" 574 (.str "daysgate.rules" 469),dE P "__firstlineno__" 578 (.int (138) 577),dE P "__init__" 588 (.ref 296),dE P "line" 596 (.ref 303),dE P "__static_attributes__" 598 (.ref 304),dE P "__doc__" 599 .none] 2,#[]⟩)::(nat_lit 306,⟨(.type "type"),none,.cls ⟨"Since",[(.ref 252)],[(.ref 306),(.ref 252),(.type "object")],305,"Since",true,[],[(.ref 332)],false,none,false⟩,#[some (.ref 283),none,some (.str "Since" 567),some (.str "Since" 575),some (.builtin "object.__new__"),some (.bool true)]⟩)::(nat_lit 321,oC "__init__" 614 "InRow.__init__" 615 616 151 3 316 317 (.ref 318) (.ref 319) 320 620 621)::(nat_lit 322,oFn none (mem 33 0) "__init__" "InRow.__init__" .none .none .none (.str "daysgate.rules" 469) none (.ref 321) .none)::(nat_lit 328,oC "line" 623 "InRow.line" 624 625 154 1 323 324 (.ref 325) (.ref 326) 327 627 628)::(nat_lit 329,oFn none (mem 33 1) "line" "InRow.line" .none .none .none (.str "daysgate.rules" 469) none (.ref 328) .none)::(nat_lit 331,⟨(.type "dict"),none,.dict #[dE P "__module__" 609 (.str "daysgate.rules" 469),dE P "__firstlineno__" 613 (.int (149) 612),dE P "__init__" 622 (.ref 322),dE P "line" 629 (.ref 329),dE P "__static_attributes__" 630 (.ref 330),dE P "__doc__" 631 .none] 2,#[]⟩)::(nat_lit 332,⟨(.type "type"),none,.cls ⟨"InRow",[(.ref 306)],[(.ref 332),(.ref 306),(.ref 252),(.type "object")],331,"InRow",true,[],[],false,none,false⟩,#[some (.ref 309),none,some (.str "InRow" 602),some (.str "InRow" 610),some (.builtin "object.__new__"),some (.bool true)]⟩)::(nat_lit 338,oC "line_of" 634 "line_of" 635 636 156 2 335 336 .none .none 337 637 638)::(nat_lit 339,oG (top 34) "line_of" "daysgate.rules" 469 338)::(nat_lit 343,oC "pieces_among" 642 "pieces_among" 643 644 161 3 340 341 .none .none 342 645 646)::(nat_lit 344,oG (top 36) "pieces_among" "daysgate.sums" 640 343)::(nat_lit 350,oB "sum_of" 648 170 3 345 659)::(nat_lit 351,oG (top 37) "sum_of" "daysgate.sums" 640 350)::(nat_lit 357,oB "first_since" 662 177 3 352 672)::(nat_lit 358,oG (top 38) "first_since" "daysgate.sums" 640 357)::(nat_lit 364,oB "first_of_window" 675 185 3 359 681)::(nat_lit 365,oG (top 39) "first_of_window" "daysgate.sums" 640 364)::(nat_lit 371,oB "count_among" 684 189 3 366 690)::(nat_lit 372,oG (top 40) "count_among" "daysgate.sums" 640 371)::(nat_lit 378,oB "turns_of" 693 191 2 373 702)::(nat_lit 379,oG (top 41) "turns_of" "daysgate.sums" 640 378)::(nat_lit 385,oB "first_above" 705 198 4 380 715)::(nat_lit 386,oG (top 42) "first_above" "daysgate.sums" 640 385)::(nat_lit 390,oC "first_broken" 718 "first_broken" 719 720 205 2 387 388 .none .none 389 721 722)::(nat_lit 391,oG (top 43) "first_broken" "daysgate.sums" 640 390)::(nat_lit 397,oB "fault_among" 724 215 2 392 734)::(nat_lit 398,oG (top 44) "fault_among" "daysgate.sums" 640 397)::(nat_lit 402,oC "lets" 741 "lets" 742 743 225 2 399 400 .none .none 401 744 745)::(nat_lit 403,oG (top 47) "lets" "daysgate.compare" 737 402)::(nat_lit 407,oC "longer_rows" 747 "longer_rows" 748 749 227 2 404 405 .none .none 406 750 751)::(nat_lit 408,oG (top 48) "longer_rows" "daysgate.compare" 737 407)::(nat_lit 414,oB "parted" 753 232 4 409 765)::(nat_lit 415,oG (top 49) "parted" "daysgate.compare" 737 414)::(nat_lit 421,oB "are_rules" 774 249 1 416 779)::(nat_lit 422,oG (top 53) "are_rules" "daysgate.books" 768 421)::(nat_lit 428,oB "is_paper" 782 256 2 423 787)::(nat_lit 429,oG (top 54) "is_paper" "daysgate.books" 768 428)::(nat_lit 435,oB "check_papers" 790 260 2 430 797)::(nat_lit 436,oG (top 55) "check_papers" "daysgate.books" 768 435)::(nat_lit 449,oC "__init__" 812 "Book.__init__" 813 814 270 3 444 445 (.ref 446) (.ref 447) 448 818 819)::(nat_lit 450,oFn none (mem 56 0) "__init__" "Book.__init__" .none .none .none (.str "daysgate.books" 768) none (.ref 449) .none)::(nat_lit 456,oC "rules" 821 "Book.rules" 822 823 277 1 451 452 (.ref 453) (.ref 454) 455 825 826)::(nat_lit 457,oFn none (mem 56 1) "rules" "Book.rules" .none .none .none (.str "daysgate.books" 768) none (.ref 456) .none)::(nat_lit 463,oC "papers" 828 "Book.papers" 829 830 280 1 458 459 (.ref 460) (.ref 461) 462 832 833)::(nat_lit 464,oFn none (mem 56 2) "papers" "Book.papers" .none .none .none (.str "daysgate.books" 768) none (.ref 463) .none)::(nat_lit 468,oC "lifted" 835 "Book.lifted" 836 837 283 2 465 466 .none .none 467 838 839)::(nat_lit 469,oFn none (mem 56 3) "lifted" "Book.lifted" .none .none .none (.str "daysgate.books" 768) none (.ref 468) .none)::(nat_lit 471,⟨(.type "dict"),none,.dict #[dE P "__module__" 807 (.str "daysgate.books" 768),dE P "__firstlineno__" 811 (.int (268) 810),dE P "__init__" 820 (.ref 450),dE P "rules" 827 (.ref 457),dE P "papers" 834 (.ref 464),dE P "lifted" 840 (.ref 469),dE P "__static_attributes__" 843 (.ref 470),dE P "__dict__" 845 (.ref 473),dE P "__weakref__" 847 (.ref 474),dE P "__doc__" 848 .none] 4,#[]⟩)::(nat_lit 472,⟨(.type "type"),none,.cls ⟨"Book",[(.type "object")],[(.ref 472),(.type "object")],471,"Book",true,[],[],false,none,false⟩,#[none,none,some (.str "Book" 800),some (.str "Book" 808),some (.builtin "object.__new__"),some (.bool true)]⟩)::(nat_lit 473,⟨(.type "getset_descriptor"),none,.fields #[(.str "__dict__" 844),(.ref 472),(.builtin "function.__dict__"),(.builtin "function.__dict__#set")],#[]⟩)::(nat_lit 474,⟨(.type "getset_descriptor"),none,.fields #[(.str "__weakref__" 846),(.ref 472),(.builtin "ExceptionGroup.__weakref__"),.none],#[]⟩)::(nat_lit 482,oB "_law_at" 853 286 2 477 858)::(nat_lit 483,oG (top 58) "_law_at" "law_daysgate_k72_books_alike" 851 482)::(nat_lit 489,oB "_law_word" 861 290 1 484 869)::(nat_lit 490,oG (top 59) "_law_word" "law_daysgate_k72_books_alike" 851 489)::(nat_lit 494,oC "_law_names" 872 "_law_names" 873 874 299 2 491 492 .none .none 493 875 876)::(nat_lit 495,oG (top 60) "_law_names" "law_daysgate_k72_books_alike" 851 494)::(nat_lit 501,oB "_law_spec" 878 303 3 496 888)::(nat_lit 502,oG (top 61) "_law_spec" "law_daysgate_k72_books_alike" 851 501)::(nat_lit 508,oB "_law_rule" 891 314 1 503 895)::(nat_lit 509,oG (top 62) "_law_rule" "law_daysgate_k72_books_alike" 851 508)::(nat_lit 522,oB "_law_papers" 913 332 4 517 924)::(nat_lit 523,oG (top 64) "_law_papers" "law_daysgate_k72_books_alike" 851 522)::(nat_lit 527,oC "_law_alike" 927 "_law_alike" 928 929 340 3 524 525 .none .none 526 930 931)::(nat_lit 528,oG (top 65) "_law_alike" "law_daysgate_k72_books_alike" 851 527)::(nat_lit 534,oB "_law_refused" 933 350 3 529 941)::(nat_lit 535,oG (top 66) "_law_refused" "law_daysgate_k72_books_alike" 851 534)::(nat_lit 539,oC "law" 944 "law" 945 946 359 1 536 537 .none .none 538 947 948)::(nat_lit 540,oG (top 67) "law" "law_daysgate_k72_books_alike" 851 539)::[]
theorem HKe(P:Params):Has=(HK P).map (·.1):=by kernel_rfl
noncomputable def qle(p q:Program)(rc:Shared->Bool)(w:World)(H0:Heap)(s0:SharedT):=(Yv treeTable p w 11 (some (.ref 6)) 10194 s0 (topStub p)).map (λs=>qip p q [] (λs=>xlAt q [] s&&rc s) (λs=>Has.map s.heap.get?) true H0 s.abs)
noncomputable def Hlk(w:World)(H0:Heap)(s0:SharedT):=qle HP Hq (recOk (RowW.records PySem.Challenge.rw_daysgate_k72_books_alike.row.toRowW)) w H0 s0
def qlf(q:Program):=openGood q []
def Hgd:=qlf Hq
theorem qeh:qle=qle:=rfl
theorem qei:qlf=qlf:=rfl
end K72
lay_quick K72.qle K72.qlf
name_quick hlkQ for K72.qle by K72.qeh
name_quick hgdQ for K72.qlf by K72.qei
namespace K72
open PySem PySem.W HD DG
theorem qlg(w:World)(os:OsState):Hlk w (boot_heap w.params) (qio w.params os)=some (true,Hgd,(HK w.params).map λp=>some p.2):=by
 unfold Hlk Hgd;rw[PySem.W.Fast.hlkQ_eq,PySem.W.Fast.hgdQ_eq]
 kernel_rfl
theorem qmP:LeftO HP Hq [] Hx (λs=>Has.map s.heap.get?) (λw=>(HK w.params).map λp=>some p.2) 10194 true:=
 qiq (boot_open (by kernel_rfl) (2:) (λ_=>by kernel_rfl)) qeg qlg
end K72
namespace DG
open PySem PySem.Spec PyProof.Rows L2 DE
theorem qir(b:Bool)(l:List D):aA b l=aL b l:=by cases b<;>rfl
theorem qaC{pg:Pg}[CH pg][RU pg][BO pg](j:Nat):Ck pg (j+5) where
 lands:=λb l h=>by rw[qir];exact qaj (j+1) b l h
 rules:=λb l h=>by rw[qir];exact qak (j+4) b l h
 papers:=λb ps n h=>by rw[qir];exact YB j b ps n h
 btw:=λn a b h=>qkQ (j+3) n a b h
noncomputable def kap(cW cS cI cB:Addr):KC:=λc=>if c = "Within" then some cW else if c = "Since" then some cS else if c = "InRow" then some cI else if c = "Book" then some cB else none
theorem qlh{cW cS cI cB C:Addr}{c:Str}(h:kap cW cS cI cB c=some C):(c = "Within"/\C=cW)\/(c = "Since"/\C=cS)\/(c = "InRow"/\C=cI)\/(c = "Book"/\C=cB):=by
 unfold kap at h
 split at h
 ·cases h;exact .inl ⟨‹_›,rfl⟩
 split at h
 ·cases h;exact .inr (.inl ⟨‹_›,rfl⟩)
 split at h
 ·cases h;exact .inr (.inr (.inl ⟨‹_›,rfl⟩))
 split at h
 ·cases h;exact .inr (.inr (.inr ⟨‹_›,rfl⟩))
 cases h
theorem qch{c:Str}(h:rk c=true):c = "Within"\/c = "Since"\/c = "InRow":=by
 unfold rk at h
 simpa [or_assoc] using h
theorem qli{c x:Str}(h:(pcs {}).fld c x=true):(rk c=true/\(x = "lands"\/x = "most"))\/(c = "Within"/\x = "span")\/((c = "Since"\/c = "InRow")/\x = "leave")\/(c = "Book"/\(x = "kept_rules"\/x = "kept_papers")):=by
 have h:((rk c&&(x == "lands" || x == "most" || (x == "span" && c == "Within")||(x == "leave" && c != "Within")))||(c == "Book" && (x == "kept_rules" || x == "kept_papers")))=true:=h;simp only[Bool.or_eq_true,Bool.and_eq_true,beq_iff_eq,bne_iff_ne] at h;rcases h with ⟨h1,((h2 | h2) | h2) | h2⟩ | h2
 ·exact .inl ⟨h1,.inl h2⟩
 ·exact .inl ⟨h1,.inr h2⟩
 ·exact .inr (.inl ⟨h2.2,h2.1⟩)
 ·refine .inr (.inr (.inl ⟨?_,h2.1⟩));rcases qch h1 with q | q
  ·exact absurd q h2.2
  ·exact q
 ·exact .inr (.inr (.inr h2))
theorem qmQ{c x f:Str}(h:(pcs {}).mt c x=some f):(rk c=true/\x = "weight"/\f = "Rule.weight")\/(c = "Book"/\x = "rules"/\f = "Book.rules")\/(c = "Book"/\x = "lifted"/\f = "Book.lifted")\/(c = "Book"/\x = "papers"/\f = "Book.papers"):=by
 have h:(if (rk c&&x == "weight")=true then some ("Rule.weight" : Str) else if (c == "Book" && x == "rules")=true then some ("Book.rules" : Str) else if (c == "Book" && x == "lifted")=true then some ("Book.lifted" : Str) else if (c == "Book" && x == "papers")=true then some ("Book.papers" : Str) else none)=some f:=h
 split at h
 ·rename_i q;simp only[Bool.and_eq_true,beq_iff_eq] at q;cases h;exact .inl ⟨q.1,q.2,rfl⟩
 split at h
 ·rename_i q;simp only[Bool.and_eq_true,beq_iff_eq] at q;cases h;exact .inr (.inl ⟨q.1,q.2,rfl⟩)
 split at h
 ·rename_i q;simp only[Bool.and_eq_true,beq_iff_eq] at q;cases h;exact .inr (.inr (.inl ⟨q.1,q.2,rfl⟩))
 split at h
 ·rename_i q;simp only[Bool.and_eq_true,beq_iff_eq] at q;cases h;exact .inr (.inr (.inr ⟨q.1,q.2,rfl⟩))
 cases h
theorem qlj{c t:Str}{b:Bool}(h:(pcs {}).sub c t=some b):rk c=true/\((t = "Within"/\b=(c == "Within"))\/(t = "Since"/\b=(c != "Within"))):=by
 have h:(if (rk c&&t == "Within")=true then some (c == "Within") else if (rk c&&t == "Since")=true then some (c != "Within") else none)=some b:=h
 split at h
 ·rename_i q;simp only[Bool.and_eq_true,beq_iff_eq] at q;cases h;exact⟨q.1,.inl ⟨q.2,rfl⟩⟩
 split at h
 ·rename_i q;simp only[Bool.and_eq_true,beq_iff_eq] at q;cases h;exact⟨q.1,.inr ⟨q.2,rfl⟩⟩
 cases h
theorem QO{c:Str}{o:Option (List (Str×D))}{r:Rv}(h:qb5 c o=.ok r):∃fs,o=some fs/\r=.val (.ins c (fs.map (·.1)) (fs.map (·.2))):=by
 cases o with
 |none=>cases h
 |some fs=>cases h;exact⟨fs,rfl,rfl⟩
theorem ZV(b:Bool)(l l':List D):aA b l≠.scr l':=by cases b<;>(intro z;cases z)
theorem qom{j:Nat}{args:List Ar}{r:Rv}(h:pnw (j+12) "Within" args=.ok r):(∀a∈args,∀l,a≠.scr l)/\∃fs,jS "span" args=some fs/\r=.val (.ins "Within" (fs.map (·.1)) (fs.map (·.2))):=by
 have h:(if j+12 < 12 then R.no else qb5 "Within" (jS "span" args))=.ok r:=h;rw[if_neg (by lia)] at h;obtain⟨fs,e,er⟩:=QO h;obtain⟨b,l,m,s,rfl,_⟩:=jw e;refine⟨λa ha=>?_,fs,e,er⟩;simp only[List.mem_cons,List.not_mem_nil,or_false] at ha;rcases ha with rfl | rfl | rfl
 ·exactλl'=>ZV b l l'
 ·exactλl' z=>by cases z
 ·exactλl' z=>by cases z
theorem qon{j:Nat}{args:List Ar}{r:Rv}(h:pnw (j+12) "Since" args=.ok r):(∀a∈args,∀l,a≠.scr l)/\∃fs,jS "leave" args=some fs/\r=.val (.ins "Since" (fs.map (·.1)) (fs.map (·.2))):=by
 have h:(if j+12 < 12 then R.no else qb5 "Since" (jS "leave" args))=.ok r:=h;rw[if_neg (by lia)] at h;obtain⟨fs,e,er⟩:=QO h;obtain⟨b,l,m,s,rfl,_⟩:=jw e;refine⟨λa ha=>?_,fs,e,er⟩;simp only[List.mem_cons,List.not_mem_nil,or_false] at ha;rcases ha with rfl | rfl | rfl
 ·exactλl'=>ZV b l l'
 ·exactλl' z=>by cases z
 ·exactλl' z=>by cases z
theorem qoo{j:Nat}{args:List Ar}{r:Rv}(h:pnw (j+12) "InRow" args=.ok r):(∀a∈args,∀l,a≠.scr l)/\∃fs,qb4 args=some fs/\r=.val (.ins "InRow" (fs.map (·.1)) (fs.map (·.2))):=by
 have h:(if j+12 < 12 then R.no else qb5 "InRow" (qb4 args))=.ok r:=h;rw[if_neg (by lia)] at h;obtain⟨fs,e,er⟩:=QO h;obtain⟨b,l,m,rfl,_⟩:=QN e;refine⟨λa ha=>?_,fs,e,er⟩;simp only[List.mem_cons,List.not_mem_nil,or_false] at ha;rcases ha with rfl | rfl
 ·exactλl'=>ZV b l l'
 ·exactλl' z=>by cases z
theorem qop{j:Nat}{args:List Ar}{r:Rv}(h:pnw (j+12) "Book" args=.ok r):(∀a∈args,∀l,a≠.scr l)/\∃fs,YT args=some fs/\r=.val (.ins "Book" (fs.map (·.1)) (fs.map (·.2))):=by
 have h:(if j+12 < 12 then R.no else qb5 "Book" (YT args))=.ok r:=h;rw[if_neg (by lia)] at h;obtain⟨fs,e,er⟩:=QO h;obtain⟨b,c,l,ps,rfl,_⟩:=Yu e;refine⟨λa ha=>?_,fs,e,er⟩;simp only[List.mem_cons,List.not_mem_nil,or_false] at ha;rcases ha with rfl | rfl
 ·exactλl'=>ZV b l l'
 ·exactλl'=>ZV c ps l'
structure Kl(K:Frag)(C:Addr):Prop where
 cls:Cls K C
 tc:PySem.W.findIn K (.ref C) "__class__" = some (some (.builtin "object.__class__"))
 mo:PySem.W.mroIn K C (.type "object")=some true
structure Kr(K:Frag)(fw C cW cS:Addr)(x:Str)(b:Bool):Prop where
 kl:Kl K C
 la:zD K C "lands"
 mo:zD K C "most"
 fx:zD K C x
 wt:Meth K C "weight" fw
 iw:PySem.W.kitOne K (.ref C) (.ref cW)=some b
 is:PySem.W.kitOne K (.ref C) (.ref cS)=some (!b)
structure Kb(K:Frag)(fr fl fp C:Addr):Prop where
 kl:Kl K C
 a1:zD K C "kept_rules"
 a2:zD K C "kept_papers"
 m1:Meth K C "rules" fr
 m2:Meth K C "lifted" fl
 m3:Meth K C "papers" fp
section
variable{K:Frag}{mg:PR}{cW cS cI cB fw fr fl fp:Addr}(W:Kr K fw cW cW cS "span" true)(S:Kr K fw cS cW cS "leave" false)(I:Kr K fw cI cW cS "leave" false)(B:Kb K fr fl fp cB)
include W S I B
theorem qgB(c:Str)(C:Addr)(h:kap cW cS cI cB c=some C):Cls K C:=by
 rcases qlh h with ⟨_,rfl⟩ | ⟨_,rfl⟩ | ⟨_,rfl⟩ | ⟨_,rfl⟩
 ·exact W.kl.cls
 ·exact S.kl.cls
 ·exact I.kl.cls
 ·exact B.kl.cls
theorem qej(c x:Str)(C:Addr)(hf:(pcs {}).fld c x=true)(h:kap cW cS cI cB c=some C):zD K C x:=by
 rcases qli hf with ⟨hr,rfl | rfl⟩ | ⟨rfl,rfl⟩ | ⟨rfl | rfl,rfl⟩ | ⟨rfl,rfl | rfl⟩
 ·rcases qch hr with rfl | rfl | rfl
  ·cases h;exact W.la
  ·cases h;exact S.la
  ·cases h;exact I.la
 ·rcases qch hr with rfl | rfl | rfl
  ·cases h;exact W.mo
  ·cases h;exact S.mo
  ·cases h;exact I.mo
 ·cases h;exact W.fx
 ·cases h;exact S.fx
 ·cases h;exact I.fx
 ·cases h;exact B.a1
 ·cases h;exact B.a2
theorem qci{C:Addr}(k:Kl K C)(n:PySem.W.specialIn K (.builtin "object.__class__") "__get__" = some (some (.builtin "getset_descriptor.__get__")))(tk:PySem.W.takesIn K (.builtin "object.__class__")=some true) :
  ∀(H:Hp) (p dx:Addr) (fs:List (Str×V)),H p=some (L2.HO.ins C dx fs)->TyOf K H (.ref p) (.ref C):=λH p dx fs hp=>.ins hp k.cls k.tc n tk k.mo
theorem qis(n:PySem.W.specialIn K (.builtin "object.__class__") "__get__" = some (some (.builtin "getset_descriptor.__get__")))(tk:PySem.W.takesIn K (.builtin "object.__class__")=some true)(mW:mg "Within" = some (.ref cW))(mS:mg "Since" = some (.ref cS))
  (c t:Str) (b:Bool) (h:(pcs {}).sub c t=some b):∃C T,kap cW cS cI cB c=some C/\(∀H p dx fs,H p=some (L2.HO.ins C dx fs)->TyOf K H (.ref p) (.ref C))/\mg t=some (.ref T)/\PySem.W.kitOne K (.ref C) (.ref T)=some b:=by
 obtain⟨hr,⟨rfl,rfl⟩ | ⟨rfl,rfl⟩⟩:=qlj h
 ·rcases qch hr with rfl | rfl | rfl
  ·exact⟨cW,cW,rfl,qci W S I B W.kl n tk,mW,W.iw⟩
  ·exact⟨cS,cW,rfl,qci W S I B S.kl n tk,mW,S.iw⟩
  ·exact⟨cI,cW,rfl,qci W S I B I.kl n tk,mW,I.iw⟩
 ·rcases qch hr with rfl | rfl | rfl
  ·exact⟨cW,cS,rfl,qci W S I B W.kl n tk,mS,W.is⟩
  ·exact⟨cS,cS,rfl,qci W S I B S.kl n tk,mS,S.is⟩
  ·exact⟨cI,cS,rfl,qci W S I B I.kl n tk,mS,I.is⟩
end
noncomputable def Y6(K:Frag)(f:Addr)(n q:Str)(st:Stmt):Prop:=∃oc od kV dc pm an cd ct sl,K.lookup f=some ⟨oc,od,.func (PySem.W.fnOf n q (zd st) (qt st) (qj st) .none kV dc pm an cd ct),sl⟩/\PySem.W.codeIn K cd q=true/\PySem.W.keepIn K (.ref f)=true
noncomputable abbrev FG(K:Frag)(f:Addr)(n:Str)(st:Stmt):Prop:=PySem.W.nsIn K mainGlobals n=some (some (.ref f))/\Y6 K f n n st
section
variable{K:Frag}{f:Addr}{n q:Str}{st:Stmt}{mg:PR}{h:Heap}
theorem Y6.fn(i:Y6 K f n q st):∃fd,Fun K n q st f fd:=by obtain⟨oc,od,kV,dc,pm,an,cd,ct,sl,l,c,k⟩:=i;exact⟨_,qfZ l c k⟩
theorem Y6.kp(i:Y6 K f n q st):PySem.W.keepIn K (.ref f)=true:=by obtain⟨oc,od,kV,dc,pm,an,cd,ct,sl,l,c,k⟩:=i;exact k
noncomputable def Bd(n q:Str)(st:Stmt)(ps:List Str):Prop:=∀(kV doc pm:Value) (an:Option Addr) (cdv ct:Value) (us:List Value),us.length=ps.length->bindArgs (PySem.W.fnOf n q (zd st) (qt st) (qj st) .none kV doc pm an cdv ct) ⟨us,[]⟩=pure (ps.zip us)
theorem qlk(X:K.In h)(G:h.Ns mainGlobals mg)(a:PySem.W.nsIn K mainGlobals n=some (some (.ref f)))(i:Y6 K f n n st){ps:List Str}(hp:yC st=ps)(hb:Bd n n st ps):FnF K mg n st:=by obtain⟨fd,F⟩:=i.fn;exact⟨f,fd,F,PySem.W.mg_of X G a,hp▸F.binds hb⟩
theorem y6(i:Y6 K f n q st){ps:List Str}(hb:Bd n q st ps):∃fd,Fun K n q st f fd/\qK K fd ps []:=by obtain⟨fd,F⟩:=i.fn;exact⟨fd,F,F.binds hb⟩
theorem qll(i:Y6 K f n n st)(hb:Bd n n st ["_law_script"]):∃fd,Fun K n n st f fd/\∀(s:Shared) (v:Value),BindsTo s fd ⟨[v],[]⟩ [("_law_script",v)]:=by obtain⟨oc,od,kV,dc,pm,an,cd,ct,sl,l,c,k⟩:=i;exact⟨_,qfZ l c k,λs v=>.of_eq (hb _ _ _ _ _ _ [v] rfl)⟩
end
section
variable{n q:Str}{st:Stmt}{a b c d e:Str}
theorem bd1(h:∀(kV doc pm:Value) (an:Option Addr) (cdv ct x:Value),bindArgs (PySem.W.fnOf n q (zd st) (qt st) (qj st) .none kV doc pm an cdv ct) ⟨[x],[]⟩=pure [(a,x)]):Bd n q st [a]:=λ_ _ _ _ _ _ us hl=>match us,hl with |[_],_=>h ..
theorem bd2(h:∀(kV doc pm:Value) (an:Option Addr) (cdv ct x y:Value),bindArgs (PySem.W.fnOf n q (zd st) (qt st) (qj st) .none kV doc pm an cdv ct) ⟨[x,y],[]⟩=pure [(a,x),(b,y)]):Bd n q st [a,b]:=λ_ _ _ _ _ _ us hl=>match us,hl with |[_,_],_=>h ..
theorem bd3(h:∀(kV doc pm:Value) (an:Option Addr) (cdv ct x y z:Value),bindArgs (PySem.W.fnOf n q (zd st) (qt st) (qj st) .none kV doc pm an cdv ct) ⟨[x,y,z],[]⟩=pure [(a,x),(b,y),(c,z)]):Bd n q st [a,b,c]:=λ_ _ _ _ _ _ us hl=>match us,hl with |[_,_,_],_=>h ..
theorem bd4(h:∀(kV doc pm:Value) (an:Option Addr) (cdv ct x y z u:Value),bindArgs (PySem.W.fnOf n q (zd st) (qt st) (qj st) .none kV doc pm an cdv ct) ⟨[x,y,z,u],[]⟩=pure [(a,x),(b,y),(c,z),(d,u)]):Bd n q st [a,b,c,d]:=λ_ _ _ _ _ _ us hl=>match us,hl with |[_,_,_,_],_=>h ..
end
end DG
namespace DG
open PySem PySem.Spec PyProof.Rows L2 DE
inductive BDs:List (Str×Stmt)->Prop
 | nil:BDs []
 | cons {n st l ps}:yC st=ps->Bd n n st ps->BDs l->BDs ((n,st)::l)
inductive FGs(K:Frag):List (Str×Stmt)->Prop
 | nil:FGs K []
 | cons {f n st l}:FG K f n st->FGs K l->FGs K ((n,st)::l)
inductive ZNs(K:Frag):List Str->Prop
 | nil:ZNs K []
 | cons {n l}:PySem.W.nsIn K mainGlobals n=some none->ZNs K l->ZNs K (n::l)
section
variable{K:Frag}{mg:PR}{h:Heap}
theorem FGs.all(X:K.In h)(G:h.Ns mainGlobals mg){l:List (Str×Stmt)}(a:FGs K l)(p:BDs l):AllF K mg l:=by
 induction a with
 |nil=>exact .nil
 |cons i _ ih=>
  cases p with
  |cons e b p=>exact .cons (qlk X G i.1 i.2 e b) (ih p)
theorem ZNs.all(X:K.In h)(G:h.Ns mainGlobals mg){l:List Str}(a:ZNs K l):∀f∈l,mg f=none:=by
 induction a with
 |nil=>exact nofun
 |cons i _ ih=>
  intro f hf;rcases List.mem_cons.mp hf with rfl | hf
  ·exact PySem.W.mg_none_of X G i
  ·exact ih f hf
end
end DG
namespace DE
open PySem PySem.W L2 DG
inductive Kt(K:Frag)(a:Addr):List Bool->List (Str×Addr)->Prop
 | nil:Kt K a [] []
 | cons {t:Str} {c:Addr} {b:Bool} {bs:List Bool} {r:List (Str×Addr)} (h:kitOne K (.ref a) (.ref c)=some b) (h':exmOne K (.ref a) (.ref c)=some b) (q:Kt K a bs r):Kt K a (b::bs) ((t,c)::r)
theorem Kt.at{K:Frag}{a c:Addr}{n t:Str}:∀{bs:List Bool} {r:List (Str×Addr)},Kt K a bs r->bs=r.map (λt=>isX n t.1)->r.lookup t=some c->kitOne K (.ref a) (.ref c)=some (isX n t)/\exmOne K (.ref a) (.ref c)=some (isX n t)
 |_,_,.nil,_,h=>by cases h
 | _,_,.cons (t:=t') (r:=r) h h' q,e,hl=>by
  rw[List.map_cons,List.cons.injEq] at e;rw[List.lookup_cons] at hl
  cases q':(t == t') with
  |true=>
   rw[q'] at hl;cases hl
   have:t=t':=by simpa using q'
   subst this;rw[<-e.1];exact⟨h,h'⟩
  |false=>rw[q'] at hl;exact q.at e.2 hl
structure XE(K:Frag)(mg:PR)(er:List (Str×Addr))(e:Str×Addr×List Str):Prop where
 m:mg e.1=some (.ref e.2.1)
 kv:kitOne K (.ref e.2.1) (.type "ValueError")=some true
 is_:ExcIs K e.2.1
 kt:∃bs,Kt K e.2.1 bs er/\bs=er.map λt=>isX e.1 t.1
 g:∀x∈e.2.2,XcG K e.2.1 x
 n0:e.2.2=[]->excIn K e.2.1 bV "ValueError.__new__" = true
 n1:e.2.2≠[]->∀P wd base j,∃fI fd,XcC K e.2.1 fI/\FnOk P wd K mg base CX0 (j+1) fI fd ("self" :: e.2.2) (qly e.2.1 e.2.2)/\qK K fd ("self" :: e.2.2) []
section
variable{K:Frag}{mg:PR}{l:List (Str×Addr×List Str)}{er:List (Str×Addr)}{xt:List Str}
theorem qit{n:Str}{ns:List Str}:∀{l:List (Str×Addr×List Str)},(l.lookup n).map (·.2)=some ns->∃e∈l,e.1=n/\e.2.2=ns/\((l.lookup n).map (·.1)).getD 0=e.2.1
 |[],h=>by cases h
 | e::l,h=>by
  obtain⟨m,a,f⟩:=e;rw[List.lookup_cons] at h ⊢
  cases q:(n == m) with
  |true=>rw[q] at h;cases h;exact⟨_,List.mem_cons_self ..,(by simpa using q:n=m).symm,rfl,rfl⟩
  |false=>rw[q] at h;obtain⟨e,h1,h2,h3,h4⟩:=qit h;exact⟨e,List.mem_cons_of_mem _ h1,h2,h3,h4⟩
theorem qlm{C:Addr}{t:Str}{b:Bool}(h:(qbr l er xt).xs C t=some b):∃e∈l,e.2.1=C/\((t = "ValueError"/\b=true)\/∃c,er.lookup t=some c/\b=isX e.1 t):=by
 have h:((l.find? λe=>e.2.1 == C).bind λe=>if t == "ValueError" then some true else (er.lookup t).map λ_=>isX e.1 t)=some b:=h
 cases q:l.find? λe=>e.2.1 == C with
 |none=>rw[q] at h;cases h
 |some e=>
  rw[q] at h;refine⟨e,List.mem_of_find?_eq_some q,by simpa using List.find?_some q,?_⟩;have h:(if t == "ValueError" then some true else (er.lookup t).map λ_=>isX e.1 t)=some b:=h
  split at h
  ·rename_i hv;cases h;exact .inl ⟨by simpa using hv,rfl⟩
  ·obtain⟨c,h1,h2⟩:=Option.map_eq_some_iff.mp h;exact .inr ⟨c,h1,h2.symm⟩
variable(A:∀e∈l,XE K mg er e)(er_:∀t c,er.lookup t=some c->mg t=some (.ref c))(mV:mg "ValueError" = none)
include A er_ mV in
theorem qiu(C:Addr)(t:Str)(b:Bool)(h:(qbr l er xt).xs C t=some b):ExcIs K C/\((∃T,mg t=some (.ref T)/\kitOne K (.ref C) (.ref T)=some b)\/(mg t=none/\t = "ValueError"/\kitOne K (.ref C) (.type "ValueError")=some b)):=by
 obtain⟨e,he,rfl,⟨rfl,rfl⟩ | ⟨c,hc,rfl⟩⟩:=qlm h
 ·exact⟨(A e he).is_,.inr ⟨mV,rfl,(A e he).kv⟩⟩
 ·obtain⟨bs,k1,k2⟩:=(A e he).kt;exact⟨(A e he).is_,.inl ⟨c,er_ t c hc,(k1.at k2 hc).1⟩⟩
include A er_ in
theorem qmR(C:Addr)(t:Str)(b:Bool)(hn:t≠("ValueError" : Str))(h:(qbr l er xt).xs C t=some b):∃D,mg t=some (.ref D)/\exmOne K (.ref C) (.ref D)=some b:=by
 obtain⟨e,he,rfl,⟨rfl,rfl⟩ | ⟨c,hc,rfl⟩⟩:=qlm h
 ·exact absurd rfl hn
 ·obtain⟨bs,k1,k2⟩:=(A e he).kt;exact⟨c,er_ t c hc,(k1.at k2 hc).2⟩
include A in
theorem qoq(C:Addr)(x:Str)(h:(qbr l er xt).xg C x=true):XcG K C x:=by
 obtain⟨e,he,h⟩:=List.any_eq_true.mp h;rw[Bool.and_eq_true] at h;have hc:e.2.1=C:=by simpa using h.1
 subst hc;exact(A e he).g x (by simpa using h.2)
include A in
theorem qmS(n:Str)(h:(qbr l er xt).xn n=some []):mg n=some (.ref ((qbr l er xt).xa n))/\excIn K ((qbr l er xt).xa n) bV "ValueError.__new__" = true:=by obtain⟨e,he,rfl,h3,h4⟩:=qit (l:=l) h;rw[show(qbr l er xt).xa e.1=e.2.1 from h4];exact⟨(A e he).m,(A e he).n0 h3⟩
include A in
theorem qmT(n:Str)(ns:List Str)(h:(qbr l er xt).xn n=some ns)(hne:ns≠[])(P:Program)(wd:World)(base:Heap)(j:Nat):∃fI fd,mg n=some (.ref ((qbr l er xt).xa n))/\XcC K ((qbr l er xt).xa n) fI/\FnOk P wd K mg base CX0 (j+1) fI fd ("self" :: ns) (qly ((qbr l er xt).xa n) ns)/\qK K fd ("self" :: ns) []:=by obtain⟨e,he,rfl,rfl,h4⟩:=qit (l:=l) h;rw[show(qbr l er xt).xa e.1=e.2.1 from h4];obtain⟨fI,fd,q1,q2,q3⟩:=(A e he).n1 hne P wd base j;exact⟨fI,fd,(A e he).m,q1,q2,q3⟩
end
end DE
namespace DE
open PySem PySem.W L2 DG
inductive ENs(K:Frag):List (Str×Addr)->Prop
 | nil:ENs K []
 | cons {n:Str} {a:Addr} {l:List (Str×Addr)}:nsIn K mainGlobals n=some (some (.ref a))->ENs K l->ENs K ((n,a)::l)
theorem ENs.all{K:Frag}{mg:PR}{h:Heap}(X:K.In h)(G:h.Ns mainGlobals mg):∀{l:List (Str×Addr)},ENs K l->∀t c,l.lookup t=some c->mg t=some (.ref c)
 |_,.nil,t,c,q=>by cases q
 | _,.cons (n:=n) h e,t,c,q=>by
  rw[List.lookup_cons] at q
  cases z:(t == n) with
  |true=>rw[z] at q;cases q;rw[show t=n by simpa using z];exact mg_of X G h
  |false=>rw[z] at q;exact e.all X G t c q
end DE
namespace K72
open PySem PySem.W L2 DE DG
theorem qln{l:OpenLaw}{w:World}{K:Frag}{h:Heap}{mg:PR}{fa cR cW cS cI cB f35 fiR fiW fiS fiI fiB fmw fmr fmp fml:Addr}{t0 t1 t2 t3 t4 t5 t6 t7:Tok}(X:K.In h)(G:h.Ns mainGlobals mg)(hfa:mg "law" = some (.ref fa))
  (aL:FG K f35 "law" (top 67))
  (a:FGs K pg.defs)
  (z:ZNs K qdb)
  (v0:nsIn K mainGlobals "GREATEST" = some (some (.int 1000000000 t0)))
  (v1:nsIn K mainGlobals "LETTERS" = some (some (.str "abcdefghijklmnopqrstuvwxyz" t1)))
  (v2:nsIn K mainGlobals "LONGEST_NAME" = some (some (.int 8 t2)))
  (v3:nsIn K mainGlobals "MOST_LANDS" = some (some (.int 6 t3)))
  (v4:nsIn K mainGlobals "GREATEST_WEIGHT" = some (some (.int 9 t4)))
  (v5:nsIn K mainGlobals "MOST_NAMES" = some (some (.int 2 t5)))
  (v6:nsIn K mainGlobals "MOST_RULES" = some (some (.int 8 t6)))
  (v7:nsIn K mainGlobals "MOST_PAPERS" = some (some (.int 12 t7)))
  (ncR:nsIn K mainGlobals "Rule" = some (some (.ref cR)))
  (ncW:nsIn K mainGlobals "Within" = some (some (.ref cW)))
  (ncS:nsIn K mainGlobals "Since" = some (some (.ref cS)))
  (ncI:nsIn K mainGlobals "InRow" = some (some (.ref cI)))
  (ncB:nsIn K mainGlobals "Book" = some (some (.ref cB)))
  (inR:findIn K (.ref cR) "__init__" = some (some (.ref fiR)))
  (inW:findIn K (.ref cW) "__init__" = some (some (.ref fiW)))
  (inS:findIn K (.ref cS) "__init__" = some (some (.ref fiS)))
  (inI:findIn K (.ref cI) "__init__" = some (some (.ref fiI)))
  (inB:findIn K (.ref cB) "__init__" = some (some (.ref fiB)))
  (tmr:findIn K (.ref cB) "rules" = some (some (.ref fmr)))
  (tml:findIn K (.ref cB) "lifted" = some (some (.ref fml)))
  (tmp:findIn K (.ref cB) "papers" = some (some (.ref fmp)))
  (twW:findIn K (.ref cW) "weight" = some (some (.ref fmw)))
  (twS:findIn K (.ref cS) "weight" = some (some (.ref fmw)))
  (twI:findIn K (.ref cI) "weight" = some (some (.ref fmw)))
  (hiR:Y6 K fiR "__init__" "Rule.__init__" (mem 30 0))
  (niR:isFn K (.ref fiR)=true)
  (hiW:Y6 K fiW "__init__" "Within.__init__" (mem 31 0))
  (niW:isFn K (.ref fiW)=true)
  (hiS:Y6 K fiS "__init__" "Since.__init__" (mem 32 0))
  (niS:isFn K (.ref fiS)=true)
  (hiI:Y6 K fiI "__init__" "InRow.__init__" (mem 33 0))
  (niI:isFn K (.ref fiI)=true)
  (hiB:Y6 K fiB "__init__" "Book.__init__" (mem 56 0))
  (niB:isFn K (.ref fiB)=true)
  (hmw:Y6 K fmw "weight" "Rule.weight" (mem 30 1))
  (nmw:isFn K (.ref fmw)=true)
  (hmr:Y6 K fmr "rules" "Book.rules" (mem 56 1))
  (nmr:isFn K (.ref fmr)=true)
  (hmp:Y6 K fmp "papers" "Book.papers" (mem 56 2))
  (nmp:isFn K (.ref fmp)=true)
  (hml:Y6 K fml "lifted" "Book.lifted" (mem 56 3))
  (nml:isFn K (.ref fml)=true)
  (mkW:makesIn K cW=true)
  (kcW:keepIn K (.ref cW)=true)
  (LW:Kl K cW)
  (na_landsW:findIn K (.ref cW) "lands" = some none)
  (na_mostW:findIn K (.ref cW) "most" = some none)
  (na_spanW:findIn K (.ref cW) "span" = some none)
  (kwW:kitOne K (.ref cW) (.ref cW)=some true)
  (ksW:kitOne K (.ref cW) (.ref cS)=some false)
  (mkS:makesIn K cS=true)
  (kcS:keepIn K (.ref cS)=true)
  (LS:Kl K cS)
  (na_landsS:findIn K (.ref cS) "lands" = some none)
  (na_mostS:findIn K (.ref cS) "most" = some none)
  (na_leaveS:findIn K (.ref cS) "leave" = some none)
  (kwS:kitOne K (.ref cS) (.ref cW)=some false)
  (ksS:kitOne K (.ref cS) (.ref cS)=some true)
  (mkI:makesIn K cI=true)
  (kcI:keepIn K (.ref cI)=true)
  (LI:Kl K cI)
  (na_landsI:findIn K (.ref cI) "lands" = some none)
  (na_mostI:findIn K (.ref cI) "most" = some none)
  (na_leaveI:findIn K (.ref cI) "leave" = some none)
  (kwI:kitOne K (.ref cI) (.ref cW)=some false)
  (ksI:kitOne K (.ref cI) (.ref cS)=some true)
  (mkB:makesIn K cB=true)
  (kcB:keepIn K (.ref cB)=true)
  (LB:Kl K cB)
  (na_kept_rulesB:findIn K (.ref cB) "kept_rules" = some none)
  (na_kept_papersB:findIn K (.ref cB) "kept_papers" = some none)
  (rdR:readsIn K cR (.type "type")=true)
  (gsR:specialIn K (.ref cR) "__getattribute__" = some (some (.builtin "type.__getattribute__")))
  (fcR:findCls K (.ref cR) (.type "type") "__init__" = some (.val (.ref fiR)))
  (rdS:readsIn K cS (.type "type")=true)
  (gsS:specialIn K (.ref cS) "__getattribute__" = some (some (.builtin "type.__getattribute__")))
  (fcS:findCls K (.ref cS) (.type "type") "__init__" = some (.val (.ref fiS)))
  (og:specialIn K (.builtin "object.__class__") "__get__" = some (some (.builtin "getset_descriptor.__get__")))
  (ot:takesIn K (.builtin "object.__class__")=some true)
  (ens:ENs K xR)
  (ncV:nsIn K mainGlobals "ValueError" = some none)
  (xv0:kitOne K (.ref 148) (.type "ValueError")=some true)
  (xk0:Kt K 148 [true,false,false,false,false,true,false,false,false] xR)
  (xi0:ExcIs K 148)
  (xn0:excIn K 148 bV "ValueError.__new__" = true)
  :
  ∃fd:FuncData,(∀(s:Shared) (v:Value),BindsTo s fd ⟨[v],[]⟩ [("_law_script",v)])/\∀base:Heap,K.In base->base.Ns mainGlobals mg->FnOk l.prog w K mg base CX0 20 fa fd ["_law_script"] (spF (kap cW cS cI cB) K (clK pg 20) "law"):=by
 have e:=hfa.symm.trans (mg_of X G aL.1);cases e;obtain⟨dL,FL,bL⟩:=qll aL.2 ((bd1 λ_ _ _ _ _ _ _ =>rfl));have z:=z.all X G;obtain⟨diR,FiR,biR⟩:=y6 hiR (ps:=["self","lands","most"]) ((bd3 λ_ _ _ _ _ _ _ _ _ =>rfl));obtain⟨diW,FiW,biW⟩:=y6 hiW (ps:=["self","lands","most","span"]) ((bd4 λ_ _ _ _ _ _ _ _ _ _ =>rfl));obtain⟨diS,FiS,biS⟩:=y6 hiS (ps:=["self","lands","most","leave"]) ((bd4 λ_ _ _ _ _ _ _ _ _ _ =>rfl));obtain⟨diI,FiI,biI⟩:=y6 hiI (ps:=["self","lands","most"]) ((bd3 λ_ _ _ _ _ _ _ _ _ =>rfl));obtain⟨diB,FiB,biB⟩:=y6 hiB (ps:=["self","rules","papers"]) ((bd3 λ_ _ _ _ _ _ _ _ _ =>rfl));obtain⟨dmw,Fmw,bmw⟩:=y6 hmw (ps:=["self","land"]) ((bd2 λ_ _ _ _ _ _ _ _ =>rfl));obtain⟨dmr,Fmr,bmr⟩:=y6 hmr (ps:=["self"]) ((bd1 λ_ _ _ _ _ _ _ =>rfl));obtain⟨dmp,Fmp,bmp⟩:=y6 hmp (ps:=["self"]) ((bd1 λ_ _ _ _ _ _ _ =>rfl));obtain⟨dml,Fml,bml⟩:=y6 hml (ps:=["self","number"]) ((bd2 λ_ _ _ _ _ _ _ _ =>rfl));have mcR:=mg_of X G ncR;have mcW:=mg_of X G ncW;have mcS:=mg_of X G ncS;have mcI:=mg_of X G ncI;have mcB:=mg_of X G ncB;have rW:Kr K fmw cW cW cS "span" true:=⟨LW,na_landsW,na_mostW,na_spanW,⟨twW,nmw,hmw.kp⟩,kwW,ksW⟩;have rS:Kr K fmw cS cW cS "leave" false:=⟨LS,na_landsS,na_mostS,na_leaveS,⟨twS,nmw,hmw.kp⟩,kwS,ksS⟩;have rI:Kr K fmw cI cW cS "leave" false:=⟨LI,na_landsI,na_mostI,na_leaveI,⟨twI,nmw,hmw.kp⟩,kwI,ksI⟩;have rB:Kb K fmr fml fmp cB:=⟨LB,na_kept_rulesB,na_kept_papersB,⟨tmr,nmr,hmr.kp⟩,⟨tml,nml,hml.kp⟩,⟨tmp,nmp,hmp.kp⟩⟩;have tx:Tx (kap cW cS cI cB) K mg:=⟨z "tuple" (by decide+kernel),z "list" (by decide+kernel),z "len" (by decide+kernel),⟨_,mg_of X G v0⟩,qgB rW rS rI rB,qej rW rS rI rB⟩;have cfR:ClsFn K cR "__init__" fiR:=⟨rdR,gsR,fcR,hiR.kp⟩;have cfS:ClsFn K cS "__init__" fiS:=⟨rdS,gsS,fcS,hiS.kp⟩;have mV:=mg_none_of X G ncV;have er_:=ens.all X G
 have A:∀e∈xE,XE K mg xR e:=by
  intro e he;simp only[xE,List.mem_cons,List.not_mem_nil,or_false] at he;rcases he with rfl
  ·exact⟨er_ _ _ (by decide+kernel),xv0,xi0,⟨_,xk0,by decide+kernel⟩,λ_ h=>(by cases h),λ_=>xn0,λh=>absurd rfl h⟩
 refine⟨dL,bL,λbase _ _=>qkb (k:=19) (st:=top 67) ?ok FL (by kernel_rfl) (by kernel_rfl)⟩
 case ok=>
 refine { fn:=a.all X G ?q,blt:=z,gl:=?g,cls:=qgB rW rS rI rB,flds:=qej rW rS rI rB,mts:=?m,mks:=?k,subs:=qis rW rS rI rB og ot mcW mcS,xsubs:=qiu A er_ mV,xgs:=qoq A,xn0:=qmS A,xn1:=qmT A,xhs:=qmR A er_,xtd:=?td }
 case td=>intro f hf;have hf:((["parted"]:List Str).contains f)=true:=hf;simp only[List.contains_cons,List.contains_nil,Bool.or_eq_true,beq_iff_eq,Bool.false_eq_true,or_false] at hf;rcases hf with rfl<;>decide+kernel
 case q=>repeat first | exact .nil |refine .cons (by kernel_rfl) (bd2 λ_ _ _ _ _ _ _ _ =>rfl) ?_ |refine .cons (by kernel_rfl) (bd3 λ_ _ _ _ _ _ _ _ _ =>rfl) ?_ |refine .cons (by kernel_rfl) (bd1 λ_ _ _ _ _ _ _ =>rfl) ?_ |refine .cons (by kernel_rfl) (bd4 λ_ _ _ _ _ _ _ _ _ _ =>rfl) ?_ |refine .cons (by kernel_rfl) (bd5 λ_ _ _ _ _ _ _ _ _ _ _ =>rfl) ?_ |refine .cons (by kernel_rfl) (bd6 λ_ _ _ _ _ _ _ _ _ _ _ _ =>rfl) ?_
 case g=>
  intro x d hd;unfold pg at hd;dsimp only at hd
  by_cases h0:x = "GREATEST"
  ·rw[if_pos h0] at hd;cases hd;exact⟨.int 1000000000,_,h0▸mg_of X G v0,⟨_,rfl⟩,λ_=>by simp only[Rep]⟩
  rw[if_neg h0] at hd
  by_cases h1:x = "LETTERS"
  ·rw[if_pos h1] at hd;cases hd;exact⟨.str "abcdefghijklmnopqrstuvwxyz",_,h1▸mg_of X G v1,⟨_,rfl⟩,λ_=>by simp only[Rep]⟩
  rw[if_neg h1] at hd
  by_cases h2:x = "LONGEST_NAME"
  ·rw[if_pos h2] at hd;cases hd;exact⟨.int 8,_,h2▸mg_of X G v2,⟨_,rfl⟩,λ_=>by simp only[Rep]⟩
  rw[if_neg h2] at hd
  by_cases h3:x = "MOST_LANDS"
  ·rw[if_pos h3] at hd;cases hd;exact⟨.int 6,_,h3▸mg_of X G v3,⟨_,rfl⟩,λ_=>by simp only[Rep]⟩
  rw[if_neg h3] at hd
  by_cases h4:x = "GREATEST_WEIGHT"
  ·rw[if_pos h4] at hd;cases hd;exact⟨.int 9,_,h4▸mg_of X G v4,⟨_,rfl⟩,λ_=>by simp only[Rep]⟩
  rw[if_neg h4] at hd
  by_cases h5:x = "MOST_NAMES"
  ·rw[if_pos h5] at hd;cases hd;exact⟨.int 2,_,h5▸mg_of X G v5,⟨_,rfl⟩,λ_=>by simp only[Rep]⟩
  rw[if_neg h5] at hd
  by_cases h6:x = "MOST_RULES"
  ·rw[if_pos h6] at hd;cases hd;exact⟨.int 8,_,h6▸mg_of X G v6,⟨_,rfl⟩,λ_=>by simp only[Rep]⟩
  rw[if_neg h6] at hd
  by_cases h7:x = "MOST_PAPERS"
  ·rw[if_pos h7] at hd;cases hd;exact⟨.int 12,_,h7▸mg_of X G v7,⟨_,rfl⟩,λ_=>by simp only[Rep]⟩
  rw[if_neg h7] at hd;cases hd
 case m=>
  intro c x f hm;rcases qmQ hm with ⟨hr,rfl,rfl⟩ | ⟨rfl,rfl,rfl⟩ | ⟨rfl,rfl,rfl⟩ | ⟨rfl,rfl,rfl⟩
  ·rcases qch hr with rfl | rfl | rfl
   ·exact⟨cW,fmw,_,mem 30 1,"weight",rfl,rW.wt,by kernel_rfl,by kernel_rfl,Fmw,bmw⟩
   ·exact⟨cS,fmw,_,mem 30 1,"weight",rfl,rS.wt,by kernel_rfl,by kernel_rfl,Fmw,bmw⟩
   ·exact⟨cI,fmw,_,mem 30 1,"weight",rfl,rI.wt,by kernel_rfl,by kernel_rfl,Fmw,bmw⟩
  ·exact⟨cB,fmr,_,mem 56 1,"rules",rfl,rB.m1,by kernel_rfl,by kernel_rfl,Fmr,bmr⟩
  ·exact⟨cB,fml,_,mem 56 3,"lifted",rfl,rB.m2,by kernel_rfl,by kernel_rfl,Fml,bml⟩
  ·exact⟨cB,fmp,_,mem 56 2,"papers",rfl,rB.m3,by kernel_rfl,by kernel_rfl,Fmp,bmp⟩
 case k=>
  intro P wd base k ih f hf
  by_cases hk:k < 12
  ·exact .inl λargs=>if_pos hk
  obtain⟨j,rfl⟩:∃j,k=j+12:=⟨k - 12,by omega⟩;right
  have hf:f = "Within"\/f = "Since"\/f = "InRow"\/f = "Book":=by
   have hf:((["Within","Since","InRow","Book"]:List Str).contains f)=true:=hf
   simpa using hf
  rcases hf with rfl | rfl | rfl | rfl
  ·exact⟨cW,fiW,_,_,_,⟨mkW,inW,niW,kcW⟩,qcg (j:=j+9) tx FiW FiR biR mcR cfR (ih (j+9) (1:)) (ih (j+10) (1:)) (qaC (j+4)) (qaC (j+5)),mcW,biW,by omega,QM (c:="Within") rfl rfl λargs r=>qom (j:=j)⟩
  ·exact⟨cS,fiS,_,_,_,⟨mkS,inS,niS,kcS⟩,ZQ (j:=j+9) tx FiS FiR biR mcR cfR (ih (j+9) (1:)) (ih (j+10) (1:)) (qaC (j+4)) (qaC (j+5)),mcS,biS,by omega,QM (c:="Since") rfl rfl λargs r=>qon (j:=j)⟩
  ·exact⟨cI,fiI,_,_,_,⟨mkI,inI,niI,kcI⟩,qee (j:=j+8) tx FiI FiS biS mcS cfS FiR biR mcR cfR (ih (j+8) (1:)) (ih (j+9) (1:)) (qaC (j+3)) (qaC (j+4)),mcI,biI,by omega,QM (c:="InRow") rfl rfl λargs r=>qoo (j:=j)⟩
  ·exact⟨cB,fiB,_,_,_,⟨mkB,inB,niB,kcB⟩,qfS (j:=j+10) tx FiB (ih (j+10) (1:)) (qaC (j+5)),mcB,biB,by omega,QM (c:="Book") rfl rfl λargs r=>qop (j:=j)⟩
theorem qor{l:PySem.W.OpenLaw}{q:Program}{loose:List Str}{XP:(Str->Option Value)->Heap->Prop}{YP:World->Heap->Prop}{d:DefRec}{K:Params->Frag}{κ:KC}(hn:l.most=some 63)(hdf:d.params.defaults=[])
  (hY:∀(w:World) (h:Heap),YP w h->(K w.params).In h)
  (F:∀(w:World) (mg:PR) (fa:Addr) (h:Heap),(K w.params).In h->h.Ns mainGlobals mg->mg d.name=some (.ref fa)->
   ∃fd:FuncData,(∀(s:Shared) (u:Value),BindsTo s fd ⟨[u],[]⟩ [("_law_script",u)])/\∀base:Heap,(K w.params).In base->base.Ns mainGlobals mg->FnOk l.prog w (K w.params) mg base CX0 20 fa fd ["_law_script"] (spF κ (K w.params) (clK pg 20) "law")) :
  PySem.W.WalkO q loose XP YP l.row.toRowW d [] (λf vs=>PySem.call f vs):=
 L2.qgZ (n:=63) (k:=20) (x:="_law_script") (CX:=λ_=>CX0) (sp:=λw=>spF κ (K w.params) (clK pg 20) "law") hn (2:) hdf ⟨rfl,by decide,by decide⟩ hY F (λ_ _ a ns hl _ hS=>qkc hS (qfO ns hl)) λ_ _ _ _ _ z=>z
end K72
open PySem PySem.W PyProof.Rows
set_option maxRecDepth 100000 in
set_option maxHeartbeats 0 in
theorem PySem.Challenge.cw_daysgate_k72_books_alike_holds : PySem.Challenge.rw_daysgate_k72_books_alike.Holds := by
 w_on;refine holds_law saidX λsaid=>?_
 refine holds_open (q:=K72.Hq) (loose:=[]) (Xt:=K72.Hx) (XP:=XL K72.Hq []) (Yf:=λs=>K72.Has.map s.heap.get?) (Ya:=λw=>(K72.HK w.params).map λp=>some p.2) (YP:=InK K72.HK) (N:=10194) K72.qmP (InK.of K72.HKe) InK.keeps (λs e=>xl_of s (Bool.and_eq_true_iff.mp e).1) XL.keeps (by rfl) (by rfl) (by rfl) (λs e=>recFacts_of (Bool.and_eq_true_iff.mp e).2) (by rfl) (by first | assumption | decide+kernel) (by decide+kernel) ⟨rfl,rfl,rfl,rfl,rfl,by decide+kernel⟩ ?hw ?hc
 (case hw=>w_witness2)
 k_fill
 refine K72.qor (l:=PySem.Challenge.rw_daysgate_k72_books_alike) (κ:=(DG.kap (nat_lit 280) (nat_lit 306) (nat_lit 332) (nat_lit 472))) rfl rfl (λw h Y=>Y) ?F
 case F=>
  intro w mg fa h KX G hmg
  refine' K72.qln KX G hmg ?_ ?_ ?_ ?_ ?_ ?_ ?_ ?_ ?_ ?_ ?_ ?_ ?_ ?_ ?_ ?_ ?_ ?_ ?_ ?_ ?_ ?_ ?_ ?_ ?_ ?_ ?_ ?_ ?_ ?_ ?_ ?_ ?_ ?_ ?_ ?_ ?_ ?_ ?_ ?_ ?_ ?_ ?_ ?_ ?_ ?_ ?_ ?_ ?_ ?_ ?_ ?_ ?_ ?_ ?_ ?_ ?_ ?_ ?_ ?_ ?_ ?_ ?_ ?_ ?_ ?_ ?_ ?_ ?_ ?_ ?_ ?_ ?_ ?_ ?_ ?_ ?_ ?_ ?_ ?_ ?_ ?_ ?_ ?_ ?_ ?_ ?_ ?_
  all_goals try first | k_is | exact⟨by k_is,by unfold DG.Y6;exact⟨_,_,_,_,_,_,_,_,_,by k_is,by k_is,by k_is⟩⟩ | (unfold DG.Y6;exact⟨_,_,_,_,_,_,_,_,_,by k_is,by k_is,by k_is⟩) | (refine⟨⟨?_,?_,?_,?_⟩,?_,?_⟩<;>k_is) | kit_is | (repeat first | exact .nil | refine .cons ⟨by k_is,by unfold DG.Y6;exact⟨_,_,_,_,_,_,_,_,_,by k_is,by k_is,by k_is⟩⟩ ?_ | refine .cons (by k_is) ?_)
  all_goals try first | kernel_rfl | (refine⟨?_,?_,?_⟩<;>first | k_is | kernel_rfl) | (refine⟨⟨?_,?_,?_,?_,?_,?_,?_,?_⟩,?_,?_⟩<;>first | k_is | kernel_rfl) | (refine⟨?_,?_,?_,?_,?_,?_,?_,?_⟩<;>first | k_is | kernel_rfl) | (repeat first | exact .nil | refine .cons (by k_is) ?_ | refine .cons (by kit_is) (by kit_is) ?_ | refine .cons (by kernel_rfl) (by kernel_rfl) ?_)
#print axioms PySem.Challenge.cw_daysgate_k72_books_alike_holds
