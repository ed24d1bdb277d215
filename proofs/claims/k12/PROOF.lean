import PyProof.Rows.All
import Wide.All
import OpenK.AllK
import Wide.FinOn
import Lean
import PyProof.EqAt
import PyProof.EqKinds
import PyProof.TupleCall
import PyProof.Rows.Range3
import KE.KRevIter
import PyProof.ExcInit
import PyProof.InstStoreFacts
import PyProof.FString2
import PyProof.CallStr
import PyProof.Rows.StrNews2
import KE.KIntText
import PyProof.StrLawsTight
import PyProof.StrLawsReplace
import PySem.Challenge.RW_daysgate_k12_lines_of_rules
set_option Elab.async false
set_option linter.all false
set_option maxRecDepth 100000
set_option compiler.extract_closed false
set_option bootstrap.genMatcherCode false
set_option genSizeOf false
set_option genInjectivity false
set_option backward.eqns.nonrecursive false
noncomputable section
abbrev PP:=List (PySem.Addr×PySem.Obj)
abbrev PQ:=PySem.Value->PySem.Shared->Prop
abbrev PR:=PySem.Str->Option PySem.Value
open PySem.W (Frag)
set_option hygiene false
local macro_rules
| `(%[$n:num|0])=>`(.cons (.var $n) .nil)
| `(%[$a|0])=>`(.cons $a .nil)
| `(%[$n:num,$b,*|0])=>`(.cons (.var $n) %[$b,*|0])
| `(%[$a,$b,*|0])=>`(.cons $a %[$b,*|0])
| `(%[$n:num|1])=>`(qC (pg:=pg) (st:=top $n) (by kernel_rfl) (λk cl=>by kernel_rfl))
set_option hygiene true
theorem saidX:PySem.Challenge.rw_daysgate_k12_lines_of_rules.wellSaid=true:=by kernel_rfl
local macro_rules | `((1:))=>`(by omega) | `((2:))=>`(by decide)
local macro_rules | `(tactic| simp? only[$ls,*]) => do
  let f (s : String) (k : Lean.Name) := (s.splitOn " ").toArray.map λn => Lean.mkIdent (k ++ n.toName)
  let b <- (f "Rv.list? Rv.plain? Rv.data Rv.int? Rv.str? Rv.bl? Rv.tup? int2 seqD Rv.non? idxD sliceD truthD lenD listD intD strD tupD maxD minD B1.go B2.go Ty.of Ty.go toAr toSl flR slN runD th_ok of_some slR_s slR_v slR_o slR_b slR_c slX_s slX_v slX_o ownI_s ownI_o kk_f kk_cs xR_var xR_con xR_bin xR_not xR_one xR_and xR_cmp xR_idx xR_sli xR_lst xR_tup xR_call xR_b1 xR_b2 xR_isc xR_fld xR_met xR_fst xR_dct xR_new xR_isi xR_comp yRet yBl yTmp yB1 yB2 yNot yAnd yC1 yC2 yI1 yI2 yS1 yS2 yS3 yLst yTup yCall yF1 yG1 yG2 yIsc yDat yFld yMt3 yMt2 yMt1 yMtO yMtN yMtI yStr yFst yDct bm_s yMts sm_split sm_part yNew yIsi yComp xT_not xT_one xT_and xT_or xT_cmp xT_val yBo yTn yTa yTo yD1 yD2 yTv xF_yes xF_test xEs_nil xEs_cons yE1 yE2 xAs_nil xAs_cons yA1 yA2 xO_none xO_some yO xI_seq xI_rng xI_zip ySeq yRng yZ1 yZ2 yVal yValt yValL yValLt yValLm yX yXt yAv yAx yAxt yCons xE_s xE_v xE_o xL_s xL_l xL_z xL_o oGo_some xS_app yApp yApp2 xS_ret yRt xS_set ySet xS_setT yST yNx xS_ite yIte xS_for yFor xSs_nil xSs_cons yNext yNextr xFo_cons yFo1 yFo2 yFo2r xP_cons yP1 yP2 yP3 eE_bin eL_bin eX_bin eA_bin eX_and eX_cmp eE_idx eL_idx eX_idx eA_sli eE_lst eX_lst eA_lst eE_fst eX_fst eA_dct eE_tup eX_tup eE_call eX_call eA_call eX_b1 eE_isc eL_fld eA_fld eE_met eL_met eA_met eX_new eA_comp eE_var eE_con eL_var eX_var eX_con eA_var eA_con bAdd bAdds bAddtt bAddct bSub bMult bDiv bMod bPow cEq cNe cLt cLe cGt cIn cNi mIn rgoV rgoT setIs_nil setIs_cons g_mapc g_mapn g_lenc g_lenn g_rep0 g_reps g_appc g_appn g_set0 g_sets g_nott g_notf g_omap g_fe g_and g_df" `DE ++ f "Int.reduceLT Int.reduceLE Nat.reduceAdd Nat.reduceSub" .anonymous).mapM λn => `(Lean.Parser.Tactic.simpLemma| $n:ident)
  let d <- (f "sA_p sA_R sA_L rA_l rA_s rA_t rA_y" `DE ++ f "reduceIte" .anonymous).mapM λn => `(Lean.Parser.Tactic.simpLemma| ↓ $n:ident)
  let c : Array (Lean.TSyntax [`Lean.Parser.Tactic.simpStar, `Lean.Parser.Tactic.simpErase, `Lean.Parser.Tactic.simpLemma]) := (b ++ d).map (⟨·.raw⟩) ++ ls.getElems
  `(tactic| simp only[$c,*])
namespace TS
open PySem PyProof.Rows
section
variable{M:Model}{A:Around}{E:PQ}{s:Shared}{O:KeyOrd}{kf:Keyed->O.α}{κ:SortKind}{G:Keyed->Prop}
noncomputable def qcx(M:Model)(A:Around)(E:PQ)(s:Shared)(O:KeyOrd)(kf:Keyed->O.α)(κ:SortKind)(G:Keyed->Prop):Prop:=
 ∀x y,G x->G y->∀(st:SortSt) (Q:Option Bool->SortSt->Prop),kindOf st=κ->Q (some (O.blt (kf x) (kf y))) st->wpS M A E s (lt' x y) Q st
theorem qay{arr:Array Keyed}{p:Nat}{x:Keyed}{st:SortSt}{Q:Keyed->SortSt->Prop}(e:arr[p]?=some x)(h:Q x st):wpS M A E s (elem' arr p) Q st:=by rw[elem'_eq,e];exact wpS_pure h
variable{left:Bool}{key:Keyed}{arr:Array Keyed}{base n hint:Nat}{st:SortSt}{P:Nat->Bool}
end
end TS
namespace TS
open PySem PyProof.Rows
section
variable{O:KeyOrd}{kf:Keyed->O.α}
def le(O:KeyOrd)(kf:Keyed->O.α)(x y:Keyed):Prop:=O.kle (kf x) (kf y)
noncomputable def Srt(O:KeyOrd)(kf:Keyed->O.α)(a:Array Keyed)(lo hi:Nat):Prop:=∀(i j:Nat) (x y:Keyed),lo<=i->i<=j->j < hi->a[i]?=some x->a[j]?=some y->le O kf x y
theorem Srt.pw{a:Array Keyed}(h:Srt O kf a 0 a.size):a.toList.Pairwise (le O kf):=by
 rw[List.pairwise_iff_getElem];intro i j hi hj hij;have hj':j < a.size:=by simpa using hj
 have hi':i < a.size:=by simpa using hi
 exact h i j _ _ (1:) (1:) hj' (by simp[hi']) (by simp[hj'])
variable{a b o:Array Keyed}{i j:Nat}
end
end TS
namespace TS
open PySem PyProof.Rows
section
variable{M:Model}{A:Around}{E:PQ}{s:Shared}{O:KeyOrd}{kf:Keyed->O.α}{κ:SortKind}{G:Keyed->Prop}{a b:Array Keyed}
theorem qaz{a:Array Keyed}{i:Nat}(h:i < a.size):∃x,a[i]?=some x/\x∈a.toList:=⟨a[i],Array.getElem?_eq_getElem h,by simp⟩
end
end TS
namespace TS
open PySem PyProof.Rows
section
variable{O:KeyOrd}{kf:Keyed->O.α}
noncomputable def KA(O:KeyOrd)(kf:Keyed->O.α)(xs:Array Keyed)(i:Nat):O.α:=kf (xs[i]?.getD (Value.none,Value.none))
noncomputable def Inc(O:KeyOrd)(kf:Keyed->O.α)(xs:Array Keyed)(lo hi:Nat):Prop:=∀i j,lo<=i->i<=j->j < hi->O.kle (KA O kf xs i) (KA O kf xs j)
noncomputable def Dec(O:KeyOrd)(kf:Keyed->O.α)(xs:Array Keyed)(lo hi:Nat):Prop:=∀i j,lo<=i->i<=j->j < hi->O.kle (KA O kf xs j) (KA O kf xs i)
theorem jr{xs ys:Array Keyed}{i j:Nat}(h:xs[i]?=ys[j]?):KA O kf xs i=KA O kf ys j:=by unfold KA;rw[h]
theorem qcy{xs:Array Keyed}{i:Nat}{x:Keyed}(h:xs[i]?=some x):KA O kf xs i=kf x:=by unfold KA;rw[h];rfl
theorem Inc.srt{xs:Array Keyed}{lo hi:Nat}(h:Inc O kf xs lo hi):Srt O kf xs lo hi:=λi j x y h1 h2 h3 e1 e2=>by
 have:=h i j h1 h2 h3
 rw[qcy e1,qcy e2] at this;exact this
theorem yr{xs:Array Keyed}{i j:Nat}(hj:j<=xs.size)(k:Nat):KA O kf (mirror xs i j ((j - i) / 2)) k=if i<=k/\k < j then KA O kf xs (i+j - 1 - k) else KA O kf xs k:=by
 have e:=getElem?_mirror_all (i:=i) hj k
 by_cases h:i<=k/\k < j
 ·rw[if_pos h] at e ⊢;exact jr e
 ·rw[if_neg h] at e ⊢;exact jr e
theorem qU{xs:Array Keyed}{i j:Nat}(hj:j<=xs.size)(heq:∀k,i<=k->k < j->KA O kf xs k=KA O kf xs (j - 1))(k:Nat):KA O kf (mirror xs i j ((j - i) / 2)) k=KA O kf xs k:=by
 rw[yr hj];split
 ·rw[heq _ (1:) (1:),heq k (1:) (1:)]
 ·rfl
theorem J1{xs:Array Keyed}{src d:Nat}(hs:src < xs.size)(hd:d<=src)(k:Nat) :
  KA O kf (bubble xs src d) k=if k=src - d then KA O kf xs src else if src - d < k/\k<=src then KA O kf xs (k - 1) else KA O kf xs k:=by
 have e:=getElem?_bubble hs d hd k
 by_cases h1:k=src - d
 ·rw[if_pos h1] at e ⊢;exact jr e
 ·rw[if_neg h1] at e ⊢
  by_cases h2:src - d < k/\k<=src
  ·rw[if_pos h2] at e ⊢;exact jr e
  ·rw[if_neg h2] at e ⊢;exact jr e
structure Re(lo:Nat)(xs ys:Array Keyed):Prop where
 perm:ys.Perm xs
 keep:∀k,k < lo->ys[k]?=xs[k]?
theorem Re.refl(lo:Nat)(xs:Array Keyed):Re lo xs xs:=⟨Array.Perm.refl _,λ_ _=>rfl⟩
theorem Re.trans{lo:Nat}{xs ys zs:Array Keyed}(a:Re lo xs ys)(b:Re lo ys zs):Re lo xs zs:=⟨b.perm.trans a.perm,λk h=>(b.keep k h).trans (a.keep k h)⟩
theorem Re.size{lo:Nat}{xs ys:Array Keyed}(a:Re lo xs ys):ys.size=xs.size:=a.perm.size_eq
theorem Re.mirror{lo i j:Nat}{xs:Array Keyed}(hi:lo<=i)(hj:j<=xs.size):Re lo xs (mirror xs i j ((j - i) / 2)):=⟨mirror_perm _ _ _ _,λk h=>by rw[getElem?_mirror_all hj k,if_neg (1:)]⟩
theorem Re.bubble{lo src d:Nat}{xs:Array Keyed}(hs:src < xs.size)(hd:lo+d<=src):Re lo xs (bubble xs src d):=⟨bubble_perm _ _ _,λk h=>by rw[getElem?_bubble hs d (1:),if_neg (1:),if_neg (1:)]⟩
theorem Re.mem{lo:Nat}{xs ys:Array Keyed}(a:Re lo xs ys){G:Keyed->Prop}(h:∀x∈xs.toList,G x):∀x∈ys.toList,G x:=λx hx=>h x ((Array.perm_iff_toList_perm.mp a.perm).mem_iff.mp hx)
end
abbrev ASt:=Option (Option Nat)×Nat
abbrev BSt:=Option (Option Nat)×Nat×Nat
noncomputable def asc(lo a nrem:Nat):StateT SortSt Sem ASt:=
 forIn [a:nrem] ((none,a):ASt) λ_ c=>do
  let r<-ltAt' (lo+c.2) (lo+c.2 - 1)
  match r with
  |some sm=>if sm=true then pure (.done (none,c.2)) else pure (.yield (none,c.2+1))
  |_=>pure (.done (some none,c.2))
noncomputable def dsc(lo a nrem:Nat):StateT SortSt Sem BSt:=
 forIn [a:nrem] ((none,a,0):BSt) λ_ c=>do
  let r<-ltAt' (lo+c.2.1) (lo+c.2.1 - 1)
  match r with
  |some sm=>
   if sm=true then
    if c.2.2 > 0 then do
     reverseSlice' (lo+c.2.1 - (c.2.2+1)) (lo+c.2.1)
     pure (.yield (none,c.2.1+1,0))
    else pure (.yield (none,c.2.1+1,0))
   else do
    let r<-ltAt' (lo+c.2.1 - 1) (lo+c.2.1)
    match r with
    |some lg=>if lg=true then pure (.done (none,c.2.1,c.2.2)) else pure (.yield (none,c.2.1+1,c.2.2+1))
    |_=>pure (.done (some none,c.2.1,c.2.2))
  |_=>pure (.done (some none,c.2.1,c.2.2))
noncomputable def tl3(lo n nrem:Nat):StateT SortSt Sem (Option Nat):=do
 reverseSlice' lo (lo+n)
 let c<-asc lo n nrem
 match c.1 with
 |some r=>pure r
 |none=>pure (some c.2)
noncomputable def dpt(lo n nrem:Nat):StateT SortSt Sem (Option Nat):=do
 rule "list.sort.descending-run"
 let c<-dsc lo (n+1) nrem
 match c.1 with
 |some r=>pure r
 |none=>if c.2.2 > 0 then do reverseSlice' (lo+c.2.1 - (c.2.2+1)) (lo+c.2.1);tl3 lo c.2.1 nrem else tl3 lo c.2.1 nrem
theorem qjP(lo nrem:Nat):countRun' lo nrem=(do
 let c<-asc lo 1 nrem
 match c.1 with
 |some r=>pure r
 |none=>
  if (c.2 == nrem)=true then pure (some c.2)
  else if c.2 > 1 then do
   let r<-ltAt' lo (lo+c.2 - 1)
   match r with
   |some rs=>if rs=true then pure (some c.2) else do reverseSlice' lo (lo+c.2);dpt lo c.2 nrem
   |_=>pure none
  else dpt lo c.2 nrem):=by
 rw[countRun'_eq];show(forIn _ _ _ >>= _:StateT SortSt Sem (Option Nat))=asc lo 1 nrem >>= _;refine congr (congrArg Bind.bind ?_) (funext λc=>?_)
 ·delta asc
  refine congrArg (forIn _ _) (funext λ_=>funext λc=>?_);refine congrArg (λz=>_ >>= z) (funext λr=>?_)
  cases r with
  |none=>exact rfl
  |some sm=>exact rfl
 ·obtain⟨c1,c2⟩:=c
  cases c1 with
  |some r=>rfl
  |none=>
   show(ite _ _ (ite _ _ _):StateT SortSt Sem (Option Nat))=ite _ _ (ite _ _ _);refine congrArg (ite _ _) ?_;refine congr (congrArg (ite _) ?_) ?_
   ·refine congrArg (λz=>_ >>= z) (funext λr=>?_)
    cases r with
    |none=>exact rfl
    |some rs=>
     show(ite _ _ _:StateT SortSt Sem (Option Nat))=ite _ _ _;refine congrArg (ite _ _) ?_;refine congrArg (λz=>_ >>= z) (funext λ_=>?_)
     delta dpt
     refine congrArg (λz=>_ >>= z) (funext λ_=>?_);show(forIn _ _ _ >>= _:StateT SortSt Sem (Option Nat))=dsc lo (c2+1) nrem >>= _;refine congr (congrArg Bind.bind ?_) (funext λd=>?_)
     ·delta dsc
      refine congrArg (forIn _ _) (funext λ_=>funext λc=>?_);refine congrArg (λz=>_ >>= z) (funext λr=>?_)
      cases r with
      |none=>exact rfl
      |some sm=>
       show(ite _ _ _:StateT SortSt Sem (ForInStep BSt))=ite _ _ _;refine congr (congrArg (ite _) ?_) ?_
       ·exact rfl
       ·refine congrArg (λz=>_ >>= z) (funext λr=>?_)
        cases r with
        |none=>exact rfl
        |some lg=>exact rfl
     ·obtain⟨d1,d2,d3⟩:=d
      cases d1 with
      |some r=>exact rfl
      |none=>
       show(ite _ _ _:StateT SortSt Sem (Option Nat))=ite _ _ _;refine congr (congrArg (ite _) ?_) ?_
       ·refine congrArg (λz=>_ >>= z) (funext λ_=>?_)
        delta tl3
        refine congrArg (λz=>_ >>= z) (funext λ_=>?_);show(forIn _ _ _ >>= _:StateT SortSt Sem (Option Nat))=asc lo d2 nrem >>= _;refine congr (congrArg Bind.bind ?_) (funext λe=>?_)
        ·delta asc
         refine congrArg (forIn _ _) (funext λ_=>funext λc=>?_);refine congrArg (λz=>_ >>= z) (funext λr=>?_)
         cases r with
         |none=>exact rfl
         |some sm=>exact rfl
        ·obtain⟨e1,e2⟩:=e
         cases e1 with
         |some r=>exact rfl
         |none=>exact rfl
       ·delta tl3
        refine congrArg (λz=>_ >>= z) (funext λ_=>?_);show(forIn _ _ _ >>= _:StateT SortSt Sem (Option Nat))=asc lo d2 nrem >>= _;refine congr (congrArg Bind.bind ?_) (funext λe=>?_)
        ·delta asc
         refine congrArg (forIn _ _) (funext λ_=>funext λc=>?_);refine congrArg (λz=>_ >>= z) (funext λr=>?_)
         cases r with
         |none=>exact rfl
         |some sm=>exact rfl
        ·obtain⟨e1,e2⟩:=e
         cases e1 with
         |some r=>exact rfl
         |none=>exact rfl
   ·show _=dpt lo c2 nrem
    delta dpt
    refine congrArg (λz=>_ >>= z) (funext λ_=>?_);show(forIn _ _ _ >>= _:StateT SortSt Sem (Option Nat))=dsc lo (c2+1) nrem >>= _;refine congr (congrArg Bind.bind ?_) (funext λd=>?_)
    ·delta dsc
     refine congrArg (forIn _ _) (funext λ_=>funext λc=>?_);refine congrArg (λz=>_ >>= z) (funext λr=>?_)
     cases r with
     |none=>exact rfl
     |some sm=>
      show(ite _ _ _:StateT SortSt Sem (ForInStep BSt))=ite _ _ _;refine congr (congrArg (ite _) ?_) ?_
      ·exact rfl
      ·refine congrArg (λz=>_ >>= z) (funext λr=>?_)
       cases r with
       |none=>exact rfl
       |some lg=>exact rfl
    ·obtain⟨d1,d2,d3⟩:=d
     cases d1 with
     |some r=>exact rfl
     |none=>
      show(ite _ _ _:StateT SortSt Sem (Option Nat))=ite _ _ _;refine congr (congrArg (ite _) ?_) ?_
      ·refine congrArg (λz=>_ >>= z) (funext λ_=>?_)
       delta tl3
       refine congrArg (λz=>_ >>= z) (funext λ_=>?_);show(forIn _ _ _ >>= _:StateT SortSt Sem (Option Nat))=asc lo d2 nrem >>= _;refine congr (congrArg Bind.bind ?_) (funext λe=>?_)
       ·delta asc
        refine congrArg (forIn _ _) (funext λ_=>funext λc=>?_);refine congrArg (λz=>_ >>= z) (funext λr=>?_)
        cases r with
        |none=>exact rfl
        |some sm=>exact rfl
       ·obtain⟨e1,e2⟩:=e
        cases e1 with
        |some r=>exact rfl
        |none=>exact rfl
      ·delta tl3
       refine congrArg (λz=>_ >>= z) (funext λ_=>?_);show(forIn _ _ _ >>= _:StateT SortSt Sem (Option Nat))=asc lo d2 nrem >>= _;refine congr (congrArg Bind.bind ?_) (funext λe=>?_)
       ·delta asc
        refine congrArg (forIn _ _) (funext λ_=>funext λc=>?_);refine congrArg (λz=>_ >>= z) (funext λr=>?_)
        cases r with
        |none=>exact rfl
        |some sm=>exact rfl
       ·obtain⟨e1,e2⟩:=e
        cases e1 with
        |some r=>exact rfl
        |none=>exact rfl
section
variable{M:Model}{A:Around}{E:PQ}{s:Shared}{O:KeyOrd}{kf:Keyed->O.α}{κ:SortKind}{G:Keyed->Prop}
theorem yt(L:qcx M A E s O kf κ G){st:SortSt}{i j:Nat}{Q:Option Bool->SortSt->Prop}(hk:kindOf st=κ)(hG:∀x∈(arrOf st).toList,G x)(hi:i < (arrOf st).size)(hj:j < (arrOf st).size)
  (h:Q (some (O.blt (KA O kf (arrOf st) i) (KA O kf (arrOf st) j))) st):wpS M A E s (ltAt' i j) Q st:=by
 rw[ltAt'_eq];refine wpS_bind (wpS_get ?_);obtain⟨x,ex,mx⟩:=qaz hi;obtain⟨y,ey,my⟩:=qaz hj;rw[qcy ex,qcy ey] at h;exact wpS_bind (qay ex (wpS_bind (qay ey (L x y (hG x mx) (hG y my) st Q hk h))))
theorem QV{i j:Nat}{st:SortSt}{Q:Unit->SortSt->Prop}(h:Q () (setArr st (mirror (arrOf st) i j ((j - i) / 2)))):wpS M A E s (reverseSlice' i j) Q st:=by rw[reverseSlice'_eq];exact wpS_modify h
theorem qd5(L:qcx M A E s O kf κ G){st:SortSt}{lo a nrem:Nat}{Q:ASt->SortSt->Prop}(hk:kindOf st=κ)(hG:∀x∈(arrOf st).toList,G x)(hn:lo+nrem<=(arrOf st).size)(ha:1<=a)(han:a<=nrem)
  (hs:Inc O kf (arrOf st) lo (lo+a))
  (h:∀n,a<=n->n<=nrem->Inc O kf (arrOf st) lo (lo+n)->(n=nrem\/O.klt (KA O kf (arrOf st) (lo+n)) (KA O kf (arrOf st) (lo+n - 1)))->Q (none,n) st):wpS M A E s (asc lo a nrem) Q st:=by
 unfold asc;refine wpS_forRange (I:=λx c st'=>st'=st/\c=(none,x)/\Inc O kf (arrOf st) lo (lo+x)) ?step ?fin ⟨rfl,rfl,hs⟩
 case fin=>rintro c st' ⟨rfl,rfl,hs'⟩;rw[show max a nrem=nrem by omega] at hs' ⊢;exact h nrem han (Nat.le_refl _) hs' (.inl rfl)
 case step=>
  rintro x c st' hax hxn ⟨rfl,rfl,hs'⟩;dsimp only;refine wpS_bind (yt L hk hG (1:) (1:) ?_)
  cases hb:O.blt (KA O kf (arrOf st') (lo+x)) (KA O kf (arrOf st') (lo+x - 1)) with
  |true=>simp only[if_true];exact wpS_pure (h x hax (1:) hs' (.inr hb))
  |false=>
   simp only[Bool.false_eq_true,if_false];refine wpS_pure ⟨rfl,rfl,λi j h1 h2 h3=>?_⟩
   by_cases hjx:j < lo+x
   ·exact hs' i j h1 h2 hjx
   ·have:j=lo+x:=by omega
    subst this
    by_cases e:i=lo+x
    ·subst e;exact KeyOrd.kle_refl _
    ·exact KeyOrd.kle_trans (hs' i (lo+x - 1) h1 (1:) (1:)) hb
noncomputable def ZN(O:KeyOrd)(kf:Keyed->O.α)(lo nrem:Nat)(st:SortSt)(Q:Option Nat->SortSt->Prop):Prop:=
 ∀m xs,Re lo (arrOf st) xs->1<=m->m<=nrem->Inc O kf xs lo (lo+m)->Q (some m) (setArr st xs)
theorem ZN.step{lo nrem:Nat}{st:SortSt}{Q:Option Nat->SortSt->Prop}{xs:Array Keyed}(h:ZN O kf lo nrem st Q)(r:Re lo (arrOf st) xs):ZN O kf lo nrem (setArr st xs) Q:=
 λm ys r' h1 h2 h3=>h m ys (r.trans r') h1 h2 h3
theorem qd6(L:qcx M A E s O kf κ G){st:SortSt}{lo n nrem:Nat}{Q:Option Nat->SortSt->Prop}(hk:kindOf st=κ)(hG:∀x∈(arrOf st).toList,G x)(hn:lo+nrem<=(arrOf st).size)(h1:1<=n)(hnn:n<=nrem)
  (hs:Dec O kf (arrOf st) lo (lo+n)) (h:ZN O kf lo nrem st Q):wpS M A E s (tl3 lo n nrem) Q st:=by
 unfold tl3;refine wpS_bind (QV ?_);have r:Re lo (arrOf st) (mirror (arrOf st) lo (lo+n) ((lo+n - lo) / 2)):=Re.mirror (Nat.le_refl _) (1:);refine wpS_bind (qd5 L (st:=setArr st (mirror (arrOf st) lo (lo+n) ((lo+n - lo) / 2))) hk (r.mem hG) (by have:=r.size;show lo+nrem<=(mirror (arrOf st) lo (lo+n) ((lo+n - lo) / 2)).size;omega) h1 hnn ?_ λm hm1 hm2 hs2 _=>wpS_pure (h m _ r (1:) hm2 hs2));intro i j h2 h3 h4;show O.kle (KA O kf (mirror (arrOf st) lo (lo+n) ((lo+n - lo) / 2)) i) (KA O kf (mirror (arrOf st) lo (lo+n) ((lo+n - lo) / 2)) j);rw[yr (1:),yr (1:),if_pos (1:),if_pos (1:)];exact hs _ _ (1:) (1:) (1:)
theorem qgK(L:qcx M A E s O kf κ G){st:SortSt}{lo n nrem:Nat}{Q:BSt->SortSt->Prop}(hk:kindOf st=κ)(hG:∀x∈(arrOf st).toList,G x)(hn:lo+nrem<=(arrOf st).size)(h1:1<=n)(hnn:n<=nrem)
  (hs:Dec O kf (arrOf st) lo (lo+n))
  (h:∀m ne xs,Re lo (arrOf st) xs->n<=m->m<=nrem->Dec O kf xs lo (lo+m)->ne+1<=m->(∀i,lo+m - (ne+1)<=i->i < lo+m->KA O kf xs i=KA O kf xs (lo+m - 1))->Q (none,m,ne) (setArr st xs)):wpS M A E s (dsc lo n nrem) Q st:=by
 unfold dsc
 refine wpS_forRange (I:=λx c st'=>∃ne xs,c=(none,x,ne)/\st'=setArr st xs/\Re lo (arrOf st) xs/\Dec O kf xs lo (lo+x)/\ne+1<=x/\(∀i,lo+x - (ne+1)<=i->i < lo+x->KA O kf xs i=KA O kf xs (lo+x - 1))) ?step ?fin
  ⟨0,arrOf st,rfl,rfl,Re.refl _ _,hs,by omega,λi a b=>by congr 1;omega⟩
 case fin=>rintro c st' ⟨ne,xs,rfl,rfl,r,hs',hq,he⟩;rw[show max n nrem=nrem by omega] at hs' hq he ⊢;exact h nrem ne xs r hnn (Nat.le_refl _) hs' hq he
 case step=>
  rintro x c st' hax hxn ⟨ne,xs,rfl,rfl,r,hs',hq,he⟩;dsimp only;have hsz:xs.size=(arrOf st).size:=r.size;refine wpS_bind (yt L (st:=setArr st xs) hk (r.mem hG) (by show lo+x < xs.size;omega) (by show lo+x - 1 < xs.size;omega) ?_);show wpS M A E s _ _ _
  cases hb:O.blt (KA O kf (arrOf (setArr st xs)) (lo+x)) (KA O kf (arrOf (setArr st xs)) (lo+x - 1)) with
  |true=>
   have hb:O.blt (KA O kf xs (lo+x)) (KA O kf xs (lo+x - 1))=true:=hb;simp only[if_true]
   have step1:∀ys:Array Keyed,(∀k,KA O kf ys k=KA O kf xs k)->Dec O kf ys lo (lo+(x+1)):=by
    intro ys hy i j a b d;rw[hy,hy]
    by_cases hjx:j < lo+x
    ·exact hs' i j a b hjx
    ·have:j=lo+x:=by omega
     subst this
     by_cases e:i=lo+x
     ·subst e;exact KeyOrd.kle_refl _
     ·exact KeyOrd.kle_trans (KeyOrd.kle_of_klt hb) (hs' i (lo+x - 1) a (1:) (1:))
   by_cases hneq:ne > 0
   ·rw[if_pos hneq];refine wpS_bind (QV (wpS_pure ⟨0,_,rfl,rfl,r.trans (Re.mirror (xs:=xs) (1:) (1:)),step1 _ (qU (xs:=xs) (1:) he),by omega,λi a b=>by congr 1;omega⟩))
   ·rw[if_neg hneq];exact wpS_pure ⟨0,xs,rfl,rfl,r,step1 _ (λ_=>rfl),by omega,λi a b=>by congr 1;omega⟩
  |false=>
   have hb:O.blt (KA O kf xs (lo+x)) (KA O kf xs (lo+x - 1))=false:=hb;simp only[Bool.false_eq_true,if_false];refine wpS_bind (yt L (st:=setArr st xs) hk (r.mem hG) (by show lo+x - 1 < xs.size;omega) (by show lo+x < xs.size;omega) ?_)
   cases hc:O.blt (KA O kf (arrOf (setArr st xs)) (lo+x - 1)) (KA O kf (arrOf (setArr st xs)) (lo+x)) with
   |true=>simp only[if_true];exact wpS_pure (h x ne xs r hax (1:) hs' hq he)
   |false=>
    have hc:O.blt (KA O kf xs (lo+x - 1)) (KA O kf xs (lo+x))=false:=hc;simp only[Bool.false_eq_true,if_false];have heqx:KA O kf xs (lo+x)=KA O kf xs (lo+x - 1):=KeyOrd.kle_antisymm hc hb;refine wpS_pure ⟨ne+1,xs,rfl,rfl,r,λi j a b d=>?_,by omega,λi a b=>?_⟩
    ·by_cases hjx:j < lo+x
     ·exact hs' i j a b hjx
     ·have:j=lo+x:=by omega
      subst this
      by_cases e:i=lo+x
      ·subst e;exact KeyOrd.kle_refl _
      ·rw[heqx];exact hs' i (lo+x - 1) a (1:) (1:)
    ·rw[show lo+(x+1) - 1=lo+x by omega]
     by_cases e:i=lo+x
     ·rw[e]
     ·rw[heqx];exact he i (1:) (1:)
theorem qd7(L:qcx M A E s O kf κ G){st:SortSt}{lo n nrem:Nat}{Q:Option Nat->SortSt->Prop}(hk:kindOf st=κ)(hG:∀x∈(arrOf st).toList,G x)(hn:lo+nrem<=(arrOf st).size)(hnn:n+1<=nrem)
  (hs:Dec O kf (arrOf st) lo (lo+(n+1))) (h:ZN O kf lo nrem st Q):wpS M A E s (dpt lo n nrem) Q st:=by
 unfold dpt;refine wpS_bind (wpS_lift (wpAny_rule ⟨rfl,?_⟩));refine wpS_bind (qgK L hk hG hn (1:) hnn hs λm ne xs r h1 h2 h3 h4 h5=>?_);dsimp only;have hsz:xs.size=(arrOf st).size:=r.size
 by_cases hneq:ne > 0
 ·rw[if_pos hneq];have r2:Re lo xs (mirror xs (lo+m - (ne+1)) (lo+m) ((lo+m - (lo+m - (ne+1))) / 2)):=Re.mirror (1:) (1:);refine wpS_bind (QV (qd6 L hk (r2.mem (r.mem hG)) (by have:=r2.size;show lo+nrem<=(mirror xs (lo+m - (ne+1)) (lo+m) ((lo+m - (lo+m - (ne+1))) / 2)).size;omega) (1:) h2 ?_ ((h.step r).step r2)));intro i j a b d;show O.kle (KA O kf (mirror xs _ _ _) j) (KA O kf (mirror xs _ _ _) i);rw[qU (1:) h5,qU (1:) h5];exact h3 i j a b d
 ·rw[if_neg hneq];exact qd6 L (st:=setArr st xs) hk (r.mem hG) (by show lo+nrem<=xs.size;omega) (1:) h2 h3 (h.step r)
theorem qjQ(L:qcx M A E s O kf κ G){st:SortSt}{lo nrem:Nat}{Q:Option Nat->SortSt->Prop}(hk:kindOf st=κ)(hG:∀x∈(arrOf st).toList,G x)(hn:lo+nrem<=(arrOf st).size)(h1:1<=nrem)
  (h:ZN O kf lo nrem st Q):wpS M A E s (countRun' lo nrem) Q st:=by
 rw[qjP];refine wpS_bind (qd5 L hk hG hn (Nat.le_refl 1) h1 (λi j a b d=>by have:i=j:=(1:);subst this;exact KeyOrd.kle_refl _) λn hn1 hn2 hsn hor=>?_);dsimp only
 by_cases hnn:n=nrem
 ·rw[if_pos (by simpa using hnn)];exact wpS_pure (h n _ (Re.refl _ _) hn1 hn2 hsn)
 ·rw[if_neg (by simpa using hnn)];have hlt:=hor.resolve_left hnn
  by_cases hgt:n > 1
  ·rw[if_pos hgt];refine wpS_bind (yt L hk hG (1:) (1:) ?_)
   cases hr:O.blt (KA O kf (arrOf st) lo) (KA O kf (arrOf st) (lo+n - 1)) with
   |true=>simp only[if_true];exact wpS_pure (h n _ (Re.refl _ _) hn1 hn2 hsn)
   |false=>
    simp only[Bool.false_eq_true,if_false]
    have hall:∀k,lo<=k->k < lo+n->KA O kf (arrOf st) k=KA O kf (arrOf st) (lo+n - 1):=by intro k a b;exact KeyOrd.kle_antisymm (hsn k (lo+n - 1) a (1:) (1:)) (KeyOrd.kle_trans hr (hsn lo k (Nat.le_refl _) a b))
    have r:Re lo (arrOf st) (mirror (arrOf st) lo (lo+n) ((lo+n - lo) / 2)):=Re.mirror (Nat.le_refl _) (1:);refine wpS_bind (QV (qd7 L hk (r.mem hG) (by have:=r.size;show lo+nrem<=(mirror (arrOf st) lo (lo+n) ((lo+n - lo) / 2)).size;omega) (1:) ?_ (h.step r)));intro i j a b d;show O.kle (KA O kf (mirror (arrOf st) _ _ _) j) (KA O kf (mirror (arrOf st) _ _ _) i);rw[qU (1:) hall,qU (1:) hall]
    by_cases hjn:j < lo+n
    ·rw[hall i (1:) (1:),hall j (1:) hjn];exact KeyOrd.kle_refl _
    ·have:j=lo+n:=by omega
     subst this
     by_cases e:i=lo+n
     ·subst e;exact KeyOrd.kle_refl _
     ·rw[hall i (1:) (1:)];exact KeyOrd.kle_of_klt hlt
  ·rw[if_neg hgt]
   have:n=1:=by omega
   subst this;refine qd7 L hk hG hn (1:) ?_ h;intro i j a b d
   by_cases e:i=j
   ·subst e;exact KeyOrd.kle_refl _
   ·have e1:i=lo:=by omega
    have e2:j=lo+1:=by omega
    subst e1 e2;exact KeyOrd.kle_of_klt (by simpa using hlt)
theorem qgL(L:qcx M A E s O kf κ G){st:SortSt}{lo n ok:Nat}{Q:Bool->SortSt->Prop}(hk:kindOf st=κ)(hG:∀x∈(arrOf st).toList,G x)(hn:lo+n<=(arrOf st).size)(hok:ok<=n)(hs:Inc O kf (arrOf st) lo (lo+ok))
  (h:∀xs,Re lo (arrOf st) xs->Inc O kf xs lo (lo+n)->Q true (setArr st xs)):wpS M A E s (binarySort' lo n ok) Q st:=by
 rw[binarySort'_eq]
 refine wpS_bind (wpS_mono (wpS_forRange (I:=λk c st'=>c=(none,())/\∃xs,st'=setArr st xs/\Re lo (arrOf st) xs/\Inc O kf xs lo (lo+min k n))
  (Q:=λc st'=>c=(none,())/\∃xs,st'=setArr st xs/\Re lo (arrOf st) xs/\Inc O kf xs lo (lo+n)) ?step ?fin ?init) ?post)
 case post=>rintro c st' ⟨rfl,xs,rfl,r,hs'⟩;exact wpS_pure (h xs r hs')
 case init=>
  refine⟨rfl,arrOf st,rfl,Re.refl _ _,λi j a b d=>?_⟩
  by_cases h1:ok=0
  ·have:i=j:=by omega
   subst this;exact KeyOrd.kle_refl _
  ·exact hs i j a b (1:)
 case fin=>
  rintro c st' ⟨hc,xs,rfl,r,hs'⟩;refine⟨hc,xs,rfl,r,?_⟩
  rwa[show min (max (max ok 1) n) n=n by omega] at hs'
 case step=>
  rintro k c st' hak hkn ⟨rfl,xs,rfl,r,hs'⟩;rw[show min k n=k by omega] at hs';have hsz:xs.size=(arrOf st).size:=r.size
  refine wpS_bind (wpS_mono (wpS_forRange (I:=λx c st''=>st''=setArr st xs/\∃l u,c=(none,l,u)/\l<=u/\u<=k/\u - l<=k - x/\
    (∀i,i < l->O.kle (KA O kf xs (lo+i)) (KA O kf xs (lo+k)))/\(∀i,u<=i->i < k->O.klt (KA O kf xs (lo+k)) (KA O kf xs (lo+i))))
   (Q:=λc st''=>st''=setArr st xs/\∃l u,c=(none,l,u)/\l<=k/\
    (∀i,i < l->O.kle (KA O kf xs (lo+i)) (KA O kf xs (lo+k)))/\(∀i,l<=i->i < k->O.klt (KA O kf xs (lo+k)) (KA O kf xs (lo+i)))) ?istep ?ifin ?iinit) ?ipost)
  case iinit=>exact⟨rfl,0,k,rfl,by omega,by omega,by omega,λi hi=>by omega,λi h1 h2=>by omega⟩
  case ifin=>
   rintro c st'' ⟨rfl,l,u,rfl,a,b,d,e,f⟩
   have:l=u:=by omega
   subst this;exact⟨rfl,l,l,rfl,b,e,f⟩
  case istep=>
   rintro x c st'' _ hxk ⟨rfl,l,u,rfl,a,b,d,e,f⟩;dsimp only
   by_cases hge:l≥u
   ·rw[if_pos hge]
    have:l=u:=by omega
    subst this;exact wpS_pure ⟨rfl,l,l,rfl,b,e,f⟩
   ·rw[if_neg hge];refine wpS_bind (yt L (st:=setArr st xs) hk (r.mem hG) (by show lo+k < xs.size;omega) (by show lo+(l+u) / 2 < xs.size;omega) ?_)
    cases hb:O.blt (KA O kf (arrOf (setArr st xs)) (lo+k)) (KA O kf (arrOf (setArr st xs)) (lo+(l+u) / 2)) with
    |true=>have hb:O.blt (KA O kf xs (lo+k)) (KA O kf xs (lo+(l+u) / 2))=true:=hb;simp only[if_true];refine wpS_pure ⟨rfl,l,(l+u) / 2,rfl,by omega,by omega,by omega,e,λi h1 h2=>?_⟩;exact KeyOrd.klt_of_klt_of_kle hb (hs' _ _ (1:) (1:) (1:))
    |false=>have hb:O.blt (KA O kf xs (lo+k)) (KA O kf xs (lo+(l+u) / 2))=false:=hb;simp only[Bool.false_eq_true,if_false];refine wpS_pure ⟨rfl,(l+u) / 2+1,u,rfl,by omega,by omega,by omega,λi h1=>?_,f⟩;exact KeyOrd.kle_trans (hs' (lo+i) (lo+(l+u) / 2) (1:) (1:) (1:)) (show O.kle _ _ from hb)
  case ipost=>
   rintro c st'' ⟨rfl,l,u,rfl,hlk,hlo,hhi⟩;show wpS _ _ _ _ (do moveDown' (lo+k) (lo+l);pure (ForInStep.yield (none,()))) _ _;rw[moveDown'_eq];have hks:lo+k < xs.size:=by omega
   refine wpS_bind (wpS_modify (wpS_pure ⟨rfl,_,rfl,r.trans (Re.bubble hks (d:=lo+k - (lo+l)) (1:)),?_⟩));rw[show min (k+1) n=k+1 by omega];intro i j a b d;show O.kle (KA O kf (bubble xs (lo+k) (lo+k - (lo+l))) i) (KA O kf (bubble xs (lo+k) (lo+k - (lo+l))) j);rw[J1 hks (1:),J1 hks (1:),show lo+k - (lo+k - (lo+l))=lo+l by omega]
   have lo':∀t,lo<=t->t < lo+l->O.kle (KA O kf xs t) (KA O kf xs (lo+k)):=λt h1 h2=>by
    have:=hlo (t - lo) (1:)
    rwa[show lo+(t - lo)=t by omega] at this
   have hi':∀t,lo+l<=t->t < lo+k->O.klt (KA O kf xs (lo+k)) (KA O kf xs t):=λt h1 h2=>by
    have:=hhi (t - lo) (1:) (1:)
    rwa[show lo+(t - lo)=t by omega] at this
   repeat' split
   all_goals first
    | (exfalso;omega)
    | exact KeyOrd.kle_refl _
    | exact lo' _ (1:) (1:)
    | exact KeyOrd.kle_of_klt (hi' _ (1:) (1:))
    | exact hs' _ _ (1:) (1:) (1:)
end
end TS
namespace L2
open PySem PySem.Spec PyProof.Rows
abbrev Key:=Sum Int Str
def ZO:Key->Value->Bool
 |.inl k,v=>Value.isInt k v
 |.inr x,v=>Value.isStrOf x v
def qls(w:World):Key->Int
 |.inl k=>hashInt k
 |.inr x=>hashStr w x
theorem qx:∀{k:Key} {v:Value},ZO k v=true->(∃i t,k=Sum.inl i/\v=Value.int i t)\/(∃x t,k=Sum.inr x/\v=Value.str x t)
 |.inl i,v,h=>by obtain⟨t,e⟩:=Value.isInt_shape (k:=i) (v:=v) h;exact .inl ⟨i,t,rfl,e⟩
 |.inr x,v,h=>by obtain⟨t,e⟩:=Value.isStrOf_shape (x:=x) (v:=v) h;exact .inr ⟨x,t,rfl,e⟩
theorem qaA(i:Int)(t:Tok):ZO (.inl i) (.int i t)=true:=by simp[ZO,Value.isInt]
theorem qaB(x:Str)(t:Tok):ZO (.inr x) (.str x t)=true:=by simp[ZO,Value.isStrOf]
theorem qgM(a b:Int):decide ((Sum.inl a:Key)=Sum.inl b)=(a == b):=by
 by_cases e:a=b
 ·subst e;simp
 ·have h:¬ (Sum.inl a:Key)=Sum.inl b:=λq=>e (Sum.inl.inj q);rw[decide_eq_false h];exact(beq_eq_false_iff_ne.mpr e).symm
theorem qgN(a b:Str):decide ((Sum.inr a:Key)=Sum.inr b)=decide (a=b):=by
 by_cases e:a=b
 ·subst e;simp
 ·have h:¬ (Sum.inr a:Key)=Sum.inr b:=λq=>e (Sum.inr.inj q);rw[decide_eq_false h,decide_eq_false e]
theorem qgO(a:Int)(b:Str):decide ((Sum.inl a:Key)=Sum.inr b)=false:=decide_eq_false (λq=>nomatch q)
theorem qgP(a:Str)(b:Int):decide ((Sum.inr a:Key)=Sum.inl b)=false:=decide_eq_false (λq=>nomatch q)
noncomputable def qq(prog:Program)(w:World):PySem.KeyKind prog w Key where
 is:=ZO
 hash:=qls w
 inj:=λv a b ha hb=>by
  rcases qx ha with ⟨i,t,rfl,rfl⟩ | ⟨x,t,rfl,rfl⟩
  ·rcases qx hb with ⟨j,u,rfl,e⟩ | ⟨y,u,rfl,e⟩
   ·injection e with e1 _;rw[e1]
   ·exact nomatch e
  ·rcases qx hb with ⟨j,u,rfl,e⟩ | ⟨y,u,rfl,e⟩
   ·exact nomatch e
   ·injection e with e1 _;rw[e1]
 byValue:=λk v h=>by rcases qx h with ⟨i,t,rfl,rfl⟩ | ⟨x,t,rfl,rfl⟩<;>rfl
 pyHash:=λhv h=>by
  rcases qx hv with ⟨i,t,rfl,rfl⟩ | ⟨x,t,rfl,rfl⟩
  ·exact wpAny_pyHash_int h
  ·exact wpAny_pyHash_str h
 eqBool:=λhu hv h=>by
  rcases qx hu with ⟨i,t,rfl,rfl⟩ | ⟨x,t,rfl,rfl⟩
  ·rcases qx hv with ⟨j,u,rfl,rfl⟩ | ⟨y,u,rfl,rfl⟩
   ·rw[qgM] at h;exact wpAny_eqBool_int h
   ·rw[qgO] at h;exact SeqAt.EqAt.int_str i t y u _ _ _ _ h
  ·rcases qx hv with ⟨j,u,rfl,rfl⟩ | ⟨y,u,rfl,rfl⟩
   ·rw[qgP] at h;exact SeqAt.EqAt.str_int x t j u _ _ _ _ h
   ·rw[qgN] at h;exact wpAny_eqBool_str h
 «strs»:=λk x t v h=>by
  rcases qx h with ⟨i,u,rfl,e⟩ | ⟨y,u,rfl,e⟩
  ·exact nomatch e
  ·injection e with e1 _;subst e1;cases v<;>rfl
theorem Qf(prog:Program)(w:World)(i:Int)(t:Tok):(qq prog w).is (.inl i) (.int i t)=true:=qaA i t
theorem Qg(prog:Program)(w:World)(x:Str)(t:Tok):(qq prog w).is (.inr x) (.str x t)=true:=qaB x t
end L2
namespace L2
open PySem PySem.Spec PyProof.Rows
inductive V where
 | non | bl (b:Bool) | int (i:Int) | str (x:Str) | byt (b:Array UInt8) | flt (b:UInt64) | ref (a:Addr) | ty (n:String)
 deriving DecidableEq
noncomputable def qB:V->Value->Prop
 |.non,u=>u=Value.none
 |.bl b,u=>u=Value.bool b
 |.int i,u=>∃t,u=Value.int i t
 |.str x,u=>∃t,u=Value.str x t
 |.byt b,u=>∃t,u=Value.bytes b t
 |.flt b,u=>∃t,u=Value.float b t
 |.ref a,u=>u=Value.ref a
 |.ty n,u=>u=Value.type n
abbrev qr:List V->List Value->Prop:=Paired qB
theorem qr.length{xs:List V}{us:List Value}(r:qr xs us):xs.length=us.length:=Paired.length r
theorem qr.get:∀{xs:List V} {us:List Value} {i:Nat} {x:V},qr xs us->xs[i]?=some x->∃u,us[i]?=some u/\qB x u
 |_,_,_,_,.nil,e=>by simp at e
 |_,_,0,_,.cons r _,e=>by simp at e;subst e;exact⟨_,rfl,r⟩
 | _,_,i+1,x,.cons _ t,e=>by obtain⟨u,h1,h2⟩:=qr.get (i:=i) (x:=x) t (by simpa using e);exact⟨u,by simpa using h1,h2⟩
theorem qr.set{x:V}{u:Value}(r:qB x u):∀{xs:List V} {us:List Value} (i:Nat),qr xs us->qr (xs.set i x) (us.set i u)
 |_,_,_,.nil=>.nil
 |_,_,0,.cons _ t=>.cons r t
 | _,_,i+1,.cons q t=>.cons q (qr.set r i t)
theorem qr.append:∀{xs ys:List V} {us ws:List Value},qr xs us->qr ys ws->qr (xs++ys) (us++ws)
 |_,_,_,_,.nil,s=>s
 |_,_,_,_,.cons r t,s=>.cons r (qr.append t s)
theorem qr.take:∀{xs:List V} {us:List Value} (n:Nat),qr xs us->qr (xs.take n) (us.take n)
 |_,_,0,_=>.nil
 | _,_,_+1,.nil=>.nil
 | _,_,n+1,.cons r t=>.cons r (qr.take n t)
theorem qr.drop:∀{xs:List V} {us:List Value} (n:Nat),qr xs us->qr (xs.drop n) (us.drop n)
 |_,_,0,r=>r
 | _,_,_+1,.nil=>.nil
 | _,_,n+1,.cons _ t=>qr.drop n t
def J2:Option V->Option Value->Prop
 |some v,some u=>qB v u
 |none,none=>True
 |_,_=>False
noncomputable def KV{κ:Type}:List (κ×V)->List (κ×Value)->Prop:=Paired λ(p:κ×V) (q:κ×Value)=>p.1=q.1/\qB p.2 q.2
def kV:Key->V
 |.inl i=>.int i
 |.inr x=>.str x
inductive HO where
 | lst (xs:List V)
 | tup (xs:List V)
 | dK (kvs:List (Key×V)) | dT (kvs:List (List Key×V))
 | set (S:Int->Bool) (n:Nat)
 | ins (C dx:Addr) (fs:List (Str×V))
 | own (x:Addr)
 | xd (fs:List (Str×V))
 | met (f x:Addr)
 | rng (lo hi:Int)
 | frz (o:Obj) (u:HO)
 | tbl (ps:Array Value)
 | ext (φ:Heap->Prop)
abbrev Hp:=Addr->Option HO
def upd(H:Hp)(a:Addr)(o:HO):Hp:=λb=>if b=a then some o else H b
theorem qg{H:Hp}{a:Addr}{o:HO}:upd H a o a=some o:=by unfold upd;rw[if_pos rfl]
theorem qf{H:Hp}{a b:Addr}{o:HO}(h:b≠a):upd H a o b=H b:=by unfold upd;rw[if_neg h]
theorem qP{H:Hp}{a b:Addr}{o:HO}(h:H a=some o)(h':H b=none):a≠b:=by intro e;subst e;rw[h] at h';cases h'
section
variable(P:Program)(w:World)
noncomputable def qy(H:Hp)(h:Heap)(a:Addr):HO->Prop
 |.lst xs=>xs.length<=sizeLine/\∃(its:List Value) (n:Nat),qr xs its/\h.get? a=some { cls:=.type "list",data:=.seq its.toArray n }
 |.tup xs=>xs.length<=sizeLine/\∃its:List Value,qr xs its/\IsTup h a its.toArray
 |.dK kvs=>kvs.length<=sizeLine/\(a == sysModules)=false/\∃vs,KV kvs vs/\h.DictOf (qq P w) a vs
 |.dT kvs=>kvs.length<=sizeLine/\(a == sysModules)=false/\∃xs:List (List Key×Addr×Value),
   Paired (λ(p:List Key×V) (q:List Key×Addr×Value)=>p.1=q.1/\H q.2.1=some (.tup (p.1.map kV))/\qB p.2 q.2.2) kvs xs/\
   ∃o es ep,h.get? a=some o/\o.ExactDict/\o.data=.dict es ep/\es.toList=xs.map (entryOfKey (tupleKind (qq P w)))/\(xs.map (·.1)).Nodup
 |.set S n=>h.SetOf (intKind P w) a S n
 |.ins C dx fs=>H dx=some (.own a)/\fs.length<=1000/\dx≠a/\h.get? a=some (PySem.W.instObj C dx)/\
   ∃mA,h.Ns1 dx mA/\(∀f,J2 (fs.lookup f) (mA f))/\PySem.Within mA (fs.map (·.1))
 |.own _=>∃o,h.get? a=some o
 |.xd fs=>∃mA,h.Ns1 a mA/\∀f,J2 (fs.lookup f) (mA f)
 |.rng lo hi=>∃t u v,h.get? a=some { cls:=.type "range",data:=.fields #[.int lo t,.int hi u,.int 1 v] }
 |.frz o u=>h.get? a=some o/\qy H h a u
 |.tbl ps=>h.get? a=some { cls:=.none,data:=.fields ps }
 |.met f x=>h.get? a=some (PySem.W.methodObj (.ref f) (.ref x))
 |.ext φ=>φ h/\(∃o,h.get? a=some o)/\∀h1 h2:Heap,φ h1->(∀o,h1.get? a=some o->h2.get? a=some o)->φ h2
def HOk(H:Hp)(h:Heap):Prop:=∀a o,H a=some o->qy P w H h a o
end
section
variable{P:Program}{w:World}{H H':Hp}{h h':Heap}{a:Addr}{o:HO}
theorem qy.lt(x:qy P w H h a o):a < h.objs.size:=by
 cases o with
 |lst xs=>obtain⟨_,_,_,_,e⟩:=x;exact Heap.lt_size e
 |tup xs=>obtain⟨_,_,_,p⟩:=x;exact p.lt
 |dK kvs=>obtain⟨_,_,_,_,o,_,_,e,_⟩:=x;exact Heap.lt_size e
 |dT kvs=>obtain⟨_,_,_,_,o,_,_,e,_⟩:=x;exact Heap.lt_size e
 |set S n=>obtain⟨o,_,_,_,e,_⟩:=x;exact Heap.lt_size e
 |ins C dx fs=>obtain⟨_,_,_,e,_⟩:=x;exact Heap.lt_size e
 |own y=>obtain⟨_,e⟩:=x;exact Heap.lt_size e
 |xd fs=>obtain⟨_,⟨_,_,_,e,_⟩,_⟩:=x;exact Heap.lt_size e
 |rng lo hi=>obtain⟨_,_,_,e⟩:=x;exact Heap.lt_size e
 |frz ob u=>obtain⟨e,_⟩:=x;exact Heap.lt_size e
 |tbl ps=>exact Heap.lt_size (show h.get? a=some _ from x)
 |met f y=>exact Heap.lt_size (show h.get? a=some _ from x)
 |ext φ=>obtain⟨_,⟨_,e⟩,_⟩:=x;exact Heap.lt_size e
theorem Paired.mapP{α β:Type}{F G:α->β->Prop}:∀{l₁:List α} {l₂:List β},Paired F l₁ l₂->(∀a b,F a b->G a b)->Paired G l₁ l₂
 |_,_,.nil,_=>.nil
 |_,_,.cons r t,f=>.cons (f _ _ r) (Paired.mapP t f)
theorem qy.stay(x:qy P w H h a o)(k:∀b u,(b=a\/H b=some (.own a))->h.get? b=some u->h'.get? b=some u)
  (ho:∀b,H b=some (.own a)->H' b=some (.own a)) (ht:∀b xs,H b=some (.tup xs)->H' b=some (.tup xs)):qy P w H' h' a o:=by
 induction o with
 |lst xs=>obtain⟨z,its,n,r,e⟩:=x;exact⟨z,its,n,r,k _ _ (.inl rfl) e⟩
 |tup xs=>obtain⟨z,its,r,ob,e,c⟩:=x;exact⟨z,its,r,ob,k _ _ (.inl rfl) e,c⟩
 |dK kvs=>obtain⟨z,y,vs,r,ob,es,ep,e,c⟩:=x;exact⟨z,y,vs,r,ob,es,ep,k _ _ (.inl rfl) e,c⟩
 |dT kvs=>obtain⟨z,y,xs,r,ob,es,ep,e,c⟩:=x;exact⟨z,y,xs,Paired.mapP r λp q z=>⟨z.1,ht _ _ z.2.1,z.2.2⟩,ob,es,ep,k _ _ (.inl rfl) e,c⟩
 |set S n=>obtain⟨ob,es,ep,t,e,c⟩:=x;exact⟨ob,es,ep,t,k _ _ (.inl rfl) e,c⟩
 |ins C dx fs=>obtain⟨d,z,ne,e,mA,⟨od,es,ep,e2,c⟩,r⟩:=x;exact⟨ho _ d,z,ne,k _ _ (.inl rfl) e,mA,⟨od,es,ep,k _ _ (.inr d) e2,c⟩,r⟩
 |own y=>obtain⟨ob,e⟩:=x;exact⟨ob,k _ _ (.inl rfl) e⟩
 |xd fs=>obtain⟨mA,⟨od,es,ep,e,c⟩,r⟩:=x;exact⟨mA,⟨od,es,ep,k _ _ (.inl rfl) e,c⟩,r⟩
 |rng lo hi=>obtain⟨t,u,v,e⟩:=x;exact⟨t,u,v,k _ _ (.inl rfl) e⟩
 |frz ob u ih=>obtain⟨e,q⟩:=x;exact⟨k _ _ (.inl rfl) e,ih q⟩
 |tbl ps=>have e:h.get? a=some { cls:=.none,data:=.fields ps }:=x;show h'.get? a=some { cls:=.none,data:=.fields ps };exact k a _ (.inl rfl) e
 |met f y=>have e:h.get? a=some (PySem.W.methodObj (.ref f) (.ref y)):=x;show h'.get? a=some (PySem.W.methodObj (.ref f) (.ref y));exact k a _ (.inl rfl) e
 |ext φ=>obtain⟨p,⟨o,e⟩,st⟩:=x;exact⟨st _ _ p λo q=>k _ _ (.inl rfl) q,⟨o,k _ _ (.inl rfl) e⟩,st⟩
theorem HOk.lt(x:HOk P w H h)(e:H a=some o):a < h.objs.size:=(x a o e).lt
theorem HOk.fresh(x:HOk P w H h)(e:h.objs.size<=a):H a=none:=by
 cases q:H a with
 |none=>rfl
 |some u=>exact absurd (Nat.lt_of_lt_of_le (x.lt q) e) (Nat.lt_irrefl _)
theorem HOk.kept(x:HOk P w H h)(k:∀b u,h.get? b=some u->h'.get? b=some u):HOk P w H h':=λa o e=>(x a o e).stay (λb u _ q=>k b u q) (λ_ q=>q) λ_ _ q=>q
theorem HOk.laid(x:HOk P w H h)(k:∀b u,h.get? b=some u->h'.get? b=some u)(hp:h.objs.size<=a)(new:qy P w (upd H a o) h' a o):HOk P w (upd H a o) h':=λb u e=>by
 have hn:=x.fresh hp
 by_cases hb:b=a
 ·subst hb;rw[qg] at e;cases e;exact new
 ·rw[qf hb] at e;exact(x b u e).stay (λc v _ q=>k c v q) (λc q=>by rw[qf (qP q hn)];exact q) λc xs q=>by rw[qf (qP q hn)];exact q
end
def Rd(H:Hp)(a:Addr)(u:HO):Prop:=H a=some u\/∃o,H a=some (.frz o u)
theorem Rd.ok{P:Program}{w:World}{H:Hp}{h:Heap}{a:Addr}{u:HO}(r:Rd H a u)(x:HOk P w H h):qy P w H h a u:=by
 rcases r with r | ⟨o,r⟩
 ·exact x a u r
 ·obtain⟨_,q⟩:=x a _ r;exact q
noncomputable def Mut:Option HO->Prop
 |some (.lst _)=>True
 |some (.dK _)=>True
 |some (.dT _)=>True
 |some (.set _ _)=>True
 |some (.ins _ _ _)=>True
 |some (.ext _)=>True
 |_=>False
section
variable{P:Program}{w:World}{H:Hp}{h h':Heap}{x e:Addr}{o':HO}
theorem HOk.write(ok:HOk P w H h)(mu:Mut (H x))(he:e=x\/H e=some (.own x))(k:∀b u,b≠e->h.get? b=some u->h'.get? b=some u)(heo:∃u,h'.get? e=some u)
  (new:qy P w (upd H x o') h' x o'):HOk P w (upd H x o') h':=λb u q=>by
 have nown:∀c y,H c=some (.own y)->c≠x:=λc y r z=>by subst z;rw[r] at mu;exact mu
 have ntup:∀c xs,H c=some (.tup xs)->c≠x:=λc xs r z=>by subst z;rw[r] at mu;exact mu
 by_cases hb:b=x
 ·subst hb;rw[qg] at q;cases q;exact new
 ·rw[qf hb] at q
  by_cases hbe:b=e
  ·have q':H b=some (.own x):=by
    rcases he with z | z
    ·exact absurd (hbe.trans z) hb
    ·rw[hbe];exact z
   rw[q] at q';cases q';obtain⟨v,hv⟩:=heo;exact⟨v,by rw[hbe];exact hv⟩
  ·refine(ok b u q).stay (λc v hc r=>k c v ?_ r) (λc r=>by rw[qf (nown c b r)];exact r) λc xs r=>by rw[qf (ntup c xs r)];exact r
   rcases hc with rfl | hc
   ·exact hbe
   ·rintro rfl;rcases he with z | z
    ·exact nown c b hc z
    ·rw[hc] at z;cases z;exact hb rfl
end
structure Un(fs ex:List Addr)(H H':Hp)(h h':Heap):Prop where
 keep:∀b o,h.get? b=some o->H b=none->b∉fs->b∉ex->h'.get? b=some o
 slot:∀b o,h.get? b=some o->H b=none->b∈fs->b∉ex->∃sl,h'.get? b=some { o with slots:=sl }
 free:∀b o,h.get? b=some o->H b=none->b∉ex->H' b=none
 there:∀b o,h.get? b=some o->b∉ex->∃o',h'.get? b=some o'
 tups:∀b xs,H b=some (.tup xs)->H' b=some (.tup xs)
 frzs:∀b o u,H b=some (.frz o u)->H' b=some (.frz o u)
 tbls:∀b ps,H b=some (.tbl ps)->∃more,H' b=some (.tbl (ps++more))
section
variable{fs fs' ex ex':List Addr}{H H1 H2:Hp}{h h1 h2 h':Heap}{a x e:Addr}{o:HO}
theorem Un.any(u:Un fs ex H H1 h h1){b:Addr}{ob:Obj}(q:h.get? b=some ob)(n:H b=none)(hx:b∉ex):∃sl,h1.get? b=some { ob with slots:=sl }:=by
 by_cases hb:b∈fs
 ·exact u.slot b ob q n hb hx
 ·exact⟨ob.slots,u.keep b ob q n hb hx⟩
theorem Un.kept(k:∀b u,h.get? b=some u->h'.get? b=some u):Un fs ex H H h h':=
 ⟨λb ob q _ _ _=>k b ob q,λb ob q _ _ _=>⟨ob.slots,k b ob q⟩,λ_ _ _ n _=>n,λb ob q _=>⟨ob,k b ob q⟩,λ_ _ q=>q,λ_ _ _ q=>q,λ_ ps q=>⟨#[],by rw[q];simp⟩⟩
theorem Un.refl:Un fs ex H H h h:=Un.kept λ_ _ q=>q
theorem Un.laid(k:∀b u,h.get? b=some u->h'.get? b=some u)(hp:h.objs.size<=a)(hn:H a=none):Un fs ex H (upd H a o) h h' where
 keep:=λb u q _ _ _=>k b u q
 slot:=λb u q _ _ _=>⟨u.slots,k b u q⟩
 free:=λb u q n _=>by rw[qf (Nat.ne_of_lt (Nat.lt_of_lt_of_le (Heap.lt_size q) hp))];exact n
 there:=λb u q _=>⟨u,k b u q⟩
 tups:=λb xs q=>by rw[qf (qP q hn)];exact q
 frzs:=λb u xs q=>by rw[qf (qP q hn)];exact q
 tbls:=λb ps q=>⟨#[],by rw[qf (qP q hn),q];simp⟩
theorem Un.write(mu:Mut (H x))(he:e=x\/H e=some (.own x))(k:∀b u,b≠e->h.get? b=some u->h'.get? b=some u)(heo:∃u,h'.get? e=some u):Un fs ex H (upd H x o) h h':=by
 have hx:∀b,H b=none->b≠x:=λb n z=>by subst z;rw[n] at mu;exact mu
 have hb:∀b,H b=none->b≠e:=λb n z=>by
  subst z;rcases he with r | r
  ·exact hx b n r
  ·rw[n] at r;cases r
 have hm:∀b u,H b=some u->¬ Mut (some u)->b≠x:=λb u q nm z=>by subst z;rw[q] at mu;exact nm mu
 refine⟨λb u q n _ _=>k b u (hb b n) q,λb u q n _ _=>⟨u.slots,k b u (hb b n) q⟩,λb u q n _=>by rw[qf (hx b n)];exact n,λb u q _=>?_,
  λb xs q=>by rw[qf (hm b _ q λz=>z)];exact q,λb u xs q=>by rw[qf (hm b _ q λz=>z)];exact q,λb ps q=>⟨#[],by rw[qf (hm b _ q λz=>z),q];simp⟩⟩
 by_cases hbe:b=e
 ·subst hbe;exact heo
 ·exact⟨u,k b u hbe q⟩
end
def trk(h:Heap)(H:Hp):List Addr:=(List.range h.objs.size).filter λa=>(H a).isSome
def qcz(h:Heap)(H:Hp):Heap:=PySem.W.hideAll h (trk h H)
theorem qaC(h:Heap)(H:Hp):(qcz h H).objs.size=h.objs.size:=PySem.W.hideAll_size _ _
theorem qcA{h:Heap}{H:Hp}{b:Addr}{o:Obj}(e:h.get? b=some o)(n:H b=none):(qcz h H).get? b=some o:=
 PySem.W.hideAll_get _ e λhm=>by have q:(H b).isSome=true:=(List.mem_filter.mp hm).2;rw[n] at q;simp at q
theorem qeL{h:Heap}{H:Hp}{b:Addr}{o:Obj}(e:(qcz h H).get? b=some o):h.get? b=some o/\H b=none:=by
 have e':h.get? b=some o:=PySem.W.of_hideAll (trk h H) e;refine⟨e',?_⟩
 cases q:H b with
 |none=>rfl
 |some x=>have hm:b∈trk h H:=List.mem_filter.mpr ⟨List.mem_range.mpr (Heap.lt_size e'),by simp[q]⟩;have z:(qcz h H).get? b=none:=PySem.W.hideAll_none (trk h H) hm;rw[z] at e;cases e
end L2
namespace L2
open PySem PySem.Spec PyProof.Rows
structure Mod(K:Frag)(mg:PR)(base:Heap):Prop where
 kin:K.In base
 glob:base.Ns mainGlobals mg
 blt:∃mb,base.Ns builtinsNs mb/\∀x:Str,x≠"__name__"->mb x=bootBuiltins x
 nolimit:base.NoLimit
structure Cx where
 prog:Program
 w:World
 K:Frag
 mg:PR
 base:Heap
 A:Around
 N:List Str
 s₀:Shared
 Hv:Hp
 env:Env
 outer:List Env
 stack:List Env
 ex:List Addr
 fn:Str->Bool
 calm:Bool
 pn:PP
 xe:PQ
def frs(l:List Env):List Addr:=l.filterMap (·.frame)
abbrev Cx.fs(X:Cx):List Addr:=frs X.outer
noncomputable def Vis(sc:Scope)(x:Str):Prop:=sc.names.lookup x=some .local\/sc.names.lookup x=some .cell\/sc.names.lookup x=some .free
def Loc(sc:Scope)(x:Str):Prop:=sc.names.lookup x=some .local\/sc.names.lookup x=some .cell
noncomputable def qlt(env:Env)(h:Heap)(m:PR)(x:Str)(u:Value):Prop:=
 (env.kindOf x=some .local/\m x=some u)\/((env.kindOf x=some .cell\/env.kindOf x=some .free)/\∃c,env.cells.lookup x=some c/\h.IsCell c (some u))
structure Cx.Ok(X:Cx):Prop where
 mod:Mod X.K X.mg X.base
 kind:X.env.scope.kind=.function
 glob:X.env.globals=mainGlobals
 blt:X.env.builtins=builtinsNs
 above:X.s₀.heap.objs.size<=X.env.locals
 inj:∀x y c,X.env.cells.lookup x=some c->X.env.cells.lookup y=some c->x=y
 has:∀x,(X.env.kindOf x=some .cell\/X.env.kindOf x=some .free)->∃c,X.env.cells.lookup x=some c
 cab:∀x c,X.fn x=true->X.env.cells.lookup x=some c->X.s₀.heap.objs.size<=c
 hd:X.calm=true->X.A.handled=none
 frames:X.A.frames=some X.stack
 stk:X.stack=X.outer\/(X.stack=X.env::X.outer/\X.env.frame=some X.env.locals)
 exf:∀b∈X.ex,b≠X.env.locals/\∀x c,X.env.cells.lookup x=some c->c≠b
 bs:∀b o,X.base.get? b=some o->X.s₀.heap.get? b=some o/\X.Hv b=none
 bsz:X.base.objs.size<=X.s₀.heap.objs.size
 noex:∀b o,X.base.get? b=some o->b∉X.ex
 exfs:∀b∈X.ex,b∉X.fs
 funs:X.s₀.heap.FunFrames X.base X.outer
 frf:∀b∈X.fs,X.Hv b=none
structure Inv(X:Cx)(pins:PP)(σ:List (Option V))(H:Hp)(s:Shared):Prop where
 ok:X.Ok
 os:s.os=X.s₀.os
 bare:AllBare s.gens
 base:Un X.fs X.ex X.Hv H X.s₀.heap s.heap
 loc:∃m,s.heap.Ns X.env.locals m/\∀(i:Nat) (x:Str) (v:V),X.N[i]?=some x->σ[i]?=some (some v)->Vis X.env.scope x->∃u,qB v u/\qlt X.env s.heap m x u
 cell:∀x c,X.env.cells.lookup x=some c->∃v,s.heap.IsCell c v
 free:H X.env.locals=none
 freeC:∀x c,X.env.cells.lookup x=some c->H c=none
 pin:∀p∈X.pn++pins,s.heap.get? p.1=some p.2/\H p.1=none/\p.1≠X.env.locals/\p.1∉X.fs/\∀v,p.2.data≠.cell v
 hok:HOk X.prog X.w H s.heap
 len:σ.length=X.N.length
section
variable{X:Cx}{pins:PP}{σ:List (Option V)}{H H':Hp}{s:Shared}{h':Heap}
theorem Cx.Ok.nofr(ok:X.Ok){b:Addr}{o:Obj}(e:X.base.get? b=some o):b∉X.fs:=λhb=>by
 have:=(ok.funs.mem hb).1
 rw[e] at this;cases this
theorem Inv.bs(I:Inv X pins σ H s):∀b o,X.base.get? b=some o->s.heap.get? b=some o/\H b=none:=λb o e=>⟨I.base.keep b o (I.ok.bs b o e).1 (I.ok.bs b o e).2 (I.ok.nofr e) (I.ok.noex b o e),I.base.free b o (I.ok.bs b o e).1 (I.ok.bs b o e).2 (I.ok.noex b o e)⟩
theorem Inv.bk(I:Inv X pins σ H s):∀b o,X.base.get? b=some o->s.heap.get? b=some o:=λb o e=>(I.bs b o e).1
theorem Inv.mod(I:Inv X pins σ H s):Mod X.K X.mg X.base:=I.ok.mod
theorem Inv.kIn(I:Inv X pins σ H s):X.K.In s.heap:=I.ok.mod.kin.keeps I.bk
theorem Inv.lt(I:Inv X pins σ H s):X.env.locals < s.heap.objs.size:=let ⟨_,hn,_⟩:=I.loc;hn.lt
theorem Inv.sz(I:Inv X pins σ H s):X.s₀.heap.objs.size<=s.heap.objs.size:=Nat.le_trans I.ok.above (Nat.le_of_lt I.lt)
theorem Inv.nofs(I:Inv X pins σ H s){a:Addr}(h:s.heap.objs.size<=a):a∉X.fs:=λhb=>by obtain⟨_,o,ho,_⟩:=I.ok.funs.mem hb;exact absurd (Nat.lt_of_lt_of_le (Heap.lt_size ho) (Nat.le_trans I.sz h)) (Nat.lt_irrefl _)
theorem Inv.cne(I:Inv X pins σ H s):∀x c,X.env.cells.lookup x=some c->c≠X.env.locals:=λx c e z=>by obtain⟨v,o,ho,hd⟩:=I.cell x c e;obtain⟨m,⟨o',es,ep,ho',hd',_⟩,_⟩:=I.loc;rw[z,ho'] at ho;cases ho;rw[hd'] at hd;cases hd
theorem Inv.funs(I:Inv X pins σ H s):s.heap.FunFrames X.base X.outer:=by
 have all:∀(l:List Env),(∀b∈frs l,b∈X.fs)->X.s₀.heap.FunFrames X.base l->s.heap.FunFrames X.base l:=by
  intro l
  induction l with
  |nil=>intro _ _;trivial
  |cons env r ih=>intro hs hl;obtain⟨hk,⟨L,o,hf,hn,ho,hd⟩,hr⟩:=hl;have hL:L∈X.fs:=hs L (by unfold frs;rw[List.filterMap_cons,hf];exact List.mem_cons_self);obtain⟨sl,e⟩:=I.base.slot L o ho (I.ok.frf L hL) hL λz=>I.ok.exfs L z hL;exact⟨hk,⟨L,_,hf,hn,e,hd⟩,ih (λb hb=>hs b (by unfold frs;rw[List.filterMap_cons,hf];exact List.mem_cons_of_mem _ hb)) hr⟩
 exact all X.outer (λ_ hb=>hb) I.ok.funs
theorem Inv.stack(I:Inv X pins σ H s):s.heap.FunFrames X.base X.stack:=by
 rcases I.ok.stk with e | ⟨e,hf⟩
 ·rw[e];exact I.funs
 ·rw[e];obtain⟨m,hn,_⟩:=I.loc;refine .cons (by rw[I.ok.kind];decide) hf hn ?_ I.funs;exact Heap.get?_none_of_le (Nat.le_trans I.ok.bsz I.ok.above)
theorem Inv.stkSub(I:Inv X pins σ H s):∀b∈frs X.stack,b∈X.env.locals::X.fs:=λb hb=>by
 rcases I.ok.stk with e | ⟨e,hf⟩
 ·rw[e] at hb;exact List.mem_cons_of_mem _ hb
 ·rw[e] at hb;unfold frs at hb;rw[List.filterMap_cons,hf] at hb;exact hb
theorem Inv.stkFree(I:Inv X pins σ H s):∀b∈frs X.stack,H b=none:=λb hb=>by
 rcases List.mem_cons.mp (I.stkSub b hb) with e | hb
 ·rw[e];exact I.free
 ·obtain⟨_,o,ho,_⟩:=I.ok.funs.mem hb;exact I.base.free b o ho (I.ok.frf b hb) λz=>I.ok.exfs b z hb
theorem Inv.step{g':Array GenState}{t':Nat}{d':Drawn}{ch:List Addr}(I:Inv X pins σ H s)
  (hch:∀b∈ch,(b∈X.ex\/X.s₀.heap.objs.size<=b)/\b≠X.env.locals/\(∀x c,X.env.cells.lookup x=some c->c≠b)/\∀p∈X.pn++pins,p.1≠b)
  (keep:∀b o,b≠X.env.locals->b∉X.fs->b∉ch->s.heap.get? b=some o->H b=none->h'.get? b=some o)
  (slot:∀b o,b≠X.env.locals->b∈X.fs->b∉ch->s.heap.get? b=some o->H b=none->∃sl,h'.get? b=some { o with slots:=sl }) (free:∀b o,b∉ch->s.heap.get? b=some o->H b=none->H' b=none)
  (there:∀b o,b∉ch->s.heap.get? b=some o->∃o',h'.get? b=some o')
  (tups:∀b xs,H b=some (.tup xs)->H' b=some (.tup xs)) (frzs:∀b o u,H b=some (.frz o u)->H' b=some (.frz o u)) (tbls:∀b ps,H b=some (.tbl ps)->∃more,H' b=some (.tbl (ps++more)))
  (ns:∀m,s.heap.Ns X.env.locals m->h'.Ns X.env.locals m) (hok:HOk X.prog X.w H' h') (hg:AllBare g') :
  Inv X pins σ H' { s with heap:=h',gens:=g',drawn:=d',toks:=t' }:=by
 have neL:∀b o,X.s₀.heap.get? b=some o->b≠X.env.locals:=λb o e=>Nat.ne_of_lt (Nat.lt_of_lt_of_le (Heap.lt_size e) I.ok.above)
 have neC:∀b o,X.s₀.heap.get? b=some o->b∉X.ex->b∉ch:=λb o e hx hb=>by
  rcases (hch b hb).1 with z | z
  ·exact hx z
  ·exact absurd (Nat.lt_of_lt_of_le (Heap.lt_size e) z) (Nat.lt_irrefl _)
 have cellK:∀x c,X.env.cells.lookup x=some c->∀v,s.heap.IsCell c v->h'.IsCell c v:=λx c e v ⟨o,ho,hd⟩=>by
  have nch:c∉ch:=λz=>(hch c z).2.2.1 x c e rfl
  by_cases hc:c∈X.fs
  ·obtain⟨sl,q⟩:=slot c o (I.cne x c e) hc nch ho (I.freeC x c e);exact⟨_,q,hd⟩
  ·exact⟨o,keep c o (I.cne x c e) hc nch ho (I.freeC x c e),hd⟩
 refine⟨I.ok,I.os,hg,⟨λb o e n hb hx=>?_,λb o e n hb hx=>?_,λb o e n hx=>?_,λb o e hx=>?_,λb xs e=>tups b xs (I.base.tups b xs e),λb o xs e=>frzs b o xs (I.base.frzs b o xs e),λb ps e=>?_⟩,?_,λx c e=>?_,?_,λx c e=>?_,λp hp=>?_,hok,I.len⟩
 ·exact keep b o (neL b o e) hb (neC b o e hx) (I.base.keep b o e n hb hx) (I.base.free b o e n hx)
 ·obtain⟨sl,e1⟩:=I.base.slot b o e n hb hx;obtain⟨sl',e2⟩:=slot b _ (neL b o e) hb (neC b o e hx) e1 (I.base.free b o e n hx);exact⟨sl',e2⟩
 ·obtain⟨o',e1⟩:=I.base.there b o e hx;exact free b o' (neC b o e hx) e1 (I.base.free b o e n hx)
 ·obtain⟨o',e1⟩:=I.base.there b o e hx;exact there b o' (neC b o e hx) e1
 ·obtain⟨m1,e1⟩:=I.base.tbls b ps e;obtain⟨m2,e2⟩:=tbls b _ e1;exact⟨m1++m2,by rw[e2,Array.append_assoc]⟩
 ·obtain⟨m,hn,hl⟩:=I.loc;refine⟨m,ns m hn,λi x v e1 e2 e3=>?_⟩;obtain⟨u,r,l⟩:=hl i x v e1 e2 e3;refine⟨u,r,?_⟩;rcases l with l | ⟨k,c,e,z⟩
  ·exact .inl l
  ·exact .inr ⟨k,c,e,cellK x c e _ z⟩
 ·obtain⟨v,z⟩:=I.cell x c e;exact⟨v,cellK x c e v z⟩
 ·obtain⟨m,⟨o,_,_,ho,_⟩,_⟩:=I.loc;exact free _ o (λz=>(hch _ z).2.1 rfl) ho I.free
 ·obtain⟨v,o,ho,hd⟩:=I.cell x c e;exact free c o (λz=>(hch c z).2.2.1 x c e rfl) ho (I.freeC x c e)
 ·obtain⟨e,n,ne,nf,d⟩:=I.pin p hp;have nch:p.1∉ch:=λz=>(hch p.1 z).2.2.2 p hp rfl;exact⟨keep p.1 p.2 ne nf nch e n,free p.1 p.2 nch e n,ne,nf,d⟩
theorem Inv.un{t':Nat}(I:Inv X pins σ H s)(u:Un X.fs [] H H' s.heap h')(hok:HOk X.prog X.w H' h'):Inv X pins σ H' { s with heap:=h',toks:=t' }:=by
 obtain⟨m,⟨o,es,ep,ho,r⟩,_⟩:=id I.loc;obtain⟨sl,hL⟩:=u.any ho I.free (by simp)
 exact I.step (g':=s.gens) (d':=s.drawn) (ch:=[]) (λ_ z=>nomatch z) (λb o _ hb _ e n=>u.keep b o e n hb (by simp)) (λb o _ hb _ e n=>u.slot b o e n hb (by simp)) (λb o _ e n=>u.free b o e n (by simp)) (λb o _ e=>u.there b o e (by simp)) u.tups u.frzs u.tbls (λm' hm=>by obtain⟨o',es',ep',ho',r'⟩:=hm;rw[ho] at ho';cases ho';exact⟨_,es',ep',hL,r'⟩) hok I.bare
theorem Inv.call{g':Array GenState}{t':Nat}{d':Drawn}{ch:List Addr}(I:Inv X pins σ H s)(u:Un (frs X.stack) ch H H' s.heap h')(hok:HOk X.prog X.w H' h')(hg:AllBare g')
  (hch:∀b∈ch,(b∈X.ex\/X.s₀.heap.objs.size<=b)/\b≠X.env.locals/\(∀x c,X.env.cells.lookup x=some c->c≠b)/\∀p∈X.pn++pins,p.1≠b) :
  Inv X pins σ H' { s with heap:=h',gens:=g',drawn:=d',toks:=t' }:=by
 obtain⟨m,⟨o,es,ep,ho,r⟩,_⟩:=id I.loc;obtain⟨sl,hL⟩:=u.any ho I.free λz=>(hch _ z).2.1 rfl
 exact I.step (ch:=ch) hch (λb o hL hb hc e n=>u.keep b o e n (λz=>(List.mem_cons.mp (I.stkSub b z)).elim hL hb) hc) (λb o _ _ hc e n=>u.any e n hc) (λb o hc e n=>u.free b o e n hc) (λb o hc e=>u.there b o e hc) u.tups u.frzs u.tbls (λm' hm=>by obtain⟨o',es',ep',ho',r'⟩:=hm;rw[ho] at ho';cases ho';exact⟨_,es',ep',hL,r'⟩) hok hg
theorem Inv.turned{t':Nat}{it:Addr}(I:Inv X pins σ H s)(k:∀b o,b≠it->s.heap.get? b=some o->h'.get? b=some o)(hn:H it=none)(hL:it≠X.env.locals)
  (h1:it∈X.ex\/X.s₀.heap.objs.size<=it) (h2:∀x c,X.env.cells.lookup x=some c->c≠it) (h3:∀p∈X.pn++pins,p.1≠it):Inv X pins σ H { s with heap:=h',toks:=t' }:=by
 have nit:∀b u,H b=some u->b≠it:=λb u e z=>by rw[z,hn] at e;cases e
 refine I.step (g':=s.gens) (d':=s.drawn) (ch:=[it]) (λb hb=>?_) (λb o _ _ hc e _=>k b o (λz=>hc (by simp[z])) e) (λb o _ _ hc e _=>⟨o.slots,k b o (λz=>hc (by simp[z])) e⟩) (λ_ _ _ _ n=>n)
  (λb o hc e=>⟨o,k b o (λz=>hc (by simp[z])) e⟩) (λ_ _ e=>e) (λ_ _ _ e=>e) (λb ps e=>⟨#[],by rw[e];simp⟩) (λm hm=>?_) (λb u e=>?_) I.bare
 ·have e:b=it:=by simpa using hb
  subst e;exact⟨h1,hL,h2,h3⟩
 ·obtain⟨o,es,ep,ho,r⟩:=hm;exact⟨o,es,ep,k _ o (Ne.symm hL) ho,r⟩
 ·refine(I.hok b u e).stay (λc v hc q=>k c v ?_ q) (λ_ q=>q) λ_ _ q=>q;rcases hc with z | z
  ·rw[z];exact nit b u e
  ·exact nit c _ z
theorem Inv.tok(I:Inv X pins σ H s)(t:Nat):Inv X pins σ H { s with toks:=t }:=I.un (h':=s.heap) (t':=t) Un.refl I.hok
theorem Inv.kept{t':Nat}(I:Inv X pins σ H s)(k:∀b u,s.heap.get? b=some u->h'.get? b=some u):Inv X pins σ H { s with heap:=h',toks:=t' }:=I.un (Un.kept k) (I.hok.kept k)
theorem Inv.laid{a:Addr}{o:HO}{t':Nat}(I:Inv X pins σ H s)(k:∀b u,s.heap.get? b=some u->h'.get? b=some u)(hp:s.heap.objs.size<=a)(new:qy X.prog X.w (upd H a o) h' a o) :
  Inv X pins σ (upd H a o) { s with heap:=h',toks:=t' }:=I.un (Un.laid k hp (I.hok.fresh hp)) (I.hok.laid k hp new)
theorem Inv.write{x e:Addr}{o:HO}{t':Nat}(I:Inv X pins σ H s)(mu:Mut (H x))(he:e=x\/H e=some (.own x))(k:∀b u,b≠e->s.heap.get? b=some u->h'.get? b=some u)(heo:∃u,h'.get? e=some u)
  (new:qy X.prog X.w (upd H x o) h' x o):Inv X pins σ (upd H x o) { s with heap:=h',toks:=t' }:=I.un (Un.write mu he k heo) (I.hok.write mu he k heo new)
theorem Inv.pins_of{pins':PP}(I:Inv X pins σ H s)(h:∀p∈pins',s.heap.get? p.1=some p.2/\H p.1=none/\p.1≠X.env.locals/\p.1∉X.fs/\∀v,p.2.data≠.cell v):Inv X pins' σ H s:=
 ⟨I.ok,I.os,I.bare,I.base,I.loc,I.cell,I.free,I.freeC,λp hp=>(List.mem_append.mp hp).elim (λz=>I.pin p (List.mem_append_left _ z)) (h p),I.hok,I.len⟩
theorem Ju{N:List Str}(hN:N.Nodup){i j:Nat}{x:Str}(a:N[i]?=some x)(b:N[j]?=some x):i=j:=by obtain⟨h1,e1⟩:=List.getElem?_eq_some_iff.mp a;obtain⟨h2,e2⟩:=List.getElem?_eq_some_iff.mp b;exact(List.getElem_inj hN).mp (e1.trans e2.symm)
theorem js{M:Model}{A:Around}{E:PQ}{i:Nat}{x:Str}{v:V}{u:Value}{Q:Unit->Shared->Prop}(I:Inv X pins σ H s)(hN:X.N.Nodup)(hi:X.N[i]?=some x)(hx:Loc X.env.scope x)(r:qB v u)
  (h:∀s',Inv X pins (σ.set i (some v)) H s'->(∃a,Heap.SameBut a s.heap s'.heap/\(a=X.env.locals\/X.env.cells.lookup x=some a))->Q () s') (hf:X.fn x=true\/X.env.scope.names.lookup x=some .local:=by first | exact .inl rfl | exact .inr rfl | assumption):wpAny M A (storeName X.env x u) Q E s:=by
 obtain⟨m,hn,hl⟩:=id I.loc;have hcls:(X.env.scope.kind == .class||(X.env.scope.kind == .module&&X.env.locals != X.env.globals))=false:=by rw[I.ok.kind];rfl
 have hiσ:i < σ.length:=by rw[I.len];exact(List.getElem?_eq_some_iff.mp hi).1
 have cne:=I.cne
 have tracked:∀{a:Addr} {h':Heap},(∃o,s.heap.get? a=some o/\H a=none)->Heap.SameBut a s.heap h'->HOk X.prog X.w H h':=λ{a h'} ha hs b ob e=>by
  obtain⟨_,_,hfree⟩:=ha;refine(I.hok b ob e).stay (λc w' hc q=>(hs.2 c ?_).trans q) (λ_ q=>q) λ_ _ q=>q;rintro rfl;rcases hc with rfl | hc
  ·rw[hfree] at e;cases e
  ·rw[hfree] at hc;cases hc
 rcases hx with hk | hk
 ·refine wpAny_storeName_local hk hn (λh' hn' hs=>?_) hcls;obtain⟨oL,_,_,hoL,_⟩:=id hn;refine h _ ⟨I.ok,I.os,I.bare,⟨λb o e n hb hx=>?_,λb o e n hb hx=>?_,I.base.free,λb o e hx=>?_,I.base.tups,I.base.frzs,I.base.tbls⟩,⟨_,hn',λj y v' e1 e2 e3=>?_⟩,λy c e=>?_,I.free,I.freeC,λp hp=>?_,tracked ⟨oL,hoL,I.free⟩ hs,by simpa using I.len⟩ ⟨_,hs,.inl rfl⟩
  ·exact(hs.2 b (Nat.ne_of_lt (Nat.lt_of_lt_of_le (Heap.lt_size e) I.ok.above))).trans (I.base.keep b o e n hb hx)
  ·obtain⟨sl,e1⟩:=I.base.slot b o e n hb hx;exact⟨sl,(hs.2 b (Nat.ne_of_lt (Nat.lt_of_lt_of_le (Heap.lt_size e) I.ok.above))).trans e1⟩
  ·obtain⟨o',e1⟩:=I.base.there b o e hx;exact⟨o',(hs.2 b (Nat.ne_of_lt (Nat.lt_of_lt_of_le (Heap.lt_size e) I.ok.above))).trans e1⟩
  ·by_cases hj:j=i
   ·subst hj;rw[hi] at e1;cases e1;rw[List.getElem?_set_self hiσ] at e2;cases e2;exact⟨u,r,.inl ⟨hk,by simp⟩⟩
   ·rw[List.getElem?_set_ne (Ne.symm hj)] at e2;obtain⟨u',r',q⟩:=hl j y v' e1 e2 e3;refine⟨u',r',?_⟩;rcases q with ⟨k,e⟩ | ⟨k,c,e,z⟩
    ·refine .inl ⟨k,?_⟩
     have:y≠x:=λe=>hj (Ju hN e1 (e▸hi))
     simp[this,e]
    ·exact .inr ⟨k,c,e,z.sameBut hs (cne y c e)⟩
  ·obtain⟨w',z⟩:=I.cell y c e;exact⟨w',z.sameBut hs (cne y c e)⟩
  ·obtain⟨e,n,ne,nf,d⟩:=I.pin p hp;exact⟨(hs.2 p.1 ne).trans e,n,ne,nf,d⟩
 ·have hfn:X.fn x=true:=by
   rcases hf with z | z
   ·exact z
   ·rw[z] at hk;cases hk
  obtain⟨c,hc⟩:=I.ok.has x (.inl hk);obtain⟨w',z⟩:=I.cell x c hc;refine wpAny_storeName_cell I.ok.kind hk hc z (λh' hc' hs=>?_);obtain⟨oc,hoc,hocd⟩:=id z;refine h { s with heap:=h' } ⟨I.ok,I.os,I.bare,⟨λb o e n hb hx=>?_,λb o e n hb hx=>?_,I.base.free,λb o e hx=>?_,I.base.tups,I.base.frzs,I.base.tbls⟩,⟨m,hn.sameBut hs (Ne.symm (cne x c hc)),λj y v' e1 e2 e3=>?_⟩,λy c' e=>?_,I.free,I.freeC,λp hp=>?_,tracked ⟨oc,hoc,I.freeC x c hc⟩ hs,by simpa using I.len⟩ ⟨c,hs,.inr hc⟩
  ·exact(hs.2 b (Nat.ne_of_lt (Nat.lt_of_lt_of_le (Heap.lt_size e) (I.ok.cab x c hfn hc)))).trans (I.base.keep b o e n hb hx)
  ·obtain⟨sl,e1⟩:=I.base.slot b o e n hb hx;exact⟨sl,(hs.2 b (Nat.ne_of_lt (Nat.lt_of_lt_of_le (Heap.lt_size e) (I.ok.cab x c hfn hc)))).trans e1⟩
  ·obtain⟨o',e1⟩:=I.base.there b o e hx;exact⟨o',(hs.2 b (Nat.ne_of_lt (Nat.lt_of_lt_of_le (Heap.lt_size e) (I.ok.cab x c hfn hc)))).trans e1⟩
  ·by_cases hj:j=i
   ·subst hj;rw[hi] at e1;cases e1;rw[List.getElem?_set_self hiσ] at e2;cases e2;exact⟨u,r,.inr ⟨.inl hk,c,hc,hc'⟩⟩
   ·rw[List.getElem?_set_ne (Ne.symm hj)] at e2;obtain⟨u',r',q⟩:=hl j y v' e1 e2 e3;refine⟨u',r',?_⟩;rcases q with q | ⟨k,c',e,z'⟩
    ·exact .inl q
    ·refine .inr ⟨k,c',e,z'.sameBut hs ?_⟩;rintro rfl;exact hj (Ju hN e1 (I.ok.inj _ _ _ e hc▸hi))
  ·by_cases hcc:c'=c
   ·subst hcc;exact⟨_,hc'⟩
   ·obtain⟨w2,z2⟩:=I.cell y c' e;exact⟨w2,z2.sameBut hs hcc⟩
  ·obtain⟨e,n,ne,nf,d⟩:=I.pin p hp;refine⟨(hs.2 p.1 ?_).trans e,n,ne,nf,d⟩;intro q;rw[q,hoc] at e;have q':oc=p.2:=Option.some.inj e;exact d w' (by rw[<-q'];exact hocd)
theorem QW{M:Model}{A:Around}{E:PQ}{i:Nat}{x:Str}{v:V}{u:Value}{Q:Unit->Shared->Prop}(I:Inv X pins σ H s)(hN:X.N.Nodup)(hi:X.N[i]?=some x)(hx:Loc X.env.scope x)(r:qB v u)
  (h:∀s',Inv X pins (σ.set i (some v)) H s'->Q () s') (hf:X.fn x=true\/X.env.scope.names.lookup x=some .local:=by first | exact .inl rfl | exact .inr rfl | assumption):wpAny M A (storeName X.env x u) Q E s:=
 js I hN hi hx r (λs' I' _=>h s' I') hf
theorem Inv.call'{s':Shared}{ch:List Addr}(I:Inv X pins σ H s)(ho:s'.os=s.os)(u:Un (frs X.stack) ch H H' s.heap s'.heap)(hok:HOk X.prog X.w H' s'.heap)(hg:AllBare s'.gens)
  (hch:∀b∈ch,(b∈X.ex\/X.s₀.heap.objs.size<=b)/\b≠X.env.locals/\(∀x c,X.env.cells.lookup x=some c->c≠b)/\∀p∈X.pn++pins,p.1≠b):Inv X pins σ H' s':=by
 obtain⟨h',g',d',t',o'⟩:=s';have e:o'=s.os:=ho;subst e;exact I.call (g':=g') (t':=t') (d':=d') u hok hg hch
end
abbrev XK:=Value->Option Addr->Hp->Prop
abbrev St:=List (Option V)
abbrev VK:=V->Hp->Prop
abbrev TE:=St->Hp->VK->Prop
abbrev TT:=St->Hp->(Bool->Hp->Prop)->Prop
abbrev TA:=St->Hp->(List V->Hp->Prop)->Prop
structure Ends where
 nx:St->Hp->Prop
 rt:VK
 bk:St->Hp->Prop:=λ_ _=>False
 ct:St->Hp->Prop:=λ_ _=>False
abbrev TS:=Ends->St->Hp->Prop
noncomputable def EP(X:Cx)(pins:PP)(σ:St)(Q:VK)(u:Value)(s':Shared):Prop:=∃v H',Inv X pins σ H' s'/\qB v u/\Q v H'
noncomputable def TP(X:Cx)(pins:PP)(σ:St)(Q:Bool->Hp->Prop)(b:Bool)(s':Shared):Prop:=∃H',Inv X pins σ H' s'/\Q b H'
noncomputable def AP(X:Cx)(pins:PP)(σ:St)(Q:List V->Hp->Prop)(us:List Value)(s':Shared):Prop:=∃vs H',Inv X pins σ H' s'/\qr vs us/\Q vs H'
noncomputable def SP(X:Cx)(pins:PP)(D:Ends)(f:Flow)(s':Shared):Prop:=
 match f with
 |.next=>∃σ' H',Inv X pins σ' H' s'/\D.nx σ' H'
 |.brk=>∃σ' H',Inv X pins σ' H' s'/\D.bk σ' H'
 |.cont=>∃σ' H',Inv X pins σ' H' s'/\D.ct σ' H'
 |.ret u=>∃v σ' H',Inv X pins σ' H' s'/\qB v u/\D.rt v H'
noncomputable def PE(X:Cx)(e:Expr)(t:TE):Prop:=
 ∀(pins:PP) (s:Shared) (σ:St) (H:Hp) (Q:VK),Inv X pins σ H s->t σ H Q->wpAny (model X.prog X.w) X.A (eval e X.env) (EP X pins σ Q) X.xe s
noncomputable def PT(X:Cx)(e:Expr)(t:TT):Prop:=
 ∀(pins:PP) (s:Shared) (σ:St) (H:Hp) (Q:Bool->Hp->Prop),Inv X pins σ H s->t σ H Q->wpAny (model X.prog X.w) X.A (isTrue e X.env (eval e X.env)) (TP X pins σ Q) X.xe s
noncomputable def PW(X:Cx)(e:Expr)(t:TT):Prop:=
 ∀(whole:Sem Value) (pins:PP) (s:Shared) (σ:St) (H:Hp) (Q:Bool->Hp->Prop),Inv X pins σ H s->t σ H Q->wpAny (model X.prog X.w) X.A (isTrue e X.env whole) (TP X pins σ Q) X.xe s
theorem PW.pt{X:Cx}{e:Expr}{t:TT}(h:PW X e t):PT X e t:=h _
noncomputable def PA(X:Cx)(es:List Expr)(t:TA):Prop:=
 ∀(pos:Pos) (pins:PP) (s:Shared) (σ:St) (H:Hp) (Q:List V->Hp->Prop),Inv X pins σ H s->t σ H Q->wpAny (model X.prog X.w) X.A (spliced (backTo pos (starEach es X.env))) (AP X pins σ Q) X.xe s
noncomputable def PS(X:Cx)(st:Stmt)(t:TS):Prop:=
 ∀(pins:PP) (s:Shared) (σ:St) (H:Hp) (D:Ends),Inv X pins σ H s->t D σ H->wpAny (model X.prog X.w) X.A (exec st X.env) (SP X pins D) X.xe s
noncomputable def PSs(X:Cx)(st:List Stmt)(t:TS):Prop:=
 ∀(pins:PP) (s:Shared) (σ:St) (H:Hp) (D:Ends),Inv X pins σ H s->t D σ H->wpAny (model X.prog X.w) X.A (execs st X.env) (SP X pins D) X.xe s
theorem thn{α:Type}{t:Sem α}{Q Q':α->Shared->Prop}{M:Model}{A:Around}{E:PQ}{s:Shared}(h:wpAny M A t Q E s)(hQ:∀a s,Q a s->Q' a s):wpAny M A t Q' E s:=wpAny_mono h hQ λ_ _ x=>x
end L2
namespace L2
open PySem PySem.Spec PyProof.Rows
section
variable{X:Cx}
theorem bin{a b:Expr}{ta tb:TE}(ha:PE X a ta)(hb:PE X b tb){pins:PP}{s:Shared}{σ:St}{H:Hp}{R:V->V->Hp->Prop}(I:Inv X pins σ H s)(h:ta σ H λx H1=>tb σ H1 λy H2=>R x y H2)
  {α:Type} {Q:α->Shared->Prop} {f:Value->Value->Sem α}
  (hf:∀v u s2 x y H2,Inv X pins σ H2 s2->qB x v->qB y u->R x y H2->wpAny (model X.prog X.w) X.A (f v u) Q X.xe s2) :
  wpAny (model X.prog X.w) X.A (eval a X.env) (λv s₁=>wpAny (model X.prog X.w) X.A (eval b X.env) (λu s₂=>wpAny (model X.prog X.w) X.A (f v u) Q X.xe s₂) X.xe s₁) X.xe s:=by
 refine thn (ha pins s σ H _ I h) λv s1 hq1=>?_;obtain⟨x,H1,I1,r1,q1⟩:=hq1;refine thn (hb pins s1 σ H1 _ I1 q1) λu s2 hq1=>?_;obtain⟨y,H2,I2,r2,q2⟩:=hq1;exact hf v u s2 x y H2 I2 r1 r2 q2
def qjB(i:Nat):TE:=λσ H Q=>∃v,σ[i]?=some (some v)/\Q v H
def tC(v:V):TE:=λ_ H Q=>Q v H
theorem QX{i:Nat}{x:Str}{pos:Pos}(hN:X.N[i]?=some x)(hv:Vis X.env.scope x)(hd:(x == ("__debug__" : Str))=false:=by decide)(hcd:(x == ("__classdict__" : Str))=false:=by decide):PE X (.Name x pos) (qjB i):=by
 intro pins s σ H Q I h;obtain⟨v,e,h⟩:=h;obtain⟨m,hn,hl⟩:=I.loc;obtain⟨u,r,l⟩:=hl i x v hN e hv;have fin:EP X pins σ Q u s:=⟨v,H,I,r,h⟩;rcases l with ⟨hk,hm⟩ | ⟨hk,c,hc,hcell⟩
 ·exact wpAny_Name (wpAny_loadName_local I.ok.kind hk hn hm fin) hd
 ·rcases hk with hk | hk
  ·exact wpAny_Name (wpAny_loadName_cell I.ok.kind hk hc hcell fin) hd
  ·exact wpAny_Name (wpAny_loadName_free I.ok.kind hk hc hcell fin hcd) hd
theorem y8{i j pos}:PE X (.Constant (.int i) j pos) (tC (.int i)):=λ_ _ _ H _ I h=>wpAny_Constant_int ⟨.int i,H,I.tok _,⟨_,rfl⟩,h⟩
theorem qjR{b j pos}:PE X (.Constant (.bool b) j pos) (tC (.bl b)):=λ_ _ _ H _ I h=>Constant_bool ⟨.bl b,H,I,rfl,h⟩
theorem qgQ{j pos}:PE X (.Constant .none j pos) (tC .non):=λ_ _ _ H _ I h=>Constant_none ⟨.non,H,I,rfl,h⟩
theorem qaD{x j pos}:PE X (.Constant (.str x) j pos) (tC (.str x)):=λ_ _ _ H _ I h=>Calls.Constant_str ⟨.str x,H,I.tok _,⟨_,rfl⟩,h⟩
def Gl(X:Cx)(x:Str):Prop:=X.env.kindOf x=some .globalImplicit
theorem zn{E:PQ}{pins:PP}{s:Shared}{σ:St}{H:Hp}{x:Str}{u:Value}{pos:Pos}{Q:PQ}(I:Inv X pins σ H s)(hg:Gl X x)(hm:X.mg x=some u)(h:Q u s)
  (hd:(x == ("__debug__" : Str))=false:=by decide):wpAny (model X.prog X.w) X.A (eval (.Name x pos) X.env) Q E s:=
 Calls.Name_function_global I.ok.kind hg (Calls.loadGlobal_global (by rw[I.ok.glob];exact I.mod.glob.keeps I.bk) hm h) hd
theorem jt{E:PQ}{pins:PP}{s:Shared}{σ:St}{H:Hp}{x:Str}{u:Value}{pos:Pos}{Q:PQ}(I:Inv X pins σ H s)(hg:Gl X x)(hm:X.mg x=none)(hv:bootBuiltins x=some u)(h:Q u s)
  (hn:x≠"__name__":=by decide) (hd:(x == ("__debug__" : Str))=false:=by decide):wpAny (model X.prog X.w) X.A (eval (.Name x pos) X.env) Q E s:=by
 obtain⟨mb,h1,h2⟩:=I.mod.blt;exact Calls.Name_function_global I.ok.kind hg (Calls.loadGlobal_builtin (by rw[I.ok.glob];exact I.mod.glob.keeps I.bk) hm (by rw[I.ok.blt];exact h1.keeps I.bk) ((h2 x hn).trans hv) h) hd
theorem jL{x:Str}{v:V}{u:Value}{pos:Pos}(hg:Gl X x)(hm:X.mg x=some u)(r:qB v u)(hd:(x == ("__debug__" : Str))=false:=by decide):PE X (.Name x pos) (tC v):=
 λ_ _ _ H _ I h=>zn I hg hm ⟨v,H,I,r,h⟩ hd
theorem jM{x:Str}{v:V}{u:Value}{pos:Pos}(hg:Gl X x)(hm:X.mg x=none)(hv:bootBuiltins x=some u)(r:qB v u)(hn:x≠"__name__":=by decide)(hd:(x == ("__debug__" : Str))=false:=by decide):PE X (.Name x pos) (tC v):=
 λ_ _ _ H _ I h=>jt I hg hm hv ⟨v,H,I,r,h⟩ hn hd
variable{a b:Expr}{ta tb:TE}{pos:Pos}
def tB(t:TE):TT:=λσ H Q=>t σ H λx H1=>∃c,x=.bl c/\Q c H1
theorem QY{e:Expr}{t:TE}(h:PE X e t)(he:∀whole,isTrue e X.env whole=(do let v<-whole;standAt e.pos;holding [v] (truthy v)):=by intro _;rfl):PT X e (tB t):=by intro pins s σ H Q I hw;refine isTrue_plain (thn (h pins s σ H _ I hw) λv s1 ⟨x,H1,I1,r1,q1⟩=>?_) (he _);obtain⟨d,rfl,q⟩:=q1;cases r1;exact wpAny_truthy_bool ⟨H1,I1,q⟩
variable{tA tB':TT}{rest:List Expr}
def qlu(t:TT):TT:=λσ H Q=>t σ H λc H1=>Q (!c) H1
theorem qeM(ha:PT X a tA):PW X (.BoolOp .And [a] pos) tA:=by
 intro wh pins s σ H Q I h;refine isTrue_and (thn (ha pins s σ H Q I h) λc s1 e=>?_)
 cases c with
 |true=>exact isTrue_and_nil e
 |false=>exact e
theorem qgR(ha:PT X a tA):PW X (.BoolOp .Or [a] pos) tA:=by
 intro wh pins s σ H Q I h;refine isTrue_or (thn (ha pins s σ H Q I h) λc s1 e=>?_)
 cases c with
 |false=>exact isTrue_or_nil e
 |true=>exact e
theorem J3(ha:PT X a tA):PT X (.UnaryOp .Not a pos) (qlu tA):=by intro pins s σ H Q I h;exact isTrue_not (ha pins s σ H (λc H1=>Q (!c) H1) I h)
noncomputable def qjS(ta tb:TE):TE:=λσ H Q=>ta σ H λx H1=>∃c,x=.bl c/\if c=true then tb σ H1 Q else Q (.bl false) H1
noncomputable def qlv(ta tb:TE):TE:=λσ H Q=>ta σ H λx H1=>∃c,x=.bl c/\if c=true then Q (.bl true) H1 else tb σ H1 Q
def qjT(ta:TE):TE:=λσ H Q=>ta σ H λx H1=>∃c,x=.bl c/\Q (.bl (!c)) H1
theorem qgS{op}{t:TE}(h:PE X a t):PE X (.BoolOp op [a] pos) t:=λpins s σ H Q I hw=>BoolOp_one (h pins s σ H Q I hw)
theorem qgT(ha:PE X a ta)(hb:PE X (.BoolOp .And (b::rest) pos) tb):PE X (.BoolOp .And (a::b::rest) pos) (qjS ta tb):=by
 intro pins s σ H Q I h;refine BoolOp_and (thn (ha pins s σ H _ I h) λv s1 hq1=>?_);obtain⟨x,H1,I1,r1,q1⟩:=hq1;obtain⟨c,rfl,q1⟩:=q1;cases r1;refine wpAny_truthy_bool ?_
 cases c with
 |true=>exact hb pins s1 σ H1 Q I1 q1
 |false=>exact⟨.bl false,H1,I1,rfl,q1⟩
theorem qjU(ha:PE X a ta)(hb:PE X (.BoolOp .Or (b::rest) pos) tb):PE X (.BoolOp .Or (a::b::rest) pos) (qlv ta tb):=by
 intro pins s σ H Q I h;refine BoolOp_or (thn (ha pins s σ H _ I h) λv s1 hq1=>?_);obtain⟨x,H1,I1,r1,q1⟩:=hq1;obtain⟨c,rfl,q1⟩:=q1;cases r1;refine wpAny_truthy_bool ?_
 cases c with
 |false=>exact hb pins s1 σ H1 Q I1 q1
 |true=>exact⟨.bl true,H1,I1,rfl,q1⟩
theorem qgU(ha:PE X a ta):PE X (.UnaryOp .Not a pos) (qjT ta):=by intro pins s σ H Q I h;refine UnaryOp_ (thn (ha pins s σ H _ I h) λv s1 hq1=>?_);obtain⟨x,H1,I1,r1,q1⟩:=hq1;obtain⟨c,rfl,q1⟩:=q1;cases r1;exact not_of (wpAny_truthy_bool ⟨.bl (!c),H1,I1,rfl,q1⟩)
def tIf(t:TT)(ta tb:TE):TE:=λσ H Q=>t σ H λc H1=>if c=true then ta σ H1 Q else tb σ H1 Q
theorem qcB{c:Expr}(hc:PT X c tA)(ha:PE X a ta)(hb:PE X b tb):PE X (.IfExp c a b pos) (tIf tA ta tb):=by
 intro pins s σ H Q I h;refine wpAny_IfExp (thn (hc pins s σ H _ I h) λd s1 hq1=>?_);obtain⟨H1,I1,q1⟩:=hq1
 cases d with
 |true=>exact ha pins s1 σ H1 Q I1 q1
 |false=>exact hb pins s1 σ H1 Q I1 q1
end
end L2
namespace L2
open PySem PySem.Spec PyProof.Rows
noncomputable def SqL(K:Frag)(H:Hp)(a:Addr)(xs:List V):Prop:=
 Rd H a (.lst xs)\/
  ∃(o:Obj) (its:Array Value) (n:Nat),K.lookup a=some o/\o.cls=.type "list"/\o.dict=none/\o.data=.seq its n/\its.size<=sizeLine/\qr xs its.toList
noncomputable def SqT(K:Frag)(H:Hp)(a:Addr)(xs:List V):Prop:=
 Rd H a (.tup xs)\/
  ∃(o:Obj) (its:Array Value) (n:Nat),K.lookup a=some o/\o.cls=.type "tuple"/\o.data=.seq its n/\its.size<=sizeLine/\qr xs its.toList
noncomputable def qlw:Value->Option V
 |.none=>some .non
 |.bool b=>some (.bl b)
 |.int i _=>some (.int i)
 |.str x _=>some (.str x)
 |.bytes b _=>some (.byt b)
 |.float b _=>some (.flt b)
 |.ref a=>some (.ref a)
 |.type n=>some (.ty n)
 |_=>none
theorem qB.abs{x:V}{u:Value}(r:qB x u):qlw u=some x:=by
 cases x with
 |non=>cases r;rfl
 |bl _=>cases r;rfl
 |int _=>obtain⟨t,rfl⟩:=r;rfl
 |str _=>obtain⟨t,rfl⟩:=r;rfl
 |byt _=>obtain⟨t,rfl⟩:=r;rfl
 |flt _=>obtain⟨t,rfl⟩:=r;rfl
 |ref _=>cases r;rfl
 |ty _=>cases r;rfl
theorem qB.inj{x y:V}{u:Value}(r:qB x u)(q:qB y u):x=y:=Option.some.inj (r.abs.symm.trans q.abs)
theorem qr.inj:∀{xs ys:List V} {us:List Value},qr xs us->qr ys us->xs=ys
 |_,_,_,.nil,.nil=>rfl
 | _,_,_,.cons r t,.cons r' t'=>by rw[r.inj r',qr.inj t t']
section
variable{X:Cx}{pins:PP}{σ:St}{H:Hp}{s:Shared}{a:Addr}{xs ys:List V}
theorem SqL.of{K:Frag}(h:H a=some (.lst xs)):SqL K H a xs:=.inl (.inl h)
theorem SqT.of{K:Frag}(h:H a=some (.tup xs)):SqT K H a xs:=.inl (.inl h)
theorem Inv.list(I:Inv X pins σ H s)(h:SqL X.K H a xs):∃its:List Value,qr xs its/\PlainL s.heap a its.toArray/\xs.length<=sizeLine:=by
 rcases h with h | ⟨o,its,n,hk,hc,hd,hs,hz,r⟩
 ·obtain⟨z,its,n,r,e⟩:=h.ok I.hok;exact⟨its,r,⟨_,n,e,rfl,rfl,rfl⟩,z⟩
 ·refine⟨its.toList,r,⟨o,n,I.kIn a o hk,hc,hd,by simpa using hs⟩,?_⟩;have e:=r.length;simp only[Array.length_toList] at e;omega
theorem Inv.tuple(I:Inv X pins σ H s)(h:SqT X.K H a xs):∃its:List Value,qr xs its/\IsTup s.heap a its.toArray/\xs.length<=sizeLine:=by
 rcases h with h | ⟨o,its,n,hk,hc,hs,hz,r⟩
 ·obtain⟨z,its,r,p⟩:=h.ok I.hok;exact⟨its,r,p,z⟩
 ·refine⟨its.toList,r,⟨o,I.kIn a o hk,hc,n,by simpa using hs⟩,?_⟩;have e:=r.length;simp only[Array.length_toList] at e;omega
theorem Inv.list_inj(I:Inv X pins σ H s)(h:SqL X.K H a xs)(h':SqL X.K H a ys):xs=ys:=by
 obtain⟨its,r,⟨o,n,e,_,_,d⟩,_⟩:=I.list h;obtain⟨its',r',⟨o',n',e',_,_,d'⟩,_⟩:=I.list h';rw[e] at e';cases e';rw[d] at d';injection d' with d1 _
 have:its=its':=by simpa using congrArg Array.toList d1
 subst this;exact r.inj r'
theorem Inv.tuple_inj(I:Inv X pins σ H s)(h:SqT X.K H a xs)(h':SqT X.K H a ys):xs=ys:=by
 obtain⟨its,r,⟨o,e,_,n,d⟩,_⟩:=I.tuple h;obtain⟨its',r',⟨o',e',_,n',d'⟩,_⟩:=I.tuple h';rw[e] at e';cases e';rw[d] at d';injection d' with d1 _
 have:its=its':=by simpa using congrArg Array.toList d1
 subst this;exact r.inj r'
end
abbrev Cx.wish(X:Cx)(E:PQ):Cx:={ X with xe:=E }
abbrev Cx.nox(X:Cx):Cx:=X.wish λ_ _=>False
theorem Cx.Ok.wish{X:Cx}(ok:X.Ok)(E:PQ):(X.wish E).Ok:=
 ⟨ok.mod,ok.kind,ok.glob,ok.blt,ok.above,ok.inj,ok.has,ok.cab,ok.hd,ok.frames,ok.stk,ok.exf,ok.bs,ok.bsz,ok.noex,ok.exfs,ok.funs,ok.frf⟩
theorem Cx.Ok.unwish{X:Cx}{E:PQ}(ok:(X.wish E).Ok):X.Ok:=
 ⟨ok.mod,ok.kind,ok.glob,ok.blt,ok.above,ok.inj,ok.has,ok.cab,ok.hd,ok.frames,ok.stk,ok.exf,ok.bs,ok.bsz,ok.noex,ok.exfs,ok.funs,ok.frf⟩
section
variable{X:Cx}{pins:PP}{σ:St}{H:Hp}{s:Shared}{E:PQ}
theorem Inv.wish(I:Inv X pins σ H s)(E:PQ):Inv (X.wish E) pins σ H s:=⟨I.ok.wish E,I.os,I.bare,I.base,I.loc,I.cell,I.free,I.freeC,I.pin,I.hok,I.len⟩
theorem Inv.unwish(I:Inv (X.wish E) pins σ H s):Inv X pins σ H s:=⟨I.ok.unwish,I.os,I.bare,I.base,I.loc,I.cell,I.free,I.freeC,I.pin,I.hok,I.len⟩
theorem SP.unwish{D:Ends}{f:Flow}{s':Shared}(h:SP (X.wish E) pins D f s'):SP X pins D f s':=by
 cases f with
 |next=>obtain⟨σ',H',I,q⟩:=h;exact⟨σ',H',I.unwish,q⟩
 |brk=>obtain⟨σ',H',I,q⟩:=h;exact⟨σ',H',I.unwish,q⟩
 |cont=>obtain⟨σ',H',I,q⟩:=h;exact⟨σ',H',I.unwish,q⟩
 |ret u=>obtain⟨v,σ',H',I,r,q⟩:=h;exact⟨v,σ',H',I.unwish,r,q⟩
theorem PT.nox{e:Expr}{t:TT}(h:PT X.nox e t):PT X e t:=λpins s σ H Q I hw=>wpAny_mono (h pins s σ H Q (I.wish _) hw) (λ_ _ ⟨H',I',q⟩=>⟨H',I'.unwish,q⟩) λ_ _ z=>False.elim z
theorem PSs.nox{st:List Stmt}{t:TS}(h:PSs X.nox st t):PSs X st t:=λpins s σ H D I hw=>wpAny_mono (h pins s σ H D (I.wish _) hw) (λ_ _ q=>q.unwish) λ_ _ z=>False.elim z
end
section
variable{X:Cx}{st:Stmt}{rest:List Stmt}{t u:TS}{e:Expr}{te:TE}{pos:Pos}
def qgV:TS:=λD σ H=>D.nx σ H
def qlx(t u:TS):TS:=λD σ H=>t { D with nx:=u D } σ H
theorem jN:PSs X [] qgV:=λ_ _ σ H _ I h=>wpAny_execs_nil ⟨σ,H,I,h⟩
theorem zc(h1:PS X st t)(h2:PSs X rest u):PSs X (st::rest) (qlx t u):=by
 intro pins s σ H D I h;refine wpAny_execs_cons (thn (h1 pins s σ H { D with nx:=u D } I h) λf s1 q=>?_)
 cases f with
 |next=>obtain⟨σ',H',I',q⟩:=q;exact h2 pins s1 σ' H' D I' q
 |ret v=>exact q
 |brk=>exact q
 |cont=>exact q
theorem zz(h1:PS X st t):PSs X [st] t:=by
 intro pins s σ H D I h;refine wpAny_execs_cons (thn (h1 pins s σ H D I h) λf s1 q=>?_)
 cases f with
 |next=>exact wpAny_execs_nil q
 |ret v=>exact q
 |brk=>exact q
 |cont=>exact q
theorem qeN:PS X (.Pass pos) qgV:=λ_ _ σ H _ I h=>wpAny_Pass ⟨σ,H,I,h⟩
theorem Inv.quiet{pins:PP}{σ:St}{H:Hp}{s:Shared}(I:Inv X pins σ H s):interactive X.env=false:=by simp[interactive,I.ok.kind]
def qjV(te:TE):TS:=λD σ H=>te σ H λ_ H1=>D.nx σ H1
theorem zO(he:PE X e te)(hs:swapsWith e none pos.line X.env=pure false:=by rfl):PS X (.Expr e pos) (qjV te):=by intro pins s σ H D I h;exact wpAny_Expr_any (thn (he pins s σ H _ I h) λv s1 ⟨x,H1,I1,r1,q1⟩=>⟨σ,H1,I1,q1⟩) I.quiet hs
def qly(te:TE):TS:=λD σ H=>te σ H D.rt
theorem qaE(he:PE X e te):PS X (.Return (some e) pos) (qly te):=by intro pins s σ H D I h;exact wpAny_Return_some (thn (he pins s σ H _ I h) λv s1 ⟨x,H1,I1,r1,q1⟩=>⟨x,σ,H1,I1,r1,q1⟩)
def qjW:TS:=λD _ H=>D.rt .non H
theorem qeO:PS X (.Return none pos) qjW:=λ_ _ σ H _ I h=>wpAny_Return_none ⟨.non,σ,H,I,rfl,h⟩
def qlz(c:TT)(t u:TS):TS:=λD σ H=>c σ H λb H1=>if b=true then t D σ H1 else u D σ H1
theorem ZP{c:Expr}{a b:List Stmt}{tc:TT}(hc:PT X c tc)(ha:PSs X a t)(hb:PSs X b u):PS X (.If c a b pos) (qlz tc t u):=by
 intro pins s σ H D I h;refine wpAny_If (thn (hc pins s σ H _ I h) λd s1 hq1=>?_);obtain⟨H1,I1,q1⟩:=hq1
 cases d with
 |true=>exact ha pins s1 σ H1 D I1 q1
 |false=>exact hb pins s1 σ H1 D I1 q1
def qgW:TS:=λ_ _ _=>False
theorem yd:PS X st qgW:=λ_ _ _ _ _ _ h=>h.elim
end
abbrev TG:=V->St->Hp->(St->Hp->Prop)->Prop
abbrev TGs:=List V->St->Hp->(St->Hp->Prop)->Prop
noncomputable def PG(X:Cx)(target:Expr)(t:TG):Prop:=
 ∀(pins:PP) (s:Shared) (σ:St) (H:Hp) (v:V) (u:Value) (Q:St->Hp->Prop),Inv X pins σ H s->qB v u->t v σ H Q->
  wpAny (model X.prog X.w) X.A (assign target X.env u) (λ_ s'=>∃σ' H',Inv X pins σ' H' s'/\Q σ' H') X.xe s
noncomputable def PGs(X:Cx)(ts:List Expr)(t:TGs):Prop:=
 ∀(pins:PP) (s:Shared) (σ:St) (H:Hp) (vs:List V) (us:List Value) (Q:St->Hp->Prop),Inv X pins σ H s->qr vs us->t vs σ H Q->
  wpAny (model X.prog X.w) X.A (assignInOrder ((assignEach ts X.env).map (·.2)) us) (λ_ s'=>∃σ' H',Inv X pins σ' H' s'/\Q σ' H') X.xe s
abbrev qjX:=V->V->V->Hp->(Hp->Prop)->Prop
noncomputable def qk1(X:Cx)(t:qjX):Prop:=
 ∀(pins:PP) (s:Shared) (σ:St) (H:Hp) (o i v:V) (ov iv u:Value) (Q:Hp->Prop),Inv X pins σ H s->qB o ov->qB i iv->qB v u->t o i v H Q->
  wpAny (model X.prog X.w) X.A (setItem ov iv u) (λ_ s'=>∃H',Inv X pins σ H' s'/\Q H') X.xe s
section
variable{X:Cx}{pos:Pos}
def qcC(i:Nat):TG:=λv σ H Q=>Q (σ.set i (some v)) H
theorem qeP{i:Nat}{x:Str}(hN:X.N.Nodup)(hi:X.N[i]?=some x)(hx:Loc X.env.scope x)(hf:X.fn x=true\/X.env.scope.names.lookup x=some .local:=by first | exact .inl rfl | exact .inr rfl | assumption):PG X (.Name x pos) (qcC i):=by intro pins s σ H v u Q I r h;exact wpAny_assign_Name (QW I hN hi hx r (λs' I'=>⟨_,H,I',h⟩) hf)
def qlA:TGs:=λvs σ H Q=>vs=[]/\Q σ H
def qjY(t:TG)(u:TGs):TGs:=λvs σ H Q=>∃v r,vs=v::r/\t v σ H λσ' H'=>u r σ' H' Q
theorem qeQ:PGs X [] qlA:=by intro pins s σ H vs us Q I r h;obtain⟨e,h⟩:=h;subst e;cases r;exact assignInOrder_nil ⟨σ,H,I,h⟩
theorem qcD{e:Expr}{es:List Expr}{t:TG}{u:TGs}(h1:PG X e t)(h2:PGs X es u)
  (hs:(assignEach (e::es) X.env).map (·.2)=assign e X.env::(assignEach es X.env).map (·.2):=by rfl):PGs X (e::es) (qjY t u):=by
 intro pins s σ H vs us Q I r h;obtain⟨v,vr,e1,h⟩:=h;subst e1
 cases r with
 |cons r rr=>rw[hs];refine assignInOrder_cons (thn (h1 pins s σ H _ _ _ I r h) λ_ s1 hq1=>?_);obtain⟨σ1,H1,I1,q1⟩:=hq1;exact h2 pins s1 σ1 H1 _ _ Q I1 rr q1
noncomputable def qlB(K:Frag)(n:Nat)(t:TGs):TG:=λv σ H Q=>∃a xs,v=.ref a/\SqT K H a xs/\xs.length=n/\t xs σ H Q
theorem qgX{es:List Expr}{k:Nat}{t:TGs}{n:Nat}(hc:X.calm=true)(h:PGs X es t)
  (hn:(assignEach es X.env).length=n:=by rfl) (hst:(assignEach es X.env).findIdx? (·.1)=none:=by rfl):PG X (.Tuple es k pos) (qlB X.K n t):=by
 intro pins s σ H v u Q I r hw;obtain⟨a,xs,e1,hq,hl,hw⟩:=hw;subst e1;cases r;obtain⟨its,rv,ht,hz⟩:=I.tuple hq;refine assign_Tuple_tuple (I.ok.hd hc) ht (by simp[hn,<-hl,rv.length]) hst λh' hx=>?_;have I1:Inv X pins σ H { s with heap:=h' }:=I.kept (t':=s.toks) λb o e=>hx b o (Nat.ne_of_lt (Heap.lt_size e)) e;exact h pins _ σ H xs _ Q I1 (by simpa using rv) hw
noncomputable def qlC(to ti:TE)(t:qjX):TG:=λv σ H Q=>to σ H λo H1=>ti σ H1 λi H2=>t o i v H2 λH3=>Q σ H3
theorem qgY{o i:Expr}{to ti:TE}{t:qjX}(ho:PE X o to)(hi:PE X i ti)(hs:qk1 X t)
  (ha:∀v,assign (.Subscript o i pos) X.env v=(do
   let ov<-holding [v] (eval o X.env)
   let iv<-holding [v,ov] (eval i X.env)
   standAt pos
   holding [v,ov,iv] (setItem ov iv v)
   release [v,ov,iv] []):=by intro _;rfl):PG X (.Subscript o i pos) (qlC to ti t):=by
 intro pins s σ H v u Q I r h;rw[ha];refine wpAny_bind (wpAny_holding (thn (ho pins s σ H _ I h) λov s1 hq1=>?_));obtain⟨x,H1,I1,r1,q1⟩:=hq1;refine wpAny_bind (wpAny_holding (thn (hi pins s1 σ H1 _ I1 q1) λiv s2 hq1=>?_));obtain⟨y,H2,I2,r2,q2⟩:=hq1;refine wpAny_bind (wpAny_standAt (wpAny_bind (wpAny_holding (thn (hs pins s2 σ H2 x y v ov iv u _ I2 r1 r2 r q2) λ_ s3 hq1=>?_))));obtain⟨H3,I3,q3⟩:=hq1;exact wpAny_release ⟨σ,H3,I3,q3⟩
def qjZ(te:TE)(g:TG):TS:=λD σ H=>te σ H λx H1=>g x σ H1 D.nx
theorem qd8{tg e:Expr}{te:TE}{g:TG}(he:PE X e te)(hg:PG X tg g)(hs:swapsWithSole [tg] e pos.line X.env=pure false:=by rfl)(hw:swappedStores [tg] e X.env=pure none:=by rfl)
  (h1:(assignEach [tg] X.env).map (·.2)=[assign tg X.env]:=by rfl):PS X (.Assign [tg] e pos) (qjZ te g):=by
 intro pins s σ H D I h;refine wpAny_Assign_stores (thn (he pins s σ H _ I h) λv s1 ⟨x,H1,I1,r1,q1⟩=>?_) hs hw;rw[h1];exact thn (hg pins s1 σ H1 x v _ I1 r1 q1) λ_ s2 q=>q
theorem QZ{i:Nat}{x:Str}{e:Expr}{te:TE}{pos':Pos}(hN:X.N.Nodup)(hi:X.N[i]?=some x)(hx:Loc X.env.scope x)(he:PE X e te)(hs:swapsWith e (some (.Name x pos')) pos.line X.env=pure false:=by rfl)(hf:X.fn x=true\/X.env.scope.names.lookup x=some .local:=by first | exact .inl rfl | exact .inr rfl | assumption) :
  PS X (.Assign [.Name x pos'] e pos) (qjZ te (qcC i)):=by
 intro pins s σ H D I h;refine wpAny_Assign_Name (thn (he pins s σ H _ I h) λv s1 ⟨y,H1,I1,r1,q1⟩=>?_) hs;exact QW I1 hN hi hx r1 (λs2 I2=>⟨_,H1,I2,q1⟩) hf
end
section
variable{X:Cx}{pos:Pos}
noncomputable def qgZ(c:TT)(tb:TS):TS:=λD σ H=>∃W:Nat->St->Hp->Prop,(∃m,W m σ H)/\∀m σ H,W m σ H->
 c σ H λb H1=>if b=true then∃N:St->Hp->Prop,(∀σ' H',N σ' H'->∃m',m' < m/\W m' σ' H')/\tb { D with nx:=N,ct:=N,bk:=D.nx } σ H1 else D.nx σ H1
theorem qcE{c:Expr}{body:List Stmt}{tc:TT}{tb:TS}(hp:PassesOwn (model X.prog X.w) X.A X.env X.xe)(hc:PT X c tc)(hb:PSs X body tb):PS X (.While c body [] pos) (qgZ tc tb):=by
 intro pins s σ H D I h;obtain⟨W,⟨m0,w0⟩,turn⟩:=h;refine wpAny_While (codeAny_whileLoop (λn s'=>∃σ' H',Inv X pins σ' H' s'/\W n σ' H') ?_ m0 ⟨σ,H,I,w0⟩);rintro n s1 ⟨σ1,H1,I1,w1⟩;refine wpAny_passesOwn hp (thn (hc pins s1 σ1 H1 _ I1 (turn n σ1 H1 w1)) λb s2 hq1=>?_);obtain⟨H2,I2,q2⟩:=hq1
 cases b with
 |true=>
  obtain⟨N,hN,q2⟩:=q2;rw[if_pos rfl];refine wpAny_passesOwn hp (thn (hb pins s2 σ1 H2 _ I2 q2) λf s3 q3=>?_)
  cases f with
  |next=>obtain⟨σ3,H3,I3,n3⟩:=q3;obtain⟨m',hm,w3⟩:=hN σ3 H3 n3;exact⟨m',hm,σ3,H3,I3,w3⟩
  |cont=>obtain⟨σ3,H3,I3,n3⟩:=q3;obtain⟨m',hm,w3⟩:=hN σ3 H3 n3;exact⟨m',hm,σ3,H3,I3,w3⟩
  |brk=>exact q3
  |ret v=>exact q3
 |false=>rw[if_neg Bool.false_ne_true];exact wpAny_execs_nil ⟨σ1,H2,I2,q2⟩
end
structure It where
 go:Nat->Hp->Prop
 yld:Nat->Hp->V->Hp->Prop
 stop:Nat->Hp->Prop
noncomputable def ZQ(X:Cx)(pins:PP)(H:Hp)(b:Addr):Prop:=
 H b=none/\b≠X.env.locals/\b∉X.fs/\(b∈X.ex\/X.s₀.heap.objs.size<=b)/\(∀x c,X.env.cells.lookup x=some c->c≠b)/\∀p∈X.pn++pins,p.1≠b
theorem Inv.fpOk{X:Cx}{pins:PP}{σ:St}{H H':Hp}{s:Shared}{b:Addr}(I:Inv X pins σ H s)(hb:s.heap.objs.size<=b)(hn:H' b=none):ZQ X pins H' b:=by
 refine⟨hn,Nat.ne_of_gt (Nat.lt_of_lt_of_le I.lt hb),I.nofs hb,.inr (Nat.le_trans I.sz hb),λx c e z=>?_,λp hp z=>?_⟩
 ·obtain⟨v,q⟩:=I.cell x c e;exact absurd (Nat.lt_of_lt_of_le q.lt (by rw[z];exact hb)) (Nat.lt_irrefl _)
 ·exact absurd (Nat.lt_of_lt_of_le (Heap.lt_size (I.pin p hp).1) (by rw[z];exact hb)) (Nat.lt_irrefl _)
structure Turn(P:Program)(w:World)(K:Frag)(tg:Expr)(J:It)(fp:List Addr)(it:Addr)(tn:Nat->Heap->Prop):Prop where
 mem:it∈fp
 obj:∀i h,tn i h->∀b∈fp,∃o,h.get? b=some o/\∀v,o.data≠.cell v
 keep:∀i h h',tn i h->(∀b∈fp,∀o,h.get? b=some o->h'.get? b=some o)->tn i h'
 item:∀(X:Cx),X.prog=P->X.w=w->X.K=K->X.calm=true->∀(i:Nat) (pins:PP) (s:Shared) (σ:St) (H:Hp) (E:PQ),Inv X pins σ H s->(∀b∈fp,ZQ X pins H b)->tn i s.heap->J.go i H->
  wpAny (model P w) X.A (pyNext (.ref it)) (λr s1=>∃u,r=some u/\
   wpAny (model P w) X.A (letOwnedTupleGo tg (.ref it) u) (λ_ s2=>∃x H',Inv X pins σ H' s2/\qB x u/\J.yld i H x H'/\tn (i+1) s2.heap/\∀b∈fp,H' b=none) E s1) E s
 done:∀(X:Cx),X.prog=P->X.w=w->X.K=K->X.calm=true->∀(i:Nat) (pins:PP) (s:Shared) (σ:St) (H:Hp) (E:PQ),Inv X pins σ H s->(∀b∈fp,ZQ X pins H b)->tn i s.heap->J.stop i H->
  wpAny (model P w) X.A (pyNext (.ref it)) (λr s1=>r=none/\Inv X pins σ H s1) E s
 self:∀(A:Around) (i:Nat) (s:Shared) (Q:PQ) (E:PQ),tn i s.heap->Q (.ref it) s->wpAny (model P w) A (pyIter (.ref it)) Q E s
abbrev TI:=St->Hp->(It->Hp->Prop)->Prop
noncomputable def PIE(X:Cx)(pins:PP)(σ:St)(tg:Expr)(R:It->Hp->Prop)(itv:Value)(s2:Shared):Prop:=
 ∃(it:Addr) (fp:List Addr) (tn:Nat->Heap->Prop) (J:It) (H':Hp),itv=.ref it/\Inv X pins σ H' s2/\Turn X.prog X.w X.K tg J fp it tn/\tn 0 s2.heap/\(∀b∈fp,ZQ X pins H' b)/\R J H'
noncomputable def PI(X:Cx)(tg iter:Expr)(wi:TI):Prop:=
 ∀(pins:PP) (s:Shared) (σ:St) (H:Hp) (R:It->Hp->Prop),Inv X pins σ H s->wi σ H R->
  wpAny (model X.prog X.w) X.A (eval iter X.env) (λv s1=>wpAny (model X.prog X.w) X.A (pyIter v) (PIE X pins σ tg R) X.xe s1) X.xe s
theorem ZR{M:Model}{A:Around}{E:PQ}{s:Shared}{tg:Expr}{it:Addr}{u:Value}{o:Obj}{n:String}{vs:Array Value}{Q:Unit->Shared->Prop}(ho:s.heap.get? it=some o)(hc:o.cls=.type n)(hd:o.data=.fields vs)
  (hn:["enumerate","zip","dict_itemiterator","dict_reverseitemiterator","odict_iterator","itertools.zip_longest","itertools.pairwise"].contains n=false) (hQ:Q () s):wpAny M A (letOwnedTupleGo tg (.ref it) u) Q E s:=by
 unfold letOwnedTupleGo
 cases tg<;>first
  | exact wpAny_pure hQ
  | (cases u<;>first
    | exact wpAny_pure hQ
    | (refine wpAny_bind (wpAny_load ho ?_)
       rw[hc,hd];show wpAny M A (if (["enumerate","zip","dict_itemiterator","dict_reverseitemiterator","odict_iterator","itertools.zip_longest","itertools.pairwise"].contains n&&vs[0]? == some (rawInt _))=true then _ else _) Q E s;rw[if_neg (by intro h;rw[hn,Bool.false_and] at h;cases h)];exact wpAny_pure hQ))
noncomputable def Itl(K:Frag)(a:Addr):It:=
 ⟨λi H=>∃xs x,SqL K H a xs/\xs[i]?=some x,λi H x H'=>H'=H/\∀xs,SqL K H a xs->xs[i]?=some x,λi H=>∃xs,SqL K H a xs/\xs.length<=i⟩
noncomputable def Itt(K:Frag)(a:Addr):It:=
 ⟨λi H=>∃xs x,SqT K H a xs/\xs[i]?=some x,λi H x H'=>H'=H/\∀xs,SqT K H a xs->xs[i]?=some x,λi H=>∃xs,SqT K H a xs/\xs.length<=i⟩
def Itr(lo:Int)(n:Nat):It:=⟨λi _=>i < n,λi H x H'=>H'=H/\x=.int (lo+i),λi _=>n<=i⟩
theorem qaF{P:Program}{w:World}{K:Frag}{tg:Expr}(a it:Addr):Turn P w K tg (Itl K a) [it] it (λi h=>h.IsListIter it a i) where
 mem:=by simp
 obj:=λi h st b hb=>by
  have e:b=it:=by simpa using hb
  subst e;obtain⟨o,e,c,d⟩:=st;exact⟨o,e,λv z=>by rw[d] at z;cases z⟩
 keep:=λi h h' st k=>st.at λo e=>k it (by simp) o e
 item:=by intro X hP hw hK hc i pins s σ H E I hf st hg;subst hP hw hK;obtain⟨xs,x,hq,hx⟩:=hg;obtain⟨its,rv,p,hz⟩:=I.list hq;obtain⟨u,hu,ru⟩:=rv.get hx;obtain⟨f0,f1,f2,f3,f4,f5⟩:=hf it (by simp);refine wpAny_pyNext_list_item st p.isList (x:=u) (by simpa using hu) λh' st' sb=>?_;have I1:Inv X pins σ H { s with heap:=h' }:=I.turned (t':=s.toks) (λb o hb e=>(sb.2 b hb).trans e) f0 f1 f3 f4 f5;obtain⟨o,e,c,d⟩:=id st';exact⟨u,rfl,ZR (s:={ s with heap:=h' }) e c d (2:) ⟨x,H,I1,ru,⟨rfl,λys hy=>by rw[I.list_inj hy hq];exact hx⟩,st',λb hb=>(hf b hb).1⟩⟩
 done:=by intro X hP hw hK hc i pins s σ H E I hf st hg;subst hP hw hK;obtain⟨xs,hq,hx⟩:=hg;obtain⟨its,rv,p,hz⟩:=I.list hq;obtain⟨f0,f1,f2,f3,f4,f5⟩:=hf it (by simp);have hl:=rv.length;exact wpAny_pyNext_list_end (I.ok.hd hc) st p.isList (by simp;omega) λh' eb=>⟨rfl,I.turned (t':=s.toks) (λb o hb e=>eb b o hb e) f0 f1 f3 f4 f5⟩
 self:=λ_ _ _ _ _ st h=>wpAny_pyIter_listiter st h
theorem ZS{P:Program}{w:World}{K:Frag}{tg:Expr}(a it:Addr):Turn P w K tg (Itt K a) [it] it (λi h=>h.IsTupleIter it a i) where
 mem:=by simp
 obj:=λi h st b hb=>by
  have e:b=it:=by simpa using hb
  subst e;obtain⟨o,e,c,d⟩:=st;exact⟨o,e,λv z=>by rw[d] at z;cases z⟩
 keep:=λi h h' st k=>st.at λo e=>k it (by simp) o e
 item:=by intro X hP hw hK hc i pins s σ H E I hf st hg;subst hP hw hK;obtain⟨xs,x,hq,hx⟩:=hg;obtain⟨its,rv,p,hz⟩:=I.tuple hq;obtain⟨u,hu,ru⟩:=rv.get hx;obtain⟨f0,f1,f2,f3,f4,f5⟩:=hf it (by simp);refine wpAny_pyNext_tuple_item st (show s.heap.IsTuple a its.toArray from p) (x:=u) (by simpa using hu) λh' st' sb=>?_;have I1:Inv X pins σ H { s with heap:=h' }:=I.turned (t':=s.toks) (λb o hb e=>(sb.2 b hb).trans e) f0 f1 f3 f4 f5;obtain⟨o,e,c,d⟩:=id st';exact⟨u,rfl,ZR (s:={ s with heap:=h' }) e c d (2:) ⟨x,H,I1,ru,⟨rfl,λys hy=>by rw[I.tuple_inj hy hq];exact hx⟩,st',λb hb=>(hf b hb).1⟩⟩
 done:=by intro X hP hw hK hc i pins s σ H E I hf st hg;subst hP hw hK;obtain⟨xs,hq,hx⟩:=hg;obtain⟨its,rv,p,hz⟩:=I.tuple hq;obtain⟨f0,f1,f2,f3,f4,f5⟩:=hf it (by simp);have hl:=rv.length;exact wpAny_pyNext_tuple_end (I.ok.hd hc) st (show s.heap.IsTuple a its.toArray from p) (by simp;omega) λh' eb=>⟨rfl,I.turned (t':=s.toks) (λb o hb e=>eb b o hb e) f0 f1 f3 f4 f5⟩
 self:=λ_ _ _ _ _ st h=>wpAny_pyIter_tupleiter st h
theorem ZT{P:Program}{w:World}{K:Frag}{tg:Expr}(it:Addr)(lo:Int)(n:Nat):Turn P w K tg (Itr lo n) [it] it (λi h=>IsRangeIter h it (lo+(i:Nat) * 1) ((n:Int) - (i:Nat)) 1) where
 mem:=by simp
 obj:=λi h st b hb=>by
  have e:b=it:=by simpa using hb
  subst e
  exact⟨_,st,λv z=>by have z':Data.fields _=Data.cell v:=z;cases z'⟩
 keep:=λi h h' st k=>k it (by simp) _ st
 item:=by intro X hP hw hK hc i pins s σ H E I hf st hg;subst hP hw hK;obtain⟨f0,f1,f2,f3,f4,f5⟩:=hf it (by simp);have W:=Walks.range (prog:=X.prog) (w:=X.w) (I.ok.hd hc) it lo 1 n;refine W.item i s _ _ hg st λv h' tk hv st' kk=>?_;obtain⟨t,rfl⟩:=hv;have I1:Inv X pins σ H { s with heap:=h',toks:=tk }:=I.turned (λb o hb e=>kk b o (by simpa using hb) e) f0 f1 f3 f4 f5;refine⟨_,rfl,ZR (s:={ s with heap:=h',toks:=tk }) (n:="range_iterator") st' rfl rfl (2:) ⟨.int (lo+i),H,I1,⟨t,?_⟩,⟨rfl,rfl⟩,st',λb hb=>(hf b hb).1⟩⟩;rw[Int.mul_one]
 done:=by intro X hP hw hK hc i pins s σ H E I hf st hg;subst hP hw hK;obtain⟨f0,f1,f2,f3,f4,f5⟩:=hf it (by simp);exact wpAny_pyNext_range_end (I.ok.hd hc) st (by have:n<=i:=hg;omega) λh' eb=>⟨rfl,I.turned (t':=s.toks) (λb o hb e=>eb b o hb e) f0 f1 f3 f4 f5⟩
 self:=λ_ _ _ _ _ st h=>wpAny_pyIter_rangeiter st h
end L2
namespace L2
open PySem PySem.Spec PyProof.Rows
section
variable{X:Cx}{tg:Expr}
theorem Q0{pins:PP}{σ:St}{H:Hp}{s:Shared}{R:It->Hp->Prop}{E:PQ}{lo hi:Int}{t u v:Tok}{tk:Nat}(I:Inv X pins σ H s)(h1:-(2 ^ 62)<=lo)(h2:lo < 2 ^ 62)(h3:-(2 ^ 62)<=hi)(h4:hi < 2 ^ 62)
  (q:R (Itr lo (hi - lo).toNat) H):wpAny (model X.prog X.w) X.A (pyIter (.ref s.heap.objs.size)) (PIE X pins σ tg R) E { s with heap:=s.heap.push { cls:=.type "range",data:=.fields #[.int lo t,.int hi u,.int 1 v] },toks:=tk }:=by
 refine wpAny_pyIter_range (IsRange.new ..) (small_one h1 h2 h3 h4) ?_;have I1:Inv X pins σ H { s with heap:=s.heap.push { cls:=.type "range",data:=.fields #[.int lo t,.int hi u,.int 1 v] },toks:=tk }:=I.kept λb o e=>Heap.get?_push_of_some _ e
 refine⟨(s.heap.push { cls:=.type "range",data:=.fields #[.int lo t,.int hi u,.int 1 v] }).objs.size,[(s.heap.push { cls:=.type "range",data:=.fields #[.int lo t,.int hi u,.int 1 v] }).objs.size],_,_,H,rfl,
  I1.kept (t':=tk) λb o e=>Heap.get?_push_of_some _ e,ZT _ lo (hi - lo).toNat,?_,λb hb=>?_,q⟩
 ·have e1:lo+((0:Nat):Int) * 1=lo:=by simp
  have e2:(((hi - lo).toNat:Nat):Int) - ((0:Nat):Int)=Builtin.Range.rangeSize lo hi 1:=by rw[rangeSize_one];split<;>omega
  show IsRangeIter _ _ (lo+((0:Nat):Int) * 1) ((((hi - lo).toNat:Nat):Int) - ((0:Nat):Int)) 1;rw[e1,e2];exact Heap.get?_push_size _ rfl
 ·have e:b=(s.heap.push { cls:=.type "range",data:=.fields #[.int lo t,.int hi u,.int 1 v] }).objs.size:=by simpa using hb
  subst e;exact I1.fpOk (Nat.le_refl _) (I1.hok.fresh (Nat.le_refl _))
noncomputable def qj0(ta:TA):TI:=λσ H R=>ta σ H λvs H1=>∃j:Int,vs=[.int j]/\-(2 ^ 62)<=j/\j < 2 ^ 62/\R (Itr 0 j.toNat) H1
noncomputable def qj1(ta:TA):TI:=λσ H R=>ta σ H λvs H1=>∃i j:Int,vs=[.int i,.int j]/\(-(2 ^ 62)<=i/\i < 2 ^ 62/\-(2 ^ 62)<=j/\j < 2 ^ 62)/\R (Itr i (j - i).toNat) H1
theorem qaG{a:Expr}{ta:TA}{p pos:Pos}(hg:Gl X "range")(hm:X.mg "range" = none)(ha:PA X [a] ta)(hs:starEach [a] X.env=[(false,eval a X.env)]:=by rfl):PI X tg (.Call (.Name "range" p) [a] [] pos) (qj0 ta):=by
 intro pins s σ H R I h;refine Call_ (jt I hg hm boot_range (PyProof.Rows.callWith_type1 (thn (ha pos pins s σ H _ I h) λus s1 ⟨vs,H1,I1,r1,q1⟩=>?_) hs rfl));obtain⟨j,e,q1,q2,q⟩:=q1;subst e
 cases r1 with
 |cons r rr=>cases rr;obtain⟨t,rfl⟩:=r;exact call_range_1 (Q0 I1 (1:) (1:) q1 q2 (by simpa using q))
theorem qaH{a b:Expr}{ta:TA}{p pos:Pos}(hg:Gl X "range")(hm:X.mg "range" = none)(ha:PA X [a,b] ta)(hs:starEach [a,b] X.env=[(false,eval a X.env),(false,eval b X.env)]:=by rfl)(hs2:starEach [b] X.env=[(false,eval b X.env)]:=by rfl) :
  PI X tg (.Call (.Name "range" p) [a,b] [] pos) (qj1 ta):=by
 intro pins s σ H R I h;refine Call_ (jt I hg hm boot_range (PyProof.Rows.callWith_type1 (thn (ha pos pins s σ H _ I h) λus s1 ⟨vs,H1,I1,r1,q1⟩=>?_) (by rw[hs,hs2]) (by rw[hs2];rfl)));obtain⟨i,j,e,⟨q1,q2,q3,q4⟩,q⟩:=q1;subst e
 cases r1 with
 |cons r rr=>
  cases rr with
  | cons r' rr=>cases rr;obtain⟨t,rfl⟩:=r;obtain⟨t',rfl⟩:=r';exact call_range_2 (Q0 I1 q1 q2 q3 q4 q)
noncomputable def qlD(wi:TI)(g:TG)(tb:TS):TS:=λD σ H=>wi σ H λJ H1=>∃W:Nat->Nat->St->Hp->Prop,(∃m,W 0 m σ H1)/\∀i m σ H,W i m σ H->
 (J.stop i H/\D.nx σ H)\/(J.go i H/\∃N:St->Hp->Prop,(∀σ' H',N σ' H'->∃m',m' < m/\W (i+1) m' σ' H')/\∀x H',J.yld i H x H'->g x σ H' λσ2 H2=>tb { D with nx:=N,ct:=N,bk:=D.nx } σ2 H2)
def J4(fp:List Addr)(h:Heap):List (Addr×Obj):=fp.filterMap λb=>(h.get? b).map λo=>(b,o)
theorem z8{fp:List Addr}{h:Heap}{b:Addr}{o:Obj}(hb:b∈fp)(e:h.get? b=some o):(b,o)∈J4 fp h:=List.mem_filterMap.mpr ⟨b,hb,by rw[e];rfl⟩
theorem qaI{fp:List Addr}{h:Heap}{p:Addr×Obj}(hp:p∈J4 fp h):p.1∈fp/\h.get? p.1=some p.2:=by
 obtain⟨b,hb,e⟩:=List.mem_filterMap.mp hp
 cases q:h.get? b with
 |none=>rw[q] at e;cases e
 |some o=>rw[q] at e;have e':(b,o)=p:=Option.some.inj e;subst e';exact⟨hb,q⟩
theorem Inv.pinned{pins:PP}{σ:St}{H:Hp}{s:Shared}{fp:List Addr}(I:Inv X pins σ H s)(hf:∀b∈fp,ZQ X pins H b)(ho:∀b∈fp,∃o,s.heap.get? b=some o/\∀v,o.data≠.cell v):Inv X (pins++J4 fp s.heap) σ H s:=
 I.pins_of λp hp=>(List.mem_append.mp hp).elim (λz=>I.pin p (List.mem_append_right _ z)) λz=>by obtain⟨hb,e⟩:=qaI z;obtain⟨f0,f1,f2,_⟩:=hf p.1 hb;obtain⟨o,e',d⟩:=ho p.1 hb;rw[e] at e';cases e';exact⟨e,f0,f1,f2,d⟩
theorem Inv.unpinned{pins pl:PP}{σ:St}{H:Hp}{s:Shared}(I:Inv X (pins++pl) σ H s):Inv X pins σ H s:=I.pins_of λp hp=>I.pin p (List.mem_append_right _ (List.mem_append_left _ hp))
theorem qd9{iter:Expr}{body:List Stmt}{wi:TI}{g:TG}{tb:TS}{pos:Pos}(hp:PassesOwn (model X.prog X.w) X.A X.env X.xe)(hc:X.calm=true)(hi:PI X tg iter wi)(hg:PG X tg g)(hb:PSs X body tb)
  (hs:∀x,foldedSetIterable iter X.env x=pure x:=by intro _;rfl):PS X (.For tg iter body [] pos) (qlD wi g tb):=by
 intro pins s σ H D I h;refine wpAny_For (thn (hi pins s σ H _ I h) λv s1 h1=>thn h1 λitv s2 h2=>?_) hs;obtain⟨it,fp,tn,J,H2,e,I2,T,st2,f2,W,⟨m0,w0⟩,turn⟩:=h2;subst e;have stat:∀{H':Hp},(∀b∈fp,H' b=none)->∀b∈fp,ZQ X pins H' b:=λhn b hb=>⟨hn b hb,(f2 b hb).2⟩;refine codeAny_forLoop_any (λn s'=>∃i σ' H',Inv X pins σ' H' s'/\tn i s'.heap/\(∀b∈fp,H' b=none)/\W i n σ' H') ?_ m0 ⟨0,σ,H2,I2,st2,λb hb=>(f2 b hb).1,w0⟩;rintro n s3 ⟨i,σ3,H3,I3,st3,fr3,w3⟩;rcases turn i n σ3 H3 w3 with ⟨stop,qn⟩ | ⟨go,N,hN,step⟩
 ·refine wpAny_passesOwn hp (thn (T.done X rfl rfl rfl hc i pins s3 σ3 H3 X.xe I3 (stat fr3) st3 stop) λr s4 hq1=>?_);obtain⟨hr,I4⟩:=hq1;subst hr;exact wpAny_execs_nil ⟨σ3,H3,I4,qn⟩
 ·refine wpAny_passesOwn hp (thn (T.item X rfl rfl rfl hc i pins s3 σ3 H3 X.xe I3 (stat fr3) st3 go) λr s4 hq1=>?_);obtain⟨u,hr,h4⟩:=hq1;subst hr;refine wpAny_passesOwn hp (thn h4 λ_ s5 hq1=>?_);obtain⟨x,H5,I5,r5,y5,st5,fr5⟩:=hq1;have I5':=I5.pinned (stat fr5) (T.obj _ _ st5);refine wpAny_passesOwn hp (thn (hg _ s5 σ3 H5 x u _ I5' r5 (step x H5 y5)) λ_ s6 hq1=>?_);obtain⟨σ6,H6,I6,q6⟩:=hq1;refine wpAny_passesOwn hp (thn (hb _ s6 σ6 H6 _ I6 q6) λf s7 q7=>?_)
  have again:∀{σ7:St} {H7:Hp},Inv X (pins++J4 fp s5.heap) σ7 H7 s7->N σ7 H7->∃m,m < n/\∃i σ' H',Inv X pins σ' H' s7/\tn i s7.heap/\(∀b∈fp,H' b=none)/\W i m σ' H':=λ{σ7 H7} I7 n7=>by obtain⟨m',hm,w7⟩:=hN σ7 H7 n7;refine⟨m',hm,i+1,σ7,H7,I7.unpinned,T.keep _ _ _ st5 λb hb o e=>(I7.pin (b,o) (List.mem_append_right _ (List.mem_append_right _ (z8 hb e)))).1,λb hb=>?_,w7⟩;obtain⟨o,e,d⟩:=T.obj _ _ st5 b hb;exact(I7.pin (b,o) (List.mem_append_right _ (List.mem_append_right _ (z8 hb e)))).2.1
  cases f with
  |next=>obtain⟨σ7,H7,I7,n7⟩:=q7;exact again I7 n7
  |cont=>obtain⟨σ7,H7,I7,n7⟩:=q7;exact again I7 n7
  |brk=>obtain⟨σ7,H7,I7,q7⟩:=q7;exact⟨σ7,H7,I7.unpinned,q7⟩
  |ret v=>obtain⟨x7,σ7,H7,I7,r7,q7⟩:=q7;exact⟨x7,σ7,H7,I7.unpinned,r7,q7⟩
end
end L2
namespace L2
open PySem PySem.Spec PyProof.Rows
abbrev R2:=V->V->Hp->VK->Prop
noncomputable def OpR(X:Cx)(f:Value->Value->Sem Value)(r:R2):Prop:=
 ∀(pins:PP) (s:Shared) (σ:St) (H:Hp) (x y:V) (v u:Value) (Q:VK),Inv X pins σ H s->qB x v->qB y u->r x y H Q->
  wpAny (model X.prog X.w) X.A (f v u) (EP X pins σ Q) X.xe s
noncomputable def UnR(X:Cx)(f:Value->Sem Value)(r:V->Hp->VK->Prop):Prop:=
 ∀(pins:PP) (s:Shared) (σ:St) (H:Hp) (x:V) (v:Value) (Q:VK),Inv X pins σ H s->qB x v->r x H Q->
  wpAny (model X.prog X.w) X.A (f v) (EP X pins σ Q) X.xe s
noncomputable def qH(X:Cx)(f:Value)(r:List V->Hp->VK->Prop):Prop:=
 ∀(pins:PP) (s:Shared) (σ:St) (H:Hp) (xs:List V) (us:List Value) (Q:VK),Inv X pins σ H s->qr xs us->r xs H Q->
  wpAny (model X.prog X.w) X.A (call f us) (EP X pins σ Q) X.xe s
noncomputable def qlE(X:Cx)(r:V->Hp->(Bool->Hp->Prop)->Prop):Prop:=
 ∀(pins:PP) (s:Shared) (σ:St) (H:Hp) (x:V) (v:Value) (Q:Bool->Hp->Prop),Inv X pins σ H s->qB x v->r x H Q->
  wpAny (model X.prog X.w) X.A (truthy v) (TP X pins σ Q) X.xe s
def tOp(r:R2)(ta tb:TE):TE:=λσ H Q=>ta σ H λx H1=>tb σ H1 λy H2=>r x y H2 Q
def tUn(r:V->Hp->VK->Prop)(ta:TE):TE:=λσ H Q=>ta σ H λx H1=>r x H1 Q
noncomputable def rI(C:Int->Int->Prop)(g:Int->Int->V):R2:=λx y H Q=>∃i j,x=.int i/\y=.int j/\C i j/\Q (g i j) H
def rI0(g:Int->Int->V):R2:=λx y H Q=>∃i j,x=.int i/\y=.int j/\Q (g i j) H
def rU(g:Int->V):V->Hp->VK->Prop:=λx H Q=>∃i,x=.int i/\Q (g i) H
section
variable{X:Cx}{a b c:Expr}{ta tb tc:TE}{pos:Pos}
theorem qj2(ha:PE X a ta)(hb:PE X b tb){pins:PP}{s:Shared}{σ:St}{H:Hp}{R:V->V->Hp->Prop}(I:Inv X pins σ H s)
  (h:ta σ H λx H1=>tb σ H1 λy H2=>R x y H2) {Q:PQ} {f:Value->Value->Sem Value}
  (hf:∀v u s2 x y H2,Inv X pins σ H2 s2->qB x v->qB y u->R x y H2->wpAny (model X.prog X.w) X.A (f v u) Q X.xe s2) :
  wpAny (model X.prog X.w) X.A (eval a X.env) (λv s₁=>wpAny (model X.prog X.w) X.A (eval b X.env) (λu s₂=>wpAny (model X.prog X.w) X.A (f v u) Q X.xe s₂) X.xe s₁) X.xe s:=by
 refine thn (ha pins s σ H _ I h) λv s1 hq1=>?_;obtain⟨x,H1,I1,r1,q1⟩:=hq1;refine thn (hb pins s1 σ H1 _ I1 q1) λu s2 hq1=>?_;obtain⟨y,H2,I2,r2,q2⟩:=hq1;exact hf v u s2 x y H2 I2 r1 r2 q2
theorem qj3{op:Operator}{r:R2}(ho:OpR X (binaryOp op) r)(ha:PE X a ta)(hb:PE X b tb):PE X (.BinOp a op b pos) (tOp r ta tb):=by intro pins s σ H Q I h;exact wpAny_BinOp (qj2 ha hb I h λv u s2 x y H2 I2 rx ry q=>ho pins s2 σ H2 x y v u Q I2 rx ry q)
theorem qg0{op:UnaryOp}{r:V->Hp->VK->Prop}(ho:UnR X (unaryOp op) r)(ha:PE X a ta):PE X (.UnaryOp op a pos) (tUn r ta):=by intro pins s σ H Q I h;exact UnaryOp_ (thn (ha pins s σ H _ I h) λv s1 ⟨x,H1,I1,r1,q1⟩=>ho pins s1 σ H1 x v Q I1 r1 q1)
theorem opI{f:Value->Value->Sem Value}{C:Int->Int->Prop}{g:Int->Int->Int}
  (rule:∀(i j:Int) (t u:Tok) (s:Shared) (Q:PQ) (E:PQ),C i j->Q (.int (g i j) s.toks) { s with toks:=s.toks+1 }->wpAny (model X.prog X.w) X.A (f (.int i t) (.int j u)) Q E s) :
  OpR X f (rI C λi j=>.int (g i j)):=by
 intro pins s σ H x y v u Q I rx ry h;obtain⟨i,j,rfl,rfl,hc,q⟩:=h;obtain⟨t,rfl⟩:=rx;obtain⟨t',rfl⟩:=ry;exact rule i j t t' s _ _ hc ⟨.int (g i j),H,I.tok _,⟨_,rfl⟩,q⟩
theorem qk2{f:Value->Value->Sem Value}{g:Int->Int->Int}
  (rule:∀(i j:Int) (t u:Tok) (s:Shared) (Q:PQ) (E:PQ),Q (.int (g i j) s.toks) { s with toks:=s.toks+1 }->wpAny (model X.prog X.w) X.A (f (.int i t) (.int j u)) Q E s) :
  OpR X f (rI0 λi j=>.int (g i j)):=by
 intro pins s σ H x y v u Q I rx ry h;obtain⟨i,j,rfl,rfl,q⟩:=h;obtain⟨t,rfl⟩:=rx;obtain⟨t',rfl⟩:=ry;exact rule i j t t' s _ _ ⟨.int (g i j),H,I.tok _,⟨_,rfl⟩,q⟩
theorem qjC{f:Value->Value->Sem Value}{g:Int->Int->Bool}
  (rule:∀(i j:Int) (t u:Tok) (s:Shared) (Q:PQ) (E:PQ),Q (.bool (g i j)) s->wpAny (model X.prog X.w) X.A (f (.int i t) (.int j u)) Q E s) :
  OpR X f (rI0 λi j=>.bl (g i j)):=by
 intro pins s σ H x y v u Q I rx ry h;obtain⟨i,j,rfl,rfl,q⟩:=h;obtain⟨t,rfl⟩:=rx;obtain⟨t',rfl⟩:=ry;exact rule i j t t' s _ _ ⟨.bl (g i j),H,I,rfl,q⟩
def qlF(i j:Int):Prop:=0 < j/\j < 1073741824
def qlG(i j:Int):Prop:=0<=j/\j<=1000000/\i.natAbs < 2 ^ 64
def qjD(i j:Int):Prop:=(-(2 ^ 64) < i/\i < 2 ^ 64)\/(-(2 ^ 64) < j/\j < 2 ^ 64)
theorem qjD.ok{i j:Int}(h:qjD i j):IntMulOk i j:=by
 rcases h with ⟨h1,h2⟩ | ⟨h1,h2⟩
 ·exact .of_left (intBits_le_64 h1 h2)
 ·exact .of_right (intBits_le_64 h1 h2)
theorem qg1:OpR X (binaryOp .Add) (rI0 λi j=>.int (i+j)):=qk2 λ_ _ _ _ _ _ _ q=>add_int q
theorem qg2:OpR X (binaryOp .Sub) (rI0 λi j=>.int (i - j)):=qk2 λ_ _ _ _ _ _ _ q=>sub_int q
theorem qg3:OpR X (binaryOp .Mult) (rI qjD λi j=>.int (i * j)):=opI λ_ _ _ _ _ _ _ hc q=>mul_int q hc.ok
theorem qeR:OpR X (binaryOp .FloorDiv) (rI qlF λi j=>.int (i / j)):=opI λi j _ _ _ _ _ hc q=>by have h1:(0:Int) < j:=hc.1;have h2:j < 1073741824:=hc.2;exact floordiv_int (1:) (by rw[Int.fdiv_eq_ediv_of_nonneg i (1:)];exact q) (.inl (PyProof.noPylong_small (1:)))
theorem qg4:OpR X (binaryOp .Mod) (rI (λ_ j=>0 < j) λi j=>.int (i % j)):=opI λi j _ _ _ _ _ hc q=>by have h1:(0:Int) < j:=hc;exact mod_int' (1:) (by rw[Int.fmod_eq_emod_of_nonneg i (1:)];exact q)
theorem qg5:OpR X (binaryOp .Pow) (rI qlG λi j=>.int (i ^ j.toNat)):=opI λ_ _ _ _ _ _ _ hc q=>pow_int_small hc.1 hc.2.1 hc.2.2 q
theorem unI{f:Value->Sem Value}{g:Int->Int}
  (rule:∀(i:Int) (t:Tok) (s:Shared) (Q:PQ) (E:PQ),Q (.int (g i) s.toks) { s with toks:=s.toks+1 }->wpAny (model X.prog X.w) X.A (f (.int i t)) Q E s) :
  UnR X f (rU λi=>.int (g i)):=by
 intro pins s σ H x v Q I rx h;obtain⟨i,rfl,q⟩:=h;obtain⟨t,rfl⟩:=rx;exact rule i t s _ _ ⟨.int (g i),H,I.tok _,⟨_,rfl⟩,q⟩
theorem qea:UnR X (unaryOp .USub) (rU λi=>.int (-i)):=unI λ_ _ _ _ _ q=>neg_int q
end
section
variable{X:Cx}{a b c:Expr}{ta tb tc:TE}{pos:Pos}
theorem Q3{pins:PP}{σ:St}{H:Hp}{s:Shared}{Q:VK}{k k':Bool}(I:Inv X pins σ H s)(q:Q (.bl k) H)(e:k=k'):EP X pins σ Q (.bool k') s:=by subst e;exact⟨.bl k,H,I,rfl,q⟩
theorem qj4:OpR X (compareOp .Lt) (rI0 λi j=>.bl (decide (i < j))):=qjC λ_ _ _ _ _ _ _ q=>lt_int q
theorem qj5:OpR X (compareOp .LtE) (rI0 λi j=>.bl (decide (i<=j))):=qjC λ_ _ _ _ _ _ _ q=>le_int q
theorem qj6:OpR X (compareOp .Gt) (rI0 λi j=>.bl (decide (j < i))):=qjC λ_ _ _ _ _ _ _ q=>gt_int q
theorem qj7:OpR X (compareOp .GtE) (rI0 λi j=>.bl (decide (j<=i))):=qjC λ_ _ _ _ _ _ _ q=>ge_int q
theorem qaJ:OpR X (compareOp .In) (λx y H Q=>∃i j,x=.str i/\y=.str j/\Q (.bl (!(Builtin.Str.occurrences j i 0 j.length 1).isEmpty)) H):=by intro pins s σ H x y v u Q I rx ry h;obtain⟨i,j,rfl,rfl,q⟩:=h;obtain⟨t,rfl⟩:=rx;obtain⟨t',rfl⟩:=ry;exact in_str (Q3 I q rfl)
theorem qg6:OpR X (compareOp .Is) (λx y H Q=>y=.non/\Q (.bl (decide (x=.non))) H):=by
 intro pins s σ H x y v u Q I rx ry h;obtain⟨rfl,q⟩:=h;cases ry;refine is_none_gen (Q3 I q ?_)
 cases x<;>first
  | (cases rx;rfl)
  | (obtain⟨t,rfl⟩:=rx;rfl)
theorem qeS:OpR X (compareOp .IsNot) (λx y H Q=>y=.non/\Q (.bl (!decide (x=.non))) H):=by
 intro pins s σ H x y v u Q I rx ry h;obtain⟨rfl,q⟩:=h;cases ry;refine isnot_none_gen (Q3 I q ?_)
 cases x<;>first
  | (cases rx;rfl)
  | (obtain⟨t,rfl⟩:=rx;rfl)
theorem J5:OpR X (compareOp .NotIn) (λx y H Q=>∃i j,x=.str i/\y=.str j/\Q (.bl (!(!(Builtin.Str.occurrences j i 0 j.length 1).isEmpty))) H):=by intro pins s σ H x y v u Q I rx ry h;obtain⟨i,j,rfl,rfl,q⟩:=h;obtain⟨t,rfl⟩:=rx;obtain⟨t',rfl⟩:=ry;exact notIn_str (Q3 I q rfl)
theorem qeT{op:CmpOp}{r:R2}(ho:OpR X (compareOp op) r)(ha:PE X a ta)(hb:PE X b tb)(hm:behindInMarks op b=false):PE X (.Compare a [op] [b] pos) (tOp r ta tb):=by intro pins s σ H Q I h;exact wpAny_Compare1 (qj2 ha hb I h λv u s2 x y H2 I2 rx ry q=>ho pins s2 σ H2 x y v u Q I2 rx ry q) hm
def qg7(t:TE):TT:=λσ H Q=>t σ H λx H'=>∃k,x=.bl k/\Q k H'
theorem qaK{op:CmpOp}{r:R2}(ho:OpR X (compareOp op) r)(ha:PE X a ta)(hb:PE X b tb)(hm:behindInMarks op b=false):PT X (.Compare a [op] [b] pos) (qg7 (tOp r ta tb)):=by
 intro pins s σ H Q I h
 refine wpAny_isTrue_Compare1 (thn (ha pins s σ H _ I h) λv s1 ⟨x,H1,I1,r1,q1⟩=>thn (hb pins s1 σ H1 _ I1 q1) λu s2 ⟨y,H2,I2,r2,q2⟩=>thn (ho pins s2 σ H2 x y v u _ I2 r1 r2 q2) λc s3 ⟨z,H3,I3,r3,k,e,q3⟩=>?_) hm
 subst e;cases r3;exact wpAny_truthy_bool ⟨H3,I3,q3⟩
noncomputable def qg8(r r':R2)(ta tb tc:TE):TE:=λσ H Q=>ta σ H λx H1=>tb σ H1 λy H2=>r x y H2 λz H3=>∃k,z=.bl k/\
 (if k=true then tc σ H3 λw' H4=>r' y w' H4 Q else Q (.bl false) H3)
theorem qcF{op op':CmpOp}{r r':R2}(ho:OpR X (compareOp op) r)(ho':OpR X (compareOp op') r')(ha:PE X a ta)(hb:PE X b tb)(hc:PE X c tc)
  (hm:lastMarks [op,op'] [b,c]=false:=by with_unfolding_all rfl):PT X (.Compare a [op,op'] [b,c] pos) (qg7 (qg8 r r' ta tb tc)):=by
 intro pins s σ H Q I h
 refine isTrue_chain (thn (ha pins s σ H _ I h) λv s1 ⟨x,H1,I1,r1,q1⟩=>test_link (thn (hb pins s1 σ H1 _ I1 q1) λu s2 ⟨y,H2,I2,r2,q2⟩=>thn (ho pins s2 σ H2 x y v u _ I2 r1 r2 q2) λd s3 ⟨z,H3,I3,r3,k,e,q3⟩=>?_)) hm
 subst e;cases r3;refine wpAny_truthy_bool ?_
 cases k with
 |false=>obtain⟨k',e',q'⟩:=q3;cases e';exact ite_ff ⟨H3,I3,q'⟩
 |true=>refine ite_tt (test_last (thn (hc pins s3 σ H3 _ I3 q3) λw' s4 ⟨z',H4,I4,r4,q4⟩=>thn (ho' pins s4 σ H4 y z' u w' _ I4 r2 r4 q4) λd' s5 hq1=>?_));obtain⟨z2,H5,I5,r5,k2,e2,q5⟩:=hq1;subst e2;cases r5;exact wpAny_truthy_bool ⟨H5,I5,q5⟩
noncomputable def qjE(K:Frag)(x:V)(H:Hp)(k:Bool):Prop:=
 match x with
 |.non=>k=false
 |.bl b=>k=b
 |.int i=>k=(i != 0)
 |.str y=>y.length<=sizeLine/\k=((y.length:Int) != 0)
 |.byt y=>y.size<=sizeLine/\k=((y.size:Int) != 0)
 |.ref p=>(∃xs,SqL K H p xs/\k = !xs.isEmpty)\/(∃xs,SqT K H p xs/\k = !xs.isEmpty)\/∃kvs,H p=some (.dK kvs)/\k = !kvs.isEmpty
 |_=>False
theorem ZU{κ:Type}{kvs:List (κ×V)}{vs:List (κ×Value)}(r:KV kvs vs):(!vs.isEmpty) = !kvs.isEmpty:=by cases r<;>rfl
theorem y9{xs:List V}{its:List Value}(r:qr xs its):(!its.toArray.isEmpty) = !xs.isEmpty:=by cases r<;>simp
theorem yu:(sizeLine:Nat) < 2 ^ 63:=by rw[sizeLine_eq];decide
theorem qg9:qlE X (λx H Q=>∃k,qjE X.K x H k/\Q k H):=by
 intro pins s σ H x v Q I rx h;obtain⟨k,e,q⟩:=h;have hl:=yu;have hs:sizeLine=16777216:=sizeLine_eq
 cases x with
 |non=>cases rx;have e':k=false:=e;subst e';exact truthy_none ⟨H,I,q⟩
 |bl b=>cases rx;have e':k=b:=e;subst e';exact wpAny_truthy_bool ⟨H,I,q⟩
 |int i=>obtain⟨t,rfl⟩:=rx;have e':k=(i != 0):=e;subst e';exact PySem.P.truthy_int ⟨H,I,q⟩
 |str y=>obtain⟨t,rfl⟩:=rx;obtain⟨hy,e'⟩:y.length<=sizeLine/\k=((y.length:Int) != 0):=e;subst e';exact PySem.P.truthy_str (1:) ⟨H,I.tok _,q⟩
 |byt y=>obtain⟨t,rfl⟩:=rx;obtain⟨hy,e'⟩:y.size<=sizeLine/\k=((y.size:Int) != 0):=e;subst e';exact PySem.W.truthy_bytes (1:) ⟨H,I.tok _,q⟩
 |ref p=>
  cases rx;have e':(∃xs,SqL X.K H p xs/\k = !xs.isEmpty)\/(∃xs,SqT X.K H p xs/\k = !xs.isEmpty)\/∃kvs,H p=some (.dK kvs)/\k = !kvs.isEmpty:=e;rcases e' with ⟨xs,hx,e'⟩ | ⟨xs,hx,e'⟩ | ⟨kvs,hx,e'⟩
  ·subst e';obtain⟨its,r,pl,hz⟩:=I.list hx;have hlen:=r.length;exact wpAny_truthy_list pl.isList (by simp only[List.size_toArray];omega) ⟨H,I.tok _,by rw[y9 r];exact q⟩
  ·subst e';obtain⟨its,r,pl,hz⟩:=I.tuple hx;have hlen:=r.length;exact truthy_tuple pl (by simp only[List.size_toArray];omega) ⟨H,I.tok _,by rw[y9 r];exact q⟩
  ·subst e';obtain⟨hz,hS,vs,r,m⟩:kvs.length<=sizeLine/\(p == sysModules)=false/\∃vs,KV kvs vs/\s.heap.DictOf (qq X.prog X.w) p vs:=I.hok p _ hx;have hlen:kvs.length=vs.length:=Paired.length r;exact wpAny_truthy_dict hS m (1:) ⟨H,I.tok _,by rw[ZU r];exact q⟩
 |_=>exact(show False from e).elim
theorem qcG(ha:PE X a ta)(he:∀whole,isTrue a X.env whole=(do let v<-whole;standAt a.pos;holding [v] (truthy v))) :
  PT X a (λσ H Q=>ta σ H λx H'=>∃k,qjE X.K x H' k/\Q k H'):=by
 intro pins s σ H Q I h;exact isTrue_plain (thn (ha pins s σ H _ I h) λv s1 ⟨x,H1,I1,r1,q1⟩=>qg9 pins s1 σ H1 x v Q I1 r1 q1) (he _)
theorem ZV:OpR X (binaryOp .Add) (λx y H Q=>∃i j,x=.str i/\y=.str j/\i.length+j.length<=sizeLine/\Q (.str (i++j)) H):=by intro pins s σ H x y v u Q I rx ry h;obtain⟨i,j,rfl,rfl,hz,q⟩:=h;obtain⟨t,rfl⟩:=rx;obtain⟨t',rfl⟩:=ry;exact add_str (λt' tk=>⟨.str (i++j),H,I.tok _,⟨_,rfl⟩,q⟩) hz
theorem jb{x:V}{us:List Value}(r:qr [x] us):∃u,us=[u]/\qB x u:=by
 cases r with
 |cons r1 r2=>cases r2;exact⟨_,rfl,r1⟩
theorem Jv{x y:V}{us:List Value}(r:qr [x,y] us):∃u w',us=[u,w']/\qB x u/\qB y w':=by
 cases r with
 |cons r1 r2=>
  cases r2 with
  |cons r3 r4=>cases r4;exact⟨_,_,rfl,r1,r3⟩
theorem qaL(hc:X.calm=true):qH X (.builtin "max") (λxs H Q=>∃i j,xs=[.int i,.int j]/\Q (.int (if j > i then j else i)) H):=by
 intro pins s σ H xs us Q I r h;obtain⟨i,j,rfl,q⟩:=h;obtain⟨u,w',rfl,⟨t,rfl⟩,⟨t',rfl⟩⟩:=Jv r;refine max_two_ints (I.ok.hd hc) λh' tk k=>⟨_,H,I.kept k,?_,q⟩
 by_cases hj:j > i
 ·rw[if_pos hj,if_pos hj];exact⟨_,rfl⟩
 ·rw[if_neg hj,if_neg hj];exact⟨_,rfl⟩
theorem qaM(hc:X.calm=true):qH X (.builtin "min") (λxs H Q=>∃i j,xs=[.int i,.int j]/\Q (.int (if j < i then j else i)) H):=by
 intro pins s σ H xs us Q I r h;obtain⟨i,j,rfl,q⟩:=h;obtain⟨u,w',rfl,⟨t,rfl⟩,⟨t',rfl⟩⟩:=Jv r;refine min_two_ints (I.ok.hd hc) λh' tk k=>⟨_,H,I.kept k,?_,q⟩
 by_cases hj:j < i
 ·rw[if_pos hj,if_pos hj];exact⟨_,rfl⟩
 ·rw[if_neg hj,if_neg hj];exact⟨_,rfl⟩
theorem J6:qH X (.type "int") (λxs H Q=>(∃i,xs=[.int i]/\Q (.int i) H)\/∃k,xs=[.bl k]/\Q (.int (if k then 1 else 0)) H):=by
 intro pins s σ H xs us Q I r h;rcases h with ⟨i,rfl,q⟩ | ⟨k,rfl,q⟩
 ·obtain⟨u,rfl,t,rfl⟩:=jb r;exact call_int_int ⟨.int i,H,I,⟨_,rfl⟩,q⟩
 ·obtain⟨u,rfl,r1⟩:=jb r;cases r1;exact call_int_bool ⟨.int (if k then 1 else 0),H,I.tok _,⟨_,rfl⟩,q⟩
end
end L2
namespace L2
open PySem PySem.Spec PyProof.Rows
structure ObjM(h:Heap)(x dx C:Addr)(mA:PR):Prop where
 obj:h.get? x=some (PySem.W.instObj C dx)
 ns:h.Ns1 dx mA
 ne:dx≠x
theorem J7{h:Heap}{dx:Addr}{mA:PR}(n:h.Ns1 dx mA):∃od,h.get? dx=some od/\∀name,PySem.W.lookIn name od=some (mA name):=by
 obtain⟨o,es,ep,ho,hd,hk,_,hm⟩:=n;refine⟨o,ho,λname=>?_⟩;have e:=hm name;unfold nsFind findBy at e;rw[<-Array.find?_toList] at e;unfold PySem.W.lookIn;rw[hd];dsimp only;split
 ·rename_i y q;rw[q] at e;exact congrArg some e
 ·rename_i q;rw[q] at e
  have a:es.toList.any (·.refKey)=false:=by rw[List.any_eq_false];intro y hy;obtain⟨z,t,hkey⟩:=hk y (Array.mem_toList_iff.mp hy);simp[DictEntry.refKey,hkey]
  have a':¬ es.toList.any (·.refKey)=true:=by rw[a];exact Bool.false_ne_true
  rw[if_neg a'];exact congrArg some e
theorem ObjM.look{h:Heap}{x dx C:Addr}{mA:PR}(I:ObjM h x dx C mA):∃od,PySem.W.InstAt h x (PySem.W.instObj C dx) C (some od)/\∀name,PySem.W.lookIn name od=some (mA name):=
 let ⟨od,ho,hl⟩:=J7 I.ns
 ⟨od,⟨I.obj,rfl,rfl,ho⟩,hl⟩
section
variable{prog:Program}{w:World}{A:Around}{E:PQ}{s:Shared}{K:Frag}{x dx C f:Addr}{mA:PR}{name:Str}{v:Value}
theorem qeU{expr:Bool}{Q:PQ}(X:K.In s.heap)(I:ObjM s.heap x dx C mA)(hg:PySem.W.plainGet K C name=true)(hh:PySem.W.hasDictIn K C=true)
  (ha:PySem.W.findIn K (.ref C) name=some none) (hv:mA name=some v) (hv':PySem.W.handedIn v=true) (h:Q v { s with toks:=s.toks+1 }) :
  wpAny (model prog w) A (getAttr (.ref x) name expr) Q E s:=by
 obtain⟨od,J,hl⟩:=I.look;exact PySem.W.get_value X J (PySem.W.plainGet_of hg).1 (PySem.W.findObj_own hh ha rfl (by rw[hl,hv])) hv' h
theorem qcH{pl:Sem Bool}{Q:Value×List Value->Shared->Prop}(X:K.In s.heap)(I:ObjM s.heap x dx C mA)(hg:PySem.W.plainGet K C name=true)
  (hf:PySem.W.findIn K (.ref C) name=some (some (.ref f))) (ht:PySem.W.isFn K (.ref f)=true) (hv:mA name=none) (h:Q (.ref f,[.ref x]) s) :
  wpAny (model prog w) A (getMethod (.ref x) name pl) Q E s:=by
 obtain⟨od,J,hl⟩:=I.look;exact PySem.W.method_fn X J (PySem.W.plainGet_of hg).1 (PySem.W.plainGet_of hg).2 hf (beq_iff_eq.mp ht) (by show(PySem.W.lookIn name od).map (·.isSome)=some false;rw[hl,hv];rfl) h
theorem qeV{ns:List Str}{Q:Unit->Shared->Prop}(X:K.In s.heap)(I:ObjM s.heap x dx C mA)
  (hs:PySem.W.findIn K (.ref C) "__setattr__" = some (some (.builtin "object.__setattr__"))) (hp:PySem.W.plainOver K C=true) (ht:PySem.W.takerIn K C name=some none) (hh:PySem.W.hasDictIn K C=true)
  (hw:PySem.Within mA ns) (hsz:ns.length<=sizeLine)
  (h:∀h',ObjM h' x dx C (λy=>if y=name then some v else mA y)->Heap.SameBut dx s.heap h'->Q () { s with heap:=h',toks:=s.toks+2 }) :
  wpAny (model prog w) A (setAttr (.ref x) name v) Q E s:=by
 obtain⟨od,J,hl⟩:=I.look;refine PySem.W.set_plain X J hs (PySem.W.osa_open (s:={ s with toks:=s.toks+1 }) (r:=none) X J hp ht λb=>?_);obtain⟨cd,hc,hd'⟩:=PySem.W.any_some hh;have hx:s.heap.get? x=some ⟨.ref C,some dx,.plain,#[]⟩:=I.obj;refine wpAny_bind (wpAny_pure (wpAny_bind (wpAny_bind (wpAny_loadPart hx (wpAny_bind (PySem.W.Looks.here (s:={ s with toks:=s.toks+1 }) (PySem.W.looks_clsIn X hc) ?_))))));rw[hd'];refine wpAny_pure (a:=some dx) (wpAny_bind (wpAny_pure (wpAny_bind ?_)));refine wpAny_nsSet1 (s:={ s with toks:=s.toks+1 }) I.ns λh' hn2 hs2=>?_;obtain⟨oD,esD,epD,hoD,hdD,hcD⟩:=hn2.count (PySem.Within.cons name v hw);refine wpAny_bind (wpAny_lookBehind hoD (by rw[hdD];exact pastItsLine_dict (Nat.le_trans hcD (by rw[List.length_cons];omega))) ?_);exact wpAny_pure (h _ ⟨(hs2.2 _ (Ne.symm I.ne)).trans I.obj,hn2,I.ne⟩ hs2)
theorem qcI{R:Result->Shared->Prop}{vs:List Value}{kw:List (Str×Value)}(X:K.In s.heap)(hm:PySem.W.makesIn K C=true)
  (hi:PySem.W.findIn K (.ref C) "__init__" = some (some (.ref f))) (hf:PySem.W.typeIn K (.ref f)=some (.type "function"))
  (h:codeAny (model prog w) (A.under (.builtin "type.__call__" ⟨.ref C::vs,kw⟩)) (.call (.ref f) ⟨.ref (s.heap.objs.size+1)::vs,kw⟩) (PySem.W.InitBack (s.heap.objs.size+1) R)
   { s with heap:=(s.heap.push PySem.W.emptyDict).push (PySem.W.instObj C s.heap.objs.size) }) :
  codeAny (model prog w) A (.call (.ref C) ⟨vs,kw⟩) R s:=by
 obtain⟨hh,g,d,t,os⟩:=s;exact PySem.W.make_core (PySem.W.makes_of X hm) (PySem.W.looks_findIn X hi) (λself=>PySem.W.bind_fn X self hf) (.inl rfl) h
end
noncomputable def Qe(f:Str)(v:V):List (Str×V)->List (Str×V)
 |[]=>[(f,v)]
 | (g,x)::r=>if g=f then (g,v)::r else (g,x)::Qe f v r
theorem yv(f g:Str)(v:V):∀fs:List (Str×V),(Qe f v fs).lookup g=if g=f then some v else fs.lookup g
 |[]=>by
  show List.lookup g [(f,v)]=_
  by_cases h:g=f
  ·have hb:(g == f)=true:=beq_iff_eq.mpr h;simp only[List.lookup,hb,if_pos h]
  ·have hb:(g == f)=false:=beq_eq_false_iff_ne.mpr h;simp only[List.lookup,hb,if_neg h]
 | (k,x)::r=>by
  have ih:=yv f g v r;rw[show Qe f v ((k,x)::r)=(if k=f then (k,v)::r else (k,x)::Qe f v r) from rfl]
  by_cases hk:k=f
  ·rw[if_pos hk]
   by_cases h:g=k
   ·have hb:(g == k)=true:=beq_iff_eq.mpr h;simp only[List.lookup,hb,if_pos (h.trans hk)]
   ·have hb:(g == k)=false:=beq_eq_false_iff_ne.mpr h;simp only[List.lookup,hb,if_neg (λe:g=f=>h (e.trans hk.symm))]
  ·rw[if_neg hk]
   by_cases h:g=k
   ·have hb:(g == k)=true:=beq_iff_eq.mpr h;simp only[List.lookup,hb,if_neg (λe:g=f=>hk (h.symm.trans e))]
   ·have hb:(g == k)=false:=beq_eq_false_iff_ne.mpr h;simp only[List.lookup,hb];exact ih
theorem yw(f:Str)(v:V):∀fs:List (Str×V),f∈(Qe f v fs).map (·.1)/\∀g,g∈fs.map (·.1)->g∈(Qe f v fs).map (·.1)
 |[]=>⟨by simp[Qe],λg h=>by simp at h⟩
 | (k,x)::r=>by
  obtain⟨i1,i2⟩:=yw f v r;rw[show Qe f v ((k,x)::r)=(if k=f then (k,v)::r else (k,x)::Qe f v r) from rfl]
  by_cases hk:k=f
  ·rw[if_pos hk];subst hk;exact⟨by simp,λg h=>by simpa using h⟩
  ·rw[if_neg hk];refine⟨?_,λg h=>?_⟩
   ·rw[List.map_cons];exact List.mem_cons_of_mem _ i1
   ·rw[List.map_cons] at h ⊢;rcases List.mem_cons.mp h with e | e
    ·exact List.mem_cons.mpr (.inl e)
    ·exact List.mem_cons_of_mem _ (i2 g e)
theorem yx(f:Str)(v:V):∀fs:List (Str×V),(Qe f v fs).length<=fs.length+1
 |[]=>by simp[Qe]
 | (k,x)::r=>by
  have ih:=yx f v r;rw[show Qe f v ((k,x)::r)=(if k=f then (k,v)::r else (k,x)::Qe f v r) from rfl]
  by_cases hk:k=f
  ·rw[if_pos hk,List.length_cons,List.length_cons];omega
  ·rw[if_neg hk,List.length_cons,List.length_cons];omega
theorem J2.some_of{v:V}{o:Option Value}(r:J2 (some v) o):∃u,o=some u/\qB v u:=by
 cases o with
 |none=>exact(show False from r).elim
 |some u=>exact⟨u,rfl,r⟩
theorem J2.none_of{o:Option Value}(r:J2 none o):o=none:=by
 cases o with
 |none=>rfl
 |some u=>exact(show False from r).elim
theorem qaN{v:V}{u:Value}(r:qB v u):PySem.W.handedIn u=true:=by
 cases v with
 |non=>cases (show u=Value.none from r);rfl
 |bl b=>cases (show u=Value.bool b from r);rfl
 |int i=>obtain⟨t,e⟩:=(show∃t,u=Value.int i t from r);cases e;rfl
 |str x=>obtain⟨t,e⟩:=(show∃t,u=Value.str x t from r);cases e;rfl
 |byt b=>obtain⟨t,e⟩:=(show∃t,u=Value.bytes b t from r);cases e;rfl
 |flt b=>obtain⟨t,e⟩:=(show∃t,u=Value.float b t from r);cases e;rfl
 |ref a=>cases (show u=Value.ref a from r);rfl
 |ty n=>cases (show u=Value.type n from r);rfl
section
variable{P:Program}{w:World}{H H':Hp}{h h':Heap}{a C dx:Addr}{fs fs':List (Str×V)}
theorem Jw(hok:HOk P w H h)(e:H a=some (.ins C dx fs)):∃mA,ObjM h a dx C mA/\(∀f,J2 (fs.lookup f) (mA f))/\PySem.Within mA (fs.map (·.1))/\fs.length<=1000/\H dx=some (.own a):=by obtain⟨d,z,ne,ob,mA,n,r,q⟩:=(show qy P w H h a (.ins C dx fs) from hok a _ e);exact⟨mA,⟨ob,n,ne⟩,r,q,z,d⟩
end
structure Cls(K:Frag)(C:Addr):Prop where
 pg:PySem.W.plainGet K C Str.empty=true
 hd:PySem.W.hasDictIn K C=true
 po:PySem.W.plainOver K C=true
 sa:PySem.W.findIn K (.ref C) "__setattr__" = some (some (.builtin "object.__setattr__"))
theorem Cls.get{K:Frag}{C:Addr}(c:Cls K C)(f:Str):PySem.W.plainGet K C f=true:=c.pg
def zj(K:Frag)(C:Addr)(f:Str):Prop:=PySem.W.findIn K (.ref C) f=some none
theorem zj.taker{K:Frag}{C:Addr}{f:Str}(n:zj K C f):PySem.W.takerIn K C f=some none:=by unfold PySem.W.takerIn;rw[show PySem.W.findIn K (.ref C) f=some none from n];rfl
structure Meth(K:Frag)(C:Addr)(m:Str)(f:Addr):Prop where
 at_:PySem.W.findIn K (.ref C) m=some (some (.ref f))
 fn:PySem.W.isFn K (.ref f)=true
 kp:PySem.W.keepIn K (.ref f)=true
section
variable{X:Cx}{pins:PP}{σ:St}{H:Hp}{s:Shared}{a C dx:Addr}{fs:List (Str×V)}{f:Str}{v:V}{A:Around}{E:PQ}
theorem ZW{b:Bool}{Q:PQ}(I:Inv X pins σ H s)(e:H a=some (.ins C dx fs))(c:Cls X.K C)(n:zj X.K C f)(l:fs.lookup f=some v)
  (h:∀u s',Inv X pins σ H s'->qB v u->Q u s'):wpAny (model X.prog X.w) A (getAttr (.ref a) f b) Q E s:=by
 obtain⟨mA,O,r,_,_,_⟩:=Jw I.hok e;obtain⟨u,hu,ru⟩:=J2.some_of (v:=v) (o:=mA f) (by rw[<-l];exact r f);exact qeU I.kIn O (c.get f) c.hd n hu (qaN ru) (h u _ (I.tok _) ru)
theorem Ja{m:Str}{g:Addr}{pl:Sem Bool}{Q:Value×List Value->Shared->Prop}(I:Inv X pins σ H s)(e:H a=some (.ins C dx fs))(c:Cls X.K C)(k:Meth X.K C m g)(l:fs.lookup m=none)
  (h:Q (.ref g,[.ref a]) s):wpAny (model X.prog X.w) A (getMethod (.ref a) m pl) Q E s:=by
 obtain⟨mA,O,r,_,_,_⟩:=Jw I.hok e;have hn:mA m=none:=J2.none_of (by rw[<-l];exact r m);exact qcH I.kIn O (c.get m) k.at_ k.fn hn h
theorem ZX{y:V}{u:Value}{Q:Unit->Shared->Prop}(I:Inv X pins σ H s)(e:H a=some (.ins C dx fs))(c:Cls X.K C)(n:zj X.K C f)(hl:fs.length < 1000)(ry:qB y u)
  (h:∀s',Inv X pins σ (upd H a (.ins C dx (Qe f y fs))) s'->Q () s'):wpAny (model X.prog X.w) A (setAttr (.ref a) f u) Q E s:=by
 obtain⟨mA,O,r,wi,_,ho⟩:=Jw I.hok e;have hz:(fs.map (·.1)).length<=sizeLine:=by rw[List.length_map,sizeLine_eq];omega
 refine qeV I.kIn O c.sa c.po n.taker c.hd wi hz λh' O' sb=>h _ ?_;have hd:∃o,h'.get? dx=some o:=let ⟨o,_,_,e',_⟩:=O'.ns;⟨o,e'⟩;refine I.write (x:=a) (e:=dx) (by rw[e];exact True.intro) (.inr ho) (λb q hb z=>(sb.2 b hb).trans z) hd ?_;refine⟨by rw[qf O.ne];exact ho,?_,O.ne,O'.obj,_,O'.ns,λg=>?_,λg hg=>?_⟩
 ·have:=yx f y fs;omega
 ·show J2 ((Qe f y fs).lookup g) (if g=f then some u else mA g);rw[yv]
  by_cases q:g=f
  ·rw[if_pos q,if_pos q];exact ry
  ·rw[if_neg q,if_neg q];exact r g
 ·by_cases q:g=f
  ·rw[q];exact(yw f y fs).1
  ·refine(yw f y fs).2 g (wi g λz=>hg ?_);show(if g=f then some u else mA g)=none;rw[if_neg q];exact z
theorem Inv.made(I:Inv X pins σ H s):Inv X pins σ (upd (upd H s.heap.objs.size (.own (s.heap.objs.size+1))) (s.heap.objs.size+1) (.ins C s.heap.objs.size []))
  { s with heap:=(s.heap.push PySem.W.emptyDict).push (PySem.W.instObj C s.heap.objs.size) }:=by
 have e1:(s.heap.push PySem.W.emptyDict).get? s.heap.objs.size=some PySem.W.emptyDict:=Heap.get?_push_size s.heap rfl
 have e2:((s.heap.push PySem.W.emptyDict).push (PySem.W.instObj C s.heap.objs.size)).get? (s.heap.objs.size+1)=some (PySem.W.instObj C s.heap.objs.size):=by
  have:=Heap.get?_push_size (s.heap.push PySem.W.emptyDict) (o:=PySem.W.instObj C s.heap.objs.size) rfl
  rwa[Heap.size_push] at this
 have e3:(s.heap.push PySem.W.emptyDict).Ns s.heap.objs.size (λ_=>none):=⟨PySem.W.emptyDict,#[],_,e1,rfl,(λe he=>absurd he (by simp)),λ_=>rfl⟩;have I1:=I.laid (a:=s.heap.objs.size) (o:=.own (s.heap.objs.size+1)) (h':=s.heap.push PySem.W.emptyDict) (t':=s.toks) (λb u q=>Heap.get?_push_of_some _ q) (Nat.le_refl _) ⟨_,e1⟩;refine I1.laid (a:=s.heap.objs.size+1) (o:=.ins C s.heap.objs.size []) (t':=s.toks) (λb u q=>Heap.get?_push_of_some _ q) (Nat.le_of_eq (Heap.size_push _ _)) ?_;have ne:s.heap.objs.size≠s.heap.objs.size+1:=Nat.ne_of_lt (Nat.lt_succ_self _);refine⟨by rw[qf ne,qg],Nat.zero_le _,ne,e2,λ_=>none,(Heap.Ns1.of_empty e3).at λo q=>Heap.get?_push_of_some _ q,λ_=>True.intro,λy hy=>absurd rfl hy⟩
theorem qaO{prog:Program}{w:World}{env:Env}{e:Expr}{f:Str}{pos:Pos}{s:Shared}{Q:PQ}(hb:attributeBase e f env (eval e env)=eval e env)
  (h:wpAny (model prog w) A (eval e env) (λo s₁=>wpAny (model prog w) A (getAttr o f true) Q E s₁) E s):wpAny (model prog w) A (eval (.Attribute e f pos) env) Q E s:=
 Attribute_any_ h (by rw[arm_eval_Attribute,hb])
end
noncomputable def qlH(K:Frag)(ta:TE)(f:Str):TE:=λσ H Q=>ta σ H λx H1=>∃a C dx fs v,x=.ref a/\H1 a=some (.ins C dx fs)/\Cls K C/\zj K C f/\fs.lookup f=some v/\Q v H1
noncomputable def qlI(K:Frag)(ta tv:TE)(f:Str):TS:=λD σ H=>tv σ H λy H1=>ta σ H1 λx H2=>∃a C dx fs,x=.ref a/\H2 a=some (.ins C dx fs)/\Cls K C/\zj K C f/\fs.length < 1000/\
 D.nx σ (upd H2 a (.ins C dx (Qe f y fs)))
section
variable{X:Cx}{o e value:Expr}{f:Str}{pos pos' tpos:Pos}{ta tv:TE}
theorem qha(he:PE X e ta)(hb:attributeBase e f X.env (eval e X.env)=eval e X.env):PE X (.Attribute e f pos) (qlH X.K ta f):=by intro pins s σ H Q I h;refine qaO hb (thn (he pins s σ H _ I h) λu s1 hq1=>?_);obtain⟨x,H1,I1,rx,a,C,dx,fs,v,ex,ea,c,n,l,q⟩:=hq1;subst ex;obtain rfl:u=Value.ref a:=rx;exact ZW I1 ea c n l λu' s2 I2 ru=>⟨v,H1,I2,ru,q⟩
theorem Q4(ha:PE X o ta)(hv:PE X value tv)(hs:swapsWith value (some (.Attribute o f pos')) pos.line X.env=pure false):PS X (.Assign [.Attribute o f pos'] value pos) (qlI X.K ta tv f):=by intro pins s σ H D I h;refine plainObj_wpAny_Assign_Attribute (thn (hv pins s σ H _ I h) λu s1 ⟨y,H1,I1,ry,q⟩=>thn (ha pins s1 σ H1 _ I1 q) λov s2 ⟨x,H2,I2,rx,a,C,dx,fs,ex,ea,c,n,l,q2⟩=>?_) hs;subst ex;obtain rfl:ov=Value.ref a:=rx;exact ZX I2 ea c n l ry λs3 I3=>⟨σ,_,I3,q2⟩
end
section
variable{X:Cx}{pins:PP}{σ:St}{H:Hp}{s:Shared}{A:Around}{E:PQ}{Q:PQ}{c:Value}{b:Bool}
inductive TyOf(K:Frag)(H:Hp):V->Value->Prop where
 | non:TyOf K H .non (.type "NoneType")
 | bl (x:Bool):TyOf K H (.bl x) (.type "bool")
 | int (i:Int):TyOf K H (.int i) (.type "int")
 | str (x:Str):TyOf K H (.str x) (.type "str")
 | flt (x:UInt64):TyOf K H (.flt x) (.type "float")
 | lst {a:Addr} {xs:List V} (e:H a=some (.lst xs)):TyOf K H (.ref a) (.type "list")
 | frz {a:Addr} {o:Obj} {xs:List V} (e:H a=some (.frz o (.lst xs))):TyOf K H (.ref a) (.type "list")
 | tup {a:Addr} {xs:List V} (e:H a=some (.tup xs)):TyOf K H (.ref a) (.type "tuple")
 | dK {a:Addr} {kvs:List (Key×V)} (e:H a=some (.dK kvs)):TyOf K H (.ref a) (.type "dict")
 | dT {a:Addr} {kvs:List (List Key×V)} (e:H a=some (.dT kvs)):TyOf K H (.ref a) (.type "dict")
 | ins {a C dx:Addr} {fs:List (Str×V)} (e:H a=some (.ins C dx fs)) (cl:Cls K C) (ha:PySem.W.findIn K (.ref C) "__class__" = some (some (.builtin "object.__class__")))
   (hn:PySem.W.specialIn K (.builtin "object.__class__") "__get__" = some (some (.builtin "getset_descriptor.__get__"))) (htk:PySem.W.takesIn K (.builtin "object.__class__")=some true)
   (hm:PySem.W.mroIn K C (.type "object")=some true):TyOf K H (.ref a) (.ref C)
theorem J8{x:V}{u t:Value}(I:Inv X pins σ H s)(rx:qB x u)(ty:TyOf X.K H x t)(e:PySem.W.kitOne X.K t c=some b)(h:∀tk,Q (.bool b) { s with toks:=tk }) :
  wpAny (model X.prog X.w) A (call (.builtin "isinstance") [u,c]) Q E s:=by
 cases ty with
 |non=>cases (show u=Value.none from rx);exact PySem.W.kia_one PySem.W.kitx_none I.kIn True.intro e (λz=>nomatch z) h
 |bl y=>cases (show u=Value.bool y from rx);exact PySem.W.kia_one PySem.W.kitx_bool I.kIn True.intro e (λz=>nomatch z) h
 |int i=>obtain⟨t,q⟩:=(show∃t,u=Value.int i t from rx);cases q;exact PySem.W.kia_one PySem.W.kitx_int I.kIn True.intro e (λz=>nomatch z) h
 |str y=>obtain⟨t,q⟩:=(show∃t,u=Value.str y t from rx);cases q;exact PySem.W.kia_one PySem.W.kitx_str I.kIn True.intro e (λz=>nomatch z) h
 |flt y=>obtain⟨t,q⟩:=(show∃t,u=Value.float y t from rx);cases q;exact PySem.W.kia_one PySem.W.kitx_float I.kIn True.intro e (λz=>nomatch z) h
 |@lst a xs ea=>
  cases (show u=Value.ref a from rx)
  obtain⟨_,_,n,_,h1⟩:=(show qy X.prog X.w H s.heap a (.lst xs) from I.hok a _ ea);exact PySem.W.kia_one PySem.W.kitx_list I.kIn ⟨_,h1,rfl⟩ e (λz=>nomatch z) h
 |@frz a ob xs ea=>
  cases (show u=Value.ref a from rx)
  obtain⟨_,_,_,n,_,h1⟩:=(show qy X.prog X.w H s.heap a (.frz ob (.lst xs)) from I.hok a _ ea);exact PySem.W.kia_one PySem.W.kitx_list I.kIn ⟨_,h1,rfl⟩ e (λz=>nomatch z) h
 |@tup a xs ea=>
  cases (show u=Value.ref a from rx)
  obtain⟨_,_,_,p⟩:=(show qy X.prog X.w H s.heap a (.tup xs) from I.hok a _ ea);obtain⟨o,h1,h2,_⟩:=p;exact PySem.W.kia_one PySem.W.kitx_tuple I.kIn ⟨o,h1,h2⟩ e (λz=>nomatch z) h
 |@dK a kvs ea=>
  cases (show u=Value.ref a from rx)
  obtain⟨_,_,vs,_,p⟩:=(show qy X.prog X.w H s.heap a (.dK kvs) from I.hok a _ ea);obtain⟨o,es,ep,h1,h2,_⟩:=p;exact PySem.W.kia_one PySem.W.kitx_dict I.kIn ⟨o,h1,h2.1⟩ e (λz=>nomatch z) h
 |@dT a kvs ea=>
  cases (show u=Value.ref a from rx)
  obtain⟨_,_,xs,_,o,es,ep,h1,h2,_⟩:=(show qy X.prog X.w H s.heap a (.dT kvs) from I.hok a _ ea);exact PySem.W.kia_one PySem.W.kitx_dict I.kIn ⟨o,h1,h2.1⟩ e (λz=>nomatch z) h
 |@ins a C dx fs ea cl ha hn htk hm=>
  cases (show u=Value.ref a from rx)
  obtain⟨mA,O,_⟩:=Jw I.hok ea;obtain⟨od,J,_⟩:=O.look;exact PySem.W.kia_one (PySem.W.kitx_own (cl.get _) cl.hd ha hn htk hm) I.kIn J e (λz=>nomatch z) h
end
end L2
namespace L2
open PySem PySem.Spec PyProof.Rows
structure Room(k:Nat)(A:Around):Prop where
 hd:A.handled=none
 dp:A.depth+3 * k+5 < recursionLimit
 un:A.units+16 * k+200 < cLine
theorem Room.deeper{k:Nat}{A:Around}(r:Room (k+1) A)(env:Env):Room k (A.deeper env):=
 ⟨r.hd,by have:=r.dp;show A.depth+1+3 * k+5 < _;omega,by have:=r.un;show A.units+3+16 * k+200 < _;omega⟩
theorem ZY{A:Around}{C:Addr}{us:List Value}{kw:List (Str×Value)}:(A.under (.builtin "type.__call__" ⟨.ref C::us,kw⟩)).depth=A.depth+1:=by first | rfl | simp[Around.under,Code.weight,Code.isCreation,Code.isGuard,Code.isCaller,Code.frames,Code.isFrame,guardIds]
theorem ZZ{A:Around}{C:Addr}{us:List Value}{kw:List (Str×Value)}:(A.under (.builtin "type.__call__" ⟨.ref C::us,kw⟩)).units=A.units+1:=by first | rfl | simp[Around.under,Code.cUnits,Code.frames,Code.isFrame]
theorem Room.make{k:Nat}{A:Around}(r:Room (k+1) A)(C:Addr)(us:List Value)(kw:List (Str×Value)):Room k (A.under (.builtin "type.__call__" ⟨.ref C::us,kw⟩)):=
 ⟨r.hd,by have:=r.dp;rw[ZY];omega,by have:=r.un;rw[ZZ];omega⟩
theorem Room.depth{k:Nat}{A:Around}(r:Room k A):A.depth < recursionLimit:=by have:=r.dp;omega
def qgE:TA:=λ_ H Q=>Q [] H
def qcJ(ta:TE)(tr:TA):TA:=λσ H Q=>ta σ H λx H1=>tr σ H1 λxs H2=>Q (x::xs) H2
section
variable{X:Cx}{e:Expr}{es:List Expr}{te:TE}{t:TA}{pos:Pos}
theorem qw:PA X [] qgE:=λ_ _ _ _ H Q I h=>Calls.spliced_nil ⟨[],H,I,.nil,h⟩
theorem qj(ha:PE X e te)(hr:PA X es t)(hs:starEach (e::es) X.env=(false,eval e X.env)::starEach es X.env:=by rfl):PA X (e::es) (qcJ te t):=by intro pos pins s σ H Q I h;rw[hs];show wpAny _ _ (spliced ((false,eval e X.env)::backTo pos (starEach es X.env))) _ _ s;refine Calls.spliced_cons (thn (ha pins s σ H _ I h) λu s1 hq1=>?_);obtain⟨x,H1,I1,r1,q1⟩:=hq1;exact thn (hr pos pins s1 σ H1 _ I1 q1) λus s2 ⟨xs,H2,I2,r2,q2⟩=>⟨x::xs,H2,I2,.cons r1 r2,q2⟩
noncomputable def qlJ(t:TA):TE:=λσ H Q=>t σ H λxs H1=>xs.length<=sizeLine/\∀p,H1 p=none->Q (.ref p) (upd H1 p (.tup xs))
noncomputable def qlK(t:TA):TE:=λσ H Q=>t σ H λxs H1=>xs.length<=sizeLine/\∀p,H1 p=none->Q (.ref p) (upd H1 p (.lst xs))
theorem qhb{x1}(h:PA X es t):PE X (.Tuple es x1 pos) (qlJ t):=by intro pins s σ H Q I hq;refine wpAny_Tuple_spliced (thn (h pos pins s σ H _ I hq) λus s1 ⟨xs,H1,I1,r,z,q⟩=>⟨by rw[<-r.length];exact z,?_⟩);have hf:H1 s1.heap.objs.size=none:=I1.hok.fresh (Nat.le_refl _);refine⟨.ref s1.heap.objs.size,upd H1 s1.heap.objs.size (.tup xs),I1.laid (t':=s1.toks) (λb u e=>Heap.get?_push_of_some _ e) (Nat.le_refl _) ?_,rfl,q _ hf⟩;exact⟨z,us,r,⟨_,Heap.get?_push_size _ rfl,rfl,_,rfl⟩⟩
theorem qhc(h:PA X es t):PE X (.List es pos) (qlK t):=by intro pins s σ H Q I hq;refine wpAny_List_spliced (thn (h pos pins s σ H _ I hq) λus s1 ⟨xs,H1,I1,r,z,q⟩=>⟨by rw[<-r.length];exact z,?_⟩);have hf:H1 s1.heap.objs.size=none:=I1.hok.fresh (Nat.le_refl _);refine⟨.ref s1.heap.objs.size,upd H1 s1.heap.objs.size (.lst xs),I1.laid (t':=s1.toks) (λb u e=>Heap.get?_push_of_some _ e) (Nat.le_refl _) ?_,rfl,q _ hf⟩;exact⟨z,us,0,r,Heap.get?_push_size _ rfl⟩
end
abbrev Sp:=List V->Hp->VK->XK->Prop
abbrev CXT:=List Env->Hp->Shared->XK->Value->Shared->Prop
structure Env0(P:Program)(w:World)(K:Frag)(mg:PR)(base:Heap)(A:Around)(outer:List Env)(s:Shared)(H:Hp):Prop where
 frames:A.frames=some outer
 mod:Mod K mg base
 bs:∀b o,base.get? b=some o->s.heap.get? b=some o/\H b=none
 bsz:base.objs.size<=s.heap.objs.size
 funs:s.heap.FunFrames base outer
 frf:∀b∈frs outer,H b=none
 hok:HOk P w H s.heap
 bare:AllBare s.gens
noncomputable def CE(outer:List Env)(P:Program)(w:World)(H:Hp)(s:Shared)(Q:VK)(u:Value)(s':Shared):Prop:=
 ∃v H',s'.os=s.os/\AllBare s'.gens/\Un (frs outer) [] H H' s.heap s'.heap/\HOk P w H' s'.heap/\qB v u/\Q v H'
noncomputable def CR(CX:CXT)(outer:List Env)(P:Program)(w:World)(H:Hp)(s:Shared)(Q:VK)(E:XK)(r:Result)(s':Shared):Prop:=
 match r with
 |.ok (.ret u)=>CE outer P w H s Q u s'
 |.ok _=>False
 |.error e=>CX outer H s E e s'
structure FnOk(P:Program)(w:World)(K:Frag)(mg:PR)(base:Heap)(CX:CXT)(k:Nat)(f:Addr)(fd:FuncData)(ps:List Str)(sp:Sp):Prop where
 len:∀vs H Q E,sp vs H Q E->vs.length=ps.length
 run:∀(A:Around) (outer:List Env) (s:Shared) (H:Hp) (args:Args) (us:List Value) (vs:List V) (Q:VK) (E:XK),Room k A->Env0 P w K mg base A outer s H->BindsTo s fd args (ps.zip us)->qr vs us->sp vs H Q E->
  codeAny (model P w) A (.call (.ref f) args) (CR CX outer P w H s Q E) s
theorem Env0.make{P:Program}{w:World}{K:Frag}{mg:PR}{base:Heap}{A:Around}{outer:List Env}{s:Shared}{H:Hp}(e:Env0 P w K mg base A outer s H)(C:Addr)(us:List Value)(kw:List (Str×Value)) :
  Env0 P w K mg base (A.under (.builtin "type.__call__" ⟨.ref C::us,kw⟩)) outer s H:=⟨by first | exact e.frames | (simpa [Around.under,Code.envs,Code.isFrame,pushEnvs] using e.frames),e.mod,e.bs,e.bsz,e.funs,e.frf,e.hok,e.bare⟩
section
variable{X:Cx}{pins:PP}{σ:St}{H:Hp}{s s':Shared}
theorem Inv.env0(I:Inv X pins σ H s):Env0 X.prog X.w X.K X.mg X.base X.A X.stack s H:=
 ⟨I.ok.frames,I.ok.mod,I.bs,Nat.le_trans I.ok.bsz I.sz,I.stack,I.stkFree,I.hok,I.bare⟩
theorem Inv.after{Q:VK}{u:Value}(I:Inv X pins σ H s)(h:CE X.stack X.prog X.w H s Q u s'):EP X pins σ Q u s':=by obtain⟨v,H',os,bare,un,hok,r,q⟩:=h;obtain⟨hh,g,d,t,os'⟩:=s';obtain rfl:os'=s.os:=os;exact⟨v,H',I.call (h':=hh) (g':=g) (d':=d) (t':=t) (ch:=[]) un hok bare (λb z=>absurd z (by simp)),r,q⟩
end
def qaP(sp:Sp)(dvs:List V)(E:XK)(t:TA):TE:=λσ H Q=>t σ H λvs H1=>sp (vs++dvs) H1 Q E
noncomputable def qeW(C:Addr)(m:Str)(sp:Sp)(dvs:List V)(E:XK)(ta:TE)(t:TA):TE:=λσ H Q=>ta σ H λx H1=>∃a dx fs,x=.ref a/\H1 a=some (.ins C dx fs)/\fs.lookup m=none/\
 t σ H1 λvs H2=>sp (x::(vs++dvs)) H2 Q E
noncomputable def qeX(C:Addr)(sp:Sp)(dvs:List V)(E:XK)(t:TA):TE:=λσ H Q=>t σ H λvs H1=>∀x dx,H1 x=none->H1 dx=none->dx≠x->
 sp (.ref x::(vs++dvs)) (upd (upd H1 dx (.own x)) x (.ins C dx [])) (λv H2=>v=.non/\Q (.ref x) H2) E
noncomputable def qI(K:Frag)(fd:FuncData)(ps:List Str)(ds:List Value):Prop:=
 ∀(s:Shared) (us:List Value),K.In s.heap->(us++ds).length=ps.length->BindsTo s fd ⟨us,[]⟩ (ps.zip (us++ds))
theorem qI.all{K:Frag}{fd:FuncData}{ps:List Str}(h:∀us:List Value,us.length=ps.length->bindArgs fd ⟨us,[]⟩=pure (ps.zip us)):qI K fd ps []:=λs us _ hl=>by rw[List.append_nil] at hl ⊢;exact .of_eq (h us hl)
noncomputable def zM(CX:CXT)(X:Cx)(E:XK):Prop:=∀(pins:PP) (σ:St) (H:Hp) (s:Shared) (e:Value) (s':Shared),Inv X pins σ H s->CX X.stack H s E e s'->X.xe e s'
section
variable{X:Cx}{CX:CXT}{k:Nat}{f C:Addr}{fd:FuncData}{ps:List Str}{sp:Sp}{dvs:List V}{ds:List Value}{E:XK}{x m:Str}{p pos apos:Pos}{e o:Expr}{es:List Expr}{ta:TE}{t:TA}
theorem J9{pins:PP}{σ:St}{H:Hp}{s:Shared}{Q:VK}{us:List Value}{vs:List V}(F:FnOk X.prog X.w X.K X.mg X.base CX k f fd ps sp)(hr:Room k X.A)(hb:qI X.K fd ps ds)(hd:qr dvs ds)(hx:zM CX X E)
  (I:Inv X pins σ H s) (r:qr vs us) (h:sp (vs++dvs) H Q E):wpAny (model X.prog X.w) X.A (call (.ref f) us) (EP X pins σ Q) X.xe s:=by
 have r2:qr (vs++dvs) (us++ds):=r.append hd;have hl:(us++ds).length=ps.length:=by rw[<-r2.length];exact F.len _ _ _ _ h
 refine wpAny_call (codeAny_mono (F.run X.A X.stack s H ⟨us,[]⟩ (us++ds) (vs++dvs) Q E hr I.env0 (hb s us I.kIn hl) r2 h) λr s' hq=>?_)
 cases r with
 |error e=>exact hx pins σ H s e s' I hq
 |ok fl=>
  cases fl with
  |ret u=>exact I.after hq
  |next=>exact False.elim hq
  |brk=>exact False.elim hq
  |cont=>exact False.elim hq
theorem jk(F:FnOk X.prog X.w X.K X.mg X.base CX k f fd ps sp)(hr:Room k X.A)(hg:Gl X x)(hm:X.mg x=some (.ref f))(hk:PySem.W.keepIn X.K (.ref f)=true)(hb:qI X.K fd ps ds)(hd:qr dvs ds)(hx:zM CX X E)
  (ha:PA X (e::es) t) (hdb:(x == ("__debug__" : Str))=false:=by decide) (he:starEach (e::es) X.env=(false,eval e X.env)::starEach es X.env:=by rfl) (hpl:(backTo pos (starEach es X.env)).any (·.1)=false:=by rfl) :
  PE X (.Call (.Name x p) (e::es) [] pos) (qaP sp dvs E t):=by
 intro pins s σ H Q I h;refine wpAny_Call_Name_kw (zn I hg hm ?_ hdb);refine PySem.W.callWith_K (h₀:=X.base) I.ok.mod.kin hk (thn (ha pos pins s σ H _ I h) λus s1 ⟨vs,H1,I1,r,q⟩=>⟨I1.kIn,?_⟩) he hpl;exact J9 F hr hb hd hx I1 r q
theorem Q5(F:FnOk X.prog X.w X.K X.mg X.base CX k f fd ps sp)(hr:Room k X.A)(hg:Gl X x)(hm:X.mg x=some (.ref f))(hk:PySem.W.keepIn X.K (.ref f)=true)(hb:qI X.K fd ps ds)(hd:qr dvs ds)(hx:zM CX X E)
  (hdb:(x == ("__debug__" : Str))=false:=by decide):PE X (.Call (.Name x p) [] [] pos) (qaP sp dvs E qgE):=by
 intro pins s σ H Q I h;refine wpAny_Call_Name_kw (zn I hg hm ?_ hdb);exact PySem.W.callWith_K0 I.kIn hk (J9 (us:=[]) F hr hb hd hx I .nil h)
theorem qeY{pl:Sem Bool}(he:PE X o ta)(c:Cls X.K C)(hm:Meth X.K C m f)(F:FnOk X.prog X.w X.K X.mg X.base CX k f fd ps sp)(hr:Room k X.A)(hb:qI X.K fd ps ds)(hd:qr dvs ds)(hx:zM CX X E)(ha:PA X (e::es) t)
  (hst:starEach (e::es) X.env=(false,eval e X.env)::starEach es X.env:=by rfl) (hpl:(backTo pos (starEach es X.env)).any (·.1)=false:=by rfl)
  (ht:eval (.Call (.Attribute o m apos) (e::es) [] pos) X.env=(do
   let ov<-eval o X.env
   standAt apos.atName
   let (f,first)<-holding [ov] (getMethod ov m pl)
   callWith pos f first (backTo pos (starEach (e::es) X.env)) (backToKw pos (keywordEach [] X.env))):=by rfl) :
  PE X (.Call (.Attribute o m apos) (e::es) [] pos) (qeW C m sp dvs E ta t):=by
 intro pins s σ H Q I h;refine PySem.W.methodCall_KW (pl:=pl) (thn (he pins s σ H _ I h) λu s1 ⟨x,H1,I1,rx,a,dx,fs,ex,ea,l,q⟩=>?_) ht;subst ex;obtain rfl:u=Value.ref a:=rx;refine Ja I1 ea c hm l ?_;refine PySem.W.callWith_K (first:=[.ref a]) (h₀:=X.base) I.ok.mod.kin hm.kp (thn (ha pos pins s1 σ H1 _ I1 q) λus s2 ⟨vs,H2,I2,r,q2⟩=>⟨I2.kIn,?_⟩) hst hpl;exact J9 (us:=.ref a::us) (vs:=.ref a::vs) F hr hb hd hx I2 (.cons rfl r) q2
theorem qcK{pl:Sem Bool}(he:PE X o ta)(c:Cls X.K C)(hm:Meth X.K C m f)(F:FnOk X.prog X.w X.K X.mg X.base CX k f fd ps sp)(hr:Room k X.A)(hb:qI X.K fd ps ds)(hd:qr dvs ds)(hx:zM CX X E)
  (ht:eval (.Call (.Attribute o m apos) [] [] pos) X.env=(do
   let ov<-eval o X.env
   standAt apos.atName
   let (f,first)<-holding [ov] (getMethod ov m pl)
   callWith pos f first (backTo pos (starEach [] X.env)) (backToKw pos (keywordEach [] X.env))):=by rfl) :
  PE X (.Call (.Attribute o m apos) [] [] pos) (qeW C m sp dvs E ta qgE):=by
 intro pins s σ H Q I h;refine PySem.W.methodCall_KW (pl:=pl) (thn (he pins s σ H _ I h) λu s1 ⟨x,H1,I1,rx,a,dx,fs,ex,ea,l,q⟩=>?_) ht;subst ex;obtain rfl:u=Value.ref a:=rx;refine Ja I1 ea c hm l ?_;exact PySem.W.callWith_K0 (first:=[.ref a]) I1.kIn hm.kp (J9 (us:=[.ref a]) (vs:=[.ref a]) F hr hb hd hx I1 %[rfl|0] q)
structure Mk(K:Frag)(C f:Addr):Prop where
 makes:PySem.W.makesIn K C=true
 init:PySem.W.findIn K (.ref C) "__init__" = some (some (.ref f))
 fn:PySem.W.isFn K (.ref f)=true
 kp:PySem.W.keepIn K (.ref C)=true
theorem Q6{pins:PP}{σ:St}{H:Hp}{s:Shared}{Q:VK}{us:List Value}{vs:List V}(M:Mk X.K C f)(F:FnOk X.prog X.w X.K X.mg X.base CX k f fd ps sp)(hr:Room (k+1) X.A)(hb:qI X.K fd ps ds)(hd:qr dvs ds)
  (hx:zM CX X E) (I:Inv X pins σ H s) (r:qr vs us)
  (h:∀x dx,H x=none->H dx=none->dx≠x->sp (.ref x::(vs++dvs)) (upd (upd H dx (.own x)) x (.ins C dx [])) (λv H2=>v=.non/\Q (.ref x) H2) E) :
  wpAny (model X.prog X.w) X.A (call (.ref C) us) (EP X pins σ Q) X.xe s:=by
 have hq:=h (s.heap.objs.size+1) s.heap.objs.size (I.hok.fresh (Nat.le_succ _)) (I.hok.fresh (Nat.le_refl _)) (Nat.ne_of_lt (Nat.lt_succ_self _));have I2:=Inv.made (C:=C) I;have r2:qr (V.ref (s.heap.objs.size+1)::(vs++dvs)) (Value.ref (s.heap.objs.size+1)::(us++ds)):=.cons rfl (r.append hd)
 have hl:(Value.ref (s.heap.objs.size+1)::us++ds).length=ps.length:=by have e:=r2.length;rw[F.len _ _ _ _ hq] at e;exact e.symm
 refine wpAny_call (qcI (f:=f) I.kIn M.makes M.init (beq_iff_eq.mp M.fn) (codeAny_mono (F.run _ X.stack _ _ ⟨Value.ref (s.heap.objs.size+1)::us,[]⟩ (Value.ref (s.heap.objs.size+1)::(us++ds)) _ _ E (hr.make C us [])
  (I2.env0.make C us []) (hb _ (Value.ref (s.heap.objs.size+1)::us) I2.kIn hl) r2 hq) λr s' hq'=>?_))
 cases r with
 |error e=>exact hx pins σ _ _ e s' I2 hq'
 |ok fl=>
  cases fl with
  |ret u=>obtain⟨v,H',I3,rv,ev,q3⟩:=I2.after hq';subst ev;exact⟨rv,⟨V.ref (s.heap.objs.size+1),H',I3,rfl,q3⟩⟩
  |next=>exact False.elim hq'
  |brk=>exact False.elim hq'
  |cont=>exact False.elim hq'
theorem qeZ(M:Mk X.K C f)(F:FnOk X.prog X.w X.K X.mg X.base CX k f fd ps sp)(hr:Room (k+1) X.A)(hg:Gl X x)(hm:X.mg x=some (.ref C))(hb:qI X.K fd ps ds)(hd:qr dvs ds)(hx:zM CX X E)
  (ha:PA X (e::es) t) (hdb:(x == ("__debug__" : Str))=false:=by decide) (he:starEach (e::es) X.env=(false,eval e X.env)::starEach es X.env:=by rfl) (hpl:(backTo pos (starEach es X.env)).any (·.1)=false:=by rfl) :
  PE X (.Call (.Name x p) (e::es) [] pos) (qeX C sp dvs E t):=by
 intro pins s σ H Q I h;refine wpAny_Call_Name_kw (zn I hg hm ?_ hdb);refine PySem.W.callWith_K (h₀:=X.base) I.ok.mod.kin M.kp (thn (ha pos pins s σ H _ I h) λus s1 ⟨vs,H1,I1,r,q⟩=>⟨I1.kIn,?_⟩) he hpl;exact Q6 M F hr hb hd hx I1 r q
theorem qcL(M:Mk X.K C f)(F:FnOk X.prog X.w X.K X.mg X.base CX k f fd ps sp)(hr:Room (k+1) X.A)(hg:Gl X x)(hm:X.mg x=some (.ref C))(hb:qI X.K fd ps ds)(hd:qr dvs ds)(hx:zM CX X E)
  (hdb:(x == ("__debug__" : Str))=false:=by decide):PE X (.Call (.Name x p) [] [] pos) (qeX C sp dvs E qgE):=by
 intro pins s σ H Q I h;refine wpAny_Call_Name_kw (zn I hg hm ?_ hdb);exact PySem.W.callWith_K0 I.kIn M.kp (Q6 (us:=[]) M F hr hb hd hx I .nil h)
end
structure FnScope(N P:List Str)(sc:Scope):Prop where
 kind:sc.kind=.function
 co:sc.isCoroutine=false
 gen:sc.isGenerator=false
 nd:N.Nodup
 pre:N.take P.length=P
 par:∀x∈P,sc.names.lookup x=some .local\/sc.names.lookup x=some .cell
 nofree:∀y∈sc.names,y.2≠.free
theorem Yb{kindOf:Str->Option NameKind}{x:Str}:∀{binds:List (Str×Value)} {m:PR},(∀v,(x,v)∉binds)->bindL kindOf binds m x=m x
 |[],_,_=>rfl
 | (n,v)::r,m,h=>by
  unfold bindL;rw[Yb λw hw=>h w (List.mem_cons_of_mem _ hw)];split
  ·have:x≠n:=by rintro rfl;exact h v List.mem_cons_self
   simp[this]
  ·rfl
theorem Yc{kindOf:Str->Option NameKind}{x:Str}:∀{binds:List (Str×Value)} {m:PR},(∀v,(x,v)∉binds)->bindC kindOf binds m x=m x
 |[],_,_=>rfl
 | (n,v)::r,m,h=>by
  unfold bindC;rw[Yc λw hw=>h w (List.mem_cons_of_mem _ hw)];split
  ·rfl
  ·have:x≠n:=by rintro rfl;exact h v List.mem_cons_self
   simp[this]
theorem Yd{kindOf:Str->Option NameKind}{x:Str}{v:Value}:∀{P:List Str} {vs:List Value} {i:Nat} {m:PR},P.Nodup->P[i]?=some x->vs[i]?=some v->kindOf x=some .local->
  bindL kindOf (P.zip vs) m x=some v
 |[],_,_,_,_,h,_,_=>by simp at h
 | _::_,[],_,_,_,_,h,_=>by simp at h
 | p::P,w::vs,0,m,nd,h1,h2,hk=>by simp at h1 h2;subst h1;subst h2;show bindL kindOf ((p,w)::P.zip vs) m p=_;unfold bindL;rw[Yb λv hv=>(List.nodup_cons.mp nd).1 (List.of_mem_zip hv).1,if_pos hk];simp
 | p::P,w::vs,i+1,m,nd,h1,h2,hk=>by show bindL kindOf ((p,w)::P.zip vs) m x=_;unfold bindL;exact Yd (i:=i) (List.nodup_cons.mp nd).2 (by simpa using h1) (by simpa using h2) hk
theorem Ye{kindOf:Str->Option NameKind}{x:Str}{v:Value}:∀{P:List Str} {vs:List Value} {i:Nat} {m:PR},P.Nodup->P[i]?=some x->vs[i]?=some v->kindOf x≠some .local->
  bindC kindOf (P.zip vs) m x=some v
 |[],_,_,_,_,h,_,_=>by simp at h
 | _::_,[],_,_,_,_,h,_=>by simp at h
 | p::P,w::vs,0,m,nd,h1,h2,hk=>by simp at h1 h2;subst h1;subst h2;show bindC kindOf ((p,w)::P.zip vs) m p=_;unfold bindC;rw[Yc λv hv=>(List.nodup_cons.mp nd).1 (List.of_mem_zip hv).1,if_neg hk];simp
 | p::P,w::vs,i+1,m,nd,h1,h2,hk=>by show bindC kindOf ((p,w)::P.zip vs) m x=_;unfold bindC;exact Ye (i:=i) (List.nodup_cons.mp nd).2 (by simpa using h1) (by simpa using h2) hk
def j5(N:List Str)(vs:List V):St:=vs.map some++List.replicate (N.length - vs.length) none
noncomputable def Q7(CX:CXT)(P:Program)(w:World)(K:Frag)(mg:PR)(base:Heap)(N:List Str)(qual:Str)(scope:Scope)(f:Addr)(cd:Value)(A:Around)(outer:List Env)(s:Shared)(H:Hp)(E:XK):Cx where
 prog:=P
 w:=w
 K:=K
 mg:=mg
 base:=base
 A:=A.deeper (envOfC qual scope s.heap.objs.size f cd)
 N:=N
 s₀:=s
 Hv:=H
 env:=envOfC qual scope s.heap.objs.size f cd
 outer:=outer
 stack:=envOfC qual scope s.heap.objs.size f cd::outer
 ex:=[]
 calm:=true
 fn:=λ_=>true
 pn:=[]
 xe:=λe s'=>wpAny (model P w) (A.deeper (envOfC qual scope s.heap.objs.size f cd)) (leaving (envOfC qual scope s.heap.objs.size f cd) e) (λ_ s''=>CX outer H s E e s'') (λe' s''=>CX outer H s E e' s'') s'
theorem Q8{sc:Scope}{n:Nat}{x:Str}(h:sc.names.lookup x=some .cell):∃c,(cellsFrom n sc.names []).lookup x=some c:=by have q:=PySem.W.cellsFrom_some sc.names n [] (.inl h);exact Option.isSome_iff_exists.mp q
theorem qaQ{CX:CXT}{P:Program}{w:World}{K:Frag}{mg:PR}{base:Heap}{N ps:List Str}{qual:Str}{scope:Scope}{f:Addr}{cd:Value}{A:Around}{outer:List Env}{s s1:Shared}{H:Hp}{E:XK}{us:List Value}{vs:List V}
  (S:FnScope N ps scope) (hd:A.handled=none) (e0:Env0 P w K mg base A outer s H) (hl:vs.length=ps.length) (r:qr vs us)
  (x:InCallC s s.heap.objs.size (bindL (envOfC qual scope s.heap.objs.size f cd).kindOf (ps.zip us) λ_=>none) (cellsFrom (s.heap.objs.size+1) scope.names []) (bindC (envOfC qual scope s.heap.objs.size f cd).kindOf (ps.zip us) λ_=>none) s1) :
  Inv (Q7 CX P w K mg base N qual scope f cd A outer s H E) [] (j5 N vs) H s1:=by
 have hpl:ps.length<=N.length:=by have:=congrArg List.length S.pre;rw[List.length_take] at this;omega
 obtain⟨h1,tk,rfl,hk⟩:=x.done;have noA:∀b:Addr,b∉(Q7 CX P w K mg base N qual scope f cd A outer s H E).ex:=λb z=>absurd (show b∈([]:List Addr) from z) (by simp)
 refine⟨⟨e0.mod,S.kind,rfl,rfl,Nat.le_refl _,λy z c h1 h2=>?_,λy hy=>?_,λy c _ h=>?_,λ_=>hd,Around.frames_deeper e0.frames,.inr ⟨rfl,rfl⟩,λb z=>absurd z (noA b),e0.bs,e0.bsz,λb _ _=>noA b,λb z=>absurd z (noA b),e0.funs,e0.frf⟩,
  rfl,e0.bare,Un.kept hk,⟨_,x.toInCall.ns,λi y v h1 h2 h3=>?_⟩,λy c h=>⟨_,x.cell y c h⟩,e0.hok.fresh (Nat.le_refl _),λy c h=>?_,λp hp=>absurd (show p∈([]:PP) from hp) (by simp),e0.hok.kept hk,?_⟩
 ·exact name_of_addr x.apart (PySem.mem_of_lookup h1) (PySem.mem_of_lookup h2)
 ·have hy:scope.names.lookup y=some .cell\/scope.names.lookup y=some .free:=hy;rcases hy with hy | hy
  ·exact Q8 hy
  ·exact absurd rfl (S.nofree _ (PySem.mem_of_lookup hy))
 ·exact Nat.le_of_lt (x.above y c (PySem.mem_of_lookup h))
 ·have hi:i < vs.length:=by
   unfold j5 at h2
   by_cases hi:i < vs.length
   ·exact hi
   ·rw[List.getElem?_append_right (by simpa using hi)] at h2;rw[List.getElem?_replicate] at h2
    split at h2<;>cases h2
  have ha:vs[i]?=some v:=by
   unfold j5 at h2;rw[List.getElem?_append_left (by simpa using hi),List.getElem?_map] at h2
   cases e:vs[i]? with
   |none=>rw[e] at h2;cases h2
   |some a=>rw[e] at h2;cases h2;rfl
  obtain⟨u,hu,rv⟩:=r.get ha
  have hp:ps[i]?=some y:=by rw[<-S.pre,List.getElem?_take_of_lt (1:)];exact h1
  have ndP:ps.Nodup:=by rw[<-S.pre];exact S.nd.sublist (List.take_sublist _ _)
  refine⟨u,rv,?_⟩;rcases S.par y (List.mem_of_getElem? hp) with k | k
  ·exact .inl ⟨k,Yd ndP hp hu k⟩
  ·obtain⟨c,e⟩:=Q8 (n:=s.heap.objs.size+1) k;refine .inr ⟨.inl k,c,e,?_⟩;have q:=x.cell y c e;rw[Ye ndP hp hu (by show scope.names.lookup y≠_;rw[k];decide)] at q;exact q
 ·exact e0.hok.fresh (Nat.le_of_lt (x.above y c (PySem.mem_of_lookup h)))
 ·unfold j5;show _=N.length;rw[List.length_append,List.length_map,List.length_replicate];omega
theorem qhd{CX:CXT}{P:Program}{w:World}{K:Frag}{mg:PR}{base:Heap}{k:Nat}{f:Addr}{name qual:Str}{params:Arguments}{body:List Stmt}{scope:Scope}{dV kV doc pm cdv ct oc:Value}{an od:Option Addr}
  {osl:Array (Option Value)} {N ps:List Str} {sp:Sp} (lk:K.lookup f=some ⟨oc,od,.func (PySem.W.fnOf name qual params body scope dV kV doc pm an cdv ct),osl⟩) (hcd:PySem.W.codeIn K cdv qual=true) (S:FnScope N ps scope)
  (len:∀vs H Q E,sp vs H Q E->vs.length=ps.length)
  (hbody:∀(A:Around) (outer:List Env) (s:Shared) (H:Hp) (vs:List V) (Q:VK) (E:XK),Room k (A.deeper (envOfC qual scope s.heap.objs.size f cdv))->sp vs H Q E->
   ∃t,PSs (Q7 CX P w K mg base N qual scope f cdv A outer s H E) body t/\t { nx:=λ_ H'=>Q .non H',rt:=Q } (j5 N vs) H) :
  FnOk P w K mg base CX (k+1) f (PySem.W.fnOf name qual params body scope dV kV doc pm an cdv ct) ps sp:=by
 refine⟨len,λA outer s H args us vs Q E hr e0 hb r hsp=>?_⟩;have hl:=len _ _ _ _ hsp;have KX:K.In s.heap:=e0.mod.kin.keeps λb o e=>(e0.bs b o e).1;have lim:s.heap.NoLimit:=e0.mod.nolimit.keeps λb o e=>(e0.bs b o e).1
 have hkind:∀y∈ps.zip us,scope.names.lookup y.1=some .local\/(scope.names.lookup y.1=some .cell/\((cellsFrom (s.heap.objs.size+1) scope.names []).lookup y.1).isSome=true):=λ⟨n,v⟩ hy=>by
  rcases S.par n (List.of_mem_zip hy).1 with q | q
  ·exact .inl q
  ·exact .inr ⟨q,PySem.W.cellsFrom_some _ _ _ (.inl q)⟩
 refine codeAny_call_function hr.depth (KX _ _ lk) rfl S.co S.gen rfl (PySem.W.codeRec_of KX hcd) (hb _ _ _ _ ?_);refine wpAny_newFunctionEnv_cells S.kind hkind λenv he s1 x=>?_;subst he;refine⟨lim.keeps x.toInCall.keep,codeAny_func ?_⟩;obtain⟨t,ht,hq⟩:=hbody A outer s H vs Q E (hr.deeper _) hsp;have I:Inv (Q7 CX P w K mg base N qual scope f cdv A outer s H E) [] (j5 N vs) H s1:=qaQ S hr.hd e0 hl r x;refine wpAny_mono (ht [] s1 (j5 N vs) H _ I hq) (λfl s' hs=>?_) λe s' hs=>hs
 have fin:∀{σ':St} {H':Hp} {v:V} {u:Value},Inv (Q7 CX P w K mg base N qual scope f cdv A outer s H E) [] σ' H' s'->qB v u->Q v H'->CE outer P w H s Q u s':=
  λ{σ' H' v u} J rv q=>⟨v,H',J.os,J.bare,J.base,J.hok,rv,q⟩
 cases fl with
 |ret u=>obtain⟨v,σ',H',J,rv,q⟩:=hs;exact fin J rv q
 |next=>obtain⟨σ',H',J,q⟩:=hs;exact fin (v:=V.non) (u:=Value.none) J rfl q
 |brk=>obtain⟨_,_,_,q⟩:=hs;exact False.elim q
 |cont=>obtain⟨_,_,_,q⟩:=hs;exact False.elim q
end L2
namespace L2
open PySem PySem.Spec PyProof.Rows
section
variable{X:Cx}{x:Str}{p pos:Pos}{e:Expr}{es:List Expr}{t:TA}{id T:String}{r:List V->Hp->VK->Prop}
def tCB(r:List V->Hp->VK->Prop)(t:TA):TE:=λσ H Q=>t σ H λvs H1=>r vs H1 Q
theorem zd(hc:qH X (.builtin id) r)(hg:Gl X x)(hm:X.mg x=none)(hv:bootBuiltins x=some (.builtin id))(ha:PA X (e::es) t)(hn:x≠"__name__":=by decide)(hdb:(x == ("__debug__" : Str))=false:=by decide)
  (he:starEach (e::es) X.env=(false,eval e X.env)::starEach es X.env:=by rfl) (hpl:(backTo pos (starEach es X.env)).any (·.1)=false:=by rfl):PE X (.Call (.Name x p) (e::es) [] pos) (tCB r t):=by
 intro pins s σ H Q I h;refine wpAny_Call_Name_kw (jt I hg hm hv ?_ hn hdb);exact PyProof.Rows.callWith_builtin1 (thn (ha pos pins s σ H _ I h) λus s1 ⟨vs,H1,I1,r1,q1⟩=>hc pins s1 σ H1 vs us Q I1 r1 q1) he hpl
theorem qJ(hc:qH X (.type T) r)(hg:Gl X x)(hm:X.mg x=none)(hv:bootBuiltins x=some (.type T))(ha:PA X (e::es) t)(hn:x≠"__name__":=by decide)(hdb:(x == ("__debug__" : Str))=false:=by decide)
  (he:starEach (e::es) X.env=(false,eval e X.env)::starEach es X.env:=by rfl) (hpl:(backTo pos (starEach es X.env)).any (·.1)=false:=by rfl):PE X (.Call (.Name x p) (e::es) [] pos) (tCB r t):=by
 intro pins s σ H Q I h;refine wpAny_Call_Name_kw (jt I hg hm hv ?_ hn hdb);exact PyProof.Rows.callWith_type1 (thn (ha pos pins s σ H _ I h) λus s1 ⟨vs,H1,I1,r1,q1⟩=>hc pins s1 σ H1 vs us Q I1 r1 q1) he hpl
end
end L2
namespace HT
open PySem PyProof.Rows
noncomputable def ju:List Int->List Int->Bool
 |[],[]=>false
 | [],_::_=>true
 | _::_,[]=>false
 | x::xs,y::ys=>if x=y then ju xs ys else decide (x < y)
theorem Z0(x y:Int)(xs ys:List Int):ju (x::xs) (y::ys)=if x=y then ju xs ys else decide (x < y):=rfl
theorem Jx:ju [] []=false:=rfl
theorem yZ(y:Int)(ys:List Int):ju [] (y::ys)=true:=rfl
theorem y3(x:Int)(xs:List Int):ju (x::xs) []=false:=rfl
theorem qcM(A:Around)(s:Shared)(a:Int)(t:Tok)(c:Int)(u:Tok):∃e,SeqAt.EqAt A s (.int a t) (.int c u) e/\(e=true↔a=c):=
 ⟨(a == c),SeqAt.EqAt.int_int a t c u,by simp⟩
theorem qcN(A:Around)(s:Shared)(a:Int)(t:Tok)(c:Int)(u:Tok)(prog:Program)(w:World)(E:PQ)(Q:PQ)(h:Q (.bool (decide (a < c))) s) :
  wpAny (model prog w) A (richCompare .Lt (.int a t) (.int c u)) Q E s:=
 (PyProof.Rows.lt_int h:wpAny (model prog w) A (compareOp .Lt (.int a t) (.int c u)) Q E s)
section
variable{prog:Program}{w:World}{A:Around}{E:PQ}{s:Shared}
noncomputable def sIx(n d:Nat):Option Int->Nat
 |none=>d
 |some v=>if v < 0 then (v+(n:Int)).toNat else min v.toNat n
theorem qcO(n d:Nat):sIx n d none=d:=rfl
theorem Qh(n d k:Nat):sIx n d (some (k:Int))=min k n:=by show(if (k:Int) < 0 then ((k:Int)+(n:Int)).toNat else min (k:Int).toNat n)=min k n;rw[if_neg (1:),Int.toNat_natCast]
end
end HT
namespace L2
open PySem PySem.Spec PyProof.Rows
abbrev TO:=St->Hp->(Option Int->Hp->Prop)->Prop
noncomputable def PO(X:Cx)(e:Option Expr)(t:TO):Prop:=
 ∀(pins:PP) (s:Shared) (σ:St) (H:Hp) (Q:Option Int->Hp->Prop),Inv X pins σ H s->t σ H Q->
  wpAny (model X.prog X.w) X.A (evalPart e X.env) (λu s'=>∃o H',Inv X pins σ H' s'/\IsPart u o/\Q o H') X.xe s
def qe0:TO:=λ_ H Q=>Q none H
def qj8(t:TE):TO:=λσ H Q=>t σ H λx H1=>∃i,x=.int i/\Q (some i) H1
theorem Jb{ns:List Int}:∀{us:List Value},qr (ns.map V.int) us->IntsAre us ns:=by
 induction ns with
 |nil=>intro us r;rw[List.map_nil] at r;cases r;exact .nil
 |cons n ns ih=>
  intro us r;rw[List.map_cons] at r
  cases r with
  |cons r1 r2=>obtain⟨t,e⟩:=r1;subst e;exact .cons n t (ih r2)
section
variable{X:Cx}{e:Expr}{te:TE}{lo hi:Option Expr}{tl th:TO}{pos p2:Pos}
theorem Qi:PO X none qe0:=by intro pins s σ H Q I h;rw[evalPart_none];exact wpAny_pure ⟨none,H,I,.none,h⟩
theorem qe1(h:PE X e te):PO X (some e) (qj8 te):=by intro pins s σ H Q I hw;rw[evalPart_some];refine thn (h pins s σ H _ I hw) λu s1 hq1=>?_;obtain⟨x,H1,I1,r1,q1⟩:=hq1;obtain⟨i,rfl,q⟩:=q1;obtain⟨t,rfl⟩:=r1;exact⟨some i,H1,I1,.int i t,q⟩
noncomputable def SlR(X:Cx)(r:V->Option Int->Option Int->Hp->VK->Prop):Prop:=
 ∀(pins:PP) (s:Shared) (σ:St) (H:Hp) (x:V) (v vl vu:Value) (lo hi:Option Int) (sl:Addr) (Q:VK),Inv X pins σ H s->qB x v->s.heap.IsSliceOf sl vl vu .none->IsPart vl lo->IsPart vu hi->r x lo hi H Q->
  ∃T id,typeLookup (.type T) "__getitem__" = pure (some (.builtin id))/\s.TypeIs v T/\wpAny (model X.prog X.w) X.A (getItem v (.ref sl)) (EP X pins σ Q) X.xe s
noncomputable def tSl(r:V->Option Int->Option Int->Hp->VK->Prop)(te:TE)(tl th:TO):TE:=λσ H Q=>te σ H λx H1=>tl σ H1 λl H2=>th σ H2 λu H3=>r x l u H3 Q
theorem qcP{r:V->Option Int->Option Int->Hp->VK->Prop}(hr:SlR X r)(he:PE X e te)(hl:PO X lo tl)(hu:PO X hi th):PE X (.Subscript e (.Slice lo hi none p2) pos) (tSl r te tl th):=by intro pins s σ H Q I h;refine Subscript_ (thn (he pins s σ H _ I h) λv s1 hq1=>?_);obtain⟨x,H1,I1,r1,q1⟩:=hq1;refine wpAny_Slice (thn (hl pins s1 σ H1 _ I1 q1) λvl s2 ⟨l,H2,I2,pl,q2⟩=>thn (hu pins s2 σ H2 _ I2 q2) λvu s3 hq1=>?_);obtain⟨u,H3,I3,pu,q3⟩:=hq1;rw[evalPart_none];refine wpAny_pure ?_;have I4:Inv X pins σ H3 { s3 with heap:=s3.heap.push { cls:=.type "slice",data:=.fields #[vl,vu,.none] } }:=I3.kept (t':=s3.toks) λb ob q=>Heap.get?_push_of_some _ q;obtain⟨T,id,hT,ht,hg⟩:=hr pins { s3 with heap:=s3.heap.push { cls:=.type "slice",data:=.fields #[vl,vu,.none] } } σ H3 x v vl vu l u s3.heap.objs.size Q I4 r1 (Heap.IsSliceOf.new ..) pl pu q3;show wpAny (model X.prog X.w) X.A (subscriptTail e (.Slice lo hi none p2) v (.ref s3.heap.objs.size)) (EP X pins σ Q) X.xe { s3 with heap:=s3.heap.push { cls:=.type "slice",data:=.fields #[vl,vu,.none] } };exact tail_any (ops:=[.ref s3.heap.objs.size,v]) ht hT hg (by with_unfolding_all rfl)
noncomputable def qgF(xs:List V)(lo hi:Option Int):List V:=(xs.drop (HT.sIx xs.length 0 lo)).take (HT.sIx xs.length xs.length hi - HT.sIx xs.length 0 lo)
theorem Qj(xs:List V)(lo hi:Option Int):(qgF xs lo hi).length<=xs.length:=by unfold qgF;rw[List.length_take,List.length_drop];omega
end
end L2
namespace L2
open PySem PySem.Spec PyProof.Rows
noncomputable def ixN(n:Nat)(i:Int):Option Nat:=if 0<=i then (if i < n then some i.toNat else none) else if -(n:Int)<=i then some (i+n).toNat else none
def atI{α:Type}(xs:List α)(i:Int):Option α:=(ixN xs.length i).bind λj=>xs[j]?
theorem qaR{n:Nat}{i:Int}{j:Nat}(h:ixN n i=some j):seqIndex? i n=some j/\j < n/\-(n:Int)<=i/\i < n:=by
 unfold ixN at h
 by_cases h0:0<=i
 ·rw[if_pos h0] at h
  by_cases h1:i < n
  ·rw[if_pos h1] at h;have e:i.toNat=j:=Option.some.inj h;exact⟨by rw[seqIndex_of h0 h1,e],by omega,by omega,h1⟩
  ·rw[if_neg h1] at h;cases h
 ·rw[if_neg h0] at h
  by_cases h1:-(n:Int)<=i
  ·rw[if_pos h1] at h;have e:(i+n).toNat=j:=Option.some.inj h;exact⟨by rw[seqIndex_neg (1:) h1,e],by omega,h1,by omega⟩
  ·rw[if_neg h1] at h;cases h
theorem Qk{α:Type}{xs:List α}{i:Int}{v:α}(h:atI xs i=some v):∃j,seqIndex? i xs.length=some j/\xs[j]?=some v/\j < xs.length/\-(xs.length:Int)<=i/\i < xs.length:=by
 unfold atI at h
 cases e:ixN xs.length i with
 |none=>rw[e] at h;cases h
 |some j=>rw[e] at h;obtain⟨h1,h2,h3,h4⟩:=qaR e;exact⟨j,h1,h,h2,h3,h4⟩
def qaS(b:Expr):Prop:=∀o i,subscripted b false o i=operate [o,i] (getItem o i)
noncomputable def IxR(X:Cx)(r:R2):Prop:=
 ∀(value slice:Expr) (pins:PP) (s:Shared) (σ:St) (H:Hp) (x y:V) (v u:Value) (Q:VK),Inv X pins σ H s->qB x v->qB y u->r x y H Q->
  subscripted slice false v u=operate [v,u] (getItem v u)->wpAny (model X.prog X.w) X.A (subscriptTail value slice v u) (EP X pins σ Q) X.xe s
noncomputable def MtR(X:Cx)(id:String)(r:V->List V->Hp->VK->Prop):Prop:=
 ∀(pins:PP) (s:Shared) (σ:St) (H:Hp) (x:V) (xs:List V) (v:Value) (us:List Value) (Q:VK),Inv X pins σ H s->qB x v->qr xs us->r x xs H Q->
  wpAny (model X.prog X.w) X.A (call (.builtin id) (v::us)) (EP X pins σ Q) X.xe s
section
variable{X:Cx}{a b:Expr}{ta tb:TE}{pos:Pos}
theorem qj9{r:R2}(hr:IxR X r)(ha:PE X a ta)(hb:PE X b tb)(hs:qaS b):PE X (.Subscript a b pos) (tOp r ta tb):=by intro pins s σ H Q I h;exact Subscript_ (qj2 ha hb I h λv u s2 x y H2 I2 rx ry q=>hr a b pins s2 σ H2 x y v u Q I2 rx ry q (hs _ _))
noncomputable def qlL(K:Frag):R2:=λx y H Q=>∃p xs i v,x=.ref p/\y=.int i/\SqL K H p xs/\atI xs i=some v/\Q v H
noncomputable def qlM(K:Frag):R2:=λx y H Q=>∃p xs i v,x=.ref p/\y=.int i/\SqT K H p xs/\atI xs i=some v/\Q v H
noncomputable def qlN:R2:=λx y H Q=>∃z i c,x=.str z/\y=.int i/\z.length<=sizeLine/\atI z.cps.toList i=some c/\Q (.str ⟨#[c]⟩) H
theorem qe2:IxR X (qlL X.K):=by
 intro value slice pins s σ H x y v u Q I rx ry h hs;obtain⟨p,xs,i,z,rfl,rfl,hq,he,q⟩:=h;cases rx;obtain⟨t,rfl⟩:=ry;obtain⟨its,r,pl,hz⟩:=I.list hq;obtain⟨j,h1,h2,h3,h4,h5⟩:=Qk he;obtain⟨w,ew,rw'⟩:=r.get h2;have hl:=r.length;have hn:=yu;have fin:EP X pins σ Q w s:=⟨z,H,I,rw',q⟩
 by_cases h0:0<=i
 ·have hj:i.toNat=j:=by
   rw[seqIndex_of h0 h5] at h1;exact Option.some.inj h1
  exact item_listR pl.isList h0 (1:) (by rw[hj];simpa using ew) fin hs
 ·have hj:(i+(its.toArray.size:Int)).toNat=j:=by
   rw[seqIndex_neg (1:) h4] at h1;rw[List.size_toArray,<-hl];exact Option.some.inj h1
  exact subscriptTail_builtinR (x:=w) pl.isList.typeIs slot_list_getitem.lookup
   (wpAny_getItem_list_neg (Q:=λr s'=>r=w/\EP X pins σ Q r s') pl.isList (1:) (by rw[List.size_toArray]<;>omega) (1:) (by rw[hj];simpa using ew) ⟨rfl,fin⟩) hs
theorem qhe:IxR X (qlM X.K):=by
 intro value slice pins s σ H x y v u Q I rx ry h hs;obtain⟨p,xs,i,z,rfl,rfl,hq,he,q⟩:=h;cases rx;obtain⟨t,rfl⟩:=ry;obtain⟨its,r,pl,hz⟩:=I.tuple hq;obtain⟨j,h1,h2,h3,h4,h5⟩:=Qk he;obtain⟨w,ew,rw'⟩:=r.get h2;have hl:=r.length;have hn:=yu;have fin:EP X pins σ Q w s:=⟨z,H,I,rw',q⟩
 exact subscriptTail_builtinR (x:=w) pl.typeIs slot_tuple_getitem.lookup
  (getItem_tuple (j:=j) (Q:=λr s'=>r=w/\EP X pins σ Q r s') pl (1:) (1:) (by rw[List.size_toArray,<-hl];exact h1) (by simpa using ew) ⟨rfl,fin⟩) hs
theorem qhf:IxR X qlN:=by
 intro value slice pins s σ H x y v u Q I rx ry h hs;obtain⟨z,i,c,rfl,rfl,hz,he,q⟩:=h;obtain⟨t,rfl⟩:=rx;obtain⟨t',rfl⟩:=ry;obtain⟨j,h1,h2,h3,h4,h5⟩:=Qk he;have hl:z.cps.toList.length=z.length:=by simp[Str.length]
 rw[hl] at h1 h4 h5;have hn:=yu
 exact tail_any (typeIs_str s z t) slot_str_getitem.lookup (getItem_str (c:=c) (by have e1:decide (i < -(2 ^ 63:Int))=false:=decide_eq_false (1:);have e2:decide (i≥2 ^ 63)=false:=decide_eq_false (1:);rw[e1,e2,Bool.or_false]) (by rw[h1];simpa using h2) ⟨.str ⟨#[c]⟩,H,I.tok _,⟨_,rfl⟩,q⟩) hs
theorem Z1(its:List Value)(n j:Nat)(u:Value):Obj.mapSeq (·.setIfInBounds j u) { cls:=.type "list",data:=.seq its.toArray n }={ cls:=.type "list",data:=.seq (its.set j u).toArray n }:=by simp[Obj.mapSeq]
theorem Inv.lst{pins:PP}{σ:St}{H:Hp}{s:Shared}{p:Addr}{xs:List V}(I:Inv X pins σ H s)(h:H p=some (.lst xs)) :
  ∃(its:List Value) (n:Nat),qr xs its/\s.heap.get? p=some { cls:=.type "list",data:=.seq its.toArray n }/\xs.length<=sizeLine:=by
 obtain⟨z,its,n,r,e⟩:=I.hok p _ h;exact⟨its,n,r,e,z⟩
theorem Inv.lstUpd{pins:PP}{σ:St}{H:Hp}{s:Shared}{p:Addr}{xs ys:List V}{its its':List Value}{n n':Nat}{f:Obj->Obj}(I:Inv X pins σ H s)(h:H p=some (.lst xs))
  (ho:s.heap.get? p=some { cls:=.type "list",data:=.seq its.toArray n }) (hf:f { cls:=.type "list",data:=.seq its.toArray n }={ cls:=.type "list",data:=.seq its'.toArray n' }) (r:qr ys its') (hz:ys.length<=sizeLine) (t:Nat) :
  Inv X pins σ (upd H p (.lst ys)) { s with heap:=s.heap.update p f,toks:=t }:=by
 have e:(s.heap.update p f).get? p=some { cls:=.type "list",data:=.seq its'.toArray n' }:=by rw[Heap.get?_update_self f ho (by rw[hf]<;>rfl),hf]
 refine I.write (x:=p) (e:=p) (by rw[h];trivial) (.inl rfl) (λb u hb q=>(Heap.get?_update_other _ _ (Ne.symm hb)).trans q) ⟨_,e⟩ ?_;exact⟨hz,its',n',r,e⟩
noncomputable def qka:V->V->V->Hp->(Hp->Prop)->Prop:=λo i v H Q=>∃p xs k j,o=.ref p/\i=.int k/\H p=some (.lst xs)/\ixN xs.length k=some j/\Q (upd H p (.lst (xs.set j v)))
theorem qcQ:qk1 X qka:=by
 intro pins s σ H o i v ov iv u Q I ro ri rv h;obtain⟨p,xs,k,j,rfl,rfl,hp,hj,q⟩:=h;cases ro;obtain⟨t,rfl⟩:=ri;obtain⟨its,n,r,ho,hz⟩:=I.lst hp;obtain⟨h1,h2,h3,h4⟩:=qaR hj;have hl:=r.length;have hn:=yu
 have I':Inv X pins σ (upd H p (.lst (xs.set j v))) { s with heap:=s.heap.update p (Obj.mapSeq (·.setIfInBounds j u)) }:=
  I.lstUpd hp ho (Z1 its n j u) (r.set rv j) (by rw[List.length_set];exact hz) s.toks
 by_cases h0:0<=k
 ·have hk:k.toNat=j:=by
   rw[seqIndex_of h0 h4] at h1;exact Option.some.inj h1
  exact PySem.W.ki_setAt ho h0 (1:) (by rw[List.size_toArray,<-hl];exact h4) (by rw[hk];exact⟨_,I',q⟩)
 ·have hk:(k+(its.toArray.size:Int)).toNat=j:=by
   rw[seqIndex_neg (1:) h3] at h1;rw[List.size_toArray,<-hl];exact Option.some.inj h1
  exact PySem.W.ki_setBack ho (1:) (by rw[List.size_toArray,<-hl];exact h3) (1:) (by rw[hk];exact⟨_,I',q⟩)
theorem Yg(lo hi:Option Int)(n:Nat):(sliceBounds lo hi none n).1=((HT.sIx n 0 lo:Nat):Int)/\(sliceBounds lo hi none n).2.1=((HT.sIx n n hi:Nat):Int)/\(sliceBounds lo hi none n).2.2=1:=by
 refine⟨?_,?_,rfl⟩
 ·cases lo with
  |none=>simp[sliceBounds,HT.sIx]
  |some i=>
   simp only[sliceBounds,HT.sIx,Option.getD_none,show(1:Int) > 0 by decide,if_true]
   by_cases h:i < 0
   ·simp only[h,if_true]<;>omega
   ·simp only[h,if_false]<;>omega
 ·cases hi with
  |none=>simp[sliceBounds,HT.sIx]
  |some i=>
   simp only[sliceBounds,HT.sIx,Option.getD_none,show(1:Int) > 0 by decide,if_true]
   by_cases h:i < 0
   ·simp only[h,if_true]<;>omega
   ·simp only[h,if_false]<;>omega
theorem Jy(its:List Value)(lo hi:Option Int):slicePick its.toArray lo hi none=((its.drop (HT.sIx its.length 0 lo)).take (HT.sIx its.length its.length hi - HT.sIx its.length 0 lo)).toArray:=by obtain⟨h1,h2,h3⟩:=Yg lo hi its.toArray.size;unfold slicePick;rw[h1,h2,h3];simp only[sliceRange_one,pick_run,List.size_toArray]<;>rfl
noncomputable def qlO(K:Frag):V->Option Int->Option Int->Hp->VK->Prop:=λx lo hi H Q=>∃a xs,x=.ref a/\SqL K H a xs/\∀p,H p=none->Q (.ref p) (upd H p (.lst (qgF xs lo hi)))
theorem qe3:SlR X (qlO X.K):=by intro pins s σ H x v vl vu lo hi sl Q I rx hs pl pu h;obtain⟨a,xs,rfl,hx,q⟩:=h;cases rx;obtain⟨its,r,ht,hz⟩:=I.list hx;have hlen:=r.length;refine⟨"list",_,slot_list_getitem.lookup,ht.isList.typeIs,?_⟩;refine wpAny_getItem_list_slice ht.isList hs pl pu .none (by simp) ?_ (by rw[List.size_toArray]<;>omega);rw[Jy,<-hlen];refine⟨.ref s.heap.objs.size,_,I.laid (t':=s.toks) (o:=.lst (qgF xs lo hi)) (λb ob q=>Heap.get?_push_of_some _ q) (Nat.le_refl _) ?_,rfl,q _ (I.hok.fresh (Nat.le_refl _))⟩;exact⟨Nat.le_trans (Qj xs lo hi) hz,_,0,(r.drop (HT.sIx xs.length 0 lo)).take (HT.sIx xs.length xs.length hi - HT.sIx xs.length 0 lo),Heap.get?_push_size _ rfl⟩
def yy:V->Bool
 |.non=>true
 |.bl _=>true
 |.int _=>true
 |.str _=>true
 |_=>false
noncomputable def eqV:V->V->Bool
 |.non,.non=>true
 |.bl a,.bl b=>a == b
 |.bl a,.int b=>(if a then 1 else 0) == b
 |.int a,.bl b=>a == (if b then 1 else 0)
 |.int a,.int b=>a == b
 |.str a,.str b=>a == b
 |_,_=>false
theorem qhg{A:Around}{s:Shared}{y x:V}{u v:Value}(ry:qB y u)(rx:qB x v)(fy:yy y=true)(fx:yy x=true):SeqAt.EqAt A s u v (eqV y x):=by
 cases y with
 |non=>
  cases ry
  cases x with
  |non=>cases rx;exact SeqAt.EqAt.same _
  |bl b=>cases rx;exact SeqAt.EqAt.none_bool b
  |int b=>obtain⟨t,rfl⟩:=rx;exact SeqAt.EqAt.none_int b t
  |str b=>obtain⟨t,rfl⟩:=rx;exact SeqAt.EqAt.none_str b t
  |_=>exact absurd (show false=true from fx) Bool.false_ne_true
 |bl a=>
  cases ry
  cases x with
  |non=>cases rx;exact SeqAt.EqAt.bool_none a
  |bl b=>cases rx;exact SeqAt.EqAt.bool_bool a b
  |int b=>obtain⟨t,rfl⟩:=rx;exact SeqAt.EqAt.bool_int a b t
  |str b=>obtain⟨t,rfl⟩:=rx;exact SeqAt.EqAt.bool_str a b t
  |_=>exact absurd (show false=true from fx) Bool.false_ne_true
 |int a=>
  obtain⟨t',rfl⟩:=ry
  cases x with
  |non=>cases rx;exact SeqAt.EqAt.int_none a t'
  |bl b=>cases rx;exact SeqAt.EqAt.int_bool a t' b
  |int b=>obtain⟨t,rfl⟩:=rx;exact SeqAt.EqAt.int_int a t' b t
  |str b=>obtain⟨t,rfl⟩:=rx;exact SeqAt.EqAt.int_str a t' b t
  |_=>exact absurd (show false=true from fx) Bool.false_ne_true
 |str a=>
  obtain⟨t',rfl⟩:=ry
  cases x with
  |non=>cases rx;exact SeqAt.EqAt.str_none a t'
  |bl b=>cases rx;exact SeqAt.EqAt.str_bool a t' b
  |int b=>obtain⟨t,rfl⟩:=rx;exact SeqAt.EqAt.str_int a t' b t
  |str b=>obtain⟨t,rfl⟩:=rx;exact SeqAt.EqAt.str_str a t' b t
  |_=>exact absurd (show false=true from fx) Bool.false_ne_true
 |_=>exact absurd (show false=true from fy) Bool.false_ne_true
noncomputable def eqU(x:V)(u:Value):Bool:=match u with
 |.none=>eqV .non x
 |.bool b=>eqV (.bl b) x
 |.int i _=>eqV (.int i) x
 |.str z _=>eqV (.str z) x
 |_=>false
theorem qeb{x y:V}{u:Value}(r:qB y u)(f:yy y=true):eqU x u=eqV y x:=by
 cases y with
 |non=>cases r;rfl
 |bl b=>cases r;rfl
 |int i=>obtain⟨t,rfl⟩:=r;rfl
 |str z=>obtain⟨t,rfl⟩:=r;rfl
 |_=>exact absurd (show false=true from f) Bool.false_ne_true
theorem yz{x:V}:∀{xs:List V} {us:List Value},qr xs us->xs.all yy=true->us.any (eqU x)=xs.any λy=>eqV y x
 |_,_,.nil,_=>rfl
 | y::xs,u::us,.cons r t,f=>by rw[List.all_cons,Bool.and_eq_true] at f;rw[List.any_cons,List.any_cons,qeb r f.1,yz t f.2]
theorem jv{A:Around}{s:Shared}{x:V}{v:Value}(rx:qB x v)(fx:yy x=true):∀{xs:List V} {us:List Value},qr xs us->xs.all yy=true->∀u∈us,SeqAt.EqAt A s u v (eqU x u)
 |_,_,.nil,_=>λu hu=>by cases hu
 | y::xs,u::us,.cons r t,f=>λu' hu=>by
  rw[List.all_cons,Bool.and_eq_true] at f;rcases List.mem_cons.mp hu with rfl | hu
  ·rw[qeb r f.1];exact qhg r rx f.1 fx
  ·exact jv rx fx t f.2 u' hu
def inV(x:V)(xs:List V):Bool:=xs.any λy=>eqV y x
noncomputable def rIn(K:Frag)(neg:Bool):R2:=λx y H Q=>∃p xs,y=.ref p/\(SqL K H p xs\/SqT K H p xs)/\yy x=true/\xs.all yy=true/\Q (.bl (if neg then !inV x xs else inV x xs)) H
theorem qaT:OpR X (compareOp .In) (rIn X.K false):=by
 intro pins s σ H x y v u Q I rx ry h;obtain⟨p,xs,rfl,hq,fx,fs,q⟩:=h;cases ry;rcases hq with hq | hq
 ·obtain⟨its,r,pl,hz⟩:=I.list hq;refine SeqAt.in_listAt (eqU x) pl.isList (λw hw=>jv rx fx r fs w (by simpa using hw)) ⟨.bl _,H,I,rfl,?_⟩;rw[show its.toArray.any (eqU x)=its.any (eqU x) by simp,yz r fs];exact q
 ·obtain⟨its,r,pl,hz⟩:=I.tuple hq;refine SeqAt.in_tupleAt (eqU x) pl (λw hw=>jv rx fx r fs w (by simpa using hw)) ⟨.bl _,H,I,rfl,?_⟩;rw[show its.toArray.any (eqU x)=its.any (eqU x) by simp,yz r fs];exact q
theorem Yh:OpR X (compareOp .NotIn) (rIn X.K true):=by
 intro pins s σ H x y v u Q I rx ry h;obtain⟨p,xs,rfl,hq,fx,fs,q⟩:=h;cases ry;rcases hq with hq | hq
 ·obtain⟨its,r,pl,hz⟩:=I.list hq;refine SeqAt.notIn_listAt (eqU x) pl.isList (λw hw=>jv rx fx r fs w (by simpa using hw)) ⟨.bl _,H,I,rfl,?_⟩;rw[show its.toArray.any (eqU x)=its.any (eqU x) by simp,yz r fs];exact q
 ·obtain⟨its,r,pl,hz⟩:=I.tuple hq;refine SeqAt.notIn_tupleAt (eqU x) pl (λw hw=>jv rx fx r fs w (by simpa using hw)) ⟨.bl _,H,I,rfl,?_⟩;rw[show its.toArray.any (eqU x)=its.any (eqU x) by simp,yz r fs];exact q
theorem Yi:qH X (.builtin "len") (λxs H Q=>∃p ys,xs=[.ref p]/\(SqL X.K H p ys\/SqT X.K H p ys)/\Q (.int ys.length) H):=by
 intro pins s σ H xs us Q I r h;obtain⟨p,ys,rfl,hq,q⟩:=h;obtain⟨u,rfl,rx⟩:=jb r;cases rx;have hn:=yu;rcases hq with hq | hq
 ·obtain⟨its,r',pl,hz⟩:=I.list hq;have hlen:=r'.length;exact Calls.call_len_list pl.isList (by simp only[List.size_toArray]<;>omega) ⟨.int ys.length,H,I.tok _,⟨s.toks+1,by rw[List.size_toArray,hlen]⟩,q⟩
 ·obtain⟨its,r',pl,hz⟩:=I.tuple hq;have hlen:=r'.length;exact len_tuple pl (by simp only[List.size_toArray]<;>omega) ⟨.int ys.length,H,I.tok _,⟨s.toks+1,by rw[List.size_toArray,hlen]⟩,q⟩
theorem Yj:qH X (.builtin "len") (λxs H Q=>∃z,xs=[.str z]/\z.length<=sizeLine/\Q (.int z.length) H):=by intro pins s σ H xs us Q I r h;obtain⟨z,rfl,hz,q⟩:=h;obtain⟨u,rfl,t,rfl⟩:=jb r;have hn:=yu;exact len_str (1:) ⟨.int z.length,H,I.tok _,⟨_,rfl⟩,q⟩
theorem Yk:qH X (.type "list") (λxs H Q=>∃p ys,xs=[.ref p]/\(SqL X.K H p ys\/SqT X.K H p ys)/\∀l,H l=none->Q (.ref l) (upd H l (.lst ys))):=by
 intro pins s σ H xs us Q I r h;obtain⟨p,ys,rfl,hq,q⟩:=h;obtain⟨u,rfl,rx⟩:=jb r;cases rx
 have fin:∀(its:List Value),qr ys its->ys.length<=sizeLine->∀(h':Heap) (c':Nat),(∀b o',s.heap.get? b=some o'->h'.get? b=some o')->
   h'.get? s.heap.objs.size=some { cls:=.type "list",dict:=none,data:=.seq its.toArray c',slots:=#[] }->EP X pins σ Q (.ref s.heap.objs.size) { s with heap:=h' }:=λits r' hz h' c' kp e=>
  ⟨.ref s.heap.objs.size,_,I.laid (t':=s.toks) kp (Nat.le_refl _) (show qy X.prog X.w _ h' _ (.lst ys) from⟨hz,its,c',r',e⟩),rfl,q _ (I.hok.fresh (Nat.le_refl _))⟩
 rcases hq with hq | hq
 ·obtain⟨its,r',pl,hz⟩:=I.list hq;have hlen:=r'.length;obtain⟨o,ho,hc,n,hd⟩:=pl.isList;exact call_list_seq p (.inl rfl) ho hc hd (λh' c' kp e=>fin its r' hz h' c' kp e) (by simp only[List.size_toArray]<;>omega)
 ·obtain⟨its,r',pl,hz⟩:=I.tuple hq;have hlen:=r'.length;obtain⟨o,ho,hc,n,hd⟩:=pl;exact call_list_seq p (.inr rfl) ho hc hd (λh' c' kp e=>fin its r' hz h' c' kp e) (by simp only[List.size_toArray]<;>omega)
theorem jw:qH X (.type "tuple") (λxs H Q=>∃p ys,xs=[.ref p]/\((SqL X.K H p ys/\∀l,H l=none->Q (.ref l) (upd H l (.tup ys)))\/(SqT X.K H p ys/\Q (.ref p) H))):=by
 intro pins s σ H xs us Q I r h;obtain⟨p,ys,rfl,h⟩:=h;obtain⟨u,rfl,rx⟩:=jb r;cases rx;rcases h with ⟨hq,q⟩ | ⟨hq,q⟩
 ·obtain⟨its,r',pl,hz⟩:=I.list hq;have hlen:=r'.length;refine call_tuple_list pl.isList (λh' kp=>?_) (by simp only[List.size_toArray]<;>omega);have I1:Inv X pins σ H { s with heap:=h' }:=I.kept (t':=s.toks) kp
  have I2:Inv X pins σ (upd H h'.objs.size (.tup ys)) { s with heap:=h'.push { cls:=.type "tuple",data:=.seq its.toArray } }:=
   I1.laid (t':=s.toks) (λb o e=>Heap.get?_push_of_some _ e) (Nat.le_refl _) (show qy X.prog X.w _ _ _ (.tup ys) from⟨hz,its,r',IsTup.new _ _⟩)
  exact⟨.ref h'.objs.size,_,I2,rfl,q _ (I1.hok.fresh (Nat.le_refl _))⟩
 ·obtain⟨its,r',pl,hz⟩:=I.tuple hq;exact call_tuple_same pl ⟨.ref p,H,I,rfl,q⟩
noncomputable def tyV(K:Frag)(T:String)(x:V)(H:Hp):Prop:=match x with
 |.str _=>T = "str"
 |.int _=>T = "int"
 |.ref p=>(T = "list"/\∃xs,SqL K H p xs)\/(T = "tuple"/\∃o,K.lookup p=some o/\o.cls=.type "tuple"/\o.dict=none)\/
   (T = "dict"/\((∃kvs,H p=some (.dK kvs))\/∃kvs,H p=some (.dT kvs)))\/(T = "set"/\∃S n,H p=some (.set S n))
 |_=>False
theorem qec{pins:PP}{σ:St}{H:Hp}{s:Shared}{T:String}{x:V}{v:Value}(I:Inv X pins σ H s)(r:qB x v)(ty:tyV X.K T x H) :
  s.TypeIs v T/\∀a,v=.ref a->∃ob,s.heap.get? a=some ob/\ob.dict=none:=by
 cases x with
 |str z=>
  obtain⟨t,rfl⟩:=r
  cases (show T = "str" from ty)
  exact⟨typeIs_str s z t,λ_ e=>nomatch e⟩
 |int i=>
  obtain⟨t,rfl⟩:=r
  cases (show T = "int" from ty)
  exact⟨typeIs_int s i t,λ_ e=>nomatch e⟩
 |ref p=>
  cases r;rcases ty with ⟨rfl,xs,hq⟩ | ⟨rfl,o,hk,hc,hd⟩ | ⟨rfl,hk⟩ | ⟨rfl,S,n,hk⟩
  ·obtain⟨its,_,pl,_⟩:=I.list hq;refine⟨pl.isList.typeIs,λa e=>?_⟩;cases e;obtain⟨o,n,e,c,hd,_⟩:=pl;exact⟨o,e,hd⟩
  ·refine⟨⟨o,I.kIn p o hk,hc⟩,λa e=>?_⟩;cases e;exact⟨o,I.kIn _ o hk,hd⟩
  ·have z:∃o,s.heap.get? p=some o/\o.ExactDict:=by
    rcases hk with ⟨kvs,hk⟩ | ⟨kvs,hk⟩
    ·obtain⟨_,_,_,_,o,_,_,e,ex,_⟩:=I.hok p _ hk;exact⟨o,e,ex⟩
    ·obtain⟨_,_,_,_,o,_,_,e,ex,_⟩:=I.hok p _ hk;exact⟨o,e,ex⟩
   obtain⟨o,e,ex⟩:=z;refine⟨⟨o,e,ex.1⟩,λa e2=>?_⟩;cases e2;exact⟨o,e,ex.2.1⟩
  ·obtain⟨o,_,_,_,e,ex,_⟩:=I.hok p _ hk;refine⟨⟨o,e,ex.1⟩,λa e2=>?_⟩;cases e2;exact⟨o,e,ex.2.1⟩
 |_=>exact False.elim ty
noncomputable def qlP(K:Frag)(T:String)(r:V->List V->Hp->VK->Prop)(to:TE):TE:=λσ H Q=>to σ H λx H1=>tyV K T x H1/\r x [] H1 Q
noncomputable def tBM(K:Frag)(T:String)(r:V->List V->Hp->VK->Prop)(to:TE)(t:TA):TE:=λσ H Q=>to σ H λx H1=>tyV K T x H1/\t σ H1 λxs H2=>r x xs H2 Q
variable{o e:Expr}{es:List Expr}{to:TE}{t:TA}{name:Str}{apos cpos:Pos}{T id:String}{r:V->List V->Hp->VK->Prop}
theorem qhh(pa:PlainAttrs T)(slot:Slot T name id)(hty:typeOf (.builtin id)=pure (.type "method_descriptor"))(hm:MtR X id r)(ho:PE X o to)
  (hbase:attributeBase o name X.env (eval o X.env)=eval o X.env:=by rfl) (hline:(apos.endLine == cpos.line)=true:=by rfl):PE X (.Call (.Attribute o name apos) [] [] cpos) (qlP X.K T r to):=by
 intro pins s σ H Q I h;refine wpAny_Call_method0_late hbase hline (thn (ho pins s σ H _ I h) λv s1 hq1=>?_);obtain⟨x,H1,I1,r1,ty,q1⟩:=hq1;obtain⟨h1,h2⟩:=qec I1 r1 ty;exact⟨T,id,pa,slot,hty,h1,h2,Calls.callWith_builtin rfl (PySem.evalArgs_none (hm pins s1 σ H1 x [] v [] Q I1 r1 .nil q1))⟩
theorem qcR(pa:PlainAttrs T)(slot:Slot T name id)(hty:typeOf (.builtin id)=pure (.type "method_descriptor"))(hm:MtR X id r)(ho:PE X o to)(ha:PA X (e::es) t)
  (hbase:attributeBase o name X.env (eval o X.env)=eval o X.env:=by rfl)
  (hfew:((backTo cpos (starEach (e::es) X.env)).all (λx=>!x.1)&&(backToKw cpos (keywordEach [] X.env)).all (λx=>x.1.isSome)
   && decide ((e::es).length+([]:List Keyword).length+(if ([]:List Keyword).isEmpty then 0 else 1) < 30))=true:=by rfl)
  (hline:(apos.endLine == cpos.line)=true:=by rfl) (hs:starEach (e::es) X.env=(false,eval e X.env)::starEach es X.env:=by rfl) (hplain:(backTo cpos (starEach es X.env)).any (·.1)=false:=by rfl) :
  PE X (.Call (.Attribute o name apos) (e::es) [] cpos) (tBM X.K T r to t):=by
 intro pins s σ H Q I h;refine wpAny_Call_method_late hbase hfew hline rfl (thn (ho pins s σ H _ I h) λv s1 hq1=>?_);obtain⟨x,H1,I1,r1,ty,q1⟩:=hq1;obtain⟨h1,h2⟩:=qec I1 r1 ty;refine⟨T,id,pa,slot,hty,h1,h2,?_⟩;have hA:=ha cpos pins s1 σ H1 _ I1 q1;rw[hs] at hA ⊢;refine Calls.callWith_builtin (by show(false||(backTo cpos (starEach es X.env)).any (·.1))=false;rw[hplain]<;>rfl) (Calls.evalArgs_plain ?_);exact thn hA λus s2 ⟨vs,H2,I2,r2,q2⟩=>hm pins s2 σ H2 x vs v us Q I2 r1 r2 q2
end
end L2
namespace L2
open PySem PySem.Spec PyProof.Rows
noncomputable def MtM(X:Cx)(id:String)(r:V->List V->Hp->VK->Prop):Prop:=
 ∀(pins:PP) (s:Shared) (σ:St) (H:Hp) (x:V) (xs:List V) (v:Value) (us:List Value) (Q:VK),Inv X pins σ H s->qB x v->qr xs us->r x xs H Q->
  wpAny (model X.prog X.w) X.A (call (.builtin id) (v::us)) (EP X pins σ Q) X.xe s
theorem qr.one:∀{x:V} {us:List Value},qr [x] us->∃u,us=[u]/\qB x u
 |_,_,.cons r .nil=>⟨_,rfl,r⟩
theorem qr.zero:∀{us:List Value},qr [] us->us=[]
 |_,.nil=>rfl
theorem qr.reverse{xs:List V}{us:List Value}(h:qr xs us):qr xs.reverse us.reverse:=by
 induction h with
 |nil=>exact .nil
 |cons r t ih=>rw[List.reverse_cons,List.reverse_cons];exact qr.append ih %[r|0]
theorem qr.rep{xs:List V}{us:List Value}(h:qr xs us):∀k:Nat,qr (List.replicate k xs).flatten (List.replicate k us).flatten
 |0=>.nil
 | k+1=>by rw[List.replicate_succ,List.replicate_succ,List.flatten_cons,List.flatten_cons];exact qr.append h (qr.rep h k)
theorem Yl(its:List Value):∀(k:Nat) (acc:List Value),
  List.foldl (λx1 x2=>x1++x2) acc.toArray (List.replicate k its.toArray)=(acc++(List.replicate k its).flatten).toArray
 |0,acc=>by simp
 | k+1,acc=>by
  have e:acc.toArray++its.toArray=(acc++its).toArray:=by simp
  have e2:(acc++its)++(List.replicate k its).flatten=acc++(List.replicate (k+1) its).flatten:=by rw[List.replicate_succ,List.flatten_cons,List.append_assoc]
  rw[<-e2,<-Yl its k (acc++its),<-e,List.replicate_succ,List.foldl_cons]
section
variable{X:Cx}{pins:PP}{σ:St}{H:Hp}{s:Shared}{l b:Addr}{xs ys zs:List V}
theorem Inv.lset{its its':List Value}{n:Nat}{f:Array Value->Array Value}{t':Nat}(I:Inv X pins σ H s)(hH:H l=some (.lst xs))
  (e:s.heap.get? l=some { cls:=.type "list",data:=.seq its.toArray n }) (hf:f its.toArray=its'.toArray) (hv:qr ys its') (hz:ys.length<=sizeLine) :
  Inv X pins σ (upd H l (.lst ys)) { s with heap:=s.heap.update l (Obj.mapSeq f),toks:=t' }:=by
 have q:=PySem.IsL.update e f;rw[hf] at q;refine I.write (x:=l) (e:=l) (by rw[hH];exact trivial) (.inl rfl) (λb' u hb hu=>(Heap.get?_update_other s.heap (Obj.mapSeq f) (Ne.symm hb)).trans hu) ⟨_,q⟩ ?_;exact⟨hz,its',_,hv,q⟩
theorem Inv.lnew{its:List Value}{t':Nat}(I:Inv X pins σ H s)(hv:qr ys its)(hz:ys.length<=sizeLine) :
  Inv X pins σ (upd H s.heap.objs.size (.lst ys)) { s with heap:=s.heap.push { cls:=.type "list",data:=.seq its.toArray },toks:=t' }:=
 I.laid (λ_ _ q=>Heap.get?_push_of_some _ q) (Nat.le_refl _) ⟨hz,its,0,hv,Heap.get?_push_size _ rfl⟩
theorem Inv.fresh(I:Inv X pins σ H s):H s.heap.objs.size=none:=I.hok.fresh (Nat.le_refl _)
theorem Inv.lstM(I:Inv X pins σ H s)(hH:H l=some (.lst xs)):xs.length<=sizeLine/\∃(its:List Value) (n:Nat),qr xs its/\xs.length=its.length/\s.heap.get? l=some { cls:=.type "list",data:=.seq its.toArray n }:=by obtain⟨z,its,n,r,e⟩:=I.hok l _ hH;exact⟨z,its,n,r,r.length,e⟩
theorem Q9{n:Nat}(h:n<=sizeLine):Builtin.List.listTooLong n=false:=by unfold Builtin.List.listTooLong;exact decide_eq_false (1:)
end
section
variable{X:Cx}
noncomputable def qe4:V->List V->Hp->VK->Prop:=λx vs H Q=>∃l xs y,x=.ref l/\vs=[y]/\H l=some (.lst xs)/\xs.length < sizeLine/\Q .non (upd H l (.lst (xs++[y])))
theorem qaU:MtM X "list.append" qe4:=by intro pins s σ H x vs v us Q I rx rv h;obtain⟨l,xs,y,rfl,rfl,hH,hz,q⟩:=h;cases rx;obtain⟨u,rfl,ru⟩:=rv.one;obtain⟨z,its,n,r,hl,e⟩:=I.lstM hH;refine call_meets F.slot_list_append ⟨_,e,rfl⟩ F.entry_list_append (F.args_list_append_2 _ _) (PySem.list_append l its.toArray n u (by rw[List.size_toArray];omega)) ⟨e,?_⟩;refine⟨.non,_,I.lset (its':=its++[u]) hH e (by simp) (r.append %[ru|0]) ?_,rfl,q⟩;rw[List.length_append,List.length_singleton];omega
noncomputable def qe5:V->List V->Hp->VK->Prop:=λx vs H Q=>∃l b xs zs,x=.ref l/\vs=[.ref b]/\H l=some (.lst xs)/\H b=some (.lst zs)/\xs.length+zs.length<=sizeLine/\Q .non (upd H l (.lst (xs++zs)))
theorem qaV:MtM X "list.extend" qe5:=by
 intro pins s σ H x vs v us Q I rx rv h;obtain⟨l,b,xs,zs,rfl,rfl,hH,hB,hz,q⟩:=h;cases rx;obtain⟨u,rfl,ru⟩:=rv.one;cases ru;obtain⟨z,its,n,r,hl,e⟩:=I.lstM hH;obtain⟨z2,its2,n2,r2,hl2,e2⟩:=I.lstM hB;have hsz:its.toArray.size+its2.toArray.size<=sizeLine:=by rw[List.size_toArray,List.size_toArray];omega
 have hlong:¬ (!its.toArray.isEmpty&&Builtin.List.listTooLong (its.toArray.size+its2.toArray.size))=true:=by rw[Q9 hsz,Bool.and_false];exact Bool.false_ne_true
 refine call_meets F.slot_list_extend ⟨_,e,rfl⟩ F.entry_list_extend (F.args_list_extend_2 _ _)
  (AutoSeq1.list_extend_list_list_0 l its.toArray n b its2.toArray n2 hlong (by rw[List.size_toArray];omega) (1:)) ⟨e,e2,?_⟩
 refine⟨.non,_,I.lset (its':=its++its2) hH e (by simp) (r.append r2) ?_,rfl,q⟩;rw[List.length_append];omega
noncomputable def qhi:V->List V->Hp->VK->Prop:=λx vs H Q=>∃l xs,x=.ref l/\vs=[]/\H l=some (.lst xs)/\Q .non (upd H l (.lst []))
theorem qcS:MtM X "list.clear" qhi:=by intro pins s σ H x vs v us Q I rx rv h;obtain⟨l,xs,rfl,rfl,hH,q⟩:=h;cases rx;have hus:=rv.zero;subst hus;obtain⟨z,its,n,r,hl,e⟩:=I.lstM hH;refine call_meets F.slot_list_clear ⟨_,e,rfl⟩ F.entry_list_clear (F.args_list_clear_1 _) (AutoSeq1.list_clear_list_0 l its.toArray n (by rw[List.size_toArray];omega)) ⟨e,?_⟩;exact⟨.non,_,I.lset (its':=[]) (ys:=[]) hH e rfl .nil (Nat.zero_le _),rfl,q⟩
noncomputable def qlQ:R2:=λx y H Q=>∃l b xs zs,x=.ref l/\y=.ref b/\H l=some (.lst xs)/\H b=some (.lst zs)/\xs.length+zs.length<=sizeLine/\∀p,H p=none->Q (.ref p) (upd H p (.lst (xs++zs)))
theorem qhj:OpR X (binaryOp .Add) qlQ:=by
 intro pins s σ H x y v u Q I rx ry h;obtain⟨l,b,xs,zs,rfl,rfl,hH,hB,hz,q⟩:=h;cases rx;cases ry;obtain⟨z,its,n,r,hl,e⟩:=I.lstM hH;obtain⟨z2,its2,n2,r2,hl2,e2⟩:=I.lstM hB;refine PySem.P.add_list e e2 ?_ (by rw[List.size_toArray,List.size_toArray];omega);have ea:its.toArray++its2.toArray=(its++its2).toArray:=by simp
 rw[ea];exact⟨.ref _,_,I.lnew (t':=s.toks) (r.append r2) (by rw[List.length_append];omega),rfl,q _ I.fresh⟩
noncomputable def qlR:R2:=λx y H Q=>∃l k xs,x=.ref l/\y=.int k/\H l=some (.lst xs)/\-(2 ^ 63)<=k/\k < 2 ^ 63/\xs.length * k.toNat<=sizeLine/\
 ∀p,H p=none->Q (.ref p) (upd H p (.lst (List.replicate k.toNat xs).flatten))
theorem qe6{α:Type}(xs:List α)(k:Nat):(List.replicate k xs).flatten.length=k * xs.length:=by
 induction k with
 |zero=>simp
 |succ k ih=>rw[List.replicate_succ,List.flatten_cons,List.length_append,ih,Nat.succ_mul,Nat.add_comm]
theorem qhk:OpR X (binaryOp .Mult) qlR:=by
 intro pins s σ H x y v u Q I rx ry h;obtain⟨l,k,xs,rfl,rfl,hH,h1,h2,hz,q⟩:=h;cases rx;obtain⟨t,rfl⟩:=ry;obtain⟨z,its,n,r,hl,e⟩:=I.lstM hH;have hlen:its.toArray.size * k.toNat<=sizeLine:=by rw[List.size_toArray,<-hl];exact hz
 have hcap:¬ its.toArray.size * k.toNat > (2 ^ 63 - 1) / 8:=by
  have:(sizeLine:Nat)<=(2 ^ 63 - 1) / 8:=by decide
  omega
 have hfit:¬ (!Builtin.List.listFitsIndex k)=true:=by rw[fitsIndex_both h1 h2];exact Bool.false_ne_true
 have hlong:¬ Builtin.List.listTooLong (its.toArray.size * k.toNat)=true:=by rw[Q9 hlen];exact Bool.false_ne_true
 have hnew:List.foldl (λx1 x2=>x1++x2) #[] (List.replicate (if its.toArray.isEmpty=true then 0 else k.toNat) its.toArray)=(List.replicate k.toNat its).flatten.toArray:=by
  have f0:∀m:Nat,List.foldl (λx1 x2=>x1++x2) #[] (List.replicate m its.toArray)=(List.replicate m its).flatten.toArray:=λm=>by
   have:=Yl its m []
   rw[List.nil_append] at this;exact this
  rw[f0]
  cases its with
  |nil=>simp
  | cons a r'=>rw[if_neg (by simp)]
 refine wpAny_binaryOp_repeat_ref (T:="list") (U:="int") (2:) ⟨_,e,rfl⟩ (λs'=>typeIs_int s' k t) noFill_list_mul F.fills_int_mul F.slot_int_rmul repeat_list F.slot_int_index.lookup
  (call_meets F.slot_int_rmul (typeIs_int s k t) F.entry_int_rmul (F.args_int_rmul_2 _ _) (int___rmul___int_list k t l its.toArray n)
   ⟨e,rfl,⟨_,e,rfl⟩,call_meets F.slot_list_mul ⟨_,e,rfl⟩ F.entry_list_mul (F.args_list_mul_2 _ _) (AutoListH.list___mul___list_int_3 l its.toArray n k t hfit hcap hlong) ⟨e,?_⟩⟩)
 rw[hnew];exact⟨.ref _,_,I.lnew (t':=s.toks) (r.rep k.toNat) (by rw[qe6,Nat.mul_comm];exact hz),rfl,q _ I.fresh⟩
end
end L2
namespace Att
open PySem PySem.W PySem.Calls PyProof.Rows
theorem yA{P:Params}{h:Heap}:∀(ns:List Int) (vs:List Value),WellAll P h vs (ns.map WData.int)->IntsAre vs ns:=by
 intro ns
 induction ns with
 |nil=>intro vs w;rw[List.map_nil] at w;cases w;exact .nil
 |cons n ns ih=>
  intro vs w;rw[List.map_cons] at w
  cases w with
  |cons a b=>cases a;exact .cons _ _ (ih _ b)
theorem qaW{l:OpenLaw}{n:Nat}(hn:l.most=some n){P:Params}{h:Heap}{args:List WData}{vals:List Value}
  (hpre:l.row.toRowW.claim.pre args=true) (hwl:WellAll P h vals args) :
  ∃a vs ns,vals=[Value.ref a]/\args=[WData.list (ns.map WData.int)]/\h.get? a=some { cls:=.type "list",data:=.seq vs.toArray }/\IntsAre vs ns/\ns.length<=n:=by
 have hsh:WShape.hasAll [] args [.list .int]=true:=(pre_splitW hpre).1;have hc:l.pre.holds [] { args:=args }=true:=(pre_splitW hpre).2;obtain⟨d,r,rfl,h1,h2⟩:=hasAllW_cons hsh;obtain rfl:=hasAllW_nil h2;obtain⟨xs,rfl,h3⟩:=hasW_list h1;obtain⟨ns,rfl⟩:=items_int h3
 have hlen:ns.length<=n:=by
  unfold OpenLaw.pre at hc
  have h4:(WTm.not (.lt (.lit (.int (n:Int))) (.len (.arg 0)))).holds [] { args:=[.list (ns.map .int)] }=true:=by have h4:=(holds_andW hc).1;rw[hn] at h4;exact h4
  have h5:=condW_of h4 (w_not (w_lt w_lit (w_len_list (w_arg rfl))));rw[List.length_map] at h5;refine Nat.le_of_not_lt λq=>?_;have q':(n:Int) < ((ns.length:Nat):Int):=by omega
  first
   | (rw[decide_eq_true q'] at h5;exact absurd h5 (2:))
   | (simp at h5;omega)
 cases hwl with
 |cons w1 w2=>
  cases w2
  cases w1 with
  |list ho hall=>exact⟨_,_,ns,rfl,rfl,ho,yA ns _ hall,hlen⟩
theorem qaX(l:OpenLaw)(args:List WData):l.row.toRowW.claim.post args (.bool true) args=true:=
 postW_of (r:=l.row.toRowW) (X:=(true == true))
  (show WShape.has [] (.bool true) .bool=true by first | rfl | decide | simp[WShape.has,WShape.arms,WShape.armsAll])
  (show(WTm.eq .res (.lit (.bool true))).value [] { args:=args,res:=some (.bool true),after:=args }=some (.bool (true == true)) from w_eq_bool (w_res rfl) w_lit) rfl
theorem Ql{l:OpenLaw}{n:Nat}{q:Program}{loose:List Str}{XP:(Str->Option Value)->Heap->Prop}{YP:World->Heap->Prop}{d:DefRec}
  (hn:l.most=some n) (hdf:d.params.defaults=[])
  (call:∀(w:World) (s₀ s₁:Shared) (mg mb:PR) (fa:Addr) (o:Obj) (pm cd doc:Value) (a:Addr) (vs:List Value) (ns:List Int),
   Ground q loose [] XP w s₀ mg mb s₁.heap->YP w s₁.heap->
   s₁.heap.get? fa=some o->o.data=.func (docDef d.name d.params d.body d.scope pm cd doc)->s₁.heap.CodeRec cd d.name->mg d.name=some (.ref fa)->
   s₁.heap.get? a=some { cls:=.type "list",data:=.seq vs.toArray }->IntsAre vs ns->ns.length<=n->s₁.gens=#[]->
   codeAny (model l.prog w) callerA (.call (.ref fa) ⟨[.ref a],[]⟩) (λr s'=>r=.ok (.ret (.bool true))/\OldK s₁.heap s'.heap/\s'.os=s₁.os/\AllBare s'.gens) s₁) :
  WalkO q loose XP YP l.row.toRowW d [] (λf vs=>PySem.call f vs):=by
 intro w s₀ s₁ mg mb G Y fa o pm cd doc dV kV ho hd hcd hD hmg hg args vals as hpre hlay hrd hwl hlo;obtain rfl:dV=.none:=Dflts.none hD hdf;obtain rfl:kV=.none:=Dflts.noKw hD;obtain⟨a,vs,ns,rfl,rfl,hobj,hints,hlen⟩:=qaW hn hpre hwl;refine enter_call (codeAny_mono (call w s₀ s₁ mg mb fa o pm cd doc a vs ns G Y ho (fd_plain hd) hcd hmg hobj hints hlen hg) λr s' hq=>?_);obtain⟨rfl,h2,h3,h4⟩:=hq;exact⟨.inl ⟨.bool true,.bool true,[],rfl,λ_=>rfl,.bool true,qaX l _,λ_=>⟨List.Pairwise.nil,λ_ hm=>(nomatch hm)⟩⟩,h2,h3,h4⟩
end Att
namespace L2
open PySem PySem.Spec PyProof.Rows
theorem Ym:∀{vs:List Value} {ns:List Int},IntsAre vs ns->qr (ns.map V.int) vs
 |_,_,.nil=>.nil
 |_,_,.cons n t h=>.cons ⟨t,rfl⟩ (Ym h)
def qkb(H:Hp):Prop:=∀b,H b=none\/∃o xs,H b=some (.frz o (.lst xs))
theorem qcT{P:Program}{w:World}{K:Frag}{mg mb:PR}{CX:CXT}{k:Nat}{fa a:Addr}{fd:FuncData}{x:Str}{sp:Sp}{s₁:Shared}{vs:List Value}{ns:List Int}
  (KX:K.In s₁.heap) (hns:s₁.heap.Ns mainGlobals mg) (hb:s₁.heap.Ns builtinsNs mb) (hbb:∀x:Str,x≠"__name__"->mb x=bootBuiltins x) (hlim:s₁.heap.NoLimit) (hg:s₁.gens=#[])
  (ha:s₁.heap.get? a=some { cls:=.type "list",data:=.seq vs.toArray }) (hi:IntsAre vs ns) (hl:ns.length<=sizeLine) (hr:Room k callerA)
  (F:∀base:Heap,K.In base->base.Ns mainGlobals mg->FnOk P w K mg base CX k fa fd [x] sp) (hbind:∀(s:Shared) (u:Value),BindsTo s fd ⟨[u],[]⟩ [(x,u)])
  (hsp:∀H:Hp,qkb H->SqL K H a (ns.map V.int)->sp [.ref a] H (λv _=>v=.bl true) λ_ _ _=>False)
  (hCX:∀H e s',CX [] H s₁ (λ_ _ _=>False) e s'->False) :
  codeAny (model P w) callerA (.call (.ref fa) ⟨[.ref a],[]⟩) (λr s'=>r=.ok (.ret (.bool true))/\OldK s₁.heap s'.heap/\s'.os=s₁.os/\AllBare s'.gens) s₁:=by
 have rv:=Ym hi;have lenV:=hi.length
 have core:∀H:Hp,qkb H->SqL K H a (ns.map V.int)->HOk P w H s₁.heap->(∀b,H b≠none->b=a)->(H a≠none->K.lookup a=none)->
   codeAny (model P w) callerA (.call (.ref fa) ⟨[.ref a],[]⟩) (λr s'=>r=.ok (.ret (.bool true))/\OldK s₁.heap s'.heap/\s'.os=s₁.os/\AllBare s'.gens) s₁:=by
  intro H hO hS hok hA hK;have base_of:∀{b:Addr} {o:Obj},s₁.heap.get? b=some o->H b=none->(qcz s₁.heap H).get? b=some o:=λe n=>qcA e n
  have noA:∀{b:Addr} {o:Obj} {es:Array DictEntry} {ep:Nat},s₁.heap.get? b=some o->o.data=.dict es ep->H b=none:=λ{b o es ep} e d=>by
   cases q:H b with
   |none=>rfl
   |some u=>have e':b=a:=hA b (by rw[q];simp);subst e';rw[ha] at e;cases e;have d':Data.seq vs.toArray _=Data.dict es ep:=d;cases d'
  have nsK:∀{b:Addr} {m:PR},s₁.heap.Ns b m->(qcz s₁.heap H).Ns b m:=λ{b m} ⟨o,es,ep,e,d,r⟩=>⟨o,es,ep,base_of e (noA e d),d,r⟩
  have hKb:K.In (qcz s₁.heap H):=λb o e=>base_of (KX b o e) (by
   cases q:H b with
   |none=>rfl
   |some u=>have e':b=a:=hA b (by rw[q];simp);subst e';rw[hK (by rw[q];simp)] at e;cases e)
  have hM:Mod K mg (qcz s₁.heap H):=⟨hKb,nsK hns,⟨mb,nsK hb,hbb⟩,let ⟨mc,h1,h2⟩:=hlim;⟨mc,nsK h1,h2⟩⟩;have e0:Env0 P w K mg (qcz s₁.heap H) callerA [] s₁ H:=⟨rfl,hM,λb o e=>qeL e,Nat.le_of_eq (qaC _ _),trivial,λb hb=>absurd (show b∈([]:List Addr) from hb) (by simp),hok,.of_eq hg⟩;refine codeAny_mono ((F _ hKb (nsK hns)).run callerA [] s₁ H ⟨[.ref a],[]⟩ [.ref a] [.ref a] _ _ hr e0 (hbind s₁ (.ref a)) %[rfl|0] (hsp H hO hS)) λr s' h=>?_
  cases r with
  |error e=>exact(hCX H e s' h).elim
  |ok fl=>
   cases fl with
   |next=>exact False.elim h
   |brk=>exact False.elim h
   |cont=>exact False.elim h
   |ret u=>
    obtain⟨v,H',os,bare,un,hok',r',q⟩:=h;have q':v=.bl true:=q;subst q';obtain rfl:u=Value.bool true:=r';refine⟨rfl,OldK.of_keep λb o e=>?_,os,bare⟩
    cases q:H b with
    |none=>exact un.keep b o e q (by intro z;exact absurd (show b∈([]:List Addr) from z) (by simp)) (by simp)
    |some u=>
     rcases hO b with z | ⟨ob,xs,z⟩
     ·rw[q] at z;cases z
     ·have z2:=un.frzs b ob _ z;obtain⟨e1,_⟩:=hok b _ z;obtain⟨e2,_⟩:=hok' b _ z2;rw[e] at e1;cases e1;exact e2
 cases hk:K.lookup a with
 |some o=>have e:=KX a o hk;rw[ha] at e;cases e;refine core (λ_=>none) (λ_=>.inl rfl) (.inr ⟨_,vs.toArray,_,hk,rfl,rfl,rfl,by rw[List.size_toArray,lenV];exact hl,by simpa using rv⟩) (λb u z=>by have z':(none:Option HO)=some u:=z;cases z') (λb z=>absurd rfl z) λz=>absurd rfl z
 |none=>
  refine core (λb=>if b=a then some (.frz { cls:=.type "list",data:=.seq vs.toArray } (.lst (ns.map V.int))) else none) (λb=>?_) (.inl (.inr ⟨{ cls:=.type "list",data:=.seq vs.toArray },if_pos rfl⟩)) (λb u z=>?_) (λb z=>?_) λ_=>hk
  ·by_cases hb:b=a
   ·exact .inr ⟨_,_,if_pos hb⟩
   ·exact .inl (if_neg hb)
  ·by_cases hb:b=a
   ·have z':=(if_pos hb).symm.trans z;cases z';subst hb;exact⟨ha,by rw[List.length_map];exact hl,vs,_,rv,ha⟩
   ·have z':=(if_neg hb).symm.trans z;cases z'
  ·by_cases hb:b=a
   ·exact hb
   ·exact absurd (if_neg hb) z
end L2
namespace L2
open PySem PySem.Spec PyProof.Rows
theorem qe7{l:PySem.W.OpenLaw}{n k:Nat}{q:Program}{loose:List Str}{XP:(Str->Option Value)->Heap->Prop}{YP:World->Heap->Prop}{d:DefRec}{K:Params->Frag}{CX:World->CXT}{sp:World->Sp}{x:Str}
  (hn:l.most=some n) (hn2:n<=sizeLine) (hdf:d.params.defaults=[]) (hr:Room k callerA)
  (hY:∀(w:World) (h:Heap),YP w h->(K w.params).In h)
  (F:∀(w:World) (mg:PR) (fa:Addr) (h:Heap),(K w.params).In h->h.Ns mainGlobals mg->mg d.name=some (.ref fa)->
   ∃fd:FuncData,(∀(s:Shared) (u:Value),BindsTo s fd ⟨[u],[]⟩ [(x,u)])/\
    ∀base:Heap,(K w.params).In base->base.Ns mainGlobals mg->FnOk l.prog w (K w.params) mg base (CX w) k fa fd [x] (sp w))
  (hsp:∀(w:World) (H:Hp) (a:Addr) (ns:List Int),ns.length<=n->qkb H->SqL (K w.params) H a (ns.map V.int)->sp w [.ref a] H (λv _=>v=.bl true) λ_ _ _=>False)
  (hCX:∀(w:World) (H:Hp) (s:Shared) (e:Value) (s':Shared),CX w [] H s (λ_ _ _=>False) e s'->False) :
  PySem.W.WalkO q loose XP YP l.row.toRowW d [] (λf vs=>PySem.call f vs):=by
 refine Att.Ql hn hdf λw s₀ s₁ mg mb fa o pm cd doc a vs ns G Y ho hd hcd hmg hobj hints hlen hg=>?_;have KX:=hY w _ Y;obtain⟨fd,hb,hF⟩:=F w mg fa _ KX G.T.g hmg;exact qcT KX G.T.g G.T.b G.T.builtins G.T.nolimit hg hobj hints (Nat.le_trans hlen hn2) hr hF hb (λH hO hS=>hsp w H a ns hlen hO hS) λH e s'=>hCX w H s₁ e s'
end L2
namespace L2
open PySem PySem.Spec PyProof.Rows
noncomputable def qV(s:Stmt):Arguments:=match s with
 |.FunctionDef _ a _ _ _ _ _ _ _ _=>a
 |_=>{ posonlyargs:=[],args:=[],vararg:=none,kwonlyargs:=[],kw_defaults:=[],kwarg:=none,defaults:=[] }
def qt(s:Stmt):List Stmt:=match s with
 |.FunctionDef _ _ b _ _ _ _ _ _ _=>b
 |_=>[]
noncomputable def qk(s:Stmt):Scope:=match s with
 |.FunctionDef _ _ _ _ _ _ sc _ _ _=>sc
 |_=>{ kind:=.function,names:=[],isGenerator:=false,isCoroutine:=false }
abbrev CX0:CXT:=λ_ _ _ _ _ _=>False
abbrev E0:XK:=λ_ _ _=>False
theorem jl{X:Cx}:zM CX0 X E0:=λ_ _ _ _ _ _ _ h=>h.elim
structure Fun(K:Frag)(x qual:Str)(st:Stmt)(f:Addr)(fd:FuncData):Prop where
 ex:∃(oc:Value) (od:Option Addr) (kV doc pm:Value) (an:Option Addr) (cdv ct:Value) (osl:Array (Option Value)),
  fd=PySem.W.fnOf x qual (qV st) (qt st) (qk st) .none kV doc pm an cdv ct/\K.lookup f=some ⟨oc,od,.func fd,osl⟩/\PySem.W.codeIn K cdv qual=true
 kp:PySem.W.keepIn K (.ref f)=true
section
variable{P:Program}{w:World}{K:Frag}{mg:PR}{base:Heap}
theorem Fun.ok{x qual:Str}{st:Stmt}{f:Addr}{fd:FuncData}{N ps:List Str}{k:Nat}{sp:Sp}(F:Fun K x qual st f fd)(S:FnScope N ps (qk st))(len:∀vs H Q E,sp vs H Q E->vs.length=ps.length)
  (hbody:∀(cdv:Value) (A:Around) (outer:List Env) (s:Shared) (H:Hp) (vs:List V) (Q:VK) (E:XK),Room k (A.deeper (envOfC qual (qk st) s.heap.objs.size f cdv))->sp vs H Q E->
   ∃t,PSs (Q7 CX0 P w K mg base N qual (qk st) f cdv A outer s H E).nox (qt st) t/\t { nx:=λ_ H'=>Q .non H',rt:=Q } (j5 N vs) H):FnOk P w K mg base CX0 (k+1) f fd ps sp:=by
 obtain⟨oc,od,kV,doc,pm,an,cdv,ct,osl,rfl,lk,hcd⟩:=F.ex;refine qhd lk hcd S len λA outer s H vs Q E hr hsp=>?_;obtain⟨t,h,q⟩:=hbody cdv A outer s H vs Q E hr hsp;exact⟨t,h.nox,q⟩
theorem Fun.binds{x qual:Str}{st:Stmt}{f:Addr}{fd:FuncData}{ps:List Str}(F:Fun K x qual st f fd)
  (h:∀(kV doc pm:Value) (an:Option Addr) (cdv ct:Value) (us:List Value),us.length=ps.length->bindArgs (PySem.W.fnOf x qual (qV st) (qt st) (qk st) .none kV doc pm an cdv ct) ⟨us,[]⟩=pure (ps.zip us)):qI K fd ps []:=by
 obtain⟨oc,od,kV,doc,pm,an,cdv,ct,osl,rfl,lk,hcd⟩:=F.ex;exact .all (h kV doc pm an cdv ct)
theorem qed{x qual:Str}{st:Stmt}{f:Addr}{oc:Value}{od an:Option Addr}{osl:Array (Option Value)}{kV doc pm cdv ct:Value}(l:K.lookup f=some ⟨oc,od,.func (PySem.W.fnOf x qual (qV st) (qt st) (qk st) .none kV doc pm an cdv ct),osl⟩)
  (c:PySem.W.codeIn K cdv qual=true) (k:PySem.W.keepIn K (.ref f)=true):Fun K x qual st f (PySem.W.fnOf x qual (qV st) (qt st) (qk st) .none kV doc pm an cdv ct):=⟨⟨oc,od,kV,doc,pm,an,cdv,ct,osl,rfl,l,c⟩,k⟩
end
theorem Yn{n:Nat}(h:n<=1000):n < sizeLine:=Nat.lt_of_le_of_lt h (2:)
section
variable{X:Cx}
theorem pv(i:Nat){x:Str}{pos:Pos}(hN:X.N[i]?=some x:=by rfl)(hv:Vis X.env.scope x:=by first | exact Or.inl rfl | exact Or.inr (Or.inl rfl) | exact Or.inr (Or.inr rfl))(hd:(x == ("__debug__" : Str))=false:=by decide)
  (hcd:(x == ("__classdict__" : Str))=false:=by decide):PE X (.Name x pos) (qjB i):=QX hN hv hd hcd
end
def qo(H H':Hp):Prop:=∀b o,H b=some o->H' b=some o
theorem qo.seq{K:Frag}{H H':Hp}{a:Addr}{xs:List V}(e:qo H H')(h:SqL K H a xs):SqL K H' a xs:=by
 rcases h with (h | ⟨o,h⟩) | h
 ·exact .inl (.inl (e _ _ h))
 ·exact .inl (.inr ⟨o,e _ _ h⟩)
 ·exact .inr h
end L2
namespace TS
open PySem PyProof.Rows
section
variable{prog:Program}{w:World}{A:Around}{E:PQ}{s:Shared}{O:KeyOrd}{kf:Keyed->O.α}{κ:SortKind}
def qaY(s s1:Shared):Prop:=∀b o,s.heap.get? b=some o->s1.heap.get? b=some o
structure Sorts(prog:Program)(w:World)(s:Shared)(vs:List Value)(O:KeyOrd)(kf:Keyed->O.α)(κ:SortKind):Prop where
 kind:2<=vs.length->∀(A:Around) (E:PQ) (s1:Shared) (Q:SortKind->Shared->Prop),qaY s s1->Q κ s1->wpAny (model prog w) A (keyKind' vs.toArray) Q E s1
 lt:∀(A:Around) (E:PQ) (s1:Shared),qaY s s1->qcx (model prog w) A E s1 O kf κ (λx=>x∈(pairsOf vs).toList)
end
end TS
namespace TS
open PySem PyProof.Rows
noncomputable def pO:KeyOrd where
 α:=Int×Int
 blt p q:=decide (p.1 < q.1)||(decide (p.1=q.1)&&decide (p.2 < q.2))
 irrefl a:=by simp
 trans a b c h1 h2:=by simp at h1 h2 ⊢;omega
 negTrans a b c h:=by simp at h ⊢;omega
 total a b h1 h2:=by
  obtain⟨a1,a2⟩:=a;obtain⟨b1,b2⟩:=b;simp at h1 h2;have e1:a1=b1:=by omega
  subst e1;have e2:a2=b2:=by omega
  rw[e2]
def nOf:Value->Int
 |.int n _=>n
 |_=>0
noncomputable def jc(h:Heap)(v:Value):Int×Int:=match v with
 |.ref a=>match h.get? a with
  |some o=>match o.data with
   |.seq xs _=>(nOf (xs.getD 0 .none),nOf (xs.getD 1 .none))
   |_=>(0,0)
  |none=>(0,0)
 |_=>(0,0)
def Za(h:Heap)(v:Value)(p:Int×Int):Prop:=∃a t u,v=.ref a/\IsTup h a #[.int p.1 t,.int p.2 u]
theorem Za.pair{h:Heap}{v:Value}{p:Int×Int}(e:Za h v p):jc h v=p:=by obtain⟨a,t,u,rfl,o,ho,hc,n,hd⟩:=e;unfold jc;simp only[ho,hd];rfl
theorem Za.grow{s s1:Shared}{v:Value}{p:Int×Int}(e:Za s.heap v p)(g:qaY s s1):Za s1.heap v p:=by obtain⟨a,t,u,rfl,o,ho,hc,n,hd⟩:=e;exact⟨a,t,u,rfl,o,g a o ho,hc,n,hd⟩
section
variable{prog:Program}{w:World}{A:Around}{E:PQ}{s:Shared}
theorem qhl{x y:Value}{p q:Int×Int}{Q:Bool->Shared->Prop}(hx:Za s.heap x p)(hy:Za s.heap y q)(h:Q (pO.blt p q) s):wpAny (model prog w) A (keyLt' (tuples' true) x y) Q E s:=by
 obtain⟨a,t,u,rfl,o,ho,hc,n,hd⟩:=hx;obtain⟨b,t',u',rfl,o',ho',hc',n',hd'⟩:=hy;refine PySem.W.kat_lt ho hd ho' hd' ?_;show PySem.W.KatLex prog w A true _ Q [(.int p.1 t,.int q.1 t'),(.int p.2 u,.int q.2 u')] 0 s;refine PySem.W.kat_cons (wpAny_eqBool_int ?_)
 by_cases e1:p.1=q.1
 ·rw[show(p.1 == q.1)=true by simpa using e1];refine PySem.W.kat_yes (PySem.W.kat_cons (wpAny_eqBool_int ?_))
  by_cases e2:p.2=q.2
  ·rw[show(p.2 == q.2)=true by simpa using e2];refine PySem.W.kat_yes (PySem.W.kat_nil ?_)
   have:pO.blt p q=false:=by unfold pO;simp[e1,e2]
   rw[this] at h;exact h
  ·rw[show(p.2 == q.2)=false by simpa using e2];refine PySem.W.kat_no (PySem.W.kat_one _ _ (lt_int ?_))
   have:pO.blt p q=decide (p.2 < q.2):=by unfold pO;simp[e1]
   rw[this] at h;exact h
 ·rw[show(p.1 == q.1)=false by simpa using e1];refine PySem.W.kat_no ?_
  have:pO.blt p q=decide (p.1 < q.1):=by unfold pO;simp[e1]
  rw[this] at h;exact oneLt_int h
theorem qaZ:∀{vs:List Value} {ps:List (Int×Int)},Paired (Za s.heap) vs ps->∃fs,PySem.W.KatTups s.heap vs fs/\fs.length=vs.length/\∀v∈fs,∃n t,v=Value.int n t
 |_,_,.nil=>⟨[],trivial,rfl,λ_ h=>nomatch h⟩
 |_,_,.cons r rs=>by
  obtain⟨a,t,u,rfl,o,ho,hc,n,hd⟩:=r;obtain⟨fs,h1,h2,h3⟩:=qaZ rs;refine⟨_::fs,PySem.W.KatTups.cons ho hc hd rfl h1,by simp[h2],λv hv=>?_⟩;rcases List.mem_cons.mp hv with rfl | hv
  ·exact⟨_,_,rfl⟩
  ·exact h3 v hv
theorem Yo{vs:List Value}{x:Keyed}(h:x∈(pairsOf vs).toList):x.1=x.2/\x.1∈vs:=by rw[pairsOf_toList] at h;exact mem_zip_self h
theorem Paired.at_mem{α β:Type}{R:α->β->Prop}:∀{l:List α} {m:List β},Paired R l m->∀a∈l,∃b∈m,R a b
 |_,_,.nil,_,h=>nomatch h
 |_,_,.cons r rs,a,h=>by
  rcases List.mem_cons.mp h with rfl | h
  ·exact⟨_,List.mem_cons_self,r⟩
  ·obtain⟨b,hb,q⟩:=Paired.at_mem rs a h;exact⟨b,List.mem_cons_of_mem _ hb,q⟩
theorem Paired.grow2{s s1:Shared}(g:qaY s s1):∀{vs:List Value} {ps:List (Int×Int)},Paired (Za s.heap) vs ps->Paired (Za s1.heap) vs ps
 |_,_,.nil=>.nil
 |_,_,.cons r rs=>.cons (r.grow g) (Paired.grow2 g rs)
theorem qa0{vs:List Value}{ps:List (Int×Int)}(h:Paired (Za s.heap) vs ps):Sorts prog w s vs pO (λx=>jc s.heap x.1) (tuples' true) where
 kind:=λh2 A E s1 Q g q=>by obtain⟨fs,t1,t2,t3⟩:=qaZ (Paired.grow2 g h);refine PySem.W.kat_kind t1 (1:) (T:=Value.type "int") (λv hv=>?_) rfl q;obtain⟨n,t,rfl⟩:=t3 v hv;exact .now
 lt:=λA E s1 g x y hx hy st Q hk q=>by obtain⟨p,_,hp⟩:=Paired.at_mem h _ (Yo hx).2;obtain⟨p',_,hp'⟩:=Paired.at_mem h _ (Yo hy).2;have q:Q (some (pO.blt (jc s.heap x.1) (jc s.heap y.1))) st:=q;rw[hp.pair,hp'.pair] at q;rw[lt'_eq];refine wpS_bind (wpS_get ?_);rw[hk];refine wpS_bind (wpS_lift (wpAny_attempt (qhl (hp.grow g) (hp'.grow g) ⟨rfl,?_⟩)));exact wpS_pure q
end
theorem Paired.perm{α β:Type}{R:α->β->Prop}{us us':List β}(p:us'.Perm us):∀{xs:List α},Paired R xs us->∃xs',xs'.Perm xs/\Paired R xs' us':=by
 induction p with
 |nil=>exactλ{xs} h=>⟨xs,List.Perm.refl _,h⟩
 |cons x _ ih=>
  intro xs h
  cases h with
  |cons r rs=>obtain⟨xs',h1,h2⟩:=ih rs;exact⟨_::xs',h1.cons _,.cons r h2⟩
 |swap x y l=>
  intro xs h
  cases h with
  |cons r rs=>
   cases rs with
   | cons r' rs=>exact⟨_::_::_,List.Perm.swap ..,.cons r' (.cons r rs)⟩
 |trans _ _ ih1 ih2=>intro xs h;obtain⟨x1,h1,h2⟩:=ih2 h;obtain⟨x2,h3,h4⟩:=ih1 h2;exact⟨x2,h3.trans h1,h4⟩
end TS
namespace L2
open PySem PySem.Spec PyProof.Rows
noncomputable def P2(K:Frag)(H:Hp)(v:V)(p:Int×Int):Prop:=∃a,v=.ref a/\H a=some (.tup [.int p.1,.int p.2])
def qa1(p q:Int×Int):Prop:=p.1 < q.1\/(p.1=q.1/\p.2<=q.2)
section
variable{X:Cx}
theorem P2.raw{pins:PP}{σ:St}{H:Hp}{s:Shared}{v:V}{u:Value}{p:Int×Int}(I:Inv X pins σ H s)(h:P2 X.K H v p)(r:qB v u):TS.Za s.heap u p:=by obtain⟨a,rfl,hq⟩:=h;obtain rfl:u=Value.ref a:=r;obtain⟨its,rv,pl,_⟩:=I.tuple (SqT.of hq);obtain⟨u1,u2,rfl,⟨t1,rfl⟩,⟨t2,rfl⟩⟩:=Jv rv;exact⟨a,t1,t2,rfl,pl⟩
end
end L2
namespace L2
open PySem PySem.Spec PyProof.Rows
noncomputable def ze(env:Env)(ns:List (Str×NameKind))(acc:List (Str×Addr)):List (Str×Addr):=ns.foldl (λcs x=>if x.2 == .free then (x.1,(env.cells.lookup x.1).getD 0)::cs else cs) acc
theorem qee{env:Env}:∀(ns:List (Str×NameKind)) (acc:List (Str×Addr)),(∀x∈ns,x.2=.free->∃c,env.cells.lookup x.1=some c)->
  (forIn ns acc λ(x:Str×NameKind) (cs:List (Str×Addr))=>(match x with |(name,kind)=>if kind == .free then (do let c<-cellOf env name;pure (ForInStep.yield ((name,c)::cs)):Sem (ForInStep (List (Str×Addr)))) else pure (ForInStep.yield cs)))=(pure (ze env ns acc):Sem (List (Str×Addr)))
 |[],acc,_=>by rw[List.forIn_nil];rfl
 | (n,k)::r,acc,h=>by
  rw[List.forIn_cons];have hr:=qee (env:=env) r
  by_cases hk:k=.free
  ·subst hk;obtain⟨c,hc⟩:=h (n,.free) List.mem_cons_self rfl;have e1:cellOf env n=pure c:=by unfold cellOf;rw[hc]
   simp only[beq_self_eq_true,if_true,e1,pure_bind];rw[hr _ λx hx=>h x (List.mem_cons_of_mem _ hx)];unfold ze;simp[hc]
  ·have hb:(k == NameKind.free)=false:=by simpa using hk
   simp only[hb,Bool.false_eq_true,if_false,pure_bind];rw[hr _ λx hx=>h x (List.mem_cons_of_mem _ hx)];unfold ze;rw[List.foldl_cons];simp only[hb,Bool.false_eq_true,if_false]
theorem qef{env:Env}{scope:Scope}(h:∀x∈scope.names,x.2=.free->∃c,env.cells.lookup x.1=some c):closureFor scope env=pure (ze env scope.names []):=by
 unfold closureFor
 have:=qee scope.names [] h
 simp only[bind_pure_comp] at this;simp only[bind_pure_comp,id_map',this];rfl
theorem qa2{env:Env}:∀(ns:List (Str×NameKind)) (acc:List (Str×Addr)),(∀x∈ns,x.2=.free->∃c,env.cells.lookup x.1=some c)->(∀x c,acc.lookup x=some c->env.cells.lookup x=some c)->
  ∀x c,(ze env ns acc).lookup x=some c->env.cells.lookup x=some c
 |[],_,_,h=>h
 | (n,k)::r,acc,hf,h=>by
  have ih:=qa2 (env:=env) r (if k == .free then (n,(env.cells.lookup n).getD 0)::acc else acc) (λx hx=>hf x (List.mem_cons_of_mem _ hx)) (λx c e=>by
   by_cases hk:k=.free
   ·subst hk;simp only[beq_self_eq_true,if_true] at e;obtain⟨c',hc⟩:=hf (n,.free) List.mem_cons_self rfl;rw[List.lookup_cons] at e
    by_cases hx:x=n
    ·subst hx;simp[hc] at e;rw[hc,e]
    ·rw[show(x == n)=false by simpa using hx] at e;exact h x c e
   ·rw[show(k == NameKind.free)=false by simpa using hk] at e;exact h x c e)
  exact ih
theorem jx{env:Env}{ns:List (Str×NameKind)}(h:∀x∈ns,x.2=.free->∃c,env.cells.lookup x.1=some c):∀x c,(ze env ns []).lookup x=some c->env.cells.lookup x=some c:=qa2 ns [] h λ_ _ e=>by cases e
theorem Jz{env:Env}:∀(ns:List (Str×NameKind)) (acc:List (Str×Addr)) (x:Str) (c:Addr),acc.lookup x=some c->∃c,(ze env ns acc).lookup x=some c
 |[],_,_,c,h=>⟨c,h⟩
 | (n,k)::r,acc,x,c,h=>by
  show∃c,(ze env r (if k == .free then (n,(env.cells.lookup n).getD 0)::acc else acc)).lookup x=some c
  by_cases hk:k=.free
  ·subst hk;simp only[beq_self_eq_true,if_true]
   by_cases hx:x=n
   ·subst hx;exact Jz r _ x ((env.cells.lookup x).getD 0) (by rw[List.lookup_cons];simp)
   ·exact Jz r _ x c (by rw[List.lookup_cons,show(x == n)=false by simpa using hx];exact h)
  ·rw[show(k == NameKind.free)=false by simpa using hk];exact Jz r _ x c h
theorem Qm{env:Env}:∀(ns:List (Str×NameKind)) (acc:List (Str×Addr)) (x:Str),(x,NameKind.free)∈ns->∃c,(ze env ns acc).lookup x=some c
 | (n,k)::r,acc,x,h=>by
  show∃c,(ze env r (if k == .free then (n,(env.cells.lookup n).getD 0)::acc else acc)).lookup x=some c;rcases List.mem_cons.mp h with e | h
  ·injection e with e1 e2;subst e1 e2;simp only[beq_self_eq_true,if_true];exact Jz r _ x ((env.cells.lookup x).getD 0) (by rw[List.lookup_cons];simp)
  ·exact Qm r _ x h
theorem ye{env:Env}:∀{names:List (Str×NameKind)} {x:Str},names.lookup x=some .free->
  (names.map λ(n,k)=>if (k == NameKind.free&&env.scope.kind == .function&&env.kindOf n == some .cell) then (n,NameKind.cell) else (n,k)).lookup x=some .cell\/
  (names.map λ(n,k)=>if (k == NameKind.free&&env.scope.kind == .function&&env.kindOf n == some .cell) then (n,NameKind.cell) else (n,k)).lookup x=some .free
 |[],_,h=>by simp at h
 | (n,k)::r,x,h=>by
  simp only[List.map_cons]
  by_cases hx:x=n
  ·subst hx;simp[List.lookup_cons] at h;subst h
   by_cases hc:(NameKind.free == NameKind.free&&env.scope.kind == .function&&env.kindOf x == some .cell)=true
   ·rw[if_pos hc];left;simp[List.lookup_cons]
   ·rw[if_neg hc];right;simp[List.lookup_cons]
  ·have hb:(x == n)=false:=by simpa using hx
   rw[List.lookup_cons,hb] at h;have ih:=ye (env:=env) h
   by_cases hc:(k == NameKind.free&&env.scope.kind == .function&&env.kindOf n == some .cell)=true
   ·rw[if_pos hc];simp only[List.lookup_cons,hb];exact ih
   ·rw[if_neg hc];simp only[List.lookup_cons,hb];exact ih
theorem qa3{env:Env}:∀{names:List (Str×NameKind)} {x:Str} {k':NameKind},(names.map λ(n,k)=>if (k == NameKind.free&&env.scope.kind == .function&&env.kindOf n == some .cell) then (n,NameKind.cell) else (n,k)).lookup x=some k'->
  k'=.cell\/k'=.free->(x,NameKind.free)∈names\/(x,NameKind.cell)∈names
 |[],_,_,h,_=>by simp at h
 | (n,k)::r,x,k',h,hk=>by
  simp only[List.map_cons] at h
  by_cases hx:x=n
  ·subst hx
   by_cases hc:(k == NameKind.free&&env.scope.kind == .function&&env.kindOf x == some .cell)=true
   ·have:k=.free:=by simp at hc;exact hc.1.1
    subst this;exact .inl List.mem_cons_self
   ·rw[if_neg hc] at h;simp[List.lookup_cons] at h;subst h;rcases hk with rfl | rfl
    ·exact .inr List.mem_cons_self
    ·exact .inl List.mem_cons_self
  ·have hb:(x == n)=false:=by simpa using hx
   have ih:=qa3 (env:=env) (names:=r) (x:=x) (k':=k') (by
    by_cases hc:(k == NameKind.free&&env.scope.kind == .function&&env.kindOf n == some .cell)=true
    ·rw[if_pos hc] at h;simp only[List.lookup_cons,hb] at h;exact h
    ·rw[if_neg hc] at h;simp only[List.lookup_cons,hb] at h;exact h) hk
   exact ih.imp (List.mem_cons_of_mem _) (List.mem_cons_of_mem _)
noncomputable def blk(X:Cx)(N:List Str)(scope:Scope)(cl:List (Str×Addr))(C:Addr)(fp:List Addr)(s2:Shared)(H2:Hp):Cx:=
 { X with N:=N,s₀:=s2,Hv:=H2,env:=compEnvC scope cl C X.env,outer:=X.stack,stack:=X.stack,ex:=fp,fn:=λ_=>false,pn:=[],xe:=λ_ _=>False }
structure BlkScope(X:Cx)(own:List Str)(fr:List Nat)(scope:Scope):Prop where
 kind:scope.kind=.function
 nocell:∀x∈scope.names,x.2≠.cell
 names:∀x∈scope.names,x.2=.local->scope.names.lookup x.1=some .local
 free:∀x∈scope.names,x.2=.free->X.env.kindOf x.1=some .cell\/X.env.kindOf x.1=some .free
 look:∀i∈fr,scope.names.lookup (X.N.getD i "")=some .free
def jT(X:Cx)(own:List Str)(fr:List Nat):List Str:=own++fr.map λi=>X.N.getD i ""
def y4(own:List Str)(fr:List Nat)(σ:St):St:=(own.map λ_=>none)++fr.map λi=>(σ[i]?).join
section
variable{X:Cx}{pins:PP}{σ:St}{H:Hp}{s:Shared}{own:List Str}{fr:List Nat}{scope:Scope}
abbrev qav(its:List Value)(n:Nat):Obj:={ cls:=.type "list",data:=.seq its.toArray n }
theorem qhm{C:Addr}{fp:List Addr}(B:BlkScope X own fr scope)(I:Inv X pins σ H s)(hf:∀b∈fp,ZQ X pins H b)(hfo:∀b∈fp,b < s.heap.objs.size)(hC:s.heap.objs.size<=C) :
  (blk X (jT X own fr) scope (ze X.env scope.names []) C fp s H).Ok where
 mod:=I.ok.mod
 kind:=B.kind
 glob:=I.ok.glob
 blt:=I.ok.blt
 above:=hC
 inj:=λx y c h1 h2=>I.ok.inj x y c (jx (λz hz e=>I.ok.has _ (B.free z hz e)) x c h1) (jx (λz hz e=>I.ok.has _ (B.free z hz e)) y c h2)
 has:=λx h=>by
  have h':(x,NameKind.free)∈scope.names\/(x,NameKind.cell)∈scope.names:=by
   rcases h with h | h
   ·exact qa3 (env:=X.env) h (.inl rfl)
   ·exact qa3 (env:=X.env) h (.inr rfl)
  rcases h' with h' | h'
  ·exact Qm _ _ _ h'
  ·exact absurd rfl (B.nocell _ h')
 cab:=λx c h=>nomatch h
 hd:=I.ok.hd
 frames:=I.ok.frames
 stk:=.inl rfl
 exf:=λb hb=>⟨Nat.ne_of_lt (Nat.lt_of_lt_of_le (hfo b hb) hC),λx c e=>(hf b hb).2.2.2.2.1 x c (jx (λz hz e=>I.ok.has _ (B.free z hz e)) x c e)⟩
 bs:=I.bs
 bsz:=Nat.le_trans I.ok.bsz I.sz
 noex:=λb o e hb=>by
  rcases (hf b hb).2.2.2.1 with z | z
  ·exact I.ok.noex b o e z
  ·exact absurd (Nat.lt_of_lt_of_le (Heap.lt_size (I.ok.bs b o e).1) z) (Nat.lt_irrefl _)
 exfs:=λb hb z=>by
  rcases List.mem_cons.mp (I.stkSub b z) with e | e
  ·exact(hf b hb).2.1 e
  ·exact(hf b hb).2.2.1 e
 funs:=I.stack
 frf:=I.stkFree
theorem qa4{C D:Addr}{fp:List Addr}{h4:Heap}{tk:Nat}{n:Nat}(B:BlkScope X own fr scope)(I:Inv X pins σ H s)(hf:∀b∈fp,ZQ X pins H b)(hfo:∀b∈fp,b < s.heap.objs.size)(hC:s.heap.objs.size<=C)(hD:s.heap.objs.size<=D)(hDC:D≠C)
  (k:∀b o,s.heap.get? b=some o->h4.get? b=some o) (hn:h4.Ns C λ_=>none) (hl:h4.get? D=some (qav [] n)) :
  Inv (blk X (jT X own fr) scope (ze X.env scope.names []) C fp s H) [(D,qav [] n)] (y4 own fr σ) H { s with heap:=h4,toks:=tk }:=by
 have sub:=jx (env:=X.env) (ns:=scope.names) (λz hz e=>I.ok.has _ (B.free z hz e));refine⟨qhm B I hf hfo hC,rfl,I.bare,Un.kept k,⟨_,hn,λi x v h1 h2 h3=>?_⟩,λx c e=>?_,I.hok.fresh hC,λx c e=>I.freeC x c (sub x c e),λp hp=>?_,I.hok.kept k,?_⟩
 ·have h1:(jT X own fr)[i]?=some x:=h1;unfold jT at h1;unfold y4 at h2
  by_cases hi:i < own.length
  ·rw[List.getElem?_append_left (by simpa using hi),List.getElem?_map] at h2
   cases q:own[i]? with
   |none=>rw[q] at h2;cases h2
   |some a=>rw[q] at h2;cases h2
  ·rw[List.getElem?_append_right (by simpa using hi),List.getElem?_map] at h2;rw[List.getElem?_append_right (by simpa using hi),List.getElem?_map] at h1;rw[List.length_map] at h2
   cases q:fr[i - own.length]? with
   |none=>rw[q] at h2;cases h2
   |some j=>
    rw[q] at h1 h2;have h1:X.N.getD j "" = x:=Option.some.inj h1;have h2:(σ[j]?).join=some v:=Option.some.inj h2
    have h2':σ[j]?=some (some v):=by
     cases w:σ[j]? with
     |none=>rw[w] at h2;cases h2
     |some y=>rw[w] at h2;cases y with
      |none=>cases h2
      |some y=>cases h2;rfl
    have hjl:j < X.N.length:=by rw[<-I.len];exact(List.getElem?_eq_some_iff.mp h2').1
    have hN:X.N[j]?=some x:=by rw[<-h1,List.getElem?_eq_getElem hjl];simp[hjl]
    have hfree:scope.names.lookup x=some .free:=by rw[<-h1];exact B.look j (List.mem_of_getElem? q)
    have hk:=B.free (x,.free) (PySem.mem_of_lookup hfree) rfl;obtain⟨m,_,hloc⟩:=I.loc
    obtain⟨u,r,l⟩:=hloc j x v hN h2' (by
     rcases hk with z | z
     ·exact .inr (.inl z)
     ·exact .inr (.inr z))
    refine⟨u,r,.inr ⟨?_,?_⟩⟩
    ·exact ye (env:=X.env) hfree
    ·rcases l with ⟨l,_⟩ | ⟨_,c,hc,o,ho,hd⟩
     ·have hk:X.env.kindOf x=some .cell\/X.env.kindOf x=some .free:=hk;rw[l] at hk;rcases hk with z | z<;>cases z
     ·obtain⟨c',hc'⟩:=Qm (env:=X.env) scope.names [] x (PySem.mem_of_lookup hfree)
      have:=sub x c' hc'
      rw[hc] at this;cases this;exact⟨c,hc',o,k _ _ ho,hd⟩
 ·obtain⟨v,o,ho,hd⟩:=I.cell x c (sub x c e);exact⟨v,o,k _ _ ho,hd⟩
 ·have hp:p∈[(D,qav [] n)]:=by simpa [blk] using hp
  obtain rfl:=List.mem_singleton.mp hp;refine⟨hl,I.hok.fresh hD,hDC,λz=>?_,λv e=>by cases e⟩;rcases List.mem_cons.mp (I.stkSub D z) with e | e
  ·exact Nat.ne_of_lt (Nat.lt_of_lt_of_le I.lt hD) e.symm
  ·exact I.nofs hD e
 ·show(y4 own fr σ).length=(jT X own fr).length;unfold y4 jT;simp
end
end L2
namespace L2
open PySem PySem.Spec PyProof.Rows
noncomputable def PIf(X:Cx)(ifs:List Expr)(t:TT):Prop:=
 ∀(pins:PP) (s:Shared) (σ:St) (H:Hp) (Q:Bool->Hp->Prop),Inv X pins σ H s->t σ H Q->
  wpAny (model X.prog X.w) X.A (forIn ifs true λc r=>if r=true then do let ok<-isTrue c X.env (eval c X.env);pure (ForInStep.yield ok) else pure (ForInStep.yield r)) (TP X pins σ Q) X.xe s
def qlS:TT:=λ_ H Q=>Q true H
section
variable{X:Cx}{pins:PP}{σ:St}{H:Hp}{s:Shared}{own:List Str}{fr:List Nat}{scope:Scope}
theorem qe8:PIf X [] qlS:=λ_ _ _ H _ I h=>wpAny_tests_nil ⟨H,I,h⟩
theorem qe9{c:Expr}{t:TT}(h:PT X c t):PIf X [c] t:=λpins s σ H Q I hw=>wpAny_tests_one (h pins s σ H Q I hw)
noncomputable def Yp(J:It)(g:TG)(tc:TT)(te:TE)(fin:List V->Hp->Prop)(W:Nat->Nat->List V->St->Hp->Prop):Prop:=
 ∀i m ys σ' H',W i m ys σ' H'->(J.stop i H'/\fin ys H')\/
  (J.go i H'/\ys.length < sizeLine/\∃N:List V->St->Hp->Prop,(∀ys' σ2 H2,N ys' σ2 H2->∃m',m' < m/\W (i+1) m' ys' σ2 H2)/\
   ∀x H2,J.yld i H' x H2->g x σ' H2 λσ2 H3=>tc σ2 H3 λb H4=>if b=true then te σ2 H4 λy H5=>N (ys++[y]) σ2 H5 else N ys σ2 H4)
noncomputable def qfa(own:List Str)(fr:List Nat)(wi:TI)(g:TG)(tc:TT)(te:TE):TE:=λσ H Q=>wi σ H λJ H1=>∃W:Nat->Nat->List V->St->Hp->Prop,(∃m,W 0 m [] (y4 own fr σ) H1)/\Yp J g tc te (λys H'=>∀l,H' l=none->Q (.ref l) (upd H' l (.lst ys))) W
theorem qfb{N:List Str}{cl:List (Str×Addr)}{C l:Addr}{fp:List Addr}{s4:Shared}{H':Hp}{σ':St}{its:List Value}{k:Nat}{ys:List V}(I:Inv X pins σ H s)(hf:∀b∈fp,ZQ X pins H b)(hl:s.heap.objs.size<=l)
  (I4:Inv (blk X N scope cl C fp s H) [(l,qav its k)] σ' H' s4) (rv:qr ys its) (hz:ys.length<=sizeLine):Inv X pins σ (upd H' l (.lst ys)) s4:=by
 have base:Un (frs X.stack) fp H H' s.heap s4.heap:=I4.base;have pin:=I4.pin (l,qav its k) (List.mem_append_right _ List.mem_cons_self);have nl:∀b o,s.heap.get? b=some o->b≠l:=λb o e=>Nat.ne_of_lt (Nat.lt_of_lt_of_le (Heap.lt_size e) hl);have nh:∀b u,H' b=some u->b≠l:=λb u e=>qP e pin.2.1;refine I.call' (ch:=fp) I4.os ⟨base.keep,base.slot,λb o e n hx=>?_,base.there,λb xs e=>?_,λb o u e=>?_,λb ps e=>?_⟩ (λb u e=>?_) I4.bare (λb hb=>⟨(hf b hb).2.2.2.1,(hf b hb).2.1,(hf b hb).2.2.2.2.1,(hf b hb).2.2.2.2.2⟩)
 ·rw[qf (nl b o e)];exact base.free b o e n hx
 ·have:=base.tups b xs e
  rw[qf (nh b _ this)];exact this
 ·have:=base.frzs b o u e
  rw[qf (nh b _ this)];exact this
 ·obtain⟨more,this⟩:=base.tbls b ps e;exact⟨more,by rw[qf (nh b _ this)];exact this⟩
 ·by_cases hb:b=l
  ·subst hb;rw[qg] at e;cases e;exact⟨hz,its,k,rv,pin.1⟩
  ·rw[qf hb] at e;exact(I4.hok b u e).stay (λc v _ q=>q) (λc q=>by rw[qf (nh c _ q)];exact q) λc xs q=>by rw[qf (nh c _ q)];exact q
theorem Yq{elt iter tg:Expr}{ifs:List Expr}{pos:Pos}{g:TG}{tc:TT}{te:TE}{it:Addr}{fp:List Addr}{tn:Nat->Heap->Prop}{J:It}{fin:List V->Hp->Prop}{W:Nat->Nat->List V->St->Hp->Prop}{m0:Nat}
  {RR:Value->Addr->Result->Shared->Prop} {E:PQ} (hc:X.calm=true) (B:BlkScope X own fr scope)
  (hg:∀cl C fp s2 H2,PG (blk X (jT X own fr) scope cl C fp s2 H2) tg g) (ht:∀cl C fp s2 H2,PIf (blk X (jT X own fr) scope cl C fp s2 H2) ifs tc) (he:∀cl C fp s2 H2,PE (blk X (jT X own fr) scope cl C fp s2 H2) elt te)
  (I:Inv X pins σ H s) (T:Turn X.prog X.w X.K tg J fp it tn) (st0:tn 0 s.heap) (hf:∀b∈fp,ZQ X pins H b) (w0:W 0 m0 [] (y4 own fr σ) H) (hW:Yp J g tc te fin W)
  (post:∀(l C:Addr) (s4:Shared) (ys:List V) (H':Hp) (m:PR),s.heap.objs.size<=C->H' C=none->H' l=none->l≠C->s4.heap.Ns C m->Inv X pins σ (upd H' l (.lst ys)) s4->fin ys H'->RR (.ref l) C (.ok .next) s4) :
  wpAny (model X.prog X.w) X.A (newList []) (λacc s₃=>wpAny (model X.prog X.w) X.A (newFunctionEnv scope X.env.globals (ze X.env scope.names []) [] X.env.qual none .none (some X.env)) (λcenv s₄=>codeAny (model X.prog X.w) X.A (.compStart (.ListComp elt [⟨tg,iter,ifs,0⟩] scope pos) 0 (.ref it) acc { cenv with scope:=relabel scope X.env }) (RR acc cenv.locals) s₄) E s₃) E s:=by
 have hfo:∀b∈fp,b < s.heap.objs.size:=λb hb=>by obtain⟨o,e,_⟩:=T.obj _ _ st0 b hb;exact Heap.lt_size e
 refine wpAny_newObj_type (wpAny_newFunctionEnv B.nocell (by intro y hy;simp at hy) (λh1 hns hsb=>?_) B.kind);dsimp only at hns hsb ⊢;generalize hH2:s.heap.push { cls:=.type "list",dict:=none,data:=.seq ([]:List Value).toArray }=h2 at hns hsb ⊢;have hC:h2.objs.size=s.heap.objs.size+1:=by rw[<-hH2,Heap.size_push]
 have hDC:s.heap.objs.size≠h2.objs.size:=by rw[hC];exact Nat.ne_of_lt (Nat.lt_succ_self _)
 have hCle:s.heap.objs.size<=h2.objs.size:=by rw[hC];exact Nat.le_succ _
 have old:∀b o,s.heap.get? b=some o->h1.get? b=some o:=λb o e=>hsb.extBut b o (by rw[hC];exact Nat.ne_of_lt (Nat.lt_succ_of_lt (Heap.lt_size e))) (Heap.get?_push_of_some _ (hH2▸Heap.get?_push_of_some _ e));have hacc:h1.get? s.heap.objs.size=some (qav [] 0):=hsb.extBut _ _ hDC (Heap.get?_push_of_some _ (hH2▸Heap.get?_push_size _ rfl));have hns':h1.Ns h2.objs.size λ_=>none:=hns;have I0:=qa4 (tk:=s.toks+([]:List (Str×Value)).length) B I hf hfo hCle (Nat.le_refl _) hDC old hns' hacc;have st1:tn 0 h1:=T.keep _ _ _ st0 λb hb o e=>old b o e
 have loop:codeAny (model X.prog X.w) X.A (.compLoop (.ListComp elt [⟨tg,iter,ifs,0⟩] scope pos) 0 (.ref it) (.ref s.heap.objs.size) (compEnvC scope (ze X.env scope.names []) h2.objs.size X.env))
   (RR (.ref s.heap.objs.size) h2.objs.size) { s with heap:=h1,toks:=s.toks+([]:List (Str×Value)).length }:=by
  generalize hl:s.heap.objs.size=l at *;generalize hCC:h2.objs.size=C at *
  have stat:∀{H':Hp} {o:Obj},(∀b∈fp,H' b=none)->∀b∈fp,ZQ (blk X (jT X own fr) scope (ze X.env scope.names []) C fp s H) [(l,o)] H' b:=λ{H' o} hn b hb=>by
   refine⟨hn b hb,λe=>?_,λz=>?_,.inl hb,λx c e z=>?_,λp hp z=>?_⟩
   ·exact Nat.ne_of_lt (Nat.lt_of_lt_of_le (hfo b hb) hCle) e
   ·rcases List.mem_cons.mp (I.stkSub b z) with e | e
    ·exact(hf b hb).2.1 e
    ·exact(hf b hb).2.2.1 e
   ·exact(hf b hb).2.2.2.2.1 x c (jx (λz hz e=>I.ok.has _ (B.free z hz e)) x c e) z
   ·have hp:p∈[(l,o)]:=by simpa [blk] using hp
    obtain rfl:=List.mem_singleton.mp hp;exact Nat.ne_of_lt (hfo b hb) z.symm
  refine codeAny_loop rfl (λn s'=>∃i ys σ' H' its k,Inv (blk X (jT X own fr) scope (ze X.env scope.names []) C fp s H) [(l,qav its k)] σ' H' s'/\qr ys its/\ys.length<=sizeLine/\tn i s'.heap/\(∀b∈fp,H' b=none)/\W i n ys σ' H')
   (λn s3 hI=>?_) m0 ⟨0,[],y4 own fr σ,H,[],0,I0,.nil,Nat.zero_le _,st1,λb hb=>(hf b hb).1,w0⟩
  show wpAny _ X.A ((compTurn (.ListComp elt [⟨tg,iter,ifs,0⟩] scope pos) 0 (.ref it) (.ref l) (compEnvC scope (ze X.env scope.names []) C X.env)).onRaise (λx=>do noteFrame x (compEnvC scope (ze X.env scope.names []) C X.env);theTreesLotGoes x)) _ _ s3;refine wpAny_noted ?_;rw[compTurn_list];obtain⟨i,ys,σ3,H3,its,k,I3,rv,hz,st3,fr3,w3⟩:=hI;refine wpAny_bind (wpAny_standAt (wpAny_bind ?_));rcases hW i n ys σ3 H3 w3 with ⟨stop,qn⟩ | ⟨go,hlt,N,hN,step⟩
  ·refine thn (T.done (blk X (jT X own fr) scope (ze X.env scope.names []) C fp s H) rfl rfl rfl hc i _ s3 σ3 H3 _ I3 (stat fr3) st3 stop) λr s4 hq1=>?_;obtain⟨hr,I4⟩:=hq1;subst hr;obtain⟨m,hm,_⟩:=I4.loc;exact wpAny_pure (post l C s4 ys H3 m hCle I4.free (I4.pin (l,qav its k) (List.mem_append_right _ List.mem_cons_self)).2.1 hDC hm (qfb I hf (Nat.le_of_eq hl) I4 rv hz) qn)
  ·refine thn (T.item (blk X (jT X own fr) scope (ze X.env scope.names []) C fp s H) rfl rfl rfl hc i _ s3 σ3 H3 _ I3 (stat fr3) st3 go) λr s4 hq1=>?_;obtain⟨u,hr,h4⟩:=hq1;subst hr;refine wpAny_bind (thn h4 λ_ s5 hq1=>?_);obtain⟨x,H5,I5,r5,y5,st5,fr5⟩:=hq1;have I5':=I5.pinned (stat fr5) (T.obj _ _ st5);refine wpAny_bind (wpAny_mono (hg _ _ _ _ _ _ s5 σ3 H5 x u _ I5' r5 (step x H5 y5)) (λ_ s6 ⟨σ6,H6,I6,q6⟩=>?_) λ_ _ z=>z.elim);refine wpAny_bind (wpAny_mono (ht _ _ _ _ _ _ s6 σ6 H6 _ I6 q6) (λb s7 ⟨H7,I7,q7⟩=>?_) λ_ _ z=>z.elim)
   have back:∀{σ8:St} {H8:Hp} {s8:Shared},Inv (blk X (jT X own fr) scope (ze X.env scope.names []) C fp s H) ([(l,qav its k)]++J4 fp s5.heap) σ8 H8 s8->(∀b∈fp,∀o,s5.heap.get? b=some o->s8.heap.get? b=some o)/\∀b∈fp,H8 b=none:=λI8=>by refine⟨λb hb o e=>(I8.pin (b,o) (List.mem_append_right _ (List.mem_append_right _ (z8 hb e)))).1,λb hb=>?_⟩;obtain⟨o,e,_⟩:=T.obj _ _ st5 b hb;exact(I8.pin (b,o) (List.mem_append_right _ (List.mem_append_right _ (z8 hb e)))).2.1
   cases b with
   |false=>obtain⟨k1,k2⟩:=back I7;simp only[Bool.false_eq_true,if_false] at q7 ⊢;obtain⟨m',hm',w7⟩:=hN _ _ _ q7;exact wpAny_pure ⟨rfl,m',hm',i+1,ys,σ6,H7,its,k,I7.unpinned,rv,hz,T.keep _ _ _ st5 k1,k2,w7⟩
   |true=>
    simp only[if_true] at q7 ⊢;refine wpAny_bind (wpAny_bind (wpAny_mono (he _ _ _ _ _ _ s7 σ6 H7 _ I7 q7) (λw s8 ⟨y,H8,I8,r8,q8⟩=>?_) λ_ _ z=>z.elim));obtain⟨k1,k2⟩:=back I8;obtain⟨m',hm',w8⟩:=hN _ _ _ q8;have pin:=I8.pin (l,qav its k) (List.mem_append_right _ (List.mem_append_left _ List.mem_cons_self));have hil:its.length=ys.length:=rv.length.symm;refine wpAny_bind (append_at pin.1 (λh9 hs9 hD9=>?_) (by rw[List.size_toArray,hil];exact hz));have new:h9.get? l=some (qav (its++[w]) (k+1)):=by rw[hD9,List.push_toArray]
    have Ia:Inv (blk X (jT X own fr) scope (ze X.env scope.names []) C fp s H) [] σ6 H8 s8:=I8.pins_of (λp hp=>nomatch hp)
    have Ib:Inv (blk X (jT X own fr) scope (ze X.env scope.names []) C fp s H) [] σ6 H8 { s8 with heap:=h9 }:=Ia.turned (t':=s8.toks) (λb o hb e=>hs9.extBut b o hb e) pin.2.1 pin.2.2.1 (.inr (Nat.le_of_eq hl)) (λx c e z=>by
     obtain⟨v,o,ho,hd⟩:=I8.cell x c e;rw[z,pin.1] at ho;cases ho
     cases hd) (λp hp=>by
      have hp:p∈([]:PP):=by simpa [blk] using hp
      cases hp)
    have Ic:Inv (blk X (jT X own fr) scope (ze X.env scope.names []) C fp s H) [(l,qav (its++[w]) (k+1))] σ6 H8 { s8 with heap:=h9 }:=Ib.pins_of λp hp=>by obtain rfl:=List.mem_singleton.mp hp;exact⟨new,pin.2.1,pin.2.2.1,pin.2.2.2.1,λv e=>by cases e⟩
    refine wpAny_pure (wpAny_pure ⟨rfl,m',hm',i+1,ys++[y],σ6,H8,its++[w],k+1,Ic,rv.append %[r8|0],by rw[List.length_append];exact hlt,T.keep _ _ _ st5 λb hb o e=>?_,k2,w8⟩);exact hs9.extBut b o (Nat.ne_of_lt (hfo b hb)) (k1 b hb o e)
 exact codeAny_compStart_list loop (T.self _ 0 _ _ _ st1 loop)
theorem Inv.letgo{s2 s4:Shared}{H2 H4:Hp}{C:Addr}{h':Heap}(I2:Inv X pins σ H2 s2){σ4:St}(I4:Inv X pins σ4 H4 s4)(hC:s2.heap.objs.size<=C)(hn:H4 C=none)(hs:Heap.SameBut C s4.heap h'):Inv X pins σ4 H4 { s4 with heap:=h' }:=by obtain⟨f0,f1,_,f3,f4,f5⟩:=I2.fpOk hC hn;exact I4.turned (t':=s4.toks) (λb o hb e=>hs.extBut b o hb e) f0 f1 f3 f4 f5
theorem qfc{elt iter tg:Expr}{ifs:List Expr}{pos:Pos}{g:TG}{tc:TT}{te:TE}{wi:TI}(own:List Str)(fr:List Nat)(hc:X.calm=true)(B:BlkScope X own fr scope)(hi:PI X tg iter wi)
  (hg:∀cl C fp s2 H2,PG (blk X (jT X own fr) scope cl C fp s2 H2) tg g) (ht:∀cl C fp s2 H2,PIf (blk X (jT X own fr) scope cl C fp s2 H2) ifs tc) (he:∀cl C fp s2 H2,PE (blk X (jT X own fr) scope cl C fp s2 H2) elt te)
  (hs:∀x,foldedSetIterable iter X.env x=pure x:=by intro _;rfl):PE X (.ListComp elt [⟨tg,iter,ifs,0⟩] scope pos) (qfa own fr wi g tc te):=by
 intro pins s σ H Q I h;rw[eval_ListComp];refine wpAny_comprehension_free (use:=none) rfl hs (qef λz hz e=>I.ok.has _ (B.free z hz e)) B.kind B.names ?_;refine thn (hi pins s σ H _ I h) λv s1 h1=>thn h1 λitv s2 h2=>?_;obtain⟨it,fp,tn,J,H2,e,I2,T,st2,f2,W,⟨m0,w0⟩,hW⟩:=h2;subst e;refine Yq hc B hg ht he I2 T st2 f2 w0 hW λl C s4 ys H' m hC nC nl hlC hm I4 fin=>?_;exact⟨m,hm,λh' hs'=>⟨.ref l,_,I2.letgo I4 hC (by rw[qf (Ne.symm hlC)];exact nC) hs',rfl,fin l nl⟩⟩
theorem qfd{elt iter tg:Expr}{ifs:List Expr}{pos pos' cpos:Pos}{g:TG}{tc:TT}{te:TE}{wi:TI}{i:Nat}{x:Str}(own:List Str)(fr:List Nat)(hN:X.N.Nodup)(hxi:X.N[i]?=some x)(hx:X.env.scope.names.lookup x=some .local)(hc:X.calm=true)(B:BlkScope X own fr scope)(hi:PI X tg iter wi)
  (hg:∀cl C fp s2 H2,PG (blk X (jT X own fr) scope cl C fp s2 H2) tg g) (ht:∀cl C fp s2 H2,PIf (blk X (jT X own fr) scope cl C fp s2 H2) ifs tc) (he:∀cl C fp s2 H2,PE (blk X (jT X own fr) scope cl C fp s2 H2) elt te)
  (hsw:swapsWith (.ListComp elt [⟨tg,iter,ifs,0⟩] scope cpos) (some (.Name x pos')) pos.line X.env=pure true:=by rfl)
  (hs:∀x,foldedSetIterable iter X.env x=pure x:=by intro _;rfl):PS X (.Assign [.Name x pos'] (.ListComp elt [⟨tg,iter,ifs,0⟩] scope cpos) pos) (qjZ (qfa own fr wi g tc te) (qcC i)):=by
 intro pins s σ H D I h;rw[exec_Assign_Name_used _ _ _ _ hsw];refine wpAny_bind (wpAny_standAt (wpAny_bind ?_));show wpAny _ X.A (do let _<-comprehension (.ListComp elt [⟨tg,iter,ifs,0⟩] scope cpos) scope X.env _ (newList []) false (eval iter X.env) (some (assign (.Name x pos') X.env))) _ _ s;refine wpAny_bind (wpAny_mono (wpAny_comprehension_free (use:=some (assign (.Name x pos') X.env)) (Q:=λ_ s'=>SP X pins D .next s') rfl hs (qef λz hz e=>I.ok.has _ (B.free z hz e)) B.kind B.names ?_) (λ_ s' hq=>wpAny_pure (wpAny_pure hq)) λ_ _ e=>e);refine thn (hi pins s σ H _ I h) λv s1 h1=>thn h1 λitv s2 h2=>?_;obtain⟨it,fp,tn,J,H2,e,I2,T,st2,f2,W,⟨m0,w0⟩,hW⟩:=h2;subst e;refine Yq (RR:=λacc C=>compPost (model X.prog X.w) X.A X.xe (some (assign (.Name x pos') X.env)) (λ_ s'=>SP X pins D .next s') acc C) hc B hg ht he I2 T st2 f2 w0 hW λl C s4 ys H' m hC nC nl hlC hm I4 fin=>?_;show wpAny _ X.A (assign (.Name x pos') X.env (.ref l)) _ _ s4;refine wpAny_assign_Name (js I4 hN hxi (.inl hx) (v:=.ref l) rfl (λs5 I5 hsb=>?_) (.inr hx));obtain⟨a,sb,ha⟩:=hsb
 have hCa:C≠a:=by
  rcases ha with rfl | ha
  ·exact Nat.ne_of_gt (Nat.lt_of_lt_of_le I2.lt hC)
  ·obtain⟨v,q⟩:=I2.cell x a ha;exact Nat.ne_of_gt (Nat.lt_of_lt_of_le q.lt hC)
 exact⟨m,hm.sameBut sb hCa,λh' hs'=>⟨_,_,I2.letgo I5 hC (by rw[qf (Ne.symm hlC)];exact nC) hs',fin l nl⟩⟩
end
end L2
namespace L2
open PySem PySem.Spec PyProof.Rows
mutual
noncomputable def DV(K:Frag)(H:Hp):PyData->V->Prop
 |.none,v=>v=.non
 |.bool b,v=>v=.bl b
 |.int i,v=>v=.int i
 |.str x,v=>v=.str x
 |.list ds,v=>∃a xs,v=.ref a/\SqL K H a xs/\DVs K H ds xs
 |.tuple ds,v=>∃a xs,v=.ref a/\SqT K H a xs/\DVs K H ds xs
 |.dict _,_=>False
noncomputable def DVs(K:Frag)(H:Hp):List PyData->List V->Prop
 |[],xs=>xs=[]
 | d::ds,xs=>∃x r,xs=x::r/\DV K H d x/\DVs K H ds r
end
section
variable{X:Cx}{pins:PP}{σ:St}{H:Hp}{s:Shared}
mutual
theorem DV.reads(I:Inv X pins σ H s):∀{d:PyData} {v:V} {u:Value},DV X.K H d v->qB v u->∃as,Reads s.heap u d as
 |.none,v,u,h,r=>by
  have h:v=.non:=by simpa [DV] using h
  subst h;cases r;exact⟨_,Reads.none⟩
 |.bool b,v,u,h,r=>by
  have h:v=.bl b:=by simpa [DV] using h
  subst h;cases r;exact⟨_,Reads.bool b⟩
 |.int i,v,u,h,r=>by
  have h:v=.int i:=by simpa [DV] using h
  subst h;obtain⟨t,rfl⟩:=r;exact⟨_,Reads.int i t⟩
 |.str x,v,u,h,r=>by
  have h:v=.str x:=by simpa [DV] using h
  subst h;obtain⟨t,rfl⟩:=r;exact⟨_,Reads.str x t⟩
 |.list ds,v,u,h,r=>by
  have h:∃a xs,v=.ref a/\SqL X.K H a xs/\DVs X.K H ds xs:=by simpa [DV] using h
  obtain⟨a,xs,rfl,hq,hd⟩:=h;cases r;obtain⟨its,rv,pl,_⟩:=I.list hq;obtain⟨as,ra⟩:=DVs.reads I hd rv;obtain⟨o,ho,hc,n,hdd⟩:=pl.isList;exact⟨_,reads_list_at ho hc hdd (by simpa using ra)⟩
 |.tuple ds,v,u,h,r=>by
  have h:∃a xs,v=.ref a/\SqT X.K H a xs/\DVs X.K H ds xs:=by simpa [DV] using h
  obtain⟨a,xs,rfl,hq,hd⟩:=h;cases r;obtain⟨its,rv,pl,_⟩:=I.tuple hq;obtain⟨as,ra⟩:=DVs.reads I hd rv;obtain⟨o,ho,hc,n,hdd⟩:=pl;exact⟨_,reads_tuple_at ho hc hdd (by simpa using ra)⟩
 |.dict _,v,u,h,r=>by simp[DV] at h
theorem DVs.reads(I:Inv X pins σ H s):∀{ds:List PyData} {vs:List V} {us:List Value},DVs X.K H ds vs->qr vs us->∃as,ReadsAll s.heap us ds as
 |[],vs,us,h,r=>by
  have h:vs=[]:=by simpa [DVs] using h
  subst h;cases r;exact⟨_,ReadsAll.nil⟩
 | d::ds,vs,us,h,r=>by
  have h:∃x r,vs=x::r/\DV X.K H d x/\DVs X.K H ds r:=by simpa [DVs] using h
  obtain⟨x,rr,rfl,h1,h2⟩:=h
  cases r with
  |cons r1 r2=>obtain⟨as,ra⟩:=DV.reads I h1 r1;obtain⟨bs,rb⟩:=DVs.reads I h2 r2;exact⟨_,ReadsAll.cons ra rb⟩
end
noncomputable def qlT(K:Frag):R2:=λx y H Q=>∃d e,DV K H d x/\DV K H e y/\SeqAt.shaped d=true/\SeqAt.shaped e=true/\Q (.bl (PyData.eqv d e)) H
noncomputable def qlU(K:Frag):R2:=λx y H Q=>∃d e,DV K H d x/\DV K H e y/\SeqAt.shaped d=true/\SeqAt.shaped e=true/\Q (.bl (!PyData.eqv d e)) H
theorem qhn(hu:X.A.units+64 < cLine):OpR X (compareOp .Eq) (qlT X.K):=by intro pins s σ H x y v u Q I rx ry h;obtain⟨d,e,hd,he,sd,se,q⟩:=h;obtain⟨as,ra⟩:=DV.reads I hd rx;obtain⟨bs,rb⟩:=DV.reads I he ry;exact eq_dataH ra rb sd se hu ⟨.bl _,H,I,rfl,q⟩
theorem qho(hu:X.A.units+64 < cLine):OpR X (compareOp .NotEq) (qlU X.K):=by intro pins s σ H x y v u Q I rx ry h;obtain⟨d,e,hd,he,sd,se,q⟩:=h;obtain⟨as,ra⟩:=DV.reads I hd rx;obtain⟨bs,rb⟩:=DV.reads I he ry;exact ne_dataH ra rb sd se hu ⟨.bl _,H,I,rfl,q⟩
theorem qcU:qH X (.builtin "isinstance") (λvs H Q=>∃x n t b,vs=[x,.ty n]/\TyOf X.K H x t/\PySem.W.kitOne X.K t (.type n)=some b/\Q (.bl b) H):=by intro pins s σ H xs us Q I r h;obtain⟨x,n,t,b,rfl,ty,e,q⟩:=h;obtain⟨u,w,rfl,rx,rn⟩:=Jv r;cases rn;exact J8 I rx ty e λtk=>⟨.bl b,H,I.tok tk,rfl,q⟩
theorem Yr:∀(bs:List Bool),((List.range bs.length).all λi=>bs.getD i false)=bs.all id:=by
 intro bs;rw[Bool.eq_iff_iff,List.all_eq_true,List.all_eq_true];constructor
 ·intro h x hx;obtain⟨i,hi,rfl⟩:=List.mem_iff_getElem.mp hx
  have:=h i (List.mem_range.mpr hi)
  simpa [hi] using this
 ·intro h i hi;have hi:=List.mem_range.mp hi
  have:=h bs[i] (List.getElem_mem hi)
  simpa [hi] using this
theorem Z2{p:Addr}{bs:List Bool}(hc:X.calm=true)(I:Inv X pins σ H s)(hq:SqL X.K H p (bs.map V.bl)){Q:VK}{k:Bool}(q:Q (.bl k) H)(f:(Nat->Bool)->Bool)(hk:f (λi=>bs.getD i false)=k) :
  wpAny (model X.prog X.w) X.A.in1 (pyIter (.ref p)) (λit s2=>∃I fp wr n P St tr,it=.ref I/\Walks X.prog X.w X.A.in1 I fp wr n P St/\St 0 s2.heap/\TruthOf X.prog X.w X.A.in1 P tr/\n=bs.length/\
   ∀h' tk,(∀b o,b∉wr->s2.heap.get? b=some o->h'.get? b=some o)->tr=(λi=>bs.getD i false)/\EP X pins σ Q (.bool k) { s2 with heap:=h',toks:=tk }) X.xe s:=by
 obtain⟨its,rv,pl,hz⟩:=I.list hq;have hlt:p < s.heap.objs.size:=by obtain⟨_,e,_⟩:=pl.isList;exact Heap.lt_size e
 refine wpAny_pyIter_list pl.isList ?_;refine⟨s.heap.objs.size,_,_,_,_,_,λi=>bs.getD i false,rfl,Walks.list (prog:=X.prog) (w:=X.w) (A:=X.A.in1) (show X.A.in1.handled=none from I.ok.hd hc) _ p (Nat.ne_of_lt hlt) its.toArray,⟨⟨_,Heap.get?_push_size _ rfl,rfl,rfl⟩,pl.isList.push _⟩,?_,?_,λh' tk kp=>⟨rfl,.bl k,H,?_,rfl,q⟩⟩
 ·intro i v s' Q' E' hv hq';have hv:its[i]?=some v:=by simpa using hv
  have hi:i < its.length:=(List.getElem?_eq_some_iff.mp hv).1;have hl:=rv.length;rw[List.length_map] at hl
  have hb:(bs.map V.bl)[i]?=some (.bl (bs.getD i false)):=by rw[List.getElem?_map,List.getElem?_eq_getElem (1:)];simp[show i < bs.length by omega]
  obtain⟨u,hu,ru⟩:=rv.get hb;rw[hv] at hu;cases hu;cases ru;exact wpAny_truthy_bool hq'
 ·have hl:=rv.length;rw[List.length_map] at hl;simp[hl]
 ·refine I.kept (t':=tk) λb o e=>kp b o (λhb=>?_) (Heap.get?_push_of_some _ e)
  have:b=s.heap.objs.size:=by simpa using hb
  exact Nat.ne_of_lt (Heap.lt_size e) this
theorem qa5(hc:X.calm=true):qH X (.builtin "all") (λvs H Q=>∃(p:Addr) (bs:List Bool),vs=[.ref p]/\SqL X.K H p (bs.map V.bl)/\Q (.bl (bs.all id)) H):=by intro pins s σ H xs us Q I r h;obtain⟨p,bs,rfl,hq,q⟩:=h;obtain⟨u,rfl,rx⟩:=jb r;cases rx;refine call_all_walk (thn (Z2 hc I hq q (λf=>(List.range bs.length).all f) (Yr bs)) λit s2 h2=>?_);obtain⟨I',fp,wr,n,P,St,tr,rfl,W,st,tt,hn,fin⟩:=h2;subst hn;refine⟨I',fp,wr,_,P,St,tr,rfl,W,st,tt,λh' tk kp=>?_⟩;obtain⟨rfl,e⟩:=fin h' tk kp;rw[Yr];exact e
noncomputable def qlV(te:TE)(tl th:TO)(ts:TE)(K:Frag):TE:=λσ H Q=>te σ H λx H1=>tl σ H1 λl H2=>th σ H2 λu H3=>ts σ H3 λz H4=>∃a xs st ys,x=.ref a/\SqL K H4 a xs/\z=.int st/\st≠0/\ys.length<=xs.length/\(∀its:List Value,qr xs its->qr ys (slicePick its.toArray l u (some st)).toList)/\∀p,H4 p=none->Q (.ref p) (upd H4 p (.lst ys))
theorem qa6{e st:Expr}{te ts:TE}{lo hi:Option Expr}{tl th:TO}{pos p2:Pos}(he:PE X e te)(hl:PO X lo tl)(hu:PO X hi th)(hst:PE X st ts):PE X (.Subscript e (.Slice lo hi (some st) p2) pos) (qlV te tl th ts X.K):=by intro pins s σ H Q I h;refine Subscript_ (thn (he pins s σ H _ I h) λv s1 hq1=>?_);obtain⟨x,H1,I1,r1,q1⟩:=hq1;refine wpAny_Slice (thn (hl pins s1 σ H1 _ I1 q1) λvl s2 ⟨l,H2,I2,pl,q2⟩=>thn (hu pins s2 σ H2 _ I2 q2) λvu s3 hq1=>?_);obtain⟨u,H3,I3,pu,q3⟩:=hq1;rw[evalPart_some];refine thn (hst pins s3 σ H3 _ I3 q3) λvs s4 hq1=>?_;obtain⟨z,H4,I4,r4,q4⟩:=hq1;obtain⟨a,xs,k,ys,rfl,hq,rfl,h0,hle,hys,q⟩:=q4;cases r1;obtain⟨t,rfl⟩:=r4;have I5:Inv X pins σ H4 { s4 with heap:=s4.heap.push { cls:=.type "slice",data:=.fields #[vl,vu,.int k t] } }:=I4.kept (t':=s4.toks) λb ob q=>Heap.get?_push_of_some _ q;obtain⟨its,rv,ht,hz⟩:=I5.list hq;have hlen:=rv.length;show wpAny (model X.prog X.w) X.A (subscriptTail e (.Slice lo hi (some st) p2) (.ref a) (.ref s4.heap.objs.size)) (EP X pins σ Q) X.xe { s4 with heap:=s4.heap.push { cls:=.type "slice",data:=.fields #[vl,vu,.int k t] } };refine tail_any ht.isList.typeIs slot_list_getitem.lookup ?_ rfl;refine wpAny_getItem_list_slice ht.isList (Heap.IsSliceOf.new ..) pl pu (.int k t) (λe=>h0 (Option.some.inj e)) ?_ (by rw[List.size_toArray];omega);have hv:=hys its rv;generalize hP:slicePick its.toArray l u (some k)=P at hv ⊢;refine⟨.ref _,_,I5.laid (t':=s4.toks) (o:=.lst ys) (λb ob q=>Heap.get?_push_of_some _ q) (Nat.le_refl _) ?_,rfl,q _ (I5.hok.fresh (Nat.le_refl _))⟩;exact⟨by omega,P.toList,0,hv,by rw[Array.toArray_toList];exact Heap.get?_push_size _ rfl⟩
theorem qcV{xs:List V}:∀its:List Value,qr xs its->qr xs.reverse (slicePick its.toArray none none (some (-1))).toList:=λits r=>by rw[PySem.W.krv_pick];exact r.reverse
end
end L2
set_option maxHeartbeats 4000000
namespace L2
open PySem PySem.Spec PyProof.Rows
section
variable{X:Cx}
theorem Jc:∀{ns:List Int} {its:List Value},qr (ns.map V.int) its->∃xs:List (Int×Tok),its=xs.map (λp=>Value.int p.1 p.2)/\ns=xs.map (·.1)
 |[],_,.nil=>⟨[],rfl,rfl⟩
 | n::ns,_,.cons r t=>by obtain⟨xs,rfl,rfl⟩:=Jc t;obtain⟨k,rfl⟩:=r;exact⟨(n,k)::xs,rfl,rfl⟩
theorem qa7(hc:X.calm=true):qH X (.builtin "sum") (λvs H Q=>∃(p:Addr) (ns:List Int),vs=[.ref p]/\SqL X.K H p (ns.map V.int)/\Q (.int ns.sum) H):=by
 intro pins s σ H xs us Q I r h;obtain⟨p,ns,rfl,hq,q⟩:=h;obtain⟨u,rfl,rx⟩:=jb r;cases rx;obtain⟨its,rv,pl,hz⟩:=I.list hq;obtain⟨zs,rfl,rfl⟩:=Jc rv
 have hl:s.heap.IsList p (intItems zs.toArray):=by
  have e:(zs.map λp=>Value.int p.1 p.2).toArray=intItems zs.toArray:=by simp[intItems]
  rw[<-e];exact pl.isList
 refine sum_intListG (I.ok.hd hc) hl λh' tk t' hk=>?_;refine⟨.int _,H,I.kept (t':=tk) hk,⟨t',?_⟩,q⟩;rw[preSum_eq,List.take_of_length_le (by simp)]
end
end L2
namespace L2
open PySem PySem.Spec PyProof.Rows
section
variable{κ:Type}[DecidableEq κ]
def Yt(kvs:List (κ×V))(k:κ):Option V:=(kvs.find? λkv=>decide (kv.1=k)).map (·.2)
noncomputable def qa8(kvs:List (κ×V))(k:κ)(v:V):List (κ×V):=
 if (kvs.any λkv=>decide (kv.1=k))=true then kvs.map (λkv=>if kv.1=k then (kv.1,v) else kv) else kvs++[(k,v)]
theorem jy{p:κ×V}{r:List (κ×V)}{k:κ}(e:p.1=k):Yt (p::r) k=some p.2:=by simp[Yt,List.find?_cons,e]
theorem jz{p:κ×V}{r:List (κ×V)}{k:κ}(e:¬ p.1=k):Yt (p::r) k=Yt r k:=by simp[Yt,List.find?_cons,e]
theorem JA(k:κ):∀kvs:List (κ×V),(kvs.any λkv=>decide (kv.1=k))=(Yt kvs k).isSome
 |[]=>rfl
 | p::r=>by
  rw[List.any_cons]
  by_cases e:p.1=k
  ·simp only[jy e,decide_eq_true e,Bool.true_or,Option.isSome_some]
  ·rw[jz e,decide_eq_false e,Bool.false_or];exact JA k r
theorem Qn(kvs:List (κ×V))(k:κ)(v:V):(qa8 kvs k v).length<=kvs.length+1:=by
 unfold qa8;split
 ·rw[List.length_map];omega
 ·rw[List.length_append,List.length_cons,List.length_nil];omega
theorem qcW{kvs:List (κ×V)}{k:κ}(v:V)(h:Yt kvs k=none):qa8 kvs k v=kvs++[(k,v)]:=by unfold qa8;rw[JA,h];exact if_neg (2:)
theorem J2.getD{o:Option V}{u:Option Value}{d:V}{d':Value}(r:J2 o u)(rd:qB d d'):qB (o.getD d) (u.getD d'):=by
 cases o with
 |none=>cases u with
  |none=>exact rd
  |some _=>exact(show False from r).elim
 |some _=>cases u with
  |none=>exact(show False from r).elim
  |some _=>exact r
theorem KV.val{kvs:List (κ×V)}{vs:List (κ×Value)}(r:KV kvs vs)(k:κ):J2 (Yt kvs k) (valueAt vs k):=by
 unfold KV at r
 induction r with
 |nil=>exact True.intro
 |@cons p q ps qs h t ih=>
  obtain⟨h1,h2⟩:=h
  by_cases e:p.1=k
  ·have e':q.1=k:=h1.symm.trans e;have b:valueAt (q::qs) k=some q.2:=by simp[valueAt,List.find?_cons,e']
   rw[jy e,b];exact h2
  ·have e':¬ q.1=k:=λz=>e (h1.trans z);have b:valueAt (q::qs) k=valueAt qs k:=by simp[valueAt,List.find?_cons,e']
   rw[jz e,b];exact ih
theorem KV.any{kvs:List (κ×V)}{vs:List (κ×Value)}(r:KV kvs vs)(k:κ):(kvs.any λkv=>decide (kv.1=k))=vs.any λkv=>decide (kv.1=k):=by
 unfold KV at r
 induction r with
 |nil=>rfl
 |cons h t ih=>rw[List.any_cons,List.any_cons,ih,h.1]
theorem KV.repl{kvs:List (κ×V)}{vs:List (κ×Value)}(r:KV kvs vs)(k:κ){y:V}{u:Value}(ry:qB y u) :
  KV (kvs.map λkv=>if kv.1=k then (kv.1,y) else kv) (vs.map λkv=>if kv.1=k then (kv.1,u) else kv):=by
 unfold KV at r ⊢
 induction r with
 |nil=>exact .nil
 |@cons p q ps qs h t ih=>
  rw[List.map_cons,List.map_cons];refine .cons ?_ ih;obtain⟨h1,h2⟩:=h
  by_cases e:p.1=k
  ·rw[if_pos e,if_pos (h1.symm.trans e)];exact⟨h1,ry⟩
  ·rw[if_neg e,if_neg (λz=>e (h1.trans z))];exact⟨h1,h2⟩
theorem KV.put{kvs:List (κ×V)}{vs:List (κ×Value)}(r:KV kvs vs)(k:κ){y:V}{u:Value}(ry:qB y u):KV (qa8 kvs k y) (stored vs k u):=by
 unfold qa8 stored;rw[r.any k]
 by_cases e:(vs.any λkv=>decide (kv.1=k))=true
 ·rw[if_pos e,if_pos e];exact r.repl k ry
 ·rw[if_neg e,if_neg e];exact Paired.snoc r ⟨rfl,ry⟩
theorem KV.keys{kvs:List (κ×V)}{vs:List (κ×Value)}(r:KV kvs vs):kvs.map (·.1)=vs.map (·.1):=by
 unfold KV at r
 induction r with
 |nil=>rfl
 |cons h t ih=>rw[List.map_cons,List.map_cons,ih,h.1]
theorem KV.length{kvs:List (κ×V)}{vs:List (κ×Value)}(r:KV kvs vs):kvs.length=vs.length:=Paired.length r
end
theorem qa9{P:Program}{w:World}{k:Key}{u:Value}(r:qB (kV k) u):(qq P w).is k u=true:=by
 cases k with
 |inl i=>obtain⟨t,e⟩:=(show∃t,u=Value.int i t from r);subst e;exact Qf P w i t
 |inr x=>obtain⟨t,e⟩:=(show∃t,u=Value.str x t from r);subst e;exact Qg P w x t
theorem Yu{P:Program}{w:World}:∀{ks:List Key} {us:List Value},qr (ks.map kV) us->ItemsAre (qq P w) ks us
 |[],_,r=>by rw[List.map_nil] at r;cases r;exact .nil
 | k::ks,_,r=>by
  rw[List.map_cons] at r
  cases r with
  |cons h t=>exact .cons (qa9 h) (Yu t)
noncomputable abbrev KT(H:Hp):List (List Key×V)->List (List Key×Addr×Value)->Prop:=Paired λp q=>p.1=q.1/\H q.2.1=some (.tup (p.1.map kV))/\qB p.2 q.2.2
theorem KT.val{H:Hp}{kvs:List (List Key×V)}{xs:List (List Key×Addr×Value)}(r:KT H kvs xs)(k:List Key):J2 (Yt kvs k) ((atKey xs k).map (·.2)):=by
 induction r with
 |nil=>exact True.intro
 |@cons p q ps qs h t ih=>
  obtain⟨h1,_,h2⟩:=h
  by_cases e:p.1=k
  ·have e':q.1=k:=h1.symm.trans e;have b:atKey (q::qs) k=some q.2:=by simp[atKey,List.find?_cons,e']
   rw[jy e,b];exact h2
  ·have e':¬ q.1=k:=λz=>e (h1.trans z);have b:atKey (q::qs) k=atKey qs k:=by simp[atKey,List.find?_cons,e']
   rw[jz e,b];exact ih
section
variable{P:Program}{w:World}{H:Hp}{h:Heap}{a:Addr}
theorem qhp{u:HO}(ok:HOk P w H h)(e:Rd H a u):qy P w H h a u:=e.ok ok
theorem qba{kvs:List (Key×V)}(ok:HOk P w H h)(e:Rd H a (.dK kvs)):kvs.length<=sizeLine/\(a == sysModules)=false/\∃vs,KV kvs vs/\h.DictOf (qq P w) a vs:=
 show qy P w H h a (.dK kvs) from qhp ok e
theorem qkc{kvs:List (Key×V)}(ok:HOk P w H h)(e:H a=some (.dK kvs)):kvs.length<=sizeLine/\(a == sysModules)=false/\∃vs,KV kvs vs/\h.DictOf (qq P w) a vs:=qba ok (.inl e)
theorem qbb{ks:List Key}(ok:HOk P w H h)(e:H a=some (.tup (ks.map kV))):(tupleKind (qq P w)).is h ks a:=by obtain⟨_,its,r,o,h1,h2,n,h3⟩:=(show qy P w H h a (.tup (ks.map kV)) from ok a _ e);exact⟨o,its.toArray,n,h1,h2,h3,by simpa using Yu r⟩
theorem qcX{kvs:List (List Key×V)}(ok:HOk P w H h)(e:Rd H a (.dT kvs)):kvs.length<=sizeLine/\(a == sysModules)=false/\
  ∃xs,KT H kvs xs/\h.DictOfH (tupleKind (qq P w)) a xs:=by
 obtain⟨z,y,xs,r,o,es,ep,h1,h2,h3,h4,h5⟩:=(show qy P w H h a (.dT kvs) from qhp ok e);refine⟨z,y,xs,r,o,es,ep,h1,h2,h3,h4,λx hx=>?_,h5⟩
 have all:∀{l:List (List Key×V)} {m:List (List Key×Addr×Value)},KT H l m->∀x∈m,(tupleKind (qq P w)).is h x.1 x.2.1:=by
  intro l m q
  induction q with
  |nil=>intro x hx;exact nomatch hx
  |@cons p q ps qs hq t ih=>
   intro x hx;rcases List.mem_cons.mp hx with e | hx
   ·subst e;exact qbb ok (by rw[<-hq.1];exact hq.2.1)
   ·exact ih x hx
 exact all r x hx
end
noncomputable def qcY(H:Hp)(a:Addr)(y:V)(r:Option V):Prop:=
 (∃kvs k,Rd H a (.dK kvs)/\y=kV k/\r=Yt kvs k)\/∃kvs k b,Rd H a (.dT kvs)/\y=.ref b/\H b=some (.tup (k.map kV))/\r=Yt kvs k
theorem qcY.k{H:Hp}{a:Addr}{kvs:List (Key×V)}{k:Key}(e:H a=some (.dK kvs)):qcY H a (kV k) (Yt kvs k):=.inl ⟨kvs,k,.inl e,rfl,rfl⟩
section
variable{X:Cx}{pins:PP}{σ:St}{H:Hp}{s:Shared}{a:Addr}{y v:V}{u r:Value}{o:Option V}{A:Around}{E:PQ}
theorem Inv.big(I:Inv X pins σ H s):sysModules < s.heap.objs.size:=by have h:mainGlobals < s.heap.objs.size:=(I.mod.glob.keeps I.bk).lt;exact Nat.lt_trans (2:) h
theorem qbc{Q:PQ}(hu:A.units+1 < cLine)(I:Inv X pins σ H s)(g:qcY H a y (some v))(ry:qB y u)(h:∀w' s',Inv X pins σ H s'->qB v w'->Q w' s') :
  wpAny (model X.prog X.w) A (getItem (.ref a) u) Q E s:=by
 rcases g with ⟨kvs,k,e,ey,l⟩ | ⟨kvs,k,b,e,ey,eb,l⟩
 ·subst ey;obtain⟨z,hd,vs,rel,dd⟩:=qba I.hok e;obtain⟨w',hw,rw'⟩:=J2.some_of (v:=v) (o:=valueAt vs k) (by rw[l];exact rel.val k);exact wpAny_getItem_of (qa9 ry) dd.mapOf hw (h w' _ (I.tok _) rw')
 ·subst ey
  cases (show u=Value.ref b from ry)
  obtain⟨z,hd,xs,rel,dd⟩:=qcX I.hok e;obtain⟨w',hw,rw'⟩:=J2.some_of (v:=v) (o:=(atKey xs k).map (·.2)) (by rw[l];exact rel.val k);obtain⟨p,hp,hp2⟩:=Option.map_eq_some_iff.mp hw;refine wpAny_getItem_heap (tupleKind_room_in1 hu) (qbb I.hok eb) dd hp ?_;rw[hp2];exact h w' _ (I.tok _) rw'
theorem qfe{h':Heap}{t':Nat}{ob:HO}(I:Inv X pins σ H s)(mu:Mut (H a))(hs:Heap.SameBut a s.heap h')(he:∃q,h'.get? a=some q)(new:qy X.prog X.w (upd H a ob) h' a ob) :
  Inv X pins σ (upd H a ob) { s with heap:=h',toks:=t' }:=
 I.write (x:=a) (e:=a) mu (.inl rfl) (λb q hb z=>(hs.2 b hb).trans z) he new
theorem qeg{P:Program}{w:World}{H':Hp}{h':Heap}{kvs:List (Key×V)}{vs:List (Key×Value)}(z:kvs.length<=sizeLine)(hd:(a == sysModules)=false)(rel:KV kvs vs)(dd:h'.DictOf (qq P w) a vs) :
  qy P w H' h' a (.dK kvs):=⟨z,hd,vs,rel,dd⟩
end
theorem Qo{X:Cx}{pins:PP}{σ:St}{H:Hp}{s:Shared}{a:Addr}{y:V}{o:Option V}(I:Inv X pins σ H s)(g:qcY H a y o):s.TypeIs (.ref a) "dict":=by
 rcases g with ⟨kvs,k,e,_,_⟩ | ⟨kvs,k,b,e,_,_,_⟩
 ·obtain⟨_,_,vs,_,dd⟩:=qba I.hok e;exact dd.typeIs
 ·obtain⟨_,_,xs,_,dd⟩:=qcX I.hok e;exact dd.typeIs
theorem qcZ{P:Program}{w:World}{H:Hp}(h:Heap)(hb:sysModules < h.objs.size):qy P w H (h.push { cls:=.type "dict",data:=.dict #[] }) h.objs.size (.dK []):=
 ⟨Nat.zero_le _,beq_eq_false_iff_ne.mpr (Ne.symm (Nat.ne_of_lt hb)),[],.nil,Heap.DictOf.new h⟩
noncomputable def Zb:List (TE×TE)->St->Hp->(List (V×V)->Hp->Prop)->Prop
 |[],_,H,Q=>Q [] H
 | (tk,tv)::r,σ,H,Q=>tk σ H λx H1=>tv σ H1 λy H2=>Zb r σ H2 λps H3=>Q ((x,y)::ps) H3
abbrev VV:List (V×V)->List (Value×Value)->Prop:=Paired λp q=>qB p.1 q.1/\qB p.2 q.2
noncomputable def PPs(X:Cx)(pos:Pos)(keys:List (Option Expr))(values:List Expr)(trs:List (TE×TE)):Prop:=
 ∀(pins:PP) (s:Shared) (σ:St) (H:Hp) (Q:List (V×V)->Hp->Prop),Inv X pins σ H s->Zb trs σ H Q->
  wpAny (model X.prog X.w) X.A (evalPairs (pairTrees keys values X.env pos)) (λvs s'=>∃ps H',Inv X pins σ H' s'/\VV ps vs/\Q ps H') X.xe s
theorem qff{X:Cx}{pos:Pos}:PPs X pos [] [] []:=λpins s σ H Q I h=>pairTrees_nil_walk ⟨[],H,I,.nil,h⟩
theorem qc0{X:Cx}{pos:Pos}{k v:Expr}{ks:List (Option Expr)}{vs:List Expr}{tk tv:TE}{trs:List (TE×TE)}(hk:PE X k tk)(hv:PE X v tv)(hr:PPs X pos ks vs trs) :
  PPs X pos (some k::ks) (v::vs) ((tk,tv)::trs):=λpins s σ H Q I h=>
 pairTrees_cons_walk (thn (hk pins s σ H _ I h) λu s1 ⟨x,H1,I1,rx,q1⟩=>thn (hv pins s1 σ H1 _ I1 q1) λw2 s2 ⟨y,H2,I2,ry,q2⟩=>thn (hr pins s2 σ H2 _ I2 q2) λws s3 ⟨ps,H3,I3,rel,q3⟩=>⟨(x,y)::ps,H3,I3,.cons ⟨rx,ry⟩ rel,q3⟩)
def yB(kvs more:List (Key×V)):List (Key×V):=more.foldl (λacc kv=>qa8 acc kv.1 kv.2) kvs
theorem KV.merge:∀{more:List (Key×V)} {rs:List (Key×Value)} {kvs:List (Key×V)} {vs:List (Key×Value)},KV more rs->KV kvs vs->KV (yB kvs more) (merged vs rs):=by
 intro more rs kvs vs r;unfold KV at r
 induction r generalizing kvs vs with
 |nil=>intro q;exact q
 |@cons p q ps qs h t ih=>
  intro r0
  have e:KV (qa8 kvs p.1 p.2) (stored vs q.1 q.2):=by
   have:=r0.put p.1 h.2
   rw[<-h.1];exact this
  exact ih e
theorem jA:∀(more kvs:List (Key×V)),(yB kvs more).length<=kvs.length+more.length
 |[],kvs=>by show kvs.length<=kvs.length+0;omega
 | p::r,kvs=>by have h1:=jA r (qa8 kvs p.1 p.2);have h2:=Qn kvs p.1 p.2;show(yB (qa8 kvs p.1 p.2) r).length<=_;rw[List.length_cons];omega
theorem Jd{P:Program}{w:World}:∀{kvs:List (Key×V)} {ws:List (Value×Value)},VV (kvs.map λkv=>(kV kv.1,kv.2)) ws->∃rs,Carries (qq P w) ws rs/\KV kvs rs
 |[],_,r=>by rw[List.map_nil] at r;cases r;exact⟨[],True.intro,.nil⟩
 | p::kvs,_,r=>by
  rw[List.map_cons] at r
  cases r with
  |@cons a b as bs h t=>obtain⟨rs,c,q⟩:=Jd (P:=P) (w:=w) t;obtain⟨b1,b2⟩:=b;exact⟨(p.1,b2)::rs,⟨qa9 h.1,rfl,c⟩,.cons ⟨rfl,h.2⟩ q⟩
noncomputable def qkd(trs:List (TE×TE)):TE:=λσ H Q=>∀p,H p=none->Zb trs σ (upd H p (.dK [])) λps H2=>H2 p=some (.dK [])/\∃kvs:List (Key×V),ps=kvs.map (λkv=>(kV kv.1,kv.2))/\kvs.length<=15/\Q (.ref p) (upd H2 p (.dK (yB [] kvs)))
theorem qfg{X:Cx}{pos:Pos}{keys:List (Option Expr)}{values:List Expr}{trs:List (TE×TE)}(h:PPs X pos keys values trs)(hall:keys.all (·.isSome)=true)(hl:keys.length=values.length)(h0:keys≠[])
  (h15:keys.length<=15):PE X (.Dict keys values pos) (qkd trs):=by
 intro pins s σ H Q I q;have hn:=I.hok.fresh (Nat.le_refl s.heap.objs.size);have I1:=I.laid (a:=s.heap.objs.size) (o:=.dK []) (h':=s.heap.push { cls:=.type "dict",data:=.dict #[] }) (t':=s.toks) (λ_ _ q=>Heap.get?_push_of_some _ q) (Nat.le_refl _) (qcZ s.heap I.big);refine wpAny_Dict_walk (knd:=qq X.prog X.w) hall hl h0 h15 (thn (h pins _ σ _ _ I1 (q _ hn)) λws s2 hq1=>?_);obtain⟨ps,H2,I2,rel,e,kvs,ep,lk,q2⟩:=hq1;subst ep;obtain⟨rs,c,rk⟩:=Jd (P:=X.prog) (w:=X.w) rel;obtain⟨z,hd,vs0,r0,dd⟩:=qkc I2.hok e;cases r0;refine⟨rs,c,dd,λh' dd' hs=>⟨.ref s.heap.objs.size,_,?_,rfl,q2⟩⟩
 have hz:(yB [] kvs).length<=sizeLine:=by have h1:=jA kvs [];rw[List.length_nil] at h1;rw[sizeLine_eq];omega
 have he:∃q,h'.get? s.heap.objs.size=some q:=let ⟨q,_,_,hq,_⟩:=dd';⟨q,hq⟩;exact qfe I2 (by rw[e];exact True.intro) hs he (qeg hz hd (rk.merge .nil) dd')
structure M2(X:Cx)(o:Expr)(m:Str)(apos:Pos)(e f:Expr)(cpos:Pos):Prop where
 base:attributeBase o m X.env (eval o X.env)=eval o X.env
 few:((backTo cpos (starEach [e,f] X.env)).all (λx=>!x.1)&&(backToKw cpos (keywordEach [] X.env)).all (λx=>x.1.isSome)
  && decide (([e,f]:List Expr).length+([]:List Keyword).length+(if ([]:List Keyword).isEmpty then 0 else 1) < 30))=true
 line:(apos.endLine == cpos.line)=true
 trees:backTo cpos (starEach [e,f] X.env)=[(false,eval e X.env),(false,eval f X.env)]
def IsD(H:Hp)(a:Addr):Prop:=(∃kvs,Rd H a (.dK kvs))\/∃kvs,Rd H a (.dT kvs)
theorem qhq{X:Cx}{pins:PP}{σ:St}{H:Hp}{s:Shared}{a:Addr}(I:Inv X pins σ H s)(d:IsD H a) :
  s.TypeIs (.ref a) "dict"/\(∀b,Value.ref a=.ref b->∃ob,s.heap.get? b=some ob/\ob.dict=none)/\(a == sysModules)=false:=by
 rcases d with ⟨kvs,e⟩ | ⟨kvs,e⟩
 ·obtain⟨_,hd,vs,_,dd⟩:=qba I.hok e;refine⟨dd.typeIs,λb q=>?_,hd⟩;cases q;obtain⟨ob,_,_,h1,h2,_⟩:=dd;exact⟨ob,h1,h2.2.1⟩
 ·obtain⟨_,hd,xs,_,dd⟩:=qcX I.hok e;refine⟨dd.typeIs,λb q=>?_,hd⟩;cases q;obtain⟨ob,_,_,h1,h2,_⟩:=dd;exact⟨ob,h1,h2.2.1⟩
section
variable{X:Cx}{pins:PP}{σ:St}{H:Hp}{s:Shared}{a:Addr}{y d:V}{u r:Value}{o:Option V}{A:Around}{E:PQ}
theorem qhr{Q:PQ}(hu:A.units+1 < cLine)(I:Inv X pins σ H s)(g:qcY H a y o)(ry:qB y u)(rd:qB d r)(h:∀w' s',Inv X pins σ H s'->qB (o.getD d) w'->Q w' s') :
  wpAny (model X.prog X.w) A (call (.builtin "dict.get") [.ref a,u,r]) Q E s:=by
 rcases g with ⟨kvs,k,e,ey,l⟩ | ⟨kvs,k,b,e,ey,eb,l⟩
 ·subst ey;obtain⟨z,hd,vs,rel,dd⟩:=qba I.hok e;refine call_meetsIn PySem.F.slot_dict_get dd.typeIs PySem.F.entry_dict_get (PySem.F.args_dict_get_3 _ _ _) (meets_dict_get_default (qq X.prog X.w) a (qa9 ry) hd r) ⟨_,dd.mapOf,h _ _ (I.tok _) ?_⟩;rw[l];exact(rel.val k).getD rd
 ·subst ey
  cases (show u=Value.ref b from ry)
  obtain⟨z,hd,xs,rel,dd⟩:=qcX I.hok e;refine call_meetsIn PySem.F.slot_dict_get dd.typeIs PySem.F.entry_dict_get (PySem.F.args_dict_get_3 _ _ _) (meetsH_dict_get_default (tupleKind (qq X.prog X.w)) a b hd r) ⟨tupleKind_room_in1 hu,k,xs,qbb I.hok eb,dd,h _ _ (I.tok _) ?_⟩;rw[l];exact(rel.val k).getD rd
end
noncomputable def qhs(td ty tx:TE):TE:=λσ H Q=>td σ H λx H1=>∃a,x=.ref a/\IsD H1 a/\ty σ H1 λy H2=>tx σ H2 λz H3=>∃o,qcY H3 a y o/\Q (o.getD z) H3
section
variable{X:Cx}{o e f:Expr}{apos cpos:Pos}{td ty tx:TE}
theorem qc1(hu:X.A.units+1 < cLine)(ho:PE X o td)(he:PE X e ty)(hf:PE X f tx)(m:M2 X o "get" apos e f cpos):PE X (.Call (.Attribute o "get" apos) [e,f] [] cpos) (qhs td ty tx):=by
 intro pins s σ H Q I h;refine wpAny_Call_method m.base m.few m.line PySem.F.plainAttrs_dict PySem.F.slot_dict_get PySem.F.type_dict_get (thn (ho pins s σ H _ I h) λu s1 hq1=>?_);obtain⟨x,H1,I1,rx,a,ex,d,q1⟩:=hq1;subst ex;obtain rfl:u=Value.ref a:=rx;obtain⟨t1,t2,_⟩:=qhq I1 d;refine⟨t1,t2,?_⟩;rw[m.trees]
 refine Calls.callWith_builtin rfl (Calls.evalArgs_plain (Calls.spliced_cons (thn (he pins s1 σ H1 _ I1 q1) λiv s2 ⟨y,H2,I2,ry,q2⟩=>Calls.spliced_cons (thn (hf pins s2 σ H2 _ I2 q2) λfv s3 ⟨z,H3,I3,rz,ov,g,q3⟩=>Calls.spliced_nil ?_))))
 exact qhr hu I3 g ry rz λw' s4 I4 rw'=>⟨_,H3,I4,rw',q3⟩
end
end L2
namespace L2
open PySem PySem.Spec PyProof.Rows
noncomputable def yf(osc:Scope)(N:List Str)(fr:List Nat)(sc:Scope):Bool:=
 sc.kind == .function&&(sc.names.all λx=>x.2 != .cell&&(x.2 != .local||sc.names.lookup x.1 == some .local)&&(x.2 != .free||(osc.names.lookup x.1 == some .cell||osc.names.lookup x.1 == some .free)))&&fr.all λi=>sc.names.lookup (N.getD i "") == some .free
theorem qo.upd{H:Hp}{a:Addr}{o:HO}(h:H a=none):qo H (upd H a o):=λb u e=>by rw[qf (qP e h)];exact e
end L2
namespace L2
open PySem
theorem Paired.snoc{α β:Type}{R:α->β->Prop}:∀{l:List α} {m:List β} {x:α} {y:β},PySem.Paired R l m->R x y->PySem.Paired R (l++[x]) (m++[y])
 |_,_,_,_,.nil,r=>.cons r .nil
 |_,_,_,_,.cons q t,r=>.cons q (Paired.snoc t r)
end L2
namespace L2
open PySem PySem.Spec PyProof.Rows PySem.W
structure NX(fs:List Addr)(e:Addr)(oT:Option Addr)(oe:Obj)(vs:Array Value)(T':Addr)(fl:Value)(h h':Heap):Prop where
 kept:∀b o,b∉fs->b≠e->oT≠some b->h.get? b=some o->h'.get? b=some o
 frame:∀b o,b∈fs->h.get? b=some o->∃sl,h'.get? b=some { o with slots:=sl }
 obj:∃o' vs',h'.get? e=some o'/\o'.cls=oe.cls/\o'.dict=oe.dict/\o'.data=.fields vs'/\vs'[0]?=vs[0]?/\vs'[1]?=some (.ref T')
 new:h.get? T'=none
 ne:T'≠e
 ent:∃ot ts,h'.get? T'=some ot/\ot.data=.fields ts/\ts[3]?=some fl
section
variable{M:Model}{A:Around}{E:PQ}{s:Shared}{base:Heap}{env:Env}{outer:List Env}{L e:Addr}{oe:Obj}{vs:Array Value}{Q:Unit->Shared->Prop}
theorem qfh(hl:s.heap.FunFrames base (env::outer))(he:s.heap.get? e=some oe)(hd:oe.data=.fields vs):e∉frs (env::outer):=λhm=>by obtain⟨_,o,ho,hnf⟩:=hl.mem hm;rw[he] at ho;cases ho;exact hnf vs hd
theorem Je{head:Value}{hadNext:Bool}(hfr:A.frames=some (env::outer))(hl:s.heap.FunFrames base (env::outer))(hf:env.frame=some L)(he:s.heap.get? e=some oe)(hd:oe.data=.fields vs)(hsz:1 < vs.size)
  (k:∀h' T',NX (frs (env::outer)) e none oe vs T' (rawInt L) s.heap h'->Q () { s with heap:=h' }) :
  wpAny M A (do let fr<-frameOf env;let pl<-entryPlaceOf L hadNext;let en<-EntryCells.newEntry head fr .none (rawInt L) .none pl;setField (.ref e) 1 en) Q E s:=by
 have hne:=qfh hl he hd;refine wpAny_bind (wpAny_frameOf_fun hfr hl hf λh1 so=>wpAny_bind (wpAny_entryPlaceOf λpl hpl=>wpAny_bind ?_));obtain⟨so1,so2,so3⟩:=so;have e1:h1.get? e=some oe:=(so2 e hne).trans he;simp only[EntryCells.newEntry,newFields];refine wpAny_newObj_type ?_ (hpl.sizeOk5 _ _ _ _ _);generalize hob:(⟨.type "traceback",none,.fields ([head,.ref L,.none,rawInt L,.none]++(if pl.isEmpty then List.replicate 6 Value.none else pl)).toArray,#[]⟩:Obj)=tb;have hts:∃ts,tb.data=.fields ts/\ts[3]?=some (rawInt L):=⟨_,by rw[<-hob],by simp⟩;have e2:(h1.push tb).get? e=some oe:=Heap.get?_push_of_some _ e1;refine wpAny_setField e2 hd hsz (k _ h1.objs.size ?_);have hTe:h1.objs.size≠e:=Nat.ne_of_gt (Heap.lt_size e1)
 have up:∀b o,b≠e->h1.get? b=some o->((h1.push tb).update e (Obj.mapFields (·.setIfInBounds 1 (Value.ref h1.objs.size)))).get? b=some o:=λb o hb q=>by rw[Heap.get?_update_other _ _ (Ne.symm hb)];exact Heap.get?_push_of_some _ q
 have hdt:=Obj.data_mapFields hd (·.setIfInBounds 1 (Value.ref h1.objs.size));refine⟨λb o h1' h2' _ q=>up b o h2' ((so2 b h1').trans q),λb o hb q=>?_,?_,?_,hTe,?_⟩
 ·obtain⟨sl,z⟩:=so3 b o q;exact⟨sl,up b _ (λz=>hne (z▸hb)) z⟩
 ·refine⟨_,_,Heap.get?_update_self _ e2 (Obj.isFreed_of_fields hdt),Obj.cls_mapFields _ _,?_,hdt,?_,?_⟩
  ·obtain⟨c1,c2,c3,c4⟩:=oe;cases hd;rfl
  ·rw[Array.getElem?_setIfInBounds_ne (2:)]
  ·simp[hsz]
 ·cases q:s.heap.get? h1.objs.size with
  |none=>rfl
  |some o=>obtain⟨sl,z⟩:=so3 _ o q;exact absurd (Heap.lt_size z) (Nat.lt_irrefl _)
 ·obtain⟨ts,t1,t2⟩:=hts;refine⟨tb,ts,?_,t1,t2⟩;rw[Heap.get?_update_other _ _ (Ne.symm hTe)];exact Heap.get?_push_size _ (by rw[<-hob];rfl)
noncomputable def qfi(h:Heap)(e:Addr)(vs:Array Value):Option Addr->Prop
 |none=>vs[1]?=some .none
 |some T=>vs[1]?=some (.ref T)/\T≠e/\∃ot ts,h.get? T=some ot/\ot.data=.fields ts/\ts[3]?=some .none
theorem qeh{oT:Option Addr}(hfr:A.frames=some (env::outer))(hl:s.heap.FunFrames base (env::outer))(hf:env.frame=some L)(he:s.heap.get? e=some oe)(hd:oe.data=.fields vs)(hb:qfi s.heap e vs oT)
  (k:∀h' T',NX (frs (env::outer)) e oT oe vs T' (rawInt L) s.heap h'->Q () { s with heap:=h' }):wpAny M A (noteFrame (.ref e) env) Q E s:=by
 simp only[noteFrame,hf]
 cases oT with
 |none=>have hv:vs[1]?=some .none:=hb;have hsz:1 < vs.size:=(Array.getElem?_eq_some_iff.mp hv).1;refine wpAny_bind (wpAny_field he hd hv ?_);rw[if_neg (2:)];exact Je hfr hl hf he hd hsz k
 |some T=>
  obtain⟨hv,hTe,ot,ts,hT,hdT,h3⟩:=hb;have hsz:1 < vs.size:=(Array.getElem?_eq_some_iff.mp hv).1;refine wpAny_bind (wpAny_field he hd hv ?_);rw[if_pos (show(Value.ref T != Value.none)=true by simp)];refine wpAny_bind (wpAny_field hT hdT h3 ?_);rw[if_neg (show ¬ ((Value.none == rawInt L)=true) by simp[rawInt])];refine wpAny_bind (wpAny_setField hT hdT (Array.getElem?_eq_some_iff.mp h3).1 ?_);have oth:∀{b:Addr},b≠T->(s.heap.update T (Obj.mapFields (·.setIfInBounds 3 Value.none))).get? b=s.heap.get? b:=λhb=>Heap.get?_update_other _ _ (Ne.symm hb)
  have nT:∀{b:Addr} {o:Obj},s.heap.get? b=some o->(∀vs,o.data≠.fields vs)->b≠T:=λ{b o} q hn z=>by rw[z,hT] at q;cases q;exact hn ts hdT
  have hl2:(s.heap.update T (Obj.mapFields (·.setIfInBounds 3 Value.none))).FunFrames base (env::outer):=hl.of_keeps λb o q hn=>⟨o,(oth (nT q hn)).trans q,rfl⟩;refine Je (s:={ s with heap:=s.heap.update T (Obj.mapFields (·.setIfInBounds 3 Value.none)) }) hfr hl2 hf ((oth (Ne.symm hTe)).trans he) hd hsz λh' T' nx=>k h' T' ?_;obtain⟨n1,n2,n3,n4,n5,n6⟩:=nx;refine⟨λb o h1 h2 h4 q=>n1 b o h1 h2 (by simp) ((oth (λz=>h4 (by rw[z]))).trans q),λb o hb q=>n2 b o hb ((oth ?_).trans q),n3,?_,n5,n6⟩
  ·obtain⟨_,o',ho',hn⟩:=hl.mem hb;exact nT ho' hn
  ·cases q:s.heap.get? T' with
   |none=>rfl
   |some o=>
    by_cases z:T'=T
    ·subst z
     have:=Heap.get?_update_self (Obj.mapFields (·.setIfInBounds 3 Value.none)) hT (Obj.isFreed_of_fields (Obj.data_mapFields hdT _))
     rw[this] at n4;cases n4
    ·rw[oth z,q] at n4;cases n4
theorem JB{fs:List Addr}{oT:Option Addr}{T':Addr}{fl:Value}{h:Heap}(nx:NX fs e oT oe vs T' fl h s.heap)(k:∀h',NX fs e oT oe vs T' .none h h'->Q () { s with heap:=h' }):wpAny M A (setFlight (.ref e) none) Q E s:=by
 obtain⟨n1,n2,⟨o',vs',o1,o2,o3,o4,o5,o6⟩,n4,n5,ot,ts,t1,t2,t3⟩:=nx;have h3:3 < ts.size:=(Array.getElem?_eq_some_iff.mp t3).1;unfold setFlight;refine wpAny_bind (wpAny_field o1 o4 o6 ?_);rw[if_pos (show(Value.ref T' != Value.none)=true by simp)];refine wpAny_setField t1 t2 h3 (k _ ?_);have oth:∀{b:Addr},b≠T'->(s.heap.update T' (Obj.mapFields (·.setIfInBounds 3 ((none:Option Addr).elim Value.none λf=>rawInt f)))).get? b=s.heap.get? b:=λhb=>Heap.get?_update_other _ _ (Ne.symm hb)
 have nT:∀{b:Addr} {o:Obj},h.get? b=some o->b≠T':=λ{b o} q z=>by rw[z,n4] at q;cases q
 have hdt:=Obj.data_mapFields t2 (·.setIfInBounds 3 ((none:Option Addr).elim Value.none λf=>rawInt f));refine⟨λb o h1 h2 h4 q=>(oth (nT q)).trans (n1 b o h1 h2 h4 q),λb o hb q=>?_,⟨o',vs',(oth (Ne.symm n5)).trans o1,o2,o3,o4,o5,o6⟩,n4,n5,_,_,Heap.get?_update_self _ t1 (Obj.isFreed_of_fields hdt),hdt,by simp[h3]⟩;obtain⟨sl,z⟩:=n2 b o hb q;exact⟨sl,(oth (nT q)).trans z⟩
theorem qfj{oT:Option Addr}(hfr:A.frames=some (env::outer))(hl:s.heap.FunFrames base (env::outer))(hf:env.frame=some L)(he:s.heap.get? e=some oe)(hd:oe.data=.fields vs)(hb:qfi s.heap e vs oT)
  (k:∀h' T',NX (frs (env::outer)) e oT oe vs T' .none s.heap h'->Q () { s with heap:=h' }):wpAny M A (leaving env (.ref e)) Q E s:=by
 unfold leaving;exact wpAny_bind (qeh hfr hl hf he hd hb λh1 T' nx=>JB (s:={ s with heap:=h1 }) nx λh2 nx2=>k h2 T' nx2)
end
end L2
namespace L2
open PySem PySem.Spec PyProof.Rows PySem.W
noncomputable def Fly(h:Heap)(x:Addr)(C:Addr)(od oT:Option Addr):Prop:=∃oe vs,h.get? x=some oe/\oe.cls=.ref C/\oe.dict=od/\oe.data=.fields vs/\qfi h x vs oT
noncomputable def CX1(P:Program)(w:World):CXT:=λouter H s E e s'=>∃x T C od H',e=.ref x/\s'.os=s.os/\AllBare s'.gens/\Un (frs outer) [] H H' s.heap s'.heap/\HOk P w H' s'.heap/\H' x=none/\H' T=none/\
 s.heap.get? x=none/\s.heap.get? T=none/\Fly s'.heap x C od (some T)/\E (.ref C) od H'
theorem Zc{P:Program}{w:World}{H:Hp}{h:Heap}{a:Addr}{o:HO}(x:qy P w H h a o):∃ob,h.get? a=some ob:=by
 cases o with
 |lst xs=>obtain⟨z,its,n,r,e⟩:=x;exact⟨_,e⟩
 |tup xs=>obtain⟨z,its,r,ob,e,c⟩:=x;exact⟨_,e⟩
 |dK kvs=>obtain⟨z,y,vs,r,ob,es,ep,e,c⟩:=x;exact⟨_,e⟩
 |dT kvs=>obtain⟨z,y,xs,r,ob,es,ep,e,c⟩:=x;exact⟨_,e⟩
 |set S n=>obtain⟨ob,es,ep,t,e,c⟩:=x;exact⟨_,e⟩
 |ins C dx fs=>obtain⟨d,z,ne,e,_⟩:=x;exact⟨_,e⟩
 |own y=>obtain⟨ob,e⟩:=x;exact⟨_,e⟩
 |xd fs=>obtain⟨mA,⟨od,es,ep,e,c⟩,r⟩:=x;exact⟨_,e⟩
 |rng lo hi=>obtain⟨t,u,v,e⟩:=x;exact⟨_,e⟩
 |frz ob u=>obtain⟨e,q⟩:=x;exact⟨_,e⟩
 |tbl ps=>exact⟨_,x⟩
 |met f y=>exact⟨_,x⟩
 |ext φ=>obtain⟨p,⟨o,e⟩,st⟩:=x;exact⟨_,e⟩
section
variable{X:Cx}{pins:PP}{σ:St}{H:Hp}{s:Shared}
structure Mine(X:Cx)(pins:PP)(H:Hp)(x:Addr)(oT:Option Addr):Prop where
 hx:H x=none
 x0:X.s₀.heap.get? x=none
 hT:∀T,oT=some T->H T=none/\X.s₀.heap.get? T=none
 pin:∀p∈X.pn++pins,p.1≠x/\oT≠some p.1
variable{x T':Addr}{oT:Option Addr}{oe:Obj}{vs:Array Value}{h':Heap}
theorem Yv(I:Inv X pins σ H s)(hex:X.ex=[])(M:Mine X pins H x oT)(fx:∃o vs,s.heap.get? x=some o/\o.data=.fields vs)(fT:∀T,oT=some T->∃o vs,s.heap.get? T=some o/\o.data=.fields vs)(nx:NX (frs X.stack) x oT oe vs T' .none s.heap h') :
  Inv X pins σ H { s with heap:=h' }:=by
 obtain⟨k1,k2,_⟩:=nx;have nex:∀{b:Addr},b∉X.ex:=λ{b} hb=>by rw[hex] at hb;cases hb
 have s0x:∀{b:Addr} {o:Obj},X.s₀.heap.get? b=some o->b≠X.env.locals/\b≠x/\oT≠some b:=λ{b o} e=>⟨Nat.ne_of_lt (Nat.lt_of_lt_of_le (Heap.lt_size e) I.ok.above),(λz=>by rw[z,M.x0] at e;cases e),(λz=>by rw[(M.hT b z).2] at e;cases e)⟩
 have frm:∀{b:Addr},b∈frs X.stack->b=X.env.locals\/b∈X.fs:=λ{b} hb=>List.mem_cons.mp (I.stkSub b hb)
 have any:∀{b:Addr} {o:Obj},s.heap.get? b=some o->(∀vs,o.data≠.fields vs)->∃sl,h'.get? b=some { o with slots:=sl }:=λ{b o} e hn=>by
  by_cases hm:b∈frs X.stack
  ·exact k2 b o hm e
  ·refine⟨o.slots,k1 b o hm (λz=>?_) (λz=>?_) e⟩
   ·obtain⟨o',v',q,qd⟩:=fx;rw[z,q] at e;cases e;exact hn v' qd
   ·obtain⟨o',v',q,qd⟩:=fT b z;rw[q] at e;cases e;exact hn v' qd
 have cellK:∀{c:Addr} {v:Option Value},s.heap.IsCell c v->h'.IsCell c v:=λ{c v} ⟨o,ho,hd⟩=>by
  obtain⟨sl,e⟩:=any ho λvs z=>by rw[hd] at z;cases z
  exact⟨_,e,hd⟩
 refine⟨I.ok,I.os,I.bare,⟨λb o e n hb hx=>?_,λb o e n hb hx=>?_,I.base.free,λb o e hx=>?_,I.base.tups,I.base.frzs,I.base.tbls⟩,?_,λy c e=>?_,I.free,I.freeC,λp hp=>?_,λa o e=>?_,I.len⟩
 ·obtain⟨z1,z2,z3⟩:=s0x e;refine k1 b o (λz=>?_) z2 z3 (I.base.keep b o e n hb hx);rcases frm z with z | z
  ·exact z1 z
  ·exact hb z
 ·obtain⟨sl,e1⟩:=I.base.slot b o e n hb hx;obtain⟨_,o',ho',hd⟩:=I.ok.funs.mem hb;rw[e] at ho';cases ho';obtain⟨sl',e2⟩:=any e1 hd;exact⟨sl',e2⟩
 ·obtain⟨o1,e1⟩:=I.base.there b o e hx;obtain⟨z1,z2,z3⟩:=s0x e
  by_cases hm:b∈frs X.stack
  ·obtain⟨sl,e2⟩:=k2 b _ hm e1;exact⟨_,e2⟩
  ·exact⟨_,k1 b _ hm z2 z3 e1⟩
 ·obtain⟨m,⟨o,es,ep,ho,hd,r⟩,hl⟩:=I.loc;obtain⟨sl,e2⟩:=any ho λvs z=>by rw[hd] at z;cases z
  refine⟨m,⟨_,es,ep,e2,hd,r⟩,λi y v e1 e2 e3=>?_⟩;obtain⟨u,r,l⟩:=hl i y v e1 e2 e3;refine⟨u,r,?_⟩;rcases l with l | ⟨k,c,e,z⟩
  ·exact .inl l
  ·exact .inr ⟨k,c,e,cellK z⟩
 ·obtain⟨v,z⟩:=I.cell y c e;exact⟨v,cellK z⟩
 ·obtain⟨e,n,ne,nf,d⟩:=I.pin p hp;refine⟨k1 _ _ (λz=>?_) (M.pin p hp).1 (M.pin p hp).2 e,n,ne,nf,d⟩;rcases frm z with z | z
  ·exact ne z
  ·exact nf z
 ·have trk:∀{b:Addr} {u:HO},H b=some u->b∉frs X.stack/\b≠x/\oT≠some b:=λ{b u} e=>
   ⟨(λz=>by rw[I.stkFree b z] at e;cases e),(λz=>by rw[z,M.hx] at e;cases e),(λz=>by rw[(M.hT b z).1] at e;cases e)⟩
  refine(I.hok a o e).stay (λb u hb q=>?_) (λ_ q=>q) λ_ _ q=>q
  have:b∉frs X.stack/\b≠x/\oT≠some b:=by
   rcases hb with z | z
   ·rw[z];exact trk e
   ·exact trk z
  exact k1 _ _ this.1 this.2.1 this.2.2 q
theorem NX.fly{C:Addr}{od:Option Addr}{h:Heap}{fs:List Addr}(nx:NX fs x oT oe vs T' .none h h')(hc:oe.cls=.ref C)(hd:oe.dict=od):Fly h' x C od (some T'):=by obtain⟨_,_,⟨o',vs',o1,o2,o3,o4,o5,o6⟩,_,n5,ot,ts,t1,t2,t3⟩:=nx;exact⟨o',vs',o1,o2.trans hc,o3.trans hd,o4,o6,n5,ot,ts,t1,t2,t3⟩
theorem Fly.fields{C:Addr}{od:Option Addr}{h:Heap}(fl:Fly h x C od oT):(∃o vs,h.get? x=some o/\o.data=.fields vs)/\∀T,oT=some T->∃o vs,h.get? T=some o/\o.data=.fields vs:=by obtain⟨o,vs,e1,_,_,e4,b⟩:=fl;refine⟨⟨o,vs,e1,e4⟩,λT z=>?_⟩;subst z;obtain⟨_,_,ot,ts,t1,t2,_⟩:=b;exact⟨ot,ts,t1,t2⟩
theorem Inv.newH{x:Addr}(I:Inv X pins σ H s)(h:s.heap.get? x=none):H x=none:=by
 cases e:H x with
 |none=>rfl
 |some u=>obtain⟨o,q⟩:=Zc (I.hok x u e);rw[h] at q;cases q
theorem Inv.new0{x:Addr}(I:Inv X pins σ H s)(hx:x∉X.ex)(h:s.heap.get? x=none):X.s₀.heap.get? x=none:=by
 cases e:X.s₀.heap.get? x with
 |none=>rfl
 |some o=>obtain⟨o',q⟩:=I.base.there x o e hx;rw[h] at q;cases q
theorem Zd{E:XK}{C:Addr}{od:Option Addr}(I:Inv X pins σ H s)(hst:X.stack=X.env::X.outer/\X.env.frame=some X.env.locals)(hex:X.ex=[])(M:Mine X pins H x oT)(fl:Fly s.heap x C od oT)(q:E (.ref C) od H){E':PQ} :
  wpAny (model X.prog X.w) X.A (leaving X.env (.ref x)) (λ_ s''=>CX1 X.prog X.w X.outer X.Hv X.s₀ E (.ref x) s'') E' s:=by
 obtain⟨fx,fT⟩:=fl.fields;obtain⟨oe,vs,e1,e2,e3,e4,b⟩:=fl;have hfr:X.A.frames=some (X.env::X.outer):=by rw[<-hst.1];exact I.ok.frames
 have hl:=I.stack;rw[hst.1] at hl;refine qfj hfr hl hst.2 e1 e4 b λh' T' nx=>?_;have nx2:=nx;rw[<-hst.1] at nx2;have I2:=Yv I hex M fx fT nx2;have no:∀b:Addr,b∉X.ex:=λb z=>by rw[hex] at z;cases z
 exact⟨x,T',C,od,H,rfl,I2.os,I2.bare,by rw[<-hex];exact I2.base,I2.hok,M.hx,I.newH nx.new,M.x0,I.new0 (no T') nx.new,nx.fly e2 e3,q⟩
end
end L2
namespace L2
open PySem PySem.Spec PyProof.Rows PySem.W
theorem qfk{K:Frag}{h:Heap}{C:Addr}{bB:List Value}{nid:String}(Y:K.In h)(ok:excIn K C bB nid=true) :
  ∃bm N nm qn bs hd sn sub ab col dd k0 k1 k2 k3 k5 mN,h.get? C=some (excClassObj nm qn C N bs bm hd sn sub ab col dd k0 k1 k2 k3 k5 nid)/\h.Ns N mN/\mN "__init__" = none/\OwnTail h bB bm:=by
 unfold excIn at ok
 split at ok
 case h_2=>cases ok
 case h_1 d1 cdat slots hlk=>
  split at ok
  case h_2=>cases ok
  case h_1 C2 tl a0 a1 a2 a3 nn a5 hmro hsl=>
   simp only[Bool.and_eq_true,beq_iff_eq,Bool.not_eq_true'] at ok;obtain⟨⟨⟨⟨⟨e1,e2⟩,e3⟩,e4⟩,e5⟩,e6⟩:=ok;subst e1;subst e2;obtain⟨w1,w2,w3,w4,w5,w6,w7,w8,w9,w10,w11⟩:=cdat
   dsimp only at hmro e3 e5 e6;subst hmro;subst e3;obtain⟨sl⟩:=slots;obtain rfl:sl=[a0,a1,a2,a3,some (.builtin nn),a5]:=hsl;exact⟨tl,w4,w1,w5,w2,w6,w7,w8,w9,w10,d1,a0,a1,a2,a3,a5,_,Y _ _ hlk,.of_isNs (isNs_of_in Y e5),nsMap_none_of_in Y e5 e6,tail_of_in Y e4⟩
noncomputable def qbd(X:Cx)(E:XK):Prop:=∀(pins:PP) (σ:St) (H:Hp) (s:Shared),Inv X pins σ H s->∀(h':Heap) (x C:Addr) (vs:List Value),Heap.MadeExcOf s.heap h' x (.ref C) vs->E (.ref C) none H->X.xe (.ref x) { s with heap:=h' }
section
variable{X:Cx}{pins:PP}{σ:St}{H:Hp}{s:Shared}
theorem qc2{h h':Heap}{x C:Addr}{vs:List Value}(m:Heap.MadeExcOf h h' x (.ref C) vs):Fly h' x C none none:=by obtain⟨t,ht,_⟩:=m.there;exact⟨_,_,ht,rfl,rfl,rfl,rfl⟩
end
section
variable{P:Program}{w:World}{K:Frag}{mg:PR}{base:Heap}{N:List Str}{qual:Str}{scope:Scope}{f:Addr}{cd:Value}{A:Around}{outer:List Env}{s:Shared}{H:Hp}{E:XK}
theorem qbe{X:Cx}{pins:PP}{σ:St}{H1 H2:Hp}{s1:Shared}{x T:Addr}(I:Inv X pins σ H1 s1)(hex:X.ex=[])(hx:H2 x=none)(hT:H2 T=none)(nx:s1.heap.get? x=none)(nT:s1.heap.get? T=none):Mine X pins H2 x (some T):=by
 have no:∀b:Addr,b∉X.ex:=λb z=>by rw[hex] at z;cases z
 refine⟨hx,I.new0 (no x) nx,λT' z=>by cases z;exact⟨hT,I.new0 (no T) nT⟩,λp hp=>?_⟩;obtain⟨e,_⟩:=I.pin p hp;refine⟨λz=>?_,λz=>?_⟩
 ·rw[z,nx] at e;cases e
 ·cases z;rw[nT] at e;cases e
theorem qfl{E2:XK}(hE:∀c d h,E2 c d h->E c d h):zM (CX1 P w) (Q7 (CX1 P w) P w K mg base N qual scope f cd A outer s H E) E2:=λpins σ H1 s1 e s2 I h=>by obtain⟨x,T,C,od,H2,rfl,hos,hb,un,hok,hx,hT,nx,nT,fl,q⟩:=h;have I2:Inv (Q7 (CX1 P w) P w K mg base N qual scope f cd A outer s H E) pins σ H2 s2:=I.call' (ch:=[]) hos un hok hb λb z=>absurd z (by simp);exact Zd I2 ⟨rfl,rfl⟩ rfl (qbe I rfl hx hT nx nT) fl (hE _ _ _ q)
theorem Fun.okx{x:Str}{st:Stmt}{fd:FuncData}{ps:List Str}{k:Nat}{sp:Sp}(F:Fun K x qual st f fd)(S:FnScope N ps (qk st))(len:∀vs H Q E,sp vs H Q E->vs.length=ps.length)
  (body:∀(cdv:Value) (A:Around) (outer:List Env) (s:Shared) (H:Hp) (vs:List V) (Q:VK) (E:XK),Room k (A.deeper (envOfC qual (qk st) s.heap.objs.size f cdv))->sp vs H Q E->
   ∃t,PSs (Q7 (CX1 P w) P w K mg base N qual (qk st) f cdv A outer s H E) (qt st) t/\t { nx:=λ_ H'=>Q .non H',rt:=Q } (j5 N vs) H):FnOk P w K mg base (CX1 P w) (k+1) f fd ps sp:=by
 obtain⟨oc,od,kV,doc,pm,an,cdv,ct,osl,rfl,lk,hcd⟩:=F.ex;exact qhd lk hcd S len λA outer s H vs Q E hr hsp=>body cdv A outer s H vs Q E hr hsp
end
section
variable{X:Cx}{E:XK}{n:Str}{C:Addr}{bB:List Value}{B nid iid:String}{e0:Expr}{es:List Expr}{t:TA}{np cpos pos:Pos}
noncomputable def qht(C:Addr)(E:XK)(t:TA):TS:=λ_ σ H=>t σ H λvs H1=>vs.length<=sizeLine/\E (.ref C) none H1
theorem qc3(hx:qbd X E)(hc:X.calm=true)(hg:Gl X n)(hm:X.mg n=some (.ref C))(ok:excIn X.K C bB nid=true)(FB:ExcBaseFacts B nid iid bB)(ha:PA X (e0::es) t)
  (he:starEach (e0::es) X.env=(false,eval e0 X.env)::starEach es X.env:=by rfl) (hpl:(backTo cpos (starEach es X.env)).any (·.1)=false:=by rfl) (hdb:(n == ("__debug__" : Str))=false:=by decide) :
  PS X (.Raise (some (.Call (.Name n np) (e0::es) [] cpos)) none pos) (qht C E t):=by
 intro pins s σ H D I h;obtain⟨bm,N,nm,qn,bs,hd,sn,sub,ab,col,dd,k0,k1,k2,k3,k5,mN,hC,hN,hni,T⟩:=qfk I.mod.kin ok
 refine wpAny_Raise_call_subT (C:=C) (nm:=nm) (q:=qn) (N:=N) (bs:=bs) (bm:=bm) (hdct:=hd) (sn:=sn) (sub:=sub) (ab:=ab) (col:=col) (dd:=dd) (k0:=k0) (k1:=k1) (k2:=k2) (k3:=k3) (k5:=k5)
  FB (mN:=mN) (T.hasType FB.hasBase) (I.ok.hd hc) ?_ hni (zn I hg hm ⟨rfl,?_⟩ hdb)
 ·rw[he];show(false||(backTo cpos (starEach es X.env)).any (·.1))=false;rw[hpl];rfl
 have ha':=ha cpos pins s σ H _ I h;rw[he] at ha' ⊢;refine Calls.evalArgs_plain (thn ha' λus s1 z=>?_);obtain⟨vs,H1,I1,r,hl,q⟩:=z;exact⟨rfl,by rw[<-r.length];exact hl,I1.bk _ _ hC,hN.keeps I1.bk,T.keeps I1.bk,λh' x m=>hx pins σ H1 s1 I1 h' x C _ m q⟩
end
end L2
namespace L2
open PySem PySem.Spec PyProof.Rows PySem.W
noncomputable def qcq(x C:Addr)(od:Option Addr):HO:=.ext λh=>∃o,h.get? x=some o/\o.cls=.ref C/\o.dict=od/\notCls o=true
section
variable{X:Cx}{pins:PP}{σ:St}{H:Hp}{s:Shared}{x C:Addr}{od oT:Option Addr}
theorem qke(I:Inv X pins σ H s)(fl:Fly s.heap x C od oT)(hx:H x=none)(x0:X.s₀.heap.get? x=none)(pin:∀p∈X.pn++pins,p.1≠x):Inv X pins σ (upd H x (qcq x C od)) s:=by
 obtain⟨oe,vs,ho,hc,hdi,hd,_⟩:=fl;have nn:∀{b:Addr},b≠x->upd H x (qcq x C od) b=H b:=λh=>qf h;have ntr:∀{b:Addr} {u:HO},H b=some u->b≠x:=λ{b u} e z=>by rw[z,hx] at e;cases e
 refine⟨I.ok,I.os,I.bare,⟨I.base.keep,I.base.slot,λb o e n hx=>?_,I.base.there,λb xs e=>?_,λb o u e=>?_,λb ps e=>?_⟩,I.loc,I.cell,?_,λy c e=>?_,λp hp=>?_,λa o e=>?_,I.len⟩
 ·rw[nn (λz=>by rw[z,x0] at e;cases e)];exact I.base.free b o e n hx
 ·have:=I.base.tups b xs e
  rw[nn (ntr this)];exact this
 ·have:=I.base.frzs b o u e
  rw[nn (ntr this)];exact this
 ·obtain⟨more,this⟩:=I.base.tbls b ps e;rw[nn (ntr this)];exact⟨more,this⟩
 ·have:X.env.locals≠x:=λz=>by
   obtain⟨m,⟨o,es,ep,e1,e2,_⟩,_⟩:=I.loc;rw[z,ho] at e1;cases e1;rw[hd] at e2;cases e2
  rw[nn this];exact I.free
 ·have:c≠x:=λz=>by
   obtain⟨v,o,e1,e2⟩:=I.cell y c e;rw[z,ho] at e1;cases e1;rw[hd] at e2;cases e2
  rw[nn this];exact I.freeC y c e
 ·obtain⟨e,n,r⟩:=I.pin p hp;refine⟨e,?_,r⟩;rw[nn (pin p hp)];exact n
 ·have st:∀{c:Addr} {v:HO},qy X.prog X.w H s.heap c v->qy X.prog X.w (upd H x (qcq x C od)) s.heap c v:=λz=>
   z.stay (λ_ _ _ q=>q) (λb q=>by rw[nn (ntr q)];exact q) (λb xs q=>by rw[nn (ntr q)];exact q)
  by_cases hb:a=x
  ·subst hb;rw[qg] at e;cases e;refine⟨⟨oe,ho,hc,hdi,?_⟩,⟨oe,ho⟩,λh1 h2 ⟨o,e1,e2⟩ k=>⟨o,k o e1,e2⟩⟩;unfold notCls;rw[hd]
  ·rw[nn hb] at e;exact st (I.hok a o e)
end
abbrev Cx.mark(X:Cx)(e:Value):Cx:={ X with A:=X.A.mark (some e),calm:=false,xe:=λ_ _=>False }
section
variable{X:Cx}{pins:PP}{σ:St}{H:Hp}{s:Shared}{e:Value}
theorem Inv.mark(I:Inv X pins σ H s):Inv (X.mark e) pins σ H s:=
 ⟨⟨I.ok.mod,I.ok.kind,I.ok.glob,I.ok.blt,I.ok.above,I.ok.inj,I.ok.has,I.ok.cab,(λz=>by cases z),I.ok.frames,I.ok.stk,I.ok.exf,I.ok.bs,I.ok.bsz,I.ok.noex,I.ok.exfs,I.ok.funs,I.ok.frf⟩,I.os,I.bare,I.base,I.loc,I.cell,I.free,I.freeC,I.pin,I.hok,I.len⟩
theorem Inv.unmark(ok:X.Ok)(I:Inv (X.mark e) pins σ H s):Inv X pins σ H s:=⟨ok,I.os,I.bare,I.base,I.loc,I.cell,I.free,I.freeC,I.pin,I.hok,I.len⟩
theorem jB{M:Model}{A:Around}{E:PQ}{i:Nat}{n:Str}{pos:Pos}{Q:Unit->Shared->Prop}(I:Inv X pins σ H s)(hN:X.N.Nodup)(hi:X.N[i]?=some n)(hl:X.env.scope.names.lookup n=some .local)
  (h:∀s',Inv X pins (σ.set i none) H s'->Q () s'):wpAny M A (do bindName X.env n .none;unbindBehindTheSuite X.env n pos) Q E s:=by
 refine wpAny_bind (wpAny_bindName (js (v:=.non) I hN hi (.inl hl) rfl (λs1 I1 _=>?_) (.inr hl)));unfold unbindBehindTheSuite;refine wpAny_onRaise ?_;obtain⟨m,hn,hlk⟩:=id I1.loc;have hiσ:i < σ.length:=by rw[I.len];exact(List.getElem?_eq_some_iff.mp hi).1
 obtain⟨u,ru,hlook⟩:=hlk i n .non hi (by rw[List.getElem?_set_self hiσ]) (.inl hl);have hkl:X.env.kindOf n=some .local:=hl
 have hv:m n=some u:=by
  rcases hlook with ⟨_,z⟩ | ⟨z,_⟩
  ·exact z
  ·rcases z with z | z<;>(rw[hkl] at z;cases z)
 have hcls:(X.env.scope.kind == .class||(X.env.scope.kind == .module&&X.env.locals != X.env.globals))=false:=by rw[I.ok.kind];rfl
 refine wpAny_unbindName_local hkl hn hv hcls λh' u' hn' hs'=>?_;refine h _ ?_;have kp:∀{b:Addr} {o:Obj},b≠X.env.locals->s1.heap.get? b=some o->h'.get? b=some o:=λ{b o} hb e=>(hs'.2 b hb).trans e;have s0l:∀{b:Addr} {o:Obj},X.s₀.heap.get? b=some o->b≠X.env.locals:=λ{b o} e=>Nat.ne_of_lt (Nat.lt_of_lt_of_le (Heap.lt_size e) I.ok.above);have cK:∀{c:Addr} {v:Option Value} {y:Str},X.env.cells.lookup y=some c->s1.heap.IsCell c v->h'.IsCell c v:=λ{c v y} ey ⟨o,ho,hd⟩=>⟨o,kp (I1.cne y c ey) ho,hd⟩;refine⟨I1.ok,I1.os,I1.bare,⟨λb o e n hb hx=>kp (s0l e) (I1.base.keep b o e n hb hx),λb o e n hb hx=>?_,I1.base.free,λb o e hx=>?_,I1.base.tups,I1.base.frzs,I1.base.tbls⟩,⟨_,hn',λj y v e1 e2 e3=>?_⟩,λy c e=>?_,I1.free,I1.freeC,λp hp=>?_,λa o e=>?_,?_⟩
 ·obtain⟨sl,e1⟩:=I1.base.slot b o e n hb hx;exact⟨sl,kp (s0l e) e1⟩
 ·obtain⟨o1,e1⟩:=I1.base.there b o e hx;exact⟨o1,kp (s0l e) e1⟩
 ·have hij:i≠j:=λz=>by
   subst z;rw[List.getElem?_set_self hiσ] at e2;cases e2
  have hyn:y≠n:=λz=>hij (Ju hN hi (z▸e1));obtain⟨u2,r2,l2⟩:=hlk j y v e1 (by rw[List.getElem?_set_ne hij] at e2 ⊢;exact e2) e3;refine⟨u2,r2,?_⟩;rcases l2 with ⟨k,z⟩ | ⟨k,c,e,z⟩
  ·exact .inl ⟨k,by show(if y=n then u' else m y)=_;rw[if_neg hyn];exact z⟩
  ·exact .inr ⟨k,c,e,cK e z⟩
 ·obtain⟨v,z⟩:=I1.cell y c e;exact⟨v,cK e z⟩
 ·obtain⟨e,n,ne,r⟩:=I1.pin p hp;exact⟨kp ne e,n,ne,r⟩
 ·have tl:∀{b:Addr} {u:HO},H b=some u->b≠X.env.locals:=λ{b u} e z=>by rw[z,I1.free] at e;cases e
  refine(I1.hok a o e).stay (λb u hb q=>kp ?_ q) (λ_ q=>q) λ_ _ q=>q;rcases hb with z | z
  ·rw[z];exact tl e
  ·exact tl z
 ·rw[List.length_set];exact I.len
end
end L2
namespace L2
open PySem PySem.Spec PyProof.Rows PySem.W
section
variable{X:Cx}{pins:PP}{σ:St}{H:Hp}{s:Shared}
theorem PA.nox{es:List Expr}{t:TA}(h:PA X.nox es t):PA X es t:=λpos pins s σ H Q I hw=>wpAny_mono (h pos pins s σ H Q (I.wish _) hw) (λ_ _ ⟨v,H',I',r,q⟩=>⟨v,H',I'.unwish,r,q⟩) λ_ _ z=>False.elim z
structure Held(X:Cx)(pins:PP)(σ:St)(H:Hp)(s:Shared)(x T C:Addr)(od:Option Addr)(h:Heap):Prop where
 inv:Inv X pins σ H s
 mine:Mine X pins H x (some T)
 fld:(∃o vs,s.heap.get? x=some o/\o.data=.fields vs)/\∀T',some T=some T'->∃o vs,s.heap.get? T'=some o/\o.data=.fields vs
 nx:∃oe vs T',NX (frs X.stack) x (some T) oe vs T' .none s.heap h/\oe.cls=.ref C/\oe.dict=od
variable{x T C:Addr}{od:Option Addr}{h:Heap}
theorem Held.now(Hd:Held X pins σ H s x T C od h)(hex:X.ex=[]):Inv X pins σ H { s with heap:=h }:=by obtain⟨oe,vs,T',nx,_⟩:=Hd.nx;exact Yv Hd.inv hex Hd.mine Hd.fld.1 Hd.fld.2 nx
theorem Held.fly(Hd:Held X pins σ H s x T C od h):∃T',Fly h x C od (some T'):=by obtain⟨oe,vs,T',nx,e1,e2⟩:=Hd.nx;exact⟨T',nx.fly e1 e2⟩
theorem Held.ty{M:Model}(Hd:Held X pins σ H s x T C od h):Looks M h (typeOf (.ref x)) (.ref C):=by obtain⟨T',o,_,ho,hc,_⟩:=Hd.fly;rw[<-hc];exact(Looks.ld ho).andThen .now
noncomputable def qhu(i:Nat)(D:Ends):Ends:={ nx:=λσ' H'=>D.nx (σ'.set i none) H',rt:=D.rt,bk:=λσ' H'=>D.bk (σ'.set i none) H',ct:=λσ' H'=>D.ct (σ'.set i none) H' }
variable{c n:Str}{Dc:Addr}{cp hpos:Pos}{b0:Stmt}{suite:List Stmt}{rest:List ExceptHandler}{i:Nat}{D:Ends}{E:PQ}
theorem Z3{th:TS}(Hd:Held X pins σ H s x T C od h)(hex:X.ex=[])(hg:Gl X c)(hm:X.mg c=some (.ref Dc))(hq:exmOne X.K (.ref C) (.ref Dc)=some true)
  (hN:X.N.Nodup) (hi:X.N[i]?=some n) (hl:X.env.scope.names.lookup n=some .local) (hsu:PSs (X.mark (.ref x)) (b0::suite) th) (q:th (qhu i D) (σ.set i (some (.ref x))) (upd H x (qcq x C od)))
  (hdb:(c == ("__debug__" : Str))=false) :
  wpAny (model X.prog X.w) X.A (handleBy (.ref x) X.env (.ExceptHandler (some (.Name c cp)) (some n) (b0::suite) hpos::rest)) (SP X pins D) E { s with heap:=h }:=by
 have I:=Hd.now hex;refine wpAny_handleBy_cons (codeAny_handlers_test ?_) (by intro z;cases z);refine zn (X:=X.mark (.ref x)) I.mark hg hm ?_ hdb;refine Looks.here (exm_one I.kIn Hd.ty hq) ?_;refine codeAny_handlers_suite_as ?_;obtain⟨oe,vs,T',nx,e1,e2⟩:=Hd.nx;refine JB (s:={ s with heap:=h }) nx λh3 nx3=>?_;have Hd3:Held X pins σ H s x T C od h3:=⟨Hd.inv,Hd.mine,Hd.fld,oe,vs,T',nx3,e1,e2⟩;have I3:=Hd3.now hex;have I4:Inv X pins σ (upd H x (qcq x C od)) { s with heap:=h3 }:=qke I3 (nx3.fly e1 e2) Hd.mine.hx Hd.mine.x0 λp hp=>(Hd.mine.pin p hp).1;refine js (X:=X.mark (.ref x)) (v:=.ref x) I4.mark hN hi (.inl hl) rfl (λs5 I5 _=>?_) (.inr hl);refine wpAny_mono (hsu pins s5 _ _ (qhu i D) I5 q) (λf s6 z=>?_) (λ_ _ z=>False.elim z);have ok:=I.ok
 cases f with
 |next=>obtain⟨σ6,H6,I6,z⟩:=z;exact jB (I6.unmark ok) hN hi hl λs7 I7=>⟨_,H6,I7,z⟩
 |brk=>obtain⟨σ6,H6,I6,z⟩:=z;exact jB (I6.unmark ok) hN hi hl λs7 I7=>⟨_,H6,I7,z⟩
 |cont=>obtain⟨σ6,H6,I6,z⟩:=z;exact jB (I6.unmark ok) hN hi hl λs7 I7=>⟨_,H6,I7,z⟩
 |ret u=>obtain⟨v,σ6,H6,I6,r,z⟩:=z;exact jB (I6.unmark ok) hN hi hl λs7 I7=>⟨v,_,H6,I7,r,z⟩
theorem Qp{nm:Option Str}{body:List Stmt}(Hd:Held X pins σ H s x T C od h)(hex:X.ex=[])(hg:Gl X c)(hm:X.mg c=some (.ref Dc))(hq:exmOne X.K (.ref C) (.ref Dc)=some false)
  (k:wpAny (model X.prog X.w) X.A (handleBy (.ref x) X.env rest) (SP X pins D) E { s with heap:=h }) (hdb:(c == ("__debug__" : Str))=false) :
  wpAny (model X.prog X.w) X.A (handleBy (.ref x) X.env (.ExceptHandler (some (.Name c cp)) nm body hpos::rest)) (SP X pins D) E { s with heap:=h }:=by
 have I:=Hd.now hex;refine wpAny_handleBy_cons (codeAny_handlers_test ?_) (by intro z;cases z);refine zn (X:=X.mark (.ref x)) I.mark hg hm ?_ hdb;exact Looks.here (exm_one I.kIn Hd.ty hq) k
theorem qlW{H1:Hp}{s1 s':Shared}{EX:XK}{e:Value}{hs:List ExceptHandler}(hst:X.stack=X.env::X.outer/\X.env.frame=some X.env.locals)(hex:X.ex=[])(I:Inv X pins σ H1 s1)(cx:CX1 X.prog X.w X.stack H1 s1 EX e s')
  (k:∀(x T C:Addr) (od:Option Addr) (H2:Hp) (h:Heap),EX (.ref C) od H2->Held X pins σ H2 s' x T C od h->wpAny (model X.prog X.w) X.A (handleBy (.ref x) X.env hs) (SP X pins D) E { s' with heap:=h }) :
  wpAny (model X.prog X.w) X.A (noteFrame e X.env) (λ_ s2=>wpAny (model X.prog X.w) X.A (setFlight e none) (λ_ s3=>wpAny (model X.prog X.w) X.A (handleBy e X.env hs) (SP X pins D) E s3) E s2) E s':=by
 obtain⟨x,T,C,od,H2,rfl,hos,hb,un,hok,hx,hT,nx,nT,fl,q⟩:=cx;have I2:Inv X pins σ H2 s':=I.call' (ch:=[]) hos un hok hb λb z=>absurd z (by simp);have M:Mine X pins H2 x (some T):=qbe I hex hx hT nx nT;have hfr:X.A.frames=some (X.env::X.outer):=by rw[<-hst.1];exact I.ok.frames
 have hl:=I2.stack;rw[hst.1] at hl;have ff:=fl.fields;obtain⟨oe,vs,e1,e2,e3,e4,b⟩:=fl;refine qeh hfr hl hst.2 e1 e4 b λh1 T' n1=>JB (s:={ s' with heap:=h1 }) n1 λh2 n2=>?_;exact k x T C od H2 h2 q ⟨I2,M,ff,oe,vs,T',by rw[hst.1];exact n2,e2,e3⟩
end
end L2
namespace L2
open PySem PySem.Spec PyProof.Rows PySem.W
section
variable{prog:Program}{w:World}{A:Around}{E:PQ}{s:Shared}{K:Frag}{x C:Addr}{ox:Obj}
theorem qbf{name:Str}{a g:Value}{od:Option Obj}(hc:(clsIn K C).isSome=true)(ha:findIn K (.ref C) name=some (some a))(hg:specialIn K a "__get__" = some (some g))(ht:takesIn K a=some true):findObj K C od name=some (.bind g a):=by obtain⟨cd,e⟩:=Option.isSome_iff_exists.mp hc;simp[findObj,e,ha,hg,ht]
structure ExcIs(K:Frag)(C:Addr):Prop where
 cls:(clsIn K C).isSome=true
 ga:findIn K (.ref C) "__getattribute__" = some (some (.builtin "BaseException.__getattribute__"))
 gh:findIn K (.ref C) "__getattr__" = some none
 at_:findIn K (.ref C) "__class__" = some (some (.builtin "object.__class__"))
 get:specialIn K (.builtin "object.__class__") "__get__" = some (some (.builtin "getset_descriptor.__get__"))
 tk:takesIn K (.builtin "object.__class__")=some true
 obj:mroIn K C (.type "object")=some true
 base:mroIn K C (.type "BaseException")=some true
theorem qbg{Q:Option Value->Shared->Prop}(Y:K.In s.heap){od:Option Obj}(I:W.InstAt s.heap x ox C od)(hC:ExcIs K C)
  (h:Q (some (.ref C)) { s with toks:=s.toks+1 }):wpAny (model prog w) A (getAttr? (.ref x) "__class__") Q E s:=by
 obtain⟨hh,g,d,t,os⟩:=s;have L0:=I.type (M:=model prog w);have L1:=looks_findIn (M:=model prog w) Y hC.ga;have L2:=looks_findIn (M:=model prog w) Y hC.gh;have L3:=looks_find (M:=model prog w) Y I (qbf hC.cls hC.at_ hC.get hC.tk);have L4:=looks_mroIn (M:=model prog w) Y hC.base;have hbind:∀self,bindSpecial (.builtin "BaseException.__getattribute__") self=pure (.builtin "BaseException.__getattribute__",[self]):=λself=>by rfl
 unfold getAttr? getAttrBy? getAttrBy;refine wpAny_bind (wpAny_mkText (wpAny_bind (wpAny_attempt (wpAny_holding (wpAny_bind (L0.at (wpAny_bind (L1.at ?_))))))));show wpAny _ _ (getAttrByItsOwn _ _ _ _ _ _) _ _ _;unfold getAttrByItsOwn;refine wpAny_bind ?_;show wpAny _ _ (typeLookup (.ref C) "__getattr__") _ _ _;refine L2.at (wpAny_bind (wpAny_attempt (wpAny_holding ?_)));show wpAny _ _ (boundAndCalled _ _ _) _ _ _;unfold boundAndCalled;refine wpAny_bind ?_;rw[hbind];refine wpAny_pure ?_;refine wpAny_call (codeAny_call_builtin (by decide+kernel) F.entry_bexc_ga ?_);have hk:builtinKind "BaseException.__getattribute__" = some .slot:=by decide+kernel
 have hsp:splitId "BaseException.__getattribute__" = some ("BaseException","__getattribute__"):=by decide+kernel
 have LI:Looks (model prog w) hh (isInstance (.ref x) (.type "BaseException")) true:=L0.andThen L4;have hargs:=F.args_bexc_ga (.ref x) (.str "__class__" t);simp only[checkBuiltinCall,hk,hsp];refine wpAny_bind ?_;refine LI.at ?_;rw[if_neg (2:)];refine wpAny_of_eq hargs ?_;unfold Builtin.«object.__getattribute__»;refine wpAny_bind (wpAny_pure ?_);refine wpAny_bind (wpAny_pure ?_);refine wpAny_bind (L0.at (wpAny_bind (L3.at ?_)));show wpAny _ _ (holding [Value.builtin "object.__class__"] (call (.builtin "getset_descriptor.__get__") [.builtin "object.__class__",.ref x,.ref C]) >>= ret) _ _ _;refine wpAny_bind (wpAny_holding (wpAny_call (class_get (s:=⟨hh,g,d,t+1,os⟩) (ox:=ox) (od:=od) Y I hC.obj ?_)));exact wpAny_pure (handed_on rfl (wpAny_pure h))
theorem qfm(hC:ExcIs K C):KitX K (.ref x) (.ref C) (λh=>∃ox od,W.InstAt h x ox C od) where
 ty:=λ_ _ _ ⟨_,_,I⟩=>I.type
 it:=λM h Y _=>by
  obtain⟨cd,e⟩:=Option.isSome_iff_exists.mp hC.cls;unfold clsIn at e
  split at e
  ·rename_i ho;intro A' Q' E' s' k q;unfold isType loadHead;refine wpAny_bind (wpAny_loadPart (k _ _ (Y _ _ ho)) ?_);exact wpAny_pure q
  ·cases e
 ne:=λh tp dd its n sl Y htp=>by
  obtain⟨cd,e⟩:=Option.isSome_iff_exists.mp hC.cls;refine Bool.eq_false_iff.mpr λq=>?_;have z:C=tp:=Value.ref.inj (beq_iff_eq.mp q);subst z;unfold clsIn at e
  split at e
  ·rename_i ho;have z:=(Y _ _ ho).symm.trans htp;cases z
  ·cases e
 ca:=λY ⟨_,_,I⟩ k=>qbg Y I hC k
end
section
variable{X:Cx}
noncomputable def qfn(H:Hp)(x C:Addr)(od:Option Addr):Prop:=H x=some (qcq x C od)/\∀dd,od=some dd->∃u,H dd=some u
theorem qfn.inst{pins:PP}{σ:St}{H:Hp}{s:Shared}{x C:Addr}{od:Option Addr}(I:Inv X pins σ H s)(h:qfn H x C od):∃ox oo,W.InstAt s.heap x ox C oo:=by
 obtain⟨o,e1,e2,e3,e4⟩:=(I.hok x _ h.1).1
 cases od with
 |none=>exact⟨o,none,e1,e2,e4,by rw[e3];trivial⟩
 |some dd=>obtain⟨u,hu⟩:=h.2 dd rfl;obtain⟨ob,hob⟩:=Zc (I.hok dd u hu);exact⟨o,some ob,e1,e2,e4,by rw[e3];exact hob⟩
theorem qbh:qH X (.builtin "isinstance") (λvs H Q=>∃x C od c cv b,vs=[.ref x,c]/\qfn H x C od/\ExcIs X.K C/\qB c cv/\(∀u,qB c u->u=cv)/\kitOne X.K (.ref C) cv=some b/\Q (.bl b) H):=by intro pins s σ H xs us Q I r h;obtain⟨x,C,od,c,cv,b,rfl,hx,hC,rc,uq,e,q⟩:=h;obtain⟨u,v,rfl,ru,rv⟩:=Jv r;cases ru;obtain rfl:v=cv:=uq v rv;exact kia_one (qfm hC) I.kIn (hx.inst I) e (λz=>nomatch z) λtk=>⟨.bl b,H,I.tok tk,rfl,q⟩
end
end L2
namespace L2
open PySem PySem.Spec PyProof.Rows PySem.W
noncomputable def Its(x:Str):It:=⟨λi _=>i < x.cps.size,λi H v H'=>H'=H/\∃c,x.cps[i]?=some c/\v=.str ⟨#[c]⟩,λi _=>i=x.cps.size⟩
theorem qc4{P:Program}{w:World}{K:Frag}{tg:Expr}{x:Str}{t:Tok}{it:Addr}{T:String}(hT:T = "str_ascii_iterator"\/T = "str_iterator")(W:∀A':Around,A'.handled=none->Walks P w A' it [it] [it] x.cps.size (SignAt x) (λi h=>h.IsStrIter it T x t i)) :
  Turn P w K tg (Its x) [it] it (λi h=>h.IsStrIter it T x t i) where
 mem:=by simp
 obj:=λi h st b hb=>by
  have e:b=it:=by simpa using hb
  subst e;obtain⟨o,e,c,d⟩:=st;exact⟨o,e,λv z=>by rw[d] at z;cases z⟩
 keep:=λi h h' st k=>let ⟨o,e,r⟩:=st;⟨o,k it (by simp) o e,r⟩
 item:=by intro X hP hw hK hc i pins s σ H E I hf st hg;subst hP hw hK;obtain⟨f0,f1,f2,f3,f4,f5⟩:=hf it (by simp);refine(W X.A (I.ok.hd hc)).item i s _ _ hg st λv h' tk hv st' kk=>?_;obtain⟨c,u,hcx,rfl⟩:=hv;have I1:Inv X pins σ H { s with heap:=h',toks:=tk }:=I.turned (λb o hb e=>kk b o (by simpa using hb) e) f0 f1 f3 f4 f5;obtain⟨o,e1,e2,e3⟩:=id st';refine⟨_,rfl,ZR (s:={ s with heap:=h',toks:=tk }) e1 e2 e3 (by rcases hT with z | z<;>(rw[z];decide)) ⟨.str ⟨#[c]⟩,H,I1,⟨u,rfl⟩,⟨rfl,c,hcx,rfl⟩,st',λb hb=>(hf b hb).1⟩⟩
 done:=by intro X hP hw hK hc i pins s σ H E I hf st hg;subst hP hw hK;obtain rfl:i=x.cps.size:=hg;obtain⟨f0,f1,f2,f3,f4,f5⟩:=hf it (by simp);exact(W X.A (I.ok.hd hc)).done s _ _ st λh' tk kk=>⟨rfl,I.turned (λb o hb e=>kk b o (by simpa using hb) e) f0 f1 f3 f4 f5⟩
 self:=λA i s Q E st h=>by
  rcases hT with z | z
  ·subst z;exact wpAny_pyIter_striter_ascii st h
  ·subst z;exact wpAny_pyIter_striter_wide st h
end L2
namespace L2
open PySem PySem.Spec PyProof.Rows PySem.W
structure ClsFn(K:Frag)(C:Addr)(m:Str)(f:Addr):Prop where
 reads:readsIn K C (.type "type")=true
 sp:specialIn K (.ref C) "__getattribute__" = some (some (.builtin "type.__getattribute__"))
 at_:findCls K (.ref C) (.type "type") m=some (.val (.ref f))
 kp:keepIn K (.ref f)=true
section
variable{X:Cx}{CX:CXT}{k:Nat}{f C:Addr}{fd:FuncData}{ps:List Str}{sp:Sp}{dvs:List V}{ds:List Value}{E:XK}{x m:Str}{p pos apos:Pos}{e:Expr}{es:List Expr}{t:TA}
theorem JC{pl:Sem Bool}(hC:ClsFn X.K C m f)(F:FnOk X.prog X.w X.K X.mg X.base CX k f fd ps sp)(hr:Room k X.A)(hg:Gl X x)(hm:X.mg x=some (.ref C))(hb:qI X.K fd ps ds)(hd:qr dvs ds)(hx:zM CX X E)(ha:PA X (e::es) t)
  (hdb:(x == ("__debug__" : Str))=false:=by decide) (hst:starEach (e::es) X.env=(false,eval e X.env)::starEach es X.env:=by rfl) (hpl:(backTo pos (starEach es X.env)).any (·.1)=false:=by rfl)
  (ht:eval (.Call (.Attribute (.Name x p) m apos) (e::es) [] pos) X.env=(do
   let ov<-eval (.Name x p) X.env
   standAt apos.atName
   let (f,first)<-holding [ov] (getMethod ov m pl)
   callWith pos f first (backTo pos (starEach (e::es) X.env)) (backToKw pos (keywordEach [] X.env))):=by rfl) :
  PE X (.Call (.Attribute (.Name x p) m apos) (e::es) [] pos) (qaP sp dvs E t):=by
 intro pins s σ H Q I h;refine PySem.W.methodCall_KW (pl:=pl) (zn I hg hm ?_ hdb) ht;refine method_cls I.kIn hC.sp (cls_value I.kIn hC.reads hC.at_ rfl ?_);have I1:=I.tok (s.toks+1);refine PySem.W.callWith_K (first:=[]) (h₀:=X.base) I.ok.mod.kin hC.kp (thn (ha pos pins _ σ H _ I1 h) λus s2 z=>?_) hst hpl;obtain⟨vs,H2,I2,r,q⟩:=z;exact⟨I2.kIn,J9 F hr hb hd hx I2 r q⟩
end
end L2
namespace L2
open PySem PySem.Spec PyProof.Rows PySem.W
noncomputable def Itz(K:Frag)(a b:Addr):It:=
 ⟨λi H=>∃xs ys x y,SqL K H a xs/\SqL K H b ys/\xs[i]?=some x/\ys[i]?=some y,
  λi H v H'=>∃T x y,v=.ref T/\H T=none/\H'=upd H T (.tup [x,y])/\∀xs ys,SqL K H a xs->SqL K H b ys->xs[i]?=some x/\ys[i]?=some y,
  λi H=>∃xs ys,SqL K H a xs/\SqL K H b ys/\(xs.length<=i\/ys.length<=i)⟩
noncomputable def ZSt(z TI TO i1 i2 a b:Addr)(i:Nat)(h:Heap):Prop:=IsZip h z TI TO .none/\IsPair h TI (.ref i1) (.ref i2)/\(∃u v,IsPair h TO u v)/\h.IsListIter i1 a i/\h.IsListIter i2 b i
theorem Inv.turnedAll{X:Cx}{pins:PP}{σ:St}{H:Hp}{s:Shared}{h':Heap}{t':Nat}{ch:List Addr}(I:Inv X pins σ H s)(k:∀b o,b∉ch->s.heap.get? b=some o->h'.get? b=some o)(hf:∀b∈ch,ZQ X pins H b):Inv X pins σ H { s with heap:=h',toks:=t' }:=by
 have nch:∀{b:Addr} {u:HO},H b=some u->b∉ch:=λ{b u} e z=>by rw[(hf b z).1] at e;cases e
 refine I.step (g':=s.gens) (d':=s.drawn) (ch:=ch) (λb hb=>?_) (λb o _ _ hc e _=>k b o hc e) (λb o _ _ hc e _=>⟨o.slots,k b o hc e⟩) (λ_ _ _ _ n=>n) (λb o hc e=>⟨o,k b o hc e⟩) (λ_ _ e=>e) (λ_ _ _ e=>e) (λb ps e=>⟨#[],by rw[e];simp⟩) (λm hm=>?_) (λb u e=>?_) I.bare
 ·obtain⟨f0,f1,f2,f3,f4,f5⟩:=hf b hb;exact⟨f3,f1,f4,f5⟩
 ·obtain⟨o,es,ep,ho,r⟩:=hm;exact⟨o,es,ep,k _ o (λz=>(hf _ z).2.1 rfl) ho,r⟩
 ·refine(I.hok b u e).stay (λc v hc q=>k c v ?_ q) (λ_ q=>q) λ_ _ q=>q;rcases hc with z | z
  ·rw[z];exact nch e
  ·exact nch z
theorem Inv.turnedNew{X:Cx}{pins:PP}{σ:St}{H:Hp}{s:Shared}{h':Heap}{t':Nat}{ch:List Addr}{T:Addr}{ob:HO}(I:Inv X pins σ H s)(k:∀b o,b∉ch->s.heap.get? b=some o->h'.get? b=some o)(hf:∀b∈ch,ZQ X pins H b)
  (hT:s.heap.get? T=none) (new:qy X.prog X.w (upd H T ob) h' T ob):Inv X pins σ (upd H T ob) { s with heap:=h',toks:=t' }:=by
 have hH:H T=none:=I.newH hT;have nch:∀{b:Addr} {u:HO},H b=some u->b∉ch:=λ{b u} e z=>by rw[(hf b z).1] at e;cases e
 have nT:∀{b:Addr} {u:HO},H b=some u->b≠T:=λ{b u} e z=>by rw[z,hH] at e;cases e
 have up:∀{b:Addr} {u:HO},H b=some u->upd H T ob b=some u:=λ{b u} e=>by rw[qf (nT e)];exact e
 refine I.step (g':=s.gens) (d':=s.drawn) (ch:=ch) (λb hb=>?_) (λb o _ _ hc e _=>k b o hc e) (λb o _ _ hc e _=>⟨o.slots,k b o hc e⟩) (λb o _ e n=>?_) (λb o hc e=>⟨o,k b o hc e⟩) (λ_ _ e=>up e) (λ_ _ _ e=>up e) (λb ps e=>⟨#[],by rw[up e];simp⟩) (λm hm=>?_) (λb u e=>?_) I.bare
 ·obtain⟨f0,f1,f2,f3,f4,f5⟩:=hf b hb;exact⟨f3,f1,f4,f5⟩
 ·rw[qf (λz=>by rw[z,hT] at e;cases e)];exact n
 ·obtain⟨o,es,ep,ho,r⟩:=hm;exact⟨o,es,ep,k _ o (λz=>(hf _ z).2.1 rfl) ho,r⟩
 ·by_cases hb:b=T
  ·subst hb;rw[qg] at e;cases e;exact new
  ·rw[qf hb] at e;refine(I.hok b u e).stay (λc v hc q=>k c v ?_ q) (λ_ q=>up q) λ_ _ q=>up q;rcases hc with z | z
   ·rw[z];exact nch e
   ·exact nch z
theorem qc5{P:Program}{w:World}{K:Frag}{elts:List Expr}{kk:Nat}{pos:Pos}{z TI TO i1 i2 a b:Addr}(D:ZipApart z TI TO i1 i2 a b) :
  Turn P w K (.Tuple elts kk pos) (Itz K a b) [z,TI,TO,i1,i2] z (ZSt z TI TO i1 i2 a b) where
 mem:=by simp
 obj:=λi h st c hc=>by
  obtain⟨s1,s2,⟨u,v,s3⟩,⟨o4,s4,_,d4⟩,⟨o5,s5,_,d5⟩⟩:=st;simp at hc;rcases hc with rfl | rfl | rfl | rfl | rfl
  ·exact⟨_,s1,λv q=>by cases q⟩
  ·exact⟨_,s2,λv q=>by cases q⟩
  ·exact⟨_,s3,λv q=>by cases q⟩
  ·exact⟨_,s4,λv q=>by rw[d4] at q;cases q⟩
  ·exact⟨_,s5,λv q=>by rw[d5] at q;cases q⟩
 keep:=λi h h' st k=>by obtain⟨s1,s2,⟨u,v,s3⟩,s4,s5⟩:=st;exact⟨k z (by simp) _ s1,k TI (by simp) _ s2,⟨u,v,k TO (by simp) _ s3⟩,s4.at λo e=>k i1 (by simp) o e,s5.at λo e=>k i2 (by simp) o e⟩
 item:=by
  intro X hP hw hK hc i pins s σ H E I hf st hg;subst hP hw hK;obtain⟨xs,ys,x,y,qa,qb,hx,hy⟩:=hg;obtain⟨s1,s2,⟨u,v,s3⟩,s4,s5⟩:=st;obtain⟨ia,ra,pa,za⟩:=I.list qa;obtain⟨ib,rb,pb,zb⟩:=I.list qb;obtain⟨ux,ex,rx⟩:=ra.get hx;obtain⟨uy,ey,ry⟩:=rb.get hy;refine wpAny_pyNext_zip_item D s1 s2 s3 s4 s5 pa.isList pb.isList (x:=ux) (y:=uy) (by simpa using ex) (by simpa using ey) λh' a1 a2 a3 a4 a5 a6 kp=>?_;refine⟨_,rfl,wpAny_letOwnedTupleGo_zip (s:={ s with heap:=h' }) a1 λh2 b1 b2=>?_⟩;have two:(2:Nat)<=sizeLine:=Nat.le_of_lt (Yn (2:))
  have kp2:∀c o,c∉[z,TI,TO,i1,i2]->s.heap.get? c=some o->h2.get? c=some o:=λc o hc e=>by simp at hc;exact b2.extBut c o hc.1 (kp c o hc.1 hc.2.2.1 hc.2.2.2.1 hc.2.2.2.2 e)
  have I1:Inv X pins σ H { s with heap:=h2 }:=I.turnedAll (t':=s.toks) kp2 hf
  have hnew:s.heap.get? s.heap.objs.size=none:=by
   cases q:s.heap.get? s.heap.objs.size with
   |none=>rfl
   |some o=>exact absurd (Heap.lt_size q) (Nat.lt_irrefl _)
  have hH:H s.heap.objs.size=none:=I.hok.fresh (Nat.le_refl _);have hTz:s.heap.objs.size≠z:=Nat.ne_of_gt (Heap.lt_size s1);have hT2:IsPair h2 s.heap.objs.size ux uy:=b2.extBut _ _ hTz a5;have hf2:=hf;have I2:Inv X pins σ (upd H s.heap.objs.size (.tup [x,y])) { s with heap:=h2 }:=I.turnedNew (t':=s.toks) kp2 hf hnew ⟨two,[ux,uy],.cons rx %[ry|0],_,hT2,rfl,0,rfl⟩;refine⟨.ref s.heap.objs.size,_,I2,rfl,⟨_,x,y,rfl,hH,rfl,λxs' ys' h1 h2=>?_⟩,?_,λc hc=>?_⟩
  ·rw[I.list_inj h1 qa,I.list_inj h2 qb];exact⟨hx,hy⟩
  ·exact⟨b1,b2.extBut _ _ D.TIz (kp TI _ D.TIz D.TITO D.TIi1 D.TIi2 s2),⟨_,_,b2.extBut _ _ D.TOz a2⟩,a3.extBut b2.extBut D.i1z,a4.extBut b2.extBut D.i2z⟩
  ·have hc0:=(hf c hc).1;rw[qf]
   ·exact hc0
   ·intro q
    have e:∃o,s.heap.get? c=some o:=by
     simp at hc;rcases hc with rfl | rfl | rfl | rfl | rfl
     ·exact⟨_,s1⟩
     ·exact⟨_,s2⟩
     ·exact⟨_,s3⟩
     ·obtain⟨o,e,_⟩:=s4;exact⟨o,e⟩
     ·obtain⟨o,e,_⟩:=s5;exact⟨o,e⟩
    obtain⟨o,e⟩:=e;rw[q,hnew] at e;cases e
 done:=by intro X hP hw hK hc i pins s σ H E I hf st hg;subst hP hw hK;obtain⟨xs,ys,qa,qb,hend⟩:=hg;obtain⟨s1,s2,⟨u,v,s3⟩,s4,s5⟩:=st;obtain⟨ia,ra,pa,za⟩:=I.list qa;obtain⟨ib,rb,pb,zb⟩:=I.list qb;have la:=ra.length;have lb:=rb.length;refine wpAny_pyNext_zip_end (I.ok.hd hc) D s1 s2 s3 s4 s5 pa.isList pb.isList (by simp;omega) λh' kp=>⟨rfl,I.turnedAll (t':=s.toks) (λc o hc e=>?_) hf⟩;simp at hc;exact kp c o hc.1 hc.2.2.1 hc.2.2.2.1 hc.2.2.2.2 e
 self:=λA i s Q E st h=>wpAny_pyIter_zip st.1 h
noncomputable def qlX(K:Frag)(ta:TA):TI:=λσ H R=>ta σ H λvs H1=>∃a b,vs=[.ref a,.ref b]/\(∃xs,SqL K H1 a xs)/\(∃ys,SqL K H1 b ys)/\R (Itz K a b) H1
section
variable{X:Cx}
theorem qhv{ea eb:Expr}{elts:List Expr}{kk:Nat}{tpos p pos:Pos}{ta:TA}(hg:Gl X "zip")(hm:X.mg "zip" = none)(ha:PA X [ea,eb] ta)(hs:starEach [ea,eb] X.env=[(false,eval ea X.env),(false,eval eb X.env)]:=by rfl)(hs2:starEach [eb] X.env=[(false,eval eb X.env)]:=by rfl) :
  PI X (.Tuple elts kk tpos) (.Call (.Name "zip" p) [ea,eb] [] pos) (qlX X.K ta):=by
 intro pins s σ H R I h;refine Call_ (jt I hg hm boot_zip (PyProof.Rows.callWith_type1 (thn (ha pos pins s σ H _ I h) λus s1 z=>?_) (by rw[hs,hs2]) (by rw[hs2];rfl)));obtain⟨vs,H1,I1,r1,a,b,rfl,⟨xs,qa⟩,⟨ys,qb⟩,q⟩:=z;obtain⟨u,v,rfl,ru,rv⟩:=Jv r1;cases ru;cases rv;obtain⟨ia,ra,pa,za⟩:=I1.list qa;obtain⟨ib,rb,pb,zb⟩:=I1.list qb;have la:a < s1.heap.objs.size:=by obtain⟨_,e,_⟩:=pa.isList;exact Heap.lt_size e
 have lb:b < s1.heap.objs.size:=by obtain⟨_,e,_⟩:=pb.isList;exact Heap.lt_size e
 refine call_zip_2 pa.isList pb.isList λh' z1 z2 z3 z4 z5 z6 kp=>wpAny_pyIter_zip z1 ?_
 have D:ZipApart (s1.heap.objs.size+4) (s1.heap.objs.size+2) (s1.heap.objs.size+3) s1.heap.objs.size (s1.heap.objs.size+1) a b:=by constructor<;>(first | exact Nat.ne_of_lt (Nat.lt_of_lt_of_le la (Nat.le_add_right _ _)) | exact Nat.ne_of_lt (Nat.lt_of_lt_of_le lb (Nat.le_add_right _ _)) | exact Nat.ne_of_lt la | exact Nat.ne_of_lt lb | exact Nat.ne_of_lt (1:) | exact Nat.ne_of_gt (1:))
 refine⟨s1.heap.objs.size+4,[s1.heap.objs.size+4,s1.heap.objs.size+2,s1.heap.objs.size+3,s1.heap.objs.size,s1.heap.objs.size+1],_,_,H1,rfl,I1.kept (t':=s1.toks) kp,qc5 D,⟨z1,z2,⟨_,_,z3⟩,z4,z5⟩,λc hc=>?_,q⟩
 have:s1.heap.objs.size<=c:=by
  simp at hc;rcases hc with rfl | rfl | rfl | rfl | rfl
  ·exact Nat.le_add_right _ _
  ·exact Nat.le_add_right _ _
  ·exact Nat.le_add_right _ _
  ·exact Nat.le_refl _
  ·exact Nat.le_add_right _ _
 exact I1.fpOk this (I1.hok.fresh this)
end
end L2
namespace L2
open PySem PySem.Spec PyProof.Rows PySem.W PyProof
section
variable{X:Cx}
theorem qhw:SlR X (λx lo hi H Q=>∃z,x=.str z/\z.length<=sizeLine/\Q (.str (Txt.slice z lo hi)) H):=by
 intro pins s σ H x v vl vu lo hi sl Q I rx hs pl pu h;obtain⟨z,rfl,hz,q⟩:=h;obtain⟨t,rfl⟩:=rx;refine⟨"str",_,F.slot_str_getitem.lookup,typeIs_str _ _ _,?_⟩;obtain⟨o,e1,e2,e3⟩:=hs
 cases pl with
 |none=>
  cases pu with
  |none=>exact wpAny_getItem_str_slice (l:=none) (u:=none) (st:=none) ⟨o,e1,e2,e3⟩ rfl (post_val_or_str ⟨Nat.le_trans (Txt.slice_le z _ _) hz,λt' k=>⟨.str _,H,I.tok k,⟨t',rfl⟩,q⟩⟩)
  |int j uj=>exact wpAny_getItem_str_slice (l:=none) (u:=some (j,uj)) (st:=none) ⟨o,e1,e2,e3⟩ rfl (post_val_or_str ⟨Nat.le_trans (Txt.slice_le z _ _) hz,λt' k=>⟨.str _,H,I.tok k,⟨t',rfl⟩,q⟩⟩)
 |int i ui=>
  cases pu with
  |none=>exact wpAny_getItem_str_slice (l:=some (i,ui)) (u:=none) (st:=none) ⟨o,e1,e2,e3⟩ rfl (post_val_or_str ⟨Nat.le_trans (Txt.slice_le z _ _) hz,λt' k=>⟨.str _,H,I.tok k,⟨t',rfl⟩,q⟩⟩)
  |int j uj=>exact wpAny_getItem_str_slice (l:=some (i,ui)) (u:=some (j,uj)) (st:=none) ⟨o,e1,e2,e3⟩ rfl (post_val_or_str ⟨Nat.le_trans (Txt.slice_le z _ _) hz,λt' k=>⟨.str _,H,I.tok k,⟨t',rfl⟩,q⟩⟩)
end
end L2
namespace L2
open PySem PySem.Spec PyProof.Rows PySem.W
noncomputable def Ite(K:Frag)(a:Addr):It:=
 ⟨λi H=>∃xs x,SqL K H a xs/\xs[i]?=some x,
  λi H v H'=>∃T x,v=.ref T/\H T=none/\H'=upd H T (.tup [.int i,x])/\∀xs,SqL K H a xs->xs[i]?=some x,
  λi H=>∃xs,SqL K H a xs/\xs.length<=i⟩
noncomputable def ESt(e it a:Addr)(i:Nat)(h:Heap):Prop:=(∃old,IsEnum h e it ((i:Nat):Int) old)/\h.IsListIter it a i
theorem qbi{P:Program}{w:World}{K:Frag}{elts:List Expr}{kk:Nat}{pos:Pos}{e it a:Addr}(hne:e≠it) :
  Turn P w K (.Tuple elts kk pos) (Ite K a) [e,it] e (ESt e it a) where
 mem:=by simp
 obj:=λi h st c hc=>by
  obtain⟨⟨old,s1⟩,⟨o4,s4,_,d4⟩⟩:=st;simp at hc;rcases hc with rfl | rfl
  ·exact⟨_,s1,λv q=>by cases q⟩
  ·exact⟨_,s4,λv q=>by rw[d4] at q;cases q⟩
 keep:=λi h h' st k=>by obtain⟨⟨old,s1⟩,s4⟩:=st;exact⟨⟨old,k e (by simp) _ s1⟩,s4.at λo e=>k it (by simp) o e⟩
 item:=by
  intro X hP hw hK hc i pins s σ H E I hf st hg;subst hP hw hK;obtain⟨xs,x,qa,hx⟩:=hg;obtain⟨⟨old,s1⟩,s4⟩:=st;obtain⟨ia,ra,pa,za⟩:=I.list qa;obtain⟨ux,ex,rx⟩:=ra.get hx;refine wpAny_pyNext_enum_item s1 s4 pa.isList (x:=ux) (by simpa using ex) hne λh' a1 a2 a3 a4 kp=>?_;refine⟨_,rfl,wpAny_letOwnedTupleGo_enum (s:={ s with heap:=h',toks:=s.toks+1 }) a1 λh2 b1 b2=>?_⟩;have two:(2:Nat)<=sizeLine:=Nat.le_of_lt (Yn (2:))
  have kp2:∀c o,c∉[e,it]->s.heap.get? c=some o->h2.get? c=some o:=λc o hc q=>by simp at hc;exact b2.extBut c o hc.1 (kp c o hc.1 hc.2 q)
  have hnew:s.heap.get? s.heap.objs.size=none:=by
   cases q:s.heap.get? s.heap.objs.size with
   |none=>rfl
   |some o=>exact absurd (Heap.lt_size q) (Nat.lt_irrefl _)
  have hH:H s.heap.objs.size=none:=I.hok.fresh (Nat.le_refl _);have hTe:s.heap.objs.size≠e:=Nat.ne_of_gt (Heap.lt_size s1);have hT2:IsPair h2 s.heap.objs.size (.int i s.toks) ux:=b2.extBut _ _ hTe a3;have I2:Inv X pins σ (upd H s.heap.objs.size (.tup [.int i,x])) { s with heap:=h2,toks:=s.toks+1 }:=I.turnedNew (t':=s.toks+1) kp2 hf hnew ⟨two,[.int i s.toks,ux],.cons ⟨_,rfl⟩ %[rx|0],_,hT2,rfl,0,rfl⟩;refine⟨.ref s.heap.objs.size,_,I2,rfl,⟨_,x,rfl,hH,rfl,λxs' h1=>?_⟩,?_,λc hc=>?_⟩
  ·rw[I.list_inj h1 qa];exact hx
  ·have e1:((i+1:Nat):Int)=(i:Int)+1:=by omega
   refine⟨⟨ux,?_⟩,a2.extBut b2.extBut (Ne.symm hne)⟩;rw[e1];exact b1
  ·have hc0:=(hf c hc).1;rw[qf]
   ·exact hc0
   ·intro q
    have e:∃o,s.heap.get? c=some o:=by
     simp at hc;rcases hc with rfl | rfl
     ·exact⟨_,s1⟩
     ·obtain⟨o,e,_⟩:=s4;exact⟨o,e⟩
    obtain⟨o,e⟩:=e;rw[q,hnew] at e;cases e
 done:=by intro X hP hw hK hc i pins s σ H E I hf st hg;subst hP hw hK;obtain⟨xs,qa,hend⟩:=hg;obtain⟨⟨old,s1⟩,s4⟩:=st;obtain⟨ia,ra,pa,za⟩:=I.list qa;have la:=ra.length;refine wpAny_pyNext_enum_end (I.ok.hd hc) s1 s4 pa.isList (by simp;omega) λh' kp=>⟨rfl,I.turnedAll (t':=s.toks) (λc o hc e=>?_) hf⟩;simp at hc;exact kp c o hc.2 e
 self:=λA i s Q E st h=>by obtain⟨⟨old,s1⟩,_⟩:=st;exact wpAny_pyIter_enum s1 h
noncomputable def qkf(K:Frag)(ta:TA):TI:=λσ H R=>ta σ H λvs H1=>∃a,vs=[.ref a]/\(∃xs,SqL K H1 a xs)/\R (Ite K a) H1
section
variable{X:Cx}
theorem qfo{ea:Expr}{elts:List Expr}{kk:Nat}{tpos p pos:Pos}{ta:TA}(hg:Gl X "enumerate")(hm:X.mg "enumerate" = none)(ha:PA X [ea] ta)(hs:starEach [ea] X.env=[(false,eval ea X.env)]:=by rfl) :
  PI X (.Tuple elts kk tpos) (.Call (.Name "enumerate" p) [ea] [] pos) (qkf X.K ta):=by
 intro pins s σ H R I h;refine Call_ (jt I hg hm boot_enumerate (PyProof.Rows.callWith_type1 (thn (ha pos pins s σ H _ I h) λus s1 z=>?_) hs rfl));obtain⟨vs,H1,I1,r1,a,rfl,⟨xs,qa⟩,q⟩:=z;obtain⟨u,rfl,ru⟩:=jb r1;cases ru;obtain⟨ia,ra,pa,za⟩:=I1.list qa;refine call_enumerate_list pa.isList λh' z1 z2 z3 kp=>wpAny_pyIter_enum z1 ?_;refine⟨s1.heap.objs.size+1,[s1.heap.objs.size+1,s1.heap.objs.size],_,_,H1,rfl,I1.kept (t':=s1.toks) kp,qbi (Nat.succ_ne_self _),⟨⟨_,z1⟩,z2⟩,λc hc=>?_,q⟩
 have:s1.heap.objs.size<=c:=by
  simp at hc;rcases hc with rfl | rfl
  ·exact Nat.le_add_right _ _
  ·exact Nat.le_refl _
 exact I1.fpOk this (I1.hok.fresh this)
end
end L2
namespace L2
open PySem PySem.Spec PyProof.Rows PySem.W
noncomputable def Itv(K:Frag)(a:Addr)(xs:List V):It:=
 ⟨λi H=>SqL K H a xs/\i < xs.length,λi H x H'=>H'=H/\xs[xs.length - 1 - i]?=some x,λi H=>SqL K H a xs/\xs.length=i⟩
theorem qc6{P:Program}{w:World}{K:Frag}{tg:Expr}(a it:Addr)(xs:List V):Turn P w K tg (Itv K a xs) [it] it (λi h=>h.IsRevIter it a ((xs.length:Int) - 1 - i)) where
 mem:=by simp
 obj:=λi h st b hb=>by
  have e:b=it:=by simpa using hb
  subst e;obtain⟨o,e,c,d⟩:=st;exact⟨o,e,λv z=>by rw[d] at z;cases z⟩
 keep:=λi h h' st k=>st.at λo e=>k it (by simp) o e
 item:=by
  intro X hP hw hK hc i pins s σ H E I hf st hg;subst hP hw hK;obtain⟨hq,hi⟩:=hg;obtain⟨its,rv,p,hz⟩:=I.list hq;have hx:xs[xs.length - 1 - i]?=some xs[xs.length - 1 - i]:=List.getElem?_eq_getElem (1:);obtain⟨u,hu,ru⟩:=rv.get hx;obtain⟨f0,f1,f2,f3,f4,f5⟩:=hf it (by simp);have e1:(xs.length:Int) - 1 - i=((xs.length - 1 - i:Nat):Int):=by omega
  rw[e1] at st;refine wpAny_pyNext_rev_item st p.isList (x:=u) (by simpa using hu) λh' st' sb=>?_;have I1:Inv X pins σ H { s with heap:=h' }:=I.turned (t':=s.toks) (λb o hb e=>(sb.2 b hb).trans e) f0 f1 f3 f4 f5;have e2:((xs.length - 1 - i:Nat):Int) - 1=(xs.length:Int) - 1 - ((i+1:Nat):Int):=by omega
  rw[e2] at st';obtain⟨o,e,c,d⟩:=id st';exact⟨u,rfl,ZR (s:={ s with heap:=h' }) e c d (2:) ⟨_,H,I1,ru,⟨rfl,hx⟩,st',λb hb=>(hf b hb).1⟩⟩
 done:=by
  intro X hP hw hK hc i pins s σ H E I hf st hg;subst hP hw hK;obtain⟨hq,hi⟩:=hg;obtain⟨f0,f1,f2,f3,f4,f5⟩:=hf it (by simp);have e1:(xs.length:Int) - 1 - i = -1:=by omega
  rw[e1] at st;exact wpAny_pyNext_rev_end (I.ok.hd hc) st λh' eb=>⟨rfl,I.turned (t':=s.toks) (λb o hb e=>eb b o hb e) f0 f1 f3 f4 f5⟩
 self:=λ_ _ _ _ _ st h=>wpAny_pyIter_revIter st h
noncomputable def qlY(K:Frag)(ta:TA):TI:=λσ H R=>ta σ H λvs H1=>∃a xs,vs=[.ref a]/\SqL K H1 a xs/\R (Itv K a xs) H1
section
variable{X:Cx}
theorem qhx{ea tg:Expr}{p pos:Pos}{ta:TA}(hg:Gl X "reversed")(hm:X.mg "reversed" = none)(ha:PA X [ea] ta)(hs:starEach [ea] X.env=[(false,eval ea X.env)]:=by rfl) :
  PI X tg (.Call (.Name "reversed" p) [ea] [] pos) (qlY X.K ta):=by
 intro pins s σ H R I h;refine Call_ (jt I hg hm boot_reversed (PyProof.Rows.callWith_type1 (thn (ha pos pins s σ H _ I h) λus s1 z=>?_) hs rfl));obtain⟨vs,H1,I1,r1,a,xs,rfl,qa,q⟩:=z;obtain⟨u,rfl,ru⟩:=jb r1;cases ru;obtain⟨ia,ra,pa,za⟩:=I1.list qa;have la:=ra.length;refine call_reversed_list pa.isList ?_;refine wpAny_pyIter_revIter ⟨_,Heap.get?_push_size _ rfl,rfl,rfl⟩ ?_;refine⟨s1.heap.objs.size,[s1.heap.objs.size],_,_,H1,rfl,I1.kept (t':=s1.toks) λb o e=>Heap.get?_push_of_some _ e,qc6 a _ xs,⟨_,Heap.get?_push_size _ rfl,rfl,?_⟩,λb hb=>?_,q⟩
 ·show Data.fields #[.ref a,rawInt ((ia.toArray.size:Int) - 1)]=_
  have:(ia.toArray.size:Int) - 1=(xs.length:Int) - 1 - ((0:Nat):Int):=by simp;omega
  rw[this]
 ·have e:b=s1.heap.objs.size:=by simpa using hb
  subst e;exact I1.fpOk (Nat.le_refl _) (I1.hok.fresh (Nat.le_refl _))
end
end L2
namespace L2
open PySem PySem.Spec PyProof.Rows
theorem Qq:∀{zs:List Str} {us:List Value},qr (zs.map V.str) us->StrsAre us zs
 |[],_,.nil=>.nil
 | z::zs,_,.cons r t=>by obtain⟨k,rfl⟩:=r;exact .cons z k (Qq t)
theorem JD(k:Str):∀{vs:List Value} {ys:List Str},StrsAre vs ys->∀(j:Nat) (h1:j < vs.length) (h2:j < ys.length),isStrOf k vs[j]=(ys[j] == k)
 |_,_,.cons n t _,0,_,_=>rfl
 | _,_,.cons n t r,j+1,h1,h2=>JD k r j (Nat.lt_of_succ_lt_succ h1) (Nat.lt_of_succ_lt_succ h2)
theorem qei{k:Str}:∀{ns:List Str} {j:Nat},j < ns.idxOf k->∀(h2:j < ns.length),(ns[j] == k)=false
 | n::r,0,h,_=>by
  by_cases e:n=k
  ·subst e;simp at h
  ·simpa using e
 | n::r,j+1,h,h2=>by
  by_cases e:n=k
  ·subst e;simp at h
  ·have hb:(n == k)=false:=by simpa using e
   have h':j < r.idxOf k:=by rw[List.idxOf_cons,hb] at h;exact Nat.lt_of_succ_lt_succ h
   exact qei h' (Nat.lt_of_succ_lt_succ h2)
theorem Ze:∀{vs:List Value} {ys:List Str},StrsAre vs ys->vs.length=ys.length
 |_,_,.nil=>rfl
 |_,_,.cons _ _ r=>by rw[List.length_cons,List.length_cons,Ze r]
section
variable{X:Cx}
noncomputable def qhy:V->List V->Hp->VK->Prop:=λx vs H Q=>∃(l:Addr) (zs:List Str) (k:Str),x=.ref l/\vs=[.str k]/\H l=some (.lst (zs.map V.str))/\k∈zs/\Q (.int (zs.idxOf k:Nat)) H
theorem qc7:MtR X "list.index" qhy:=by
 intro pins s σ H x vs v us Q I rx rv h;obtain⟨l,zs,k,rfl,rfl,hH,hk,q⟩:=h;cases rx;obtain⟨u,rfl,ru⟩:=rv.one;obtain⟨z,its,n,r,hl,e⟩:=I.lstM hH;obtain⟨t,rfl⟩:=ru;have hi:=Qq r;have hlen:=Ze hi;have hj:zs.idxOf k < zs.length:=List.idxOf_lt_length_iff.mpr hk;have hz:zs.length<=sizeLine:=by simpa using z
 have hs:sizeLine < 2 ^ 62:=by decide+kernel
 refine call_meets F.slot_list_index ⟨_,e,rfl⟩ F.entry_list_index (F.args_list_index_2 _ _) (SeqAt.list_indexAt l its.toArray n _ _ (.str k t) (isStrOf k) (zs.idxOf k) (by simpa [hlen] using hj) (1:) ?_ ?_) ⟨e,λy hy=>(eq_isStrOf k t hi y (by simpa using hy)).at _ _,?_⟩
 ·show isStrOf k its[zs.idxOf k]=true;rw[JD k hi _ (1:) hj]
  simpa using List.getElem_idxOf hj
 ·intro j hjs hlt;show isStrOf k its[j]=false;rw[JD k hi j (by simpa using hjs) (1:)];exact qei hlt _
 ·exact⟨.int _,H,I.tok _,⟨_,rfl⟩,q⟩
end
end L2
namespace L2
open PySem PySem.Spec PyProof.Rows
noncomputable def qjF(lo st:Int)(n:Nat):It:=⟨λi _=>i < n,λi H x H'=>H'=H/\x=.int (lo+i * st),λi _=>n<=i⟩
theorem Qr{P:Program}{w:World}{K:Frag}{tg:Expr}(it:Addr)(lo c:Int)(n:Nat):Turn P w K tg (qjF lo c n) [it] it (λi h=>IsRangeIter h it (lo+(i:Nat) * c) ((n:Int) - (i:Nat)) c) where
 mem:=by simp
 obj:=λi h st b hb=>by
  have e:b=it:=by simpa using hb
  subst e
  exact⟨_,st,λv z=>by have z':Data.fields _=Data.cell v:=z;cases z'⟩
 keep:=λi h h' st k=>k it (by simp) _ st
 item:=by intro X hP hw hK hc i pins s σ H E I hf st hg;subst hP hw hK;obtain⟨f0,f1,f2,f3,f4,f5⟩:=hf it (by simp);have W:=Walks.range (prog:=X.prog) (w:=X.w) (I.ok.hd hc) it lo c n;refine W.item i s _ _ hg st λv h' tk hv st' kk=>?_;obtain⟨t,rfl⟩:=hv;have I1:Inv X pins σ H { s with heap:=h',toks:=tk }:=I.turned (λb o hb e=>kk b o (by simpa using hb) e) f0 f1 f3 f4 f5;exact⟨_,rfl,ZR (s:={ s with heap:=h',toks:=tk }) (n:="range_iterator") st' rfl rfl (2:) ⟨.int (lo+i * c),H,I1,⟨t,rfl⟩,⟨rfl,rfl⟩,st',λb hb=>(hf b hb).1⟩⟩
 done:=by intro X hP hw hK hc i pins s σ H E I hf st hg;subst hP hw hK;obtain⟨f0,f1,f2,f3,f4,f5⟩:=hf it (by simp);exact wpAny_pyNext_range_end (I.ok.hd hc) st (by have:n<=i:=hg;omega) λh' eb=>⟨rfl,I.turned (t':=s.toks) (λb o hb e=>eb b o hb e) f0 f1 f3 f4 f5⟩
 self:=λ_ _ _ _ _ st h=>wpAny_pyIter_rangeiter st h
def rsz(lo hi c:Int):Nat:=if lo < hi then ((hi - lo - 1) / c+1).toNat else 0
theorem qej{lo hi c:Int}(hc:0 < c):Builtin.Range.rangeSize lo hi c=(rsz lo hi c:Int):=by
 unfold Builtin.Range.rangeSize rsz;rw[if_pos hc];split
 ·have:=Int.ediv_nonneg (show 0<=hi - lo - 1 by omega) (Int.le_of_lt hc)
  omega
 ·rfl
theorem qfp{a b c:Int}(ha:-(2 ^ 60)<=a)(ha':a < 2 ^ 60)(hb:-(2 ^ 60)<=b)(hb':b < 2 ^ 60)(hc:0 < c)(hc':c < 2 ^ 30):Builtin.Range.small a b c=true:=by
 have hz:=qej (lo:=a) (hi:=b) hc
 have hl:(rsz a b c:Int)<=2 ^ 61+1:=by
  unfold rsz;split
  ·have h1:=Int.ediv_nonneg (show 0<=b - a - 1 by omega) (Int.le_of_lt hc);have h2:(b - a - 1) / c<=b - a - 1:=Int.ediv_le_self _ (1:);omega
  ·simp
 unfold Builtin.Range.small;rw[hz];simp only[Builtin.Range.rangeFitsLong,Bool.and_eq_true,Bool.or_eq_true,decide_eq_true_eq,beq_iff_eq,show c > 0 from hc,if_true];omega
section
variable{X:Cx}{tg:Expr}
theorem qbj{pins:PP}{σ:St}{H:Hp}{s:Shared}{R:It->Hp->Prop}{E:PQ}{lo hi c:Int}{t u v:Tok}{tk:Nat}(I:Inv X pins σ H s)(h1:-(2 ^ 60)<=lo)(h2:lo < 2 ^ 60)(h3:-(2 ^ 60)<=hi)(h4:hi < 2 ^ 60)(h5:0 < c)(h6:c < 2 ^ 30)
  (q:R (qjF lo c (rsz lo hi c)) H):wpAny (model X.prog X.w) X.A (pyIter (.ref s.heap.objs.size)) (PIE X pins σ tg R) E { s with heap:=s.heap.push { cls:=.type "range",data:=.fields #[.int lo t,.int hi u,.int c v] },toks:=tk }:=by
 refine wpAny_pyIter_range (IsRange.new ..) (qfp h1 h2 h3 h4 h5 h6) ?_;have I1:Inv X pins σ H { s with heap:=s.heap.push { cls:=.type "range",data:=.fields #[.int lo t,.int hi u,.int c v] },toks:=tk }:=I.kept λb o e=>Heap.get?_push_of_some _ e
 refine⟨(s.heap.push { cls:=.type "range",data:=.fields #[.int lo t,.int hi u,.int c v] }).objs.size,[(s.heap.push { cls:=.type "range",data:=.fields #[.int lo t,.int hi u,.int c v] }).objs.size],_,_,H,rfl,
  I1.kept (t':=tk) λb o e=>Heap.get?_push_of_some _ e,Qr _ lo c (rsz lo hi c),?_,λb hb=>?_,q⟩
 ·have e1:lo+((0:Nat):Int) * c=lo:=by simp
  have e2:((rsz lo hi c:Nat):Int) - ((0:Nat):Int)=Builtin.Range.rangeSize lo hi c:=by rw[qej h5];simp
  show IsRangeIter _ _ (lo+((0:Nat):Int) * c) (((rsz lo hi c:Nat):Int) - ((0:Nat):Int)) c;rw[e1,e2];exact Heap.get?_push_size _ rfl
 ·have e:b=(s.heap.push { cls:=.type "range",data:=.fields #[.int lo t,.int hi u,.int c v] }).objs.size:=by simpa using hb
  subst e;exact I1.fpOk (Nat.le_refl _) (I1.hok.fresh (Nat.le_refl _))
noncomputable def qkg(ta:TA):TI:=λσ H R=>ta σ H λvs H1=>∃i j c:Int,vs=[.int i,.int j,.int c]/\(-(2 ^ 60)<=i/\i < 2 ^ 60/\-(2 ^ 60)<=j/\j < 2 ^ 60/\0 < c/\c < 2 ^ 30)/\R (qjF i c (rsz i j c)) H1
theorem qbk{a b c:Expr}{ta:TA}{p pos:Pos}(hg:Gl X "range")(hm:X.mg "range" = none)(ha:PA X [a,b,c] ta)(hs:starEach [a,b,c] X.env=[(false,eval a X.env),(false,eval b X.env),(false,eval c X.env)])(hs2:starEach [b,c] X.env=[(false,eval b X.env),(false,eval c X.env)]) :
  PI X tg (.Call (.Name "range" p) [a,b,c] [] pos) (qkg ta):=by
 intro pins s σ H R I h;refine Call_ (jt I hg hm boot_range (PyProof.Rows.callWith_type1 (thn (ha pos pins s σ H _ I h) λus s1 hq=>?_) (by rw[hs,hs2]) (by rw[hs2];rfl)));obtain⟨vs,H1,I1,r1,q1⟩:=hq;obtain⟨i,j,k,e,⟨q1,q2,q3,q4,q5,q6⟩,q⟩:=q1;subst e
 cases r1 with
 |cons r rr=>
  cases rr with
  | cons r' rr=>
   cases rr with
   | cons r'' rr=>cases rr;obtain⟨t,rfl⟩:=r;obtain⟨t',rfl⟩:=r';obtain⟨t'',rfl⟩:=r'';exact call_range_3 (1:) (qbj I1 q1 q2 q3 q4 q5 q6 q) (.inl (PyProof.noPylong_small (1:)))
end
end L2
namespace L2
open PySem PySem.Spec PyProof.Rows
section
variable{prog:Program}{w:World}{A:Around}{E:PQ}{s:Shared}
theorem Yw:typeLookup (.type "list") "keys" = pure none:=am_miss_of_fast (by kernel_rfl)
theorem qhz{a:Addr}{o:Obj}{xs:Array Value}{k:Nat}{Q:Option Value->Shared->Prop}(hx:s.heap.get? a=some o)(hc:o.cls=.type "list")(hdat:o.data=.seq xs k)(hd:o.dict=none)(hA:A.handled=none)
  (h:∀h' tk,(∀b ob,s.heap.get? b=some ob->h'.get? b=some ob)->Q none { s with heap:=h',toks:=tk }):wpAny (model prog w) A (getAttr? (.ref a) "keys") Q E s:=by
 obtain⟨c,dct,dat,sl⟩:=o;simp only at hc hdat hd;subst hc hdat hd;obtain⟨hp,g,d,tk,os⟩:=s;have hT:∀tk',(⟨hp,g,d,tk',os⟩:Shared).TypeIs (.ref a) "list":=λ_=>⟨_,hx,rfl⟩;have f1:=sub_AttributeError;have f3:=PySem.F.slot_list_getattribute.lookup;have f4:=PySem.F.slot_list_getattribute.bind (.ref a);have f5:=am_list_getattr_none;unfold getAttr? getAttrBy? getAttrBy
 repeat (any_goals (first | assumption | exact hT _ | ((with_reducible show wpAny _ _ (call (Value.builtin "list.__getattribute__") _ _) _ _ _);refine call_meets PySem.F.slot_list_getattribute (hT _) am_entry_list_getattribute (PySem.F.args_list_getattribute_2 _ _) (meets_getattribute_miss_list a xs k sl _ _ Yw (by decide+kernel)) ⟨hx,hA,λh' tk' e hx'=>?_⟩) | wp_step))
 obtain⟨t',u',he⟩:=hx'.there;show wpAny _ _ (getattributeRaised _ _ _ _ _ _ _) _ _ _;unfold getattributeRaised
 repeat (any_goals (first | assumption | wp_step))
 exact h _ _ hx'.keeps
theorem Zf:entryFor table "dict.update.loop" = some Builtin.«dict.update.loop»:=entryFor_of_tree (by kernel_rfl)
theorem yg:plainId "dict.update.loop" = true:=by decide+kernel
noncomputable def qfq(prog:Program)(w:World)(h:Heap)(items:Array Value)(ps:List (Key×Value)):Prop:=items.size=ps.length/\∀(i:Nat) (kv:Key×Value),ps[i]?=some kv->∃(b:Addr) (ku:Value),items[i]?=some (.ref b)/\h.IsTuple b #[ku,kv.2]/\(qq prog w).is kv.1 ku=true
theorem qhA{h0:Heap}{D I l:Addr}{items:Array Value}{ps:List (Key×Value)}{R:Result->Shared->Prop}(hD:h0.get? D=none)(hI:h0.get? I=none)(hne:D≠I)(hl:h0.IsList l items)(hps:qfq prog w h0 items ps)(hz:ps.length<=sizeLine)(hh:A.handled=none) :
  ∀(k i:Nat) (t:Tok) (s:Shared),ps.length - i=k->i<=ps.length->(∀b o,h0.get? b=some o->s.heap.get? b=some o)->s.heap.IsListIter I l i->s.heap.DictOf (qq prog w) D (merged [] (ps.take i))->
   (∀h' tk,(∀b o,h0.get? b=some o->h'.get? b=some o)->h'.DictOf (qq prog w) D (merged [] ps)->R (.ok (.ret .none)) { s with heap:=h',toks:=tk })->
   codeAny (model prog w) A (.builtin "dict.update.loop" ⟨[.ref D,.ref I,.int i t,.none],[]⟩) R s:=by
 have old:∀{b:Addr} {o:Obj},h0.get? b=some o->b≠D/\b≠I:=λ{b o} e=>⟨λz=>(by rw[z,hD] at e;cases e),λz=>(by rw[z,hI] at e;cases e)⟩;intro k
 induction k with
 |zero=>
  intro i t s hk hi ho it dd hR;have hin:i=ps.length:=by omega
  subst hin;refine codeAny_builtin Zf ?_;rw[Around.under_plainId yg _];show wpAny _ A.in1 (pyNext (.ref I) >>= _) _ _ s;have hl':s.heap.IsList l items:=hl.at λo e=>ho _ _ e;refine wpAny_bind (wpAny_pyNext_list_end (by simpa using hh) it hl' (by simp[hps.1]) λh' eb=>?_);rw[List.take_length] at dd;show wpAny _ A.in1 (Builtin.Dict.addKeywords D [] >>= _) _ _ _;refine wpAny_bind (wpAny_pure (wpAny_pure (hR h' s.toks (λb o e=>eb b o (old e).2 (ho b o e)) ?_)));obtain⟨o,es,ep,h1,r⟩:=dd;exact⟨o,es,ep,eb D o hne h1,r⟩
 |succ k ih=>
  intro i t s hk hi ho it dd hR;have hlt:i < ps.length:=by omega
  obtain⟨kv,hkv⟩:∃kv,ps[i]?=some kv:=⟨ps[i],List.getElem?_eq_getElem _⟩;obtain⟨b,ku,h1,h2,h3⟩:=hps.2 i kv hkv;have hl':s.heap.IsList l items:=hl.at λo e=>ho _ _ e;refine codeAny_builtin Zf ?_;rw[Around.under_plainId yg _];show wpAny _ A.in1 (pyNext (.ref I) >>= _) _ _ s;refine wpAny_bind (wpAny_pyNext_list_item it hl' h1 λh' it' sb=>?_);have ho':∀b o,h0.get? b=some o->h'.get? b=some o:=λb o e=>(sb.2 b (old e).2).trans (ho b o e)
  have dd':h'.DictOf (qq prog w) D (merged [] (ps.take i)):=by obtain⟨o,es,ep,q,r⟩:=dd;exact⟨o,es,ep,(sb.2 D hne).trans q,r⟩
  obtain⟨ot,q1,q2,n,q3⟩:=h2;have hT:Shared.TypeIs { s with heap:=h' } (.ref b) "tuple":=⟨ot,ho' _ _ q1,q2⟩;show wpAny _ A.in1 (holding [Value.ref b] _ >>= _) _ _ _;refine wpAny_bind (wpAny_holding (wpAny_bind (wpAny_tryCatch ?_)));unfold Builtin.Dict.pairItems;refine wpAny_bind (wpAny_typeOf hT ?_);rw[if_pos (2:)];refine wpAny_bind (wpAny_seqItems (ho' _ _ q1) q3 (wpAny_pure ?_));show wpAny _ A.in1 (holding [ku,kv.2] (dictSet D ku kv.2)) _ _ _;unfold dictSet;refine wpAny_holding (wpAny_holding (wpAny_bind ((qq prog w).pyHash (k:=kv.1) h3 ?_)))
  have hmx:(merged [] (ps.take i)).length<=sizeLine:=by
   have e1:=merged_length_le ([]:List (Key×Value)) (ps.take i);have e2:(ps.take i).length<=ps.length:=by rw[List.length_take];omega
   simp only[List.length_nil] at e1;omega
  refine wpAny_dictSetHashed_pairs (s:={ s with heap:=h',toks:=s.toks+1 }) (hsz:=hmx) h3 dd' λh'' dd'' sb'=>?_;refine wpAny_pure ⟨plainId_quiet yg _,ih (i+1) _ _ (1:) hlt (λb o e=>(sb'.2 b (old e).1).trans (ho' b o e)) ?_ ?_ hR⟩
  ·obtain⟨o,z,r⟩:=it';exact⟨o,(sb'.2 I (Ne.symm hne)).trans z,r⟩
  ·rw[merged_take_succ [] ps i kv hkv];exact dd''
theorem Z4{l:Addr}{ol:Obj}{items:Array Value}{n:Nat}{ps:List (Key×Value)}{Q:PQ}(hh:A.handled=none)(hx:s.heap.get? l=some ol)(hc:ol.cls=.type "list")(hdat:ol.data=.seq items n)(hd:ol.dict=none)(hps:qfq prog w s.heap items ps)(hz:ps.length<=sizeLine)
  (h:∀h' tk,(∀b o,s.heap.get? b=some o->h'.get? b=some o)->h'.DictOf (qq prog w) s.heap.objs.size (merged [] ps)->Q (.ref s.heap.objs.size) { s with heap:=h',toks:=tk }) :
  wpAny (model prog w) A (call (.type "dict") [.ref l]) Q E s:=by
 refine callType_codes (Q₁:=λobj s₁=>obj=.ref s.heap.objs.size/\s₁={ s with heap:=s.heap.push { cls:=.type "dict",data:=.dict #[] } }) PySem.F.kt_called_dict (PySem.F.kt_typeCall_dict_1 _) PySem.F.entry_dict_init (kt_code_dict_new _ ⟨rfl,rfl⟩) ?_;rintro obj s₁ ⟨rfl,rfl⟩;have hnew:(s.heap.push { cls:=.type "dict",data:=.dict #[] }).DictOf (qq prog w) s.heap.objs.size []:=Heap.DictOf.new s.heap;have hx':(s.heap.push { cls:=.type "dict",data:=.dict #[] }).get? l=some ol:=Heap.get?_push_of_some _ hx;have hT:Shared.TypeIs { s with heap:=s.heap.push { cls:=.type "dict",data:=.dict #[] } } (.ref l) "list":=⟨ol,hx',hc⟩;refine⟨hnew.typeIs,PySem.F.args_dict_init_2 _ _,?_⟩;unfold Builtin.«dict.__init__»;refine wpAny_bind ?_;unfold Builtin.Dict.selfAndRest;refine wpAny_bind (wpAny_notOrdered_dict hnew.typeIs ?_);show wpAny _ _ (pure (s.heap.objs.size,[Value.ref l])) _ _ _;refine wpAny_pure ?_;show wpAny _ _ (Builtin.Dict.updateFrom "dict.__init__" s.heap.objs.size (.ref l) [] .none) _ _ _;unfold Builtin.Dict.updateFrom;refine wpAny_bind (wpAny_typeOf hT ?_);rw[if_pos (2:)];refine wpAny_bind (qhz hx' hc hdat hd (by simpa using hh) λh1 tk1 k1=>?_);rw[if_pos (by rfl)];refine wpAny_bind (wpAny_rule ?_);have hl1:h1.IsList l items:=⟨ol,k1 _ _ hx',hc,n,hdat⟩;refine wpAny_bind (wpAny_pyIter_list hl1 ?_);have k0:∀b o,s.heap.get? b=some o->(h1.push { cls:=.type "list_iterator",data:=.fields #[.ref l,.int 0 0] }).get? b=some o:=λb o e=>Heap.get?_push_of_some _ (k1 b o (Heap.get?_push_of_some _ e));obtain⟨od,es,ep,hod,rd⟩:=hnew;have hlt:s.heap.objs.size < h1.objs.size:=Heap.lt_size (k1 _ _ hod);have hDI:s.heap.objs.size≠h1.objs.size:=Nat.ne_of_lt hlt;refine wpAny_pure ⟨plainId_quiet yg _,?_⟩;refine qhA (h0:=s.heap) (l:=l) (items:=items) (ps:=ps) (Heap.get?_none_of_le (Nat.le_refl _)) (Heap.get?_none_of_le (Nat.le_of_lt hlt)) hDI ⟨ol,hx,hc,n,hdat⟩ hps hz (by simpa using hh) _ 0 _ _ rfl (Nat.zero_le _) k0 ?_ ?_ λh' tk ko dd=>?_
 ·exact⟨_,Heap.get?_push_size _ rfl,rfl,rfl⟩
 ·exact⟨od,es,ep,Heap.get?_push_of_some _ (k1 _ _ hod),rd⟩
 ·exact⟨rfl,h h' tk ko dd⟩
end
section
variable{X:Cx}
def kvV(kv:Str×Int):Key×V:=(.inr kv.1,.int kv.2)
theorem qek{P:Program}{w:World}{H:Hp}{h:Heap}(ok:HOk P w H h):∀{xs:List V} {kvs:List (Str×Int)} {its:List Value},Paired (λx (kv:Str×Int)=>∃b,x=V.ref b/\H b=some (.tup [.str kv.1,.int kv.2])) xs kvs->qr xs its->
  ∃ps:List (Key×Value),KV (kvs.map kvV) ps/\Paired (λu (kv:Key×Value)=>∃b ku,u=Value.ref b/\h.IsTuple b #[ku,kv.2]/\(qq P w).is kv.1 ku=true) its ps
 |_,_,_,.nil,.nil=>⟨[],.nil,.nil⟩
 | _,_,_,.cons (b:=kv) hx hr,.cons rx rr=>by obtain⟨ps,h1,h2⟩:=qek ok hr rr;obtain⟨b,rfl,hb⟩:=hx;obtain⟨_,its,rv,tp⟩:=(show qy P w H h b (.tup [.str kv.1,.int kv.2]) from ok b _ hb);obtain⟨u,v,rfl,ru,rv⟩:=Jv rv;exact⟨(.inr kv.1,v)::ps,.cons ⟨rfl,rv⟩ h1,.cons ⟨b,u,rx,tp,qa9 (k:=.inr kv.1) ru⟩ h2⟩
theorem Paired.ix{α β:Type}{R:α->β->Prop}:∀{l:List α} {m:List β} {i:Nat} {b:β},Paired R l m->m[i]?=some b->∃a,l[i]?=some a/\R a b
 |_,_,_,_,.nil,e=>by simp at e
 |_,_,0,_,.cons h t,e=>by simp at e;subst e;exact⟨_,rfl,h⟩
 | _,_,i+1,_,.cons h t,e=>by obtain⟨a,e1,e2⟩:=Paired.ix (i:=i) t (by simpa using e);exact⟨a,by simpa using e1,e2⟩
theorem Z5(hc:X.calm=true):qH X (.type "dict") (λvs H Q=>∃(p:Addr) (xs:List V) (kvs:List (Str×Int)),vs=[.ref p]/\SqL X.K H p xs/\Paired (λx (kv:Str×Int)=>∃b,x=V.ref b/\H b=some (.tup [.str kv.1,.int kv.2])) xs kvs/\(kvs.map (·.1)).Nodup/\∀q,H q=none->Q (.ref q) (upd H q (.dK (kvs.map kvV)))):=by
 intro pins s σ H xs us Q I r h;obtain⟨p,xs,kvs,rfl,hq,hp,nd,q⟩:=h;obtain⟨u,rfl,rx⟩:=jb r;cases rx;obtain⟨its,rv,⟨ol,n,g1,g2,g3,g4⟩,hz⟩:=I.list hq;obtain⟨ps,h1,h2⟩:=qek I.hok hp rv;have e1:=h1.length;have e2:=h2.length;have e3:=rv.length;rw[List.length_map] at e1
 have hps:qfq X.prog X.w s.heap its.toArray ps:=⟨by simpa using e2,λi kv e=>by obtain⟨u,z1,b,ku,z2,z3,z4⟩:=Paired.ix h2 e;exact⟨b,ku,by rw[<-z2];simpa using z1,z3,z4⟩⟩
 refine Z4 (I.ok.hd hc) g1 g2 g4 g3 hps (1:) λh' tk ko dd=>?_
 have nk:(ps.map (·.1)).Nodup:=by
  rw[<-h1.keys,List.map_map]
  have:((λx:Key×V=>x.1) ∘ kvV)=(Sum.inr:Str->Key) ∘ (λkv:Str×Int=>kv.1):=rfl
  rw[this,<-List.map_map];exact nd.map (f:=(Sum.inr:Str->Key)) (λa b=>by simp)
 rw[merged_nil_of_nodup ps nk] at dd;refine⟨.ref _,_,I.laid (a:=s.heap.objs.size) (o:=.dK (kvs.map kvV)) (t':=tk) ko (Nat.le_refl _) (qeg (by rw[List.length_map];omega) (beq_eq_false_iff_ne.mpr (Ne.symm (Nat.ne_of_lt I.big))) h1 dd),rfl,q _ (I.hok.fresh (Nat.le_refl _))⟩
end
end L2
namespace L2
open PySem PySem.Spec PyProof.Rows
section
variable{X:Cx}
theorem qbl:qH X (.type "range") (λvs H Q=>∃j:Int,vs=[.int j]/\∀q,H q=none->Q (.ref q) (upd H q (.rng 0 j))):=by intro pins s σ H xs us Q I r h;obtain⟨j,rfl,q⟩:=h;obtain⟨u,rfl,t,rfl⟩:=jb r;exact call_range_1 ⟨.ref _,_,I.laid (a:=s.heap.objs.size) (o:=.rng 0 j) (t':=_) (λ_ _ e=>Heap.get?_push_of_some _ e) (Nat.le_refl _) ⟨_,_,_,Heap.get?_push_size _ rfl⟩,rfl,q _ (I.hok.fresh (Nat.le_refl _))⟩
theorem qbm:qH X (.type "range") (λvs H Q=>∃i j:Int,vs=[.int i,.int j]/\∀q,H q=none->Q (.ref q) (upd H q (.rng i j))):=by intro pins s σ H xs us Q I r h;obtain⟨i,j,rfl,q⟩:=h;obtain⟨u,v,rfl,⟨t,rfl⟩,⟨t',rfl⟩⟩:=Jv r;exact call_range_2 ⟨.ref _,_,I.laid (a:=s.heap.objs.size) (o:=.rng i j) (t':=_) (λ_ _ e=>Heap.get?_push_of_some _ e) (Nat.le_refl _) ⟨_,_,_,Heap.get?_push_size _ rfl⟩,rfl,q _ (I.hok.fresh (Nat.le_refl _))⟩
def rgV(i:Int)(n:Nat):List V:=(List.range n).map λk:Nat=>V.int (i+k)
theorem Z6(hc:X.calm=true):qH X (.type "list") (λvs H Q=>∃(p:Addr) (i j:Int),vs=[.ref p]/\H p=some (.rng i j)/\(-(2 ^ 62)<=i/\i < 2 ^ 62/\-(2 ^ 62)<=j/\j < 2 ^ 62)/\(j - i).toNat<=10000/\∀l,H l=none->Q (.ref l) (upd H l (.lst (rgV i (j - i).toNat)))):=by
 intro pins s σ H xs us Q I r h;obtain⟨p,i,j,rfl,hp,⟨b1,b2,b3,b4⟩,hn,q⟩:=h;obtain⟨u,rfl,rx⟩:=jb r;cases rx;obtain⟨t,u,v,ho⟩:=(show qy X.prog X.w H s.heap p (.rng i j) from I.hok p _ hp);refine call_list_range (n:=(j - i).toNat) (I.ok.hd hc) ho (small_one b1 b2 b3 b4) (by rw[rangeSize_one];split<;>omega) (Nat.le_trans hn (2:)) λh' tk acc' c' ko hl it=>?_;have hz:10000<=sizeLine:=by decide+kernel
 refine⟨.ref _,_,I.laid (a:=s.heap.objs.size) (o:=.lst (rgV i (j - i).toNat)) (t':=tk) ko (Nat.le_refl _) ⟨by unfold rgV;rw[List.length_map,List.length_range];omega,acc'.toList,c',?_,by simpa using hl⟩,rfl,q _ (I.hok.fresh (Nat.le_refl _))⟩
 have key:∀(n:Nat) (l:List Value) (k:Nat),l.length=n->(∀(m:Nat) (v:Value),l[m]?=some v->∃t,v=.int (i+((k+m:Nat):Int)) t)->qr ((List.range' k n).map λk:Nat=>V.int (i+k)) l:=by
  intro n
  induction n with
  |zero=>intro l k h _;rw[List.length_eq_zero_iff.mp h];exact .nil
  |succ n ih=>
   intro l k h hv
   cases l with
   |nil=>cases h
   |cons x l=>rw[List.range'_succ,List.map_cons];refine .cons (by obtain⟨t,e⟩:=hv 0 x rfl;exact⟨t,by rw[e];rfl⟩) (ih l (k+1) (by simpa using h) λm v e=>?_);obtain⟨t,e'⟩:=hv (m+1) v (by simpa using e);exact⟨t,by rw[e',show k+1+m=k+(m+1) by omega]⟩
 unfold rgV;rw[List.range_eq_range'];refine key _ _ 0 (by simpa using it.1) λm v e=>?_;obtain⟨t,e'⟩:=it.2 m v (by simpa using e);exact⟨t,by rw[e',Nat.zero_add,Int.mul_one]⟩
theorem qkh{prog:Program}{w:World}{A:Around}{E:PQ}{s:Shared}{p:Addr}{lo hi i:Int}{t u v x:Tok}{Q:PQ}(ho:s.heap.get? p=some { cls:=.type "range",data:=.fields #[.int lo t,.int hi u,.int 1 v] })(h:Q (.bool (decide (lo<=i/\i < hi))) s) :
  wpAny (model prog w) A (call (.builtin "range.__contains__") [.ref p,.int i x]) Q E s:=by
 have hT:s.TypeIs (.ref p) "range":=⟨_,ho,rfl⟩;refine wpAny_call_entry PySem.F.slot_range_contains hT PySem.F.entry_range_contains ?_ (PySem.F.args_range_contains_2 _ _);unfold Builtin.«range.__contains__»
 have e:(Builtin.Range.rangePlace? lo hi 1 i).isSome=decide (lo<=i/\i < hi):=by
  unfold Builtin.Range.rangePlace?;simp
  split<;>simp_all
 obtain⟨hp,g,d,tk,os⟩:=s;unfold Builtin.Range.rangeFields
 repeat (any_goals (first | assumption | wp_step))
 exact⟨_,rfl,by rw[e];exact h⟩
theorem qbn:OpR X (compareOp .NotIn) (λx y H Q=>∃(i lo hi:Int) (p:Addr),x=.int i/\y=.ref p/\H p=some (.rng lo hi)/\Q (.bl (!decide (lo<=i/\i < hi))) H):=by intro pins s σ H x y v u Q I rx ry h;obtain⟨i,lo,hi,p,rfl,rfl,hp,q⟩:=h;obtain⟨t,rfl⟩:=rx;cases ry;obtain⟨t1,t2,t3,ho⟩:=(show qy X.prog X.w H s.heap p (.rng lo hi) from I.hok p _ hp);exact NotIn_slot ⟨_,ho,rfl⟩ PySem.F.slot_range_contains (qkh ho (wpAny_truthy_bool ⟨.bl _,H,I,rfl,q⟩))
end
end L2
namespace TS
open PySem PyProof.Rows
section
variable{M:Model}{A:Around}{E:PQ}{s:Shared}{O:KeyOrd}{kf:Keyed->O.α}{κ:SortKind}{G:Keyed->Prop}{a0:Array Keyed}
noncomputable def Few(O:KeyOrd)(kf:Keyed->O.α)(a0:Array Keyed)(st:SortSt):Prop:=(arrOf st).Perm a0/\failedOf st=none/\pendingOf st=#[(0,a0.size,0)]/\Srt O kf (arrOf st) 0 a0.size
theorem qbo(L:qcx M A E s O kf κ G)(h2:2<=a0.size)(h64:a0.size < 64)(h0:∀x∈a0.toList,G x){st:SortSt}{Q:Unit->SortSt->Prop}(hk:kindOf st=κ)(hf:failedOf st=none)(ha:arrOf st=a0)(hp:pendingOf st=#[])
  (h:∀st',(arrOf st').Perm a0->failedOf st'=none->Srt O kf (arrOf st') 0 a0.size->Q () st'):wpS M A E s sortRuns' Q st:=by
 rw[sortRuns'_eq];refine wpS_bind (wpS_get ?_);dsimp only
 have hmr:minRun' a0.size a0.size 0=a0.size:=by
  obtain⟨f,hf⟩:∃f,a0.size=f+1:=⟨a0.size - 1,by omega⟩
  have:minRun' (f+1) a0.size 0=a0.size:=by rw[minRun'_succ,if_pos h64];rfl
  rwa[<-hf] at this
 simp only[ha,hmr];have done:∀st',kindOf st'=κ->failedOf st'=none->pendingOf st'=#[]->(arrOf st').Perm a0->Srt O kf (arrOf st') 0 a0.size->Few O kf a0 (setPending st' ((pendingOf st').push (0,a0.size,0))):=λst' _ b c d e=>⟨d,b,by show(pendingOf st').push _=_;rw[c];rfl,e⟩
 refine wpS_bind (wpS_mono (wpS_forRange
  (I:=λx c st'=>(x=0/\c=(none,0)/\st'=st)\/(1<=x/\c=(none,a0.size)/\Few O kf a0 st'))
  (Q:=λc st'=>c=(none,a0.size)/\Few O kf a0 st') ?step ?fin (.inl ⟨rfl,rfl,rfl⟩)) ?post)
 case fin=>
  rintro c st' (⟨hx,_,_⟩ | ⟨_,hc,hD⟩)
  ·omega
  ·exact⟨hc,hD⟩
 case step=>
  rintro x c st' _ hx (⟨rfl,rfl,rfl⟩ | ⟨hx1,rfl,hD⟩)
  ·dsimp only;rw[if_neg (1:)];simp only[Nat.sub_zero,Nat.min_self,Nat.zero_add];refine wpS_bind (qjQ L hk (by rw[ha];exact h0) (by rw[ha];omega) (1:) λm xs r m1 m2 im=>?_);dsimp only;rw[ha] at r;rw[Nat.zero_add] at im
   by_cases hlt:m < a0.size
   ·rw[if_pos hlt];refine wpS_bind (wpS_lift (wpAny_rule ⟨rfl,?_⟩));refine wpS_bind (qgL L (st:=setArr st' xs) hk (r.mem h0) (by show 0+a0.size<=xs.size;rw[r.size];omega) (1:) (by rw[Nat.zero_add];exact im) λys r2 im2=>?_);simp only[Bool.not_true,Bool.false_eq_true,if_false];refine wpS_bind (wpS_get ?_);have hb:(pendingOf (setArr (setArr st' xs) ys)).back?=none:=by rw[show pendingOf (setArr (setArr st' xs) ys)=pendingOf st' from rfl,hp];rfl
    rw[hb];dsimp only;rw[Nat.zero_add] at im2;exact wpS_bind (wpS_modify (wpS_pure (.inr ⟨by omega,rfl,done _ hk hf hp (r2.perm.trans r.perm) im2.srt⟩)))
   ·rw[if_neg hlt];have hm:m=a0.size:=by omega
    subst hm;refine wpS_bind (wpS_get ?_);have hb:(pendingOf (setArr st' xs)).back?=none:=by rw[show pendingOf (setArr st' xs)=pendingOf st' from rfl,hp];rfl
    rw[hb];dsimp only;exact wpS_bind (wpS_modify (wpS_pure (.inr ⟨by omega,rfl,done _ hk hf hp r.perm im.srt⟩)))
  ·dsimp only;rw[if_pos (Nat.le_refl _)];exact wpS_pure ⟨rfl,hD⟩
 case post=>
  rintro c st' ⟨rfl,hD⟩;dsimp only;refine wpS_bind (wpS_mono (wpS_forRange (I:=λ_ c st''=>st''=st'/\c=(none,())) (Q:=λc st''=>st''=st'/\c=(none,())) ?_ (λ_ _ hh=>hh) ⟨rfl,rfl⟩) ?_)
  ·rintro x c st'' _ _ ⟨rfl,rfl⟩;refine wpS_bind (wpS_get ?_);rw[if_pos (by rw[hD.2.2.1];exact Nat.le_refl 1)];exact wpS_pure ⟨rfl,rfl⟩
  ·rintro c st'' ⟨rfl,rfl⟩;exact wpS_pure (h _ hD.1 hD.2.1 hD.2.2.2)
end
section
variable{prog:Program}{w:World}{A:Around}{E:PQ}{s:Shared}{O:KeyOrd}{kf:Keyed->O.α}{κ:SortKind}
theorem qbp{s0:Shared}{a:Addr}{vs:List Value}{n:Nat}{P:PySem.Fin->Shared->Prop}(S:Sorts prog w s0 vs O kf κ)(ho:s.heap.get? a=some (seqObj "list" vs.toArray n))(hsz:vs.length<=sizeLine)(h64:vs.length < 64)
  (hg:∀b o,s0.heap.get? b=some o->s.heap.get? b=some o/\b≠a)
  (h:∀st':SortSt,(arrOf st').Perm (pairsOf vs)->Srt O kf (arrOf st') 0 (pairsOf vs).size->P (.done (.ret .none)) { s with heap:=sortedHeap s.heap a vs ((arrOf st').map (·.2)) }) :
  wpAny (model prog w) A (Builtin.«list.sort» ⟨[.ref a],[]⟩) P E s:=by
 rw[list_sort_plain];have ha:a < s.heap.objs.size:=Heap.lt_size ho;have hv:vs.toArray.size=vs.length:=by simp
 refine wpAny_bind (listItems_at ho rfl (wpAny_bind (listUpdate_at ho rfl ?_ (by rw[hv];exact hsz) (Nat.zero_le _))));obtain⟨n1,ho1⟩:∃n1,(s.heap.update a (Obj.mapSeq λ_=>#[])).get? a=some (seqObj "list" #[] n1):=⟨_,get?_update_seq ho (λ_=>#[])⟩;refine wpAny_bind (seqEpoch_at ho1 rfl (wpAny_bind (wpAny_newTuple ?_ (by simpa using hsz))));refine wpAny_bind (wpAny_newList (wpAny_holding ?_) (Nat.zero_le _));generalize hh:(((s.heap.update a (Obj.mapSeq λ_=>#[])).push (seqObj "tuple" vs.toArray 0)).push (seqObj "list" #[] 0))=h6
 have ho6:h6.get? a=some (seqObj "list" #[] n1):=by rw[<-hh];exact Heap.get?_push_of_some _ (Heap.get?_push_of_some _ ho1)
 have grown:qaY s0 { s with heap:=h6 }:=λb o e=>by obtain⟨e1,ne⟩:=hg b o e;show h6.get? b=some o;rw[<-hh];exact Heap.get?_push_of_some _ (Heap.get?_push_of_some _ (by rw[Heap.get?_update_ne _ _ _ _ ne];exact e1))
 have fin:∀st':SortSt,(arrOf st').Perm (pairsOf vs)->Srt O kf (arrOf st') 0 (pairsOf vs).size->P (.done (.ret .none)) { s with heap:=h6.update a (Obj.mapSeq λ_=>(arrOf st').map (·.2)) }:=λst' a1 a2=>by
  have:=h st' a1 a2
  unfold sortedHeap at this;rw[hh] at this;exact this
 have small:∀st':SortSt,(arrOf st').Perm (pairsOf vs)->((arrOf st').map (·.2)).size<=sizeLine+1:=λst' hp=>by rw[Array.size_map,hp.size_eq,pairsOf_size];omega
 show wpAny (model prog w) A _ P E { s with heap:=h6 };dsimp only
 by_cases h2:vs.toArray.size < 2
 ·rw[if_pos h2,if_pos h2];refine wpAny_bind (wpAny_pure ?_);rw[StateT.run_pure];refine wpAny_bind (wpAny_pure ?_);dsimp only;refine wpAny_bind (seqEpoch_at ho6 rfl ?_);refine wpAny_bind (listUpdate_at ho6 rfl ?_ (Nat.zero_le _) (small (SortSt.mk' general' (vs.toArray.zip vs.toArray) #[] 7 none) (Array.Perm.refl _)));simp only[bne_self_eq_false,Bool.false_eq_true,if_false];refine wpAny_pure (fin (SortSt.mk' general' (vs.toArray.zip vs.toArray) #[] 7 none) (Array.Perm.refl _) ?_);intro i j x y _ b c d e
  have:i=j:=by rw[pairsOf_size] at c;omega
  subst this;rw[d] at e;cases e;exact KeyOrd.kle_refl _
 ·rw[if_neg h2,if_neg h2];refine wpAny_bind (S.kind (1:) A E _ _ grown ?_)
  refine wpAny_bind (wpAny_mono (qbo (S.lt A E _ grown) (a0:=pairsOf vs) (by rw[pairsOf_size];omega) (by rw[pairsOf_size];exact h64) (st:=SortSt.mk' κ (vs.toArray.zip vs.toArray) #[] 7 none) (λx hx=>hx) rfl rfl rfl rfl
   (Q:=λ_ st'=>(arrOf st').Perm (pairsOf vs)/\failedOf st'=none/\Srt O kf (arrOf st') 0 (pairsOf vs).size) λst' a1 a2 a3=>⟨a1,a2,a3⟩) ?_ λ_ _ e=>e)
  rintro⟨⟨⟩,st'⟩ s' ⟨rfl,hp,hf,hs⟩;dsimp only;refine wpAny_bind (seqEpoch_at ho6 rfl (wpAny_bind (listUpdate_at ho6 rfl ?_ (Nat.zero_le _) (small st' hp))));rw[hf];simp only[bne_self_eq_false,Bool.false_eq_true,if_false];exact wpAny_pure (fin st' hp hs)
theorem Yx{l:Addr}{vs:List Value}{Q:PQ}(S:Sorts prog w s vs O kf κ)(hl:s.heap.IsList l vs.toArray)(hsz:vs.length<=sizeLine)(h64:vs.length < 64)
  (h:∀st':SortSt,(arrOf st').Perm (pairsOf vs)->Srt O kf (arrOf st') 0 (pairsOf vs).size->Q (.ref (s.heap.objs.size+1)) { s with heap:=sortedAll s.heap vs ((arrOf st').map (·.2)) }) :
  wpAny (model prog w) A (call (.builtin "sorted") [.ref l]) Q E s:=by
 refine Calls.call_function_entry kind_sorted plain_sorted entry_sorted (args_sorted1 _) ?_;unfold Builtin.«sorted»;refine wpAny_bind (m:=checkCount "sorted" 1 1 _) (wpAny_pure (wpAny_bind (collect_list hl ?_ hsz)));refine wpAny_bind (wpAny_newList ?_ hsz);have hz:((s.heap.push (seqObj "list" #[] 0)).update s.heap.objs.size (Obj.mapSeq (· ++ vs.toArray))).objs.size=s.heap.objs.size+1:=by rw[Heap.size_update,size_push']
 show wpAny _ _ _ _ _ { s with heap:=((s.heap.push (seqObj "list" #[] 0)).update s.heap.objs.size (Obj.mapSeq (· ++ vs.toArray))).push (seqObj "list" vs.toArray 0) };rw[hz];generalize hh:((s.heap.push (seqObj "list" #[] 0)).update s.heap.objs.size (Obj.mapSeq (· ++ vs.toArray))).push (seqObj "list" vs.toArray 0)=h6
 have hoL:h6.get? (s.heap.objs.size+1)=some (seqObj "list" vs.toArray 0):=by rw[<-hh,<-hz];exact Heap.get?_push_size _ rfl
 have old:∀b o,s.heap.get? b=some o->h6.get? b=some o/\b≠s.heap.objs.size+1:=λb o e=>by have hlt:b < s.heap.objs.size:=Heap.lt_size e;refine⟨?_,Nat.ne_of_lt (Nat.lt_succ_of_lt hlt)⟩;rw[<-hh];refine Heap.get?_push_of_some _ ?_;rw[Heap.get?_update_ne _ _ _ _ (Nat.ne_of_lt hlt)];exact Heap.get?_push_of_some _ e
 have hr:∀st':SortSt,(arrOf st').Perm (pairsOf vs)->Srt O kf (arrOf st') 0 (pairsOf vs).size->Q (.ref (s.heap.objs.size+1)) { s with heap:=sortedHeap h6 (s.heap.objs.size+1) vs ((arrOf st').map (·.2)) }:=λst' a1 a2=>by
  have:=h st' a1 a2
  unfold sortedAll at this;rw[hh] at this;exact this
 refine wpAny_bind (wpAny_holding (wpAny_call_entry slot_list_sort ⟨_,hoL,rfl⟩ entry_list_sort (qbp S hoL hsz h64 old λst' a1 a2=>⟨_,rfl,?_⟩) (args_list_sort _)));exact wpAny_pure ⟨_,rfl,hr st' a1 a2⟩
end
end TS
namespace L2
open PySem PySem.Spec PyProof.Rows
section
variable{X:Cx}
theorem JE:qH X (.builtin "sorted") (λvs H Q=>∃p xs ps,vs=[.ref p]/\SqL X.K H p xs/\xs.length < 64/\Paired (P2 X.K H) xs ps/\
  ∀l ys qs,H l=none->Paired (P2 X.K H) ys qs->ys.Perm xs->qs.Perm ps->qs.Pairwise qa1->Q (.ref l) (upd H l (.lst ys))):=by
 intro pins s σ H xs us Q I r h;obtain⟨p,xs,ps,rfl,hq,h64,hp,q⟩:=h;obtain⟨u,rfl,rx⟩:=jb r;cases rx;obtain⟨its,rv,pl,hz⟩:=I.list hq;have hlen:=rv.length
 have three:∀{xs:List V} {its:List Value} {ps:List (Int×Int)},qr xs its->Paired (P2 X.K H) xs ps->Paired (λ(z:V×(Int×Int)) u=>qB z.1 u/\P2 X.K H z.1 z.2/\TS.Za s.heap u z.2) (xs.zip ps) its/\Paired (TS.Za s.heap) its ps/\xs.length=ps.length:=by
  intro xs its ps a b
  induction a generalizing ps with
  |nil=>cases b;exact⟨.nil,.nil,rfl⟩
  |cons r rs ih=>
   cases b with
   |cons b bs=>obtain⟨i1,i2,i3⟩:=ih bs;have t:=P2.raw I b r;exact⟨.cons ⟨r,b,t⟩ i1,.cons t i2,by simp[i3]⟩
 obtain⟨t1,t2,t3⟩:=three rv hp;refine TS.Yx (TS.qa0 t2) pl.isList (1:) (1:) λst' pm sr=>?_
 have hl:(arrOf st').toList.Perm (its.zip its):=by
  have:=Array.perm_iff_toList_perm.mp pm
  rwa[pairsOf_toList] at this
 have hout:((arrOf st').map (·.2)).toList.Perm its:=by
  rw[Array.toList_map]
  have:=hl.map (·.2)
  rwa[List.map_snd_zip (Nat.le_refl _)] at this
 obtain⟨zs,z1,z2⟩:=TS.Paired.perm hout t1
 have hys:(zs.map (·.1)).Perm xs:=by
  have:=z1.map (·.1)
  rwa[List.map_fst_zip (1:)] at this
 have hqs:(zs.map (·.2)).Perm ps:=by
  have:=z1.map (·.2)
  rwa[List.map_snd_zip (1:)] at this
 have hv:qr (zs.map (·.1)) ((arrOf st').map (·.2)).toList:=by
  clear z1 hys hqs;generalize ((arrOf st').map (·.2)).toList=ol at z2
  induction z2 with
  |nil=>exact .nil
  |cons r _ ih=>exact .cons r.1 ih
 have hP:Paired (P2 X.K H) (zs.map (·.1)) (zs.map (·.2)):=by
  clear z1 hys hqs hv;generalize ((arrOf st').map (·.2)).toList=ol at z2
  induction z2 with
  |nil=>exact .nil
  |cons r _ ih=>exact .cons r.2.1 ih
 have hkeys:((arrOf st').map (·.2)).toList.map (TS.jc s.heap)=zs.map (·.2):=by
  clear z1 hys hqs hv hP;generalize ((arrOf st').map (·.2)).toList=ol at z2
  induction z2 with
  |nil=>rfl
  |cons r _ ih=>rw[List.map_cons,List.map_cons,ih,r.2.2.pair]
 have hsrt:(zs.map (·.2)).Pairwise qa1:=by
  rw[<-hkeys,Array.toList_map,List.map_map];have h0:(arrOf st').size=(pairsOf its).size:=pm.size_eq;rw[<-h0] at sr
  have:=sr.pw
  refine List.pairwise_map.mpr ?_;refine List.Pairwise.imp_of_mem (λ{a b} ha hb hab=>?_) this;have ea:=(mem_zip_self (hl.mem_iff.mp ha)).1;have eb:=(mem_zip_self (hl.mem_iff.mp hb)).1;have hab:TS.pO.blt (TS.jc s.heap b.1) (TS.jc s.heap a.1)=false:=hab;rw[ea,eb] at hab;unfold TS.pO at hab;simp at hab;show qa1 (TS.jc s.heap a.2) (TS.jc s.heap b.2);unfold qa1;omega
 obtain⟨e,he⟩:=sortedAll_at s.heap its ((arrOf st').map (·.2));have hz2:(zs.map (·.1)).length<=sizeLine:=by rw[hys.length_eq];exact hz
 refine⟨.ref (s.heap.objs.size+1),_,I.laid (t':=s.toks) (λb o eb=>sortedAll_old eb) (Nat.le_succ _) (show qy X.prog X.w _ _ _ (.lst (zs.map (·.1))) from⟨hz2,_,e,hv,?_⟩),rfl,q _ _ _ (I.hok.fresh (Nat.le_succ _)) hP hys hqs hsrt⟩;rw[Array.toArray_toList];exact he
end
end L2
namespace L2
open PySem PySem.Spec PyProof.Rows PySem.W
noncomputable def qbq(K:Frag)(C fI:Addr)(bmB:List Value)(newId:String):Bool:=match K.lookup C with
 | some ⟨.type "type",_,.cls cd,sl⟩=>(match cd.mro,sl.toList with
  | .ref C'::bm,[_,_,_,_,some (.builtin n),_]=>C' == C&&n == newId&&!cd.hasDel&&tailIn K bmB bm&&nsOkIn K cd.ns&&nsIn K cd.ns "__init__" == some (some (.ref fI))
  |_,_=>false)
 |_=>false
theorem Z7{K:Frag}{h:Heap}{N:Addr}{mg:PR}{n:Str}{v:Value}(X:K.In h)(G:h.Ns N mg)(e:nsIn K N n=some (some v)):mg n=some v:=by
 obtain⟨o,es,ep,ho,hd,_,hf⟩:=G;unfold nsIn at e
 split at e
 ·rename_i c d es' n' sl q
  have:=X _ _ q
  rw[ho] at this;cases this;cases hd
  split at e
  ·rename_i en he;cases e;rw[<-hf];unfold nsFind findBy;rw[<-Array.find?_toList,he];rfl
  ·split at e<;>cases e
 ·cases e
theorem qc8{K:Frag}{h:Heap}{C fI:Addr}{bB:List Value}{nid:String}(Y:K.In h)(ok:qbq K C fI bB nid=true) :
  ∃bm N nm qn bs hd sn sub ab col dd k0 k1 k2 k3 k5 mN,h.get? C=some (excClassObj nm qn C N bs bm hd sn sub ab col dd k0 k1 k2 k3 k5 nid)/\h.Ns N mN/\mN "__init__" = some (.ref fI)/\OwnTail h bB bm:=by
 unfold qbq at ok
 split at ok
 case h_2=>cases ok
 case h_1 d1 cdat slots hlk=>
  split at ok
  case h_2=>cases ok
  case h_1 C2 tl a0 a1 a2 a3 nn a5 hmro hsl=>
   simp only[Bool.and_eq_true,beq_iff_eq,Bool.not_eq_true'] at ok;obtain⟨⟨⟨⟨⟨e1,e2⟩,e3⟩,e4⟩,e5⟩,e6⟩:=ok;subst e1;subst e2;obtain⟨w1,w2,w3,w4,w5,w6,w7,w8,w9,w10,w11⟩:=cdat
   dsimp only at hmro e3 e5 e6;subst hmro;subst e3;obtain⟨sl⟩:=slots;obtain rfl:sl=[a0,a1,a2,a3,some (.builtin nn),a5]:=hsl;exact⟨tl,w4,w1,w5,w2,w6,w7,w8,w9,w10,d1,a0,a1,a2,a3,a5,_,Y _ _ hlk,.of_isNs (isNs_of_in Y e5),Z7 Y (.of_isNs (isNs_of_in Y e5)) e6,tail_of_in Y e4⟩
section
variable{prog:Program}{w:World}{A:Around}{E:PQ}{h:Heap}{g:Array GenState}{d:Drawn}{t:Nat}{os:OsState}
variable{nm q:Str}{C N:Addr}{bs bm bmB:List Value}{hdct:Bool}{sn:List Str}{sub:List Value}{ab:Bool}{col:Option Bool}{dd:Option Addr}{k0 k1 k2 k3 k5:Option Value}{B newId initId:String}
theorem yC(F:ExcBaseFacts B newId initId bmB)(T:OwnTail h bmB bm){mN:PR}{rest:List Value}{fI:Addr}{oI:Obj}{Q:Fin->Shared->Prop}
  (hC:h.get? C=some (excClassObj nm q C N bs bm hdct sn sub ab col dd k0 k1 k2 k3 k5 newId)) (hn:h.Ns N mN) (hi:mN "__init__" = some (.ref fI))
  (hfI:h.get? fI=some oI) (hfc:oI.cls=.type "function")
  (hq:∀h' e,Heap.MadeExcOf h h' e (.ref C) rest->
   wpAny (model prog w) A (call (.ref fI) (.ref e::rest)) (λr s'=>r=.none/\Q (.done (.ret (.ref e))) s') E ⟨h',g,d,t,os⟩) (hrest:rest.length<=sizeLine) :
  wpAny (model prog w) A (Builtin.«type.__call__» ⟨.ref C::rest,[]⟩) Q E ⟨h,g,d,t,os⟩:=by
 repeat (first | with_reducible refine wpAny_loadPart_at hC ?_ | with_reducible refine wpAny_madeBy_exc hC ?_ | wp_step)
 refine codeAny_call_builtin_code (Code.quiet_builtin _ F.quiet) (wpAny_check_new_subT F T hC ?_);refine codeAny_exc_new_subT F T hC ?_ hrest;show wpAny _ _ _ _ _ _
 have hC₁:=Heap.get?_push_of_some { cls:=.ref C,data:=.fields #[.ref h.objs.size,.none,.none,.none,.bool false,.none] }
  (Heap.get?_push_of_some { cls:=.type "tuple",data:=.seq rest.toArray } hC)
 have hfI₁:=Heap.get?_push_of_some { cls:=.ref C,data:=.fields #[.ref h.objs.size,.none,.none,.none,.bool false,.none] }
  (Heap.get?_push_of_some { cls:=.type "tuple",data:=.seq rest.toArray } hfI)
 have hn₁:((h.push { cls:=.type "tuple",data:=.seq rest.toArray }).push { cls:=.ref C,data:=.fields #[.ref h.objs.size,.none,.none,.none,.bool false,.none] }).Ns N mN:=
  let ⟨o,es,ep,e,r⟩:=hn;⟨o,es,ep,Heap.get?_push_of_some _ (Heap.get?_push_of_some _ e),r⟩
 have hget:((h.push { cls:=.type "tuple",data:=.seq rest.toArray }).push
   { cls:=.ref C,data:=.fields #[.ref h.objs.size,.none,.none,.none,.bool false,.none] }).get? (h.objs.size+1)=some
   { cls:=.ref C,data:=.fields #[.ref h.objs.size,.none,.none,.none,.bool false,.none] }:=by heap_get
 have hcC:(Value.ref C::bm).contains (.ref C)=true:=by simp
 have T₁:=T.keeps (h':=(h.push { cls:=.type "tuple",data:=.seq rest.toArray }).push { cls:=.ref C,data:=.fields #[.ref h.objs.size,.none,.none,.none,.bool false,.none] })
  λb o e=>Heap.get?_push_of_some _ (Heap.get?_push_of_some _ e)
 unfold isInstance
 repeat (first | with_reducible refine wpAny_loadPart_at hget ?_ | (with_reducible refine wpAny_isSubtype_exc hC₁ ?_;rw[hcC]) | wp_step)
 show wpAny _ _ (typeLookup (.ref C) _) _ _ _;refine wpAny_typeLookup_tail hC₁ hn₁ T₁ F.mroIs F.init.lookup ?_;rw[hi];refine wpAny_holding (wpAny_bind ?_);unfold bindSpecial;refine wpAny_bind (wpAny_typeOf (T:="function") ⟨_,hfI₁,hfc⟩ ?_);rw[if_pos (2:)];refine wpAny_pure (wpAny_bind (wpAny_mono (hq _ (h.objs.size+1) ⟨λb o hb=>Heap.get?_push_of_some _ (Heap.get?_push_of_some _ hb),Heap.get?_none_of_le (Nat.le_succ _),h.objs.size,hget,Heap.get?_none_of_le (Nat.le_refl _),?_⟩) (λr s' hr=>?_) λ_ _ x=>x))
 ·exact Heap.get?_push_of_some _ (Heap.get?_push_at rfl rfl)
 ·obtain⟨rfl,hQ⟩:=hr
  wp_walk
  exact hQ
theorem Z8(F:ExcBaseFacts B newId initId bmB)(T:OwnTail h bmB bm){mN:PR}{rest:List Value}{fI:Addr}{oI:Obj}{Q:PQ}
  (hC:h.get? C=some (excClassObj nm q C N bs bm hdct sn sub ab col dd k0 k1 k2 k3 k5 newId)) (hn:h.Ns N mN) (hi:mN "__init__" = some (.ref fI))
  (hfI:h.get? fI=some oI) (hfc:oI.cls=.type "function")
  (hq:∀h' e,Heap.MadeExcOf h h' e (.ref C) rest->
   wpAny (model prog w) (A.under (.builtin "type.__call__" ⟨.ref C::rest,[]⟩)) (call (.ref fI) (.ref e::rest)) (λr s'=>r=.none/\Q (.ref e) s') E ⟨h',g,d,t,os⟩) (hrest:rest.length<=sizeLine) :
  wpAny (model prog w) A (call (.ref C) rest) Q E ⟨h,g,d,t,os⟩:=by
 have f1:=tc_lookup;have f2:=tc_bind (.ref C);have hT:(⟨h,g,d,t,os⟩:Shared).TypeIs (.ref C) "type":=⟨_,hC,rfl⟩;refine wpAny_call (codeAny_of_tree ?_);show wpAny _ _ (callAny (.ref C) _) _ _ _
 repeat (any_goals (first | assumption | with_reducible refine wpAny_loadPart_at hC ?_ | wp_step))
 refine⟨rfl,?_⟩;refine codeAny_call_builtin_at (Code.quiet_builtin _ (by decide+kernel)) entry_typeCall (wpAny_check_type_call_sub hC (yC (hrest:=hrest) F T hC hn hi hfI hfc λh' e hm=>?_));exact hq h' e hm
end
section
variable{prog:Program}{w:World}{A:Around}{E:PQ}{s:Shared}{env:Env}
variable{nm q:Str}{C N:Addr}{bs bm bmB:List Value}{hdct:Bool}{sn:List Str}{sub:List Value}{ab:Bool}{col:Option Bool}{dd:Option Addr}{k0 k1 k2 k3 k5:Option Value}{newId:String}
theorem Z9{M:Model}{x:Str}{np cpos pos:Pos}{args:List Expr}{Q:Flow->Shared->Prop}(hbase:bm.contains (.type "BaseException")=true)(hh:A.handled=none)
  (h:wpAny M A (eval (.Call (.Name x np) args [] cpos) env) (λv s₁=>∃e v0 od sl,v=.ref e/\s₁.heap.get? C=some (excClassObj nm q C N bs bm hdct sn sub ab col dd k0 k1 k2 k3 k5 newId)/\
   s₁.heap.get? e=some ⟨.ref C,od,.fields #[v0,.none,.none,.none,.bool false,.none],sl⟩/\E (.ref e) s₁) E s) :
  wpAny M A (exec (.Raise (some (.Call (.Name x np) args [] cpos)) none pos) env) Q E s:=by
 rw[arm_exec_Raise];have hcB:(Value.ref C::bm).contains (.type "BaseException")=true:=by rw[List.contains_cons,hbase,Bool.or_true]
 simp only[evalOpt,Option.map];refine wpAny_bind (wpAny_standAt ?_);unfold raiseStmt;refine wpAny_bind (wpAny_bind (wpAny_mono h (λv s₁ h₁=>wpAny_bind (wpAny_standAt (wpAny_pure ?_))) λ_ _ x=>x));obtain⟨e,v0,od,sl,rfl,hC,he,hE⟩:=h₁;obtain⟨hp,g,d,tk,os⟩:=s₁
 repeat (first | with_reducible refine wpAny_loadPart_at he ?_ | with_reducible refine wpAny_loadPart_at hC ?_ | (with_reducible refine wpAny_isSubtype_exc hC ?_;rw[hcB]) | wp_step)
 exact wpAny_raiseNew_none hh hE
end
end L2
namespace L2
open PySem PySem.Spec PyProof.Rows PySem.W
abbrev bV:List Value:=[.type "ValueError",.type "Exception",.type "BaseException",.type "object"]
noncomputable def qel(x C:Addr)(od:Option Addr):HO:=.ext λh=>∃v0,h.get? x=some ⟨.ref C,od,.fields #[v0,.none,.none,.none,.bool false,.none],#[]⟩
noncomputable def xD(a:Addr)(fs:List (Str×V)):HO:=.ext λh=>∃mA,h.Ns1 a mA/\(∀f,J2 (fs.lookup f) (mA f))/\PySem.Within mA (fs.map (·.1))
theorem qfr{P:Program}{w:World}{H:Hp}{h:Heap}{x C:Addr}{od:Option Addr}{v0:Value}(e:h.get? x=some ⟨.ref C,od,.fields #[v0,.none,.none,.none,.bool false,.none],#[]⟩):qy P w H h x (qel x C od):=
 ⟨⟨v0,e⟩,⟨_,e⟩,λh1 h2 ⟨v,z⟩ k=>⟨v,k _ z⟩⟩
end L2
namespace L2
open PySem PySem.Spec PyProof.Rows PySem.W
def qhB:V->Prop
 |.int n=>n.natAbs.log2 < 1920
 |.non=>True
 |_=>False
end L2
namespace L2
open PySem PySem.Spec PyProof.Rows PySem.W
def rem(H:Hp)(x:Addr):Hp:=λb=>if b=x then none else H b
theorem Zg{H:Hp}{x:Addr}:rem H x x=none:=by unfold rem;rw[if_pos rfl]
theorem Zh{H:Hp}{x b:Addr}(h:b≠x):rem H x b=H b:=by unfold rem;rw[if_neg h]
section
variable{X:Cx}{pins:PP}{σ:St}{H:Hp}{s:Shared}{x C:Addr}{od oT:Option Addr}
theorem Inv.trk{φ:Heap->Prop}(I:Inv X pins σ H s)(new:qy X.prog X.w (upd H x (.ext φ)) s.heap x (.ext φ))(dat:∃oe vs,s.heap.get? x=some oe/\oe.data=.fields vs)(hx:H x=none)(x0:X.s₀.heap.get? x=none)(pin:∀p∈X.pn++pins,p.1≠x):Inv X pins σ (upd H x (.ext φ)) s:=by
 obtain⟨oe,vs,ho,hd⟩:=dat
 have nn:∀{b:Addr},b≠x->upd H x (.ext φ) b=H b:=λh=>qf h;have ntr:∀{b:Addr} {u:HO},H b=some u->b≠x:=λ{b u} e z=>by rw[z,hx] at e;cases e
 refine⟨I.ok,I.os,I.bare,⟨I.base.keep,I.base.slot,λb o e n hx=>?_,I.base.there,λb xs e=>?_,λb o u e=>?_,λb ps e=>?_⟩,I.loc,I.cell,?_,λy c e=>?_,λp hp=>?_,λa o e=>?_,I.len⟩
 ·rw[nn (λz=>by rw[z,x0] at e;cases e)];exact I.base.free b o e n hx
 ·have:=I.base.tups b xs e
  rw[nn (ntr this)];exact this
 ·have:=I.base.frzs b o u e
  rw[nn (ntr this)];exact this
 ·obtain⟨more,this⟩:=I.base.tbls b ps e;rw[nn (ntr this)];exact⟨more,this⟩
 ·have:X.env.locals≠x:=λz=>by
   obtain⟨m,⟨o,es,ep,e1,e2,_⟩,_⟩:=I.loc;rw[z,ho] at e1;cases e1;rw[hd] at e2;cases e2
  rw[nn this];exact I.free
 ·have:c≠x:=λz=>by
   obtain⟨v,o,e1,e2⟩:=I.cell y c e;rw[z,ho] at e1;cases e1;rw[hd] at e2;cases e2
  rw[nn this];exact I.freeC y c e
 ·obtain⟨e,n,r⟩:=I.pin p hp;refine⟨e,?_,r⟩;rw[nn (pin p hp)];exact n
 ·by_cases hb:a=x
  ·subst hb;rw[qg] at e;cases e;exact new
  ·rw[nn hb] at e;exact(I.hok a o e).stay (λ_ _ _ q=>q) (λb q=>by rw[nn (ntr q)];exact q) (λb xs q=>by rw[nn (ntr q)];exact q)
theorem Inv.untrk{φ:Heap->Prop}(I:Inv X pins σ H s)(h:H x=some (.ext φ)):Inv X pins σ (rem H x) s:=by
 have nn:∀{b:Addr} {u:HO},H b=some u->(∀ψ,u≠.ext ψ)->rem H x b=some u:=λ{b u} e n=>by rw[Zh (λz=>by rw[z,h] at e;exact n φ (Option.some.inj e).symm)];exact e
 have no:∀{b:Addr},H b=none->rem H x b=none:=λ{b} e=>by
  unfold rem
  by_cases hb:b=x
  ·rw[if_pos hb]
  ·rw[if_neg hb];exact e
 refine⟨I.ok,I.os,I.bare,⟨I.base.keep,I.base.slot,λb o e n hx=>no (I.base.free b o e n hx),I.base.there,λb xs e=>nn (I.base.tups b xs e) (λ_ z=>by cases z),λb o u e=>nn (I.base.frzs b o u e) (λ_ z=>by cases z),λb ps e=>?_⟩,I.loc,I.cell,no I.free,λy c e=>no (I.freeC y c e),λp hp=>?_,λa o e=>?_,I.len⟩
 ·obtain⟨more,this⟩:=I.base.tbls b ps e;exact⟨more,nn this (λ_ z=>by cases z)⟩
 ·obtain⟨e,n,r⟩:=I.pin p hp;exact⟨e,no n,r⟩
 ·have ha:a≠x:=λz=>by rw[z,Zg] at e;cases e
  rw[Zh ha] at e;exact(I.hok a o e).stay (λ_ _ _ q=>q) (λb q=>nn q (λ_ z=>by cases z)) (λb xs q=>nn q (λ_ z=>by cases z))
noncomputable def yh(X:Cx)(E:XK):Prop:=∀(pins:PP) (σ:St) (H:Hp) (s:Shared) (x C:Addr) (od:Option Addr),Inv X pins σ H s->Mine X pins H x none->Fly s.heap x C od none->E (.ref C) od H->X.xe (.ref x) s
end
section
variable{P:Program}{w:World}{K:Frag}{mg:PR}{base:Heap}{N:List Str}{qual:Str}{scope:Scope}{f:Addr}{cd:Value}{A:Around}{outer:List Env}{s:Shared}{H:Hp}{E:XK}
theorem qbr:yh (Q7 (CX1 P w) P w K mg base N qual scope f cd A outer s H E) E:=λpins σ H1 s1 x C od I M fl q=>Zd I ⟨rfl,rfl⟩ rfl M fl q
end
section
variable{X:Cx}{E:XK}
theorem qc9(hex:X.ex=[])(h:yh X E):qbd X E:=λpins σ H s I h' x C vs m q=>by
 have no:∀b:Addr,b∉X.ex:=λb z=>by rw[hex] at z;cases z
 refine h pins σ H _ x C none (I.kept (t':=s.toks) m.keeps) ⟨I.newH m.new,I.new0 (no x) m.new,(λT z=>by cases z),λp hp=>⟨λz=>?_,by simp⟩⟩ (qc2 m) q;obtain⟨e,_⟩:=I.pin p hp;rw[z,m.new] at e;cases e
noncomputable def qhC(K:Frag)(f:Addr):Bool:=match K.lookup f with
 |some ⟨.type n,_,_,_⟩=>n == "function"
 |_=>false
structure XcC(K:Frag)(C fI:Addr):Prop where
 ok:qbq K C fI bV "ValueError.__new__" = true
 fn:qhC K fI=true
 kp:keepIn K (.ref C)=true
noncomputable def qfs(C:Addr)(sp:Sp)(E:XK)(t:TA):TS:=λ_ σ H=>t σ H λvs H1=>vs.length<=sizeLine/\∀x,H1 x=none->sp (.ref x::vs) (upd H1 x (qel x C none)) (λv H2=>v=.non/\∃od,H2 x=some (qel x C od)/\E (.ref C) od (rem H2 x)) E0
theorem qbs{k:Nat}{n:Str}{C fI:Addr}{fd:FuncData}{ps:List Str}{sp:Sp}{e0:Expr}{es:List Expr}{t:TA}{np cpos pos:Pos}(hex:X.ex=[])(hx:yh X E)(hc:X.calm=true)(hg:Gl X n)(hm:X.mg n=some (.ref C))(c:XcC X.K C fI)
  (F:FnOk X.prog X.w X.K X.mg X.base CX0 k fI fd ps sp) (hr:Room (k+1) X.A) (hb:qI X.K fd ps []) (ha:PA X (e0::es) t)
  (he:starEach (e0::es) X.env=(false,eval e0 X.env)::starEach es X.env) (hpl:(backTo cpos (starEach es X.env)).any (·.1)=false) (hdb:(n == ("__debug__" : Str))=false) :
  PS X (.Raise (some (.Call (.Name n np) (e0::es) [] cpos)) none pos) (qfs C sp E t):=by
 intro pins s σ H D I h;obtain⟨bm,N,nm,qn,bs,hd,sn,sub,ab,col,dd,k0,k1,k2,k3,k5,mN,hC,hN,hi,T⟩:=qc8 I.mod.kin c.ok;have FB:=PySem.F.excBase_ValueError
 obtain⟨oI,hoI,hcI⟩:∃oI,X.K.lookup fI=some oI/\oI.cls=.type "function":=by
  have:=c.fn
  unfold qhC at this
  split at this
  ·rename_i q;exact⟨_,q,by rw[beq_iff_eq.mp this]⟩
  ·cases this
 have no:∀b:Addr,b∉X.ex:=λb z=>by rw[hex] at z;cases z
 refine Z9 (C:=C) (nm:=nm) (q:=qn) (N:=N) (bs:=bs) (bm:=bm) (hdct:=hd) (sn:=sn) (sub:=sub) (ab:=ab) (col:=col) (dd:=dd) (k0:=k0) (k1:=k1) (k2:=k2) (k3:=k3) (k5:=k5) (newId:="ValueError.__new__") (T.hasType FB.hasBase) (I.ok.hd hc) ?_;refine wpAny_Call_Name_kw (zn I hg hm ?_ hdb);refine PySem.W.callWith_K (h₀:=X.base) I.ok.mod.kin c.kp (thn (ha cpos pins s σ H _ I h) λus s1 z=>?_) he hpl;obtain⟨vs,H1,I1,r,hl,q⟩:=z;refine⟨I1.kIn,?_⟩;obtain⟨hh,g,d,tk,os⟩:=s1;refine Z8 FB (T.keeps I1.bk) (I1.bk _ _ hC) (hN.keeps I1.bk) hi (I1.bk _ _ (I.mod.kin _ _ hoI)) hcI (λh' e m=>?_) (by rw[List.nil_append,<-r.length];exact hl);have Ik:=I1.kept (t':=tk) m.keeps;have hn1:=I1.newH m.new;have h0:=I1.new0 (no e) m.new
 have hpin:∀p∈X.pn++pins,p.1≠e:=λp hp z=>by obtain⟨e',_⟩:=I1.pin p hp;rw[z,m.new] at e';cases e'
 obtain⟨t',ht,_⟩:=m.there;have I2:Inv X pins σ (upd H1 e (qel e C none)) _:=Ik.trk (x:=e) (qfr ht) ⟨_,_,ht,rfl⟩ hn1 h0 hpin;have hq:=q e hn1;have r2:qr (V.ref e::vs) (Value.ref e::us):=.cons rfl r
 have hln:(Value.ref e::us++[]).length=ps.length:=by
  have:=r2.length
  rw[F.len _ _ _ _ hq] at this;rw[List.append_nil];exact this.symm
 have hbn:=hb ⟨h',g,d,tk,os⟩ (Value.ref e::us) I2.kIn hln;rw[List.append_nil] at hbn;refine wpAny_call (codeAny_mono (F.run _ X.stack _ _ ⟨Value.ref e::us,[]⟩ (Value.ref e::us) _ _ E0 (hr.make C us []) (I2.env0.make C us []) hbn r2 hq) λres s' hq'=>?_)
 cases res with
 |error e=>exact False.elim hq'
 |ok fl=>
  cases fl with
  |ret u=>obtain⟨v,H',I3,rv,ev,od,hxe,q3⟩:=I2.after hq';subst ev;obtain⟨⟨v0,ho⟩,_⟩:=I3.hok e _ hxe;refine⟨rv,e,v0,od,#[],rfl,I3.bk _ _ hC,ho,hx pins σ (rem H' e) s' e C od (I3.untrk hxe) ⟨Zg,h0,(λT z=>by cases z),λp hp=>⟨hpin p hp,by simp⟩⟩ ⟨_,_,ho,rfl,rfl,rfl,rfl⟩ q3⟩
  |next=>exact False.elim hq'
  |brk=>exact False.elim hq'
  |cont=>exact False.elim hq'
end
end L2
namespace L2
open PySem PySem.Spec PyProof.Rows PySem.W
section
variable{prog:Program}{w:World}{A:Around}{E:PQ}{s:Shared}{K:Frag}{x C:Addr}{ox:Obj}
theorem qft{name:Str}{v:Value}{expr:Bool}{od:Option Obj}{Q:PQ}(Y:K.In s.heap)(I:W.InstAt s.heap x ox C od)(hC:ExcIs K C)(hf:findObj K C od name=some (.value v))(hh:handedIn v=true)
  (h:Q v { s with toks:=s.toks+1 }):wpAny (model prog w) A (getAttr (.ref x) name expr) Q E s:=by
 obtain⟨hp,g,d,t,os⟩:=s;have L0:=I.type (M:=model prog w);have L1:=looks_findIn (M:=model prog w) Y hC.ga;have L2:=looks_findIn (M:=model prog w) Y hC.gh;have L3:=looks_find (M:=model prog w) Y I hf;have L4:=looks_mroIn (M:=model prog w) Y hC.base;have hbind:∀self,bindSpecial (.builtin "BaseException.__getattribute__") self=pure (.builtin "BaseException.__getattribute__",[self]):=λself=>by rfl
 unfold getAttr getAttrBy;refine wpAny_bind (wpAny_mkText (wpAny_holding (wpAny_bind (L0.at (wpAny_bind (L1.at ?_))))));show wpAny _ _ (getAttrByItsOwn _ _ _ _ _ _) _ _ _;unfold getAttrByItsOwn;refine wpAny_bind ?_;show wpAny _ _ (typeLookup (.ref C) "__getattr__") _ _ _;refine L2.at (wpAny_bind (wpAny_attempt (wpAny_holding ?_)));unfold callGetattribute;rw[if_neg (by cases expr<;>decide)];show wpAny _ _ (boundAndCalled _ _ _) _ _ _;unfold boundAndCalled;refine wpAny_bind ?_;rw[hbind];refine wpAny_pure ?_;refine wpAny_call (codeAny_call_builtin (by decide+kernel) F.entry_bexc_ga ?_);have hk:builtinKind "BaseException.__getattribute__" = some .slot:=by decide+kernel
 have hsp:splitId "BaseException.__getattribute__" = some ("BaseException","__getattribute__"):=by decide+kernel
 have LI:Looks (model prog w) hp (isInstance (.ref x) (.type "BaseException")) true:=L0.andThen L4;have hargs:=F.args_bexc_ga (.ref x) (.str name t);simp only[checkBuiltinCall,hk,hsp];refine wpAny_bind ?_;refine LI.at ?_;rw[if_neg (2:)];refine wpAny_of_eq hargs ?_;unfold Builtin.«object.__getattribute__»;refine wpAny_bind (wpAny_pure ?_);refine wpAny_bind (wpAny_pure ?_);refine wpAny_bind (L0.at (wpAny_bind (L3.at ?_)));exact wpAny_pure (handed_on hh h)
end
structure XcG(K:Frag)(C:Addr)(name:Str):Prop where
 is_:ExcIs K C
 no:findIn K (.ref C) name=some none
 hd:hasDictIn K C=true
section
variable{X:Cx}
noncomputable def tXf(K:Frag)(ta:TE)(f:Str):TE:=λσ H Q=>ta σ H λx H1=>∃a C dd fs v,x=.ref a/\H1 a=some (qcq a C (some dd))/\H1 dd=some (xD dd fs)/\XcG K C f/\fs.lookup f=some v/\Q v H1
theorem qfu{e:Expr}{f:Str}{pos:Pos}{ta:TE}(he:PE X e ta)(hb:attributeBase e f X.env (eval e X.env)=eval e X.env):PE X (.Attribute e f pos) (tXf X.K ta f):=by
 intro pins s σ H Q I h;refine qaO hb (thn (he pins s σ H _ I h) λu s1 hq1=>?_);obtain⟨x,H1,I1,rx,a,C,dd,fs,v,ex,ea,ed,c,l,q⟩:=hq1;subst ex;obtain rfl:u=Value.ref a:=rx;obtain⟨o,e1,e2,e3,e4⟩:=(I1.hok a _ ea).1;obtain⟨mA,ns,r,_⟩:=(I1.hok dd _ ed).1;obtain⟨oo,hoo,hlk⟩:=J7 ns;have J:InstAt s1.heap a o C (some oo):=⟨e1,e2,e4,by rw[e3];exact hoo⟩;have hr:=r f;rw[l] at hr
 cases hm:mA f with
 |none=>rw[hm] at hr;exact hr.elim
 |some w=>
  rw[hm] at hr
  have hw:handedIn w=true:=by
   have hr:qB v w:=hr
   cases v<;>first | (obtain⟨t,rfl⟩:=hr;rfl) | (cases hr;rfl)
  refine qft I1.kIn J c.is_ (findObj_own c.hd c.no rfl (by rw[hlk,hm])) hw ⟨v,H1,I1.tok _,hr,q⟩
end
end L2
namespace L2
open PySem PySem.Spec PyProof.Rows PySem.W
open PySem.Builtin.Str (partsBetween occurrences)
theorem Yy:∀(l:List (Str×Tok)),qr ((l.map (·.1)).map V.str) (strValues l)
 |[]=>.nil
 | (z,t)::l=>.cons ⟨t,rfl⟩ (Yy l)
section
variable{X:Cx}
noncomputable def qhD:V->List V->Hp->VK->Prop:=λx vs H Q=>∃a b:Str,x=.str a/\vs=[.str b]/\(b.length == 0)=false/\a.length+2<=sizeLine/\∀l,H l=none->Q (.ref l) (upd H l (.lst ((Txt.split a b).map V.str)))
theorem qda:MtR X "str.split" qhD:=by
 intro pins s σ H x vs v us Q I rx rv h;obtain⟨a,b,rfl,rfl,hb,hz,q⟩:=h;obtain⟨t,rfl⟩:=rx;obtain⟨u,rfl,ru⟩:=rv.one;obtain⟨k,rfl⟩:=ru
 have fin:∀(l:List (Str×Tok)) (tk:Nat),l.map (·.1)=Txt.split a b->EP X pins σ Q (.ref s.heap.objs.size) { s with heap:=s.heap.push { cls:=.type "list",data:=.seq (strValues l).toArray },toks:=tk }:=λl tk e=>by
  have hw:=split_weight a b (by simp only[beq_eq_false_iff_ne] at hb;omega)
  have hn:l.length<=sizeLine:=by
   have:=congrArg List.length e
   rw[List.length_map] at this;omega
  refine⟨.ref s.heap.objs.size,_,I.laid (t':=tk) (λb o e=>Heap.get?_push_of_some _ e) (Nat.le_refl _) (show qy X.prog X.w _ _ _ (.lst ((Txt.split a b).map V.str)) from⟨?_,strValues l,0,?_,Heap.get?_push_size _ rfl⟩),rfl,q _ (I.hok.fresh (Nat.le_refl _))⟩
  ·rw[<-e,List.length_map,List.length_map];exact hn
  ·rw[<-e];exact Yy l
 have hn:(partsBetween a (occurrences a b 0 a.length (a.length+1)) b.length).length<=sizeLine:=by have e1:=StrLaws.occ_length_le a b 0 a.length (a.length+1);rw[length_partsBetween];omega
 cases h1:(decide (a.length < b.length)||decide (Builtin.Str.strKind a < Builtin.Str.strKind b))
 ·cases hf:(occurrences a b 0 a.length (a.length+1)).isEmpty
  ·refine call_meets PySem.F.slot_str_split (typeIs_str _ _ _) PySem.F.entry_str_split (PySem.F.args_str_split_2 _ _) (meets_str_split_sep a b t k h1 hb hf (1:) hn) ?_;show wants _ _ _ { s with toks:=_,heap:=s.heap.push { cls:=.type "list",data:=.seq (strsFrom s.toks (partsBetween a (occurrences a b 0 a.length (a.length+1)) b.length)).toArray } };rw[strsFrom_eq];exact fin (numbered s.toks _) _ ((numbered_texts _ _).trans ((if_neg (ne_true_of_eq_false h1)).trans (if_neg (ne_true_of_eq_false hf))).symm)
  ·exact call_meets PySem.F.slot_str_split (typeIs_str _ _ _) PySem.F.entry_str_split (PySem.F.args_str_split_2 _ _) (meets_str_split_not_found a b t k h1 hb hf)
    (fin [(a,t)] s.toks ((if_neg (ne_true_of_eq_false h1)).trans (if_pos hf)).symm)
 ·exact call_meets PySem.F.slot_str_split (typeIs_str _ _ _) PySem.F.entry_str_split (PySem.F.args_str_split_2 _ _) (meets_str_split_cannot_occur a b t k h1)
   (fin [(a,t)] s.toks (if_pos h1).symm)
noncomputable def qdb(a b:Str):List V:=[.str (Txt.partition a b).1,.str (Txt.partition a b).2.1,.str (Txt.partition a b).2.2]
noncomputable def qki:V->List V->Hp->VK->Prop:=λx vs H Q=>∃a b:Str,x=.str a/\vs=[.str b]/\(b.length == 0)=false/\a.length<=sizeLine/\∀l,H l=none->Q (.ref l) (upd H l (.tup (qdb a b)))
theorem qfv:MtR X "str.partition" qki:=by
 intro pins s σ H x vs v us Q I rx rv h;obtain⟨a,b,rfl,rfl,hb,hz,q⟩:=h;obtain⟨t,rfl⟩:=rx;obtain⟨u,rfl,ru⟩:=rv.one;obtain⟨k,rfl⟩:=ru
 have fin:∀(ta tb tc:Tok) (tk:Nat),EP X pins σ Q (.ref s.heap.objs.size) { s with heap:=s.heap.push { cls:=.type "tuple",data:=.seq [.str (Txt.partition a b).1 ta,.str (Txt.partition a b).2.1 tb,.str (Txt.partition a b).2.2 tc].toArray },toks:=tk }:=λta tb tc tk=>by
  refine⟨.ref s.heap.objs.size,_,I.laid (t':=tk) (λb o e=>Heap.get?_push_of_some _ e) (Nat.le_refl _) (show qy X.prog X.w _ _ _ (.tup (qdb a b)) from⟨?_,_,?_,IsTup.new _ _⟩),rfl,q _ (I.hok.fresh (Nat.le_refl _))⟩
  ·show 3<=sizeLine
   decide+kernel
  ·exact .cons ⟨ta,rfl⟩ %[⟨tb,rfl⟩,⟨tc,rfl⟩|0]
 refine call_meets PySem.F.slot_str_partition (typeIs_str _ _ _) PySem.F.entry_str_partition (PySem.F.args_str_partition_2 _ _) (meets_str_partition a b t k hb hz) ?_;have h':=fin;unfold Txt.partition at h';revert h'
 cases occurrences a b 0 a.length 1 with
 |nil=>intro h';exact h' _ _ _ _
 |cons i r=>intro h';exact h' _ _ _ _
noncomputable def qkj:V->List V->Hp->VK->Prop:=λx vs H Q=>∃(a:Str) (l:Addr) (zs:List Str),x=.str a/\vs=[.ref l]/\SqL X.K H l (zs.map V.str)/\(zs.map (·.length)).sum+zs.length * a.length<=16777216/\Q (.str (Txt.join a zs)) H
theorem qfw:MtR X "str.join" (qkj (X:=X)):=by intro pins s σ H x vs v us Q I rx rv h;obtain⟨a,l,zs,rfl,rfl,hl,hz,q⟩:=h;obtain⟨t,rfl⟩:=rx;obtain⟨u,rfl,ru⟩:=rv.one;cases ru;obtain⟨its,r,pl,_⟩:=I.list hl;exact join_list (items:=its.toArray) pl.isList (by simpa using Qq r) hz λt' k=>⟨.str _,H,I.tok _,⟨t',rfl⟩,q⟩
theorem JF:qH X (.type "int") (λxs H Q=>∃(z:Str) (n:Int),xs=[.str z]/\PySem.intText? z=some n/\z.length<=640/\Q (.int n) H):=by intro pins s σ H xs us Q I r h;obtain⟨z,n,rfl,e,hz,q⟩:=h;obtain⟨u,rfl,ru⟩:=jb r;obtain⟨k,rfl⟩:=ru;exact KIN.call_text e hz ⟨.int n,H,I.tok _,⟨_,rfl⟩,q⟩
theorem qfx(hu:X.A.units+1 < cLine):IxR X (λx y H Q=>∃a v,x=.ref a/\qcY H a y (some v)/\Q v H):=by
 intro value slice pins s σ H x y v u Q I rx ry h hs;obtain⟨a,w,rfl,g,q⟩:=h;obtain rfl:v=.ref a:=rx;have hT:=Qo I g;have h2:=qbc (A:=X.A) (E:=X.xe) (Q:=EP X pins σ Q) hu I g ry (λw' s3 I3 rw'=>⟨w,H,I3,rw',q⟩);unfold subscriptTail;refine wpAny_bind ?_;rw[getitemInPython_of_ne hT.not_modules];refine wpAny_bind (wpAny_specialOf hT PySem.F.slot_dict_getitem.lookup ?_)
 have fin:wpAny (model X.prog X.w) X.A (subscripted slice false (.ref a) u) (λr s₃=>wpAny (model X.prog X.w) X.A (letTemporaryGo value (.ref a) r >>= λ_=>pure r) (EP X pins σ Q) X.xe s₃) X.xe s:=by rw[hs];exact wpAny_operating (wpAny_mono h2 (λr s₃ h₃=>wpAny_bind (wpAny_letTemporaryGo (wpAny_pure h₃))) λ_ _ x=>x)
 first
  | exact wpAny_pure (wpAny_bind fin)
  | exact wpAny_bind (wpAny_pure (wpAny_bind fin))
  | exact wpAny_bind fin
noncomputable def qk3:V->Option Str
 |.int n=>if n.natAbs.log2 < 1920 then some (Str.ofString (toString n)) else none
 |.str z=>if z.length<=3000 then some z else none
 |_=>none
abbrev TF:=L2.St->Hp->Str->(Str->Hp->Prop)->Prop
noncomputable def PFs(X:Cx)(es:List Expr)(t:TF):Prop:=∀(pins:PP) (s:Shared) (σ:St) (H:Hp) (acc:Str) (Q:Str->Hp->Prop),Inv X pins σ H s->acc.length<=sizeLine->t σ H acc Q->
 Joins (model X.prog X.w) X.A X.xe (evalEach es X.env) acc (λout s1=>out.length<=sizeLine/\∃H1,Inv X pins σ H1 s1/\Q out H1) s
theorem qhE:PFs X [] (λ_ H acc Q=>Q acc H):=λpins s σ H acc Q I hl h=>⟨hl,H,I,h⟩
theorem qhF{z:Str}{j:Nat}{p:Pos}{es:List Expr}{t:TF}(h:PFs X es t):PFs X (.Constant (.str z) j p::es) (λσ H acc Q=>(acc++z).length<=sizeLine/\t σ H (acc++z) Q):=λpins s σ H acc Q I hl ht=>by refine thn (qaD (X:=X) pins s σ H (λv H1=>v=.str z/\H1=H) I ⟨rfl,rfl⟩) λv s1 hq=>?_;obtain⟨v',H1,I1,r,rfl,rfl⟩:=hq;obtain⟨t',rfl⟩:=r;exact⟨z,t',rfl,ht.1,h pins s1 σ _ _ Q I1 ht.1 ht.2⟩
theorem qhG{e:Expr}{p:Pos}{te:TE}{es:List Expr}{t:TF}(he:PE X e te)(h:PFs X es t):PFs X (.FormattedValue e (-1) none p::es) (λσ H acc Q=>te σ H λv H1=>∃y,qk3 v=some y/\(acc++y).length<=sizeLine/\t σ H1 (acc++y) Q):=λpins s σ H acc Q I hl ht=>by
 refine FormattedValue_plain (thn (he pins s σ H _ I ht) λu s1 hq=>?_);obtain⟨v,H1,I1,r,y,ey,hz,hq⟩:=hq
 cases v with
 |int n=>
  obtain⟨t',rfl⟩:=r;have ey:(if n.natAbs.log2 < 1920 then some (Str.ofString (toString n)) else none)=some y:=ey
  split at ey
  ·rename_i fv;cases ey;exact formatField_int_small fv ⟨_,_,rfl,hz,h pins _ σ _ _ Q ((I1.tok _).tok _) hz hq⟩
  ·cases ey
 |str z=>
  obtain⟨t',rfl⟩:=r;have ey:(if z.length<=3000 then some z else none)=some y:=ey
  split at ey
  ·rename_i fv;cases ey;exact wpAny_formatField_str ⟨_,_,rfl,hz,h pins _ σ _ _ Q I1 hz hq⟩ ⟨_,_,rfl,hz,h pins _ σ _ _ Q (I1.tok _) hz hq⟩ (by rw[sizeLine_eq];omega)
  ·cases ey
 |_=>cases ey
theorem qfy{v₁ v₂:Expr}{rest:List Expr}{pos:Pos}{t:TF}(h:PFs X (v₁::v₂::rest) t):PE X (.JoinedStr (v₁::v₂::rest) pos) (λσ H Q=>t σ H Str.empty λz H1=>Q (.str z) H1):=λpins s σ H Q I hq=>by
 refine wpAny_JoinedStr ?_
 have:=h pins s σ H Str.empty _ I (Nat.zero_le _) hq
 have mono:∀(ts:List (Sem Value)) (acc:Str) (Q1 Q2:Str->Shared->Prop) (s:Shared),(∀o s,Q1 o s->Q2 o s)->Joins (model X.prog X.w) X.A X.xe ts acc Q1 s->Joins (model X.prog X.w) X.A X.xe ts acc Q2 s:=by
  intro ts
  induction ts with
  |nil=>exactλacc Q1 Q2 s i h=>i _ _ h
  |cons a l ih=>exactλacc Q1 Q2 s i h=>thn h λv s1 ⟨y,t',e1,e2,e3⟩=>⟨y,t',e1,e2,ih _ _ _ _ i e3⟩
 exact mono _ _ _ _ _ (λo s1 ⟨h1,H1,I1,h2⟩=>⟨h1,.str o,H1,I1.tok _,⟨_,rfl⟩,h2⟩) this
end
end L2
namespace DE
open PySem L2
inductive D where
 | non | bl (b:Bool) | int (n:Int) | str (s:Str) | lst (l:List D) | tup (l:List D) | ins (c:Str) (ns:List Str) (l:List D) | exc (C:Addr) (ns:List Str) (l:List D) | dct (ks:List Str) (l:List D)
 deriving Inhabited
abbrev KC:=Str->Option Addr
def kvX(ks:List Str)(xs:List V):List (Key×V):=(ks.zip xs).map λp=>(Sum.inr p.1,p.2)
mutual
noncomputable def Rep(κ:KC)(G:Hp):D->V->Prop
 |.non,v=>v=.non
 |.bl b,v=>v=.bl b
 |.int n,v=>v=.int n
 |.str s,v=>v=.str s
 |.lst ds,v=>∃a xs,v=.ref a/\G a=some (.lst xs)/\ql κ G ds xs
 |.tup ds,v=>∃a xs,v=.ref a/\G a=some (.tup xs)/\ql κ G ds xs
 |.ins c ns ds,v=>∃p dx C xs,κ c=some C/\v=.ref p/\G p=some (.ins C dx (ns.zip xs))/\xs.length=ns.length/\ql κ G ds xs
 |.exc C ns ds,v=>∃p od xs,v=.ref p/\G p=some (qcq p C od)/\((od=none/\ns=[])\/∃dd,od=some dd/\G dd=some (xD dd (ns.zip xs)))/\ql κ G ds xs
 |.dct ks ds,v=>∃p xs,v=.ref p/\G p=some (.dK (kvX ks xs))/\xs.length=ks.length/\ql κ G ds xs
noncomputable def ql(κ:KC)(G:Hp):List D->List V->Prop
 |[],xs=>xs=[]
 | d::ds,xs=>∃x r,xs=x::r/\Rep κ G d x/\ql κ G ds r
end
mutual
theorem Rep.same{κ:KC}{G G':Hp}(e:qo G G'):∀{d:D} {v:V},Rep κ G d v->Rep κ G' d v
 |.non,v,h=>by simp only[Rep] at h ⊢;exact h
 |.bl b,v,h=>by simp only[Rep] at h ⊢;exact h
 |.int i,v,h=>by simp only[Rep] at h ⊢;exact h
 |.str x,v,h=>by simp only[Rep] at h ⊢;exact h
 |.lst ds,v,h=>by simp only[Rep] at h ⊢;obtain⟨a,xs,rfl,h1,h2⟩:=h;exact⟨a,xs,rfl,e _ _ h1,ql.same e h2⟩
 |.tup ds,v,h=>by simp only[Rep] at h ⊢;obtain⟨a,xs,rfl,h1,h2⟩:=h;exact⟨a,xs,rfl,e _ _ h1,ql.same e h2⟩
 |.ins c ns ds,v,h=>by simp only[Rep] at h ⊢;obtain⟨p,dx,C,xs,hc,rfl,h1,hl,h2⟩:=h;exact⟨p,dx,C,xs,hc,rfl,e _ _ h1,hl,ql.same e h2⟩
 |.exc C ns ds,v,h=>by
  simp only[Rep] at h ⊢;obtain⟨p,od,xs,rfl,h1,h3,h2⟩:=h;refine⟨p,od,xs,rfl,e _ _ h1,?_,ql.same e h2⟩;rcases h3 with z | ⟨dd,z1,z2⟩
  ·exact .inl z
  ·exact .inr ⟨dd,z1,e _ _ z2⟩
 |.dct ks ds,v,h=>by simp only[Rep] at h ⊢;obtain⟨p,xs,rfl,h1,hl,h2⟩:=h;exact⟨p,xs,rfl,e _ _ h1,hl,ql.same e h2⟩
theorem ql.same{κ:KC}{G G':Hp}(e:qo G G'):∀{ds:List D} {vs:List V},ql κ G ds vs->ql κ G' ds vs
 |[],vs,h=>by simp only[ql] at h ⊢;exact h
 | d::ds,vs,h=>by simp only[ql] at h ⊢;obtain⟨x,r,rfl,h1,h2⟩:=h;exact⟨x,r,rfl,Rep.same e h1,ql.same e h2⟩
end
section
variable{κ:KC}{G G':Hp}
theorem ql.nil:ql κ G [] []:=by simp only[ql]
theorem ql.cons{d:D}{ds:List D}{v:V}{vs:List V}(h:Rep κ G d v)(t:ql κ G ds vs):ql κ G (d::ds) (v::vs):=by simp only[ql];exact⟨v,vs,rfl,h,t⟩
theorem ql.len:∀{ds:List D} {vs:List V},ql κ G ds vs->ds.length=vs.length
 |[],vs,h=>by simp only[ql] at h;subst h;rfl
 | d::ds,vs,h=>by simp only[ql] at h;obtain⟨x,r,rfl,h1,h2⟩:=h;simp[ql.len h2]
theorem ql.app:∀{ds es:List D} {vs us:List V},ql κ G ds vs->ql κ G es us->ql κ G (ds++es) (vs++us)
 | [],es,vs,us,h,h'=>by simp only[ql] at h;subst h;exact h'
 | d::ds,es,vs,us,h,h'=>by simp only[ql] at h;obtain⟨x,r,rfl,h1,h2⟩:=h;exact ql.cons h1 (ql.app h2 h')
theorem ql.snoc{ds:List D}{vs:List V}{d:D}{v:V}(h:ql κ G ds vs)(h':Rep κ G d v):ql κ G (ds++[d]) (vs++[v]):=h.app %[h'|0]
theorem ql.drop:∀(n:Nat) {ds:List D} {vs:List V},ql κ G ds vs->ql κ G (ds.drop n) (vs.drop n)
 |0,_,_,h=>h
 | n+1,[],vs,h=>by simp only[ql] at h;subst h;exact .nil
 | n+1,d::ds,vs,h=>by simp only[ql] at h;obtain⟨x,r,rfl,h1,h2⟩:=h;exact ql.drop n h2
theorem ql.take:∀(n:Nat) {ds:List D} {vs:List V},ql κ G ds vs->ql κ G (ds.take n) (vs.take n)
 |0,_,_,h=>by simpa using ql.nil
 | n+1,[],vs,h=>by simp only[ql] at h;subst h;exact .nil
 | n+1,d::ds,vs,h=>by simp only[ql] at h;obtain⟨x,r,rfl,h1,h2⟩:=h;exact ql.cons h1 (ql.take n h2)
theorem ql.atD:∀{ds:List D} {vs:List V} {i:Nat} {d:D},ql κ G ds vs->ds[i]?=some d->∃v,vs[i]?=some v/\Rep κ G d v
 |[],vs,i,d,h,e=>by simp at e
 | d::ds,vs,0,d',h,e=>by simp only[ql] at h;obtain⟨x,r,rfl,h1,h2⟩:=h;simp at e;subst e;exact⟨x,rfl,h1⟩
 | d::ds,vs,i+1,d',h,e=>by simp only[ql] at h;obtain⟨x,r,rfl,h1,h2⟩:=h;obtain⟨v',e1,e2⟩:=ql.atD (i:=i) h2 (by simpa using e);exact⟨v',by simpa using e1,e2⟩
theorem ql.set:∀{ds:List D} {vs:List V} (i:Nat) {d:D} {v:V},ql κ G ds vs->Rep κ G d v->ql κ G (ds.set i d) (vs.set i v)
 | [],vs,i,d,v,h,h'=>by simp only[ql] at h;subst h;exact .nil
 | d::ds,vs,0,d',v,h,h'=>by simp only[ql] at h;obtain⟨x,r,rfl,h1,h2⟩:=h;exact ql.cons h' h2
 | d::ds,vs,i+1,d',v,h,h'=>by simp only[ql] at h;obtain⟨x,r,rfl,h1,h2⟩:=h;exact ql.cons h1 (ql.set i h2 h')
end
inductive Sl where
 | no | val (d:D) | own (l:List D) | bor (l:List D) | scr (l:List D)
abbrev Env:=List Sl
noncomputable def SlR(κ:KC)(K:Frag)(G H Hv:Hp):Sl->Option (Option V)->Prop
 |.no,_=>True
 |.val d,o=>∃v,o=some (some v)/\Rep κ G d v
 |.own ds,o=>∃a xs,o=some (some (.ref a))/\H a=some (.lst xs)/\Hv a=none/\G a=none/\ql κ G ds xs
 |.bor ds,o=>∃a xs,o=some (some (.ref a))/\Hv a=some (.lst xs)/\ql κ G ds xs
 |.scr ds,o=>∃a xs,o=some (some (.ref a))/\SqL K Hv a xs/\ql κ G ds xs
noncomputable def qaa(ρ:Env)(σ:St)(a:Addr):Prop:=∃(i:Nat) (l:List D),ρ[i]?=some (.own l)/\σ[i]?=some (some (.ref a))
structure ER(κ:KC)(K:Frag)(Gv Hv G H:Hp)(ρ:Env)(σ:St):Prop where
 len:ρ.length=σ.length
 sub:qo G H
 base:qo Hv H
 g0:qo Gv G
 fresh:∀a o,G a=some o->(∃o',Gv a=some o')\/Hv a=none
 sl:∀(i:Nat) (s:Sl),ρ[i]?=some s->SlR κ K G H Hv s σ[i]?
 ap:∀(i j:Nat) (a:Addr) (l m:List D),ρ[i]?=some (.own l)->ρ[j]?=some (.own m)->σ[i]?=some (some (.ref a))->σ[j]?=some (some (.ref a))->i=j
structure Po(κ:KC)(K:Frag)(Gv Hv:Hp)(σ:St)(G H:Hp)(ρ:Env)(G' H':Hp)(ρ':Env):Prop where
 er:ER κ K Gv Hv G' H' ρ' σ
 hs:qo H H'
 gs:qo G G'
 new:∀a o,G' a=some o->(∃o',G a=some o')\/H a=none\/qaa ρ σ a
 fz:∀(i:Nat) (l:List D),ρ'[i]?=some (.own l)->ρ[i]?=some (.own l)
theorem qo.none{H H':Hp}(e:qo H H'){a:Addr}(h:H' a=none):H a=none:=by
 cases q:H a with
 |none=>rfl
 |some o=>rw[e a o q] at h;cases h
section
variable{κ:KC}{K:Frag}{Gv Hv G H G' H' G'' H'':Hp}{ρ ρ' ρ'':Env}{σ:St}
theorem Po.refl(h:ER κ K Gv Hv G H ρ σ):Po κ K Gv Hv σ G H ρ G H ρ:=⟨h,λ_ _ e=>e,λ_ _ e=>e,λ_ o e=>.inl ⟨o,e⟩,λ_ _ e=>e⟩
theorem Po.trans(a:Po κ K Gv Hv σ G H ρ G' H' ρ')(b:Po κ K Gv Hv σ G' H' ρ' G'' H'' ρ''):Po κ K Gv Hv σ G H ρ G'' H'' ρ'':=
 ⟨b.er,λc o e=>b.hs c o (a.hs c o e),λc o e=>b.gs c o (a.gs c o e),λc o e=>by
  rcases b.new c o e with ⟨o',z⟩ | z | ⟨i,l,z1,z2⟩
  ·exact a.new c o' z
  ·exact .inr (.inl (qo.none a.hs z))
  ·exact .inr (.inr ⟨i,l,a.fz i l z1,z2⟩),λi l e=>a.fz i l (b.fz i l e)⟩
theorem SlR.grow(hs:qo H H')(gs:qo G G')(nw:∀a xs,H a=some (.lst xs)->Hv a=none->G a=none->G' a=none){s:Sl}{o:Option (Option V)}(h:SlR κ K G H Hv s o):SlR κ K G' H' Hv s o:=by
 cases s with
 |no=>trivial
 |val d=>obtain⟨v,e,r⟩:=h;exact⟨v,e,r.same gs⟩
 |own ds=>obtain⟨a,xs,e,h1,h2,h3,h4⟩:=h;exact⟨a,xs,e,hs _ _ h1,h2,nw a xs h1 h2 h3,h4.same gs⟩
 |bor ds=>obtain⟨a,xs,e,h1,h4⟩:=h;exact⟨a,xs,e,h1,h4.same gs⟩
 |scr ds=>obtain⟨a,xs,e,h1,h4⟩:=h;exact⟨a,xs,e,h1,h4.same gs⟩
theorem Po.more(h:ER κ K Gv Hv G H ρ σ)(hs:qo H H')(gs:qo G G')(sub:qo G' H')(new:∀a o,G' a=some o->(∃o',G a=some o')\/H a=none):Po κ K Gv Hv σ G H ρ G' H' ρ:=by
 refine⟨⟨h.len,sub,λb o e=>hs b o (h.base b o e),λb o e=>gs b o (h.g0 b o e),λa o e=>?_,λi s e=>(h.sl i s e).grow hs gs λa xs h1 h2 h3=>?_,h.ap⟩,hs,gs,λa o e=>?_,λ_ _ e=>e⟩
 ·rcases new a o e with ⟨o',z⟩ | z
  ·exact h.fresh a o' z
  ·exact .inr (qo.none h.base z)
 ·cases q:G' a with
  |none=>rfl
  |some o=>
   rcases new a o q with ⟨o',z⟩ | z
   ·rw[h3] at z;cases z
   ·rw[h1] at z;cases z
 ·rcases new a o e with z | z
  ·exact .inl z
  ·exact .inr (.inl z)
theorem Po.room(h:ER κ K Gv Hv G H ρ σ)(hs:qo H H'):Po κ K Gv Hv σ G H ρ G H' ρ:=
 Po.more h hs (λ_ _ e=>e) (λb o e=>hs b o (h.sub b o e)) λ_ o e=>.inl ⟨o,e⟩
theorem Po.lay(h:ER κ K Gv Hv G H ρ σ){a:Addr}{o:HO}(ha:H a=none):Po κ K Gv Hv σ G H ρ (upd G a o) (upd H a o) ρ:=by
 have ga:G a=none:=qo.none h.sub ha;refine Po.more h (qo.upd ha) (qo.upd ga) (λb u e=>?_) λb u e=>?_
 ·by_cases hb:b=a
  ·subst hb;rw[qg] at e ⊢;exact e
  ·rw[qf hb] at e ⊢;exact h.sub b u e
 ·by_cases hb:b=a
  ·subst hb;exact .inr ha
  ·rw[qf hb] at e;exact .inl ⟨u,e⟩
theorem Po.fill(h:ER κ K Gv Hv G H ρ σ)(p:Po κ K Gv Hv σ G H ρ G' H' ρ'){a:Addr}{o o':HO}(ha:H a=none)(g:G' a=none)(e:H' a=some o')(nl:∀xs,o'≠.lst xs):Po κ K Gv Hv σ G H ρ (upd G' a o) (upd H' a o) ρ':=by
 have hb:Hv a=none:=qo.none h.base ha;have gs:qo G' (upd G' a o):=qo.upd g;have hs:∀b u,b≠a->H' b=some u->upd H' a o b=some u:=λb u n z=>by rw[qf n];exact z
 refine⟨⟨p.er.len,λb u z=>?_,λb u z=>?_,λb u z=>gs b u (p.er.g0 b u z),λb u z=>?_,λi s z=>?_,p.er.ap⟩,λb u z=>?_,λb u z=>gs b u (p.gs b u z),λb u z=>?_,p.fz⟩
 ·by_cases n:b=a
  ·subst n;rw[qg] at z ⊢;exact z
  ·rw[qf n] at z ⊢;exact p.er.sub b u z
 ·exact hs b u (λn=>by rw[n,hb] at z;cases z) (p.er.base b u z)
 ·by_cases n:b=a
  ·subst n;exact .inr hb
  ·rw[qf n] at z;exact p.er.fresh b u z
 ·have q:=p.er.sl i s z
  cases s with
  |no=>trivial
  |val d=>obtain⟨v,e,r⟩:=q;exact⟨v,e,r.same gs⟩
  |own ds=>
   obtain⟨b,xs,e1,h1,h2,h3,h4⟩:=q;have n:b≠a:=λn=>by rw[n,e] at h1;cases h1;exact nl _ rfl
   exact⟨b,xs,e1,hs _ _ n h1,h2,by rw[qf n];exact h3,h4.same gs⟩
  |bor ds=>obtain⟨b,xs,e1,h1,h4⟩:=q;exact⟨b,xs,e1,h1,h4.same gs⟩
  |scr ds=>obtain⟨b,xs,e1,h1,h4⟩:=q;exact⟨b,xs,e1,h1,h4.same gs⟩
 ·exact hs b u (λn=>by rw[n,ha] at z;cases z) (p.hs b u z)
 ·by_cases n:b=a
  ·subst n;exact .inr (.inl ha)
  ·rw[qf n] at z;exact p.new b u z
end
inductive Rv where
 | val (d:D) | tmp (l:List D) | cell (l:List D) | scr (l:List D)
noncomputable def RvR(κ:KC)(K:Frag)(Hv Hb G H:Hp)(ρ:Env)(σ:St):Rv->V->Prop
 |.val d,v=>Rep κ G d v
 |.tmp ds,v=>∃a xs,v=.ref a/\H a=some (.lst xs)/\Hb a=none/\Hv a=none/\G a=none/\¬ qaa ρ σ a/\ql κ G ds xs
 |.cell ds,v=>∃a xs,v=.ref a/\H a=some (.lst xs)/\ql κ G ds xs
 |.scr ds,v=>∃a xs,v=.ref a/\SqL K H a xs/\ql κ G ds xs
section
variable{κ:KC}{K:Frag}{Gv Hv Hb G H G' H':Hp}{ρ ρ':Env}{σ:St}
theorem RvR.keep{r:Rv}{v:V}(h:RvR κ K Hv Hb G H ρ σ r v)(p:Po κ K Gv Hv σ G H ρ G' H' ρ'):RvR κ K Hv Hb G' H' ρ' σ r v:=by
 cases r with
 |val d=>exact Rep.same p.gs h
 |tmp ds=>
  obtain⟨a,xs,rfl,h1,h2,h3,h4,h5,h6⟩:=h;refine⟨a,xs,rfl,p.hs _ _ h1,h2,h3,?_,λ⟨i,l,z1,z2⟩=>h5 ⟨i,l,p.fz i l z1,z2⟩,h6.same p.gs⟩
  cases q:G' a with
  |none=>rfl
  |some o=>
   rcases p.new a o q with ⟨o',z⟩ | z | z
   ·rw[h4] at z;cases z
   ·rw[h1] at z;cases z
   ·exact absurd z h5
 |cell ds=>obtain⟨a,xs,rfl,h1,h6⟩:=h;exact⟨a,xs,rfl,p.hs _ _ h1,h6.same p.gs⟩
 |scr ds=>obtain⟨a,xs,rfl,h1,h6⟩:=h;exact⟨a,xs,rfl,p.hs.seq h1,h6.same p.gs⟩
theorem RvR.back{Hc:Hp}{r:Rv}{v:V}(h:RvR κ K Hv Hc G H ρ σ r v)(e:qo Hb Hc):RvR κ K Hv Hb G H ρ σ r v:=by
 cases r with
 |val d=>exact h
 |tmp ds=>obtain⟨a,xs,rfl,h1,h2,h3,h4,h5,h6⟩:=h;exact⟨a,xs,rfl,h1,qo.none e h2,h3,h4,h5,h6⟩
 |cell ds=>exact h
 |scr ds=>exact h
noncomputable def Rv.list?:Rv->Option (List D)
 |.val (.lst l)=>some l
 |.tmp l=>some l
 |.cell l=>some l
 |.scr l=>some l
 |_=>none
noncomputable def Rv.plain?:Rv->Option (List D)
 |.val (.lst l)=>some l
 |.tmp l=>some l
 |.cell l=>some l
 |_=>none
theorem RvR.plain(er:ER κ K Gv Hv G H ρ σ){r:Rv}{v:V}{l:List D}(h:RvR κ K Hv Hb G H ρ σ r v)(e:r.plain?=some l):∃a xs,v=.ref a/\H a=some (.lst xs)/\ql κ G l xs:=by
 cases r with
 |val d=>
  cases d<;>simp only[Rv.plain?] at e<;>try (cases e)
  simp only[RvR,Rep] at h;obtain⟨a,xs,rfl,h1,h2⟩:=h;exact⟨a,xs,rfl,er.sub _ _ h1,h2⟩
 |tmp ds=>simp only[Rv.plain?] at e;cases e;obtain⟨a,xs,rfl,h1,_,_,_,_,h6⟩:=h;exact⟨a,xs,rfl,h1,h6⟩
 |cell ds=>simp only[Rv.plain?] at e;cases e;exact h
 |scr ds=>simp only[Rv.plain?] at e;cases e
theorem RvR.list(er:ER κ K Gv Hv G H ρ σ){r:Rv}{v:V}{l:List D}(h:RvR κ K Hv Hb G H ρ σ r v)(e:r.list?=some l):∃a xs,v=.ref a/\SqL K H a xs/\ql κ G l xs:=by
 cases r with
 |scr ds=>simp only[Rv.list?] at e;cases e;exact h
 |val d=>
  have e':(Rv.val d).plain?=some l:=by cases d<;>simp only[Rv.list?] at e<;>first | (cases e;rfl) | cases e
  obtain⟨a,xs,h1,h2,h3⟩:=h.plain er e';exact⟨a,xs,h1,SqL.of h2,h3⟩
 |tmp ds=>obtain⟨a,xs,h1,h2,h3⟩:=h.plain er (l:=l) e;exact⟨a,xs,h1,SqL.of h2,h3⟩
 |cell ds=>obtain⟨a,xs,h1,h2,h3⟩:=h.plain er (l:=l) e;exact⟨a,xs,h1,SqL.of h2,h3⟩
theorem Po.freeze{a:Addr}{xs:List V}{G1 H1:Hp}{ρ1:Env}(p:Po κ K Gv Hv σ G H ρ G1 H1 ρ1)(h1:H1 a=some (.lst xs))(h2:H a=none)(h3:Hv a=none)(h4:G1 a=none)(h5:¬ qaa ρ1 σ a):Po κ K Gv Hv σ G H ρ (upd G1 a (.lst xs)) H1 ρ1:=by
 have gs:qo G1 (upd G1 a (.lst xs)):=qo.upd h4;have er:=p.er;refine⟨⟨er.len,λb u e=>?_,er.base,λb o e=>gs b o (er.g0 b o e),λb o e=>?_,λi s e=>?_,er.ap⟩,p.hs,λb o e=>gs b o (p.gs b o e),λb o e=>?_,p.fz⟩
 ·by_cases hb:b=a
  ·subst hb;rw[qg] at e;cases e;exact h1
  ·rw[qf hb] at e;exact er.sub b u e
 ·by_cases hb:b=a
  ·subst hb;exact .inr h3
  ·rw[qf hb] at e;exact er.fresh b o e
 ·have q:=er.sl i s e
  cases s with
  |no=>trivial
  |val d=>obtain⟨v,z,r⟩:=q;exact⟨v,z,r.same gs⟩
  |own ds=>obtain⟨b,ys,z,q1,q2,q3,q4⟩:=q;have hb:b≠a:=λw=>h5 ⟨i,ds,e,by rw[<-w];exact z⟩;exact⟨b,ys,z,q1,q2,by rw[qf hb];exact q3,q4.same gs⟩
  |bor ds=>obtain⟨b,ys,z,q1,q4⟩:=q;exact⟨b,ys,z,q1,q4.same gs⟩
  |scr ds=>obtain⟨b,ys,z,q1,q4⟩:=q;exact⟨b,ys,z,q1,q4.same gs⟩
 ·by_cases hb:b=a
  ·subst hb;exact .inr (.inl h2)
  ·rw[qf hb] at e;exact p.new b o e
theorem ER.froze{i:Nat}{l:List D}(h:ER κ K Gv Hv G H ρ σ)(e:ρ[i]?=some (.own l)):∃a xs,σ[i]?=some (some (.ref a))/\Po κ K Gv Hv σ G H ρ (upd G a (.lst xs)) H (ρ.set i (.val (.lst l)))/\Rep κ (upd G a (.lst xs)) (.lst l) (.ref a):=by
 obtain⟨a,xs,z,h1,h2,h3,h4⟩:=h.sl i _ e;have gs:qo G (upd G a (.lst xs)):=qo.upd h3;have hi:i < ρ.length:=(List.getElem?_eq_some_iff.mp e).1;have rp:Rep κ (upd G a (.lst xs)) (.lst l) (.ref a):=by simp only[Rep];exact⟨a,xs,rfl,qg,h4.same gs⟩
 refine⟨a,xs,z,⟨⟨by rw[List.length_set];exact h.len,λb u q=>?_,h.base,λb o q=>gs b o (h.g0 b o q),λb o q=>?_,λj s q=>?_,λj k b m n q1 q2=>?_⟩,λ_ _ q=>q,gs,λb o q=>?_,λj m q=>?_⟩,rp⟩
 ·by_cases hb:b=a
  ·subst hb;rw[qg] at q;cases q;exact h1
  ·rw[qf hb] at q;exact h.sub b u q
 ·by_cases hb:b=a
  ·subst hb;exact .inr h2
  ·rw[qf hb] at q;exact h.fresh b o q
 ·by_cases hj:i=j
  ·subst hj;rw[List.getElem?_set_self hi] at q;cases q;exact⟨_,z,rp⟩
  ·rw[List.getElem?_set_ne hj] at q;have w:=h.sl j s q
   cases s with
   |no=>trivial
   |val d=>obtain⟨v,z,r⟩:=w;exact⟨v,z,r.same gs⟩
   |own ds=>obtain⟨b,ys,z',q1,q2,q3,q4⟩:=w;have hb:b≠a:=λu=>hj (h.ap i j a l ds e q z (by rw[<-u];exact z'));exact⟨b,ys,z',q1,q2,by rw[qf hb];exact q3,q4.same gs⟩
   |bor ds=>obtain⟨b,ys,z,q1,q4⟩:=w;exact⟨b,ys,z,q1,q4.same gs⟩
   |scr ds=>obtain⟨b,ys,z,q1,q4⟩:=w;exact⟨b,ys,z,q1,q4.same gs⟩
 ·have f:∀{j:Nat} {m:List D},(ρ.set i (.val (.lst l)))[j]?=some (.own m)->ρ[j]?=some (.own m):=λ{j m} q=>by
   by_cases hj:i=j
   ·subst hj;rw[List.getElem?_set_self hi] at q;cases q
   ·rw[List.getElem?_set_ne hj] at q;exact q
  exact h.ap j k b m n (f q1) (f q2)
 ·by_cases hb:b=a
  ·subst hb;exact .inr (.inr ⟨i,l,e,z⟩)
  ·rw[qf hb] at q;exact .inl ⟨o,q⟩
 ·by_cases hj:i=j
  ·subst hj;rw[List.getElem?_set_self hi] at q;cases q
  ·rw[List.getElem?_set_ne hj] at q;exact q
theorem ER.setVal{i:Nat}{d:D}{v:V}(h:ER κ K Gv Hv G H ρ σ)(r:Rep κ G d v):ER κ K Gv Hv G H (ρ.set i (.val d)) (σ.set i (some v)):=by
 refine⟨by rw[List.length_set,List.length_set];exact h.len,h.sub,h.base,h.g0,h.fresh,λj s q=>?_,λj k b m n q1 q2 q3 q4=>?_⟩
 ·by_cases hj:i=j
  ·subst hj;have hi:i < ρ.length:=by simpa using (List.getElem?_eq_some_iff.mp q).1
   rw[List.getElem?_set_self hi] at q;cases q;exact⟨v,by rw[List.getElem?_set_self (by rw[<-h.len];exact hi)],r⟩
  ·rw[List.getElem?_set_ne hj] at q ⊢;exact h.sl j s q
 ·have f:∀{j:Nat} {m:List D},(ρ.set i (.val d))[j]?=some (.own m)->i≠j/\ρ[j]?=some (.own m):=λ{j m} q=>by
   by_cases hj:i=j
   ·subst hj;have hi:i < ρ.length:=by simpa using (List.getElem?_eq_some_iff.mp q).1
    rw[List.getElem?_set_self hi] at q;cases q
   ·rw[List.getElem?_set_ne hj] at q;exact⟨hj,q⟩
  obtain⟨n1,e1⟩:=f q1;obtain⟨n2,e2⟩:=f q2;rw[List.getElem?_set_ne n1] at q3;rw[List.getElem?_set_ne n2] at q4;exact h.ap j k b m n e1 e2 q3 q4
theorem ER.setOwn{i:Nat}{l:List D}{a:Addr}{xs:List V}(h:ER κ K Gv Hv G H ρ σ)(h1:H a=some (.lst xs))(h2:Hv a=none)(h3:G a=none)(h4:¬ qaa ρ σ a)(r:ql κ G l xs):ER κ K Gv Hv G H (ρ.set i (.own l)) (σ.set i (some (.ref a))):=by
 have f:∀{j:Nat} {m:List D},(ρ.set i (.own l))[j]?=some (.own m)->i≠j->ρ[j]?=some (.own m):=λ{j m} q hj=>by rw[List.getElem?_set_ne hj] at q;exact q
 refine⟨by rw[List.length_set,List.length_set];exact h.len,h.sub,h.base,h.g0,h.fresh,λj s q=>?_,λj k b m n q1 q2 q3 q4=>?_⟩
 ·by_cases hj:i=j
  ·subst hj;have hi:i < ρ.length:=by simpa using (List.getElem?_eq_some_iff.mp q).1
   rw[List.getElem?_set_self hi] at q;cases q;exact⟨a,xs,by rw[List.getElem?_set_self (by rw[<-h.len];exact hi)],h1,h2,h3,r⟩
  ·rw[List.getElem?_set_ne hj] at q ⊢;exact h.sl j s q
 ·by_cases hj:i=j
  ·by_cases hk:i=k
   ·omega
   ·subst hj;have hi:i < σ.length:=by simpa using (List.getElem?_eq_some_iff.mp q3).1
    rw[List.getElem?_set_self hi] at q3;rw[List.getElem?_set_ne hk] at q4;cases q3;exact absurd ⟨k,n,f q2 hk,q4⟩ h4
  ·by_cases hk:i=k
   ·subst hk;have hi:i < σ.length:=by simpa using (List.getElem?_eq_some_iff.mp q4).1
    rw[List.getElem?_set_self hi] at q4;rw[List.getElem?_set_ne hj] at q3;cases q4;exact absurd ⟨j,m,f q1 hj,q3⟩ h4
   ·rw[List.getElem?_set_ne hj] at q3;rw[List.getElem?_set_ne hk] at q4;exact h.ap j k b m n (f q1 hj) (f q2 hk) q3 q4
theorem ER.write{i:Nat}{l m:List D}{a:Addr}{ys:List V}(h:ER κ K Gv Hv G H ρ σ)(e:ρ[i]?=some (.own l))(z:σ[i]?=some (some (.ref a)))(r:ql κ G m ys):ER κ K Gv Hv G (upd H a (.lst ys)) (ρ.set i (.own m)) σ:=by
 obtain⟨a',xs,z',h1,h2,h3,h4⟩:=h.sl i _ e;have ea:a'=a:=by rw[z'] at z;injection z with z;injection z with z;injection z
 subst ea;have hi:i < ρ.length:=(List.getElem?_eq_some_iff.mp e).1;refine⟨by rw[List.length_set];exact h.len,λb u q=>?_,λb u q=>?_,h.g0,h.fresh,λj s q=>?_,λj k b m' n q1 q2=>?_⟩
 ·have hb:b≠a':=λw=>by rw[w,h3] at q;cases q
  rw[qf hb];exact h.sub b u q
 ·have hb:b≠a':=λw=>by rw[w,h2] at q;cases q
  rw[qf hb];exact h.base b u q
 ·by_cases hj:i=j
  ·subst hj;rw[List.getElem?_set_self hi] at q;cases q;exact⟨a',ys,z',qg,h2,h3,r⟩
  ·rw[List.getElem?_set_ne hj] at q;have w:=h.sl j s q
   cases s with
   |no=>trivial
   |val d=>exact w
   |own ds=>obtain⟨b,zs,z2,q1,q2,q3,q4⟩:=w;have hb:b≠a':=λu=>hj (h.ap i j a' l ds e q z' (by rw[<-u];exact z2));exact⟨b,zs,z2,by rw[qf hb];exact q1,q2,q3,q4⟩
   |bor ds=>exact w
   |scr ds=>exact w
 ·have f:∀{j:Nat} {n:List D},(ρ.set i (.own m))[j]?=some (.own n)->∃n',ρ[j]?=some (.own n'):=λ{j n} q=>by
   by_cases hj:i=j
   ·subst hj;exact⟨l,e⟩
   ·rw[List.getElem?_set_ne hj] at q;exact⟨n,q⟩
  obtain⟨_,e1⟩:=f q1;obtain⟨_,e2⟩:=f q2;exact h.ap j k b _ _ e1 e2
end
end DE
namespace DE
open PySem L2
inductive Sk where
 | lst | tup | str
def qdc(s:Str):List D:=s.cps.toList.map λc=>D.str ⟨#[c]⟩
inductive R(α:Type) where
 | ok (a:α) | exc (c:Addr) (l:List (Str×D)) | no
def R.th{α β:Type}:R α->(α->R β)->R β
 |.ok a,f=>f a
 |.exc c l,_=>.exc c l
 |.no,_=>.no
def R.of{α:Type}:Option α->R α
 |some a=>.ok a
 |none=>.no
mutual
noncomputable def toP:D->Option PyData
 |.non=>some .none
 |.bl b=>some (.bool b)
 |.int n=>some (.int n)
 |.str s=>some (.str s)
 |.lst l=>(qdd l).map .list
 |.tup l=>(qdd l).map .tuple
 |.ins ..=>none
 |.exc ..=>none
 |.dct ..=>none
noncomputable def qdd:List D->Option (List PyData)
 |[]=>some []
 | d::l=>(toP d).bind λp=>(qdd l).map (p :: ·)
end
def Rv.data:Rv->D
 |.val d=>d
 |.tmp l=>.lst l
 |.cell l=>.lst l
 |.scr l=>.lst l
inductive Ar where
 | val (d:D) | bor (l:List D) | scr (l:List D)
structure Cs where
 tab:List Str
 fld:Str->Str->Bool
 mt:Str->Str->Option Str
 sub:Str->Str->Option Bool
 xa:Str->Addr:=λ_=>0
 xn:Str->Option (List Str):=λ_=>none
 xs:Addr->Str->Option Bool:=λ_ _=>none
 xg:Addr->Str->Bool:=λ_ _=>false
 xt:List Str:=[]
def Cs.non:Cs:={ tab:=[],fld:=λ_ _=>false,mt:=λ_ _=>none,sub:=λ_ _=>none }
structure Ct where
 N:List Str
 sc:Scope
 tab:List Str
 gl:Str->Option D
 cl:Str->List Ar->R Rv
 cs:Cs
 nw:Str->List Ar->R Rv
noncomputable def qaw:List Str->Str->Option Nat
 |[],_=>none
 | y::r,x=>if y=x then some 0 else (qaw r x).map (· + 1)
noncomputable def qhH(sc:Scope)(x:Str):Bool:=match sc.names.lookup x with
 |some .local=>true
 |some .cell=>true
 |some .free=>true
 |_=>false
noncomputable def qhI(sc:Scope)(x:Str):Bool:=match sc.names.lookup x with
 |some .local=>true
 |some .cell=>true
 |_=>false
def glB(sc:Scope)(x:Str):Bool:=sc.names.lookup x == some .globalImplicit
noncomputable def zf(x:Str):Bool:=!(x == ("__debug__" : Str))&&!(x == ("__classdict__" : Str))&&!(x == ("__name__" : Str))
def oif{α:Type}(c:Bool)(a:Option α):Option α:=match c with
 |true=>a
 |false=>none
def Zi(Γ:Ct)(x:Str):Option Nat:=oif (zf x&&qhH Γ.sc x) (qaw Γ.N x)
noncomputable def isF(Γ:Ct)(it:Expr):Option Nat:=match it with
 |.Name x _=>if x = "_law_found" then Zi Γ x else none
 |_=>none
noncomputable def slC(ρ:Env)(i:Nat):R (List D):=match ρ[i]? with
 |some (.own l)=>.ok l
 |some (.val (.lst l))=>.ok l
 |some (.val (.tup l))=>.ok l
 |_=>.no
def Rv.int?:Rv->Option Int
 |.val (.int i)=>some i
 |_=>none
def Rv.str?:Rv->Option Str
 |.val (.str i)=>some i
 |_=>none
def Rv.bl?:Rv->Option Bool
 |.val (.bl i)=>some i
 |_=>none
def Rv.tup?:Rv->Option (List D)
 |.val (.tup i)=>some i
 |_=>none
noncomputable def qab(i j:Int):Bool:=(decide (-(2 ^ 64) < i)&&decide (i < 2 ^ 64))||(decide (-(2 ^ 64) < j)&&decide (j < 2 ^ 64))
noncomputable def int2(x y:Rv)(f:Int->Int->R Rv):R Rv:=match x.int?,y.int? with
 |some i,some j=>f i j
 |_,_=>.no
noncomputable def qkk(x y:Rv):R Rv:=match x.int?,y.int? with
 |some i,some j=>.ok (.val (.int (i+j)))
 |_,_=>match x.str?,y.str? with
  |some a,some b=>if a.length+b.length<=sizeLine then .ok (.val (.str (a++b))) else .no
  |_,_=>match x.plain?,y.plain? with
   |some l,some m=>if l.length+m.length<=sizeLine then .ok (.tmp (l++m)) else .no
   |_,_=>.no
noncomputable def qkl(x y:Rv):R Rv:=match x.int?,y.int? with
 |some i,some j=>if qab i j=true then .ok (.val (.int (i * j))) else .no
 |none,some j=>(match x.plain? with
  |some l=>if (0<=j/\j < 1000)/\l.length * j.toNat<=sizeLine then .ok (.tmp (List.replicate j.toNat l).flatten) else .no
  |none=>.no)
 |_,_=>.no
noncomputable def Qs(op:Operator)(x y:Rv):R Rv:=match op with
 |.Add=>qkk x y
 |.Sub=>int2 x y λi j=>.ok (.val (.int (i - j)))
 |.Mult=>qkl x y
 |.FloorDiv=>int2 x y λi j=>if 0 < j/\j < 1073741824 then .ok (.val (.int (i / j))) else .no
 |.Mod=>int2 x y λi j=>if 0 < j then .ok (.val (.int (i % j))) else .no
 |.Pow=>int2 x y λi j=>if 0<=j/\j<=1000000/\i.natAbs < 2 ^ 64 then .ok (.val (.int (i ^ j.toNat))) else .no
 |_=>.no
noncomputable def eqD(x y:D):Option Bool:=match toP x,toP y with
 |some p,some q=>if SeqAt.shaped p&&SeqAt.shaped q then some (PyData.eqv p q) else none
 |_,_=>none
def y6:D->Bool
 |.non=>true
 |.bl _=>true
 |.int _=>true
 |.str _=>true
 |_=>false
def seqD(r:Rv):Option (List D):=match r.tup? with
 |some l=>some l
 |none=>r.list?
def flV:D->V
 |.bl b=>.bl b
 |.int n=>.int n
 |.str s=>.str s
 |_=>.non
noncomputable def inD(x:D)(l:List D):Option Bool:=if (y6 x&&l.all y6)=true then some (inV (flV x) (l.map flV)) else none
noncomputable def qem(x y:Rv)(f:Int->Int->Bool):Option Bool:=match x.int?,y.int? with
 |some i,some j=>some (f i j)
 |_,_=>none
def Rv.non?:Rv->Bool
 |.val .non=>true
 |_=>false
def qcr(a b:Str):Bool:=!(Builtin.Str.occurrences b a 0 b.length 1).isEmpty
noncomputable def qcs(x y:Rv):Option Bool:=match x.str?,y.str? with
 |some a,some b=>some (qcr a b)
 |_,_=>(seqD y).bind (inD x.data)
def JG:List D->Option (List Int)
 |[]=>some []
 | .int i::l=>(JG l).map (i :: ·)
 |_=>none
noncomputable def ltD(x y:Rv):Option Bool:=match x.plain?,y.plain? with
 |some l,some m=>(match JG l,JG m with |some a,some b=>some (HT.ju a b) |_,_=>none)
 |_,_=>qem x y λi j=>decide (i < j)
noncomputable def Jf(op:CmpOp)(x y:Rv):Option Bool:=match op with
 |.Eq=>eqD x.data y.data
 |.NotEq=>(eqD x.data y.data).map (!·)
 |.Lt=>ltD x y
 |.LtE=>qem x y λi j=>decide (i<=j)
 |.Gt=>qem x y λi j=>decide (j < i)
 |.GtE=>qem x y λi j=>decide (j<=i)
 |.Is=>if y.non? then some x.non? else none
 |.IsNot=>if y.non? then some (!x.non?) else none
 |.In=>qcs x y
 |.NotIn=>(qcs x y).map (!·)
noncomputable def qjG(x y:Rv):R Rv:=match x,y with
 |.val (.dct ks l),.val (.str k)=>R.of ((ks.zip l).lookup k) |>.th λd=>.ok (.val d)
 |_,_=>.no
noncomputable def idxD(x y:Rv):R Rv:=match y.int? with
 |some i=>(match x.str? with
  |some z=>if z.length<=sizeLine then (match atI z.cps.toList i with |some c=>.ok (.val (.str ⟨#[c]⟩)) |none=>.no) else .no
  |none=>match seqD x with
   |some l=>(match atI l i with |some d=>.ok (.val d) |none=>.no)
   |none=>.no)
 |none=>qjG x y
noncomputable def qde(l:List D)(lo hi:Option Int):List D:=(l.drop (HT.sIx l.length 0 lo)).take (HT.sIx l.length l.length hi - HT.sIx l.length 0 lo)
noncomputable def sliceD(r:Rv)(lo hi:Option Int):R Rv:=match r.str? with
 |some z=>if z.length<=sizeLine then .ok (.val (.str (Txt.slice z lo hi))) else .no
 |none=>(R.of r.list?).th λl=>.ok (.tmp (qde l lo hi))
noncomputable def truthD(r:Rv):Option Bool:=match r with
 |.val .non=>some false
 |.val (.bl b)=>some b
 |.val (.int i)=>some (i != 0)
 |.val (.str s)=>if s.length<=sizeLine then some ((s.length:Int) != 0) else none
 |r=>(seqD r).map λl=>!l.isEmpty
noncomputable def Zj(cs:Cs)(r:Rv)(t:Str):Option Bool:=match r with
 |.val (.ins c _ _)=>cs.sub c t
 |.val (.exc C _ _)=>cs.xs C t
 |_=>none
noncomputable def qct(cs:Cs)(r:Rv)(x:Str):Option D:=match r with
 |.val (.ins c ns ds)=>if cs.fld c x then (ns.zip ds).lookup x else none
 |.val (.exc C ns ds)=>if cs.xg C x then (ns.zip ds).lookup x else none
 |_=>none
noncomputable def mtD(cs:Cs)(r:Rv)(x:Str):Option Str:=match r with
 |.val (.ins c ns _)=>if ns.contains x then none else cs.mt c x
 |_=>none
def yD:List D->Option (List Str)
 |[]=>some []
 | .str z::l=>(yD l).map (z :: ·)
 |_=>none
noncomputable def ixM(r:Rv)(as:List Ar):R Rv:=match r.plain?,as with
 |some l,[.val (.str s)]=>(match yD l with |some zs=>if zs.contains s then .ok (.val (.int (zs.idxOf s:Nat))) else .no |none=>.no)
 |_,_=>.no
noncomputable def qac(x a:Str)(l:List D):R Rv:=if x = "join" then (match yD l with |some zs=>if (zs.map (·.length)).sum+zs.length * a.length<=16777216 then .ok (.val (.str (Txt.join a zs))) else .no |none=>.no) else .no
noncomputable def qcu(x a:Str)(as:List Ar):R Rv:=match as with
 |[.val (.str b)]=>if x = "split" then (if (b.length == 0)=false/\a.length+2<=sizeLine then .ok (.tmp ((Txt.split a b).map D.str)) else .no) else if x = "partition" then (if (b.length == 0)=false/\a.length<=sizeLine then .ok (.val (.tup [.str (Txt.partition a b).1,.str (Txt.partition a b).2.1,.str (Txt.partition a b).2.2])) else .no) else .no
 |[.val (.lst l)]=>qac x a l
 |[.bor l]=>qac x a l
 |_=>.no
noncomputable def bmD(x:Str)(r:Rv)(as:List Ar):R Rv:=match r with
 |.val (.str a)=>qcu x a as
 |r=>if x = "index" then ixM r as else .no
noncomputable def qkm:D->Option Str
 |.int n=>if n.natAbs.log2 < 1920 then some (Str.ofString (toString n)) else none
 |.str z=>if z.length<=3000 then some z else none
 |_=>none
noncomputable def Jg(acc:Str):List D->Option Str
 |[]=>some acc
 | d::l=>(qkm d).bind λy=>if (acc++y).length<=sizeLine then Jg (acc++y) l else none
def jC:Expr->Bool
 |.Constant (.str _) _ _=>true
 |.Name ..=>true
 |.Subscript ..=>true
 |_=>false
noncomputable def lenD(r:Rv):R Rv:=match r.str? with
 |some s=>if s.length<=sizeLine then .ok (.val (.int s.length)) else .no
 |none=>match seqD r with
  |some l=>.ok (.val (.int l.length))
  |none=>.no
def listD(r:Rv):R Rv:=match seqD r with
 |some l=>.ok (.tmp l)
 |none=>.no
noncomputable def qjH(r:Rv):R Rv:=match r with
 |.val (.str z)=>(match PySem.intText? z with |some n=>if z.length<=640 then .ok (.val (.int n)) else .no |none=>.no)
 |_=>.no
noncomputable def intD(r:Rv):R Rv:=match r.int? with
 |some i=>.ok (.val (.int i))
 |none=>match r.bl? with
  |some b=>.ok (.val (.int (if b then 1 else 0)))
  |none=>qjH r
def prD:D->Option (Int×Int)
 |.tup [.int a,.int b]=>some (a,b)
 |_=>none
noncomputable def qgG:List D->Option (List (Int×Int))
 |[]=>some []
 | d::l=>match prD d,qgG l with
  |some p,some ps=>some (p::ps)
  |_,_=>none
def pD(p:Int×Int):D:=.tup [.int p.1,.int p.2]
def qad(p q:Int×Int):Bool:=decide (p.1 < q.1)||(decide (p.1=q.1)&&decide (p.2<=q.2))
def qbt(ps:List (Int×Int)):List (Int×Int):=ps.mergeSort qad
noncomputable def Qt(r:Rv):R Rv:=match r.list? with
 |some l=>(match qgG l with |some ps=>if ps.length < 64 then .ok (.tmp ((qbt ps).map pD)) else .no |none=>.no)
 |none=>.no
noncomputable def qkn(r:Rv):R Rv:=match r.list? with
 |some l=>(match JG l with |some ns=>.ok (.val (.int ns.sum)) |none=>.no)
 |none=>.no
noncomputable def qjI:Option Expr->Option Expr->Expr->Bool
 |none,none,.UnaryOp .USub (.Constant (.int 1) _ _) _=>true
 |_,_,_=>false
def qp:Expr->Bool
 |.Starred ..=>true
 |_=>false
noncomputable def strD(r:Rv):R Rv:=match r.int? with
 |some i=>if i.natAbs.log2 < 1920 then .ok (.val (.str (Str.ofString (toString i)))) else .no
 |none=>.no
def tupD(r:Rv):R Rv:=match r.list? with
 |some l=>.ok (.val (.tup l))
 |none=>.no
def qhJ:List D->Option (List Bool)
 |[]=>some []
 | .bl i::l=>(qhJ l).map (i :: ·)
 |_=>none
noncomputable def qko(r:Rv):R Rv:=match r.list? with
 |some l=>(match qhJ l with |some bs=>.ok (.val (.bl (bs.all id))) |none=>.no)
 |none=>.no
def kvD:D->Option (Str×Int)
 |.tup [.str s,.int n]=>some (s,n)
 |_=>none
noncomputable def qfz:List D->Option (List (Str×Int))
 |[]=>some []
 | d::l=>match kvD d,qfz l with
  |some p,some ps=>some (p::ps)
  |_,_=>none
def qhK(kvs:List (Str×Int))(k:Str):Option Int:=(kvs.find? λkv=>decide (kv.1=k)).map (·.2)
noncomputable def qbu(n:Int)(x y:Rv):R Rv:=match x.list?,y.str? with
 |some l,some k=>(match qfz l with |some kvs=>if (kvs.map (·.1)).Nodup then .ok (.val (.int ((qhK kvs k).getD n))) else .no |none=>.no)
 |_,_=>.no
noncomputable def dgE(Γ:Ct)(o:Expr)(x:Str)(es:List Expr)(b:Bool):Option (Expr×Expr×Int):=match o,es with
 |.Call (.Name f _) [a] [] _,[e,.Constant (.int n) _ _]=>if f = "dict"/\x = "get"/\b=true/\glB Γ.sc "dict" = true/\qp a=false/\qp e=false then some (a,e,n) else none
 |_,_=>none
def maxD(x y:Rv):R Rv:=int2 x y λi j=>.ok (.val (.int (if j > i then j else i)))
def minD(x y:Rv):R Rv:=int2 x y λi j=>.ok (.val (.int (if j < i then j else i)))
def yE:Expr->Bool
 |.Set ..=>false
 |_=>true
noncomputable def zg:Expr->Option (List Str)
 |.Name x _=>some [x]
 |.Tuple es _ _=>es.foldr (λe r=>match e,r with |.Name x _,some l=>some (x::l) |_,_=>none) (some [])
 |_=>none
def qcv:Expr->Bool
 |.Tuple ..=>true
 |_=>false
def qhL:Sl->Sl
 |.own l=>.bor l
 |s=>s
noncomputable def Jh(N:List Str)(sc:Scope):List Nat:=(List.range N.length).filter λi=>sc.names.lookup (N.getD i "") == some .free
def Qu(l:List D):List D:=(List.range l.length).zipWith (λ(i:Nat) d=>D.tup [.int i,d]) l
def qax(l m:List D):List D:=List.zipWith (λa b=>D.tup [a,b]) l m
def zk(lo hi:Int):List D:=(List.range (hi - lo).toNat).map λi:Nat=>D.int (lo+i)
def jO(lo hi c:Int):List D:=(List.range (rsz lo hi c)).map λi:Nat=>D.int (lo+i * c)
noncomputable def rgB(i j c:Int):Bool:=decide (-(2 ^ 60)<=i)&&decide (i < 2 ^ 60)&&decide (-(2 ^ 60)<=j)&&decide (j < 2 ^ 60)&&decide (0 < c)&&decide (c < 2 ^ 30)
noncomputable def rg3(x y z:Rv):R (List D):=match x.int?,y.int?,z.int? with
 |some i,some j,some c=>if rgB i j c=true then .ok (jO i j c) else .no
 |_,_,_=>.no
def Yz(i:Int):Bool:=decide (-(2 ^ 62)<=i)&&decide (i < 2 ^ 62)
noncomputable def lrE(Γ:Ct)(f:Str)(a:Expr):Option (Expr×Expr):=match a with
 |.Call (.Name g _) [x,y] [] _=>if f = "list"/\g = "range"/\glB Γ.sc "range" = true/\qp x=false/\qp y=false then some (x,y) else none
 |_=>none
noncomputable def lrD(x y:Rv):R Rv:=match x.int?,y.int? with
 |some i,some j=>if Yz i=true/\Yz j=true/\(j - i).toNat<=10000 then .ok (.tmp (zk i j)) else .no
 |_,_=>.no
noncomputable def irE(Γ:Ct)(op:CmpOp)(b:Expr):Option Expr:=match op,b with
 |.NotIn,.Call (.Name g _) [x] [] _=>if g = "range"/\glB Γ.sc "range" = true/\qp x=false then some x else none
 |_,_=>none
noncomputable def qhM(x y:Rv):R Rv:=match x.int?,y.int? with
 |some i,some j=>.ok (.val (.bl (!decide (0<=i/\i < j))))
 |_,_=>.no
def zl(i:Int):Bool:=decide (-(2 ^ 62)<=i)&&decide (i < 2 ^ 62)
noncomputable def qbv(asg:D->Env->R Env)(test:Env->R (Bool×Env))(elt:Env->R (D×Env)):List D->Env->List D->R (List D)
 |[],_,acc=>.ok acc
 | d::ds,ρ,acc=>(asg d ρ).th λρ1=>(test ρ1).th λbt=>if bt.1 then (elt bt.2).th λx=>if acc.length < sizeLine then qbv asg test elt ds x.2 (acc++[x.1]) else .no else qbv asg test elt ds bt.2 acc
inductive Fl where
 | next (ρ:Env) | ret (r:Rv)
def jm:Expr->Bool
 |.ListComp ..=>false
 |.SetComp ..=>false
 |.DictComp ..=>false
 |_=>true
def qbw:Expr->Bool
 |.Tuple ..=>false
 |_=>true
def JH:Expr->Bool
 |.Slice ..=>false
 |_=>true
noncomputable def qgH(step:D->Env->R Fl):List D->Env->R Fl
 |[],ρ=>.ok (.next ρ)
 | d::ds,ρ=>(step d ρ).th λf=>match f with
  |.next ρ1=>qgH step ds ρ1
  |.ret r=>.ok (.ret r)
noncomputable def whL(test:Env->R (Bool×Env))(body:Env->R Fl):Nat->Env->R Fl
 |0,_=>.no
 | n+1,ρ=>(test ρ).th λb=>if b.1 then (body b.2).th λf=>(match f with
  |.next ρ1=>whL test body n ρ1
  |.ret r=>.ok (.ret r)) else .ok (.next b.2)
end DE
namespace DE
open PySem L2
inductive B1 where
 | len | list | int | srt | sum | all | str | tup
inductive B2 where
 | max | min | get (n:Int) | rng | inr
inductive Ty where
 | int | bool | str | list | tuple
inductive Tg where
 | one (i:Nat) | many (l:List Nat)
structure Cl where
 f:Str->List Ar->R Rv
 cs:Cs
 nw:Str->List Ar->R Rv
instance:CoeFun Cl (λ_=>Str->List Ar->R Rv):=⟨Cl.f⟩
mutual
inductive E where
 | var (i:Nat) | con (d:D) | bin (op:Operator) (a b:E) | neg (a:E) | not (a:E) | one (a:E) | and (a b:E) | or (a b:E) | cmp (op:CmpOp) (a b:E) | ite (c:T) (a b:E)
 | idx (a i:E) | sli (a:E) (lo hi:O) | rvs (a:E) | lst (l:Es) | tup (l:Es) | call (f:Str) (l:Es) | calF (f:Str) (l:Es) | b1 (f:B1) (a:E) | b2 (f:B2) (a b:E) | isi (t:Ty) (a:E) | isc (t:Str) (a:E) | fld (a:E) (x:Str) | met (a:E) (x:Str) (l:Es) | new (f:Str) (l:Es) | fst (l:Es) | dct (ks:List Str) (l:Es) | comp (x:E) (src:I) (tg:Tg) (c:F) (n:Nat) (fr:List Nat)
inductive Es where
 | nil | cons (a:E) (l:Es)
inductive T where
 | not (a:T) | one (a:T) | and (a b:T) | or (a b:T) | cmp (op:CmpOp) (a b:E) | chn (op op':CmpOp) (a b c:E) | val (a:E)
inductive O where
 | none | some (a:E)
inductive F where
 | yes | test (c:T)
inductive I where
 | nam (i:Nat) | seq (a:E) | rng (a:E) | rng2 (a b:E) | rng3 (a b c:E) | enum (a:E) | zip (a b:E) | rev (a:E)
end
noncomputable def slR(ρ:Env)(i:Nat):R Rv:=match ρ[i]? with
 |some (.val d)=>.ok (.val d)
 |some (.own l)=>.ok (.cell l)
 |some (.bor l)=>.ok (.cell l)
 |some (.scr l)=>.ok (.scr l)
 |_=>.no
noncomputable def slE(ρ:Env)(i:Nat):R (D×Env):=match ρ[i]? with
 |some (.val d)=>.ok (d,ρ)
 |some (.own l)=>.ok (.lst l,ρ.set i (.val (.lst l)))
 |_=>.no
noncomputable def slL(ρ:Env)(i:Nat):R ((Sk×List D)×Env):=match ρ[i]? with
 |some (.val (.lst l))=>.ok ((.lst,l),ρ)
 |some (.val (.tup l))=>.ok ((.tup,l),ρ)
 |some (.val (.str z))=>.ok ((.str,qdc z),ρ)
 |some (.own l)=>.ok ((.lst,l),ρ.set i (.val (.lst l)))
 |some (.bor l)=>.ok ((.lst,l),ρ)
 |some (.scr l)=>.ok ((.lst,l),ρ)
 |_=>.no
noncomputable def slX(ρ:Env)(i:Nat):R Rv:=match ρ[i]? with
 |some (.val d)=>.ok (.val d)
 |some (.own l)=>.ok (.tmp l)
 |_=>.no
noncomputable def B1.go:B1->Rv->R Rv
 |.len=>lenD
 |.list=>listD
 |.int=>intD
 |.srt=>Qt
 |.sum=>qkn
 |.all=>qko
 |.str=>strD
 |.tup=>tupD
def B2.go:B2->Rv->Rv->R Rv
 |.max=>maxD
 |.min=>minD
 |.get n=>qbu n
 |.rng=>lrD
 |.inr=>qhM
noncomputable def Ty.of:Ty->D->Option Bool
 |_,.ins ..=>none
 |_,.exc ..=>none
 |_,.dct ..=>none
 |.int,.int _=>some true
 |.int,.bl _=>some true
 |.bool,.bl _=>some true
 |.str,.str _=>some true
 |.list,.lst _=>some true
 |.tuple,.tup _=>some true
 |_,_=>some false
def Ty.go(t:Ty):Rv->Option Bool
 |.scr _=>none
 |r=>t.of r.data
noncomputable def JI:List Nat->List D->Env->R Env
 |[],[],ρ=>.ok ρ
 | i::l,d::ds,ρ=>JI l ds (ρ.set i (.val d))
 |_,_,_=>.no
noncomputable def Tg.go:Tg->D->Env->R Env
 |.one i,d,ρ=>.ok (ρ.set i (.val d))
 |.many l,.tup ds,ρ=>JI l ds ρ
 |_,_,_=>.no
def toAr:Rv->Ar
 |.val d=>.val d
 |.tmp l=>.val (.lst l)
 |.cell l=>.bor l
 |.scr l=>.scr l
def qae(n:Nat)(fr:List Nat)(ρ:Env):Env:=List.replicate n Sl.no++fr.map λi=>qhL (ρ.getD i .no)
noncomputable def qbx(x:Rv×Env):R (D×Env):=match x.1 with
 |.val d=>.ok (d,x.2)
 |.tmp l=>.ok (.lst l,x.2)
 |_=>.no
noncomputable def qfA(x:Rv×Env):R ((Sk×List D)×Env):=match x.1 with
 |.val (.lst l)=>.ok ((.lst,l),x.2)
 |.val (.tup l)=>.ok ((.tup,l),x.2)
 |.val (.str z)=>.ok ((.str,qdc z),x.2)
 |.tmp l=>.ok ((.lst,l),x.2)
 |_=>.no
noncomputable def qZ(e:E)(r:Env->R (Rv×Env))(ρ:Env):R (D×Env):=match e with
 |.var i=>slE ρ i
 |.con d=>.ok (d,ρ)
 |_=>(r ρ).th qbx
noncomputable def jo(e:E)(r:Env->R (Rv×Env))(ρ:Env):R ((Sk×List D)×Env):=match e with
 |.var i=>slL ρ i
 |_=>(r ρ).th qfA
mutual
noncomputable def iR(cl:Cl):E->Env->R (Rv×Env)
 |.var i,ρ=>(slR ρ i).th λr=>.ok (r,ρ)
 |.con d,ρ=>.ok (.val d,ρ)
 |.bin op a b,ρ=>(iR cl a ρ).th λx=>(iR cl b x.2).th λy=>(Qs op x.1 y.1).th λr=>.ok (r,y.2)
 |.neg a,ρ=>(iR cl a ρ).th λx=>match x.1 with
  |.val (.int i)=>.ok (.val (.int (-i)),x.2)
  |_=>.no
 |.not a,ρ=>(iR cl a ρ).th λx=>match x.1 with
  |.val (.bl b)=>.ok (.val (.bl (!b)),x.2)
  |_=>.no
 |.one a,ρ=>iR cl a ρ
 |.and a b,ρ=>(iR cl a ρ).th λx=>match x.1 with
  |.val (.bl true)=>iR cl b x.2
  |.val (.bl false)=>.ok (.val (.bl false),x.2)
  |_=>.no
 |.or a b,ρ=>(iR cl a ρ).th λx=>match x.1 with
  |.val (.bl false)=>iR cl b x.2
  |.val (.bl true)=>.ok (.val (.bl true),x.2)
  |_=>.no
 |.cmp op a b,ρ=>(iR cl a ρ).th λx=>(iR cl b x.2).th λy=>(R.of (Jf op x.1 y.1)).th λr=>.ok (.val (.bl r),y.2)
 |.ite c a b,ρ=>(iT cl c ρ).th λt=>if t.1 then iR cl a t.2 else iR cl b t.2
 |.idx a i,ρ=>(iR cl a ρ).th λx=>(iR cl i x.2).th λy=>(idxD x.1 y.1).th λr=>.ok (r,y.2)
 |.sli a lo hi,ρ=>(iR cl a ρ).th λx=>(iO cl lo x.2).th λl=>(iO cl hi l.2).th λh=>(sliceD x.1 l.1 h.1).th λr=>.ok (r,h.2)
 |.rvs a,ρ=>(iR cl a ρ).th λx=>(R.of x.1.list?).th λl=>.ok (.tmp l.reverse,x.2)
 |.lst l,ρ=>(iEs cl l ρ).th λx=>if x.1.length<=sizeLine then .ok (.tmp x.1,x.2) else .no
 |.tup l,ρ=>(iEs cl l ρ).th λx=>if x.1.length<=sizeLine then .ok (.val (.tup x.1),x.2) else .no
 |.call f l,ρ=>(iAs cl l ρ).th λx=>(cl f x.1).th λr=>.ok (r,x.2)
 |.calF f l,ρ=>(iEs cl l ρ).th λx=>(cl f (x.1.map .val)).th λr=>.ok (r,x.2)
 |.b1 f a,ρ=>(iR cl a ρ).th λx=>(f.go x.1).th λr=>.ok (r,x.2)
 |.b2 f a b,ρ=>(iR cl a ρ).th λx=>(iR cl b x.2).th λy=>(f.go x.1 y.1).th λr=>.ok (r,y.2)
 |.isi t a,ρ=>(iR cl a ρ).th λx=>(R.of (t.go x.1)).th λb=>.ok (.val (.bl b),x.2)
 |.isc t a,ρ=>(iR cl a ρ).th λx=>(R.of (Zj cl.cs x.1 t)).th λb=>.ok (.val (.bl b),x.2)
 |.fld a x,ρ=>(iR cl a ρ).th λy=>(R.of (qct cl.cs y.1 x)).th λd=>.ok (.val d,y.2)
 |.met a x l,ρ=>(iR cl a ρ).th λy=>match mtD cl.cs y.1 x with
  |some f=>(iAs cl l y.2).th λz=>(cl f (toAr y.1::z.1)).th λr=>.ok (r,z.2)
  |none=>(iAs cl l y.2).th λz=>(bmD x y.1 z.1).th λr=>.ok (r,z.2)
 |.new f l,ρ=>(iAs cl l ρ).th λx=>(cl.nw f x.1).th λr=>.ok (r,x.2)
 |.fst l,ρ=>(iEs cl l ρ).th λx=>(R.of (Jg Str.empty x.1)).th λz=>.ok (.val (.str z),x.2)
 |.dct ks l,ρ=>(iEs cl l ρ).th λx=>.ok (.val (.dct ks x.1),x.2)
 |.comp e src tg c n fr,ρ=>(iI cl src ρ).th λx=>if x.1.length<=sizeLine then (qbv tg.go (λρ1=>iF cl c ρ1) (qZ e (iR cl e)) x.1 (qae n fr x.2) []).th λl=>.ok (.tmp l,x.2) else .no
noncomputable def iT(cl:Cl):T->Env->R (Bool×Env)
 |.not a,ρ=>(iT cl a ρ).th λt=>.ok (!t.1,t.2)
 |.one a,ρ=>iT cl a ρ
 |.and a b,ρ=>(iT cl a ρ).th λt=>if t.1 then iT cl b t.2 else .ok (false,t.2)
 |.or a b,ρ=>(iT cl a ρ).th λt=>if t.1 then .ok (true,t.2) else iT cl b t.2
 |.cmp op a b,ρ=>(iR cl a ρ).th λx=>(iR cl b x.2).th λy=>(R.of (Jf op x.1 y.1)).th λr=>.ok (r,y.2)
 | .chn op op' a b c,ρ=>(iR cl a ρ).th λx=>(iR cl b x.2).th λy=>(R.of (Jf op x.1 y.1)).th λr=>if r=true then (iR cl c y.2).th λz=>(R.of (Jf op' y.1 z.1)).th λr'=>.ok (r',z.2) else .ok (false,y.2)
 |.val a,ρ=>(iR cl a ρ).th λx=>(R.of (truthD x.1)).th λb=>.ok (b,x.2)
noncomputable def iEs(cl:Cl):Es->Env->R (List D×Env)
 |.nil,ρ=>.ok ([],ρ)
 |.cons e l,ρ=>(qZ e (iR cl e) ρ).th λx=>(iEs cl l x.2).th λy=>.ok (x.1::y.1,y.2)
noncomputable def iAs(cl:Cl):Es->Env->R (List Ar×Env)
 |.nil,ρ=>.ok ([],ρ)
 |.cons e l,ρ=>(iR cl e ρ).th λx=>(iAs cl l x.2).th λy=>.ok (toAr x.1::y.1,y.2)
noncomputable def iO(cl:Cl):O->Env->R (Option Int×Env)
 |.none,ρ=>.ok (none,ρ)
 |.some e,ρ=>(iR cl e ρ).th λx=>match x.1 with
  |.val (.int i)=>.ok (some i,x.2)
  |_=>.no
noncomputable def iF(cl:Cl):F->Env->R (Bool×Env)
 |.yes,ρ=>.ok (true,ρ)
 |.test c,ρ=>iT cl c ρ
noncomputable def iI(cl:Cl):I->Env->R (List D×Env)
 |.nam i,ρ=>(slC ρ i).th λl=>.ok (l,ρ)
 |.seq a,ρ=>(jo a (iR cl a) ρ).th λx=>.ok (x.1.2,x.2)
 |.rng a,ρ=>(iR cl a ρ).th λx=>(match x.1.int? with
  |some n=>if zl n=true then .ok (zk 0 n,x.2) else .no
  |none=>.no)
 |.rng3 a b c,ρ=>(iR cl a ρ).th λx=>(iR cl b x.2).th λy=>(iR cl c y.2).th λz=>(rg3 x.1 y.1 z.1).th λl=>.ok (l,z.2)
 |.rng2 a b,ρ=>(iR cl a ρ).th λx=>(iR cl b x.2).th λy=>(match x.1.int?,y.1.int? with
  |some i,some j=>if zl i=true/\zl j=true then .ok (zk i j,y.2) else .no
  |_,_=>.no)
 |.enum a,ρ=>(jo a (iR cl a) ρ).th λx=>match x.1.1 with |.lst=>.ok (Qu x.1.2,x.2) |_=>.no
 |.rev a,ρ=>(jo a (iR cl a) ρ).th λx=>match x.1.1 with |.lst=>.ok (x.1.2.reverse,x.2) |_=>.no
 |.zip a b,ρ=>(jo a (iR cl a) ρ).th λx=>(jo b (iR cl b) x.2).th λy=>match x.1.1,y.1.1 with |.lst,.lst=>.ok (qax x.1.2 y.1.2,y.2) |_,_=>.no
end
mutual
inductive S where
 | pass | expr (e:E) | app (i:Nat) (e:E) | ext (i:Nat) (e:E) | clr (i:Nat) | ret (e:E) | retN | set (i:Nat) (e:E) | setT (tg:Tg) (e:E) | setI (i:Nat) (x e:E) | ite (c:T) (a b:Ss) | for_ (tg:Tg) (src:I) (b:Ss) | whl (c:T) (b:Ss) | stuck
inductive Ss where
 | nil | cons (s:S) (l:Ss)
end
def jd(ρ:Env)(i:Nat):Option (List D):=match ρ[i]? with
 |some (.own l)=>some l
 |_=>none
noncomputable def YA(e:E)(r:Env->R (Rv×Env))(ρ:Env):R Rv:=match e with
 |.var i=>slX ρ i
 |.con d=>.ok (.val d)
 |_=>(r ρ).th λx=>match x.1 with
  |.val d=>.ok (.val d)
  |.tmp l=>.ok (.tmp l)
  |_=>.no
noncomputable def JJ(e:E)(r:Env->R (Rv×Env))(ρ:Env):R (Sl×Env):=match e with
 |.var i=>(slE ρ i).th λr=>.ok (.val r.1,r.2)
 |.con d=>.ok (.val d,ρ)
 |_=>(r ρ).th λx=>match x.1 with
  |.val d=>.ok (.val d,x.2)
  |.tmp l=>.ok (.own l,x.2)
  |_=>.no
mutual
noncomputable def iS(cl:Cl)(w:Nat):S->Env->R Fl
 |.pass,ρ=>.ok (.next ρ)
 |.expr e,ρ=>(iR cl e ρ).th λx=>.ok (.next x.2)
 |.app i e,ρ=>(match jd ρ i with
  |none=>.no
  |some _=>(qZ e (iR cl e) ρ).th λy=>(match jd y.2 i with
   |some l=>if l.length < sizeLine then .ok (.next (y.2.set i (.own (l++[y.1])))) else .no
   |none=>.no))
 |.ext i e,ρ=>(match jd ρ i with
  |none=>.no
  |some _=>(iR cl e ρ).th λy=>(match jd y.2 i,y.1.plain? with
   |some l,some n=>if l.length+n.length<=sizeLine then .ok (.next (y.2.set i (.own (l++n)))) else .no
   |_,_=>.no))
 |.clr i,ρ=>(match jd ρ i with
  |some _=>.ok (.next (ρ.set i (.own [])))
  |none=>.no)
 |.ret e,ρ=>(YA e (iR cl e) ρ).th λr=>.ok (.ret r)
 |.retN,ρ=>.ok (.ret (.val .non))
 |.set i e,ρ=>(JJ e (iR cl e) ρ).th λs=>.ok (.next (s.2.set i s.1))
 |.setT tg e,ρ=>(qZ e (iR cl e) ρ).th λx=>(tg.go x.1 x.2).th λρ1=>.ok (.next ρ1)
 |.setI i x e,ρ=>(qZ e (iR cl e) ρ).th λy=>(match jd y.2 i with
  |none=>.no
  |some _=>(iR cl x y.2).th λz=>(match jd z.2 i,z.1.int? with
   |some l,some n=>(match ixN l.length n with
    |some k=>.ok (.next (z.2.set i (.own (l.set k y.1))))
    |none=>.no)
   |_,_=>.no))
 |.ite c a b,ρ=>(iT cl c ρ).th λt=>if t.1 then iSs cl w a t.2 else iSs cl w b t.2
 |.for_ tg src b,ρ=>(iI cl src ρ).th λx=>qgH (λd ρ1=>(tg.go d ρ1).th λρ2=>iSs cl w b ρ2) x.1 x.2
 |.whl c b,ρ=>whL (λρ1=>iT cl c ρ1) (λρ1=>iSs cl w b ρ1) w ρ
 |.stuck,_=>.no
noncomputable def iSs(cl:Cl)(w:Nat):Ss->Env->R Fl
 |.nil,ρ=>.ok (.next ρ)
 |.cons s l,ρ=>(iS cl w s ρ).th λf=>match f with
  |.next ρ1=>iSs cl w l ρ1
  |.ret r=>.ok (.ret r)
end
end DE
namespace DE
open PySem L2
noncomputable def o2{α β γ:Type}(a:Option α)(b:Option β)(f:α->β->γ):Option γ:=match a,b with
 |some x,some y=>some (f x y)
 |_,_=>none
theorem qh{α β γ:Type}{a:Option α}{b:Option β}{f:α->β->γ}{z:γ}(h:o2 a b f=some z):∃x y,a=some x/\b=some y/\f x y=z:=by
 cases a with
 |none=>cases h
 |some x=>
  cases b with
  |none=>cases h
  |some y=>exact⟨x,y,rfl,rfl,Option.some.inj h⟩
theorem qi{α:Type}{c:Bool}{a:Option α}{z:α}(h:oif c a=some z):c=true/\a=some z:=by
 cases c with
 |true=>exact⟨rfl,h⟩
 |false=>cases h
def Ct.k(Γ:Ct):Cl:=⟨Γ.cl,Γ.cs,Γ.nw⟩
noncomputable def cC(Γ:Ct)(it:Expr)(r:Option I):Option I:=match isF Γ it with
 |some i=>some (.nam i)
 |none=>r
noncomputable def Qv(Γ:Ct)(x:Str):Option E:=oif (zf x) (match qaw Γ.N x with
 |some i=>oif (qhH Γ.sc x) (some (.var i))
 |none=>oif (glB Γ.sc x) ((Γ.gl x).map .con))
noncomputable def qen:Const->Option E
 |.none=>some (.con .non)
 |.bool b=>some (.con (.bl b))
 |.int i=>some (.con (.int i))
 |.str s=>some (.con (.str s))
 |_=>none
noncomputable def qjJ(t:Str):Option Ty:=if t = "int" then some .int else if t = "bool" then some .bool else if t = "str" then some .str else if t = "list" then some .list else if t = "tuple" then some .tuple else none
noncomputable def qkp(f:Str):Option B1:=if f = "len" then some .len else if f = "list" then some .list else if f = "int" then some .int else if f = "sorted" then some .srt else if f = "sum" then some .sum else if f = "all" then some .all else if f = "str" then some .str else if f = "tuple" then some .tup else none
def qkq(f:Str):Option B2:=if f = "max" then some .max else if f = "min" then some .min else none
def qby(Γ:Ct)(x:Str):Option Nat:=oif (qhI Γ.sc x&&zf x) (qaw Γ.N x)
def qdf(Γ:Ct):List Str->Option (List Nat)
 |[]=>some []
 | x::l=>o2 (qby Γ x) (qdf Γ l) (· :: ·)
noncomputable def cTg(Γ:Ct)(tg:Expr):Option Tg:=match tg with
 |.Name x _=>(qby Γ x).map .one
 |.Tuple es j p=>oif (!es.any qp) (match zg (.Tuple es j p) with
  |some xs=>(qdf Γ xs).map .many
  |none=>none)
 |_=>none
def YB:E->Option E
 |.var _=>none
 |e=>some e
noncomputable def cFs(g:Expr->Option E):List Expr->Option Es
 |[]=>some .nil
 | .Constant (.str z) _ _::l=>(cFs g l).map (.cons (.con (.str z)))
 | .FormattedValue e i none _::l=>oif (decide (i = -1)) (o2 (g e) (cFs g l) .cons)
 |_=>none
def cVs(g:Expr->Option E):List Expr->Option Es
 |[]=>some .nil
 | e::l=>o2 (g e) (cVs g l) .cons
noncomputable def cKs:List (Option Expr)->Option (List Str)
 |[]=>some []
 | some (.Constant (.str z) _ _)::l=>(cKs l).map (z :: ·)
 |_=>none
mutual
noncomputable def cE:Nat->Ct->Expr->Option E
 |0,_,_=>none
 | m+1,Γ,e=>match e with
  |.Name x _=>Qv Γ x
  |.Constant c _ _=>qen c
  |.BinOp a op b _=>o2 (cE m Γ a) (cE m Γ b) (E.bin op)
  |.UnaryOp .USub a _=>(cE m Γ a).map .neg
  |.UnaryOp .Not a _=>(cE m Γ a).map .not
  |.BoolOp _ [a] _=>(cE m Γ a).map .one
  | .BoolOp .And (a::b::l) p=>o2 (cE m Γ a) (cE m Γ (.BoolOp .And (b::l) p)) .and
  | .BoolOp .Or (a::b::l) p=>o2 (cE m Γ a) (cE m Γ (.BoolOp .Or (b::l) p)) .or
  |.Compare a [op] [b] _=>oif (!behindInMarks op b) (o2 (cE m Γ a) (cE m Γ b) (E.cmp op))
  |.IfExp c a b _=>o2 (cT m Γ c) (o2 (cE m Γ a) (cE m Γ b) Prod.mk) λc p=>.ite c p.1 p.2
  |.Subscript a (.Slice lo hi none _) _=>o2 (cE m Γ a) (o2 (cO m Γ lo) (cO m Γ hi) Prod.mk) λa p=>.sli a p.1 p.2
  |.Subscript a (.Slice lo hi (some st) _) _=>oif (qjI lo hi st) ((cE m Γ a).map .rvs)
  |.Subscript a i _=>o2 (cE m Γ a) (cE m Γ i) .idx
  |.List es _=>(cEs m Γ es).map .lst
  |.Tuple es _ _=>(cEs m Γ es).map .tup
  |.Call (.Name f p) es [] _=>oif (zf f&&glB Γ.sc f&&(qaw Γ.N f).isNone) (
    if f = "isinstance" then (match es with
     |[a,b]=>(match b with
      |.Name t _=>oif (zf t&&glB Γ.sc t&&(qaw Γ.N t).isNone&&!qp a) (match qjJ t with |some y=>(cE m Γ a).map (.isi y) |none=>(cE m Γ a).map (.isc t))
      |_=>none)
     |_=>none)
    else if Γ.tab.contains f=true then (if (f = "_law_let"/\es.length=2)\/f = "_law_day" then (cEs m Γ es).map (.calF f) else (cAs m Γ es).map (.call f))
    else if Γ.cs.tab.contains f=true then (cAs m Γ es).map (.new f)
    else match es with
     |[a]=>(match lrE Γ f a with
      |some t=>o2 (cE m Γ t.1) (cE m Γ t.2) (.b2 .rng)
      |none=>oif (!qp a) (o2 (qkp f) (cE m Γ a) .b1))
     |[a,b]=>oif (!(qp a||qp b)) (o2 (qkq f) (o2 (cE m Γ a) (cE m Γ b) Prod.mk) λf p=>.b2 f p.1 p.2)
     |_=>none)
  |.Attribute o x _=>oif (jC o) ((cE m Γ o).map λa=>.fld a x)
  |.Call (.Attribute o x ap) es [] q=>if (jC o&&(ap.endLine == q.line)&&decide (es.length < 30))=true then (o2 (cE m Γ o) (cAs m Γ es) λa l=>.met a x l)
   else match dgE Γ o x es (ap.endLine == q.line) with
    |some t=>o2 (cE m Γ t.1) (cE m Γ t.2.1) (.b2 (.get t.2.2))
    |none=>none
  | .JoinedStr (a::b::l) _=>(cFs (cX m Γ) (a::b::l)).map .fst
  |.Dict keys values _=>oif (decide (keys.length=values.length)&&!keys.isEmpty&&decide (keys.length<=15)&&(match cKs keys with |some ks=>decide ks.Nodup |none=>false)) (o2 (cKs keys) (cVs (cX m Γ) values) .dct)
  |.ListComp elt [g] sc _=>oif (decide (g.is_async=0)) (match zg g.target with
   |some own=>oif (yf Γ.sc Γ.N (Jh Γ.N sc) sc&&decide (own++(Jh Γ.N sc).map λi=>Γ.N.getD i "").Nodup&&yE g.iter)
     (o2 (o2 (cC Γ g.iter (cI m Γ (qcv g.target) g.iter)) (cTg { Γ with N:=own++(Jh Γ.N sc).map λi=>Γ.N.getD i "",sc:=sc } g.target) Prod.mk)
      (o2 (cF m { Γ with N:=own++(Jh Γ.N sc).map λi=>Γ.N.getD i "",sc:=sc } g.ifs) (cX m { Γ with N:=own++(Jh Γ.N sc).map λi=>Γ.N.getD i "",sc:=sc } elt) Prod.mk)
      λp q=>.comp q.2 p.1 p.2 q.1 own.length (Jh Γ.N sc))
   |none=>none)
  |_=>none
noncomputable def cX:Nat->Ct->Expr->Option E
 |0,_,_=>none
 | m+1,Γ,e=>match e with
  |.Name x _=>Qv Γ x
  |e=>(cE m Γ e).bind YB
noncomputable def cT:Nat->Ct->Expr->Option T
 |0,_,_=>none
 | m+1,Γ,e=>match e with
  |.UnaryOp .Not a _=>(cT m Γ a).map .not
  |.BoolOp _ [a] _=>(cT m Γ a).map .one
  | .BoolOp .And (a::b::l) p=>o2 (cT m Γ a) (cT m Γ (.BoolOp .And (b::l) p)) .and
  | .BoolOp .Or (a::b::l) p=>o2 (cT m Γ a) (cT m Γ (.BoolOp .Or (b::l) p)) .or
  |.BoolOp _ [] _=>none
  |.IfExp ..=>none
  |.Compare a [op] [b] _=>(match irE Γ op b with
   |some t=>o2 (cE m Γ a) (cE m Γ t) (λx y=>.val (.b2 .inr x y))
   |none=>oif (!behindInMarks op b) (o2 (cE m Γ a) (cE m Γ b) (T.cmp op)))
  | .Compare a [op,op'] [b,c] _=>oif (!lastMarks [op,op'] [b,c]) (o2 (cE m Γ a) (o2 (cE m Γ b) (cE m Γ c) Prod.mk) λa p=>.chn op op' a p.1 p.2)
  |.Compare ..=>none
  |e=>(cE m Γ e).map .val
noncomputable def cEs:Nat->Ct->List Expr->Option Es
 |0,_,_=>none
 | m+1,Γ,es=>match es with
  |[]=>some .nil
  | e::l=>oif (!qp e) (o2 (cX m Γ e) (cEs m Γ l) .cons)
noncomputable def cAs:Nat->Ct->List Expr->Option Es
 |0,_,_=>none
 | m+1,Γ,es=>match es with
  |[]=>some .nil
  | e::l=>oif (!qp e) (o2 (cE m Γ e) (cAs m Γ l) .cons)
noncomputable def cO:Nat->Ct->Option Expr->Option O
 |0,_,_=>none
 | m+1,Γ,o=>match o with
  |none=>some .none
  |some e=>(cE m Γ e).map .some
noncomputable def cF:Nat->Ct->List Expr->Option F
 |0,_,_=>none
 | m+1,Γ,es=>match es with
  |[]=>some .yes
  |[c]=>(cT m Γ c).map .test
  |_=>none
noncomputable def cL:Nat->Ct->Expr->Option E
 |0,_,_=>none
 | m+1,Γ,e=>match e with
  |.Name x _=>(Zi Γ x).map .var
  |e=>(cE m Γ e).bind YB
noncomputable def cI:Nat->Ct->Bool->Expr->Option I
 |0,_,_,_=>none
 | m+1,Γ,tb,e=>match e with
  |.Call (.Name f p) es [] q=>if f = "range" || f = "enumerate" || f = "zip" || f = "reversed" then oif (zf f&&glB Γ.sc f&&(qaw Γ.N f).isNone) (match es with
    |[a]=>oif (!qp a) (if f = "range" then (cE m Γ a).map .rng else if f = "enumerate" then oif tb ((cL m Γ a).map .enum) else if f = "reversed" then (cL m Γ a).map .rev else none)
    |[a,b]=>oif (!(qp a||qp b)) (if f = "range" then o2 (cE m Γ a) (cE m Γ b) .rng2 else if f = "zip" then oif tb (o2 (cL m Γ a) (cL m Γ b) .zip) else none)
    |[a,b,c]=>oif (!(qp a||qp b||qp c)) (if f = "range" then o2 (cE m Γ a) (o2 (cE m Γ b) (cE m Γ c) Prod.mk) λa p=>.rng3 a p.1 p.2 else none)
    |_=>none)
   else (cL m Γ (.Call (.Name f p) es [] q)).map .seq
  |e=>(cL m Γ e).map .seq
end
def cV(m:Nat)(Γ:Ct)(e:Expr):Option E:=match e with
 |.Name x _=>Qv Γ x
 |e=>(cE m Γ e).bind YB
mutual
noncomputable def cS:Nat->Ct->Stmt->Option S
 |0,_,_=>none
 | m+1,Γ,st=>match st with
  |.Pass _=>some .pass
  |.Expr e _=>(match e with
   |.Call (.Attribute (.Name x _) meth ap) [a] [] cp=>oif (ap.endLine == cp.line&&!qp a) (
     if meth = "append" then o2 (Zi Γ x) (cX m Γ a) .app
     else if meth = "extend" then o2 (Zi Γ x) (cE m Γ a) .ext
     else none)
   |.Call (.Attribute (.Name x _) meth ap) [] [] cp=>oif (ap.endLine == cp.line&&decide (meth = "clear")) ((Zi Γ x).map .clr)
   |e=>oif (jm e) ((cE m Γ e).map .expr))
  |.Return (some e) _=>(cV m Γ e).map .ret
  |.Return none _=>some .retN
  |.Assign [tg] e _=>(match tg with
   |.Name x _=>o2 (qby Γ x) (cV m Γ e) .set
   |.Tuple es j p=>oif (jm e&&qbw e) (o2 (cTg Γ (.Tuple es j p)) (cX m Γ e) .setT)
   |.Subscript (.Name x _) i _=>oif (jm e&&JH i) (o2 (Zi Γ x) (o2 (cE m Γ i) (cX m Γ e) Prod.mk) λx p=>.setI x p.1 p.2)
   |_=>none)
  |.If c a b _=>o2 (cT m Γ c) (o2 (cSs m Γ a) (cSs m Γ b) Prod.mk) λc p=>.ite c p.1 p.2
  |.For tg it body [] _=>oif (yE it) (o2 (o2 (cTg Γ tg) (cI m Γ (qcv tg) it) Prod.mk) (cSs m Γ body) λp b=>.for_ p.1 p.2 b)
  |.While c body [] _=>o2 (cT m Γ c) (cSs m Γ body) .whl
  |.Raise ..=>some .stuck
  | .Try body (h::hs) [] [] _=>(cSs m Γ body).map λb=>.ite (.val (.con (.bl true))) b .nil
  |_=>none
noncomputable def cSs:Nat->Ct->List Stmt->Option Ss
 |0,_,_=>none
 | m+1,Γ,l=>match l with
  |[]=>some .nil
  | st::l=>o2 (cS m Γ st) (cSs m Γ l) .cons
end
theorem map_some{α β:Type}{o:Option α}{f:α->β}{z:β}(h:o.map f=some z):∃x,o=some x/\f x=z:=Option.map_eq_some_iff.mp h
theorem zu{e z:E}(h:YB e=some z):e=z/\∀i,z≠.var i:=by cases e<;>cases h<;>exact⟨rfl,λi z=>by cases z⟩
theorem qfB{z:E}(h:∀i,z≠.var i)(cl:Cl)(ρ:Env):qZ z (iR cl z) ρ=(iR cl z ρ).th qbx:=by cases z<;>first | rfl | exact absurd rfl (h _)
theorem qfC{z:E}(h:∀i,z≠.var i)(cl:Cl)(ρ:Env):jo z (iR cl z) ρ=(iR cl z ρ).th qfA:=by cases z<;>first | rfl | exact absurd rfl (h _)
theorem qfD{z:E}(h:∀i,z≠.var i)(cl:Cl)(ρ:Env):YA z (iR cl z) ρ=(iR cl z ρ).th λx=>match x.1 with
  |.val d=>.ok (.val d)
  |.tmp l=>.ok (.tmp l)
  |_=>.no:=by
 cases z<;>first | rfl | exact absurd rfl (h _)
theorem qfE{z:E}(h:∀i,z≠.var i)(cl:Cl)(ρ:Env):JJ z (iR cl z) ρ=(iR cl z ρ).th λx=>match x.1 with
  |.val d=>.ok (.val d,x.2)
  |.tmp l=>.ok (.own l,x.2)
  |_=>.no:=by
 cases z<;>first | rfl | exact absurd rfl (h _)
end DE
namespace DE
open PySem L2
def Wk{α:Type}(x:R α)(f:α->Prop):Prop:=match x with
 |.ok a=>f a
 |.exc _ _=>False
 |.no=>False
theorem Wk.th{α β:Type}{x:R α}{g:α->R β}{f:β->Prop}(h:Wk (x.th g) f):Wk x λa=>Wk (g a) f:=by cases x<;>exact h
theorem Wk.mono{α:Type}{x:R α}{f g:α->Prop}(h:Wk x f)(i:∀a,f a->g a):Wk x g:=by
 cases x with
 |ok a=>exact i a h
 |exc c l=>exact h
 |no=>exact h
theorem Wk.of{α:Type}{x:Option α}{f:α->Prop}(h:Wk (R.of x) f):∃a,x=some a/\f a:=by
 cases x with
 |none=>exact h.elim
 |some a=>exact⟨a,rfl,h⟩
theorem Wk.iff{α:Type}{c:Prop}[Decidable c]{x:R α}{f:α->Prop}(h:Wk (if c then x else .no) f):c/\Wk x f:=by
 by_cases hc:c
 ·rw[if_pos hc] at h;exact⟨hc,h⟩
 ·rw[if_neg hc] at h;exact h.elim
section
variable(κ:KC)(K:Frag)(Gv Hv:Hp)
noncomputable def tR(f:Env->R (Rv×Env)):TE:=λσ H Q=>∃ρ G,ER κ K Gv Hv G H ρ σ/\Wk (f ρ) λx=>∀v G' H',Po κ K Gv Hv σ G H ρ G' H' x.2->RvR κ K Hv H G' H' x.2 σ x.1 v->Q v H'
noncomputable def tE(f:Env->R (D×Env)):TE:=λσ H Q=>∃ρ G,ER κ K Gv Hv G H ρ σ/\Wk (f ρ) λx=>∀v G' H',Po κ K Gv Hv σ G H ρ G' H' x.2->Rep κ G' x.1 v->Q v H'
noncomputable def tT(f:Env->R (Bool×Env)):TT:=λσ H Q=>∃ρ G,ER κ K Gv Hv G H ρ σ/\Wk (f ρ) λx=>∀G' H',Po κ K Gv Hv σ G H ρ G' H' x.2->Q x.1 H'
noncomputable def tEs(f:Env->R (List D×Env)):TA:=λσ H Q=>∃ρ G,ER κ K Gv Hv G H ρ σ/\Wk (f ρ) λx=>∀vs G' H',Po κ K Gv Hv σ G H ρ G' H' x.2->ql κ G' x.1 vs->Q vs H'
noncomputable def ArR(G H:Hp):Ar->V->Prop
 |.val d,v=>Rep κ G d v
 |.bor ds,v=>∃a xs,v=.ref a/\H a=some (.lst xs)/\ql κ G ds xs
 |.scr ds,v=>∃a xs,v=.ref a/\SqL K H a xs/\ql κ G ds xs
noncomputable def jD(G H:Hp):List Ar->List V->Prop
 |[],vs=>vs=[]
 | a::l,vs=>∃v r,vs=v::r/\ArR κ K G H a v/\jD G H l r
noncomputable def tAs(f:Env->R (List Ar×Env)):TA:=λσ H Q=>∃ρ G,ER κ K Gv Hv G H ρ σ/\Wk (f ρ) λx=>∀vs G' H',Po κ K Gv Hv σ G H ρ G' H' x.2->jD κ K G' H' x.1 vs->Q vs H'
noncomputable def tO(f:Env->R (Option Int×Env)):TO:=λσ H Q=>∃ρ G,ER κ K Gv Hv G H ρ σ/\Wk (f ρ) λx=>∀G' H',Po κ K Gv Hv σ G H ρ G' H' x.2->Q x.1 H'
noncomputable def SrR(G:Hp)(s:Sk×List D)(v:V):Prop:=match s.1 with
 |.str=>∃x,v=.str x/\s.2=qdc x
 |.tup=>∃a xs,v=.ref a/\ql κ G s.2 xs/\G a=some (.tup xs)
 |.lst=>∃a xs,v=.ref a/\ql κ G s.2 xs/\(G a=some (.lst xs)\/SqL K Hv a xs)
noncomputable def tL(f:Env->R ((Sk×List D)×Env)):TE:=λσ H Q=>∃ρ G,ER κ K Gv Hv G H ρ σ/\Wk (f ρ) λx=>∀v G' H',Po κ K Gv Hv σ G H ρ G' H' x.2->SrR κ K Hv G' x.1 v->Q v H'
noncomputable def ItR(G₁:Hp)(J:It)(l:List D):Prop:=∀(i:Nat) (G H:Hp),qo G₁ G->qo Hv H->qo G H->
 (∀d,l[i]?=some d->J.go i H/\∀x H',J.yld i H x H'->∃G',qo H H'/\qo G G'/\qo G' H'/\(∀a o,G' a=some o->(∃o',G a=some o')\/H a=none)/\Rep κ G' d x)/\(l.length=i->J.stop i H)
noncomputable def tI(f:Env->R (List D×Env)):TI:=λσ H Q=>∃ρ G,ER κ K Gv Hv G H ρ σ/\Wk (f ρ) λx=>∀J G' H',Po κ K Gv Hv σ G H ρ G' H' x.2->ItR κ Hv G' J x.1->Q J H'
noncomputable def ReR(G' H' H:Hp):Rv->V->Prop
 |.val d,v=>Rep κ G' d v
 |.tmp ds,v=>∃a xs,v=.ref a/\H' a=some (.lst xs)/\H a=none/\G' a=none/\ql κ G' ds xs
 |_,_=>False
noncomputable def spF(cl:Str->List Ar->R Rv)(f:Str):Sp:=λvs H Q _=>∃G args,qo G H/\jD κ K G H args vs/\
 Wk (cl f args) λr=>∀v G' H',qo H H'->qo G G'->qo G' H'->(∀a o,G' a=some o->(∃o',G a=some o')\/H a=none)->ReR κ G' H' H r v->Q v H'
end
noncomputable def qbz:List Str:=["len","list","tuple","int","bool","str","max","min","isinstance","range","enumerate","zip","sorted","sum","reversed","all","dict"]
structure Gd(κ:KC)(K:Frag)(k:Nat)(X:Cx)(Γ:Ct):Prop where
 hN:X.N=Γ.N
 vis:∀x,qhH Γ.sc x=true->Vis X.env.scope x
 loc:∀x,qhI Γ.sc x=true->L2.Loc X.env.scope x/\(X.fn x=true\/X.env.scope.names.lookup x=some .local)
 glo:∀x,glB Γ.sc x=true->Gl X x
 cf:∀x,(Γ.sc.names.lookup x=some .cell\/Γ.sc.names.lookup x=some .free)->X.env.kindOf x=some .cell\/X.env.kindOf x=some .free
 nd:Γ.N.Nodup
 calm:X.calm=true
 hK:X.K=K
 room:Room k X.A
 fns:∀f,Γ.tab.contains f=true->∃fa fd ps,FnOk X.prog X.w X.K X.mg X.base CX0 k fa fd ps (spF κ K Γ.cl f)/\X.mg f=some (.ref fa)/\PySem.W.keepIn X.K (.ref fa)=true/\qI X.K fd ps []
 blt:∀f∈qbz,X.mg f=none
 gl:∀x d,Γ.gl x=some d->∃v u,X.mg x=some u/\qB v u/\∀G,Rep κ G d v
 cls:∀c C,κ c=some C->Cls X.K C
 flds:∀c x C,Γ.cs.fld c x=true->κ c=some C->zj X.K C x
 mts:∀c x f,Γ.cs.mt c x=some f->∃C fa fd ps,κ c=some C/\Meth X.K C x fa/\FnOk X.prog X.w X.K X.mg X.base CX0 k fa fd ps (spF κ K Γ.cl f)/\qI X.K fd ps []
 mks:∀f,Γ.cs.tab.contains f=true->(∀args,Γ.nw f args=.no)\/∃C fa fd ps sp,Mk X.K C fa/\FnOk X.prog X.w X.K X.mg X.base CX0 (k - 1) fa fd ps sp/\X.mg f=some (.ref C)/\qI X.K fd ps []/\0 < k/\
  ∀vs H Q,spF κ K Γ.nw f vs H Q E0->∀x dx,H x=none->H dx=none->dx≠x->sp (.ref x::vs) (upd (upd H dx (.own x)) x (.ins C dx [])) (λv H2=>v=.non/\Q (.ref x) H2) E0
 xsubs:∀C t b,Γ.cs.xs C t=some b->ExcIs X.K C/\((∃T,X.mg t=some (.ref T)/\PySem.W.kitOne X.K (.ref C) (.ref T)=some b)\/(X.mg t=none/\t = "ValueError"/\PySem.W.kitOne X.K (.ref C) (.type "ValueError")=some b))
 xgs:∀C x,Γ.cs.xg C x=true->XcG X.K C x
 subs:∀c t b,Γ.cs.sub c t=some b->∃C T,κ c=some C/\(∀H p dx fs,H p=some (HO.ins C dx fs)->TyOf X.K H (.ref p) (.ref C))/\X.mg t=some (.ref T)/\PySem.W.kitOne X.K (.ref C) (.ref T)=some b
theorem PE.imp{X:Cx}{e:Expr}{t t':TE}(h:PE X e t')(i:∀σ H Q,t σ H Q->t' σ H Q):PE X e t:=λpins s σ H Q I hw=>h pins s σ H Q I (i σ H Q hw)
theorem PT.imp{X:Cx}{e:Expr}{t t':TT}(h:PT X e t')(i:∀σ H Q,t σ H Q->t' σ H Q):PT X e t:=λpins s σ H Q I hw=>h pins s σ H Q I (i σ H Q hw)
theorem PA.imp{X:Cx}{es:List Expr}{t t':TA}(h:PA X es t')(i:∀σ H Q,t σ H Q->t' σ H Q):PA X es t:=λpos pins s σ H Q I hw=>h pos pins s σ H Q I (i σ H Q hw)
theorem PO.imp{X:Cx}{o:Option Expr}{t t':TO}(h:PO X o t')(i:∀σ H Q,t σ H Q->t' σ H Q):PO X o t:=λpins s σ H Q I hw=>h pins s σ H Q I (i σ H Q hw)
theorem PIf.imp{X:Cx}{es:List Expr}{t t':TT}(h:PIf X es t')(i:∀σ H Q,t σ H Q->t' σ H Q):PIf X es t:=λpins s σ H Q I hw=>h pins s σ H Q I (i σ H Q hw)
theorem PI.imp{X:Cx}{tg e:Expr}{t t':TI}(h:PI X tg e t')(i:∀σ H Q,t σ H Q->t' σ H Q):PI X tg e t:=λpins s σ H Q I hw=>h pins s σ H Q I (i σ H Q hw)
theorem JK:∀{N:List Str} {x:Str} {i:Nat},qaw N x=some i->N[i]?=some x
 |[],x,i,h=>by cases h
 | y::r,x,i,h=>by
  unfold qaw at h
  by_cases e:y=x
  ·rw[if_pos e] at h;cases h;rw[e];rfl
  ·rw[if_neg e] at h
   cases q:qaw r x with
   |none=>rw[q] at h;cases h
   |some j=>rw[q] at h;cases h;show(y::r)[j+1]?=some x;rw[List.getElem?_cons_succ];exact JK q
theorem qF{x:Str}(h:zf x=true):(x == ("__debug__" : Str))=false/\(x == ("__classdict__" : Str))=false/\x≠"__name__":=by unfold zf at h;simp only[Bool.and_eq_true,Bool.not_eq_true'] at h;refine⟨h.1.1,h.1.2,λz=>?_⟩;rw[z] at h;exact absurd h.2 (2:)
theorem qeo{sc:Scope}{x:Str}(h:qhH sc x=true):Vis sc x:=by
 unfold qhH at h;unfold Vis
 split at h
 ·rename_i e;exact .inl e
 ·rename_i e;exact .inr (.inl e)
 ·rename_i e;exact .inr (.inr e)
 ·cases h
theorem qbA{sc:Scope}{x:Str}(h:qhI sc x=true):L2.Loc sc x:=by
 unfold qhI at h;unfold L2.Loc
 split at h
 ·rename_i e;exact .inl e
 ·rename_i e;exact .inr e
 ·cases h
theorem qe{e:Expr}{es:List Expr}{env:PySem.Env}(h:qp e=false):starEach (e::es) env=(false,eval e env)::starEach es env:=by cases e<;>first | rfl | (simp[qp] at h)
section
variable{κ:KC}{K:Frag}{Gv Hv:Hp}{k:Nat}{X:Cx}{Γ:Ct}
theorem ER.notOwn{G H:Hp}{ρ:Env}{σ:St}(er:ER κ K Gv Hv G H ρ σ){a:Addr}(h:H a=none):¬ qaa ρ σ a:=λ⟨i,l,e,z⟩=>by obtain⟨b,xs,z',h1,_⟩:=er.sl i _ e;rw[z] at z';injection z' with z';injection z' with z';injection z' with z';rw[<-z',h] at h1;cases h1
theorem ER.newList{G H:Hp}{ρ:Env}{σ:St}(er:ER κ K Gv Hv G H ρ σ){a:Addr}{xs:List V}{l:List D}(h:H a=none)(r:ql κ G l xs) :
  Po κ K Gv Hv σ G H ρ G (upd H a (.lst xs)) ρ/\RvR κ K Hv H G (upd H a (.lst xs)) ρ σ (.tmp l) (.ref a):=
 ⟨Po.room er (qo.upd h),a,xs,rfl,qg,h,qo.none er.base h,qo.none er.sub h,er.notOwn h,r⟩
theorem Ji(gd:Gd κ K k X Γ){x:Str}{i:Nat}(h:Zi Γ x=some i)(pos:Pos):PE X (.Name x pos) (qjB i):=by unfold Zi at h;obtain⟨hc,h⟩:=qi h;rw[Bool.and_eq_true] at hc;obtain⟨n1,n2,n3⟩:=qF hc.1;exact QX (i:=i) (by rw[gd.hN];exact JK h) (gd.vis x hc.2) n1 n2
theorem JL(gd:Gd κ K k X Γ){x:Str}{z:E}(h:Qv Γ x=some z)(pos:Pos):(∃i,z=.var i/\PE X (.Name x pos) (qjB i))\/∃d v,z=.con d/\(∀G,Rep κ G d v)/\PE X (.Name x pos) (tC v):=by
 unfold Qv at h;obtain⟨hok,h⟩:=qi h;obtain⟨n1,n2,n3⟩:=qF hok
 cases hi:qaw Γ.N x with
 |some i=>rw[hi] at h;obtain⟨hv,h⟩:=qi h;cases h;exact .inl ⟨i,rfl,QX (i:=i) (by rw[gd.hN];exact JK hi) (gd.vis x hv) n1 n2⟩
 |none=>rw[hi] at h;obtain⟨hg,h⟩:=qi h;obtain⟨d,hd,rfl⟩:=map_some h;obtain⟨v,u,e1,e2,e3⟩:=gd.gl x d hd;exact .inr ⟨d,v,rfl,e3,jL (gd.glo x hg) e1 e2 n1⟩
theorem qdg(gd:Gd κ K k X Γ){x:Str}{z:E}(h:Qv Γ x=some z)(pos:Pos):PE X (.Name x pos) (tR κ K Gv Hv (iR Γ.k z)):=by
 rcases JL gd h pos with ⟨i,rfl,P⟩ | ⟨d,v,rfl,e3,P⟩
 ·refine PE.imp P λσ H Q hq1=>?_;obtain⟨ρ,G,er,h⟩:=hq1;have h:=Wk.th (x:=slR ρ i) h;unfold slR at h
  cases q:ρ[i]? with
  |none=>rw[q] at h;exact h.elim
  |some s=>
   rw[q] at h;have w:=er.sl i s q
   cases s with
   |no=>exact h.elim
   |val d=>obtain⟨v,z,r⟩:=w;exact⟨v,z,h v G H (Po.refl er) r⟩
   |own l=>obtain⟨a,xs,z,r1,r2,r3,r4⟩:=w;exact⟨_,z,h _ G H (Po.refl er) ⟨a,xs,rfl,r1,r4⟩⟩
   |bor l=>obtain⟨a,xs,z,r1,r4⟩:=w;exact⟨_,z,h _ G H (Po.refl er) ⟨a,xs,rfl,er.base _ _ r1,r4⟩⟩
   |scr l=>obtain⟨a,xs,z,r1,r4⟩:=w;exact⟨_,z,h _ G H (Po.refl er) ⟨a,xs,rfl,er.base.seq r1,r4⟩⟩
 ·exact PE.imp P λσ H Q ⟨ρ,G,er,h⟩=>h v G H (Po.refl er) (e3 G)
theorem Zk(gd:Gd κ K k X Γ){x:Str}{z:E}(h:Qv Γ x=some z)(pos:Pos):PE X (.Name x pos) (tE κ K Gv Hv (qZ z (iR Γ.k z))):=by
 rcases JL gd h pos with ⟨i,rfl,P⟩ | ⟨d,v,rfl,e3,P⟩
 ·refine PE.imp P λσ H Q hq1=>?_;obtain⟨ρ,G,er,h⟩:=hq1;have h:Wk (slE ρ i) _:=h;unfold slE at h
  cases q:ρ[i]? with
  |none=>rw[q] at h;exact h.elim
  |some s=>
   rw[q] at h;have w:=er.sl i s q
   cases s with
   |val d=>obtain⟨v,z,r⟩:=w;exact⟨v,z,h v G H (Po.refl er) r⟩
   |own l=>obtain⟨a,xs,z,p,r⟩:=er.froze q;exact⟨_,z,h _ _ H p r⟩
   |_=>exact h.elim
 ·exact PE.imp P λσ H Q ⟨ρ,G,er,h⟩=>h v G H (Po.refl er) (e3 G)
end
end DE
namespace HT
open PySem PyProof.Rows
section
open PySem.SeqAt
open PySem.AutoSeq1 (wpAny_loadPart')
open PySem.MeetsSeq PySem.MeetsSeq2 PySem.MeetsSeq3
theorem qfF(l b:Addr)(items items2:Array Value)(n n2:Nat)(dd dd2:Option Addr)(sl sl2:Array (Option Value)):∀(vs ws:List Value) (ns ms:List Int) (i:Nat),items.toList.drop i=vs->items2.toList.drop i=ws->i<=items.size->i<=items2.size->IntsAre vs ns->IntsAre ws ms->
  Meets (Builtin.«list.__eq__.loop» ⟨[.ref l,.ref b,rawInt i,rawInt 0],[]⟩)
   (λA R s=>s.heap.get? l=some { cls:=.type "list",dict:=dd,data:=.seq items n,slots:=sl }/\s.heap.get? b=some { cls:=.type "list",dict:=dd2,data:=.seq items2 n2,slots:=sl2 }/\
    R (.ok (.ret (.bool (ju ns ms)))) s):=by
 intro vs
 induction vs with
 |nil=>
  intro ws ns ms i h1 h2 z1 z2 hi hj prog w A R s h;obtain⟨hp,g,d,tk,os⟩:=s;obtain⟨hl,hb,h⟩:=h;cases hi
  wp_walk using wpAny_loadPart' hl,wpAny_loadPart' hb
  have hs:items.size<=i:=by have:=List.drop_eq_nil_iff.mp h1;simpa using this
  have hi1:items[((i:Nat):Int).toNat]?=none:=by simp;omega
  rw[hi1]
  wp_walk using wpAny_loadPart' hl,wpAny_loadPart' hb
  show R (.ok (.ret (.bool (decide (items.size < items2.size))))) _
  cases hj with
  |nil=>
   have hs2:items2.size<=i:=by have:=List.drop_eq_nil_iff.mp h2;simpa using this
   rw[Jx] at h;rw[decide_eq_false (1:)];exact h
  |cons c u hw=>
   have hs2:i < items2.size:=by
    have:=congrArg List.length h2
    simp at this;omega
   rw[yZ] at h;rw[decide_eq_true (1:)];exact h
 |cons v vs ih=>
  intro ws ns ms i h1 h2 z1 z2 hi hj prog w A R s h;obtain⟨hp,g,d,tk,os⟩:=s;obtain⟨hl,hb,h⟩:=h
  have hlt:i < items.size:=by
   have:=congrArg List.length h1
   simp at this;omega
  have hi1:items[((i:Nat):Int).toNat]?=some v:=by
   have:=congrArg List.head? h1
   simpa using this
  have d1:items.toList.drop (i+1)=vs:=by rw[<-List.drop_drop,h1];rfl
  cases hi with
  | cons a t hi'=>
  cases hj with
  |nil=>
   wp_walk using wpAny_loadPart' hl,wpAny_loadPart' hb
   have hs2:items2.size<=i:=by have:=List.drop_eq_nil_iff.mp h2;simpa using this
   have hi2:items2[((i:Nat):Int).toNat]?=none:=by simp;omega
   rw[hi1,hi2]
   wp_walk using wpAny_loadPart' hl,wpAny_loadPart' hb
   show R (.ok (.ret (.bool (decide (items.size < items2.size))))) _;rw[y3] at h;rw[decide_eq_false (1:)];exact h
  | cons c u hj'=>
   have hlt2:i < items2.size:=by
    have:=congrArg List.length h2
    simp at this;omega
   have hi2:items2[((i:Nat):Int).toNat]?=some (.int c u):=by
    have:=congrArg List.head? h2
    simpa using this
   have d2:items2.toList.drop (i+1)=(items2.toList.drop i).tail:=by rw[List.tail_drop]
   rw[h2] at d2;have hc:((i:Int)+1)=((i+1:Nat):Int):=by push_cast;rfl
   wp_walk using wpAny_loadPart' hl,wpAny_loadPart' hb
   rw[Z0] at h;rw[hi1,hi2];obtain⟨e,he,hiff⟩:=qcM A.in1 ⟨hp,g,d,tk,os⟩ a t c u;refine wpAny_bind (he prog w _ _ ?_)
   cases e with
   |true=>
    rw[if_pos (hiff.mp rfl)] at h
    wp_walk
    rw[hc]
    exact⟨plainId_quiet plain_eq_loop _,codeAny_builtin entry_eq_loop (by rw[Around.under_plainId plain_eq_loop _];exact ih _ _ _ (i+1) d1 d2 hlt hlt2 hi' hj' prog w A R _ ⟨hl,hb,h⟩)⟩
   |false=>
    rw[if_neg (λq=>absurd (hiff.mpr q) Bool.false_ne_true)] at h;have hri:=qcN A.in1 ⟨hp,g,d,tk,os⟩ a t c u prog w
    wp_walk using wpAny_loadPart' hl,wpAny_loadPart' hb
    rw[hi1,hi2]
    wp_walk using hri
    exact h
theorem YC(l b:Addr)(items items2:Array Value)(n n2:Nat)(dd dd2:Option Addr)(sl sl2:Array (Option Value))(ns ms:List Int)(hi:IntsAre items.toList ns)(hj:IntsAre items2.toList ms) :
  Meets (Builtin.«list.__lt__» ⟨[.ref l,.ref b],[]⟩)
   (λ_ R s=>s.heap.get? l=some { cls:=.type "list",dict:=dd,data:=.seq items n,slots:=sl }/\s.heap.get? b=some { cls:=.type "list",dict:=dd2,data:=.seq items2 n2,slots:=sl2 }/\
    R (.ok (.ret (.bool (ju ns ms)))) s):=by
 intro prog w A R s h;obtain⟨hp,g,d,tk,os⟩:=s;obtain⟨hl,hb,h⟩:=h;have f3:=AutoSeq1.sub_list_list
 wp_walk using wpAny_loadPart' hl,wpAny_loadPart' hb
 exact⟨plainId_quiet plain_eq_loop _,codeAny_builtin entry_eq_loop (by rw[Around.under_plainId plain_eq_loop _];exact qfF l b items items2 n n2 dd dd2 sl sl2 _ _ ns ms 0 rfl rfl (Nat.zero_le _) (Nat.zero_le _) hi hj prog w A R _ ⟨hl,hb,h⟩)⟩
end
section
variable{prog:Program}{w:World}{A:Around}{E:PQ}{s:Shared}
theorem Qw{l b:Addr}{items items2:Array Value}{ns ms:List Int}{Q:PQ}(hl:PySem.PlainL s.heap l items)(hb:PySem.PlainL s.heap b items2)(hi:IntsAre items.toList ns)(hj:IntsAre items2.toList ms)
  (hu:A.units < cLine) (h:Q (.bool (ju ns ms)) s):wpAny (model prog w) A (compareOp .Lt (.ref l) (.ref b)) Q E s:=by
 obtain⟨⟨cls,dd,data,sl⟩,n,ho,hc,hx,hd⟩:=id hl;obtain⟨⟨cls2,dd2,data2,sl2⟩,n2,ho2,hc2,hx2,hd2⟩:=id hb;simp only at hc hd hc2 hd2;subst hc hd hc2 hd2
 exact richCompare_meets_room (op:=.Lt) ⟨_,ho,rfl⟩ ⟨_,ho2,rfl⟩ PySem.F.slot_list_lt PySem.F.entry_list_lt (PySem.F.args_list_lt_2 _ _) (YC l b items items2 _ _ dd dd2 sl sl2 ns ms hi hj)
  ⟨ho,ho2,show Value.bool (ju ns ms)≠Value.notImplemented/\Q (.bool (ju ns ms)) s from⟨(λx=>nomatch x),h⟩⟩ hu
end
end HT
namespace L2
open PySem PyProof.Rows
section
variable{X:Cx}
theorem qhN(hu:X.A.units < cLine):OpR X (compareOp .Lt) (λx y H Q=>∃a b ns ms,x=.ref a/\y=.ref b/\SqL X.K H a (ns.map V.int)/\SqL X.K H b (ms.map V.int)/\Q (.bl (HT.ju ns ms)) H):=by intro pins s σ H x y v u Q I rx ry h;obtain⟨a,b,ns,ms,rfl,rfl,ha,hb,q⟩:=h;cases rx;cases ry;obtain⟨its,r1,p1,_⟩:=I.list ha;obtain⟨its2,r2,p2,_⟩:=I.list hb;exact HT.Qw p1 p2 (Jb r1) (Jb r2) hu ⟨.bl (HT.ju ns ms),H,I,rfl,q⟩
end
end L2
namespace DE
open PySem L2
section
variable{κ:KC}{K:Frag}{Gv Hv Hb Hc G H:Hp}{ρ:Env}{σ:St}{r s:Rv}{x y:V}
theorem RvR.int{i:Int}(h:RvR κ K Hv Hb G H ρ σ r x)(e:r.int?=some i):x=.int i:=by
 cases r with
 |val d=>cases d<;>simp only[Rv.int?] at e<;>first | (cases e;simpa only[RvR,Rep] using h) | cases e
 |_=>cases e
theorem RvR.str{i:Str}(h:RvR κ K Hv Hb G H ρ σ r x)(e:r.str?=some i):x=.str i:=by
 cases r with
 |val d=>cases d<;>simp only[Rv.str?] at e<;>first | (cases e;simpa only[RvR,Rep] using h) | cases e
 |_=>cases e
theorem RvR.bl{i:Bool}(h:RvR κ K Hv Hb G H ρ σ r x)(e:r.bl?=some i):x=.bl i:=by
 cases r with
 |val d=>cases d<;>simp only[Rv.bl?] at e<;>first | (cases e;simpa only[RvR,Rep] using h) | cases e
 |_=>cases e
theorem RvR.tup{l:List D}(h:RvR κ K Hv Hb G H ρ σ r x)(e:r.tup?=some l):∃a xs,x=.ref a/\G a=some (.tup xs)/\ql κ G l xs:=by
 cases r with
 |val d=>cases d<;>simp only[Rv.tup?] at e<;>first | (cases e;simpa only[RvR,Rep] using h) | cases e
 |_=>cases e
theorem RvR.seq(er:ER κ K Gv Hv G H ρ σ){l:List D}(h:RvR κ K Hv Hb G H ρ σ r x)(e:seqD r=some l):∃a xs,x=.ref a/\(SqL K H a xs\/SqT K H a xs)/\ql κ G l xs:=by
 unfold seqD at e
 cases q:r.tup? with
 | some l'=>rw[q] at e;cases e;obtain⟨a,xs,e1,e2,e3⟩:=h.tup q;exact⟨a,xs,e1,.inr (SqT.of (er.sub _ _ e2)),e3⟩
 |none=>rw[q] at e;obtain⟨a,xs,e1,e2,e3⟩:=h.list er e;exact⟨a,xs,e1,.inl e2,e3⟩
theorem RvR.non(h:RvR κ K Hv Hb G H ρ σ r x):decide (x=.non)=r.non?:=by
 cases r with
 |val d=>
  cases d<;>simp only[RvR,Rep] at h<;>simp only[Rv.non?]
  ·subst h;rfl
  ·subst h;rfl
  ·subst h;rfl
  ·subst h;rfl
  ·obtain⟨a,xs,rfl,_⟩:=h;rfl
  ·obtain⟨a,xs,rfl,_⟩:=h;rfl
  ·obtain⟨p,dx,C,xs,_,rfl,_⟩:=h;rfl
  ·obtain⟨p,od,xs,rfl,_⟩:=h;rfl
  ·obtain⟨p,xs,rfl,_⟩:=h;rfl
 |tmp l=>obtain⟨a,xs,rfl,_⟩:=h;rfl
 |cell l=>obtain⟨a,xs,rfl,_⟩:=h;rfl
 |scr l=>obtain⟨a,xs,rfl,_⟩:=h;rfl
mutual
theorem Rep.dv(sub:qo G H):∀{d:D} {v:V} {p:PyData},Rep κ G d v->toP d=some p->DV K H p v
 |.non,v,p,h,e=>by simp only[toP] at e;cases e;simp only[Rep] at h;simp only[DV];exact h
 |.bl b,v,p,h,e=>by simp only[toP] at e;cases e;simp only[Rep] at h;simp only[DV];exact h
 |.int b,v,p,h,e=>by simp only[toP] at e;cases e;simp only[Rep] at h;simp only[DV];exact h
 |.str b,v,p,h,e=>by simp only[toP] at e;cases e;simp only[Rep] at h;simp only[DV];exact h
 |.lst l,v,p,h,e=>by simp only[toP] at e;obtain⟨ps,e1,rfl⟩:=Option.map_eq_some_iff.mp e;simp only[Rep] at h;obtain⟨a,xs,rfl,h1,h2⟩:=h;simp only[DV];exact⟨a,xs,rfl,SqL.of (sub _ _ h1),ql.dvs sub h2 e1⟩
 |.tup l,v,p,h,e=>by simp only[toP] at e;obtain⟨ps,e1,rfl⟩:=Option.map_eq_some_iff.mp e;simp only[Rep] at h;obtain⟨a,xs,rfl,h1,h2⟩:=h;simp only[DV];exact⟨a,xs,rfl,SqT.of (sub _ _ h1),ql.dvs sub h2 e1⟩
 |.ins c ns l,v,p,h,e=>by simp only[toP] at e;cases e
 |.exc c ns l,v,p,h,e=>by simp only[toP] at e;cases e
 |.dct ns l,v,p,h,e=>by simp only[toP] at e;cases e
theorem ql.dvs(sub:qo G H):∀{ds:List D} {vs:List V} {ps:List PyData},ql κ G ds vs->qdd ds=some ps->DVs K H ps vs
 |[],vs,ps,h,e=>by simp only[qdd] at e;cases e;simp only[ql] at h;simp only[DVs];exact h
 | d::ds,vs,ps,h,e=>by simp only[qdd] at e;obtain⟨p,e1,e2⟩:=Option.bind_eq_some_iff.mp e;obtain⟨qs,e3,rfl⟩:=Option.map_eq_some_iff.mp e2;simp only[ql] at h;obtain⟨x,r,rfl,h1,h2⟩:=h;simp only[DVs];exact⟨x,r,rfl,Rep.dv sub h1 e1,ql.dvs sub h2 e3⟩
end
theorem RvR.dv(er:ER κ K Gv Hv G H ρ σ){p:PyData}(h:RvR κ K Hv Hb G H ρ σ r x)(e:toP r.data=some p):DV K H p x:=by
 have lst:∀{l:List D} {a:Addr} {xs:List V},SqL K H a xs->ql κ G l xs->toP (.lst l)=some p->DV K H p (.ref a):=λ{l a xs} hq hr e=>by simp only[toP] at e;obtain⟨ps,e1,rfl⟩:=Option.map_eq_some_iff.mp e;simp only[DV];exact⟨a,xs,rfl,hq,ql.dvs er.sub hr e1⟩
 cases r with
 |val d=>exact Rep.dv er.sub h e
 |tmp l=>obtain⟨a,xs,rfl,h1,_,_,_,_,h6⟩:=h;exact lst (SqL.of h1) h6 e
 |cell l=>obtain⟨a,xs,rfl,h1,h6⟩:=h;exact lst (SqL.of h1) h6 e
 |scr l=>obtain⟨a,xs,rfl,h1,h6⟩:=h;exact lst h1 h6 e
theorem Zl{d:D}{v:V}(h:Rep κ G d v)(f:y6 d=true):v=flV d/\yy v=true:=by
 cases d<;>simp only[y6] at f<;>try (exact absurd f (2:))
 all_goals (simp only[Rep] at h;subst h;exact⟨rfl,rfl⟩)
theorem YD:∀{l:List D} {vs:List V},ql κ G l vs->l.all y6=true->vs=l.map flV/\vs.all yy=true
 |[],vs,h,f=>by simp only[ql] at h;subst h;exact⟨rfl,rfl⟩
 | d::l,vs,h,f=>by simp only[ql] at h;obtain⟨x,r,rfl,h1,h2⟩:=h;simp only[List.all_cons,Bool.and_eq_true] at f;obtain⟨e1,e2⟩:=Zl h1 f.1;obtain⟨e3,e4⟩:=YD h2 f.2;subst e1 e3;exact⟨rfl,by simp only[List.all_cons,e2,e4,Bool.and_self]⟩
theorem qfG(h:RvR κ K Hv Hb G H ρ σ r x)(f:y6 r.data=true):x=flV r.data/\yy x=true:=by
 cases r with
 |val d=>exact Zl h f
 |_=>simp only[Rv.data,y6] at f;exact absurd f (2:)
theorem Qx{f:Int->Int->R Rv}{F:Rv->Prop}(h:Wk (int2 r s f) F):∃i j,r.int?=some i/\s.int?=some j/\Wk (f i j) F:=by
 unfold int2 at h
 cases e1:r.int? with
 |none=>rw[e1] at h;exact h.elim
 |some i=>
  cases e2:s.int? with
  |none=>rw[e1,e2] at h;exact h.elim
  |some j=>rw[e1,e2] at h;exact⟨i,j,rfl,rfl,h⟩
theorem qdh{l:List D}{xs:List V}{i:Int}{d:D}(h:ql κ G l xs)(e:atI l i=some d):∃v,atI xs i=some v/\Rep κ G d v:=by unfold atI at e ⊢;rw[<-h.len];obtain⟨j,e1,e2⟩:=Option.bind_eq_some_iff.mp e;obtain⟨v,e3,e4⟩:=h.atD e2;exact⟨v,by rw[e1];exact e3,e4⟩
theorem qdi{l:List D}{xs:List V}{lo hi:Option Int}(h:ql κ G l xs):ql κ G (qde l lo hi) (qgF xs lo hi):=by unfold qde qgF;rw[h.len];exact(h.drop _).take _
end
section
variable(κ:KC)(K:Frag)(Gv Hv:Hp)
noncomputable def qjK(op:Operator):R2:=λx y H Q=>∃(ρ:Env) (σ:St) (G Hb Hc:Hp) (r s:Rv),ER κ K Gv Hv G H ρ σ/\RvR κ K Hv Hb G H ρ σ r x/\RvR κ K Hv Hc G H ρ σ s y/\
 Wk (Qs op r s) λz=>∀v G' H',Po κ K Gv Hv σ G H ρ G' H' ρ->RvR κ K Hv H G' H' ρ σ z v->Q v H'
noncomputable def qjL(op:CmpOp):R2:=λx y H Q=>∃(ρ:Env) (σ:St) (G Hb Hc:Hp) (r s:Rv) (b:Bool),ER κ K Gv Hv G H ρ σ/\RvR κ K Hv Hb G H ρ σ r x/\RvR κ K Hv Hc G H ρ σ s y/\Jf op r s=some b/\Q (.bl b) H
noncomputable def qlZ:R2:=λx y H Q=>∃(ρ:Env) (σ:St) (G Hb Hc:Hp) (r s:Rv),ER κ K Gv Hv G H ρ σ/\RvR κ K Hv Hb G H ρ σ r x/\RvR κ K Hv Hc G H ρ σ s y/\
 Wk (idxD r s) λz=>∀v G' H',Po κ K Gv Hv σ G H ρ G' H' ρ->RvR κ K Hv H G' H' ρ σ z v->Q v H'
noncomputable def ql0:V->Option Int->Option Int->Hp->VK->Prop:=λx lo hi H Q=>∃(ρ:Env) (σ:St) (G Hb:Hp) (r:Rv),ER κ K Gv Hv G H ρ σ/\RvR κ K Hv Hb G H ρ σ r x/\
 Wk (sliceD r lo hi) λz=>∀v G' H',Po κ K Gv Hv σ G H ρ G' H' ρ->RvR κ K Hv H G' H' ρ σ z v->Q v H'
noncomputable def rC1(f:Rv->R Rv):List V->Hp->VK->Prop:=λxs H Q=>∃(ρ:Env) (σ:St) (G Hb:Hp) (r:Rv) (x:V),xs=[x]/\ER κ K Gv Hv G H ρ σ/\RvR κ K Hv Hb G H ρ σ r x/\
 Wk (f r) λz=>∀v G' H',Po κ K Gv Hv σ G H ρ G' H' ρ->RvR κ K Hv H G' H' ρ σ z v->Q v H'
noncomputable def rC2(f:Rv->Rv->R Rv):List V->Hp->VK->Prop:=λxs H Q=>∃(ρ:Env) (σ:St) (G Hb Hc:Hp) (r s:Rv) (x y:V),xs=[x,y]/\ER κ K Gv Hv G H ρ σ/\RvR κ K Hv Hb G H ρ σ r x/\RvR κ K Hv Hc G H ρ σ s y/\
 Wk (f r s) λz=>∀v G' H',Po κ K Gv Hv σ G H ρ G' H' ρ->RvR κ K Hv H G' H' ρ σ z v->Q v H'
end
section
variable{κ:KC}{K:Frag}{Gv Hv:Hp}{k:Nat}{X:Cx}{Γ:Ct}
theorem JM(op:Operator){f:Int->Int->R Rv}{C:Int->Int->Prop}{g:Int->Int->Int}(hop:OpR X (binaryOp op) (rI C λi j=>.int (g i j)))(hf:∀r s,Qs op r s=int2 r s f)(hw:∀i j F,Wk (f i j) F->C i j/\F (.val (.int (g i j)))) :
  OpR X (binaryOp op) (qjK κ K Gv Hv op):=by
 rintro pins st σ' H x y v u Q I rx ry ⟨ρ,σ,G,Hb,Hc,r,s,er,h1,h2,h⟩;rw[hf] at h;obtain⟨i,j,e1,e2,h⟩:=Qx h;obtain⟨hc,h⟩:=hw i j _ h;exact hop pins st σ' H x y v u Q I rx ry ⟨i,j,h1.int e1,h2.int e2,hc,h _ G H (Po.refl er) (by simp only[RvR,Rep])⟩
theorem qkr{f:Value->Value->Sem Value}{g:Int->Int->V}(h:OpR X f (rI0 g)):OpR X f (rI (λ_ _=>True) g):=λpins st σ' H x y v u Q I rx ry ⟨i,j,e1,e2,_,q⟩=>h pins st σ' H x y v u Q I rx ry ⟨i,j,e1,e2,q⟩
theorem qhO:OpR X (binaryOp .Add) (qjK κ K Gv Hv .Add):=by
 rintro pins st σ' H x y v u Q I rx ry ⟨ρ,σ,G,Hb,Hc,r,s,er,h1,h2,h⟩;have h:Wk (qkk r s) _:=h;unfold qkk at h
 have cat:Wk (match r.plain?,s.plain? with
   |some l,some m=>if l.length+m.length<=sizeLine then R.ok (Rv.tmp (l++m)) else .no
   |_,_=>.no) (λz=>∀v G' H',Po κ K Gv Hv σ G H ρ G' H' ρ->RvR κ K Hv H G' H' ρ σ z v->Q v H')->wpAny (model X.prog X.w) X.A (binaryOp .Add v u) (EP X pins σ' Q) X.xe st:=λh=>by
  cases e1:r.plain? with
  |none=>rw[e1] at h;exact h.elim
  |some l=>
   cases e2:s.plain? with
   |none=>rw[e1,e2] at h;exact h.elim
   |some m=>rw[e1,e2] at h;obtain⟨hz,h⟩:=Wk.iff h;obtain⟨a,xs,q1,q2,q3⟩:=h1.plain er e1;obtain⟨b,ys,p1,p2,p3⟩:=h2.plain er e2;refine qhj pins st σ' H x y v u Q I rx ry ⟨a,b,xs,ys,q1,p1,q2,p2,by rw[<-q3.len,<-p3.len];exact hz,λp hp=>?_⟩;obtain⟨z1,z2⟩:=er.newList hp (q3.app p3);exact h _ _ _ z1 z2
 have txt:Wk (match r.str?,s.str? with
   |some a,some b=>if a.length+b.length<=sizeLine then R.ok (Rv.val (.str (a++b))) else .no
   |_,_=>match r.plain?,s.plain? with
    |some l,some m=>if l.length+m.length<=sizeLine then R.ok (Rv.tmp (l++m)) else .no
    |_,_=>.no) (λz=>∀v G' H',Po κ K Gv Hv σ G H ρ G' H' ρ->RvR κ K Hv H G' H' ρ σ z v->Q v H')->wpAny (model X.prog X.w) X.A (binaryOp .Add v u) (EP X pins σ' Q) X.xe st:=λh=>by
  cases e1:r.str? with
  |none=>rw[e1] at h;exact cat h
  |some l=>
   cases e2:s.str? with
   |none=>rw[e1,e2] at h;exact cat h
   |some m=>rw[e1,e2] at h;obtain⟨hz,h⟩:=Wk.iff h;exact ZV pins st σ' H x y v u Q I rx ry ⟨l,m,h1.str e1,h2.str e2,hz,h _ G H (Po.refl er) (by simp only[RvR,Rep])⟩
 cases e1:r.int? with
 |none=>rw[e1] at h;exact txt h
 |some i=>
  cases e2:s.int? with
  |none=>rw[e1,e2] at h;exact txt h
  |some j=>rw[e1,e2] at h;exact qg1 pins st σ' H x y v u Q I rx ry ⟨i,j,h1.int e1,h2.int e2,h _ G H (Po.refl er) (by simp only[RvR,Rep])⟩
theorem qfH{i j:Int}(h:qab i j=true):qjD i j:=by unfold qab at h;simp only[Bool.or_eq_true,Bool.and_eq_true,decide_eq_true_eq] at h;exact h
theorem ql.rep{G:Hp}{ds:List D}{vs:List V}(h:ql κ G ds vs):∀n:Nat,ql κ G (List.replicate n ds).flatten (List.replicate n vs).flatten
 |0=>.nil
 | n+1=>h.app (ql.rep h n)
theorem qhP:OpR X (binaryOp .Mult) (qjK κ K Gv Hv .Mult):=by
 rintro pins st σ' H x y v u Q I rx ry ⟨ρ,σ,G,Hb,Hc,r,s,er,h1,h2,h⟩;have h:Wk (qkl r s) _:=h;unfold qkl at h
 cases e2:s.int? with
 |none=>cases e1:r.int?<;>rw[e1,e2] at h<;>exact h.elim
 |some j=>
  cases e1:r.int? with
  |some i=>rw[e1,e2] at h;obtain⟨hm,h⟩:=Wk.iff h;exact qg3 pins st σ' H x y v u Q I rx ry ⟨i,j,h1.int e1,h2.int e2,qfH hm,h _ G H (Po.refl er) (by simp only[RvR,Rep])⟩
  |none=>
   rw[e1,e2] at h;dsimp only at h
   cases e3:r.plain? with
   |none=>rw[e3] at h;exact h.elim
   |some l=>rw[e3] at h;obtain⟨hz,h⟩:=Wk.iff h;obtain⟨a,xs,q1,q2,q3⟩:=h1.plain er e3;refine qhk pins st σ' H x y v u Q I rx ry ⟨a,j,xs,q1,h2.int e2,q2,by omega,by omega,by rw[<-q3.len];exact hz.2,λp hp=>?_⟩;obtain⟨z1,z2⟩:=er.newList hp (q3.rep _);exact h _ _ _ z1 z2
theorem qhQ(op:Operator):OpR X (binaryOp op) (qjK κ K Gv Hv op):=by
 cases op with
 |Add=>exact qhO
 |Sub=>exact JM .Sub (qkr qg2) (λ_ _=>rfl) λi j F h=>⟨trivial,h⟩
 |Mult=>exact qhP
 |FloorDiv=>exact JM .FloorDiv qeR (λ_ _=>rfl) λi j F h=>⟨(Wk.iff h).1,(Wk.iff h).2⟩
 |Mod=>exact JM .Mod qg4 (λ_ _=>rfl) λi j F h=>⟨(Wk.iff h).1,(Wk.iff h).2⟩
 |Pow=>exact JM .Pow qg5 (λ_ _=>rfl) λi j F h=>⟨(Wk.iff h).1,(Wk.iff h).2⟩
 |_=>exactλ_ _ _ _ _ _ _ _ _ _ _ _ h=>Exists.elim h λ_ h=>Exists.elim h λ_ h=>Exists.elim h λ_ h=>Exists.elim h λ_ h=>Exists.elim h λ_ h=>Exists.elim h λ_ h=>Exists.elim h λ_ h=>h.2.2.2.elim
theorem Qy(op:CmpOp){g:Int->Int->Bool}(hop:OpR X (compareOp op) (rI0 λi j=>.bl (g i j)))(hf:∀r s,Jf op r s=qem r s g):OpR X (compareOp op) (qjL κ K Gv Hv op):=by
 rintro pins st σ' H x y v u Q I rx ry ⟨ρ,σ,G,Hb,Hc,r,s,b,er,h1,h2,h,q⟩;rw[hf] at h;unfold qem at h
 cases e1:r.int? with
 |none=>rw[e1] at h;cases h
 |some i=>
  cases e2:s.int? with
  |none=>rw[e1,e2] at h;cases h
  |some j=>rw[e1,e2] at h;cases h;exact hop pins st σ' H x y v u Q I rx ry ⟨i,j,h1.int e1,h2.int e2,q⟩
theorem qep{x y:D}{b:Bool}(h:eqD x y=some b):∃p q,toP x=some p/\toP y=some q/\SeqAt.shaped p=true/\SeqAt.shaped q=true/\b=PyData.eqv p q:=by
 unfold eqD at h
 cases e1:toP x with
 |none=>rw[e1] at h;cases h
 |some p=>
  cases e2:toP y with
  |none=>rw[e1,e2] at h;cases h
  |some q=>
   rw[e1,e2] at h;dsimp only at h
   by_cases hs:(SeqAt.shaped p&&SeqAt.shaped q)=true
   ·rw[if_pos hs] at h;cases h;rw[Bool.and_eq_true] at hs;exact⟨p,q,rfl,rfl,hs.1,hs.2,rfl⟩
   ·rw[if_neg hs] at h;cases h
theorem qeq(gd:Gd κ K k X Γ)(neg:Bool)(op:CmpOp)(hs:OpR X (compareOp op) (λx y H Q=>∃i j,x=.str i/\y=.str j/\Q (.bl (if neg then !qcr i j else qcr i j)) H))(hl:OpR X (compareOp op) (rIn X.K neg))
  (hf:∀r s,Jf op r s=(qcs r s).map λb=>if neg then !b else b):OpR X (compareOp op) (qjL κ K Gv Hv op):=by
 rintro pins st σ' H x y v u Q I rx ry ⟨ρ,σ,G,Hb,Hc,r,s,b,er,h1,h2,h,q⟩;rw[hf] at h;obtain⟨b',hb',rfl⟩:=Option.map_eq_some_iff.mp h
 replace h:=hb'
 unfold qcs at h
 have sq:(seqD s).bind (inD r.data)=some b'->wpAny (model X.prog X.w) X.A (compareOp op v u) (EP X pins σ' Q) X.xe st:=λh=>by
  obtain⟨l,e1,e2⟩:=Option.bind_eq_some_iff.mp h;unfold inD at e2
  by_cases hc:(y6 r.data&&l.all y6)=true
  ·rw[if_pos hc] at e2;cases e2;rw[Bool.and_eq_true] at hc;obtain⟨a,xs,p1,p2,p3⟩:=h2.seq er e1;obtain⟨f1,f2⟩:=qfG h1 hc.1;obtain⟨f3,f4⟩:=YD p3 hc.2;refine hl pins st σ' H x y v u Q I rx ry ⟨a,xs,p1,by rw[gd.hK];exact p2,f2,f4,?_⟩;rw[f1,f3];exact q
  ·rw[if_neg hc] at e2;cases e2
 cases e1:r.str? with
 |none=>rw[e1] at h;exact sq h
 |some i=>
  cases e2:s.str? with
  |none=>rw[e1,e2] at h;exact sq h
  |some j=>rw[e1,e2] at h;cases h;exact hs pins st σ' H x y v u Q I rx ry ⟨i,j,h1.str e1,h2.str e2,q⟩
theorem JN{G:Hp}:∀{l:List D} {xs:List V} {ns:List Int},ql κ G l xs->JG l=some ns->xs=ns.map V.int
 |[],xs,ns,r,h=>by simp only[ql] at r;subst r;cases h;rfl
 | d::l,xs,ns,r,h=>by
  simp only[ql] at r;obtain⟨x,us,rfl,r1,r2⟩:=r
  cases d with
  |int i=>unfold JG at h;obtain⟨ms,e1,rfl⟩:=Option.map_eq_some_iff.mp h;simp only[Rep] at r1;rw[r1,JN r2 e1];rfl
  |_=>cases h
theorem qks(gd:Gd κ K k X Γ)(hu:X.A.units < cLine):OpR X (compareOp .Lt) (qjL κ K Gv Hv .Lt):=by
 rintro pins st σ' H x y v u Q I rx ry ⟨ρ,σ,G,Hb,Hc,r,s,b,er,h1,h2,h,q⟩;have h:ltD r s=some b:=h
 have I0:qem r s (λi j=>decide (i < j))=some b->wpAny (model X.prog X.w) X.A (compareOp .Lt v u) (EP X pins σ' Q) X.xe st:=λh=>by
  unfold qem at h
  cases e1:r.int? with
  |none=>rw[e1] at h;cases h
  |some i=>
   cases e2:s.int? with
   |none=>rw[e1,e2] at h;cases h
   |some j=>rw[e1,e2] at h;cases h;exact qj4 pins st σ' H x y v u Q I rx ry ⟨i,j,h1.int e1,h2.int e2,q⟩
 unfold ltD at h
 cases e1:r.plain? with
 |none=>rw[e1] at h;exact I0 h
 |some l=>
  cases e2:s.plain? with
  |none=>rw[e1,e2] at h;exact I0 h
  |some m=>
   rw[e1,e2] at h;dsimp only at h
   cases f1:JG l with
   |none=>rw[f1] at h;cases h
   |some ns=>
    cases f2:JG m with
    |none=>rw[f1,f2] at h;cases h
    |some ms=>rw[f1,f2] at h;cases h;obtain⟨a,xs,p1,p2,p3⟩:=h1.plain er e1;obtain⟨a',ys,q1,q2,q3⟩:=h2.plain er e2;rw[JN p3 f1] at p2;rw[JN q3 f2] at q2;exact qhN hu pins st σ' H x y v u Q I rx ry ⟨a,a',ns,ms,p1,q1,SqL.of p2,SqL.of q2,q⟩
theorem Zm(gd:Gd κ K k X Γ)(op:CmpOp):OpR X (compareOp op) (qjL κ K Gv Hv op):=by
 have hu:X.A.units+64 < cLine:=by have:=gd.room.un;omega
 cases op with
 |Eq=>rintro pins st σ' H x y v u Q I rx ry ⟨ρ,σ,G,Hb,Hc,r,s,b,er,h1,h2,h,q⟩;obtain⟨p,p',e1,e2,e3,e4,rfl⟩:=qep h;exact qhn hu pins st σ' H x y v u Q I rx ry ⟨p,p',by rw[gd.hK];exact h1.dv er e1,by rw[gd.hK];exact h2.dv er e2,e3,e4,q⟩
 |NotEq=>rintro pins st σ' H x y v u Q I rx ry ⟨ρ,σ,G,Hb,Hc,r,s,b,er,h1,h2,h,q⟩;obtain⟨b',h',rfl⟩:=Option.map_eq_some_iff.mp h;obtain⟨p,p',e1,e2,e3,e4,rfl⟩:=qep h';exact qho hu pins st σ' H x y v u Q I rx ry ⟨p,p',by rw[gd.hK];exact h1.dv er e1,by rw[gd.hK];exact h2.dv er e2,e3,e4,q⟩
 |Lt=>exact qks gd (1:)
 |LtE=>exact Qy .LtE qj5 λ_ _=>rfl
 |Gt=>exact Qy .Gt qj6 λ_ _=>rfl
 |GtE=>exact Qy .GtE qj7 λ_ _=>rfl
 |Is=>
  rintro pins st σ' H x y v u Q I rx ry ⟨ρ,σ,G,Hb,Hc,r,s,b,er,h1,h2,h,q⟩;have h:(if s.non?=true then some r.non? else none)=some b:=h
  by_cases hn:s.non?=true
  ·rw[if_pos hn] at h;cases h;refine qg6 pins st σ' H x y v u Q I rx ry ⟨of_decide_eq_true (h2.non.trans hn),?_⟩;rw[h1.non];exact q
  ·rw[if_neg hn] at h;cases h
 |IsNot=>
  rintro pins st σ' H x y v u Q I rx ry ⟨ρ,σ,G,Hb,Hc,r,s,b,er,h1,h2,h,q⟩;have h:(if s.non?=true then some (!r.non?) else none)=some b:=h
  by_cases hn:s.non?=true
  ·rw[if_pos hn] at h;cases h;refine qeS pins st σ' H x y v u Q I rx ry ⟨of_decide_eq_true (h2.non.trans hn),?_⟩;rw[h1.non];exact q
  ·rw[if_neg hn] at h;cases h
 |In=>exact qeq gd false .In qaJ qaT λr s=>by show qcs r s=_;cases qcs r s<;>rfl
 |NotIn=>exact qeq gd true .NotIn J5 Yh λr s=>rfl
theorem yi{G:Hp}{x:Str}{d:D}:∀{ns:List Str} {ds:List D} {xs:List V},ql κ G ds xs->(ns.zip ds).lookup x=some d->∃v,(ns.zip xs).lookup x=some v/\Rep κ G d v
 |[],_,_,_,h=>by simp at h
 | n::ns,[],_,_,h=>by simp at h
 | n::ns,e::ds,xs,r,h=>by
  simp only[ql] at r;obtain⟨v,us,rfl,r1,r2⟩:=r;rw[List.zip_cons_cons,List.lookup_cons] at h
  cases hx:(x == n) with
  |true=>rw[hx] at h;cases h;exact⟨v,by rw[List.zip_cons_cons,List.lookup_cons,hx],r1⟩
  |false=>rw[hx] at h;obtain⟨u,z1,z2⟩:=yi r2 h;exact⟨u,by rw[List.zip_cons_cons,List.lookup_cons,hx];exact z1,z2⟩
theorem Zn(k:Str):∀(ks:List Str) (xs:List V),Yt (kvX ks xs) (.inr k)=(ks.zip xs).lookup k
 |[],xs=>rfl
 | a::ks,[]=>rfl
 | a::ks,x::xs=>by
  have ih:=Zn k ks xs;show Yt ((Sum.inr a,x)::kvX ks xs) (.inr k)=((a,x)::ks.zip xs).lookup k;rw[List.lookup_cons]
  by_cases e:a=k
  ·subst e;rw[jy rfl,beq_self_eq_true]
  ·rw[jz (λz=>e (by cases z;rfl)),show(k == a)=false by simpa using λz=>e z.symm];exact ih
theorem qhR(gd:Gd κ K k X Γ):IxR X (qlZ κ K Gv Hv):=by
 rintro value slice pins st σ' H x y v u Q I rx ry ⟨ρ,σ,G,Hb,Hc,r,s,er,h1,h2,h⟩ hs;unfold idxD at h
 cases e1:s.int? with
 |none=>
  rw[e1] at h
  replace h:Wk (qjG r s) _:=h
  unfold qjG at h
  split at h
  case h_2=>exact h.elim
  rename_i ks l kk;obtain⟨d,e2,h⟩:=Wk.of (Wk.th h);simp only[RvR,Rep] at h1 h2;obtain⟨p,xs,rfl,g1,hl,g2⟩:=h1;subst h2;obtain⟨w,q1,q2⟩:=yi g2 e2;have hu:X.A.units+1 < cLine:=by have:=gd.room.un;omega
  refine qfx hu value slice pins st σ' H _ _ v u Q I rx ry ⟨p,w,rfl,?_,h w G H (Po.refl er) q2⟩ hs
  have:=qcY.k (k:=.inr kk) (er.sub _ _ g1)
  rw[Zn,q1] at this;exact this
 |some i=>
  rw[e1] at h;dsimp only at h
  cases e2:r.str? with
  |some z=>
   rw[e2] at h;dsimp only at h;obtain⟨hz,h⟩:=Wk.iff h
   cases e3:atI z.cps.toList i with
   |none=>rw[e3] at h;exact h.elim
   |some c=>rw[e3] at h;exact qhf value slice pins st σ' H x y v u Q I rx ry ⟨z,i,c,h1.str e2,h2.int e1,hz,e3,h _ G H (Po.refl er) (by simp only[RvR,Rep])⟩ hs
  |none=>
   rw[e2] at h;dsimp only at h
   cases e3:seqD r with
   |none=>rw[e3] at h;exact h.elim
   |some l=>
    rw[e3] at h;dsimp only at h
    cases e4:atI l i with
    |none=>rw[e4] at h;exact h.elim
    |some d=>
     rw[e4] at h;obtain⟨a,xs,p1,p2,p3⟩:=h1.seq er e3;obtain⟨w,p4,p5⟩:=qdh p3 e4;rcases p2 with p2 | p2
     ·exact qe2 value slice pins st σ' H x y v u Q I rx ry ⟨a,xs,i,w,p1,h2.int e1,by rw[gd.hK];exact p2,p4,h w G H (Po.refl er) p5⟩ hs
     ·exact qhe value slice pins st σ' H x y v u Q I rx ry ⟨a,xs,i,w,p1,h2.int e1,by rw[gd.hK];exact p2,p4,h w G H (Po.refl er) p5⟩ hs
theorem qhS(gd:Gd κ K k X Γ):L2.SlR X (ql0 κ K Gv Hv):=by
 rintro pins st σ' H x v vl vu lo hi sl Q I rx hs pl pu ⟨ρ,σ,G,Hb,r,er,h1,h⟩;unfold sliceD at h
 cases e2:r.str? with
 |some z=>rw[e2] at h;dsimp only at h;obtain⟨hz,h⟩:=Wk.iff h;exact qhw pins st σ' H x v vl vu lo hi sl Q I rx hs pl pu ⟨z,h1.str e2,hz,h _ G H (Po.refl er) (by simp only[RvR,Rep])⟩
 |none=>rw[e2] at h;dsimp only at h;obtain⟨l,e1,h⟩:=Wk.of (Wk.th h);obtain⟨a,xs,p1,p2,p3⟩:=h1.list er e1;refine qe3 pins st σ' H x v vl vu lo hi sl Q I rx hs pl pu ⟨a,xs,p1,by rw[gd.hK];exact p2,λp hp=>?_⟩;obtain⟨z1,z2⟩:=er.newList hp (qdi (lo:=lo) (hi:=hi) p3);exact h _ _ _ z1 z2
theorem qhT(gd:Gd κ K k X Γ):qH X (.builtin "len") (rC1 κ K Gv Hv lenD):=by
 rintro pins st σ' H xs us Q I rs ⟨ρ,σ,G,Hb,r,x,hx,er,h1,h⟩;unfold lenD at h
 cases e2:r.str? with
 |some z=>rw[e2] at h;dsimp only at h;obtain⟨hz,h⟩:=Wk.iff h;exact Yj pins st σ' H xs us Q I rs ⟨z,by rw[hx,h1.str e2],hz,h _ G H (Po.refl er) (by simp only[RvR,Rep])⟩
 |none=>
  rw[e2] at h;dsimp only at h
  cases e3:seqD r with
  |none=>rw[e3] at h;exact h.elim
  |some l=>rw[e3] at h;obtain⟨a,ys,p1,p2,p3⟩:=h1.seq er e3;refine Yi pins st σ' H xs us Q I rs ⟨a,ys,by rw[hx,p1],by rw[gd.hK];exact p2,?_⟩;rw[<-p3.len];exact h _ G H (Po.refl er) (by simp only[RvR,Rep])
theorem qfI(gd:Gd κ K k X Γ):qH X (.type "list") (rC1 κ K Gv Hv listD):=by
 rintro pins st σ' H xs us Q I rs ⟨ρ,σ,G,Hb,r,x,hx,er,h1,h⟩;unfold listD at h
 cases e3:seqD r with
 |none=>rw[e3] at h;exact h.elim
 |some l=>rw[e3] at h;obtain⟨a,ys,p1,p2,p3⟩:=h1.seq er e3;refine Yk pins st σ' H xs us Q I rs ⟨a,ys,by rw[hx,p1],by rw[gd.hK];exact p2,λp hp=>?_⟩;obtain⟨z1,z2⟩:=er.newList hp p3;exact h _ _ _ z1 z2
theorem qaf(a b c:Int×Int)(h1:qad a b=true)(h2:qad b c=true):qad a c=true:=by simp only[qad,Bool.or_eq_true,Bool.and_eq_true,decide_eq_true_eq] at *;omega
theorem qag(a b:Int×Int):(qad a b||qad b a)=true:=by simp only[qad,Bool.or_eq_true,Bool.and_eq_true,decide_eq_true_eq] at *;omega
theorem qdj{ps qs:List (Int×Int)}(p:qs.Perm ps)(s:qs.Pairwise qa1):qbt ps=qs:=by
 have s1:(qbt ps).Pairwise λa b=>qad a b=true:=List.pairwise_mergeSort qaf qag ps
 have s2:qs.Pairwise λa b=>qad a b=true:=s.imp λ{a b} h=>by simp only[qad,Bool.or_eq_true,Bool.and_eq_true,decide_eq_true_eq];exact h
 refine List.Perm.eq_of_pairwise (λa b _ _ h1 h2=>?_) s1 s2 ((List.mergeSort_perm ps qad).trans p.symm);simp only[qad,Bool.or_eq_true,Bool.and_eq_true,decide_eq_true_eq] at h1 h2;exact Prod.ext (1:) (1:)
theorem Zo{G:Hp}:∀{l:List D} {xs:List V} {ps:List (Int×Int)},ql κ G l xs->qgG l=some ps->Paired (λx (p:Int×Int)=>∃a,x=V.ref a/\G a=some (.tup [.int p.1,.int p.2])) xs ps
 |[],xs,ps,r,h=>by simp only[ql] at r;subst r;cases h;exact .nil
 | d::l,xs,ps,r,h=>by
  simp only[ql] at r;obtain⟨x,us,rfl,r1,r2⟩:=r;unfold qgG at h
  cases e1:prD d with
  |none=>rw[e1] at h;cases h
  |some p=>
   cases e2:qgG l with
   |none=>rw[e1,e2] at h;cases h
   |some qs=>
    rw[e1,e2] at h;cases h;refine .cons ?_ (Zo r2 e2);unfold prD at e1
    split at e1
    ·cases e1;simp only[Rep,ql] at r1;obtain⟨a,ys,rfl,h1,x1,z1,rfl,rfl,x2,z2,rfl,rfl,rfl⟩:=r1;exact⟨a,rfl,h1⟩
    ·cases e1
theorem Paired.memL{α β:Type}{R:α->β->Prop}:∀{l:List α} {m:List β},Paired R l m->∀a∈l,∃b,R a b
 |_,_,.nil,a,h=>by cases h
 |_,_,.cons r rs,a,h=>by
  cases h with
  |head=>exact⟨_,r⟩
  |tail _ h=>exact Paired.memL rs a h
theorem qah{G H:Hp}(sub:qo G H){xs:List V}(f:∀x∈xs,∃p:Int×Int,∃a,x=V.ref a/\G a=some (.tup [.int p.1,.int p.2])){ys:List V}{qs:List (Int×Int)}(hm:∀y∈ys,y∈xs)(h:Paired (P2 K H) ys qs):ql κ G (qs.map pD) ys:=by
 induction h with
 |nil=>exact .nil
 |cons r rs ih=>refine .cons ?_ (ih λz hz=>hm z (List.mem_cons_of_mem _ hz));obtain⟨p,a,rfl,ga⟩:=f _ (hm _ (List.mem_cons_self ..));obtain⟨b,eb,hb⟩:=r;cases eb;rw[sub _ _ ga] at hb;rw[hb] at ga;simp only[pD,Rep,ql];exact⟨a,_,rfl,ga,_,_,rfl,rfl,_,_,rfl,rfl,rfl⟩
theorem qbB(gd:Gd κ K k X Γ):qH X (.builtin "sorted") (rC1 κ K Gv Hv Qt):=by
 rintro pins st σ' H xs us Q I rs ⟨ρ,σ,G,Hb,r,x,hx,er,h1,h⟩;unfold Qt at h
 cases e3:r.list? with
 |none=>rw[e3] at h;exact h.elim
 |some l=>
  rw[e3] at h;dsimp only at h
  cases e4:qgG l with
  |none=>rw[e4] at h;exact h.elim
  |some ps=>
   rw[e4] at h;dsimp only at h;obtain⟨h64,h⟩:=Wk.iff h;obtain⟨a,ys,p1,p2,p3⟩:=h1.list er e3;have pr:=Zo p3 e4
   have hlen:ys.length < 64:=by
    have:∀{xs:List V} {ps:List (Int×Int)} {R:V->Int×Int->Prop},Paired R xs ps->xs.length=ps.length:=by
     intro xs ps R q
     induction q with
     |nil=>rfl
     |cons _ _ ih=>simp[ih]
    rw[this pr];exact h64
   have pr2:Paired (P2 X.K H) ys ps:=by
    have:∀{ys:List V} {ps:List (Int×Int)},Paired (λx (p:Int×Int)=>∃a,x=V.ref a/\G a=some (.tup [.int p.1,.int p.2])) ys ps->Paired (P2 X.K H) ys ps:=by
     intro ys ps q
     induction q with
     |nil=>exact .nil
     |cons r rs ih=>obtain⟨a,e,ga⟩:=r;exact .cons ⟨a,e,er.sub _ _ ga⟩ ih
    exact this pr
   refine JE pins st σ' H xs us Q I rs ⟨a,ys,ps,by rw[hx,p1],by rw[gd.hK];exact p2,hlen,pr2,λp zs qs hp z1 z2 z3 z4=>?_⟩;have e5:qbt ps=qs:=qdj z3 z4
   have rr:ql κ G ((qbt ps).map pD) zs:=by rw[e5];refine qah (K:=X.K) er.sub (λx hx=>?_) (λy hy=>z2.mem_iff.mp hy) z1;obtain⟨p,hp⟩:=Paired.memL pr x hx;exact⟨p,hp⟩
   obtain⟨w1,w2⟩:=er.newList hp rr;exact h _ _ _ w1 w2
theorem qhU(gd:Gd κ K k X Γ):qH X (.builtin "sum") (rC1 κ K Gv Hv qkn):=by
 rintro pins st σ' H xs us Q I rs ⟨ρ,σ,G,Hb,r,x,hx,er,h1,h⟩;unfold qkn at h
 cases e3:r.list? with
 |none=>rw[e3] at h;exact h.elim
 |some l=>
  rw[e3] at h;dsimp only at h
  cases e4:JG l with
  |none=>rw[e4] at h;exact h.elim
  |some ns=>rw[e4] at h;obtain⟨a,ys,p1,p2,p3⟩:=h1.list er e3;rw[JN p3 e4] at p2;exact qa7 gd.calm pins st σ' H xs us Q I rs ⟨a,ns,by rw[hx,p1],by rw[gd.hK];exact p2,h _ G H (Po.refl er) (by simp only[RvR,Rep])⟩
theorem qer{G:Hp}:∀{l:List D} {xs:List V} {ns:List Bool},ql κ G l xs->qhJ l=some ns->xs=ns.map V.bl
 |[],xs,ns,r,h=>by simp only[ql] at r;subst r;cases h;rfl
 | d::l,xs,ns,r,h=>by
  simp only[ql] at r;obtain⟨x,us,rfl,r1,r2⟩:=r
  cases d with
  |bl i=>unfold qhJ at h;obtain⟨ms,e1,rfl⟩:=Option.map_eq_some_iff.mp h;simp only[Rep] at r1;rw[r1,qer r2 e1];rfl
  |_=>cases h
theorem qhV(gd:Gd κ K k X Γ):qH X (.builtin "all") (rC1 κ K Gv Hv qko):=by
 rintro pins st σ' H xs us Q I rs ⟨ρ,σ,G,Hb,r,x,hx,er,h1,h⟩;unfold qko at h
 cases e3:r.list? with
 |none=>rw[e3] at h;exact h.elim
 |some l=>
  rw[e3] at h;dsimp only at h
  cases e4:qhJ l with
  |none=>rw[e4] at h;exact h.elim
  |some ns=>rw[e4] at h;obtain⟨a,ys,p1,p2,p3⟩:=h1.list er e3;rw[qer p3 e4] at p2;exact qa5 gd.calm pins st σ' H xs us Q I rs ⟨a,ns,by rw[hx,p1],by rw[gd.hK];exact p2,h _ G H (Po.refl er) (by simp only[RvR,Rep])⟩
theorem qhW:qH X (.type "str") (rC1 κ K Gv Hv strD):=by
 rintro pins st σ' H xs us Q I rs ⟨ρ,σ,G,Hb,r,x,hx,er,h1,h⟩;unfold strD at h
 cases e3:r.int? with
 |none=>rw[e3] at h;exact h.elim
 |some i=>rw[e3] at h;obtain⟨hz,h⟩:=Wk.iff h;have e:=h1.int e3;subst e hx;obtain⟨u,rfl,rx⟩:=jb rs;obtain⟨t,rfl⟩:=rx;exact PySem.P.str_of_int hz ⟨.str _,H,I.tok _,⟨_,rfl⟩,h _ G H (Po.refl er) (by simp only[RvR,Rep])⟩
theorem qdk(gd:Gd κ K k X Γ):qH X (.type "tuple") (rC1 κ K Gv Hv tupD):=by
 rintro pins st σ' H xs us Q I rs ⟨ρ,σ,G,Hb,r,x,hx,er,h1,h⟩;unfold tupD at h
 cases e3:r.list? with
 |none=>rw[e3] at h;exact h.elim
 |some l=>rw[e3] at h;obtain⟨a,ys,p1,p2,p3⟩:=h1.list er e3;refine jw pins st σ' H xs us Q I rs ⟨a,ys,by rw[hx,p1],.inl ⟨by rw[gd.hK];exact p2,λp hp=>?_⟩⟩;have po:=Po.lay (o:=.tup ys) er hp;exact h _ _ _ po (by simp only[RvR,Rep];exact⟨p,ys,rfl,qg,p3.same po.gs⟩)
theorem Zp{G:Hp}:∀{l:List D} {xs:List V} {ps:List (Str×Int)},ql κ G l xs->qfz l=some ps->Paired (λx (p:Str×Int)=>∃a,x=V.ref a/\G a=some (.tup [.str p.1,.int p.2])) xs ps
 |[],xs,ps,r,h=>by simp only[ql] at r;subst r;cases h;exact .nil
 | d::l,xs,ps,r,h=>by
  simp only[ql] at r;obtain⟨x,us,rfl,r1,r2⟩:=r;unfold qfz at h
  cases e1:kvD d with
  |none=>rw[e1] at h;cases h
  |some p=>
   cases e2:qfz l with
   |none=>rw[e1,e2] at h;cases h
   |some qs=>
    rw[e1,e2] at h;cases h;refine .cons ?_ (Zp r2 e2);unfold kvD at e1
    split at e1
    ·cases e1;simp only[Rep,ql] at r1;obtain⟨a,ys,rfl,h1,x1,z1,rfl,rfl,x2,z2,rfl,rfl,rfl⟩:=r1;exact⟨a,rfl,h1⟩
    ·cases e1
theorem qdl{n:Int}{x y r:Rv}(h:qbu n x y=.ok r):∃l k kvs,x.list?=some l/\y.str?=some k/\qfz l=some kvs/\(kvs.map (·.1)).Nodup/\r=.val (.int ((qhK kvs k).getD n)):=by
 unfold qbu at h
 cases e1:x.list? with
 |none=>rw[e1] at h;cases h
 |some l=>
  cases e2:y.str? with
  |none=>rw[e1,e2] at h;cases h
  |some k=>
   rw[e1,e2] at h;dsimp only at h
   cases e3:qfz l with
   |none=>rw[e3] at h;cases h
   |some kvs=>
    rw[e3] at h;dsimp only at h
    split at h
    ·rename_i nd;cases h;exact⟨l,k,kvs,rfl,rfl,e3,nd,rfl⟩
    ·cases h
theorem qbC(k:Str):∀kvs:List (Str×Int),Yt (kvs.map kvV) (.inr k)=(qhK kvs k).map V.int
 |[]=>rfl
 | kv::l=>by
  have ih:=qbC k l;unfold qhK at ih ⊢
  by_cases e:kv.1=k
  ·rw[List.map_cons,jy (show(kvV kv).1=.inr k by rw[<-e];rfl),List.find?_cons,show decide (kv.1=k)=true from decide_eq_true e];rfl
  ·rw[List.map_cons,jz (show ¬ (kvV kv).1=.inr k fromλz=>e (by cases z;rfl)),List.find?_cons,show decide (kv.1=k)=false from decide_eq_false e];exact ih
theorem qhX:qH X (.type "int") (rC1 κ K Gv Hv intD):=by
 rintro pins st σ' H xs us Q I rs ⟨ρ,σ,G,Hb,r,x,hx,er,h1,h⟩;unfold intD at h
 cases e3:r.int? with
 |some i=>rw[e3] at h;exact J6 pins st σ' H xs us Q I rs (.inl ⟨i,by rw[hx,h1.int e3],h _ G H (Po.refl er) (by simp only[RvR,Rep])⟩)
 |none=>
  rw[e3] at h;dsimp only at h
  cases e4:r.bl? with
  |none=>
   rw[e4] at h
   replace h:Wk (qjH r) _:=h
   unfold qjH at h
   split at h
   case h_2=>exact h.elim
   rename_i z
   cases e5:PySem.intText? z with
   |none=>rw[e5] at h;exact h.elim
   |some n=>rw[e5] at h;obtain⟨hz,h⟩:=Wk.iff h;simp only[RvR,Rep] at h1;subst h1;exact JF pins st σ' H xs us Q I rs ⟨z,n,hx,e5,hz,h _ G H (Po.refl er) (by simp only[RvR,Rep])⟩
  |some b=>rw[e4] at h;exact J6 pins st σ' H xs us Q I rs (.inr ⟨b,by rw[hx,h1.bl e4],h _ G H (Po.refl er) (by simp only[RvR,Rep])⟩)
theorem qhY(gd:Gd κ K k X Γ):qH X (.builtin "max") (rC2 κ K Gv Hv maxD):=by rintro pins st σ' H xs us Q I rs ⟨ρ,σ,G,Hb,Hc,r,s,x,y,hx,er,h1,h2,h⟩;obtain⟨i,j,e1,e2,h⟩:=Qx h;exact qaL gd.calm pins st σ' H xs us Q I rs ⟨i,j,by rw[hx,h1.int e1,h2.int e2],h _ G H (Po.refl er) (by simp only[RvR,Rep])⟩
theorem qhZ(gd:Gd κ K k X Γ):qH X (.builtin "min") (rC2 κ K Gv Hv minD):=by rintro pins st σ' H xs us Q I rs ⟨ρ,σ,G,Hb,Hc,r,s,x,y,hx,er,h1,h2,h⟩;obtain⟨i,j,e1,e2,h⟩:=Qx h;exact qaM gd.calm pins st σ' H xs us Q I rs ⟨i,j,by rw[hx,h1.int e1,h2.int e2],h _ G H (Po.refl er) (by simp only[RvR,Rep])⟩
theorem qdm(gd:Gd κ K k X Γ){G H Hb:Hp}{ρ:Env}{σ:St}{r:Rv}{x:V}{b:Bool}(er:ER κ K Gv Hv G H ρ σ)(h:RvR κ K Hv Hb G H ρ σ r x)(e:truthD r=some b):qjE X.K x H b:=by
 have sq:∀{r:Rv},RvR κ K Hv Hb G H ρ σ r x->(seqD r).map (λl=>!l.isEmpty)=some b->qjE X.K x H b:=λ{r} h e=>by
  obtain⟨l,e1,rfl⟩:=Option.map_eq_some_iff.mp e;obtain⟨a,xs,rfl,p2,p3⟩:=h.seq er e1
  have hl:(!l.isEmpty) = !xs.isEmpty:=by
   have:=p3.len
   cases l<;>cases xs<;>simp_all
  rw[hl,gd.hK];rcases p2 with p2 | p2
  ·exact .inl ⟨xs,p2,rfl⟩
  ·exact .inr (.inl ⟨xs,p2,rfl⟩)
 cases r with
 |val d=>
  cases d with
  |non=>simp only[RvR,Rep] at h;subst h;simp only[truthD] at e;cases e;exact rfl
  |bl c=>simp only[RvR,Rep] at h;subst h;simp only[truthD] at e;cases e;exact rfl
  |int c=>simp only[RvR,Rep] at h;subst h;simp only[truthD] at e;cases e;exact rfl
  |str c=>
   simp only[RvR,Rep] at h;subst h;simp only[truthD] at e
   by_cases hz:c.length<=sizeLine
   ·rw[if_pos hz] at e;cases e;exact⟨hz,rfl⟩
   ·rw[if_neg hz] at e;cases e
  |lst l=>exact sq h e
  |tup l=>exact sq h e
  |ins c ns l=>exact sq h e
  |exc c ns l=>exact sq h e
  |dct ns l=>exact sq h e
 |tmp l=>exact sq h e
 |cell l=>exact sq h e
 |scr l=>exact sq h e
end
end DE
namespace DE
open PySem PySem.Spec PyProof.Rows L2
structure All(κ:KC)(K:Frag)(k:Nat)(X:Cx)(Γ:Ct)(m:Nat):Prop where
 r:∀Gv Hv e x,cE m Γ e=some x->PE X e (tR κ K Gv Hv (iR Γ.k x))
 e:∀Gv Hv e x,cX m Γ e=some x->PE X e (tE κ K Gv Hv (qZ x (iR Γ.k x)))
 t:∀Gv Hv e x,cT m Γ e=some x->PT X e (tT κ K Gv Hv (iT Γ.k x))
 es:∀Gv Hv e x,cEs m Γ e=some x->PA X e (tEs κ K Gv Hv (iEs Γ.k x))
 as:∀Gv Hv e x,cAs m Γ e=some x->PA X e (tAs κ K Gv Hv (iAs Γ.k x))
 o:∀Gv Hv e x,cO m Γ e=some x->PO X e (tO κ K Gv Hv (iO Γ.k x))
 f:∀Gv Hv e x,cF m Γ e=some x->PIf X e (tT κ K Gv Hv (iF Γ.k x))
 l:∀Gv Hv e x,cL m Γ e=some x->PE X e (tL κ K Gv Hv (jo x (iR Γ.k x)))
 i:∀Gv Hv tg e x,cI m Γ (qcv tg) e=some x->PI X tg e (tI κ K Gv Hv (iI Γ.k x))
section
variable{κ:KC}{K:Frag}{Gv Hv:Hp}{k m:Nat}{X:Cx}{Γ:Ct}{x:E}
theorem ql1:All κ K k X Γ 0:={ r:=(λ_ _ _ _ h=>nomatch h),e:=(λ_ _ _ _ h=>nomatch h),t:=(λ_ _ _ _ h=>nomatch h),es:=(λ_ _ _ _ h=>nomatch h),as:=(λ_ _ _ _ h=>nomatch h),o:=(λ_ _ _ _ h=>nomatch h),f:=(λ_ _ _ _ h=>nomatch h),l:=(λ_ _ _ _ h=>nomatch h),i:=(λ_ _ _ _ _ h=>nomatch h) }
theorem Zq(c:Const)(j:Nat)(pos:Pos)(h:qen c=some x):PE X (.Constant c j pos) (tR κ K Gv Hv (iR Γ.k x)):=by
 cases c with
 |none=>cases h;exact PE.imp qgQ λσ H Q ⟨ρ,G,er,h⟩=>h _ G H (Po.refl er) (by simp only[RvR,Rep])
 |bool b=>cases h;exact PE.imp qjR λσ H Q ⟨ρ,G,er,h⟩=>h _ G H (Po.refl er) (by simp only[RvR,Rep])
 |int b=>cases h;exact PE.imp y8 λσ H Q ⟨ρ,G,er,h⟩=>h _ G H (Po.refl er) (by simp only[RvR,Rep])
 |str b=>cases h;exact PE.imp qaD λσ H Q ⟨ρ,G,er,h⟩=>h _ G H (Po.refl er) (by simp only[RvR,Rep])
 |_=>cases h
theorem qdn(A:All κ K k X Γ m)(a b:Expr)(op:Operator)(pos:Pos)(h:cE (m+1) Γ (.BinOp a op b pos)=some x):PE X (.BinOp a op b pos) (tR κ K Gv Hv (iR Γ.k x)):=by obtain⟨a',b',h1,h2,rfl⟩:=qh h;refine PE.imp (qj3 (qhQ (κ:=κ) (K:=K) (Gv:=Gv) (Hv:=Hv) op) (A.r Gv Hv _ _ h1) (A.r Gv Hv _ _ h2)) λσ H Q hq1=>?_;obtain⟨ρ,G,er,h⟩:=hq1;refine⟨ρ,G,er,Wk.mono (Wk.th (x:=iR Γ.k a' ρ) h) λx h v G1 H1 p1 r1=>⟨x.2,G1,p1.er,Wk.mono (Wk.th (x:=iR Γ.k b' x.2) h) λy h w G2 H2 p2 r2=>?_⟩⟩;exact⟨y.2,σ,G2,H,H1,x.1,y.1,p2.er,r1.keep p2,r2,Wk.mono (Wk.th h) λz h u G3 H3 p3 r3=>h u G3 H3 (p1.trans (p2.trans p3)) (r3.back (p1.trans p2).hs)⟩
theorem qh0(A:All κ K k X Γ m)(a:Expr)(pos:Pos)(h:cE (m+1) Γ (.UnaryOp .USub a pos)=some x):PE X (.UnaryOp .USub a pos) (tR κ K Gv Hv (iR Γ.k x)):=by
 obtain⟨a',h1,rfl⟩:=map_some h;refine PE.imp (qg0 qea (A.r Gv Hv _ _ h1)) λσ H Q hq1=>?_;obtain⟨ρ,G,er,h⟩:=hq1;refine⟨ρ,G,er,Wk.mono (Wk.th (x:=iR Γ.k a' ρ) h) λx h v G1 H1 p1 r1=>?_⟩;obtain⟨rv,ρ1⟩:=x
 cases rv with
 |val d=>
  cases d with
  |int i=>exact⟨i,by simpa only[RvR,Rep] using r1,h _ G1 H1 p1 (by simp only[RvR,Rep])⟩
  |_=>exact False.elim h
 |_=>exact False.elim h
theorem qfJ(A:All κ K k X Γ m)(a:Expr)(pos:Pos)(h:cE (m+1) Γ (.UnaryOp .Not a pos)=some x):PE X (.UnaryOp .Not a pos) (tR κ K Gv Hv (iR Γ.k x)):=by
 obtain⟨a',h1,rfl⟩:=map_some h;refine PE.imp (qgU (A.r Gv Hv _ _ h1)) λσ H Q hq1=>?_;obtain⟨ρ,G,er,h⟩:=hq1;refine⟨ρ,G,er,Wk.mono (Wk.th (x:=iR Γ.k a' ρ) h) λx h v G1 H1 p1 r1=>?_⟩;obtain⟨rv,ρ1⟩:=x
 cases rv with
 |val d=>
  cases d with
  |bl i=>exact⟨i,by simpa only[RvR,Rep] using r1,h _ G1 H1 p1 (by simp only[RvR,Rep])⟩
  |_=>exact False.elim h
 |_=>exact False.elim h
theorem qfK(gd:Gd κ K k X Γ)(A:All κ K k X Γ m)(a b:Expr)(op:CmpOp)(pos:Pos)(h:cE (m+1) Γ (.Compare a [op] [b] pos)=some x):PE X (.Compare a [op] [b] pos) (tR κ K Gv Hv (iR Γ.k x)):=by obtain⟨hm,h⟩:=qi h;obtain⟨a',b',h1,h2,rfl⟩:=qh h;refine PE.imp (qeT (Zm (Gv:=Gv) (Hv:=Hv) gd op) (A.r Gv Hv _ _ h1) (A.r Gv Hv _ _ h2) (by simpa using hm)) λσ H Q hq1=>?_;obtain⟨ρ,G,er,h⟩:=hq1;refine⟨ρ,G,er,Wk.mono (Wk.th (x:=iR Γ.k a' ρ) h) λx h v G1 H1 p1 r1=>⟨x.2,G1,p1.er,Wk.mono (Wk.th (x:=iR Γ.k b' x.2) h) λy h w G2 H2 p2 r2=>?_⟩⟩;obtain⟨c,e,h⟩:=Wk.of (Wk.th h);exact⟨y.2,σ,G2,H,H1,x.1,y.1,c,p2.er,r1.keep p2,r2,e,h _ G2 H2 (p1.trans p2) (by simp only[RvR,Rep])⟩
theorem qh1{op:CmpOp}{b t:Expr}(h:irE Γ op b=some t):op=.NotIn/\∃p q,b=.Call (.Name "range" p) [t] [] q/\glB Γ.sc "range" = true/\qp t=false:=by
 unfold irE at h
 split at h
 ·split at h
  ·rename_i hc;cases h;obtain⟨rfl,h1,h2⟩:=hc;exact⟨rfl,_,_,rfl,h1,h2⟩
  ·cases h
 ·cases h
theorem qfL{x y r:Rv}(h:qhM x y=.ok r):∃i j,x.int?=some i/\y.int?=some j/\r=.val (.bl (!decide (0<=i/\i < j))):=by
 unfold qhM at h
 split at h
 ·rename_i i j e1 e2;cases h;exact⟨i,j,e1,e2,rfl⟩
 ·cases h
theorem qfM(gd:Gd κ K k X Γ)(A:All κ K k X Γ m)(a b:Expr)(op:CmpOp)(pos:Pos){x:T}(h:cT (m+1) Γ (.Compare a [op] [b] pos)=some x):PT X (.Compare a [op] [b] pos) (tT κ K Gv Hv (iT Γ.k x)):=by
 have h:(match irE Γ op b with |some t=>_ |none=>_)=_:=h
 cases hi:irE Γ op b with
 |none=>rw[hi] at h;obtain⟨hm,h⟩:=qi h;obtain⟨a',b',h1,h2,rfl⟩:=qh h;refine PT.imp (qaK (Zm (Gv:=Gv) (Hv:=Hv) gd op) (A.r Gv Hv _ _ h1) (A.r Gv Hv _ _ h2) (by simpa using hm)) λσ H Q hq1=>?_;obtain⟨ρ,G,er,h⟩:=hq1;refine⟨ρ,G,er,Wk.mono (Wk.th (x:=iR Γ.k a' ρ) h) λx h v G1 H1 p1 r1=>⟨x.2,G1,p1.er,Wk.mono (Wk.th (x:=iR Γ.k b' x.2) h) λy h w G2 H2 p2 r2=>?_⟩⟩;obtain⟨c,e,h⟩:=Wk.of (Wk.th h);exact⟨y.2,σ,G2,H,H1,x.1,y.1,c,p2.er,r1.keep p2,r2,e,c,rfl,h G2 H2 (p1.trans p2)⟩
 |some t=>
  rw[hi] at h;obtain⟨a',b',h1,h2,rfl⟩:=qh h;obtain⟨rfl,p,q,rfl,hg,s1⟩:=qh1 hi;refine PT.imp (qaK qbn (A.r Gv Hv _ _ h1) (qJ qbl (gd.glo _ hg) (gd.blt _ (2:)) PyProof.Rows.boot_range (qj (A.r Gv Hv _ _ h2) qw (qe s1)) (2:) (2:) (qe s1) rfl) rfl) λσ H Q hq1=>?_;obtain⟨ρ,G,er,h⟩:=hq1;have h:=Wk.th (x:=iR Γ.k (.b2 .inr a' b') ρ) h;refine⟨ρ,G,er,Wk.mono (Wk.th (x:=iR Γ.k a' ρ) h) λx h v G1 H1 p1 r1=>⟨x.2,G1,p1.er,Wk.mono (Wk.th (x:=iR Γ.k b' x.2) h) λy h w G2 H2 p2 r2=>?_⟩⟩;have h:=Wk.th (x:=qhM x.1 y.1) h
  cases e3:qhM x.1 y.1 with
  |exc c l=>rw[e3] at h;exact h.elim
  |no=>rw[e3] at h;exact h.elim
  |ok r=>
  rw[e3] at h;obtain⟨i,j,z1,z2,rfl⟩:=qfL e3;refine⟨j,by rw[r2.int z2],λd hd=>⟨i,0,j,d,(r1.keep p2).int z1,rfl,qg,_,rfl,?_⟩⟩;exact h G2 _ (p1.trans (p2.trans (Po.room p2.er (qo.upd hd))))
theorem qbD(gd:Gd κ K k X Γ)(A:All κ K k X Γ m)(a b c:Expr)(op op':CmpOp)(pos:Pos){x:T}(h:cT (m+1) Γ (.Compare a [op,op'] [b,c] pos)=some x):PT X (.Compare a [op,op'] [b,c] pos) (tT κ K Gv Hv (iT Γ.k x)):=by
 obtain⟨hm,h⟩:=qi h;obtain⟨a',q,h1,h2,rfl⟩:=qh h;obtain⟨b',c',h3,h4,rfl⟩:=qh h2;refine PT.imp (qcF (Zm (Gv:=Gv) (Hv:=Hv) gd op) (Zm (Gv:=Gv) (Hv:=Hv) gd op') (A.r Gv Hv _ _ h1) (A.r Gv Hv _ _ h3) (A.r Gv Hv _ _ h4) (by simpa using hm)) λσ H Q hq1=>?_;obtain⟨ρ,G,er,h⟩:=hq1;refine⟨ρ,G,er,Wk.mono (Wk.th (x:=iR Γ.k a' ρ) h) λx h v G1 H1 p1 r1=>⟨x.2,G1,p1.er,Wk.mono (Wk.th (x:=iR Γ.k b' x.2) h) λy h w G2 H2 p2 r2=>?_⟩⟩;obtain⟨c1,e,h⟩:=Wk.of (Wk.th h);refine⟨y.2,σ,G2,H,H1,x.1,y.1,c1,p2.er,r1.keep p2,r2,e,c1,rfl,?_⟩
 cases c1 with
 |true=>rw[if_pos rfl] at h ⊢;refine⟨y.2,G2,p2.er,Wk.mono (Wk.th (x:=iR Γ.k c' y.2) h) λz h w' G3 H3 p3 r3=>?_⟩;obtain⟨c2,e2,h⟩:=Wk.of (Wk.th h);exact⟨z.2,σ,G3,H1,H2,y.1,z.1,c2,p3.er,r2.keep p3,r3,e2,c2,rfl,h G3 H3 (p1.trans (p2.trans p3))⟩
 |false=>rw[if_neg (by simp)] at h ⊢;exact⟨false,rfl,h G2 H2 (p1.trans p2)⟩
theorem qh2(A:All κ K k X Γ m)(a b:Expr)(l:List Expr)(pos:Pos)(h:cE (m+1) Γ (.BoolOp .And (a::b::l) pos)=some x):PE X (.BoolOp .And (a::b::l) pos) (tR κ K Gv Hv (iR Γ.k x)):=by
 obtain⟨a',b',h1,h2,rfl⟩:=qh h;refine PE.imp (qgT (A.r Gv Hv _ _ h1) (A.r Gv Hv _ _ h2)) λσ H Q hq1=>?_;obtain⟨ρ,G,er,h⟩:=hq1;refine⟨ρ,G,er,Wk.mono (Wk.th (x:=iR Γ.k a' ρ) h) λx h v G1 H1 p1 r1=>?_⟩;obtain⟨rv,ρ1⟩:=x
 cases rv with
 |val d=>
  cases d with
  |bl c=>
   refine⟨c,by simpa only[RvR,Rep] using r1,?_⟩
   cases c with
   |true=>rw[if_pos rfl];exact⟨ρ1,G1,p1.er,Wk.mono h λy h w G2 H2 p2 r2=>h w G2 H2 (p1.trans p2) (r2.back p1.hs)⟩
   |false=>rw[if_neg (λz=>by cases z)];exact h _ G1 H1 p1 (by simp only[RvR,Rep])
  |_=>exact False.elim h
 |_=>exact False.elim h
theorem qkt(A:All κ K k X Γ m)(a b:Expr)(l:List Expr)(pos:Pos)(h:cE (m+1) Γ (.BoolOp .Or (a::b::l) pos)=some x):PE X (.BoolOp .Or (a::b::l) pos) (tR κ K Gv Hv (iR Γ.k x)):=by
 obtain⟨a',b',h1,h2,rfl⟩:=qh h;refine PE.imp (qjU (A.r Gv Hv _ _ h1) (A.r Gv Hv _ _ h2)) λσ H Q hq1=>?_;obtain⟨ρ,G,er,h⟩:=hq1;refine⟨ρ,G,er,Wk.mono (Wk.th (x:=iR Γ.k a' ρ) h) λx h v G1 H1 p1 r1=>?_⟩;obtain⟨rv,ρ1⟩:=x
 cases rv with
 |val d=>
  cases d with
  |bl c=>
   refine⟨c,by simpa only[RvR,Rep] using r1,?_⟩
   cases c with
   |false=>rw[if_neg (λz=>by cases z)];exact⟨ρ1,G1,p1.er,Wk.mono h λy h w G2 H2 p2 r2=>h w G2 H2 (p1.trans p2) (r2.back p1.hs)⟩
   |true=>rw[if_pos rfl];exact h _ G1 H1 p1 (by simp only[RvR,Rep])
  |_=>exact False.elim h
 |_=>exact False.elim h
theorem qh3(A:All κ K k X Γ m)(c a b:Expr)(pos:Pos)(h:cE (m+1) Γ (.IfExp c a b pos)=some x):PE X (.IfExp c a b pos) (tR κ K Gv Hv (iR Γ.k x)):=by
 obtain⟨c',q,h1,h2,rfl⟩:=qh h;obtain⟨a',b',h3,h4,rfl⟩:=qh h2;refine PE.imp (qcB (A.t Gv Hv _ _ h1) (A.r Gv Hv _ _ h3) (A.r Gv Hv _ _ h4)) λσ H Q hq1=>?_;obtain⟨ρ,G,er,h⟩:=hq1;refine⟨ρ,G,er,Wk.mono (Wk.th (x:=iT Γ.k c' ρ) h) λx h G1 H1 p1=>?_⟩;obtain⟨d,ρ1⟩:=x
 cases d with
 |true=>rw[if_pos rfl];exact⟨ρ1,G1,p1.er,Wk.mono h λy h w G2 H2 p2 r2=>h w G2 H2 (p1.trans p2) (r2.back p1.hs)⟩
 |false=>rw[if_neg (λz=>by cases z)];exact⟨ρ1,G1,p1.er,Wk.mono h λy h w G2 H2 p2 r2=>h w G2 H2 (p1.trans p2) (r2.back p1.hs)⟩
theorem qai{b:Expr}(h:∀lo hi st p,b≠.Slice lo hi st p):qaS b:=λo i=>by cases b<;>first | rfl | exact absurd rfl (h _ _ _ _)
theorem ql.reverse{G:Hp}:∀{l:List D} {xs:List V},ql κ G l xs->ql κ G l.reverse xs.reverse
 |[],xs,h=>by simp only[ql] at h;subst h;exact .nil
 | d::l,xs,h=>by simp only[ql] at h;obtain⟨v,r,rfl,h1,h2⟩:=h;rw[List.reverse_cons,List.reverse_cons];exact(ql.reverse h2).snoc h1
theorem qfN{lo hi:Option Expr}{st:Expr}(h:qjI lo hi st=true):lo=none/\hi=none/\∃j p q,st=.UnaryOp .USub (.Constant (.int 1) j p) q:=by
 unfold qjI at h
 split at h
 ·exact⟨rfl,rfl,_,_,_,rfl⟩
 ·cases h
theorem qh4(gd:Gd κ K k X Γ)(A:All κ K k X Γ m){a:Expr}{lo hi:Option Expr}{st:Expr}(p pos:Pos)(h:oif (qjI lo hi st) ((cE m Γ a).map .rvs)=some x):PE X (.Subscript a (.Slice lo hi (some st) p) pos) (tR κ K Gv Hv (iR Γ.k x)):=by obtain⟨hr,h⟩:=qi h;obtain⟨a',h1,rfl⟩:=map_some h;obtain⟨rfl,rfl,j,p1,q1,rfl⟩:=qfN hr;have hst:PE X (.UnaryOp .USub (.Constant (.int 1) j p1) q1) (tC (.int (-1))):=PE.imp (qg0 qea y8) λσ H Q h=>⟨1,rfl,h⟩;refine PE.imp (qa6 (A.r Gv Hv _ _ h1) Qi Qi hst) λσ H Q hq1=>?_;obtain⟨ρ,G,er,h⟩:=hq1;refine⟨ρ,G,er,Wk.mono (Wk.th (x:=iR Γ.k a' ρ) h) λx h v G1 H1 p1 r1=>?_⟩;obtain⟨l,e1,h⟩:=Wk.of (Wk.th h);obtain⟨b,xs,rfl,q1,q2⟩:=r1.list p1.er e1;refine⟨b,xs,-1,xs.reverse,rfl,by rw[gd.hK];exact q1,rfl,by decide,by simp,qcV,λp hp=>?_⟩;obtain⟨z1,z2⟩:=p1.er.newList hp q2.reverse;exact h _ _ _ (p1.trans z1) (z2.back p1.hs)
theorem qh5(gd:Gd κ K k X Γ)(A:All κ K k X Γ m)(a b:Expr)(pos:Pos)(h:cE (m+1) Γ (.Subscript a b pos)=some x):PE X (.Subscript a b pos) (tR κ K Gv Hv (iR Γ.k x)):=by
 have gen:(∀lo hi st p,b≠.Slice lo hi st p)->o2 (cE m Γ a) (cE m Γ b) .idx=some x->PE X (.Subscript a b pos) (tR κ K Gv Hv (iR Γ.k x)):=λhb h=>by obtain⟨a',b',h1,h2,rfl⟩:=qh h;refine PE.imp (qj9 (qhR (Gv:=Gv) (Hv:=Hv) gd) (A.r Gv Hv _ _ h1) (A.r Gv Hv _ _ h2) (qai hb)) λσ H Q hq1=>?_;obtain⟨ρ,G,er,h⟩:=hq1;refine⟨ρ,G,er,Wk.mono (Wk.th (x:=iR Γ.k a' ρ) h) λx h v G1 H1 p1 r1=>⟨x.2,G1,p1.er,Wk.mono (Wk.th (x:=iR Γ.k b' x.2) h) λy h w G2 H2 p2 r2=>?_⟩⟩;exact⟨y.2,σ,G2,H,H1,x.1,y.1,p2.er,r1.keep p2,r2,Wk.mono (Wk.th h) λz h u G3 H3 p3 r3=>h u G3 H3 (p1.trans (p2.trans p3)) (r3.back (p1.trans p2).hs)⟩
 cases b with
 |Slice lo hi st p=>
  cases st with
  |some st=>exact qh4 gd A p pos h
  |none=>obtain⟨a',q,h1,h2,rfl⟩:=qh h;obtain⟨l',u',h3,h4,rfl⟩:=qh h2;refine PE.imp (qcP (qhS (Gv:=Gv) (Hv:=Hv) gd) (A.r Gv Hv _ _ h1) (A.o Gv Hv _ _ h3) (A.o Gv Hv _ _ h4)) λσ H Q hq1=>?_;obtain⟨ρ,G,er,h⟩:=hq1;refine⟨ρ,G,er,Wk.mono (Wk.th (x:=iR Γ.k a' ρ) h) λx h v G1 H1 p1 r1=>⟨x.2,G1,p1.er,Wk.mono (Wk.th (x:=iO Γ.k l' x.2) h) λy h G2 H2 p2=>⟨y.2,G2,p2.er,Wk.mono (Wk.th (x:=iO Γ.k u' y.2) h) λz h G3 H3 p3=>?_⟩⟩⟩;exact⟨z.2,σ,G3,H,x.1,p3.er,(r1.keep p2).keep p3,Wk.mono (Wk.th h) λu h w G4 H4 p4 r4=>h w G4 H4 (p1.trans (p2.trans (p3.trans p4))) (r4.back (p1.trans (p2.trans p3)).hs)⟩
 |_=>exact gen (λ_ _ _ _ z=>by cases z) h
theorem qh6(A:All κ K k X Γ m)(es:List Expr)(pos:Pos)(h:cE (m+1) Γ (.List es pos)=some x):PE X (.List es pos) (tR κ K Gv Hv (iR Γ.k x)):=by obtain⟨l,h1,rfl⟩:=map_some h;refine PE.imp (qhc (A.es Gv Hv _ _ h1)) λσ H Q hq1=>?_;obtain⟨ρ,G,er,h⟩:=hq1;refine⟨ρ,G,er,Wk.mono (Wk.th (x:=iEs Γ.k l ρ) h) λx h vs G1 H1 p1 r1=>?_⟩;obtain⟨hz,h⟩:=Wk.iff h;refine⟨by rw[<-r1.len];exact hz,λp hp=>?_⟩;obtain⟨z1,z2⟩:=p1.er.newList hp r1;exact h _ _ _ (p1.trans z1) (z2.back p1.hs)
theorem qh7(A:All κ K k X Γ m)(es:List Expr)(j:Nat)(pos:Pos)(h:cE (m+1) Γ (.Tuple es j pos)=some x):PE X (.Tuple es j pos) (tR κ K Gv Hv (iR Γ.k x)):=by obtain⟨l,h1,rfl⟩:=map_some h;refine PE.imp (qhb (A.es Gv Hv _ _ h1)) λσ H Q hq1=>?_;obtain⟨ρ,G,er,h⟩:=hq1;refine⟨ρ,G,er,Wk.mono (Wk.th (x:=iEs Γ.k l ρ) h) λx h vs G1 H1 p1 r1=>?_⟩;obtain⟨hz,h⟩:=Wk.iff h;refine⟨by rw[<-r1.len];exact hz,λp hp=>?_⟩;have z1:=Po.lay (o:=.tup vs) p1.er hp;refine h _ _ _ (p1.trans z1) ?_;simp only[RvR,Rep];exact⟨p,vs,rfl,qg,r1.same z1.gs⟩
theorem ql2(gd:Gd κ K k X Γ)(A:All κ K k X Γ m)(e:Expr)(x:E)(h:cX (m+1) Γ e=some x):PE X e (tE κ K Gv Hv (qZ x (iR Γ.k x))):=by
 have gen:(cE m Γ e).bind YB=some x->PE X e (tE κ K Gv Hv (qZ x (iR Γ.k x))):=λh=>by
  obtain⟨y,h1,h2⟩:=Option.bind_eq_some_iff.mp h;obtain⟨rfl,hv⟩:=zu h2;refine PE.imp (A.r Gv Hv _ _ h1) λσ H Q hq1=>?_;obtain⟨ρ,G,er,h⟩:=hq1;rw[qfB hv] at h;refine⟨ρ,G,er,Wk.mono (Wk.th h) λx h v G1 H1 p1 r1=>?_⟩;obtain⟨rv,ρ1⟩:=x
  cases rv with
  |val d=>exact h v G1 H1 p1 r1
  |tmp l=>obtain⟨a,xs,rfl,h1,h2,h3,h4,h5,h6⟩:=r1;have p2:=p1.freeze h1 h2 h3 h4 h5;refine h _ _ H1 p2 ?_;simp only[Rep];exact⟨a,xs,rfl,qg,h6.same (qo.upd h4)⟩
  |_=>exact False.elim h
 cases e with
 |Name x pos=>exact Zk gd h pos
 |_=>exact gen h
theorem PFs.imp{es:List Expr}{t t':TF}(h:PFs X es t')(i:∀σ H acc Q,t σ H acc Q->t' σ H acc Q):PFs X es t:=λpins s σ H acc Q I hl hq=>h pins s σ H acc Q I hl (i σ H acc Q hq)
theorem YE{acc w:Str}{d:D}{l:List D}(h:Jg acc (d::l)=some w):∃y,qkm d=some y/\(acc++y).length<=sizeLine/\Jg (acc++y) l=some w:=by
 unfold Jg at h;obtain⟨y,e1,e2⟩:=Option.bind_eq_some_iff.mp h
 split at e2
 ·exact⟨y,e1,‹_›,e2⟩
 ·cases e2
theorem qdo{G:Hp}{d:D}{v:V}{y:Str}(r:Rep κ G d v)(h:qkm d=some y):qk3 v=some y:=by
 cases d with
 |int n=>simp only[Rep] at r;subst r;exact h
 |str z=>simp only[Rep] at r;subst r;exact h
 |_=>cases h
theorem qfO(A:All κ K k X Γ m):∀es l',cFs (cX m Γ) es=some l'->PFs X es (λσ H acc Q=>∃ρ G,ER κ K Gv Hv G H ρ σ/\Wk (iEs Γ.k l' ρ) λx=>∃z,Jg acc x.1=some z/\∀G' H',Po κ K Gv Hv σ G H ρ G' H' x.2->Q z H')
 |[],_,h=>by cases h;refine PFs.imp qhE λσ H acc Q ⟨ρ,G,er,z,e,h⟩=>?_;cases e;exact h G H (Po.refl er)
 | e::l,_,h=>by
  unfold cFs at h
  split at h
  ·rename_i q;cases q
  ·rename_i z j p l0 q;injection q with q1 q2;subst q1 q2;obtain⟨l',h2,rfl⟩:=map_some h;refine PFs.imp (qhF (qfO A l l' h2)) λσ H acc Q hq=>?_;obtain⟨ρ,G,er,h⟩:=hq;have h:=Wk.th (x:=iEs Γ.k l' ρ) h
   cases e2:iEs Γ.k l' ρ with
   |exc c l=>rw[e2] at h;exact h.elim
   |no=>rw[e2] at h;exact h.elim
   |ok y=>
    rw[e2] at h;obtain⟨w,e3,hQ⟩:=h;obtain⟨y0,f1,f2,f3⟩:=YE e3;have f1:(if z.length<=3000 then some z else none)=some y0:=f1
    split at f1
    case isFalse=>cases f1
    cases f1;exact⟨f2,ρ,G,er,by rw[e2];exact⟨w,f3,hQ⟩⟩
  ·rename_i e0 i0 p l0 q;injection q with q1 q2;subst q1 q2;obtain⟨hi,h⟩:=qi h;obtain rfl:=of_decide_eq_true hi;obtain⟨a',l',h1,h2,rfl⟩:=qh h;refine PFs.imp (qhG (A.e Gv Hv _ _ h1) (qfO A l l' h2)) λσ H acc Q hq=>?_;obtain⟨ρ,G,er,h⟩:=hq;refine⟨ρ,G,er,Wk.mono (Wk.th (x:=qZ a' (iR Γ.k a') ρ) h) λx h v G1 H1 p1 r1=>?_⟩;have h:=Wk.th (x:=iEs Γ.k l' x.2) h
   cases e2:iEs Γ.k l' x.2 with
   |exc c l=>rw[e2] at h;exact h.elim
   |no=>rw[e2] at h;exact h.elim
   |ok y=>rw[e2] at h;obtain⟨w,e3,hQ⟩:=h;obtain⟨y0,f1,f2,f3⟩:=YE e3;exact⟨y0,qdo r1 f1,f2,x.2,G1,p1.er,by rw[e2];exact⟨w,f3,λG' H' p2=>hQ G' H' (p1.trans p2)⟩⟩
  ·cases h
theorem qh8(A:All κ K k X Γ m)(a b:Expr)(l:List Expr)(pos:Pos)(h:cE (m+1) Γ (.JoinedStr (a::b::l) pos)=some x):PE X (.JoinedStr (a::b::l) pos) (tR κ K Gv Hv (iR Γ.k x)):=by obtain⟨l',h1,rfl⟩:=map_some h;refine PE.imp (qfy (qfO (Gv:=Gv) (Hv:=Hv) A _ _ h1)) λσ H Q hq=>?_;obtain⟨ρ,G,er,h⟩:=hq;refine⟨ρ,G,er,Wk.mono (Wk.th (x:=iEs Γ.k l' ρ) h) λy h=>?_⟩;obtain⟨z,e,h⟩:=Wk.of (Wk.th h);exact⟨z,e,λG' H' p=>h _ G' H' p (by simp only[RvR,Rep])⟩
theorem Jj:∀(more acc:List (Key×V)),(acc.map (·.1)++more.map (·.1)).Nodup->yB acc more=acc++more
 |[],acc,_=>by show acc=acc++[];rw[List.append_nil]
 | p::r,acc,nd=>by
  have hn:Yt acc p.1=none:=by
   have h:=JA p.1 acc
   cases e:Yt acc p.1 with
   |none=>rfl
   |some v=>
    rw[e] at h;obtain⟨kv,hm,hk⟩:=List.any_eq_true.mp h
    have:=(List.nodup_append.mp nd).2.2 kv.1 (List.mem_map_of_mem hm) p.1 (by simp)
    exact absurd (of_decide_eq_true hk) this
  show yB (qa8 acc p.1 p.2) r=_
  rw[qcW p.2 hn,Jj r (acc++[(p.1,p.2)]) (by rw[List.map_append,List.append_assoc];exact nd),List.append_assoc]
  rfl
theorem qh9(A:All κ K k X Γ m)(pos:Pos):∀keys values ks l',cKs keys=some ks->cVs (cX m Γ) values=some l'->keys.length=values.length->∃trs,PPs X pos keys values trs/\keys.all (·.isSome)=true/\keys.length=ks.length/\
  ∀σ H Q,(∃ρ G,ER κ K Gv Hv G H ρ σ/\Wk (iEs Γ.k l' ρ) λx=>∀vs G' H',Po κ K Gv Hv σ G H ρ G' H' x.2->ql κ G' x.1 vs->vs.length=ks.length->Q ((ks.zip vs).map λp=>(V.str p.1,p.2)) H')->Zb trs σ H Q
 | [],[],ks,l',h1,h2,_=>by cases h1;cases h2;exact⟨[],qff,rfl,rfl,λσ H Q ⟨ρ,G,er,h⟩=>h [] G H (Po.refl er) .nil rfl⟩
 | [],_::_,_,_,_,_,h=>by cases h
 | _::_,[],_,_,_,_,h=>by cases h
 | key::keys,v::vs,ks,l',h1,h2,h3=>by
  unfold cKs at h1
  split at h1
  ·rename_i q;cases q
  ·rename_i z j p k0 q;injection q with q1 q2;subst q1 q2;obtain⟨ks,k1,rfl⟩:=map_some h1;obtain⟨a',l',g1,g2,rfl⟩:=qh h2;obtain⟨trs,t1,t2,t3,t4⟩:=qh9 A pos keys vs ks l' k1 g2 (by simpa using h3);refine⟨_,qc0 qaD (A.e Gv Hv _ _ g1) t1,by simpa using t2,by simpa using t3,λσ H Q hq=>?_⟩;obtain⟨ρ,G,er,h⟩:=hq;refine⟨ρ,G,er,Wk.mono (Wk.th (x:=qZ a' (iR Γ.k a') ρ) h) λx h v G1 H1 p1 r1=>t4 _ _ _ ⟨x.2,G1,p1.er,Wk.mono (Wk.th (x:=iEs Γ.k l' x.2) h) λy h ws G2 H2 p2 r2 hl=>?_⟩⟩;exact h (v::ws) G2 H2 (p1.trans p2) (.cons (r1.same p2.gs) r2) (by simpa using hl)
  ·cases h1
theorem qia(A:All κ K k X Γ m)(keys:List (Option Expr))(values:List Expr)(pos:Pos)(h:cE (m+1) Γ (.Dict keys values pos)=some x):PE X (.Dict keys values pos) (tR κ K Gv Hv (iR Γ.k x)):=by
 obtain⟨hc,h⟩:=qi h;obtain⟨ks,l',h1,h2,rfl⟩:=qh h;rw[h1] at hc;simp only[Bool.and_eq_true,decide_eq_true_eq,Bool.not_eq_true',List.isEmpty_eq_false_iff] at hc;obtain⟨⟨⟨c1,c2⟩,c3⟩,c4⟩:=hc;obtain⟨trs,t1,t2,t3,t4⟩:=qh9 (Gv:=Gv) (Hv:=Hv) A pos keys values ks l' h1 h2 c1;refine PE.imp (qfg t1 t2 c1 c2 c3) λσ H Q hq p hp=>?_;obtain⟨ρ,G,er,h⟩:=hq;have p1:=Po.room er (qo.upd (o:=HO.dK []) hp);refine t4 _ _ _ ⟨ρ,G,p1.er,Wk.mono (Wk.th (x:=iEs Γ.k l' ρ) h) λx h vs G' H' p2 r2 hl=>?_⟩;have e0:H' p=some (.dK []):=p2.hs _ _ qg
 have g0:G' p=none:=by
  cases q:G' p with
  |none=>rfl
  |some o=>
   rcases p2.new p o q with ⟨o',z⟩ | z | ⟨i,l,z1,z2⟩
   ·rw[qo.none er.sub hp] at z;cases z
   ·rw[qg] at z;cases z
   ·obtain⟨a,xs,s1,s2,_⟩:=er.sl i _ z1;rw[s1] at z2;cases z2;rw[hp] at s2;cases s2
 refine⟨e0,kvX ks vs,?_,?_,?_⟩
 ·unfold kvX;rw[List.map_map];rfl
 ·unfold kvX;rw[List.length_map,List.length_zip];omega
 ·rw[Jj _ [] (by
   unfold kvX;rw[List.map_nil,List.nil_append,List.map_map]
   have e:((ks.zip vs).map ((λp:Key×V=>p.1) ∘ λp:Str×V=>((Sum.inr p.1:Key),p.2)))=ks.map λs=>(Sum.inr s:Key):=by rw[<-List.map_fst_zip (l₁:=ks) (l₂:=vs) (1:),List.map_map];simp only[List.map_fst_zip (l₁:=ks) (l₂:=vs) (1:)];rfl
   rw[e];exact List.pairwise_map.mpr (c4.imp λne z=>ne (by cases z;rfl))),List.nil_append]
  have pf:=Po.fill (o:=.dK (kvX ks vs)) er (p1.trans p2) hp g0 e0 (λxs z=>by cases z);refine h _ _ _ pf ?_;simp only[RvR,Rep];exact⟨p,vs,rfl,qg,hl,r2.same (qo.upd g0)⟩
theorem qku(A:All κ K k X Γ m):∀es x,cEs (m+1) Γ es=some x->PA X es (tEs κ K Gv Hv (iEs Γ.k x))
 |[],_,h=>by cases h;exact PA.imp qw λσ H Q ⟨ρ,G,er,h⟩=>h [] G H (Po.refl er) .nil
 | e::l,_,h=>by obtain⟨hs,h⟩:=qi h;obtain⟨a',l',h1,h2,rfl⟩:=qh h;refine PA.imp (qj (A.e Gv Hv _ _ h1) (A.es Gv Hv _ _ h2) (qe (by simpa using hs))) λσ H Q hq1=>?_;obtain⟨ρ,G,er,h⟩:=hq1;refine⟨ρ,G,er,Wk.mono (Wk.th (x:=qZ a' (iR Γ.k a') ρ) h) λx h v G1 H1 p1 r1=>⟨x.2,G1,p1.er,Wk.mono (Wk.th (x:=iEs Γ.k l' x.2) h) λy h vs G2 H2 p2 r2=>?_⟩⟩;exact h _ G2 H2 (p1.trans p2) (.cons (r1.same p2.gs) r2)
theorem qkv(A:All κ K k X Γ m):∀es x,cAs (m+1) Γ es=some x->PA X es (tAs κ K Gv Hv (iAs Γ.k x))
 |[],_,h=>by cases h;exact PA.imp qw λσ H Q ⟨ρ,G,er,h⟩=>h [] G H (Po.refl er) rfl
 | e::l,_,h=>by
  obtain⟨hs,h⟩:=qi h;obtain⟨a',l',h1,h2,rfl⟩:=qh h;refine PA.imp (qj (A.r Gv Hv _ _ h1) (A.as Gv Hv _ _ h2) (qe (by simpa using hs))) λσ H Q hq1=>?_;obtain⟨ρ,G,er,h⟩:=hq1;refine⟨ρ,G,er,Wk.mono (Wk.th (x:=iR Γ.k a' ρ) h) λx h v G1 H1 p1 r1=>?_⟩;have h:=Wk.th (x:=iAs Γ.k l' x.2) h;obtain⟨rv,ρ1⟩:=x
  cases rv with
  |val d=>exact⟨ρ1,G1,p1.er,Wk.mono h λy h vs G2 H2 p2 r2=>h _ G2 H2 (p1.trans p2) ⟨v,vs,rfl,Rep.same p2.gs r1,r2⟩⟩
  |tmp ds=>obtain⟨a,xs,rfl,h1,h2,h3,h4,h5,h6⟩:=r1;have p1':=p1.freeze h1 h2 h3 h4 h5;refine⟨ρ1,_,p1'.er,Wk.mono h λy h vs G2 H2 p2 r2=>h _ G2 H2 (p1'.trans p2) ⟨_,vs,rfl,?_,r2⟩⟩;show Rep κ G2 (.lst ds) (.ref a);simp only[Rep];exact⟨a,xs,rfl,p2.gs _ _ qg,(h6.same (qo.upd h4)).same p2.gs⟩
  |cell ds=>obtain⟨a,xs,rfl,h1,h6⟩:=r1;exact⟨ρ1,G1,p1.er,Wk.mono h λy h vs G2 H2 p2 r2=>h _ G2 H2 (p1.trans p2) ⟨_,vs,rfl,⟨a,xs,rfl,p2.hs _ _ h1,h6.same p2.gs⟩,r2⟩⟩
  |scr ds=>obtain⟨a,xs,rfl,h1,h6⟩:=r1;exact⟨ρ1,G1,p1.er,Wk.mono h λy h vs G2 H2 p2 r2=>h _ G2 H2 (p1.trans p2) ⟨_,vs,rfl,⟨a,xs,rfl,p2.hs.seq h1,h6.same p2.gs⟩,r2⟩⟩
theorem ql3(A:All κ K k X Γ m):∀o x,cO (m+1) Γ o=some x->PO X o (tO κ K Gv Hv (iO Γ.k x))
 |none,_,h=>by cases h;exact PO.imp Qi λσ H Q ⟨ρ,G,er,h⟩=>h G H (Po.refl er)
 |some e,_,h=>by
  obtain⟨a',h1,rfl⟩:=map_some h;refine PO.imp (qe1 (A.r Gv Hv _ _ h1)) λσ H Q hq1=>?_;obtain⟨ρ,G,er,h⟩:=hq1;refine⟨ρ,G,er,Wk.mono (Wk.th (x:=iR Γ.k a' ρ) h) λx h v G1 H1 p1 r1=>?_⟩;obtain⟨rv,ρ1⟩:=x
  cases rv with
  |val d=>
   cases d with
   |int i=>exact⟨i,by simpa only[RvR,Rep] using r1,h G1 H1 p1⟩
   |_=>exact False.elim h
  |_=>exact False.elim h
theorem ql4(A:All κ K k X Γ m):∀es x,cF (m+1) Γ es=some x->PIf X es (tT κ K Gv Hv (iF Γ.k x))
 |[],_,h=>by cases h;exact PIf.imp qe8 λσ H Q ⟨ρ,G,er,h⟩=>h G H (Po.refl er)
 |[c],_,h=>by obtain⟨a',h1,rfl⟩:=map_some h;exact qe9 (A.t Gv Hv _ _ h1)
 | _::_::_,_,h=>by cases h
noncomputable def qes:Expr->Bool
 |.UnaryOp .Not _ _=>false
 |.BoolOp ..=>false
 |.IfExp ..=>false
 |.Compare ..=>false
 |_=>true
theorem qbE{e:Expr}(h:qes e=true)(env:PySem.Env):∀whole,isTrue e env whole=(do let v<-whole;standAt e.pos;holding [v] (truthy v)):=by
 intro whole
 cases e with
 |UnaryOp op a pos=>cases op<;>first | rfl | cases h
 |BoolOp=>cases h
 |IfExp=>cases h
 |Compare=>cases h
 |_=>rfl
theorem ql5(gd:Gd κ K k X Γ)(A:All κ K k X Γ m)(e:Expr)(x:T)(h:cT (m+1) Γ e=some x):PT X e (tT κ K Gv Hv (iT Γ.k x)):=by
 have gen:qes e=true->(cE m Γ e).map .val=some x->PT X e (tT κ K Gv Hv (iT Γ.k x)):=λhp h=>by obtain⟨a',h1,rfl⟩:=map_some h;refine PT.imp (qcG (A.r Gv Hv _ _ h1) (qbE hp X.env)) λσ H Q hq1=>?_;obtain⟨ρ,G,er,h⟩:=hq1;refine⟨ρ,G,er,Wk.mono (Wk.th (x:=iR Γ.k a' ρ) h) λx h v G1 H1 p1 r1=>?_⟩;obtain⟨b,e1,h⟩:=Wk.of (Wk.th h);exact⟨b,qdm gd p1.er r1 e1,h G1 H1 p1⟩
 cases e with
 |UnaryOp op a pos=>
  cases op with
  |Not=>obtain⟨a',h1,rfl⟩:=map_some h;refine PT.imp (J3 (A.t Gv Hv _ _ h1)) λσ H Q hq1=>?_;obtain⟨ρ,G,er,h⟩:=hq1;exact⟨ρ,G,er,Wk.mono (Wk.th (x:=iT Γ.k a' ρ) h) λx h G1 H1 p1=>h G1 H1 p1⟩
  |_=>exact gen rfl h
 |BoolOp op vs pos=>
  cases vs with
  |nil=>cases op<;>cases h
  |cons a vs=>
   cases vs with
   |nil=>
    cases op with
    |And=>obtain⟨a',h1,rfl⟩:=map_some h;exact PT.imp (PW.pt (qeM (A.t Gv Hv _ _ h1))) λσ H Q h=>h
    |Or=>obtain⟨a',h1,rfl⟩:=map_some h;exact PT.imp (PW.pt (qgR (A.t Gv Hv _ _ h1))) λσ H Q h=>h
   |cons b l=>
    cases op with
    |And=>
     obtain⟨a',b',h1,h2,rfl⟩:=qh h;intro pins s σ H Q I hw;obtain⟨ρ,G,er,h⟩:=hw;refine isTrue_and (thn (A.t Gv Hv _ _ h1 pins s σ H (λc H1=>if c=true then tT κ K Gv Hv (iT Γ.k b') σ H1 Q else Q false H1) I ?_) λc s1 ⟨H1,I1,q1⟩=>?_)
     ·refine⟨ρ,G,er,Wk.mono (Wk.th (x:=iT Γ.k a' ρ) h) λx h G1 H1 p1=>?_⟩;obtain⟨d,ρ1⟩:=x
      cases d with
      |true=>rw[if_pos rfl];exact⟨ρ1,G1,p1.er,Wk.mono h λy h G2 H2 p2=>h G2 H2 (p1.trans p2)⟩
      |false=>rw[if_neg (λz=>by cases z)];exact h G1 H1 p1
     ·cases c with
      |true=>exact A.t Gv Hv _ _ h2 pins s1 σ H1 Q I1 q1
      |false=>exact⟨H1,I1,q1⟩
    |Or=>
     obtain⟨a',b',h1,h2,rfl⟩:=qh h;intro pins s σ H Q I hw;obtain⟨ρ,G,er,h⟩:=hw;refine isTrue_or (thn (A.t Gv Hv _ _ h1 pins s σ H (λc H1=>if c=true then Q true H1 else tT κ K Gv Hv (iT Γ.k b') σ H1 Q) I ?_) λc s1 ⟨H1,I1,q1⟩=>?_)
     ·refine⟨ρ,G,er,Wk.mono (Wk.th (x:=iT Γ.k a' ρ) h) λx h G1 H1 p1=>?_⟩;obtain⟨d,ρ1⟩:=x
      cases d with
      |false=>rw[if_neg (λz=>by cases z)];exact⟨ρ1,G1,p1.er,Wk.mono h λy h G2 H2 p2=>h G2 H2 (p1.trans p2)⟩
      |true=>rw[if_pos rfl];exact h G1 H1 p1
     ·cases c with
      |true=>exact⟨H1,I1,q1⟩
      |false=>exact A.t Gv Hv _ _ h2 pins s1 σ H1 Q I1 q1
 |IfExp c a b pos=>cases h
 |Compare a ops bs pos=>
  match ops,bs,h with
  |[op],[b],h=>exact qfM gd A a b op pos h
  | [op,op'],[b,c],h=>exact qbD gd A a b c op op' pos h
  |[],[],h=>cases h
  | [],_::_,h=>cases h
  |[_],[],h=>cases h
  | [_],_::_::_,h=>cases h
  |[_,_],[],h=>cases h
  |[_,_],[_],h=>cases h
  | [_,_],_::_::_::_,h=>cases h
  | _::_::_::_,_,h=>cases h
 |_=>exact gen rfl h
end
end DE
namespace DE
open PySem PySem.Spec PyProof.Rows L2
section
variable{κ:KC}{K:Frag}{Gv Hv:Hp}{k m:Nat}{X:Cx}{Γ:Ct}
theorem qet{tg l:Expr}{tl:TE}(hl:PE X l tl):PI X tg l (λσ H R=>tl σ H λx H1=>(∃a,x=.ref a/\(((∃xs,SqL X.K H1 a xs)/\R (Itl X.K a) H1)\/((∃xs,SqT X.K H1 a xs)/\R (Itt X.K a) H1)))\/∃z,x=.str z/\R (Its z) H1):=by
 intro pins s σ H R I h;refine thn (hl pins s σ H _ I h) λv s1 hq1=>?_;obtain⟨x,H1,I1,r1,q1⟩:=hq1;rcases q1 with ⟨a,e,q⟩ | ⟨x,rfl,q⟩
 ·subst e;cases r1;rcases q with ⟨⟨xs,hq⟩,q⟩ | ⟨⟨xs,hq⟩,q⟩
  ·obtain⟨its,rv,p,hz⟩:=I1.list hq;refine wpAny_pyIter_list p.isList ?_;refine⟨s1.heap.objs.size,[s1.heap.objs.size],_,_,H1,rfl,I1.kept (t':=s1.toks) λb o e=>Heap.get?_push_of_some _ e,qaF a _,⟨_,Heap.get?_push_size _ rfl,rfl,rfl⟩,λb hb=>?_,q⟩;have e:b=s1.heap.objs.size:=by simpa using hb
   subst e;exact I1.fpOk (Nat.le_refl _) (I1.hok.fresh (Nat.le_refl _))
  ·obtain⟨its,rv,p,hz⟩:=I1.tuple hq;refine wpAny_pyIter_tuple (show s1.heap.IsTuple a its.toArray from p) ?_;refine⟨s1.heap.objs.size,[s1.heap.objs.size],_,_,H1,rfl,I1.kept (t':=s1.toks) λb o e=>Heap.get?_push_of_some _ e,ZS a _,⟨_,Heap.get?_push_size _ rfl,rfl,rfl⟩,λb hb=>?_,q⟩;have e:b=s1.heap.objs.size:=by simpa using hb
   subst e;exact I1.fpOk (Nat.le_refl _) (I1.hok.fresh (Nat.le_refl _))
 ·obtain⟨t,rfl⟩:=r1
  have fin:∀(T:String) (o:Obj),(T = "str_ascii_iterator"\/T = "str_iterator")->(∀A':Around,A'.handled=none->Walks X.prog X.w A' s1.heap.objs.size [s1.heap.objs.size] [s1.heap.objs.size] x.cps.size (SignAt x) (λi h=>h.IsStrIter s1.heap.objs.size T x t i))->
    (s1.heap.push o).IsStrIter s1.heap.objs.size T x t 0->PIE X pins σ tg R (.ref s1.heap.objs.size) { s1 with heap:=s1.heap.push o }:=λT o hT W st=>by
   refine⟨s1.heap.objs.size,[s1.heap.objs.size],_,_,H1,rfl,I1.kept (t':=s1.toks) λb o e=>Heap.get?_push_of_some _ e,qc4 hT W,st,λb hb=>?_,q⟩;have e:b=s1.heap.objs.size:=by simpa using hb
   subst e;exact I1.fpOk (Nat.le_refl _) (I1.hok.fresh (Nat.le_refl _))
  cases ha:x.cps.all (· < 128)
  ·exact wpAny_pyIter_wide ha (fin _ _ (.inr rfl) (λA' hA=>Walks.strWide hA _ x t) ⟨_,Heap.get?_push_size _ rfl,rfl,rfl⟩)
  ·exact wpAny_pyIter_ascii ha (fin _ _ (.inl rfl) (λA' hA=>Walks.strAscii hA _ x t) ⟨_,Heap.get?_push_size _ rfl,rfl,rfl⟩)
theorem qdp(gd:Gd κ K k X Γ){x:Str}{i:Nat}(hi:Zi Γ x=some i)(pos:Pos):PE X (.Name x pos) (tL κ K Gv Hv (jo (.var i) (iR Γ.k (.var i)))):=by
 refine PE.imp (Ji gd hi pos) λσ H Q hq1=>?_;obtain⟨ρ,G,er,h⟩:=hq1;have h:Wk (slL ρ i) _:=h;unfold slL at h
 cases q:ρ[i]? with
 |none=>rw[q] at h;exact False.elim h
 |some s=>
  rw[q] at h;have w:=er.sl i s q
  cases s with
  |no=>exact False.elim h
  |val d=>
   obtain⟨v,z,r⟩:=w
   cases d with
   |lst l=>simp only[Rep] at r;obtain⟨a,xs,rfl,r1,r2⟩:=r;exact⟨_,z,h _ G H (Po.refl er) ⟨a,xs,rfl,r2,.inl r1⟩⟩
   |str y=>simp only[Rep] at r;subst r;exact⟨_,z,h _ G H (Po.refl er) ⟨y,rfl,rfl⟩⟩
   |tup l=>simp only[Rep] at r;obtain⟨a,xs,rfl,r1,r2⟩:=r;exact⟨_,z,h _ G H (Po.refl er) ⟨a,xs,rfl,r2,r1⟩⟩
   |_=>exact False.elim h
  |own l=>obtain⟨a,xs,z,p,r⟩:=er.froze q;simp only[Rep] at r;obtain⟨a',xs',e,r1,r2⟩:=r;cases e;exact⟨_,z,h _ _ H p ⟨a,xs',rfl,r2,.inl r1⟩⟩
  |bor l=>obtain⟨a,xs,z,r1,r4⟩:=w;exact⟨_,z,h _ G H (Po.refl er) ⟨a,xs,rfl,r4,.inr (SqL.of r1)⟩⟩
  |scr l=>obtain⟨a,xs,z,r1,r4⟩:=w;exact⟨_,z,h _ G H (Po.refl er) ⟨a,xs,rfl,r4,.inr r1⟩⟩
theorem ql6(gd:Gd κ K k X Γ)(A:All κ K k X Γ m)(e:Expr)(x:E)(h:cL (m+1) Γ e=some x):PE X e (tL κ K Gv Hv (jo x (iR Γ.k x))):=by
 have gen:(cE m Γ e).bind YB=some x->PE X e (tL κ K Gv Hv (jo x (iR Γ.k x))):=λh=>by
  obtain⟨y,h1,h2⟩:=Option.bind_eq_some_iff.mp h;obtain⟨rfl,hv⟩:=zu h2;refine PE.imp (A.r Gv Hv _ _ h1) λσ H Q hq1=>?_;obtain⟨ρ,G,er,h⟩:=hq1;rw[qfC hv] at h;refine⟨ρ,G,er,Wk.mono (Wk.th h) λx h v G1 H1 p1 r1=>?_⟩;obtain⟨rv,ρ1⟩:=x
  cases rv with
  |val d=>
   cases d with
   |lst l=>simp only[RvR,Rep] at r1;obtain⟨a,xs,rfl,q1,q2⟩:=r1;exact h _ G1 H1 p1 ⟨a,xs,rfl,q2,.inl q1⟩
   |str y=>simp only[RvR,Rep] at r1;subst r1;exact h _ G1 H1 p1 ⟨y,rfl,rfl⟩
   |tup l=>simp only[RvR,Rep] at r1;obtain⟨a,xs,rfl,q1,q2⟩:=r1;exact h _ G1 H1 p1 ⟨a,xs,rfl,q2,q1⟩
   |_=>exact False.elim h
  |tmp l=>obtain⟨a,xs,rfl,h1,h2,h3,h4,h5,h6⟩:=r1;exact h _ _ H1 (p1.freeze h1 h2 h3 h4 h5) ⟨a,xs,rfl,h6.same (qo.upd h4),.inl qg⟩
  |_=>exact False.elim h
 cases e with
 |Name x pos=>obtain⟨i,h1,rfl⟩:=map_some h;exact qdp gd h1 pos
 |_=>exact gen h
theorem qbF{G:Hp}{a:Addr}{xs:List V}{l:List D}(h:G a=some (.lst xs)\/SqL K Hv a xs)(r:ql κ G l xs):ItR κ Hv G (Itl K a) l:=by
 intro i G1 H1 s1 s2 s3;have hq:SqL K H1 a xs:=h.elim (λz=>SqL.of (s3 _ _ (s1 _ _ z))) λz=>s2.seq z;refine⟨λd e=>?_,λe=>⟨xs,hq,by rw[<-r.len];omega⟩⟩;obtain⟨v,e1,e2⟩:=r.atD e;refine⟨⟨xs,v,hq,e1⟩,λx H' ⟨z1,z2⟩=>⟨G1,by rw[z1];exactλ_ _ q=>q,λ_ _ q=>q,by rw[z1];exact s3,λ_ o q=>.inl ⟨o,q⟩,?_⟩⟩
 have:=z2 xs hq
 rw[e1] at this;cases this;exact e2.same s1
theorem qib{G:Hp}{a:Addr}{xs:List V}{l:List D}(h:G a=some (.lst xs)\/SqL K Hv a xs)(r:ql κ G l xs):ItR κ Hv G (Itv K a xs) l.reverse:=by
 intro i G1 H1 s1 s2 s3;have hq:SqL K H1 a xs:=h.elim (λz=>SqL.of (s3 _ _ (s1 _ _ z))) λz=>s2.seq z;have hl:=r.len;refine⟨λd e=>?_,λe=>⟨hq,by simp at e;omega⟩⟩;have hi:i < l.length:=by simpa using (List.getElem?_eq_some_iff.mp e).1
 rw[List.getElem?_reverse hi] at e;obtain⟨v,e1,e2⟩:=r.atD e;refine⟨⟨hq,by omega⟩,λx H' ⟨z1,z2⟩=>⟨G1,by rw[z1];exactλ_ _ q=>q,λ_ _ q=>q,by rw[z1];exact s3,λ_ o q=>.inl ⟨o,q⟩,?_⟩⟩;rw[<-hl,e1] at z2;cases z2;exact e2.same s1
theorem qeu{G:Hp}{a:Addr}{xs:List V}{l:List D}(h:G a=some (.tup xs))(r:ql κ G l xs):ItR κ Hv G (Itt K a) l:=by
 intro i G1 H1 s1 s2 s3;have hq:SqT K H1 a xs:=SqT.of (s3 _ _ (s1 _ _ h));refine⟨λd e=>?_,λe=>⟨xs,hq,by rw[<-r.len];omega⟩⟩;obtain⟨v,e1,e2⟩:=r.atD e;refine⟨⟨xs,v,hq,e1⟩,λx H' ⟨z1,z2⟩=>⟨G1,by rw[z1];exactλ_ _ q=>q,λ_ _ q=>q,by rw[z1];exact s3,λ_ o q=>.inl ⟨o,q⟩,?_⟩⟩
 have:=z2 xs hq
 rw[e1] at this;cases this;exact e2.same s1
theorem qic{G:Hp}{x:Str}:ItR κ Hv G (Its x) (qdc x):=by
 intro i G1 H1 s1 s2 s3;have hl:(qdc x).length=x.cps.size:=by simp[qdc]
 refine⟨λd e=>?_,λe=>by rw[<-e,hl];rfl⟩;unfold qdc at e;rw[List.getElem?_map] at e;obtain⟨c,e1,rfl⟩:=Option.map_eq_some_iff.mp e;rw[Array.getElem?_toList] at e1;refine⟨(Array.getElem?_eq_some_iff.mp e1).1,λv H' ⟨z1,c',z2,z3⟩=>⟨G1,by rw[z1];exactλ_ _ q=>q,λ_ _ q=>q,by rw[z1];exact s3,λ_ o q=>.inl ⟨o,q⟩,?_⟩⟩;rw[e1] at z2;cases z2;rw[z3];simp only[Rep]
theorem qev{G:Hp}{lo hi:Int}:ItR κ Hv G (Itr lo (hi - lo).toNat) (zk lo hi):=by
 intro i G1 H1 s1 s2 s3;refine⟨λd e=>?_,λe=>?_⟩
 ·unfold zk at e;rw[List.getElem?_map] at e;obtain⟨j,e1,rfl⟩:=Option.map_eq_some_iff.mp e;obtain⟨h1,h2⟩:=List.getElem?_eq_some_iff.mp e1;have hi':i < (hi - lo).toNat:=by simpa using h1
  have hj:j=i:=by rw[<-h2];simp
  subst hj;refine⟨hi',λx H' ⟨z1,z2⟩=>⟨G1,by rw[z1];exactλ_ _ q=>q,λ_ _ q=>q,by rw[z1];exact s3,λ_ o q=>.inl ⟨o,q⟩,?_⟩⟩;rw[z2];simp only[Rep]
 ·have hl:(zk lo hi).length=(hi - lo).toNat:=by simp only[zk,List.length_map,List.length_range]
  show(hi - lo).toNat<=i;omega
theorem qfP{G:Hp}{lo hi c:Int}:ItR κ Hv G (qjF lo c (rsz lo hi c)) (jO lo hi c):=by
 intro i G1 H1 s1 s2 s3;refine⟨λd e=>?_,λe=>?_⟩
 ·unfold jO at e;rw[List.getElem?_map] at e;obtain⟨j,e1,rfl⟩:=Option.map_eq_some_iff.mp e;obtain⟨h1,h2⟩:=List.getElem?_eq_some_iff.mp e1;have hi':i < rsz lo hi c:=by simpa using h1
  have hj:j=i:=by rw[<-h2];simp
  subst hj;refine⟨hi',λx H' hq=>?_⟩;obtain⟨z1,z2⟩:=hq;refine⟨G1,by rw[z1];exactλ_ _ q=>q,λ_ _ q=>q,by rw[z1];exact s3,λ_ o q=>.inl ⟨o,q⟩,?_⟩;rw[z2];simp only[Rep]
 ·have hl:(jO lo hi c).length=rsz lo hi c:=by simp only[jO,List.length_map,List.length_range]
  show rsz lo hi c<=i;omega
theorem qbG{G H:Hp}{T:Addr}{x y:V}{d e:D}(sub:qo G H)(hT:H T=none)(hx:Rep κ G d x)(hy:Rep κ G e y) :
  ∃G',qo H (upd H T (.tup [x,y]))/\qo G G'/\qo G' (upd H T (.tup [x,y]))/\(∀a o,G' a=some o->(∃o',G a=some o')\/H a=none)/\Rep κ G' (.tup [d,e]) (.ref T):=by
 have gT:G T=none:=qo.none sub hT;have gs:qo G (upd G T (.tup [x,y])):=qo.upd gT;refine⟨upd G T (.tup [x,y]),qo.upd hT,gs,λb u q=>?_,λb u q=>?_,?_⟩
 ·by_cases hb:b=T
  ·subst hb;rw[qg] at q ⊢;exact q
  ·rw[qf hb] at q ⊢;exact sub b u q
 ·by_cases hb:b=T
  ·subst hb;exact .inr hT
  ·rw[qf hb] at q;exact .inl ⟨u,q⟩
 ·simp only[Rep];exact⟨T,_,rfl,qg,.cons (hx.same gs) %[hy.same gs|0]⟩
theorem qid{G:Hp}{a:Addr}{xs:List V}{l:List D}(h:G a=some (.lst xs)\/SqL K Hv a xs)(r:ql κ G l xs):ItR κ Hv G (Ite K a) (Qu l):=by
 intro i G1 H1 s1 s2 s3;have hq:SqL K H1 a xs:=h.elim (λz=>SqL.of (s3 _ _ (s1 _ _ z))) λz=>s2.seq z;have hlen:(Qu l).length=l.length:=by simp[Qu]
 refine⟨λd e=>?_,λe=>⟨xs,hq,by rw[<-r.len];omega⟩⟩;have hi:i < l.length:=by rw[<-hlen];exact(List.getElem?_eq_some_iff.mp e).1
 have e0:(Qu l)[i]?=some (.tup [.int i,l[i]]):=by unfold Qu;rw[List.getElem?_zipWith];simp[hi]
 rw[e0] at e;cases e;obtain⟨v,e1,e2⟩:=r.atD (List.getElem?_eq_getElem hi);refine⟨⟨xs,v,hq,e1⟩,λx H' z=>?_⟩;obtain⟨T,x',rfl,hT,rfl,z2⟩:=z
 have:=z2 xs hq
 rw[e1] at this;cases this;exact qbG s3 hT (by simp only[Rep]) (e2.same s1)
theorem qie{G:Hp}{a b:Addr}{xs ys:List V}{l n:List D}(h:G a=some (.lst xs)\/SqL K Hv a xs)(r:ql κ G l xs)(h':G b=some (.lst ys)\/SqL K Hv b ys)(r':ql κ G n ys):ItR κ Hv G (Itz K a b) (qax l n):=by
 intro i G1 H1 s1 s2 s3;have hq:SqL K H1 a xs:=h.elim (λz=>SqL.of (s3 _ _ (s1 _ _ z))) λz=>s2.seq z;have hq':SqL K H1 b ys:=h'.elim (λz=>SqL.of (s3 _ _ (s1 _ _ z))) λz=>s2.seq z;have hlen:(qax l n).length=min l.length n.length:=by simp[qax]
 have l1:=r.len;have l2:=r'.len;refine⟨λd e=>?_,λe=>⟨xs,ys,hq,hq',by omega⟩⟩;have hi:i < min l.length n.length:=by rw[<-hlen];exact(List.getElem?_eq_some_iff.mp e).1
 have i1:i < l.length:=by omega
 have i2:i < n.length:=by omega
 have e0:(qax l n)[i]?=some (.tup [l[i],n[i]]):=by unfold qax;rw[List.getElem?_zipWith];simp[i1,i2]
 rw[e0] at e;cases e;obtain⟨v,e1,e2⟩:=r.atD (List.getElem?_eq_getElem i1);obtain⟨w,e3,e4⟩:=r'.atD (List.getElem?_eq_getElem i2);refine⟨⟨xs,ys,v,w,hq,hq',e1,e3⟩,λx H' z=>?_⟩;obtain⟨T,x',y',rfl,hT,rfl,z2⟩:=z;obtain⟨z3,z4⟩:=z2 xs ys hq hq';rw[e1] at z3;rw[e3] at z4;cases z3;cases z4;exact qbG s3 hT (e2.same s1) (e4.same s1)
theorem yF{i:Int}(h:zl i=true):-(2 ^ 62)<=i/\i < 2 ^ 62:=by
 unfold zl at h
 simpa [Bool.and_eq_true] using h
theorem qdq(gd:Gd κ K k X Γ)(A:All κ K k X Γ m)(tg e:Expr)(x:I)(h:(cL m Γ e).map .seq=some x):PI X tg e (tI κ K Gv Hv (iI Γ.k x)):=by
 obtain⟨a',h1,rfl⟩:=map_some h;refine PI.imp (qet (A.l Gv Hv _ _ h1)) λσ H Q hq1=>?_;obtain⟨ρ,G,er,h⟩:=hq1;refine⟨ρ,G,er,Wk.mono (Wk.th (x:=jo a' (iR Γ.k a') ρ) h) λx h v G1 H1 p1 r1=>?_⟩;obtain⟨⟨b,l⟩,ρ1⟩:=x
 cases b with
 |str=>obtain⟨y,rfl,rfl⟩:=r1;exact .inr ⟨y,rfl,h _ G1 H1 p1 qic⟩
 |tup=>obtain⟨a,xs,rfl,r2,r3⟩:=r1;exact .inl ⟨a,rfl,.inr ⟨⟨xs,SqT.of (p1.er.sub _ _ r3)⟩,h _ G1 H1 p1 (by rw[gd.hK];exact qeu r3 r2)⟩⟩
 |lst=>obtain⟨a,xs,rfl,r2,r3⟩:=r1;refine .inl ⟨a,rfl,.inl ⟨⟨xs,?_⟩,h _ G1 H1 p1 (by rw[gd.hK];exact qbF r3 r2)⟩⟩;rw[gd.hK];exact r3.elim (λz=>SqL.of (p1.er.sub _ _ z)) λz=>p1.er.base.seq z
theorem JO{a b:Expr}{env:PySem.Env}(h1:qp a=false)(h2:qp b=false):starEach [a,b] env=[(false,eval a env),(false,eval b env)]:=by rw[qe h1,qe h2];rfl
theorem qbH{G H:Hp}{ρ:Env}{σ:L2.St}{a:Addr}{xs:List V}(gd:Gd κ K k X Γ)(er:ER κ K Gv Hv G H ρ σ)(r:G a=some (.lst xs)\/SqL K Hv a xs):∃xs,SqL X.K H a xs:=by rw[gd.hK];exact⟨xs,r.elim (λz=>SqL.of (er.sub _ _ z)) λz=>er.base.seq z⟩
theorem qfQ(gd:Gd κ K k X Γ)(A:All κ K k X Γ m)(tg a:Expr)(f:Str)(p q:Pos)(x:I)(hg:Gl X f)(h:oif (!qp a) (if f = "range" then (cE m Γ a).map .rng else if f = "enumerate" then oif (qcv tg) ((cL m Γ a).map .enum) else if f = "reversed" then (cL m Γ a).map .rev else none)=some x) :
  PI X tg (.Call (.Name f p) [a] [] q) (tI κ K Gv Hv (iI Γ.k x)):=by
 obtain⟨hs,h⟩:=qi h;have hs:qp a=false:=by simpa using hs
 by_cases h1:f = "range"
 ·subst h1;rw[if_pos rfl] at h;obtain⟨a',h1,rfl⟩:=map_some h;refine PI.imp (qaG hg (gd.blt _ (2:)) (qj (A.r Gv Hv _ _ h1) qw (qe hs)) (qe hs)) λσ H Q hq1=>?_;obtain⟨ρ,G,er,h⟩:=hq1;refine⟨ρ,G,er,Wk.mono (Wk.th (x:=iR Γ.k a' ρ) h) λx h v G1 H1 p1 r1=>?_⟩
  cases e1:x.1.int? with
  |none=>rw[e1] at h;exact False.elim h
  |some n=>
   rw[e1] at h;obtain⟨hz,h⟩:=Wk.iff h;obtain⟨z1,z2⟩:=yF hz;refine⟨n,by rw[r1.int e1],z1,z2,h _ G1 H1 p1 ?_⟩
   have:=qev (κ:=κ) (Hv:=Hv) (G:=G1) (lo:=0) (hi:=n)
   rw[Int.sub_zero] at this;exact this
 rw[if_neg h1] at h
 by_cases h2:f = "enumerate"
 ·subst h2;rw[if_pos rfl] at h;obtain⟨ht,h⟩:=qi h;obtain⟨a',h1,rfl⟩:=map_some h
  cases tg with
  |Tuple es j tp=>
   refine PI.imp (qfo hg (gd.blt _ (2:)) (qj (A.l Gv Hv _ _ h1) qw (qe hs)) (qe hs)) λσ H Q hq1=>?_;obtain⟨ρ,G,er,h⟩:=hq1;refine⟨ρ,G,er,Wk.mono (Wk.th (x:=jo a' (iR Γ.k a') ρ) h) λx h v G1 H1 p1 r1=>?_⟩;obtain⟨⟨b,l⟩,ρ1⟩:=x
   cases b with
   |lst=>obtain⟨c,xs,rfl,r2,r3⟩:=r1;exact⟨c,rfl,qbH gd p1.er r3,h _ G1 H1 p1 (by rw[gd.hK];exact qid r3 r2)⟩
   |_=>exact False.elim h
  |_=>cases ht
 rw[if_neg h2] at h
 by_cases h3:f = "reversed"
 ·subst h3;rw[if_pos rfl] at h;obtain⟨a',h1,rfl⟩:=map_some h;refine PI.imp (qhx hg (gd.blt _ (2:)) (qj (A.l Gv Hv _ _ h1) qw (qe hs)) (qe hs)) λσ H Q hq1=>?_;obtain⟨ρ,G,er,h⟩:=hq1;refine⟨ρ,G,er,Wk.mono (Wk.th (x:=jo a' (iR Γ.k a') ρ) h) λx h v G1 H1 p1 r1=>?_⟩;obtain⟨⟨b,l⟩,ρ1⟩:=x
  cases b with
  |lst=>obtain⟨c,xs,rfl,r2,r3⟩:=r1;refine⟨c,xs,rfl,?_,h _ G1 H1 p1 (by rw[gd.hK];exact qib r3 r2)⟩;rw[gd.hK];exact r3.elim (λz=>SqL.of (p1.er.sub _ _ z)) λz=>p1.er.base.seq z
  |_=>exact False.elim h
 rw[if_neg h3] at h;cases h
theorem qfR(gd:Gd κ K k X Γ)(A:All κ K k X Γ m)(tg a b:Expr)(f:Str)(p q:Pos)(x:I)(hg:Gl X f)(h:oif (!(qp a||qp b)) (if f = "range" then o2 (cE m Γ a) (cE m Γ b) .rng2 else if f = "zip" then oif (qcv tg) (o2 (cL m Γ a) (cL m Γ b) .zip) else none)=some x) :
  PI X tg (.Call (.Name f p) [a,b] [] q) (tI κ K Gv Hv (iI Γ.k x)):=by
 obtain⟨hs,h⟩:=qi h;have hs:(qp a||qp b)=false:=by simpa using hs
 rw[Bool.or_eq_false_iff] at hs;obtain⟨s1,s2⟩:=hs
 by_cases h1:f = "range"
 ·subst h1;rw[if_pos rfl] at h;obtain⟨a',b',h1,h2,rfl⟩:=qh h;refine PI.imp (qaH hg (gd.blt _ (2:)) (qj (A.r Gv Hv _ _ h1) (qj (A.r Gv Hv _ _ h2) qw (qe s2)) (qe s1)) (JO s1 s2) (qe s2)) λσ H Q hq1=>?_;obtain⟨ρ,G,er,h⟩:=hq1;refine⟨ρ,G,er,Wk.mono (Wk.th (x:=iR Γ.k a' ρ) h) λx h v G1 H1 p1 r1=>⟨x.2,G1,p1.er,Wk.mono (Wk.th (x:=iR Γ.k b' x.2) h) λy h w G2 H2 p2 r2=>?_⟩⟩
  cases e1:x.1.int? with
  |none=>rw[e1] at h;exact False.elim h
  |some i=>
   cases e2:y.1.int? with
   |none=>rw[e1,e2] at h;exact False.elim h
   |some j=>rw[e1,e2] at h;obtain⟨hz,h⟩:=Wk.iff h;obtain⟨z1,z2⟩:=yF hz.1;obtain⟨z3,z4⟩:=yF hz.2;exact⟨i,j,by rw[r1.int e1,r2.int e2],⟨z1,z2,z3,z4⟩,h _ G2 H2 (p1.trans p2) qev⟩
 rw[if_neg h1] at h
 by_cases h2:f = "zip"
 ·subst h2;rw[if_pos rfl] at h;obtain⟨ht,h⟩:=qi h;obtain⟨a',b',h1,h2,rfl⟩:=qh h
  cases tg with
  |Tuple es j tp=>
   refine PI.imp (qhv hg (gd.blt _ (2:)) (qj (A.l Gv Hv _ _ h1) (qj (A.l Gv Hv _ _ h2) qw (qe s2)) (qe s1)) (JO s1 s2) (qe s2)) λσ H Q hq1=>?_;obtain⟨ρ,G,er,h⟩:=hq1;refine⟨ρ,G,er,Wk.mono (Wk.th (x:=jo a' (iR Γ.k a') ρ) h) λx h v G1 H1 p1 r1=>⟨x.2,G1,p1.er,Wk.mono (Wk.th (x:=jo b' (iR Γ.k b') x.2) h) λy h w G2 H2 p2 r2=>?_⟩⟩;obtain⟨⟨bx,l⟩,ρ1⟩:=x;obtain⟨⟨by',n⟩,ρ2⟩:=y
   cases bx with
   |lst=>
    cases by' with
    |lst=>obtain⟨c,xs,rfl,r3,r4⟩:=r1;obtain⟨d,ys,rfl,r5,r6⟩:=r2;have r4':G2 c=some (.lst xs)\/SqL K Hv c xs:=r4.imp (λz=>p2.gs _ _ z) id;exact⟨c,d,rfl,qbH gd p2.er r4',qbH gd p2.er r6,h _ G2 H2 (p1.trans p2) (by rw[gd.hK];exact qie r4' (r3.same p2.gs) r6 r5)⟩
    |_=>exact False.elim h
   |_=>exact False.elim h
  |_=>cases ht
 rw[if_neg h2] at h;cases h
theorem qif{x y z:Rv}{l:List D}(h:rg3 x y z=.ok l):∃i j c,x.int?=some i/\y.int?=some j/\z.int?=some c/\(-(2 ^ 60)<=i/\i < 2 ^ 60/\-(2 ^ 60)<=j/\j < 2 ^ 60/\0 < c/\c < 2 ^ 30)/\l=jO i j c:=by
 unfold rg3 at h
 split at h
 ·rename_i i j c e1 e2 e3
  split at h
  ·rename_i hb;cases h;unfold rgB at hb;simp only[Bool.and_eq_true,decide_eq_true_eq] at hb;exact⟨i,j,c,e1,e2,e3,by omega,rfl⟩
  ·cases h
 ·cases h
theorem qfS(gd:Gd κ K k X Γ)(A:All κ K k X Γ m)(tg a b c:Expr)(f:Str)(p q:Pos)(x:I)(hg:Gl X f)(h:oif (!(qp a||qp b||qp c)) (if f = "range" then o2 (cE m Γ a) (o2 (cE m Γ b) (cE m Γ c) Prod.mk) λa p=>.rng3 a p.1 p.2 else none)=some x) :
  PI X tg (.Call (.Name f p) [a,b,c] [] q) (tI κ K Gv Hv (iI Γ.k x)):=by
 obtain⟨hs,h⟩:=qi h;have hs:(qp a||qp b||qp c)=false:=by simpa using hs
 rw[Bool.or_eq_false_iff,Bool.or_eq_false_iff] at hs;obtain⟨⟨s1,s2⟩,s3⟩:=hs
 by_cases hr:f = "range"
 case neg=>rw[if_neg hr] at h;cases h
 subst hr;rw[if_pos rfl] at h;obtain⟨a',y,h1,h2,rfl⟩:=qh h;obtain⟨b',c',h3,h4,rfl⟩:=qh h2;have two:starEach [b,c] X.env=[(false,eval b X.env),(false,eval c X.env)]:=JO s2 s3
 have three:starEach [a,b,c] X.env=[(false,eval a X.env),(false,eval b X.env),(false,eval c X.env)]:=by rw[qe s1,two]
 refine PI.imp (qbk hg (gd.blt _ (2:)) (qj (A.r Gv Hv _ _ h1) (qj (A.r Gv Hv _ _ h3) (qj (A.r Gv Hv _ _ h4) qw (qe s3)) (qe s2)) (qe s1)) three two) λσ H Q hq1=>?_;obtain⟨ρ,G,er,h⟩:=hq1;refine⟨ρ,G,er,Wk.mono (Wk.th (x:=iR Γ.k a' ρ) h) λx h v G1 H1 p1 r1=>⟨x.2,G1,p1.er,Wk.mono (Wk.th (x:=iR Γ.k b' x.2) h) λy h w G2 H2 p2 r2=>⟨y.2,G2,p2.er,Wk.mono (Wk.th (x:=iR Γ.k c' y.2) h) λz h u G3 H3 p3 r3=>?_⟩⟩⟩;have h:=Wk.th (x:=rg3 x.1 y.1 z.1) h
 cases e:rg3 x.1 y.1 z.1 with
 |ok l=>rw[e] at h;obtain⟨i,j,k',e1,e2,e3,hb,rfl⟩:=qif e;exact⟨i,j,k',by rw[r1.int e1,r2.int e2,r3.int e3],hb,h _ G3 H3 ((p1.trans p2).trans p3) qfP⟩
 |exc c l=>rw[e] at h;exact False.elim h
 |no=>rw[e] at h;exact False.elim h
theorem ql7(gd:Gd κ K k X Γ)(A:All κ K k X Γ m)(tg e:Expr)(x:I)(h:cI (m+1) Γ (qcv tg) e=some x):PI X tg e (tI κ K Gv Hv (iI Γ.k x)):=by
 cases e with
 |Call fn es kws q=>
  cases fn with
  |Name f p=>
   cases kws with
   |nil=>
    have h:(if (decide (f = "range")||decide (f = "enumerate")||decide (f = "zip")||decide (f = "reversed"))=true then _ else _)=some x:=h
    by_cases hf:(decide (f = "range")||decide (f = "enumerate")||decide (f = "zip")||decide (f = "reversed"))=true
    ·rw[if_pos hf] at h;obtain⟨hn,h⟩:=qi h;simp only[Bool.and_eq_true] at hn;have hg:=gd.glo _ hn.1.2
     match es,h with
     |[a],h=>exact qfQ gd A tg a f p q x hg h
     |[a,b],h=>exact qfR gd A tg a b f p q x hg h
     |[a,b,c],h=>exact qfS gd A tg a b c f p q x hg h
     |[],h=>cases h
     | _::_::_::_::_,h=>cases h
    ·rw[if_neg hf] at h;exact qdq gd A tg _ x h
   |cons kw kws=>exact qdq gd A tg _ x h
  |_=>exact qdq gd A tg _ x h
 |_=>exact qdq gd A tg _ x h
end
end DE
namespace DE
open PySem PySem.Spec PyProof.Rows L2
section
variable{κ:KC}{K:Frag}{Gv Hv:Hp}{k m:Nat}{X:Cx}{Γ:Ct}{x:E}
theorem yG:∀{m:Nat} {es:List Expr} {l:Es},cAs m Γ es=some l->es.any qp=false
 |0,_,_,h=>nomatch h
 | m+1,[],_,_=>rfl
 | m+1,e::es,_,h=>by
  obtain⟨hs,h⟩:=qi h;obtain⟨a,b,_,h2,_⟩:=qh h;rw[List.any_cons,yG h2,Bool.or_false]
  simpa using hs
theorem yH{m:Nat}{l:Es}(h:cAs m Γ []=some l):l=.nil:=by
 cases m<;>cases h
 rfl
theorem qz{env:PySem.Env}{pos:Pos}:∀{es:List Expr},es.any qp=false->(backTo pos (starEach es env)).any (·.1)=false
 |[],_=>rfl
 | e::l,h=>by simp only[List.any_cons,Bool.or_eq_false_iff] at h;rw[qe h.1];show(false||(backTo pos (starEach l env)).any (·.1))=false;rw[qz h.2];rfl
theorem ReR.rv{G H G1 H1 G2 H2:Hp}{ρ ρ1:Env}{σ:L2.St}{r:Rv}{v:V}(p:Po κ K Gv Hv σ G H ρ G1 H1 ρ1)(hs:qo H1 H2)(gs:qo G1 G2)(sub:qo G2 H2)(new:∀a o,G2 a=some o->(∃o',G1 a=some o')\/H1 a=none)(h:ReR κ G2 H2 H1 r v) :
  Po κ K Gv Hv σ G H ρ G2 H2 ρ1/\RvR κ K Hv H G2 H2 ρ1 σ r v:=by
 refine⟨p.trans (Po.more p.er hs gs sub new),?_⟩
 cases r with
 |val d=>exact h
 |tmp ds=>obtain⟨a,xs,rfl,h1,h2,h3,h4⟩:=h;exact⟨a,xs,rfl,h1,qo.none p.hs h2,qo.none p.er.base h2,h3,p.er.notOwn h2,h4⟩
 |cell ds=>exact False.elim h
 |scr ds=>exact False.elim h
theorem qdr(gd:Gd κ K k X Γ)(A:All κ K k X Γ m)(f:Str)(es:List Expr)(p q:Pos)(hok:zf f=true)(hgl:glB Γ.sc f=true)(ht:Γ.tab.contains f=true)(h:(cAs m Γ es).map (.call f)=some x):PE X (.Call (.Name f p) es [] q) (tR κ K Gv Hv (iR Γ.k x)):=by
 obtain⟨l',h1,rfl⟩:=map_some h;have hs:=yG h1;obtain⟨fa,fd,ps,F,hm,hk,hb⟩:=gd.fns f ht;obtain⟨n1,n2,n3⟩:=qF hok
 have key:∀σ H Q,tR κ K Gv Hv (iR Γ.k (.call f l')) σ H Q->qaP (spF κ K Γ.cl f) [] E0 (tAs κ K Gv Hv (iAs Γ.k l')) σ H Q:=λσ H Q ⟨ρ,G,er,h⟩=>by refine⟨ρ,G,er,Wk.mono (Wk.th (x:=iAs Γ.k l' ρ) h) λx h vs G1 H1 p1 r1=>?_⟩;show spF κ K Γ.cl f (vs++[]) H1 Q E0;rw[List.append_nil];refine⟨G1,x.1,p1.er.sub,r1,Wk.mono (Wk.th h) λr h v G2 H2 hs gs sub new rr=>?_⟩;obtain⟨z1,z2⟩:=ReR.rv p1 hs gs sub new rr;exact h v G2 H2 z1 z2
 cases es with
 |nil=>obtain rfl:=yH h1;refine PE.imp (Q5 F gd.room (gd.glo f hgl) hm hk hb .nil jl n1) λσ H Q h=>?_;obtain⟨ρ,G,er,h⟩:=key σ H Q h;exact h [] G H (Po.refl er) rfl
 |cons e l=>simp only[List.any_cons,Bool.or_eq_false_iff] at hs;exact PE.imp (jk F gd.room (gd.glo f hgl) hm hk hb .nil jl (A.as Gv Hv _ _ h1) n1 (qe hs.1) (qz hs.2)) key
theorem Qz:∀{m:Nat} {es:List Expr} {l:Es},cEs m Γ es=some l->es.any qp=false
 |0,_,_,h=>nomatch h
 | m+1,[],_,_=>rfl
 | m+1,e::es,_,h=>by
  obtain⟨hs,h⟩:=qi h;obtain⟨a,b,_,h2,_⟩:=qh h;rw[List.any_cons,Qz h2,Bool.or_false]
  simpa using hs
theorem qbI{G H:Hp}:∀{ds:List D} {vs:List V},ql κ G ds vs->jD κ K G H (ds.map .val) vs
 |[],vs,h=>by
  show vs=[]
  simpa only[ql] using h
 | d::ds,vs,h=>by simp only[ql] at h;obtain⟨v,r,rfl,h1,h2⟩:=h;exact⟨v,r,rfl,h1,qbI h2⟩
theorem qds(gd:Gd κ K k X Γ)(A:All κ K k X Γ m)(f:Str)(es:List Expr)(p q:Pos)(hok:zf f=true)(hgl:glB Γ.sc f=true)(ht:Γ.tab.contains f=true)(h:(cEs m Γ es).map (.calF f)=some x):PE X (.Call (.Name f p) es [] q) (tR κ K Gv Hv (iR Γ.k x)):=by
 obtain⟨l',h1,rfl⟩:=map_some h;have hs:=Qz h1;obtain⟨fa,fd,ps,F,hm,hk,hb⟩:=gd.fns f ht;obtain⟨n1,n2,n3⟩:=qF hok
 have key:∀σ H Q,tR κ K Gv Hv (iR Γ.k (.calF f l')) σ H Q->qaP (spF κ K Γ.cl f) [] E0 (tEs κ K Gv Hv (iEs Γ.k l')) σ H Q:=λσ H Q ⟨ρ,G,er,h⟩=>by refine⟨ρ,G,er,Wk.mono (Wk.th (x:=iEs Γ.k l' ρ) h) λx h vs G1 H1 p1 r1=>?_⟩;show spF κ K Γ.cl f (vs++[]) H1 Q E0;rw[List.append_nil];refine⟨G1,x.1.map .val,p1.er.sub,qbI r1,Wk.mono (Wk.th h) λr h v G2 H2 hs gs sub new rr=>?_⟩;obtain⟨z1,z2⟩:=ReR.rv p1 hs gs sub new rr;exact h v G2 H2 z1 z2
 cases es with
 |nil=>
  have e:l'=.nil:=by cases m<;>cases h1;rfl
  subst e;refine PE.imp (Q5 F gd.room (gd.glo f hgl) hm hk hb .nil jl n1) λσ H Q h=>?_;obtain⟨ρ,G,er,h⟩:=key σ H Q h;exact h [] G H (Po.refl er) .nil
 |cons e l=>simp only[List.any_cons,Bool.or_eq_false_iff] at hs;exact PE.imp (jk F gd.room (gd.glo f hgl) hm hk hb .nil jl (A.es Gv Hv _ _ h1) n1 (qe hs.1) (qz hs.2)) key
theorem qdt(gd:Gd κ K k X Γ)(A:All κ K k X Γ m)(f:Str)(a:Expr)(p q:Pos)(hgl:glB Γ.sc f=true)(h:oif (!qp a) (o2 (qkp f) (cE m Γ a) E.b1)=some x):PE X (.Call (.Name f p) [a] [] q) (tR κ K Gv Hv (iR Γ.k x)):=by
 obtain⟨hs,h⟩:=qi h;have s1:qp a=false:=by simpa using hs
 obtain⟨y,a',h1,h2,rfl⟩:=qh h
 have key:∀σ H Q,tR κ K Gv Hv (iR Γ.k (.b1 y a')) σ H Q->tCB (rC1 κ K Gv Hv y.go) (qcJ (tR κ K Gv Hv (iR Γ.k a')) qgE) σ H Q:=λσ H Q ⟨ρ,G,er,h⟩=>⟨ρ,G,er,Wk.mono (Wk.th (x:=iR Γ.k a' ρ) h) λx h v G1 H1 p1 r1=>⟨x.2,σ,G1,H,x.1,v,rfl,p1.er,r1,Wk.mono (Wk.th h) λz h u G2 H2 p2 r2=>h u G2 H2 (p1.trans p2) (r2.back p1.hs)⟩⟩
 have pa:=qj (A.r Gv Hv _ _ h2) qw (qe s1);unfold qkp at h1
 split at h1
 ·rename_i e;cases h1;subst e;exact PE.imp (zd (qhT (Gv:=Gv) (Hv:=Hv) gd) (gd.glo _ hgl) (gd.blt _ (2:)) PySem.boot_len pa (2:) (2:) (qe s1) rfl) key
 split at h1
 ·rename_i e;cases h1;subst e;exact PE.imp (qJ (qfI (Gv:=Gv) (Hv:=Hv) gd) (gd.glo _ hgl) (gd.blt _ (2:)) PyProof.Rows.boot_list pa (2:) (2:) (qe s1) rfl) key
 split at h1
 ·rename_i e;cases h1;subst e;exact PE.imp (qJ (qhX (κ:=κ) (K:=K) (Gv:=Gv) (Hv:=Hv)) (gd.glo _ hgl) (gd.blt _ (2:)) PyProof.Rows.boot_int pa (2:) (2:) (qe s1) rfl) key
 split at h1
 ·rename_i e;cases h1;subst e;exact PE.imp (zd (qbB (Gv:=Gv) (Hv:=Hv) gd) (gd.glo _ hgl) (gd.blt _ (2:)) PyProof.Rows.boot_sorted pa (2:) (2:) (qe s1) rfl) key
 split at h1
 ·rename_i e;cases h1;subst e;exact PE.imp (zd (qhU (Gv:=Gv) (Hv:=Hv) gd) (gd.glo _ hgl) (gd.blt _ (2:)) PyProof.Rows.boot_sum pa (2:) (2:) (qe s1) rfl) key
 split at h1
 ·rename_i e;cases h1;subst e;exact PE.imp (zd (qhV (Gv:=Gv) (Hv:=Hv) gd) (gd.glo _ hgl) (gd.blt _ (2:)) PyProof.Rows.boot_all pa (2:) (2:) (qe s1) rfl) key
 split at h1
 ·rename_i e;cases h1;subst e;exact PE.imp (qJ (qhW (κ:=κ) (K:=K) (Gv:=Gv) (Hv:=Hv)) (gd.glo _ hgl) (gd.blt _ (2:)) PyProof.Rows.boot_str pa (2:) (2:) (qe s1) rfl) key
 split at h1
 ·rename_i e;cases h1;subst e;exact PE.imp (qJ (qdk (Gv:=Gv) (Hv:=Hv) gd) (gd.glo _ hgl) (gd.blt _ (2:)) PyProof.Rows.boot_tuple pa (2:) (2:) (qe s1) rfl) key
 cases h1
theorem qig{f:Str}{a:Expr}{t:Expr×Expr}(h:lrE Γ f a=some t):f = "list"/\∃p q,a=.Call (.Name "range" p) [t.1,t.2] [] q/\glB Γ.sc "range" = true/\qp t.1=false/\qp t.2=false:=by
 unfold lrE at h
 split at h
 ·split at h
  ·rename_i hc;cases h;obtain⟨h0,rfl,h1,h2,h3⟩:=hc;exact⟨h0,_,_,rfl,h1,h2,h3⟩
  ·cases h
 ·cases h
theorem qih{x y r:Rv}(h:lrD x y=.ok r):∃i j,x.int?=some i/\y.int?=some j/\Yz i=true/\Yz j=true/\(j - i).toNat<=10000/\r=.tmp (zk i j):=by
 unfold lrD at h
 split at h
 ·rename_i i j e1 e2
  split at h
  ·rename_i hc;cases h;exact⟨i,j,e1,e2,hc.1,hc.2.1,hc.2.2,rfl⟩
  ·cases h
 ·cases h
theorem qfT(G:Hp)(i:Int)(l:List Nat):ql κ G (l.map λk:Nat=>D.int (i+k)) (l.map λk:Nat=>V.int (i+k)):=by
 induction l with
 |nil=>exact .nil
 |cons k l ih=>exact .cons (by simp only[Rep]) ih
theorem qkw(gd:Gd κ K k X Γ)(A:All κ K k X Γ m)(f:Str)(a:Expr)(p q:Pos)(hgl:glB Γ.sc f=true){t:Expr×Expr}(ht:lrE Γ f a=some t)(h:o2 (cE m Γ t.1) (cE m Γ t.2) (.b2 .rng)=some x):PE X (.Call (.Name f p) [a] [] q) (tR κ K Gv Hv (iR Γ.k x)):=by
 obtain⟨a',b',h1,h2,rfl⟩:=qh h;obtain⟨rfl,p',q',rfl,hg,s1,s2⟩:=qig ht;refine PE.imp (qJ (Z6 gd.calm) (gd.glo _ hgl) (gd.blt _ (2:)) PyProof.Rows.boot_list (qj (qJ qbm (gd.glo _ hg) (gd.blt _ (2:)) PyProof.Rows.boot_range (qj (A.r Gv Hv _ _ h1) (qj (A.r Gv Hv _ _ h2) qw (qe s2)) (qe s1)) (2:) (2:) (qe s1) (qz (by simp[s2]))) qw rfl) (2:) (2:) rfl rfl) λσ H Q hq1=>?_;obtain⟨ρ,G,er,h⟩:=hq1;refine⟨ρ,G,er,Wk.mono (Wk.th (x:=iR Γ.k a' ρ) h) λx h v G1 H1 p1 r1=>⟨x.2,G1,p1.er,Wk.mono (Wk.th (x:=iR Γ.k b' x.2) h) λy h w G2 H2 p2 r2=>?_⟩⟩;have h:=Wk.th (x:=lrD x.1 y.1) h
 cases e3:lrD x.1 y.1 with
 |exc c l=>rw[e3] at h;exact h.elim
 |no=>rw[e3] at h;exact h.elim
 |ok r=>
 rw[e3] at h;obtain⟨i,j,z1,z2,z3,z4,z5,rfl⟩:=qih e3;refine⟨i,j,by rw[(r1.keep p2).int z1,r2.int z2],λd hd=>⟨d,i,j,rfl,qg,?_,z5,λc hc=>?_⟩⟩
 ·unfold Yz at z3 z4;simp only[Bool.and_eq_true,decide_eq_true_eq] at z3 z4;exact⟨z3.1,z3.2,z4.1,z4.2⟩
 ·have p3:=Po.room p2.er (qo.upd (o:=HO.rng i j) hd);have rr:ql κ G2 (zk i j) (rgV i (j - i).toNat):=qfT G2 i _;obtain⟨y1,y2⟩:=p3.er.newList hc rr;exact h _ _ _ (p1.trans (p2.trans (p3.trans y1))) (y2.back (p1.trans (p2.trans p3)).hs)
theorem qdu(gd:Gd κ K k X Γ)(A:All κ K k X Γ m)(f:Str)(a b:Expr)(p q:Pos)(hgl:glB Γ.sc f=true)(h:oif (!(qp a||qp b)) (o2 (qkq f) (o2 (cE m Γ a) (cE m Γ b) Prod.mk) λf p=>E.b2 f p.1 p.2)=some x):PE X (.Call (.Name f p) [a,b] [] q) (tR κ K Gv Hv (iR Γ.k x)):=by
 obtain⟨hs,h⟩:=qi h;have hs:(qp a||qp b)=false:=by simpa using hs
 rw[Bool.or_eq_false_iff] at hs;obtain⟨s1,s2⟩:=hs;obtain⟨y,z,h1,h2,rfl⟩:=qh h;obtain⟨a',b',h3,h4,rfl⟩:=qh h2
 have key:∀σ H Q,tR κ K Gv Hv (iR Γ.k (.b2 y a' b')) σ H Q->tCB (rC2 κ K Gv Hv y.go) (qcJ (tR κ K Gv Hv (iR Γ.k a')) (qcJ (tR κ K Gv Hv (iR Γ.k b')) qgE)) σ H Q:=λσ H Q ⟨ρ,G,er,h⟩=>⟨ρ,G,er,Wk.mono (Wk.th (x:=iR Γ.k a' ρ) h) λx h v G1 H1 p1 r1=>⟨x.2,G1,p1.er,Wk.mono (Wk.th (x:=iR Γ.k b' x.2) h) λy h w G2 H2 p2 r2=>⟨y.2,σ,G2,H,H1,x.1,y.1,v,w,rfl,p2.er,r1.keep p2,r2,Wk.mono (Wk.th h) λz h u G3 H3 p3 r3=>h u G3 H3 (p1.trans (p2.trans p3)) (r3.back (p1.trans p2).hs)⟩⟩⟩
 have sa:(backTo q (starEach [b] X.env)).any (·.1)=false:=qz (by simp[s2]);have pa:=qj (A.r Gv Hv _ _ h3) (qj (A.r Gv Hv _ _ h4) qw (qe s2)) (qe s1);unfold qkq at h1
 split at h1
 ·rename_i e;cases h1;subst e;exact PE.imp (zd (qhY (Gv:=Gv) (Hv:=Hv) gd) (gd.glo _ hgl) (gd.blt _ (2:)) PyProof.Rows.boot_max pa (2:) (2:) (qe s1) sa) key
 split at h1
 ·rename_i e;cases h1;subst e;exact PE.imp (zd (qhZ (Gv:=Gv) (Hv:=Hv) gd) (gd.glo _ hgl) (gd.blt _ (2:)) PyProof.Rows.boot_min pa (2:) (2:) (qe s1) sa) key
 cases h1
theorem qfU:bootBuiltins "ValueError" = some (.type "ValueError"):=by decide+kernel
noncomputable def tyN:D->String
 |.non=>"NoneType" |.bl _=>"bool" |.int _=>"int" |.str _=>"str" |.lst _=>"list" |.tup _=>"tuple" |.ins ..=>"object" |.exc ..=>"object" |.dct ..=>"object"
def Ty.nm:Ty->String
 |.int=>"int" |.bool=>"bool" |.str=>"str" |.list=>"list" |.tuple=>"tuple"
theorem qkx{G H Hb:Hp}{ρ:Env}{σ:L2.St}{r:Rv}{x:V}{t:Ty}{b:Bool}(er:ER κ K Gv Hv G H ρ σ)(h:RvR κ K Hv Hb G H ρ σ r x)(e:t.go r=some b):TyOf K H x (.type (tyN r.data)):=by
 cases r with
 |val d=>
  cases d<;>simp only[RvR,Rep] at h
  ·subst h;exact .non
  ·subst h;exact .bl _
  ·subst h;exact .int _
  ·subst h;exact .str _
  ·obtain⟨a,xs,rfl,h1,_⟩:=h;exact .lst (er.sub _ _ h1)
  ·obtain⟨a,xs,rfl,h1,_⟩:=h;exact .tup (er.sub _ _ h1)
  ·cases t<;>cases e
  ·cases t<;>cases e
  ·cases t<;>cases e
 |tmp l=>obtain⟨a,xs,rfl,h1,_⟩:=h;exact .lst h1
 |cell l=>obtain⟨a,xs,rfl,h1,_⟩:=h;exact .lst h1
 |scr l=>cases e
theorem qii{r:Rv}{t:Ty}{b:Bool}(e:t.go r=some b):PySem.W.kitOne K (.type (tyN r.data)) (.type t.nm)=some b:=by
 have main:∀d:D,t.of d=some b->PySem.W.kitOne K (.type (tyN d)) (.type t.nm)=some b:=λd e=>by cases t<;>cases d<;>cases e<;>rfl
 cases r with
 |val d=>exact main d e
 |tmp l=>exact main (.lst l) e
 |cell l=>exact main (.lst l) e
 |scr l=>cases e
theorem qbJ{X:Cx}:qH X (.builtin "isinstance") (λvs H Q=>∃x c t cv b,vs=[x,c]/\TyOf X.K H x t/\qB c cv/\(∀u,qB c u->u=cv)/\PySem.W.kitOne X.K t cv=some b/\Q (.bl b) H):=by intro pins s σ H xs us Q I r h;obtain⟨x,c,t,cv,b,rfl,ty,rc,uq,e,q⟩:=h;obtain⟨u,v,rfl,ru,rv⟩:=Jv r;obtain rfl:v=cv:=uq v rv;exact J8 I ru ty e λtk=>⟨.bl b,H,I.tok tk,rfl,q⟩
theorem qij(gd:Gd κ K k X Γ)(A:All κ K k X Γ m)(a:Expr)(t:Str)(p tp q:Pos)(hgl:glB Γ.sc "isinstance" = true)
  (h:oif (zf t&&glB Γ.sc t&&(qaw Γ.N t).isNone&&!qp a) (match qjJ t with |some y=>(cE m Γ a).map (E.isi y) |none=>(cE m Γ a).map (.isc t))=some x):PE X (.Call (.Name "isinstance" p) [a,.Name t tp] [] q) (tR κ K Gv Hv (iR Γ.k x)):=by
 obtain⟨hc,h⟩:=qi h;simp only[Bool.and_eq_true,Bool.not_eq_true'] at hc;obtain⟨⟨⟨c1,c2⟩,c3⟩,s1⟩:=hc
 cases hy:qjJ t with
 |some y=>
  rw[hy] at h;obtain⟨a',h1,rfl⟩:=map_some h
  have hb:PE X (.Name t tp) (tC (.ty y.nm)):=by
   unfold qjJ at hy
   split at hy
   ·rename_i e;cases hy;subst e;exact jM (gd.glo _ c2) (gd.blt _ (2:)) PyProof.Rows.boot_int rfl
   split at hy
   ·rename_i e;cases hy;subst e;exact jM (gd.glo _ c2) (gd.blt _ (2:)) PyProof.Rows.boot_bool rfl
   split at hy
   ·rename_i e;cases hy;subst e;exact jM (gd.glo _ c2) (gd.blt _ (2:)) PyProof.Rows.boot_str rfl
   split at hy
   ·rename_i e;cases hy;subst e;exact jM (gd.glo _ c2) (gd.blt _ (2:)) PyProof.Rows.boot_list rfl
   split at hy
   ·rename_i e;cases hy;subst e;exact jM (gd.glo _ c2) (gd.blt _ (2:)) PyProof.Rows.boot_tuple rfl
   cases hy
  refine PE.imp (zd qcU (gd.glo _ hgl) (gd.blt _ (2:)) PyProof.Rows.boot_isinstance (qj (A.r Gv Hv _ _ h1) (qj hb qw rfl) (qe s1)) (2:) (2:) (qe s1) rfl) λσ H Q hq1=>?_;obtain⟨ρ,G,er,h⟩:=hq1;refine⟨ρ,G,er,Wk.mono (Wk.th (x:=iR Γ.k a' ρ) h) λx h v G1 H1 p1 r1=>?_⟩;obtain⟨b,e1,h⟩:=Wk.of (Wk.th h);exact⟨v,y.nm,_,b,rfl,by rw[gd.hK];exact qkx p1.er r1 e1,by rw[gd.hK];exact qii e1,h _ G1 H1 p1 (by simp only[RvR,Rep])⟩
 |none=>
  rw[hy] at h;obtain⟨a',h1,rfl⟩:=map_some h;rintro pins s σ H Q I ⟨ρ,G,er,h⟩;have h2:=Wk.th (x:=iR Γ.k a' ρ) h
  cases e1:iR Γ.k a' ρ with
  |exc c l=>rw[e1] at h2;exact h2.elim
  |no=>rw[e1] at h2;exact h2.elim
  |ok x=>
   rw[e1] at h2;obtain⟨b,e2,h3⟩:=Wk.of (Wk.th (x:=R.of (Zj Γ.cs x.1 t)) h2)
   have e2:(∃c ns ds,x.1=.val (.ins c ns ds)/\Γ.cs.sub c t=some b)\/∃C ns ds,x.1=.val (.exc C ns ds)/\Γ.cs.xs C t=some b:=by
    obtain⟨r,env⟩:=x
    cases r with
    |val d=>
     cases d with
     |ins c ns ds=>exact .inl ⟨c,ns,ds,rfl,e2⟩
     |exc c ns ds=>exact .inr ⟨c,ns,ds,rfl,e2⟩
     |_=>cases e2
    |_=>cases e2
   rcases e2 with ⟨c,ns,ds,ex,e2⟩ | ⟨C,ns,ds,ex,e2⟩
   case inr=>
    obtain⟨hC,hT⟩:=gd.xsubs C t b e2
    have go:∀(c:V) (cv:Value),PE X (.Name t tp) (tC c)->qB c cv->(∀u,qB c u->u=cv)->PySem.W.kitOne X.K (.ref C) cv=some b->wpAny (model X.prog X.w) X.A (eval (.Call (.Name "isinstance" p) [a,.Name t tp] [] q) X.env) (EP X pins σ Q) X.xe s:=λc cv pc rc uq kt=>by
     refine(zd qbh (gd.glo _ hgl) (gd.blt _ (2:)) PyProof.Rows.boot_isinstance (qj (A.r Gv Hv _ _ h1) (qj pc qw rfl) (qe s1)) (2:) (2:) (qe s1) rfl) pins s σ H Q I ⟨ρ,G,er,?_⟩;rw[e1];intro v G1 H1 p1 r1;rw[ex] at r1;simp only[RvR,Rep] at r1;obtain⟨p',od,xs,rfl,h4,h5,_⟩:=r1;refine⟨p',C,od,c,cv,b,rfl,⟨p1.er.sub _ _ h4,λdd hdd=>?_⟩,hC,rc,uq,kt,h3 _ G1 H1 p1 (by simp only[RvR,Rep])⟩;rcases h5 with ⟨z,_⟩ | ⟨d2,z,z2⟩
     ·rw[z] at hdd;cases hdd
     ·rw[z] at hdd;cases hdd;exact⟨_,p1.er.sub _ _ z2⟩
    rcases hT with ⟨T,hT,kt⟩ | ⟨hT,rfl,kt⟩
    ·exact go (.ref T) (.ref T) (jL (v:=.ref T) (gd.glo _ c2) hT rfl (qF c1).1) rfl (λu hu=>hu) kt
    ·exact go (.ty "ValueError") (.type "ValueError") (jM (gd.glo _ c2) hT qfU rfl) rfl (λu hu=>hu) kt
   obtain⟨C,T,hC,hty,hT,kt⟩:=gd.subs c t b e2;refine(zd qbJ (gd.glo _ hgl) (gd.blt _ (2:)) PyProof.Rows.boot_isinstance (qj (A.r Gv Hv _ _ h1) (qj (jL (v:=.ref T) (gd.glo _ c2) hT rfl (qF c1).1) qw rfl) (qe s1)) (2:) (2:) (qe s1) rfl) pins s σ H Q I ⟨ρ,G,er,?_⟩;rw[e1];intro v G1 H1 p1 r1;rw[ex] at r1;simp only[RvR,Rep] at r1;obtain⟨p',dx,C',xs,hc',rfl,h4,hl,h5⟩:=r1;rw[hC] at hc';cases hc';exact⟨.ref p',.ref T,.ref C,.ref T,b,rfl,hty _ _ _ _ (p1.er.sub _ _ h4),rfl,λu hu=>hu,kt,h3 _ G1 H1 p1 (by simp only[RvR,Rep])⟩
theorem yI{o:Expr}(h:jC o=true)(x:Str)(env:PySem.Env):attributeBase o x env (eval o env)=eval o env:=by cases o<;>first | rfl | (simp[jC] at h)
theorem qfV{cs:Cs}{r:Rv}{x:Str}{d:D}(h:qct cs r x=some d):(∃c ns ds,r=.val (.ins c ns ds)/\cs.fld c x=true/\(ns.zip ds).lookup x=some d)\/∃C ns ds,r=.val (.exc C ns ds)/\cs.xg C x=true/\(ns.zip ds).lookup x=some d:=by
 cases r with
 |val e=>
  cases e with
  |ins c ns ds=>
   have h:(if cs.fld c x=true then (ns.zip ds).lookup x else none)=some d:=h
   by_cases hf:cs.fld c x=true
   ·rw[if_pos hf] at h;exact .inl ⟨c,ns,ds,rfl,hf,h⟩
   ·rw[if_neg hf] at h;cases h
  |exc c ns ds=>
   have h:(if cs.xg c x=true then (ns.zip ds).lookup x else none)=some d:=h
   by_cases hf:cs.xg c x=true
   ·rw[if_pos hf] at h;exact .inr ⟨c,ns,ds,rfl,hf,h⟩
   ·rw[if_neg hf] at h;cases h
  |_=>cases h
 |_=>cases h
theorem qik{cs:Cs}{r:Rv}{x f:Str}(h:mtD cs r x=some f):∃c ns ds,r=.val (.ins c ns ds)/\ns.contains x=false/\cs.mt c x=some f:=by
 cases r with
 |val e=>
  cases e with
  |ins c ns ds=>
   have h:(if ns.contains x=true then none else cs.mt c x)=some f:=h
   by_cases hf:ns.contains x=true
   ·rw[if_pos hf] at h;cases h
   ·rw[if_neg hf] at h;exact⟨c,ns,ds,rfl,by simpa using hf,h⟩
  |_=>cases h
 |_=>cases h
theorem Zr{x:Str}:∀{ns:List Str} {xs:List V},ns.contains x=false->(ns.zip xs).lookup x=none
 |[],_,_=>by simp
 | n::ns,[],_=>by simp
 | n::ns,v::xs,h=>by simp only[List.contains_cons,Bool.or_eq_false_iff] at h;rw[List.zip_cons_cons,List.lookup_cons,h.1];exact Zr h.2
theorem qil(gd:Gd κ K k X Γ)(A:All κ K k X Γ m)(o:Expr)(y:Str)(pos:Pos)(h:cE (m+1) Γ (.Attribute o y pos)=some x):PE X (.Attribute o y pos) (tR κ K Gv Hv (iR Γ.k x)):=by
 obtain⟨ho,h⟩:=qi h;obtain⟨a',h1,rfl⟩:=map_some h;rintro pins s σ H Q I ⟨ρ,G,er,h⟩;have h2:=Wk.th (x:=iR Γ.k a' ρ) h
 cases e0:iR Γ.k a' ρ with
 |exc c l=>rw[e0] at h2;exact h2.elim
 |no=>rw[e0] at h2;exact h2.elim
 |ok z=>
  rw[e0] at h2;obtain⟨d,e1,h⟩:=Wk.of (Wk.th (x:=R.of (qct Γ.cs z.1 y)) h2);rcases qfV e1 with ⟨c,ns,ds,e2,e3,e4⟩ | ⟨C,ns,ds,e2,e3,e4⟩
  ·refine qha (A.r Gv Hv _ _ h1) (yI ho y X.env) pins s σ H Q I ⟨ρ,G,er,?_⟩;rw[e0];intro v G1 H1 p1 r1;rw[e2] at r1;simp only[RvR,Rep] at r1;obtain⟨p,dx,C,xs,hc,rfl,h1,hl,h2⟩:=r1;obtain⟨u,e5,ru⟩:=yi h2 e4;exact⟨p,C,dx,_,u,rfl,p1.er.sub _ _ h1,gd.cls c C hc,gd.flds c y C e3 hc,e5,h u G1 H1 p1 ru⟩
  ·refine qfu (A.r Gv Hv _ _ h1) (yI ho y X.env) pins s σ H Q I ⟨ρ,G,er,?_⟩;rw[e0];intro v G1 H1 p1 r1;rw[e2] at r1;simp only[RvR,Rep] at r1;obtain⟨p,od,xs,rfl,h1,h3,h2⟩:=r1;obtain⟨u,e5,ru⟩:=yi h2 e4;rcases h3 with ⟨_,z⟩ | ⟨dd,rfl,h3⟩
   ·rw[z] at e4;simp at e4
   ·exact⟨p,C,dd,_,u,rfl,p1.er.sub _ _ h1,p1.er.sub _ _ h3,gd.xgs C y e3,e5,h u G1 H1 p1 ru⟩
theorem YF{o:Expr}{x:Str}{ap q:Pos}{es:List Expr}{env:PySem.Env}(ho:jC o=true)(hs:es.any qp=false)(hl:es.length < 30)(hp:(ap.endLine == q.line)=true) :
  eval (.Call (.Attribute o x ap) es [] q) env=(do
   let ov<-eval o env
   standAt ap.atName
   let (f,first)<-holding [ov] (getMethod ov x (do return (<-importBound o env).getD true))
   callWith q f first (backTo q (starEach es env)) (backToKw q (keywordEach [] env))):=by
 have hm:methodCallForm (es.length+([]:List Keyword).length) (backTo q (starEach es env)) (backToKw q (keywordEach [] env))=true:=by
  have e:=qz (pos:=q) (env:=env) hs;unfold methodCallForm;simp only[Bool.and_eq_true,decide_eq_true_eq];refine⟨⟨?_,rfl⟩,?_⟩
  ·rw[List.all_eq_true];intro y hy
   have:=List.any_eq_false.mp e y hy
   simpa using this
  ·show es.length+0+0 < 30;omega
 show(do
  let ov<-attributeBase o x env (eval o env)
  standAt ap.atName
  methodCall o x ap q env ov (es.length+([]:List Keyword).length) (backTo q (starEach es env)) (backToKw q (keywordEach [] env)))=_
 rw[yI ho];unfold methodCall;simp only[hm,calleeOf,methodCallPos,if_true,hp,Bool.not_true,Bool.false_or];rfl
theorem yJ{G:Hp}:∀{l:List D} {xs:List V} {zs:List Str},ql κ G l xs->yD l=some zs->xs=zs.map V.str
 |[],xs,zs,h,e=>by simp only[ql] at h;cases e;exact h
 | d::l,xs,zs,h,e=>by
  simp only[ql] at h;obtain⟨v,r,rfl,h1,h2⟩:=h
  cases d with
  |str z=>
   simp only[Rep] at h1;subst h1;have e:(yD l).map (z :: ·)=some zs:=e
   cases q:yD l with
   |none=>rw[q] at e;cases e
   |some ys=>rw[q] at e;cases e;rw[yJ h2 q];rfl
  |_=>cases e
theorem JP{G:Hp}:∀zs:List Str,ql κ G (zs.map D.str) (zs.map V.str)
 |[]=>.nil
 | z::zs=>.cons (by simp only[Rep]) (JP zs)
theorem qim{r:Rv}{as:List Ar}{x:Rv}(h:ixM r as=.ok x):∃l zs s,r.plain?=some l/\as=[.val (.str s)]/\yD l=some zs/\s∈zs/\x=.val (.int (zs.idxOf s:Nat)):=by
 unfold ixM at h
 split at h
 ·rename_i l s e
  cases q:yD l with
  |none=>rw[q] at h;cases h
  |some zs=>
   rw[q] at h;dsimp only at h
   split at h
   ·rename_i hc;cases h;exact⟨l,zs,s,e,rfl,q,by simpa using hc,rfl⟩
   ·cases h
 ·cases h
theorem qin{r:Rv}(as:List Ar)(h:r.plain?=none):ixM r as=.no:=by unfold ixM;rw[h]
theorem qdv{pins:PP}{s:Shared}{σ:L2.St}{H G:Hp}{Q:VK}{ρ:Env}{y:Rv×Env}{o:Expr}{ap q:Pos}{es:List Expr}{a':E}{l':Es}(A:All κ K k X Γ m)(ho:jC o=true)(hp:(ap.endLine == q.line)=true)(hl:es.length < 30)(h1:cE m Γ o=some a')(h2:cAs m Γ es=some l')
  (er:ER κ K Gv Hv G H ρ σ) (e1:iR Γ.k a' ρ=.ok y) (h:Wk (iAs Γ.k l' y.2) (λz=>Wk ((ixM y.1 z.1).th λr=>R.ok (r,z.2)) (λx=>∀v G' H',Po κ K Gv Hv σ G H ρ G' H' x.2->RvR κ K Hv H G' H' x.2 σ x.1 v->Q v H'))) (I:Inv X pins σ H s) :
  wpAny (model X.prog X.w) X.A (eval (.Call (.Attribute o "index" ap) es [] q) X.env) (EP X pins σ Q) X.xe s:=by
 cases e3:y.1.plain? with
 |none=>
  refine False.elim ?_
  cases e4:iAs Γ.k l' y.2 with
  |ok z=>rw[e4] at h;have h:Wk ((ixM y.1 z.1).th λr=>R.ok (r,z.2)) _:=h;rw[qin z.1 e3] at h;exact h
  |exc c l=>rw[e4] at h;exact h
  |no=>rw[e4] at h;exact h
 |some l0=>
  have hs:=yG h2
  cases es with
  |nil=>
   refine False.elim ?_;obtain rfl:=yH h2;have h:Wk ((ixM y.1 []).th λr=>R.ok (r,y.2)) _:=h
   have:ixM y.1 []=.no:=by unfold ixM;rw[e3]
   rw[this] at h;exact h
  |cons e l=>
   have hs':=hs;simp only[List.any_cons,Bool.or_eq_false_iff] at hs
   have few:((backTo q (starEach (e::l) X.env)).all (λx=>!x.1)&&(backToKw q (keywordEach [] X.env)).all (λx=>x.1.isSome)&&decide ((e::l).length+([]:List Keyword).length+(if ([]:List Keyword).isEmpty then 0 else 1) < 30))=true:=by
    have e:=qz (pos:=q) (env:=X.env) hs';simp only[Bool.and_eq_true,decide_eq_true_eq];refine⟨⟨?_,rfl⟩,?_⟩
    ·rw[List.all_eq_true];intro y hy
     have:=List.any_eq_false.mp e y hy
     simpa using this
    ·show _+0+0 < 30;omega
   refine qcR PySem.F.plainAttrs_list PySem.F.slot_list_index PySem.F.type_list_index qc7 (A.r Gv Hv _ _ h1) (A.as Gv Hv _ _ h2) (yI ho _ _) few hp (qe hs.1) (qz hs.2) pins s σ H Q I ?_;refine⟨ρ,G,er,?_⟩;rw[e1];intro v G1 H1 p1 r1;obtain⟨a,xs,rfl,h1,h2⟩:=r1.plain p1.er e3;refine⟨.inl ⟨rfl,xs,SqL.of h1⟩,y.2,G1,p1.er,Wk.mono h λz h vs G2 H2 p2 r2=>?_⟩
   cases e5:ixM y.1 z.1 with
   |ok x=>
    rw[e5] at h;obtain⟨l1,zs,s1,q1,q2,q3,q4,rfl⟩:=qim e5;rw[e3] at q1;cases q1;rw[q2] at r2;obtain⟨u,r,rfl,ru,rfl⟩:=r2;have ru:u=.str s1:=by simpa only[ArR,Rep] using ru
    subst ru;refine⟨a,zs,s1,rfl,rfl,?_,q4,?_⟩
    ·rw[<-yJ h2 q3];exact p2.hs _ _ h1
    ·exact h _ G2 H2 (p1.trans p2) (by simp only[RvR,Rep])
   |exc c l=>rw[e5] at h;exact False.elim h
   |no=>rw[e5] at h;exact False.elim h
theorem qfW{pins:PP}{s:Shared}{σ:L2.St}{H G:Hp}{Q:VK}{ρ ρ1:Env}{a nm:Str}{o:Expr}{ap q:Pos}{es:List Expr}{a':E}{l':Es}(A:All κ K k X Γ m)(gd:Gd κ K k X Γ)(ho:jC o=true)(hp:(ap.endLine == q.line)=true)(hl:es.length < 30)(h1:cE m Γ o=some a')(h2:cAs m Γ es=some l')
  (er:ER κ K Gv Hv G H ρ σ) (e1:iR Γ.k a' ρ=.ok (.val (.str a),ρ1)) (h:Wk (iAs Γ.k l' ρ1) (λz=>Wk ((bmD nm (.val (.str a)) z.1).th λr=>R.ok (r,z.2)) (λx=>∀v G' H',Po κ K Gv Hv σ G H ρ G' H' x.2->RvR κ K Hv H G' H' x.2 σ x.1 v->Q v H'))) (I:Inv X pins σ H s) :
  wpAny (model X.prog X.w) X.A (eval (.Call (.Attribute o nm ap) es [] q) X.env) (EP X pins σ Q) X.xe s:=by
 have hs:=yG h2
 cases e4:iAs Γ.k l' ρ1 with
 |exc c l=>rw[e4] at h;exact h.elim
 |no=>rw[e4] at h;exact h.elim
 |ok z=>
 rw[e4] at h;have h:Wk ((qcu nm a z.1).th λr=>R.ok (r,z.2)) _:=h
 cases es with
 |nil=>refine False.elim ?_;obtain rfl:=yH h2;cases e4;exact h
 |cons e l=>
  have hs':=hs;simp only[List.any_cons,Bool.or_eq_false_iff] at hs
  have few:((backTo q (starEach (e::l) X.env)).all (λx=>!x.1)&&(backToKw q (keywordEach [] X.env)).all (λx=>x.1.isSome)&&decide ((e::l).length+([]:List Keyword).length+(if ([]:List Keyword).isEmpty then 0 else 1) < 30))=true:=by
   have e:=qz (pos:=q) (env:=X.env) hs';simp only[Bool.and_eq_true,decide_eq_true_eq];refine⟨⟨?_,rfl⟩,?_⟩
   ·rw[List.all_eq_true];intro y hy
    have:=List.any_eq_false.mp e y hy
    simpa using this
   ·show _+0+0 < 30;omega
  have go:∀{id:String} {r:V->List V->Hp->VK->Prop},Slot "str" nm id->typeOf (.builtin id)=pure (.type "method_descriptor")->MtR X id r->(∀vs G2 H2,ER κ K Gv Hv G2 H2 z.2 σ->jD κ K G2 H2 z.1 vs->(∀v G' H',Po κ K Gv Hv σ G2 H2 z.2 G' H' z.2->∀x,qcu nm a z.1=.ok x->RvR κ K Hv H2 G' H' z.2 σ x v->Q v H')->r (.str a) vs H2 Q)->
    wpAny (model X.prog X.w) X.A (eval (.Call (.Attribute o nm ap) (e::l) [] q) X.env) (EP X pins σ Q) X.xe s:=λ{id r} slot hty hm hgo=>by
   refine qcR PySem.F.plainAttrs_str slot hty hm (A.r Gv Hv _ _ h1) (A.as Gv Hv _ _ h2) (yI ho _ _) few hp (qe hs.1) (qz hs.2) pins s σ H Q I ?_;refine⟨ρ,G,er,?_⟩;rw[e1];intro v G1 H1 p1 r1;simp only[RvR,Rep] at r1;subst r1;refine⟨rfl,ρ1,G1,p1.er,?_⟩;rw[e4];intro vs G2 H2 p2 r2;refine hgo vs G2 H2 p2.er r2 λv G' H' p3 x ex rx=>?_;rw[ex] at h;exact h v G' H' (p1.trans (p2.trans p3)) (rx.back (p1.trans p2).hs)
  have jn:∀l0,qac nm a l0=qcu nm a z.1->(∀vs G2 H2,ER κ K Gv Hv G2 H2 z.2 σ->jD κ K G2 H2 z.1 vs->∃b xs,vs=[.ref b]/\SqL X.K H2 b xs/\ql κ G2 l0 xs)->wpAny (model X.prog X.w) X.A (eval (.Call (.Attribute o nm ap) (e::l) [] q) X.env) (EP X pins σ Q) X.xe s:=λl0 hj hr=>by
   have hj':=hj;rw[<-hj] at h;unfold qac at h hj
   by_cases hn:nm = "join"
   case neg=>rw[if_neg hn] at h;exact h.elim
   subst hn;rw[if_pos rfl] at h hj
   cases e5:yD l0 with
   |none=>rw[e5] at h;exact h.elim
   |some zs=>
    rw[e5] at h hj;dsimp only at h hj
    by_cases hz:(zs.map (·.length)).sum+zs.length * a.length<=16777216
    case neg=>rw[if_neg hz] at h;exact h.elim
    rw[if_pos hz] at hj;refine go PySem.F.slot_str_join PySem.F.type_str_join qfw λvs G2 H2 er2 r2 hQ=>?_;obtain⟨b,xs,rfl,q1,q2⟩:=hr vs G2 H2 er2 r2;rw[yJ q2 e5] at q1;exact⟨a,b,zs,rfl,rfl,q1,hz,hQ _ G2 H2 (Po.refl er2) _ hj.symm (by simp only[RvR,Rep])⟩
  have h0:=h
  cases ez:z.1 with
  |nil=>rw[ez] at h;exact h.elim
  |cons ar rest=>
   cases rest with
   |cons _ _=>
    rw[ez] at h
    cases ar with
    |val d=>cases d<;>exact h.elim
    |_=>exact h.elim
   |nil=>
    cases ar with
    |scr l0=>rw[ez] at h;exact h.elim
    |bor l0=>refine jn l0 (by rw[ez];rfl) λvs G2 H2 er2 r2=>?_;rw[ez] at r2;obtain⟨u,r,rfl,⟨b,xs,rfl,q1,q2⟩,rfl⟩:=r2;exact⟨b,xs,rfl,SqL.of q1,q2⟩
    |val d=>
     cases d with
     |lst l0=>refine jn l0 (by rw[ez];rfl) λvs G2 H2 er2 r2=>?_;rw[ez] at r2;obtain⟨u,r,rfl,ru,rfl⟩:=r2;simp only[ArR,Rep] at ru;obtain⟨b,xs,rfl,q1,q2⟩:=ru;exact⟨b,xs,rfl,SqL.of (er2.sub _ _ q1),q2⟩
     |str b=>
      have hM:qcu nm a z.1=if nm = "split" then (if (b.length == 0)=false/\a.length+2<=sizeLine then .ok (.tmp ((Txt.split a b).map D.str)) else .no) else if nm = "partition" then (if (b.length == 0)=false/\a.length<=sizeLine then .ok (.val (.tup [.str (Txt.partition a b).1,.str (Txt.partition a b).2.1,.str (Txt.partition a b).2.2])) else .no) else .no:=by rw[ez];rfl
      have rv:∀vs G2 H2,jD κ K G2 H2 z.1 vs->vs=[.str b]:=λvs G2 H2 r2=>by rw[ez] at r2;obtain⟨u,r,rfl,ru,rfl⟩:=r2;simp only[ArR,Rep] at ru;subst ru;rfl
      rw[hM] at h
      by_cases n1:nm = "split"
      ·subst n1;rw[if_pos rfl] at h hM
       by_cases hc:(b.length == 0)=false/\a.length+2<=sizeLine
       case neg=>rw[if_neg hc] at h;exact h.elim
       rw[if_pos hc] at hM;refine go PySem.F.slot_str_split PySem.F.type_str_split qda λvs G2 H2 er2 r2 hQ=>?_;obtain rfl:=rv vs G2 H2 r2;refine⟨a,b,rfl,rfl,hc.1,hc.2,λp hp=>?_⟩;obtain⟨z1,z2⟩:=er2.newList hp (JP (κ:=κ) (G:=G2) (Txt.split a b));exact hQ _ _ _ z1 _ hM z2
      rw[if_neg n1] at h hM
      by_cases n2:nm = "partition"
      ·subst n2;rw[if_pos rfl] at h hM
       by_cases hc:(b.length == 0)=false/\a.length<=sizeLine
       case neg=>rw[if_neg hc] at h;exact h.elim
       rw[if_pos hc] at hM;refine go PySem.F.slot_str_partition PySem.F.type_str_partition qfv λvs G2 H2 er2 r2 hQ=>?_;obtain rfl:=rv vs G2 H2 r2;refine⟨a,b,rfl,rfl,hc.1,hc.2,λp hp=>?_⟩;have po:=Po.lay (o:=.tup (qdb a b)) er2 hp;refine hQ _ _ _ po _ hM ?_;simp only[RvR,Rep];exact⟨p,_,rfl,qg,JP (κ:=κ) (G:=upd G2 p (.tup (qdb a b))) [(Txt.partition a b).1,(Txt.partition a b).2.1,(Txt.partition a b).2.2]⟩
      rw[if_neg n2] at h;exact h.elim
     |_=>rw[ez] at h;exact h.elim
theorem qio{o:Expr}{x:Str}{es:List Expr}{b:Bool}{t:Expr×Expr×Int}(h:dgE Γ o x es b=some t):∃p q i j,o=.Call (.Name "dict" p) [t.1] [] q/\x = "get"/\es=[t.2.1,.Constant (.int t.2.2) i j]/\b=true/\glB Γ.sc "dict" = true/\qp t.1=false/\qp t.2.1=false:=by
 unfold dgE at h
 split at h
 ·split at h
  ·rename_i hc;cases h;obtain⟨rfl,h1,h2,h3,h4,h5⟩:=hc;exact⟨_,_,_,_,rfl,h1,rfl,h2,h3,h4,h5⟩
  ·cases h
 ·cases h
theorem qfX(gd:Gd κ K k X Γ)(A:All κ K k X Γ m)(o:Expr)(y:Str)(ap:Pos)(es:List Expr)(q:Pos){t:Expr×Expr×Int}(hd:dgE Γ o y es (ap.endLine == q.line)=some t)(h:o2 (cE m Γ t.1) (cE m Γ t.2.1) (.b2 (.get t.2.2))=some x):PE X (.Call (.Attribute o y ap) es [] q) (tR κ K Gv Hv (iR Γ.k x)):=by
  obtain⟨a,e,n⟩:=t;obtain⟨a',b',h1,h2,rfl⟩:=qh h;obtain⟨p',q',i,j,rfl,rfl,rfl,hl,hg,s1,s2⟩:=qio hd;have hu:X.A.units+1 < cLine:=by have:=gd.room.un;omega
  have st:starEach [e,Expr.Constant (.int n) i j] X.env=[(false,eval e X.env),(false,eval (Expr.Constant (.int n) i j) X.env)]:=by rw[qe s2];rfl
  refine PE.imp (qc1 hu (qJ (Z5 gd.calm) (gd.glo _ hg) (gd.blt _ (2:)) PyProof.Rows.boot_dict (qj (A.r Gv Hv _ _ h1) qw (qe s1)) (2:) (2:) (qe s1) rfl) (A.r Gv Hv _ _ h2) (Zq (κ:=κ) (K:=K) (Gv:=Gv) (Hv:=Hv) (Γ:=Γ) (.int n) i j rfl) ⟨rfl,?_,hl,?_⟩) λσ H Q hq1=>?_
  ·rw[st];rfl
  ·rw[st];rfl
  obtain⟨ρ,G,er,h⟩:=hq1;refine⟨ρ,G,er,Wk.mono (Wk.th (x:=iR Γ.k a' ρ) h) λy h v G1 H1 p1 r1=>?_⟩;have h:=Wk.th (x:=iR Γ.k b' y.2) h
  cases e2:iR Γ.k b' y.2 with
  |exc c l=>rw[e2] at h;exact h.elim
  |no=>rw[e2] at h;exact h.elim
  |ok z=>
  rw[e2] at h;have h:=Wk.th (x:=qbu n y.1 z.1) h
  cases e3:qbu n y.1 z.1 with
  |exc c l=>rw[e3] at h;exact h.elim
  |no=>rw[e3] at h;exact h.elim
  |ok r=>
  rw[e3] at h;obtain⟨l,k',kvs,z1,z2,z3,z4,rfl⟩:=qdl e3;obtain⟨b,xs,rfl,q1,q2⟩:=r1.list p1.er z1;refine⟨b,xs,kvs,rfl,by rw[gd.hK];exact q1,Paired.mapP (Zp q2 z3) λ_ _ ⟨c,w1,w2⟩=>⟨c,w1,p1.er.sub _ _ w2⟩,z4,λd hd'=>?_⟩;have p2:=Po.room p1.er (qo.upd (o:=HO.dK (kvs.map kvV)) hd');refine⟨d,rfl,.inl ⟨_,.inl qg⟩,y.2,G1,p2.er,?_⟩;rw[e2];intro u G3 H3 p3 r3;refine⟨z.2,G3,p3.er,λw G4 H4 p4 r4=>?_⟩;have hw:w=.int n:=by simpa only[RvR,Rep] using r4
  have hu':u=.str k':=r3.str z2;subst hw hu';refine⟨_,qcY.k (k:=.inr k') (p4.hs _ _ (p3.hs _ _ qg)),?_⟩;rw[qbC];refine h _ G4 H4 (p1.trans (p2.trans (p3.trans p4))) ?_
  cases qhK kvs k'<;>simp only[RvR,Rep,Option.map,Option.getD]
theorem qfY(gd:Gd κ K k X Γ)(A:All κ K k X Γ m)(o:Expr)(y:Str)(ap:Pos)(es:List Expr)(q:Pos)(h:cE (m+1) Γ (.Call (.Attribute o y ap) es [] q)=some x):PE X (.Call (.Attribute o y ap) es [] q) (tR κ K Gv Hv (iR Γ.k x)):=by
 have h:(if (jC o&&(ap.endLine == q.line)&&decide (es.length < 30))=true then _ else match dgE Γ o y es (ap.endLine == q.line) with |some t=>_ |none=>none)=_:=h
 by_cases hc:(jC o&&(ap.endLine == q.line)&&decide (es.length < 30))=true
 case neg=>
  rw[if_neg hc] at h
  cases hd:dgE Γ o y es (ap.endLine == q.line) with
  |none=>rw[hd] at h;cases h
  |some t=>rw[hd] at h;exact qfX gd A o y ap es q hd h
 rw[if_pos hc] at h;obtain⟨a',l',h1,h2,rfl⟩:=qh h;rintro pins s σ H Q I ⟨ρ,G,er,h⟩;have h:=Wk.th (x:=iR Γ.k a' ρ) h;simp only[Bool.and_eq_true,decide_eq_true_eq] at hc;obtain⟨⟨ho,hp⟩,hl⟩:=hc
 cases e1:iR Γ.k a' ρ with
 |exc c l=>rw[e1] at h;exact h.elim
 |no=>rw[e1] at h;exact h.elim
 |ok w=>
  rw[e1] at h
  have h:Wk (match mtD Γ.cs w.1 y with
   |some f=>(iAs Γ.k l' w.2).th λz=>(Γ.cl f (toAr w.1::z.1)).th λr=>R.ok (r,z.2)
   |none=>(iAs Γ.k l' w.2).th λz=>(bmD y w.1 z.1).th λr=>R.ok (r,z.2)) _:=h
  cases e2:mtD Γ.cs w.1 y with
  |none=>
   rw[e2] at h;have h:=Wk.th (x:=iAs Γ.k l' w.2) h;obtain⟨wr,wρ⟩:=w
   by_cases hs:∃a,wr=.val (.str a)
   ·obtain⟨a,rfl⟩:=hs;exact qfW A gd ho hp hl h1 h2 er e1 h I
   ·have hb:∀as,bmD y wr as=if y = "index" then ixM wr as else .no:=by
     cases wr with
     |val d=>
      cases d with
      |str a=>exact absurd ⟨a,rfl⟩ hs
      |_=>intro as;rfl
     |_=>intro as;rfl
    by_cases hx:y = "index"
    ·subst hx;refine qdv A ho hp hl h1 h2 er e1 (Wk.mono h λz hz=>?_) I;rw[hb,if_pos rfl] at hz;exact hz
    ·refine False.elim ?_
     cases e4:iAs Γ.k l' wρ with
     |ok z=>rw[e4] at h;have h:Wk ((bmD y wr z.1).th _) _:=h;rw[hb,if_neg hx] at h;exact h
     |exc c l=>rw[e4] at h;exact h
     |no=>rw[e4] at h;exact h
  |some f=>
  rw[e2] at h;obtain⟨c,ns,ds,e3,e4,e5⟩:=qik e2;obtain⟨C,fa,fd,ps,hC,M,F,B⟩:=gd.mts c y f e5;have h:=Wk.th (x:=iAs Γ.k l' w.2) h;have hs:=yG h2;have hs0:=hs
  have all:qeW C y (spF κ K Γ.cl f) [] E0 (tR κ K Gv Hv (iR Γ.k a')) (tAs κ K Gv Hv (iAs Γ.k l')) σ H Q:=by
   refine⟨ρ,G,er,?_⟩;rw[e1];intro v G1 H1 p1 r1;have r1':=r1;rw[e3] at r1';simp only[RvR,Rep] at r1';obtain⟨p',dx,C',xs,hc',rfl,h4,hl,h5⟩:=r1';rw[hC] at hc';cases hc';refine⟨p',dx,_,rfl,p1.er.sub _ _ h4,Zr e4,w.2,G1,p1.er,Wk.mono h λz h vs G2 H2 p2 r2=>?_⟩;show spF κ K Γ.cl f (V.ref p'::(vs++[])) H2 Q E0;rw[List.append_nil];refine⟨G2,toAr w.1::z.1,p2.er.sub,⟨_,_,rfl,?_,r2⟩,Wk.mono (Wk.th h) λr h v G3 H3 hs gs sub new rr=>?_⟩
   ·rw[e3] at r1 ⊢;exact Rep.same p2.gs r1
   ·obtain⟨z1,z2⟩:=ReR.rv (p1.trans p2) hs gs sub new rr;exact h v G3 H3 z1 z2
  cases es with
  |nil=>obtain rfl:=yH h2;refine qcK (A.r Gv Hv _ _ h1) (gd.cls c C hC) M F gd.room B .nil jl (ht:=YF ho hs0 hl hp) pins s σ H Q I ?_;obtain⟨ρ',G',er',z⟩:=all;refine⟨ρ',G',er',Wk.mono z λx z v G1 H1 p1 r1=>?_⟩;obtain⟨a,dx,fs,z1,z2,z3,ρ2,G2,er2,z⟩:=z v G1 H1 p1 r1;exact⟨a,dx,fs,z1,z2,z3,z [] G2 H1 (Po.refl er2) rfl⟩
  |cons e l=>simp only[List.any_cons,Bool.or_eq_false_iff] at hs;exact qeY (A.r Gv Hv _ _ h1) (gd.cls c C hC) M F gd.room B .nil jl (A.as Gv Hv _ _ h2) (qe hs.1) (qz hs.2) (ht:=YF ho hs0 hl hp) pins s σ H Q I all
theorem qfZ(gd:Gd κ K k X Γ)(A:All κ K k X Γ m)(f:Str)(es:List Expr)(p q:Pos)(hok:zf f=true)(hgl:glB Γ.sc f=true)(ht:Γ.cs.tab.contains f=true)(h:(cAs m Γ es).map (.new f)=some x):PE X (.Call (.Name f p) es [] q) (tR κ K Gv Hv (iR Γ.k x)):=by
 obtain⟨l',h1,rfl⟩:=map_some h;have hs:=yG h1;rcases gd.mks f ht with hno | ⟨C,fa,fd,ps,sp,M,F,hm,hb,hk,hsp⟩
 ·rintro pins s σ H Q I ⟨ρ,G,er,h⟩;have h:=Wk.th (x:=iAs Γ.k l' ρ) h
  cases e1:iAs Γ.k l' ρ with
  |ok x=>rw[e1] at h;have h:Wk ((Γ.nw f x.1).th _) _:=h;rw[hno] at h;exact h.elim
  |exc c l=>rw[e1] at h;exact h.elim
  |no=>rw[e1] at h;exact h.elim
 obtain⟨n1,n2,n3⟩:=qF hok
 have rm:Room (k - 1+1) X.A:=by rw[show k - 1+1=k by omega];exact gd.room
 have key:∀σ H Q,tR κ K Gv Hv (iR Γ.k (.new f l')) σ H Q->qeX C sp [] E0 (tAs κ K Gv Hv (iAs Γ.k l')) σ H Q:=λσ H Q ⟨ρ,G,er,h⟩=>by refine⟨ρ,G,er,Wk.mono (Wk.th (x:=iAs Γ.k l' ρ) h) λx h vs G1 H1 p1 r1=>?_⟩;show∀x dx,H1 x=none->H1 dx=none->dx≠x->sp (.ref x::(vs++[])) _ _ E0;rw[List.append_nil];refine hsp vs H1 Q ⟨G1,x.1,p1.er.sub,r1,Wk.mono (Wk.th h) λr h v G2 H2 hs gs sub new rr=>?_⟩;obtain⟨z1,z2⟩:=ReR.rv p1 hs gs sub new rr;exact h v G2 H2 z1 z2
 cases es with
 |nil=>obtain rfl:=yH h1;refine PE.imp (qcL M F rm (gd.glo f hgl) hm hb .nil jl n1) λσ H Q h=>?_;obtain⟨ρ,G,er,h⟩:=key σ H Q h;exact h [] G H (Po.refl er) rfl
 |cons e l=>simp only[List.any_cons,Bool.or_eq_false_iff] at hs;exact PE.imp (qeZ M F rm (gd.glo f hgl) hm hb .nil jl (A.as Gv Hv _ _ h1) n1 (qe hs.1) (qz hs.2)) key
end
end DE
namespace DE
open PySem PySem.Spec PyProof.Rows L2
noncomputable def gT(κ:KC)(K:Frag)(t:Tg):TG:=λv σ H Q=>∃(Gv Hv:Hp) (ρ:Env) (G:Hp) (d:D),ER κ K Gv Hv G H ρ σ/\Rep κ G d v/\Wk (t.go d ρ) λρ'=>∀σ',ER κ K Gv Hv G H ρ' σ'->Q σ' H
noncomputable def gNs(κ:KC)(K:Frag)(l:List Nat):TGs:=λvs σ H Q=>∃(Gv Hv:Hp) (ρ:Env) (G:Hp) (ds:List D),ER κ K Gv Hv G H ρ σ/\ql κ G ds vs/\Wk (JI l ds ρ) λρ'=>∀σ',ER κ K Gv Hv G H ρ' σ'->Q σ' H
theorem PG.imp{X:Cx}{tg:Expr}{t t':TG}(h:PG X tg t')(i:∀v σ H Q,t v σ H Q->t' v σ H Q):PG X tg t:=λpins s σ H v u Q I r hw=>h pins s σ H v u Q I r (i v σ H Q hw)
theorem PGs.imp{X:Cx}{tg:List Expr}{t t':TGs}(h:PGs X tg t')(i:∀v σ H Q,t v σ H Q->t' v σ H Q):PGs X tg t:=λpins s σ H v u Q I r hw=>h pins s σ H v u Q I r (i v σ H Q hw)
section
variable{κ:KC}{K:Frag}{Gv Hv:Hp}{k m:Nat}{X:Cx}{Γ:Ct}{x:E}
theorem YG(gd:Gd κ K k X Γ){y:Str}{i:Nat}(h:qby Γ y=some i):L2.Loc X.env.scope y/\(X.fn y=true\/X.env.scope.names.lookup y=some .local)/\X.N.Nodup/\X.N[i]?=some y:=by unfold qby at h;obtain⟨hc,h⟩:=qi h;rw[Bool.and_eq_true] at hc;obtain⟨l1,l2⟩:=gd.loc y hc.1;exact⟨l1,l2,by rw[gd.hN];exact gd.nd,by rw[gd.hN];exact JK h⟩
theorem qip(gd:Gd κ K k X Γ){y:Str}{i:Nat}(h:qby Γ y=some i)(pos:Pos):PG X (.Name y pos) (gT κ K (.one i)):=by obtain⟨l1,l2,l3,l4⟩:=YG gd h;refine PG.imp (qeP (i:=i) l3 l4 l1 l2) λv σ H Q hq1=>?_;obtain⟨Gv,Hv,ρ,G,d,er,r,h⟩:=hq1;exact h _ (er.setVal r)
theorem Zs{e:Expr}{es:List Expr}{j:Nat}{p:Pos}{xs:List Str}(h:zg (.Tuple (e::es) j p)=some xs):∃x pos r,e=.Name x pos/\xs=x::r/\zg (.Tuple es j p)=some r:=by
 have q0:zg (.Tuple es j p)=(es.foldr (λe r=>match e,r with |.Name x _,some l=>some (x::l) |_,_=>none) (some []):Option (List Str)):=rfl
 cases e with
 |Name x pos=>
  cases q:(es.foldr (λe r=>match e,r with |.Name x _,some l=>some (x::l) |_,_=>none) (some []):Option (List Str)) with
  |none=>have h':(match (Expr.Name x pos:Expr),(es.foldr (λe r=>match e,r with |.Name x _,some l=>some (x::l) |_,_=>none) (some []):Option (List Str)) with |.Name x _,some l=>some (x::l) |_,_=>none)=some xs:=h;rw[q] at h';cases h'
  |some l=>have h':(match (Expr.Name x pos:Expr),(es.foldr (λe r=>match e,r with |.Name x _,some l=>some (x::l) |_,_=>none) (some []):Option (List Str)) with |.Name x _,some l=>some (x::l) |_,_=>none)=some xs:=h;rw[q] at h';cases h';exact⟨x,pos,l,rfl,rfl,q0.trans q⟩
 |_=>cases h
theorem qew(gd:Gd κ K k X Γ){j:Nat}{p:Pos}:∀{es:List Expr} {xs:List Str} {l:List Nat},zg (.Tuple es j p)=some xs->qdf Γ xs=some l->PGs X es (gNs κ K l)
 | [],xs,l,h,h'=>by
  have e:xs=[]:=by unfold zg at h;cases h;rfl
  subst e;cases h';refine PGs.imp qeQ λvs σ H Q hq1=>?_;obtain⟨Gv,Hv,ρ,G,ds,er,r,h⟩:=hq1
  cases ds with
  |nil=>simp only[ql] at r;exact⟨r,h σ er⟩
  |cons d ds=>exact False.elim h
 | e::es,xs,l,h,h'=>by
  obtain⟨x,pos,r,rfl,rfl,h0⟩:=Zs h;obtain⟨i,l,h1,h2,rfl⟩:=qh h';refine PGs.imp (qcD (qip gd h1 pos) (qew gd h0 h2)) λvs σ H Q hq1=>?_;obtain⟨Gv,Hv,ρ,G,ds,er,rr,h⟩:=hq1
  cases ds with
  |nil=>exact False.elim h
  |cons d ds=>simp only[ql] at rr;obtain⟨v,vr,rfl,r1,r2⟩:=rr;exact⟨v,vr,rfl,Gv,Hv,ρ,G,d,er,r1,λσ1 er1=>⟨Gv,Hv,_,G,ds,er1,r2,h⟩⟩
theorem YH{env:PySem.Env}{j:Nat}{p:Pos}:∀{es:List Expr} {xs:List Str} {l:List Nat},zg (.Tuple es j p)=some xs->qdf Γ xs=some l->(assignEach es env).length=l.length/\(assignEach es env).findIdx? (·.1)=none
 | [],xs,l,h,h'=>by unfold zg at h;cases h;cases h';exact⟨rfl,rfl⟩
 | e::es,xs,l,h,h'=>by obtain⟨x,pos,r,rfl,rfl,h0⟩:=Zs h;obtain⟨i,l,h1,h2,rfl⟩:=qh h';obtain⟨h1,h2⟩:=YH (env:=env) h0 h2;have e:assignEach (.Name x pos::es) env=(false,assign (.Name x pos) env)::assignEach es env:=rfl;rw[e];refine⟨by simp[h1],?_⟩;rw[List.findIdx?_cons];simp[h2]
theorem YI:∀{l:List Nat} {ds:List D} {ρ:Env} {F:Env->Prop},Wk (JI l ds ρ) F->ds.length=l.length
 |[],[],_,_,_=>rfl
 | [],_::_,_,_,h=>False.elim h
 | _::_,[],_,_,h=>False.elim h
 | i::l,d::ds,ρ,F,h=>congrArg (· + 1) (YI (l:=l) (ds:=ds) (ρ:=ρ.set i (.val d)) h)
theorem qbK(gd:Gd κ K k X Γ)(tg:Expr){t:Tg}(h:cTg Γ tg=some t):PG X tg (gT κ K t):=by
 cases tg with
 |Name x pos=>obtain⟨i,h1,rfl⟩:=map_some h;exact qip gd h1 pos
 |Tuple es j p=>
  obtain⟨hs,h⟩:=qi h
  cases hx:zg (.Tuple es j p) with
  |none=>rw[hx] at h;cases h
  |some xs=>
   rw[hx] at h;obtain⟨l,h2,rfl⟩:=map_some h;obtain⟨t1,t2⟩:=YH (env:=X.env) hx h2;refine PG.imp (qgX (n:=l.length) gd.calm (qew gd hx h2) t1 t2) λv σ H Q hq1=>?_;obtain⟨Gv,Hv,ρ,G,d,er,r,h⟩:=hq1
   cases d with
   |tup ds=>have h:Wk (JI l ds ρ) _:=h;simp only[Rep] at r;obtain⟨a,ys,rfl,r1,r2⟩:=r;exact⟨a,ys,rfl,SqT.of (er.sub _ _ r1),by rw[<-r2.len];exact YI h,Gv,Hv,ρ,G,ds,er,r2,h⟩
   |_=>exact False.elim h
 |_=>cases h
theorem qex{env:PySem.Env}:∀{names:List (Str×NameKind)} {x:Str},names.lookup x=some .globalImplicit->
  (names.map λ(n,k)=>if (k == NameKind.free&&env.scope.kind == .function&&env.kindOf n == some .cell) then (n,NameKind.cell) else (n,k)).lookup x=some .globalImplicit
 |[],_,h=>by simp at h
 | (n,k)::r,x,h=>by
  simp only[List.map_cons]
  by_cases hx:x=n
  ·subst hx;simp[List.lookup_cons] at h;subst h;rw[if_neg (by simp)];simp[List.lookup_cons]
  ·have hb:(x == n)=false:=by simpa using hx
   rw[List.lookup_cons,hb] at h;have ih:=qex (env:=env) h
   by_cases hc:(k == NameKind.free&&env.scope.kind == .function&&env.kindOf n == some .cell)=true
   ·rw[if_pos hc];simp only[List.lookup_cons,hb];exact ih
   ·rw[if_neg hc];simp only[List.lookup_cons,hb];exact ih
theorem YJ(gd:Gd κ K k X Γ){own:List Str}{fr:List Nat}{sc:Scope}(h:yf Γ.sc Γ.N fr sc=true):BlkScope X own fr sc:=by
 unfold yf at h;simp only[Bool.and_eq_true,List.all_eq_true] at h;obtain⟨⟨hk,hn⟩,hf⟩:=h;refine⟨by simpa using hk,λx hx=>by simpa using (hn x hx).1.1,λx hx e=>?_,λx hx e=>?_,λi hi=>?_⟩
 ·have:=(hn x hx).1.2
  simpa [e] using this
 ·have:=(hn x hx).2
  exact gd.cf x.1 (by simpa [e] using this)
 ·rw[gd.hN]
  simpa using hf i hi
theorem Jk(gd:Gd κ K k X Γ){own:List Str}{fr:List Nat}{sc:Scope}(B:BlkScope X own fr sc)(hnd:(own++fr.map λi=>Γ.N.getD i "").Nodup)(cl:List (Str×Addr))(C:Addr)(fp:List Addr)(s2:Shared)(H2:Hp) :
  Gd κ K k (blk X (jT X own fr) sc cl C fp s2 H2) { Γ with N:=own++fr.map λi=>Γ.N.getD i "",sc:=sc } where
 hN:=by show jT X own fr=_;unfold jT;rw[gd.hN]
 vis:=λx h=>by
  have h:=qeo h;rcases h with h | h | h
  ·exact .inl (lookup_relabel_local h)
  ·exact absurd rfl (B.nocell _ (PySem.mem_of_lookup h))
  ·rcases ye (env:=X.env) h with z | z
   ·exact .inr (.inl z)
   ·exact .inr (.inr z)
 loc:=λx h=>by
  have h:=qbA h;rcases h with h | h
  ·have z:(relabel sc X.env).names.lookup x=some .local:=lookup_relabel_local h;exact⟨.inl z,.inr z⟩
  ·exact absurd rfl (B.nocell _ (PySem.mem_of_lookup h))
 glo:=λx h=>by unfold glB at h;exact qex (env:=X.env) (by simpa using h)
 cf:=λx h=>by
  rcases h with h | h
  ·exact absurd rfl (B.nocell _ (PySem.mem_of_lookup h))
  ·exact ye (env:=X.env) h
 nd:=hnd
 calm:=gd.calm
 hK:=gd.hK
 room:=gd.room
 fns:=gd.fns
 blt:=gd.blt
 gl:=gd.gl
 cls:=gd.cls
 flds:=gd.flds
 xsubs:=gd.xsubs
 xgs:=gd.xgs
 mts:=gd.mts
 mks:=gd.mks
 subs:=gd.subs
theorem qiq{G H:Hp}{ρ:Env}{σ:L2.St}(er:ER κ K Gv Hv G H ρ σ)(own:List Str)(fr:List Nat):ER κ K G H G H (qae own.length fr ρ) (y4 own fr σ):=by
 refine⟨by simp[qae,y4],er.sub,λ_ _ e=>e,λ_ _ e=>e,λa o e=>.inl ⟨o,e⟩,λi s e=>?_,λi j a l n e1=>?_⟩
 ·unfold qae at e;unfold y4
  by_cases hi:i < own.length
  ·rw[List.getElem?_append_left (by simpa using hi)] at e;obtain rfl:=List.eq_of_mem_replicate (List.mem_of_getElem? e);trivial
  ·rw[List.getElem?_append_right (by simpa using hi)] at e ⊢;simp only[List.length_map,List.length_replicate] at e ⊢;rw[List.getElem?_map] at e ⊢;obtain⟨j,e1,rfl⟩:=Option.map_eq_some_iff.mp e;rw[e1];show SlR κ K G H H (qhL (ρ.getD j .no)) (some (σ[j]?).join)
   cases q:ρ[j]? with
   |none=>rw[List.getD_eq_getElem?_getD,q];trivial
   |some s=>
    rw[List.getD_eq_getElem?_getD,q];have w:=er.sl j s q
    cases s with
    |no=>trivial
    |val d=>obtain⟨v,z,r⟩:=w;exact⟨v,by rw[z];rfl,r⟩
    |own l=>obtain⟨a,xs,z,r1,r2,r3,r4⟩:=w;exact⟨a,xs,by rw[z];rfl,r1,r4⟩
    |bor l=>obtain⟨a,xs,z,r1,r4⟩:=w;exact⟨a,xs,by rw[z];rfl,er.base _ _ r1,r4⟩
    |scr l=>obtain⟨a,xs,z,r1,r4⟩:=w;exact⟨a,xs,by rw[z];rfl,er.base.seq r1,r4⟩
 ·exfalso;unfold qae at e1
  by_cases hi:i < own.length
  ·rw[List.getElem?_append_left (by simpa using hi)] at e1
   cases List.eq_of_mem_replicate (List.mem_of_getElem? e1)
  ·rw[List.getElem?_append_right (by simpa using hi),List.getElem?_map] at e1;obtain⟨j,_,z⟩:=Option.map_eq_some_iff.mp e1
   cases q:ρ.getD j .no<;>rw[q] at z<;>cases z
theorem JQ{it:Expr}(h:yE it=true)(env:PySem.Env):∀x,foldedSetIterable it env x=pure x:=by
 intro x
 cases it<;>first | rfl | (simp[yE] at h)
theorem qir(A:All κ K k X Γ m)(e:Expr){x:E}(hx:cX m Γ e=some x):PE X e (λσ H Q=>∃Gv Hv,tE κ K Gv Hv (qZ x (iR Γ.k x)) σ H Q):=λpins s σ H Q I ⟨Gv,Hv,h⟩=>A.e Gv Hv e x hx pins s σ H Q I h
theorem qey(A:All κ K k X Γ m)(es:List Expr){x:F}(hx:cF m Γ es=some x):PIf X es (λσ H Q=>∃Gv Hv,tT κ K Gv Hv (iF Γ.k x) σ H Q):=λpins s σ H Q I ⟨Gv,Hv,h⟩=>A.f Gv Hv es x hx pins s σ H Q I h
structure CompS(Γ:Ct)(m:Nat)(elt tg it:Expr)(ifs:List Expr)(sc:Scope)(own:List Str)(el:E)(src:I)(t:Tg)(c:F):Prop where
 chk:yf Γ.sc Γ.N (Jh Γ.N sc) sc=true
 nd:(own++(Jh Γ.N sc).map λi=>Γ.N.getD i "").Nodup
 fold:yE it=true
 src:cC Γ it (cI m Γ (qcv tg) it)=some src
 tg:cTg { Γ with N:=own++(Jh Γ.N sc).map λi=>Γ.N.getD i "",sc:=sc } tg=some t
 c:cF m { Γ with N:=own++(Jh Γ.N sc).map λi=>Γ.N.getD i "",sc:=sc } ifs=some c
 el:cX m { Γ with N:=own++(Jh Γ.N sc).map λi=>Γ.N.getD i "",sc:=sc } elt=some el
theorem qis{elt:Expr}{gs:List Comprehension}{sc:Scope}{pos:Pos}(h:cE (m+1) Γ (.ListComp elt gs sc pos)=some x):∃tg it ifs own el src t c,gs=[⟨tg,it,ifs,0⟩]/\CompS Γ m elt tg it ifs sc own el src t c/\x=.comp el src t c own.length (Jh Γ.N sc):=by
 match gs,h with
 |[⟨tg,it,ifs,as⟩],h=>
  obtain⟨ha,h⟩:=qi h;obtain rfl:as=0:=of_decide_eq_true ha;dsimp only at h
  cases hx:zg tg with
  |none=>rw[hx] at h;cases h
  |some own=>rw[hx] at h;obtain⟨hc,h⟩:=qi h;obtain⟨p1,p2,h1,h2,rfl⟩:=qh h;obtain⟨src,t,h3,h4,rfl⟩:=qh h1;obtain⟨c,el,h5,h6,rfl⟩:=qh h2;simp only[Bool.and_eq_true] at hc;exact⟨tg,it,ifs,own,el,src,t,c,rfl,⟨hc.1.1,of_decide_eq_true hc.1.2,hc.2,h3,h4,h5,h6⟩,rfl⟩
 |[],h=>cases h
 | _::_::_,h=>cases h
theorem qit{it:Expr}{i:Nat}(h:isF Γ it=some i):∃x p,it=.Name x p/\Zi Γ x=some i:=by
 unfold isF at h
 split at h
 ·split at h
  ·exact⟨_,_,rfl,h⟩
  ·cases h
 ·cases h
noncomputable def tC(κ:KC)(K:Frag)(Gv Hv:Hp)(f:Env->R (List D×Env)):TI:=λσ H Q=>∃ρ G,ER κ K Gv Hv G H ρ σ/\Wk (f ρ) λx=>∀J G' H',Po κ K Gv Hv σ G H ρ G' H' x.2->ItR κ H' G' J x.1->Q J H'
theorem qk4(gd:Gd κ K k X Γ)(A:All κ K k X Γ m)(tg it:Expr){src:I}(hs:cC Γ it (cI m Γ (qcv tg) it)=some src):PI X tg it (tC κ K Gv Hv (iI Γ.k src)):=by
 rintro pins s σ H Q I ⟨ρ,G,er,h⟩;unfold cC at hs
 cases hf:isF Γ it with
 |none=>rw[hf] at hs;exact A.i Gv Hv tg it src hs pins s σ H Q I ⟨ρ,G,er,Wk.mono h λx h J G' H' p it1=>h J G' H' p λi G2 H2 g hh sub=>it1 i G2 H2 g (λb o e=>hh b o (p.er.base b o e)) sub⟩
 |some i=>
  rw[hf] at hs;cases hs;obtain⟨x,p,rfl,hi⟩:=qit hf;refine qet (Ji gd hi p) pins s σ H Q I ?_;have h:=Wk.th (x:=slC ρ i) h;unfold slC at h
  cases q:ρ[i]? with
  |none=>rw[q] at h;exact False.elim h
  |some sl=>
   rw[q] at h;have w:=er.sl i sl q
   cases sl with
   |own l=>obtain⟨a,xs,z,h1,h2,h3,h4⟩:=w;exact⟨_,z,.inl ⟨a,rfl,.inl ⟨⟨xs,SqL.of h1⟩,h _ G H (Po.refl er) (by rw[gd.hK];exact qbF (.inr (SqL.of h1)) h4)⟩⟩⟩
   |val d=>
    obtain⟨v,z,r⟩:=w
    cases d with
    |lst l=>simp only[Rep] at r;obtain⟨a,xs,rfl,r1,r2⟩:=r;exact⟨_,z,.inl ⟨a,rfl,.inl ⟨⟨xs,SqL.of (er.sub _ _ r1)⟩,h _ G H (Po.refl er) (by rw[gd.hK];exact qbF (.inl r1) r2)⟩⟩⟩
    |tup l=>simp only[Rep] at r;obtain⟨a,xs,rfl,r1,r2⟩:=r;exact⟨_,z,.inl ⟨a,rfl,.inr ⟨⟨xs,SqT.of (er.sub _ _ r1)⟩,h _ G H (Po.refl er) (by rw[gd.hK];exact qeu r1 r2)⟩⟩⟩
    |_=>exact False.elim h
   |_=>exact False.elim h
theorem Zt{elt tg it:Expr}{ifs:List Expr}{sc:Scope}{own:List Str}{el:E}{src:I}{t:Tg}{c:F}(S:CompS Γ m elt tg it ifs sc own el src t c):∀σ H Q,tR κ K Gv Hv (iR Γ.k (.comp el src t c own.length (Jh Γ.N sc))) σ H Q->
  qfa own (Jh Γ.N sc) (tC κ K Gv Hv (iI Γ.k src)) (gT κ K t) (λσ H Q=>∃Gv Hv,tT κ K Gv Hv (iF Γ.k c) σ H Q) (λσ H Q=>∃Gv Hv,tE κ K Gv Hv (qZ el (iR Γ.k el)) σ H Q) σ H Q:=λσ H Q ⟨ρ,G,er,h⟩=>by
 refine⟨ρ,G,er,Wk.mono (Wk.th (x:=iI Γ.k src ρ) h) λx h J G1 H1 p1 it1=>?_⟩;obtain⟨hz,h⟩:=Wk.iff h;have h:=Wk.th h
 refine⟨λi mm ys σ' H'=>mm=x.1.length - i/\i<=x.1.length/\∃ρb Gb ds,ER κ K G1 H1 Gb H' ρb σ'/\ql κ Gb ds ys/\ds.length<=i/\
   Wk (qbv t.go (λρ1=>iF Γ.k c ρ1) (qZ el (iR Γ.k el)) (x.1.drop i) ρb ds)
    (λl=>∀v G' H',Po κ K Gv Hv σ G H ρ G' H' x.2->RvR κ K Hv H G' H' x.2 σ (.tmp l) v->Q v H'),
  ⟨x.1.length,by simp,Nat.zero_le _,qae own.length (Jh Γ.N sc) x.2,G1,[],qiq p1.er own (Jh Γ.N sc),.nil,Nat.le_refl _,?_⟩,?_⟩
 ·rw[List.drop_zero];exact h
 rintro i mm ys σ' H' ⟨rfl,hi,ρb,Gb,ds,erb,rds,hdl,hw⟩;have it2:=it1 i Gb H' erb.g0 erb.base erb.sub
 by_cases hlt:i < x.1.length
 ·obtain⟨go,yl⟩:=it2.1 x.1[i] (List.getElem?_eq_getElem hlt);have hyl:=rds.len;refine .inr ⟨go,by omega,_,λys' σ2 H2 w=>⟨x.1.length - (i+1),by omega,w⟩,λv H2 hy=>?_⟩;obtain⟨G',hs,gs,sub,new,rep⟩:=yl v H2 hy;have p2:=Po.more erb hs gs sub new;rw[List.drop_eq_getElem_cons hlt] at hw;refine⟨G1,H1,ρb,G',x.1[i],p2.er,rep,Wk.mono (Wk.th hw) λρ1 hw σ1 er1=>⟨G1,H1,ρ1,G',er1,Wk.mono (Wk.th hw) λbt hw G2 H3 p3=>?_⟩⟩;obtain⟨b,ρ2⟩:=bt
  cases b with
  |true=>rw[if_pos rfl];refine⟨G1,H1,ρ2,G2,p3.er,Wk.mono (Wk.th hw) λy hw w G3 H4 p4 rep4=>⟨rfl,hlt,y.2,G3,ds++[y.1],p4.er,?_,by simp;omega,(Wk.iff hw).2⟩⟩;exact(((rds.same gs).same p3.gs).same p4.gs).snoc rep4
  |false=>rw[if_neg (λz=>by cases z)];exact⟨rfl,hlt,ρ2,G2,ds,p3.er,(rds.same gs).same p3.gs,by omega,hw⟩
 ·have e:i=x.1.length:=by omega
  subst e;refine .inl ⟨it2.2 rfl,λp hp=>?_⟩;rw[List.drop_length] at hw;have p2:=p1.trans (Po.more p1.er erb.base erb.g0 erb.sub erb.fresh);obtain⟨z1,z2⟩:=p2.er.newList hp rds;exact hw _ _ _ (p2.trans z1) (z2.back p2.hs)
theorem qf0(gd:Gd κ K k X Γ)(A:All κ K k X Γ m)(ih:∀X' Γ',Gd κ K k X' Γ'->All κ K k X' Γ' m)(elt:Expr)(gs:List Comprehension)(sc:Scope)(pos:Pos)(h:cE (m+1) Γ (.ListComp elt gs sc pos)=some x):PE X (.ListComp elt gs sc pos) (tR κ K Gv Hv (iR Γ.k x)):=by
 obtain⟨tg,it,ifs,own,el,src,t,c,rfl,S,rfl⟩:=qis h;have B:BlkScope X own (Jh Γ.N sc) sc:=YJ gd S.chk
 exact PE.imp (qfc own (Jh Γ.N sc) gd.calm B (qk4 (Gv:=Gv) (Hv:=Hv) gd A tg it S.src) (λcl C fp s2 H2=>qbK (Jk gd B S.nd cl C fp s2 H2) tg S.tg) (λcl C fp s2 H2=>qey (ih _ _ (Jk gd B S.nd cl C fp s2 H2)) ifs S.c)
  (λcl C fp s2 H2=>qir (ih _ _ (Jk gd B S.nd cl C fp s2 H2)) elt S.el) (JQ S.fold X.env)) (Zt S)
theorem qf1(gd:Gd κ K k X Γ)(A:All κ K k X Γ m)(f:Str)(es:List Expr)(p q:Pos)(h:cE (m+1) Γ (.Call (.Name f p) es [] q)=some x):PE X (.Call (.Name f p) es [] q) (tR κ K Gv Hv (iR Γ.k x)):=by
 obtain⟨hn,h⟩:=qi h;simp only[Bool.and_eq_true] at hn;obtain⟨⟨h1,h2⟩,h3⟩:=hn
 by_cases hi:f = "isinstance"
 ·subst hi;rw[if_pos rfl] at h
  match es,h with
  |[a,b],h=>
   cases b with
   |Name t tp=>exact qij gd A a t p tp q h2 h
   |_=>cases h
  |[],h=>cases h
  |[_],h=>cases h
  | _::_::_::_,h=>cases h
 rw[if_neg hi] at h
 by_cases ht:Γ.tab.contains f=true
 ·rw[if_pos ht] at h
  by_cases hf:(f = "_law_let"/\es.length=2)\/f = "_law_day"
  ·rw[if_pos hf] at h;exact qds gd A f es p q h1 h2 ht h
  ·rw[if_neg hf] at h;exact qdr gd A f es p q h1 h2 ht h
 rw[if_neg ht] at h
 by_cases hk:Γ.cs.tab.contains f=true
 ·rw[if_pos hk] at h;exact qfZ gd A f es p q h1 h2 hk h
 rw[if_neg hk] at h
 match es,h with
 |[a],h=>
  have h:(match lrE Γ f a with |some t=>_ |none=>_)=_:=h
  cases hl:lrE Γ f a with
  |some t=>rw[hl] at h;exact qkw gd A f a p q h2 hl h
  |none=>rw[hl] at h;exact qdt gd A f a p q h2 h
 |[a,b],h=>exact qdu gd A f a b p q h2 h
 |[],h=>cases h
 | _::_::_::_,h=>cases h
theorem ql8(gd:Gd κ K k X Γ)(A:All κ K k X Γ m)(ih:∀X' Γ',Gd κ K k X' Γ'->All κ K k X' Γ' m)(e:Expr)(x:E)(h:cE (m+1) Γ e=some x):PE X e (tR κ K Gv Hv (iR Γ.k x)):=by
 cases e with
 |Name x pos=>exact qdg gd h pos
 |Constant c j pos=>exact Zq c j pos h
 |BinOp a op b pos=>exact qdn A a b op pos h
 |UnaryOp op a pos=>
  cases op with
  |USub=>exact qh0 A a pos h
  |Not=>exact qfJ A a pos h
  |_=>cases h
 |BoolOp op vs pos=>
  match vs,h with
  |[],h=>cases op<;>cases h
  |[a],h=>cases op<;>(obtain⟨a',h1,rfl⟩:=map_some h;exact PE.imp (qgS (A.r Gv Hv _ _ h1)) λσ H Q h=>h)
  | a::b::l,h=>
   cases op with
   |And=>exact qh2 A a b l pos h
   |Or=>exact qkt A a b l pos h
 |Compare a ops bs pos=>
  match ops,bs,h with
  |[op],[b],h=>exact qfK gd A a b op pos h
  |[],_,h=>cases h
  |[_],[],h=>cases h
  | [_],_::_::_,h=>cases h
  | _::_::_,_,h=>cases h
 |IfExp c a b pos=>exact qh3 A c a b pos h
 |Subscript a b pos=>exact qh5 gd A a b pos h
 |List es pos=>exact qh6 A es pos h
 |Tuple es j pos=>exact qh7 A es j pos h
 |Call fn es kws q=>
  cases fn with
  |Name f p=>
   cases kws with
   |nil=>exact qf1 gd A f es p q h
   |cons kw kws=>cases h
  |Attribute o x ap=>
   cases kws with
   |nil=>exact qfY gd A o x ap es q h
   |cons kw kws=>cases h
  |_=>cases h
 |Attribute o x pos=>exact qil gd A o x pos h
 |ListComp elt gens sc pos=>exact qf0 gd A ih elt gens sc pos h
 |Dict keys values pos=>exact qia A keys values pos h
 |JoinedStr vs pos=>
  match vs,h with
  |[],h=>cases h
  |[_],h=>cases h
  | a::b::l,h=>exact qh8 A a b l pos h
 |_=>cases h
theorem all:∀(m:Nat) (X:Cx) (Γ:Ct),Gd κ K k X Γ->All κ K k X Γ m
 |0,_,_,_=>ql1
 | m+1,X,Γ,gd=>
  have A:=all m X Γ gd
  ⟨λGv Hv=>ql8 gd A (all m),λGv Hv=>ql2 gd A,λGv Hv=>ql5 gd A,λGv Hv=>qku A,λGv Hv=>qkv A,λGv Hv=>ql3 A,λGv Hv=>ql4 A,λGv Hv=>ql6 gd A,λGv Hv=>ql7 gd A⟩
end
end DE
namespace DE
open PySem PySem.Spec PyProof.Rows L2
section
variable(κ:KC)(K:Frag)(Gv Hv:Hp)
noncomputable def FlP(G:Hp)(D:Ends):Fl->Prop
 | .next ρ'=>∀σ' G' H',ER κ K Gv Hv G' H' ρ' σ'->qo G G'->D.nx σ' H'
 |.ret r=>∀v G' H',qo Hv H'->qo Gv G'->qo G' H'->(∀a o,G' a=some o->(∃o',Gv a=some o')\/Hv a=none)->ReR κ G' H' Hv r v->D.rt v H'
def tS(f:Env->R Fl):TS:=λD σ H=>∃ρ G,ER κ K Gv Hv G H ρ σ/\Wk (f ρ) (FlP κ K Gv Hv G D)
end
structure Gs(κ:KC)(K:Frag)(k:Nat)(X:Cx)(Γ:Ct):Prop extends Gd κ K k X Γ where
 own:PassesOwn (model X.prog X.w) X.A X.env X.xe
 nx:∀e s,X.xe e s->False
 sceq:X.env.scope=Γ.sc
 fnk:Γ.sc.kind=.function
theorem PS.imp{X:Cx}{st:Stmt}{t t':TS}(h:PS X st t')(i:∀D σ H,t D σ H->t' D σ H):PS X st t:=λpins s σ H D I hw=>h pins s σ H D I (i D σ H hw)
theorem PSs.imp{X:Cx}{st:List Stmt}{t t':TS}(h:PSs X st t')(i:∀D σ H,t D σ H->t' D σ H):PSs X st t:=λpins s σ H D I hw=>h pins s σ H D I (i D σ H hw)
theorem yK{e:Expr}(h:jm e=true)(t:Option Expr)(l:Nat)(env:PySem.Env):swapsWith e t l env=pure false:=by cases e<;>first | rfl | (simp[jm] at h)
section
variable{κ:KC}{K:Frag}{Gv Hv:Hp}{k m w:Nat}{X:Cx}{Γ:Ct}
theorem zh{ρ:Env}{i:Nat}{l:List D}(h:jd ρ i=some l):ρ[i]?=some (.own l):=by
 unfold jd at h
 split at h
 ·rename_i e;cases h;exact e
 ·cases h
theorem ER.ownSlot{G H:Hp}{ρ:Env}{σ:L2.St}{i:Nat}{l:List D}(er:ER κ K Gv Hv G H ρ σ)(e:ρ[i]?=some (.own l)):∃a xs,σ[i]?=some (some (.ref a))/\H a=some (.lst xs)/\ql κ G l xs:=by obtain⟨a,xs,z,h1,h2,h3,h4⟩:=er.sl i _ e;exact⟨a,xs,z,h1,h4⟩
theorem qbL(gd:Gd κ K k X Γ)(A:All κ K k X Γ m)(x:Str)(a:Expr)(xp ap cp p:Pos){i:Nat}{a':E}(hl:(ap.endLine == cp.line)=true)(s1:qp a=false)(hi:Zi Γ x=some i)(ha:cX m Γ a=some a') :
  PS X (.Expr (.Call (.Attribute (.Name x xp) "append" ap) [a] [] cp) p) (tS κ K Gv Hv (iS Γ.k w (.app i a'))):=by
 have few:((backTo cp (starEach [a] X.env)).all (λx=>!x.1)&&(backToKw cp (keywordEach [] X.env)).all (λx=>x.1.isSome)&&decide (([a]:List Expr).length+([]:List Keyword).length+(if ([]:List Keyword).isEmpty then 0 else 1) < 30))=true:=by rw[qe s1];rfl
 refine PS.imp (zO (qcR PySem.F.plainAttrs_list PySem.F.slot_list_append PySem.F.type_list_append qaU (Ji gd hi xp) (qj (A.e Gv Hv _ _ ha) qw (qe s1)) rfl few hl (qe s1) rfl) rfl) λD σ H hq1=>?_;obtain⟨ρ,G,er,h⟩:=hq1;have h:Wk (α:=Fl) (match jd ρ i with |none=>R.no |some _=>(qZ a' (iR Γ.k a') ρ).th λy=>match jd y.2 i with |some l=>if l.length < sizeLine then .ok (.next (y.2.set i (.own (l++[y.1])))) else .no |none=>.no) _:=h
 cases e1:jd ρ i with
 |none=>rw[e1] at h;exact False.elim h
 |some l0=>
  rw[e1] at h;obtain⟨b,xs,z,h1,h2⟩:=er.ownSlot (zh e1);refine⟨_,z,.inl ⟨rfl,xs,SqL.of h1⟩,ρ,G,er,Wk.mono (Wk.th h) λy h v G1 H1 p1 r1=>?_⟩
  cases e2:jd y.2 i with
  |none=>rw[e2] at h;exact False.elim h
  |some l=>rw[e2] at h;obtain⟨hz,h⟩:=Wk.iff h;obtain⟨b',ys,z',h3,h4⟩:=p1.er.ownSlot (zh e2);rw[z] at z';cases z';refine⟨b,ys,v,rfl,rfl,h3,by rw[<-h4.len];exact hz,?_⟩;exact h σ G1 _ (p1.er.write (zh e2) z (h4.snoc r1)) p1.gs
theorem qbM(gd:Gd κ K k X Γ)(A:All κ K k X Γ m)(x:Str)(a:Expr)(xp ap cp p:Pos){i:Nat}{a':E}(hl:(ap.endLine == cp.line)=true)(s1:qp a=false)(hi:Zi Γ x=some i)(ha:cE m Γ a=some a') :
  PS X (.Expr (.Call (.Attribute (.Name x xp) "extend" ap) [a] [] cp) p) (tS κ K Gv Hv (iS Γ.k w (.ext i a'))):=by
 have few:((backTo cp (starEach [a] X.env)).all (λx=>!x.1)&&(backToKw cp (keywordEach [] X.env)).all (λx=>x.1.isSome)&&decide (([a]:List Expr).length+([]:List Keyword).length+(if ([]:List Keyword).isEmpty then 0 else 1) < 30))=true:=by rw[qe s1];rfl
 refine PS.imp (zO (qcR PySem.F.plainAttrs_list PySem.F.slot_list_extend PySem.F.type_list_extend qaV (Ji gd hi xp) (qj (A.r Gv Hv _ _ ha) qw (qe s1)) rfl few hl (qe s1) rfl) rfl) λD σ H hq1=>?_;obtain⟨ρ,G,er,h⟩:=hq1;have h:Wk (α:=Fl) (match jd ρ i with |none=>R.no |some _=>(iR Γ.k a' ρ).th λy=>match jd y.2 i,y.1.plain? with |some l,some n=>if l.length+n.length<=sizeLine then .ok (.next (y.2.set i (.own (l++n)))) else .no |_,_=>.no) _:=h
 cases e1:jd ρ i with
 |none=>rw[e1] at h;exact False.elim h
 |some l0=>
  rw[e1] at h;obtain⟨b,xs,z,h1,h2⟩:=er.ownSlot (zh e1);refine⟨_,z,.inl ⟨rfl,xs,SqL.of h1⟩,ρ,G,er,Wk.mono (Wk.th h) λy h v G1 H1 p1 r1=>?_⟩
  cases e2:jd y.2 i with
  |none=>rw[e2] at h;exact False.elim h
  |some l=>
   cases e3:y.1.plain? with
   |none=>rw[e2,e3] at h;exact False.elim h
   |some n=>rw[e2,e3] at h;obtain⟨hz,h⟩:=Wk.iff h;obtain⟨b',ys,z',h3,h4⟩:=p1.er.ownSlot (zh e2);obtain⟨c,zs,rfl,h5,h6⟩:=r1.plain p1.er e3;rw[z] at z';cases z';refine⟨b,c,ys,zs,rfl,rfl,h3,h5,by rw[<-h4.len,<-h6.len];exact hz,?_⟩;exact h σ G1 _ (p1.er.write (zh e2) z (h4.app h6)) p1.gs
theorem qdw(gd:Gd κ K k X Γ)(x:Str)(xp ap cp p:Pos){i:Nat}(hl:(ap.endLine == cp.line)=true)(hi:Zi Γ x=some i) :
  PS X (.Expr (.Call (.Attribute (.Name x xp) "clear" ap) [] [] cp) p) (tS κ K Gv Hv (iS Γ.k w (.clr i))):=by
 refine PS.imp (zO (qhh PySem.F.plainAttrs_list PySem.F.slot_list_clear PySem.F.type_list_clear qcS (Ji gd hi xp) rfl hl) rfl) λD σ H hq1=>?_;obtain⟨ρ,G,er,h⟩:=hq1;have h:Wk (α:=Fl) (match jd ρ i with |some _=>R.ok (Fl.next (ρ.set i (.own []))) |none=>.no) _:=h
 cases e1:jd ρ i with
 |none=>rw[e1] at h;exact False.elim h
 |some l0=>rw[e1] at h;obtain⟨b,xs,z,h1,h2⟩:=er.ownSlot (zh e1);exact⟨_,z,.inl ⟨rfl,xs,SqL.of h1⟩,b,xs,rfl,rfl,h1,h σ G _ (er.write (zh e1) z .nil) λ_ _ e=>e⟩
theorem qiu(gd:Gd κ K k X Γ)(A:All κ K k X Γ m)(e:Expr)(p:Pos){z:E}(h:cV m Γ e=some z):PS X (.Return (some e) p) (tS κ K Gv Hv (iS Γ.k w (.ret z))):=by
 have gen:(cE m Γ e).bind YB=some z->PS X (.Return (some e) p) (tS κ K Gv Hv (iS Γ.k w (.ret z))):=λh=>by
  obtain⟨y,h1,h2⟩:=Option.bind_eq_some_iff.mp h;obtain⟨rfl,hv⟩:=zu h2;refine PS.imp (qaE (A.r Gv Hv _ _ h1)) λD σ H hq1=>?_;obtain⟨ρ,G,er,h⟩:=hq1;have h:=Wk.th (x:=YA y (iR Γ.k y) ρ) h;rw[qfD hv] at h;refine⟨ρ,G,er,Wk.mono (Wk.th h) λx h v G1 H1 p1 r1=>?_⟩;obtain⟨rv,ρ1⟩:=x
  cases rv with
  |val d=>exact h v G1 H1 p1.er.base p1.er.g0 p1.er.sub p1.er.fresh r1
  |tmp l=>obtain⟨a,xs,rfl,h1,h2,h3,h4,h5,h6⟩:=r1;exact h _ G1 H1 p1.er.base p1.er.g0 p1.er.sub p1.er.fresh ⟨a,xs,rfl,h1,h3,h4,h6⟩
  |_=>exact False.elim h
 cases e with
 |Name x pos=>
  rcases JL gd h pos with ⟨i,rfl,P⟩ | ⟨d,v,rfl,e3,P⟩
  ·refine PS.imp (qaE P) λD σ H hq1=>?_;obtain⟨ρ,G,er,h⟩:=hq1;have h:=Wk.th (x:=slX ρ i) h;unfold slX at h
   cases q:ρ[i]? with
   |none=>rw[q] at h;exact False.elim h
   |some s=>
    rw[q] at h;have w:=er.sl i s q
    cases s with
    |val d=>obtain⟨v,z,r⟩:=w;exact⟨v,z,h v G H er.base er.g0 er.sub er.fresh r⟩
    |own l=>obtain⟨a,xs,z,r1,r2,r3,r4⟩:=w;exact⟨_,z,h _ G H er.base er.g0 er.sub er.fresh ⟨a,xs,rfl,r1,r2,r3,r4⟩⟩
    |_=>exact False.elim h
  ·exact PS.imp (qaE P) λD σ H ⟨ρ,G,er,h⟩=>h v G H er.base er.g0 er.sub er.fresh (e3 G)
 |_=>exact gen h
noncomputable def AsR(κ:KC)(K:Frag)(Hv G H:Hp)(ρ:Env)(σ:L2.St):Sl->V->Prop
 |.val d,v=>Rep κ G d v
 |.own l,v=>∃a xs,v=.ref a/\H a=some (.lst xs)/\Hv a=none/\G a=none/\¬ qaa ρ σ a/\ql κ G l xs
 |_,_=>False
noncomputable def tA(κ:KC)(K:Frag)(Gv Hv:Hp)(f:Env->R (Sl×Env)):TE:=λσ H Q=>∃ρ G,ER κ K Gv Hv G H ρ σ/\Wk (f ρ) λs=>∀v G' H',Po κ K Gv Hv σ G H ρ G' H' s.2->AsR κ K Hv G' H' s.2 σ s.1 v->Q v H'
theorem QA{G H:Hp}{ρ:Env}{σ:L2.St}{s:Sl}{v:V}{i:Nat}(er:ER κ K Gv Hv G H ρ σ)(h:AsR κ K Hv G H ρ σ s v):ER κ K Gv Hv G H (ρ.set i s) (σ.set i (some v)):=by
 cases s with
 |val d=>exact er.setVal h
 |own l=>obtain⟨a,xs,rfl,h1,h2,h3,h4,h5⟩:=h;exact er.setOwn h1 h2 h3 h4 h5
 |_=>exact False.elim h
theorem qk5{z:E}(hv:∀i,z≠.var i)(σ:L2.St)(H:Hp)(Q:VK)(h:tA κ K Gv Hv (JJ z (iR Γ.k z)) σ H Q):tR κ K Gv Hv (iR Γ.k z) σ H Q:=by
 obtain⟨ρ,G,er,h⟩:=h;rw[qfE hv] at h;refine⟨ρ,G,er,Wk.mono (Wk.th h) λx h v G1 H1 p1 r1=>?_⟩;obtain⟨rv,ρ1⟩:=x
 cases rv with
 |val d=>exact h v G1 H1 p1 r1
 |tmp l=>obtain⟨a,xs,rfl,h1,h2,h3,h4,h5,h6⟩:=r1;exact h _ G1 H1 p1 ⟨a,xs,rfl,h1,h3,h4,h5,h6⟩
 |_=>exact False.elim h
theorem qk6(gd:Gd κ K k X Γ)(A:All κ K k X Γ m)(e:Expr){z:E}(h:cV m Γ e=some z):PE X e (tA κ K Gv Hv (JJ z (iR Γ.k z))):=by
 have gen:(cE m Γ e).bind YB=some z->PE X e (tA κ K Gv Hv (JJ z (iR Γ.k z))):=λh=>by obtain⟨y,h1,h2⟩:=Option.bind_eq_some_iff.mp h;obtain⟨rfl,hv⟩:=zu h2;exact PE.imp (A.r Gv Hv _ _ h1) (qk5 hv)
 cases e with
 |Name x pos=>
  have P:=Zk (Gv:=Gv) (Hv:=Hv) gd h pos;rcases JL gd h pos with ⟨i,rfl,_⟩ | ⟨d,v,rfl,_,_⟩
  ·refine PE.imp P λσ H Q hq1=>?_;obtain⟨ρ,G,er,h⟩:=hq1;exact⟨ρ,G,er,Wk.mono (Wk.th (x:=slE ρ i) h) λy h v G1 H1 p1 r1=>h v G1 H1 p1 r1⟩
  ·exact PE.imp P λσ H Q ⟨ρ,G,er,h⟩=>⟨ρ,G,er,h⟩
 |_=>exact gen h
theorem qiv(gs:Gs κ K k X Γ)(A:All κ K k X Γ m)(x:Str)(e:Expr)(xp p:Pos){i:Nat}{z:E}(hi:qby Γ x=some i)(hz:cV m Γ e=some z):PS X (.Assign [.Name x xp] e p) (tS κ K Gv Hv (iS Γ.k w (.set i z))):=by
 have gd:=gs.toGd;obtain⟨l1,l2,hN,hxi⟩:=YG gd hi
 have fin:∀(D:Ends) (σ:L2.St) (H:Hp),tS κ K Gv Hv (iS Γ.k w (.set i z)) D σ H->tA κ K Gv Hv (JJ z (iR Γ.k z)) σ H (λy H1=>qcC i y σ H1 D.nx):=λD σ H ⟨ρ,G,er,h⟩=>⟨ρ,G,er,Wk.mono (Wk.th (x:=JJ z (iR Γ.k z) ρ) h) λs h v G1 H1 p1 r1=>h _ G1 H1 (QA p1.er r1) p1.gs⟩
 by_cases hn:jm e=true
 ·exact PS.imp (QZ (i:=i) hN hxi l1 (qk6 gd A e hz) (yK hn _ _ _) l2) fin
 cases e with
 |ListComp elt gens sc cp=>
  have hsw:∀b:Bool,(X.env.blockKind == .function&&X.env.kindOf x == some .local&&xp.line == cp.line&&!(sc.names.any λ(n,k)=>n == x&&(k == .local||k == .cell)))=b->swapsWith (.ListComp elt gens sc cp) (some (.Name x xp)) p.line X.env=pure b:=λb hb=>by rw[<-hb];rfl
  cases hb:(X.env.blockKind == .function&&X.env.kindOf x == some .local&&xp.line == cp.line&&!(sc.names.any λ(n,k)=>n == x&&(k == .local||k == .cell))) with
  |false=>exact PS.imp (QZ (i:=i) hN hxi l1 (qk6 gd A _ hz) (hsw false hb) l2) fin
  |true=>
   have hloc:X.env.scope.names.lookup x=some .local:=by
    simp only[Bool.and_eq_true] at hb
    have:=hb.1.1.2
    unfold PySem.Env.kindOf at this
    simpa using this
   obtain⟨y,h1,h2⟩:=Option.bind_eq_some_iff.mp hz;obtain⟨rfl,hv⟩:=zu h2
   cases m with
   |zero=>cases h1
   |succ m=>
    obtain⟨tg,it,ifs,own,el,src,t,c,rfl,S,rfl⟩:=qis h1;have B:BlkScope X own (Jh Γ.N sc) sc:=YJ gd S.chk
    exact PS.imp (qfd (i:=i) own (Jh Γ.N sc) hN hxi hloc gd.calm B (qk4 (Gv:=Gv) (Hv:=Hv) gd (all m X Γ gd) tg it S.src) (λcl C fp s2 H2=>qbK (Jk gd B S.nd cl C fp s2 H2) tg S.tg) (λcl C fp s2 H2=>qey (all m _ _ (Jk gd B S.nd cl C fp s2 H2)) ifs S.c)
     (λcl C fp s2 H2=>qir (all m _ _ (Jk gd B S.nd cl C fp s2 H2)) elt S.el) (hsw true hb) (JQ S.fold X.env)) λD σ H h=>Zt S σ H _ (qk5 hv σ H _ (fin D σ H h))
 |SetComp=>cases m<;>cases hz
 |DictComp=>cases m<;>cases hz
 |_=>exact absurd rfl hn
end
end DE
namespace DE
open PySem PySem.Spec PyProof.Rows L2
structure AllS(κ:KC)(K:Frag)(X:Cx)(Γ:Ct)(m w:Nat):Prop where
 s:∀Gv Hv st x,cS m Γ st=some x->PS X st (tS κ K Gv Hv (iS Γ.k w x))
 ss:∀Gv Hv l x,cSs m Γ l=some x->PSs X l (tS κ K Gv Hv (iSs Γ.k w x))
section
variable{κ:KC}{K:Frag}{Gv Hv:Hp}{k m w:Nat}{X:Cx}{Γ:Ct}
theorem FlP.back{G G1:Hp}{D:Ends}{f:Fl}(h:FlP κ K Gv Hv G D f)(g:qo G G1):FlP κ K Gv Hv G1 D f:=by
 cases f with
 |next ρ=>exactλσ' G' H' er g'=>h σ' G' H' er λb o e=>g' b o (g b o e)
 |ret r=>exact h
theorem qdx{e:Expr}(h:qbw e=true)(es:List Expr)(j:Nat)(p:Pos)(env:PySem.Env):swappedStores [.Tuple es j p] e env=pure none:=by cases e<;>first | rfl | (simp[qbw] at h)
theorem qbN(gd:Gd κ K k X Γ)(A:All κ K k X Γ m)(es:List Expr)(j:Nat)(tp:Pos)(e:Expr)(p:Pos){x:S}(h:cS (m+1) Γ (.Assign [.Tuple es j tp] e p)=some x):PS X (.Assign [.Tuple es j tp] e p) (tS κ K Gv Hv (iS Γ.k w x)):=by obtain⟨hc,h⟩:=qi h;obtain⟨t,a',h1,h2,rfl⟩:=qh h;rw[Bool.and_eq_true] at hc;refine PS.imp (qd8 (A.e Gv Hv _ _ h2) (qbK gd (.Tuple es j tp) h1) (show swapsWithSole [.Tuple es j tp] e p.line X.env=pure false from yK hc.1 (some (.Tuple es j tp)) p.line X.env) (qdx hc.2 es j tp _) rfl) λD σ H hq1=>?_;obtain⟨ρ,G,er,h⟩:=hq1;refine⟨ρ,G,er,Wk.mono (Wk.th (x:=qZ a' (iR Γ.k a') ρ) h) λx h v G1 H1 p1 r1=>?_⟩;exact⟨Gv,Hv,x.2,G1,x.1,p1.er,r1,Wk.mono (Wk.th h) λρ1 h σ1 er1=>h σ1 G1 H1 er1 p1.gs⟩
noncomputable def qky(r:Env->R (Rv×Env))(i:Nat)(d:D)(ρ:Env):R Fl:=match jd ρ i with
 |none=>.no
 |some _=>(r ρ).th λz=>match jd z.2 i,z.1.int? with
  |some l,some n=>(match ixN l.length n with
   |some k=>.ok (.next (z.2.set i (.own (l.set k d))))
   |none=>.no)
  |_,_=>.no
noncomputable def gS(κ:KC)(K:Frag)(Gv Hv:Hp)(r:Env->R (Rv×Env))(i:Nat):TG:=λv σ H Q=>∃(ρ:Env) (G:Hp) (d:D) (D:Ends),ER κ K Gv Hv G H ρ σ/\Rep κ G d v/\Wk (qky r i d ρ) (FlP κ K Gv Hv G D)/\∀H',D.nx σ H'->Q σ H'
theorem qkz(gd:Gd κ K k X Γ)(A:All κ K k X Γ m)(x:Str)(i:Expr)(xp p:Pos)(hs:JH i=true){j:Nat}{i':E}(hj:Zi Γ x=some j)(hi:cE m Γ i=some i'):PG X (.Subscript (.Name x xp) i p) (gS κ K Gv Hv (iR Γ.k i') j):=by
 refine PG.imp (qgY (Ji gd hj xp) (A.r Gv Hv _ _ hi) qcQ (λv=>by cases i<;>first | rfl |(simp[JH] at hs))) λv σ H Q hq1=>?_;obtain⟨ρ,G,d,D,er,r,h,hQ⟩:=hq1;unfold qky at h
 cases e1:jd ρ j with
 |none=>rw[e1] at h;exact False.elim h
 |some l0=>
  rw[e1] at h;obtain⟨b,xs,z,h1,h2⟩:=er.ownSlot (zh e1);refine⟨_,z,ρ,G,er,Wk.mono (Wk.th h) λy h u G1 H1 p1 r1=>?_⟩
  cases e2:jd y.2 j with
  |none=>rw[e2] at h;exact False.elim h
  |some l=>
   cases e3:y.1.int? with
   |none=>rw[e2,e3] at h;exact False.elim h
   |some n=>
    rw[e2,e3] at h;dsimp only at h
    cases e4:ixN l.length n with
    |none=>rw[e4] at h;exact False.elim h
    |some c=>rw[e4] at h;obtain⟨b',ys,z',h3,h4⟩:=p1.er.ownSlot (zh e2);rw[z] at z';cases z';refine⟨b,ys,n,c,rfl,r1.int e3,h3,by rw[<-h4.len];exact e4,hQ _ ?_⟩;exact h σ G1 _ (p1.er.write (zh e2) z (h4.set c (r.same p1.gs))) p1.gs
theorem qbO(gd:Gd κ K k X Γ)(A:All κ K k X Γ m)(x:Str)(i e:Expr)(xp sp p:Pos){y:S}(h:cS (m+1) Γ (.Assign [.Subscript (.Name x xp) i sp] e p)=some y):PS X (.Assign [.Subscript (.Name x xp) i sp] e p) (tS κ K Gv Hv (iS Γ.k w y)):=by obtain⟨hc,h⟩:=qi h;obtain⟨j,q,h1,h2,rfl⟩:=qh h;obtain⟨i',a',h3,h4,rfl⟩:=qh h2;rw[Bool.and_eq_true] at hc;refine PS.imp (qd8 (A.e Gv Hv _ _ h4) (qkz (Gv:=Gv) (Hv:=Hv) gd A x i xp sp hc.2 h1 h3) (show swapsWithSole [.Subscript (.Name x xp) i sp] e p.line X.env=pure false from yK hc.1 (some (.Subscript (.Name x xp) i sp)) p.line X.env) rfl rfl) λD σ H hq1=>?_;obtain⟨ρ,G,er,h⟩:=hq1;exact⟨ρ,G,er,Wk.mono (Wk.th (x:=qZ a' (iR Γ.k a') ρ) h) λy h v G1 H1 p1 r1=>⟨y.2,G1,y.1,D,p1.er,r1,Wk.mono (show Wk (qky (iR Γ.k i') j y.1 y.2) _ from h) λf hf=>hf.back p1.gs,λ_ h=>h⟩⟩
theorem qkA(A:All κ K k X Γ m)(S:AllS κ K X Γ m w)(c:Expr)(a b:List Stmt)(p:Pos){x:DE.S}(h:cS (m+1) Γ (.If c a b p)=some x):PS X (.If c a b p) (tS κ K Gv Hv (iS Γ.k w x)):=by
 obtain⟨c',q,h1,h2,rfl⟩:=qh h;obtain⟨a',b',h3,h4,rfl⟩:=qh h2;refine PS.imp (ZP (A.t Gv Hv _ _ h1) (S.ss Gv Hv _ _ h3) (S.ss Gv Hv _ _ h4)) λD σ H hq1=>?_;obtain⟨ρ,G,er,h⟩:=hq1;refine⟨ρ,G,er,Wk.mono (Wk.th (x:=iT Γ.k c' ρ) h) λt h G1 H1 p1=>?_⟩;obtain⟨d,ρ1⟩:=t
 cases d with
 |true=>rw[if_pos rfl];exact⟨ρ1,G1,p1.er,Wk.mono h λf hf=>hf.back p1.gs⟩
 |false=>rw[if_neg (λz=>by cases z)];exact⟨ρ1,G1,p1.er,Wk.mono h λf hf=>hf.back p1.gs⟩
theorem qiw(gs:Gs κ K k X Γ)(A:All κ K k X Γ m)(S:AllS κ K X Γ m w)(tg it:Expr)(body:List Stmt)(p:Pos){x:DE.S}(h:cS (m+1) Γ (.For tg it body [] p)=some x):PS X (.For tg it body [] p) (tS κ K Gv Hv (iS Γ.k w x)):=by
 obtain⟨hf,h⟩:=qi h;obtain⟨q,b',h1,h2,rfl⟩:=qh h;obtain⟨t,src,h3,h4,rfl⟩:=qh h1;refine PS.imp (qd9 gs.own gs.calm (A.i Gv Hv _ _ _ h4) (qbK gs.toGd tg h3) (S.ss Gv Hv _ _ h2) (JQ hf X.env)) λD σ H hq1=>?_;obtain⟨ρ,G,er,h⟩:=hq1;refine⟨ρ,G,er,Wk.mono (Wk.th (x:=iI Γ.k src ρ) h) λx h J G1 H1 p1 it1=>?_⟩
 refine⟨λi mm σ' H'=>mm=x.1.length - i/\i<=x.1.length/\∃ρb Gb,ER κ K Gv Hv Gb H' ρb σ'/\qo G1 Gb/\Wk (qgH (λd ρ1=>(t.go d ρ1).th λρ2=>iSs Γ.k w b' ρ2) (x.1.drop i) ρb) (FlP κ K Gv Hv G D),
  ⟨x.1.length,by simp,Nat.zero_le _,x.2,G1,p1.er,λ_ _ e=>e,by rw[List.drop_zero];exact h⟩,?_⟩
 rintro i mm σ' H' ⟨rfl,hi,ρb,Gb,erb,g1,hw⟩;have it2:=it1 i Gb H' g1 erb.base erb.sub
 by_cases hlt:i < x.1.length
 ·obtain⟨go,yl⟩:=it2.1 x.1[i] (List.getElem?_eq_getElem hlt);refine .inr ⟨go,_,λσ2 H2 w=>⟨x.1.length - (i+1),by omega,w⟩,λv H2 hy=>?_⟩;obtain⟨G',hs,gss,sub,new,rep⟩:=yl v H2 hy;have p2:=Po.more erb hs gss sub new;rw[List.drop_eq_getElem_cons hlt] at hw;refine⟨Gv,Hv,ρb,G',x.1[i],p2.er,rep,Wk.mono (Wk.th (Wk.th hw)) λρ2 hw σ2 er2=>⟨ρ2,G',er2,Wk.mono hw λf hf=>?_⟩⟩
  cases f with
  |next ρ3=>exactλσ3 G3 H3 er3 g3=>⟨rfl,hlt,ρ3,G3,er3,λb o e=>g3 b o (gss b o (g1 b o e)),hf⟩
  |ret r=>exact hf
 ·have e:i=x.1.length:=by omega
  subst e;rw[List.drop_length] at hw;exact .inl ⟨it2.2 rfl,hw σ' Gb H' erb λb o e=>g1 b o (p1.gs b o e)⟩
theorem qdy(gs:Gs κ K k X Γ)(A:All κ K k X Γ m)(S:AllS κ K X Γ m w)(c:Expr)(body:List Stmt)(p:Pos){x:DE.S}(h:cS (m+1) Γ (.While c body [] p)=some x):PS X (.While c body [] p) (tS κ K Gv Hv (iS Γ.k w x)):=by
 obtain⟨c',b',h1,h2,rfl⟩:=qh h;refine PS.imp (qcE gs.own (A.t Gv Hv _ _ h1) (S.ss Gv Hv _ _ h2)) λD σ H hq1=>?_;obtain⟨ρ,G,er,h⟩:=hq1;refine⟨λn σ' H'=>∃ρb Gb,ER κ K Gv Hv Gb H' ρb σ'/\qo G Gb/\Wk (whL (λρ1=>iT Γ.k c' ρ1) (λρ1=>iSs Γ.k w b' ρ1) n ρb) (FlP κ K Gv Hv G D),⟨w,ρ,G,er,λ_ _ e=>e,h⟩,?_⟩;rintro n σ' H' ⟨ρb,Gb,erb,g1,hw⟩
 cases n with
 |zero=>exact False.elim hw
 |succ n=>
  refine⟨ρb,Gb,erb,Wk.mono (Wk.th (x:=iT Γ.k c' ρb) hw) λb hw G2 H2 p2=>?_⟩;obtain⟨d,ρ2⟩:=b
  cases d with
  |false=>rw[if_neg (λz=>by cases z)];exact hw σ' G2 H2 p2.er λb o e=>p2.gs b o (g1 b o e)
  |true=>
   rw[if_pos rfl];refine⟨_,λσ3 H3 w=>⟨n,Nat.lt_succ_self n,w⟩,ρ2,G2,p2.er,Wk.mono (Wk.th hw) λf hf=>?_⟩
   cases f with
   |next ρ3=>exactλσ3 G3 H3 er3 g3=>⟨ρ3,G3,er3,λb o e=>g3 b o (p2.gs b o (g1 b o e)),hf⟩
   |ret r=>exact hf
theorem qf2(gd:Gd κ K k X Γ)(A:All κ K k X Γ m)(e:Expr)(p:Pos){x:S}(h:cS (m+1) Γ (.Expr e p)=some x):PS X (.Expr e p) (tS κ K Gv Hv (iS Γ.k w x)):=by
 have gen:oif (jm e) ((cE m Γ e).map .expr)=some x->PS X (.Expr e p) (tS κ K Gv Hv (iS Γ.k w x)):=λh=>by obtain⟨hn,h⟩:=qi h;obtain⟨a',h1,rfl⟩:=map_some h;refine PS.imp (zO (A.r Gv Hv _ _ h1) (yK hn _ _ _)) λD σ H hq1=>?_;obtain⟨ρ,G,er,h⟩:=hq1;exact⟨ρ,G,er,Wk.mono (Wk.th (x:=iR Γ.k a' ρ) h) λx h v G1 H1 p1 r1=>h σ G1 H1 p1.er p1.gs⟩
 cases e with
 |Call fn es kws cp=>
  cases fn with
  |Attribute o meth ap=>
   cases o with
   |Name y yp=>
    cases kws with
    |cons kw kws=>exact match es,h,gen with |[],h,gen=>gen h |[_],h,gen=>gen h | _::_::_,h,gen=>gen h
    |nil=>
     match es,h,gen with
     |[a],h,gen=>
      obtain⟨hc,h⟩:=qi h;rw[Bool.and_eq_true] at hc;have hs:qp a=false:=by simpa using hc.2
      by_cases h1:meth = "append"
      ·subst h1;rw[if_pos rfl] at h;obtain⟨i,a',h2,h3,rfl⟩:=qh h;exact qbL gd A y a yp ap cp p hc.1 hs h2 h3
      rw[if_neg h1] at h
      by_cases h2:meth = "extend"
      ·subst h2;rw[if_pos rfl] at h;obtain⟨i,a',h2,h3,rfl⟩:=qh h;exact qbM gd A y a yp ap cp p hc.1 hs h2 h3
      rw[if_neg h2] at h;cases h
     |[],h,gen=>obtain⟨hc,h0⟩:=qi h;rw[Bool.and_eq_true] at hc;obtain rfl:meth = "clear":=of_decide_eq_true hc.2;obtain⟨i,h2,rfl⟩:=map_some h0;exact qdw gd y yp ap cp p hc.1 h2
     | _::_::_,h,gen=>exact gen h
   |_=>exact gen h
  |_=>exact gen h
 |_=>exact gen h
theorem ql9(gs:Gs κ K k X Γ)(A:All κ K k X Γ m)(S:AllS κ K X Γ m w)(st:Stmt)(x:DE.S)(h:cS (m+1) Γ st=some x):PS X st (tS κ K Gv Hv (iS Γ.k w x)):=by
 cases st with
 |Pass p=>cases h;exact PS.imp qeN λD σ H ⟨ρ,G,er,h⟩=>h σ G H er λ_ _ e=>e
 |Raise a b c=>cases h;exactλpins s σ H D I ⟨ρ,G,er,h⟩=>h.elim
 |Expr e p=>exact qf2 gs.toGd A e p h
 |Return o p=>
  cases o with
  |some e=>obtain⟨y,h1,rfl⟩:=map_some h;exact qiu gs.toGd A e p h1
  |none=>cases h;exact PS.imp qeO λD σ H ⟨ρ,G,er,h⟩=>h .non G H er.base er.g0 er.sub er.fresh (by simp only[ReR,Rep])
 |Assign tgs e p=>
  match tgs,h with
  |[],h=>cases h
  | _::_::_,h=>cases h
  |[tg],h=>
   cases tg with
   |Name x xp=>obtain⟨i,z,h1,h2,rfl⟩:=qh h;exact qiv gs A x e xp p h1 h2
   |Tuple es j tp=>exact qbN gs.toGd A es j tp e p h
   |Subscript o i sp=>
    cases o with
    |Name x xp=>exact qbO gs.toGd A x i e xp sp p h
    |_=>cases h
   |_=>cases h
 |If c a b p=>exact qkA A S c a b p h
 |Try body hs orelse fin p=>
  cases hs with
  |nil=>cases h
  |cons h0 hs=>
   cases orelse with
   |cons _ _=>cases h
   |nil=>
    cases fin with
    |cons _ _=>cases h
    |nil=>
     obtain⟨b,h1,rfl⟩:=map_some h;intro pins s σ H D I hq;refine wpAny_Try_except (wpAny_mono (S.ss Gv Hv _ _ h1 pins s σ H D I hq) (λf s1 q=>?_) λe s1 hq=>(gs.nx e s1 hq).elim)
     cases f with
     |next=>exact wpAny_execs_nil q
     |_=>exact q
 |For tg it body orelse p=>
  cases orelse with
  |nil=>exact qiw gs A S tg it body p h
  |cons s l=>cases h
 |While c body orelse p=>
  cases orelse with
  |nil=>exact qdy gs A S c body p h
  |cons s l=>cases h
 |_=>cases h
theorem qkB(S:AllS κ K X Γ m w):∀l x,cSs (m+1) Γ l=some x->PSs X l (tS κ K Gv Hv (iSs Γ.k w x))
 |[],_,h=>by cases h;exact PSs.imp jN λD σ H ⟨ρ,G,er,h⟩=>h σ G H er λ_ _ e=>e
 | st::l,_,h=>by
  obtain⟨s',l',h1,h2,rfl⟩:=qh h;refine PSs.imp (zc (S.s Gv Hv _ _ h1) (S.ss Gv Hv _ _ h2)) λD σ H hq1=>?_;obtain⟨ρ,G,er,h⟩:=hq1;refine⟨ρ,G,er,Wk.mono (Wk.th (x:=iS Γ.k w s' ρ) h) λf hf=>?_⟩
  cases f with
  |next ρ1=>exactλσ1 G1 H1 er1 g1=>⟨ρ1,G1,er1,Wk.mono hf λf hf=>hf.back g1⟩
  |ret r=>exact hf
theorem qkC(gs:Gs κ K k X Γ):∀m,AllS κ K X Γ m w
 |0=>⟨(λ_ _ _ _ h=>nomatch h),(λ_ _ _ _ h=>nomatch h)⟩
 | m+1=>
  have S:=qkC gs m
  ⟨λGv Hv=>ql9 gs (all m X Γ gs.toGd) S,λGv Hv=>qkB S⟩
end
end DE
namespace DE
open PySem PySem.Spec PyProof.Rows L2
mutual
inductive Y where
 | s (s:S) | rai (n:Str) (l:Es) | cal (o:Option Nat) (f:Str) (l:Es) | ite (c:T) (a b:Ys) | for_ (tg:Tg) (src:I) (b:Ys) | try_ (b:Ys) (hs:List (Str×Nat×Nat))
inductive Ys where
 | nil | cons (y:Y) (l:Ys)
end
def noX{α:Type}:R α->R α
 |.ok a=>.ok a
 |_=>.no
def qjM:D->Bool
 |.int i=>decide (i.natAbs.log2 < 1920)
 |.non=>true
 |_=>false
noncomputable def mkX(cs:Cs)(n:Str)(ds:List D):R Fl:=match cs.xn n with
 |some []=>if ds.length<=sizeLine then .exc (cs.xa n) [] else .no
 |some ns=>if (decide (ds.length=ns.length)&&decide (ds.length<=sizeLine)&&ds.all qjM)=true then .exc (cs.xa n) (ns.zip ds) else .no
 |none=>.no
noncomputable def qgI(o:Option Nat)(r:Rv)(ρ:Env):R Fl:=match o with
 |none=>.ok (.next ρ)
 |some i=>(match r with
  |.val d=>.ok (.next (ρ.set i (.val d)))
  |.tmp l=>.ok (.next (ρ.set i (.own l)))
  |_=>.no)
noncomputable def Jl(cs:Cs)(n:Nat)(C:Addr)(l:List (Str×D)):List (Str×Nat×Nat)->R Fl
 |[]=>.no
 | h::hs=>match cs.xs C h.1 with
  |some true=>.ok (.next ((List.replicate n Sl.no).set h.2.2 (.val (.exc C (l.map (·.1)) (l.map (·.2))))))
  |some false=>Jl cs n C l hs
  |none=>.no
mutual
noncomputable def iY(cl:Cl)(cx:Str->List Ar->R Rv)(w:Nat):Y->Env->R Fl
 |.s s,ρ=>noX (iS cl w s ρ)
 |.rai n l,ρ=>(noX (iEs cl l ρ)).th λx=>mkX cl.cs n x.1
 |.cal o f l,ρ=>(noX (iAs cl l ρ)).th λx=>(cx f x.1).th λr=>qgI o r x.2
 |.ite c a b,ρ=>(noX (iT cl c ρ)).th λt=>if t.1 then iYs cl cx w a t.2 else iYs cl cx w b t.2
 |.for_ tg src b,ρ=>(noX (iI cl src ρ)).th λx=>qgH (λd ρ1=>(noX (tg.go d ρ1)).th λρ2=>iYs cl cx w b ρ2) x.1 x.2
 |.try_ b hs,ρ=>match iYs cl cx w b ρ with
  |.exc C l=>Jl cl.cs ρ.length C l hs
  |r=>r
noncomputable def iYs(cl:Cl)(cx:Str->List Ar->R Rv)(w:Nat):Ys->Env->R Fl
 |.nil,ρ=>.ok (.next ρ)
 |.cons y l,ρ=>(iY cl cx w y ρ).th λf=>match f with
  |.next ρ1=>iYs cl cx w l ρ1
  |.ret r=>.ok (.ret r)
end
noncomputable def cHs(Γ:Ct):List ExceptHandler->Option (List (Str×Nat×Nat))
 |[]=>some []
 | .ExceptHandler (some (.Name t _)) (some n) [.Assign [.Name v _] (.Name n2 _) _] _::hs=>oif (decide (n2=n)&&decide (v≠n)&&decide (t≠"ValueError")&&zf t&&glB Γ.sc t&&zf n&&(Γ.sc.names.lookup n == some .local)) (o2 (o2 (qby Γ n) (qby Γ v) Prod.mk) (cHs Γ hs) λp r=>(t,p.1,p.2)::r)
 |_=>none
def xnB(Γ:Ct)(f:Str):Bool:=zf f&&glB Γ.sc f
mutual
noncomputable def cY:Nat->Ct->Bool->Stmt->Option Y
 |0,_,_,_=>none
 | m+1,Γ,z,st=>match st with
  | .Raise (some (.Call (.Name n _) (e::es) [] _)) none _=>oif (!z&&xnB Γ n) ((cEs m Γ (e::es)).map (.rai n))
  | .Expr (.Call (.Name f fp) (e::es) [] cp) p=>if Γ.cs.xt.contains f=true then oif (xnB Γ f) ((cAs m Γ (e::es)).map (.cal none f)) else (cS (m+1) Γ (.Expr (.Call (.Name f fp) (e::es) [] cp) p)).map .s
  | .Assign [.Name x xp] (.Call (.Name f fp) (e::es) [] cp) p=>if Γ.cs.xt.contains f=true then oif (xnB Γ f) (o2 (qby Γ x) (cAs m Γ (e::es)) λi l=>.cal (some i) f l) else (cS (m+1) Γ (.Assign [.Name x xp] (.Call (.Name f fp) (e::es) [] cp) p)).map .s
  |.If c a b _=>o2 (cT m Γ c) (o2 (cYs m Γ z a) (cYs m Γ z b) Prod.mk) λc p=>.ite c p.1 p.2
  |.For tg it body [] _=>oif (!z&&yE it) (o2 (o2 (cTg Γ tg) (cI m Γ (qcv tg) it) Prod.mk) (cYs m Γ z body) λp b=>.for_ p.1 p.2 b)
  | .Try body (h::hs) [] [] _=>oif (!z) (o2 (cYs m Γ true body) (cHs Γ (h::hs)) .try_)
  |st=>(cS (m+1) Γ st).map .s
noncomputable def cYs:Nat->Ct->Bool->List Stmt->Option Ys
 |0,_,_,_=>none
 | m+1,Γ,z,l=>match l with
  |[]=>some .nil
  | st::l=>o2 (cY m Γ z st) (cYs m Γ z l) .cons
end
noncomputable def Wx{α:Type}(Ξ:Addr->List (Str×D)->Prop)(x:R α)(f:α->Prop):Prop:=match x with
 |.ok a=>f a
 |.exc c l=>Ξ c l
 |.no=>False
section
variable{α β:Type}{Ξ:Addr->List (Str×D)->Prop}
theorem Wx.th{x:R α}{g:α->R β}{f:β->Prop}(h:Wx Ξ (x.th g) f):Wx Ξ x λa=>Wx Ξ (g a) f:=by cases x<;>exact h
theorem Wx.mono{x:R α}{f g:α->Prop}(h:Wx Ξ x f)(i:∀a,f a->g a):Wx Ξ x g:=by
 cases x with
 |ok a=>exact i a h
 |exc c l=>exact h
 |no=>exact h
theorem Wx.mono2{Ξ':Addr->List (Str×D)->Prop}{x:R α}{f g:α->Prop}(h:Wx Ξ x f)(j:∀c l,Ξ c l->Ξ' c l)(i:∀a,f a->g a):Wx Ξ' x g:=by
 cases x with
 |ok a=>exact i a h
 |exc c l=>exact j c l h
 |no=>exact h
theorem Wx.nox{x:R α}{f:α->Prop}(h:Wx Ξ (noX x) f):Wk x f:=by
 cases x with
 |ok a=>exact h
 |exc c l=>exact h
 |no=>exact h
end
section
variable(κ:KC)(K:Frag)(Gv Hv:Hp)
noncomputable def qkD(G:Hp)(od:Option Addr)(l:List (Str×D)):Prop:=(od=none/\l=[])\/∃dd xs,od=some dd/\G dd=some (xD dd ((l.map (·.1)).zip xs))/\ql κ G (l.map (·.2)) xs
noncomputable def XP(G:Hp)(E:XK)(C:Addr)(l:List (Str×D)):Prop:=∀od G' H',qo Hv H'->qo Gv G'->qo G G'->qo G' H'->(∀a o,G' a=some o->(∃o',Gv a=some o')\/Hv a=none)->qkD κ G' od l->E (.ref C) od H'
noncomputable def tY(E:XK)(f:Env->R Fl):TS:=λD σ H=>∃ρ G,ER κ K Gv Hv G H ρ σ/\Wx (XP κ Gv Hv G E) (f ρ) (FlP κ K Gv Hv G D)
noncomputable def spX(cx:Str->List Ar->R Rv)(f:Str):Sp:=λvs H Q E=>∃G args,qo G H/\jD κ K G H args vs/\
 Wx (XP κ G H G E) (cx f args) λr=>∀v G' H',qo H H'->qo G G'->qo G' H'->(∀a o,G' a=some o->(∃o',G a=some o')\/H a=none)->ReR κ G' H' H r v->Q v H'
end
theorem XP.up{κ:KC}{Gv Hv G G1:Hp}{E:XK}{C:Addr}{l:List (Str×D)}(h:XP κ Gv Hv G E C l)(g:qo G G1):XP κ Gv Hv G1 E C l:=λod G' H' h1 h2 h3=>h od G' H' h1 h2 λb o q=>h3 b o (g b o q)
noncomputable def qk7(C:Addr)(ns:List Str):Sp:=λvs H Q _=>∃x us,vs=.ref x::us/\H x=some (qel x C none)/\us.length=ns.length/\(∀u∈us,qhB u)/\∀dd,H dd=none->dd≠x->Q .non (upd (upd H dd (xD dd (ns.zip us))) x (qel x C (some dd)))
structure Gb(κ:KC)(K:Frag)(k:Nat)(X:Cx)(Γ:Ct)(cx:Str->List Ar->R Rv)(E:XK):Prop where
 gs:Gs κ K k X.nox Γ
 ps:zM (CX1 X.prog X.w) X E
 xfn:∀f,Γ.cs.xt.contains f=true->∃fa fd ps,FnOk X.prog X.w X.K X.mg X.base (CX1 X.prog X.w) k fa fd ps (spX κ K cx f)/\X.mg f=some (.ref fa)/\PySem.W.keepIn X.K (.ref fa)=true/\qI X.K fd ps []
structure Gx(κ:KC)(K:Frag)(k:Nat)(X:Cx)(Γ:Ct)(cx:Str->List Ar->R Rv)(E:XK):Prop where
 ex:X.ex=[]
 stk:X.stack=X.env::X.outer/\X.env.frame=some X.env.locals
 rs:yh X E
 own:PassesOwn (model X.prog X.w) X.A X.env X.xe
 xn0:∀n,Γ.cs.xn n=some []->X.mg n=some (.ref (Γ.cs.xa n))/\PySem.W.excIn X.K (Γ.cs.xa n) bV "ValueError.__new__" = true
 xn1:∀n ns,Γ.cs.xn n=some ns->ns≠[]->∃fI fd j,k=j+1/\X.mg n=some (.ref (Γ.cs.xa n))/\XcC X.K (Γ.cs.xa n) fI/\FnOk X.prog X.w X.K X.mg X.base CX0 j fI fd ("self" :: ns) (qk7 (Γ.cs.xa n) ns)/\qI X.K fd ("self" :: ns) []
 xhs:∀C (t:Str) b,t≠("ValueError" : Str)->Γ.cs.xs C t=some b->∃D,X.mg t=some (.ref D)/\PySem.W.exmOne X.K (.ref C) (.ref D)=some b
section
variable{κ:KC}{K:Frag}{Gv Hv:Hp}{k m w:Nat}{X:Cx}{Γ:Ct}{cx:Str->List Ar->R Rv}{E:XK}{z:Bool}
theorem PS.nox{st:Stmt}{t:TS}(h:PS X.nox st t):PS X st t:=λpins s σ H D I hw=>wpAny_mono (h pins s σ H D (I.wish _) hw) (λ_ _ q=>q.unwish) λ_ _ z=>False.elim z
theorem PG.nox{tg:Expr}{t:TG}(h:PG X.nox tg t):PG X tg t:=λpins s σ H v u Q I r hw=>wpAny_mono (h pins s σ H v u Q (I.wish _) r hw) (λ_ _ ⟨σ',H',I',q⟩=>⟨σ',H',I'.unwish,q⟩) λ_ _ z=>False.elim z
theorem PI.nox{tg e:Expr}{t:TI}(h:PI X.nox tg e t):PI X tg e t:=λpins s σ H R I hw=>wpAny_mono (h pins s σ H R (I.wish _) hw) (λv s1 q=>wpAny_mono q (λit s2 hq=>by obtain⟨a,fp,tn,J,H2,e,I2,T,st2,f2,r⟩:=hq;exact⟨a,fp,tn,J,H2,e,I2.unwish,T,st2,f2,r⟩) λ_ _ z=>False.elim z) λ_ _ z=>False.elim z
theorem qkE(gb:Gb κ K k X Γ cx E)(st:Stmt)(x:S)(h:cS m Γ st=some x):PS X st (tY κ K Gv Hv E (iY Γ.k cx w (.s x))):=by refine PS.imp (PS.nox ((qkC gb.gs (w:=w) m).s Gv Hv st x h)) λD σ H hq=>?_;obtain⟨ρ,G,er,h⟩:=hq;exact⟨ρ,G,er,Wx.nox (x:=iS Γ.k w x ρ) h⟩
end
end DE
namespace DE
open PySem PySem.Spec PyProof.Rows L2
section
variable{κ:KC}{K:Frag}{Gv Hv:Hp}{k m w:Nat}{X:Cx}{Γ:Ct}{cx:Str->List Ar->R Rv}{E:XK}{z:Bool}
theorem qhB.of{G:Hp}{d:D}{v:V}(h:qjM d=true)(r:Rep κ G d v):qhB v:=by
 cases d with
 |int i=>simp only[Rep] at r;subst r;exact of_decide_eq_true (p:=i.natAbs.log2 < 1920) h
 |non=>simp only[Rep] at r;subst r;trivial
 |_=>cases h
theorem qbP{G:Hp}:∀{ds:List D} {vs:List V},ds.all qjM=true->ql κ G ds vs->∀u∈vs,qhB u
 |[],vs,_,r=>by simp only[ql] at r;subst r;simp
 | d::ds,vs,h,r=>by
  simp only[ql] at r;obtain⟨v,us,rfl,r1,r2⟩:=r;rw[List.all_cons,Bool.and_eq_true] at h;intro u hu;rcases List.mem_cons.mp hu with rfl | hu
  ·exact qhB.of h.1 r1
  ·exact qbP h.2 r2 u hu
theorem qdz(gb:Gb κ K k X Γ cx E)(gx:Gx κ K k X Γ cx E)(n:Str)(e:Expr)(es:List Expr)(np cp p:Pos){y:Y}(h:oif (!z&&xnB Γ n) ((cEs m Γ (e::es)).map (.rai n))=some y) :
  PS X (.Raise (some (.Call (.Name n np) (e::es) [] cp)) none p) (tY κ K Gv Hv E (iY Γ.k cx w y)):=by
 obtain⟨hc,h⟩:=qi h;obtain⟨l,h1,rfl⟩:=map_some h;rw[Bool.and_eq_true,xnB,Bool.and_eq_true] at hc;obtain⟨n1,n2,n3⟩:=qF hc.2.1;have gd:=gb.gs.toGd;have hg:Gl X n:=gd.glo n hc.2.2;have hs:=Qz h1;simp only[List.any_cons,Bool.or_eq_false_iff] at hs;have pa:PA X (e::es) (tEs κ K Gv Hv (iEs Γ.k l)):=PA.nox ((all m X.nox Γ gd).es Gv Hv _ _ h1);intro pins s σ H D I hq;obtain⟨ρ,G,er,hw⟩:=hq;have hw:=Wx.nox (x:=iEs Γ.k l ρ) (Wx.th hw)
 cases e0:Γ.cs.xn n with
 |none=>
  exfalso
  cases e1:iEs Γ.k l ρ with
  |ok v=>rw[e1] at hw;have hw:Wx (XP κ Gv Hv G E) (mkX Γ.cs n v.1) _:=hw;unfold mkX at hw;rw[e0] at hw;exact hw
  |exc c l=>rw[e1] at hw;exact hw
  |no=>rw[e1] at hw;exact hw
 |some ns=>
  cases ns with
  |nil=>
   obtain⟨hm,hk⟩:=gx.xn0 n e0;refine qc3 (qc9 gx.ex gx.rs) gd.calm hg hm hk PySem.F.excBase_ValueError pa (qe hs.1) (qz hs.2) n1 pins s σ H D I ⟨ρ,G,er,Wk.mono hw λv hv vs G1 H1 p1 r1=>?_⟩;have hv:Wx (XP κ Gv Hv G E) (mkX Γ.cs n v.1) _:=hv;unfold mkX at hv;rw[e0] at hv;dsimp only at hv
   by_cases hl:v.1.length<=sizeLine
   ·rw[if_pos hl] at hv;exact⟨by rw[<-r1.len];exact hl,hv none G1 H1 p1.er.base p1.er.g0 p1.gs p1.er.sub p1.er.fresh (.inl ⟨rfl,rfl⟩)⟩
   ·rw[if_neg hl] at hv;exact hv.elim
  |cons a ns=>
   obtain⟨fI,fd,j,hj,hm,hk,F,hb⟩:=gx.xn1 n _ e0 (by simp);subst hj;refine qbs gx.ex gx.rs gd.calm hg hm hk F gd.room hb pa (qe hs.1) (qz hs.2) n1 pins s σ H D I ⟨ρ,G,er,Wk.mono hw λv hv vs G1 H1 p1 r1=>?_⟩;have hv:Wx (XP κ Gv Hv G E) (mkX Γ.cs n v.1) _:=hv;unfold mkX at hv;rw[e0] at hv;dsimp only at hv
   by_cases hl:(decide (v.1.length=(a::ns).length)&&decide (v.1.length<=sizeLine)&&v.1.all qjM)=true
   case neg=>rw[if_neg hl] at hv;exact hv.elim
   rw[if_pos hl] at hv;simp only[Bool.and_eq_true,decide_eq_true_eq] at hl;obtain⟨⟨l1,l2⟩,l3⟩:=hl;refine⟨by rw[<-r1.len];exact l2,λx hx=>⟨x,vs,rfl,qg,by rw[<-r1.len];exact l1,qbP l3 r1,λdd hd ne=>⟨rfl,some dd,qg,?_⟩⟩⟩;rw[qf ne] at hd;have gdd:G1 dd=none:=qo.none p1.er.sub hd;have gx1:G1 x=none:=qo.none p1.er.sub hx
   have old:∀{b:Addr} {o:HO},H1 b=some o->rem (upd (upd (upd H1 x (qel x (Γ.cs.xa n) none)) dd (xD dd ((a::ns).zip vs))) x (qel x (Γ.cs.xa n) (some dd))) x b=some o:=λ{b o} q=>by
    have b1:b≠x:=λz=>by rw[z,hx] at q;cases q
    have b2:b≠dd:=λz=>by rw[z,hd] at q;cases q
    rw[Zh b1,qf b1,qf b2,qf b1];exact q
   have fz:((a::ns).zip v.1).map (·.1)=a::ns:=by rw[List.map_fst_zip];omega
   have sz:((a::ns).zip v.1).map (·.2)=v.1:=by rw[List.map_snd_zip];omega
   have gs1:qo G1 (upd G1 dd (xD dd ((a::ns).zip vs))):=qo.upd gdd;refine hv (some dd) (upd G1 dd (xD dd ((a::ns).zip vs))) _ (λb o q=>old (p1.er.base b o q)) (λb o q=>gs1 b o (p1.er.g0 b o q)) (λb o q=>gs1 b o (p1.gs b o q)) (λb o q=>?_) (λb o q=>?_) (.inr ⟨dd,vs,rfl,by rw[fz];exact qg,by rw[sz];exact r1.same gs1⟩)
   ·by_cases hb:b=dd
    ·subst hb;rw[qg] at q;cases q;rw[Zh ne,qf ne,qg]
    ·rw[qf hb] at q;exact old (p1.er.sub b o q)
   ·by_cases hb:b=dd
    ·subst hb;exact .inr (qo.none p1.er.base hd)
    ·rw[qf hb] at q;exact p1.er.fresh b o q
theorem XP.back{G H:Hp}{ρ ρ':Env}{σ:L2.St}{G1 H1:Hp}{C:Addr}{l:List (Str×D)}(h:XP κ Gv Hv G E C l)(p1:Po κ K Gv Hv σ G H ρ G1 H1 ρ'):XP κ G1 H1 G1 E C l:=λod G' H' hs gs _ sub fr xr=>
 h od G' H' (λb o q=>hs b o (p1.er.base b o q)) (λb o q=>gs b o (p1.er.g0 b o q)) (λb o q=>gs b o (p1.gs b o q)) sub (λb o q=>by
  rcases fr b o q with ⟨o',q'⟩ | q'
  ·exact p1.er.fresh b o' q'
  ·exact .inr (qo.none p1.er.base q')) xr
theorem qbQ(gb:Gb κ K k X Γ cx E)(f:Str)(e:Expr)(es:List Expr)(fp cp:Pos){l:Es}(ht:Γ.cs.xt.contains f=true)(hc:xnB Γ f=true)(h1:cAs m Γ (e::es)=some l)(g:Rv->Env->R Fl)(D':Env->Hp->Fl->Prop) :
  PE X (.Call (.Name f fp) (e::es) [] cp) (λσ H Q=>∃ρ G,ER κ K Gv Hv G H ρ σ/\Wx (XP κ Gv Hv G E) ((noX (iAs Γ.k l ρ)).th λx=>(cx f x.1).th λr=>.ok (r,x.2)) λy=>∀v G' H',Po κ K Gv Hv σ G H ρ G' H' y.2->RvR κ K Hv H G' H' y.2 σ y.1 v->Q v H'):=by
 rw[xnB,Bool.and_eq_true] at hc;obtain⟨n1,n2,n3⟩:=qF hc.1;have gd:=gb.gs.toGd;have hs:=yG h1;simp only[List.any_cons,Bool.or_eq_false_iff] at hs;obtain⟨fa,fd,ps,F,hm,hk,hb⟩:=gb.xfn f ht;have pa:PA X (e::es) (tAs κ K Gv Hv (iAs Γ.k l)):=PA.nox ((all m X.nox Γ gd).as Gv Hv _ _ h1);refine PE.imp (jk F gd.room (gd.glo f hc.2) hm hk hb .nil gb.ps pa n1 (qe hs.1) (qz hs.2)) λσ H Q hq=>?_;obtain⟨ρ,G,er,h⟩:=hq;refine⟨ρ,G,er,Wk.mono (Wx.nox (x:=iAs Γ.k l ρ) (Wx.th h)) λx h vs G1 H1 p1 r1=>?_⟩;show spX κ K cx f (vs++[]) H1 Q E;rw[List.append_nil];refine⟨G1,x.1,p1.er.sub,r1,?_⟩
 cases e1:cx f x.1 with
 |no=>rw[e1] at h;exact h
 |exc C l=>rw[e1] at h;exact XP.back h p1
 |ok r=>rw[e1] at h;intro v G2 H2 hs gs sub new rr;obtain⟨z1,z2⟩:=ReR.rv p1 hs gs sub new rr;exact h v G2 H2 z1 z2
end
end DE
namespace DE
open PySem PySem.Spec PyProof.Rows L2
structure AllY(κ:KC)(K:Frag)(k:Nat)(X:Cx)(Γ:Ct)(cx:Str->List Ar->R Rv)(E:XK)(z:Bool)(m w:Nat):Prop where
 y:∀Gv Hv st x,cY m Γ z st=some x->PS X st (tY κ K Gv Hv E (iY Γ.k cx w x))
 ys:∀Gv Hv l x,cYs m Γ z l=some x->PSs X l (tY κ K Gv Hv E (iYs Γ.k cx w x))
section
variable{κ:KC}{K:Frag}{Gv Hv:Hp}{k m w:Nat}{X:Cx}{Γ:Ct}{cx:Str->List Ar->R Rv}{E:XK}{z:Bool}
theorem qdA(gb:Gb κ K k X Γ cx E)(f:Str)(e:Expr)(es:List Expr)(fp cp p:Pos){l:Es}(ht:Γ.cs.xt.contains f=true)(hc:xnB Γ f=true)(h1:cAs m Γ (e::es)=some l) :
  PS X (.Expr (.Call (.Name f fp) (e::es) [] cp) p) (tY κ K Gv Hv E (iY Γ.k cx w (.cal none f l))):=by
 refine PS.imp (zO (qbQ (Gv:=Gv) (Hv:=Hv) gb f e es fp cp ht hc h1 (λ_ _=>.no) (λ_ _ _=>True)) (yK rfl _ _ _)) λD σ H hq=>?_;obtain⟨ρ,G,er,h⟩:=hq;refine⟨ρ,G,er,?_⟩;have h:Wx (XP κ Gv Hv G E) ((noX (iAs Γ.k l ρ)).th λx=>(cx f x.1).th λr=>qgI none r x.2) (FlP κ K Gv Hv G D):=h
 cases e1:iAs Γ.k l ρ with
 |exc c l=>rw[e1] at h;exact h
 |no=>rw[e1] at h;exact h
 |ok x=>
  rw[e1] at h;have h:Wx (XP κ Gv Hv G E) ((cx f x.1).th λr=>qgI none r x.2) (FlP κ K Gv Hv G D):=h;show Wx (XP κ Gv Hv G E) ((cx f x.1).th λr=>.ok (r,x.2)) _
  cases e2:cx f x.1 with
  |exc c l=>rw[e2] at h;exact h
  |no=>rw[e2] at h;exact h
  |ok r=>rw[e2] at h;exactλv G1 H1 p1 r1=>h σ G1 H1 p1.er p1.gs
theorem qf3(gb:Gb κ K k X Γ cx E)(y f:Str)(e:Expr)(es:List Expr)(yp fp cp p:Pos){i:Nat}{l:Es}(hi:qby Γ y=some i)(ht:Γ.cs.xt.contains f=true)(hc:xnB Γ f=true)(h1:cAs m Γ (e::es)=some l) :
  PS X (.Assign [.Name y yp] (.Call (.Name f fp) (e::es) [] cp) p) (tY κ K Gv Hv E (iY Γ.k cx w (.cal (some i) f l))):=by
 obtain⟨l1,l2,hN,hxi⟩:=YG gb.gs.toGd hi;refine PS.imp (QZ (i:=i) hN hxi l1 (qbQ (Gv:=Gv) (Hv:=Hv) gb f e es fp cp ht hc h1 (λ_ _=>.no) (λ_ _ _=>True)) (yK rfl _ _ _) l2) λD σ H hq=>?_;obtain⟨ρ,G,er,h⟩:=hq;refine⟨ρ,G,er,?_⟩;have h:Wx (XP κ Gv Hv G E) ((noX (iAs Γ.k l ρ)).th λx=>(cx f x.1).th λr=>qgI (some i) r x.2) (FlP κ K Gv Hv G D):=h
 cases e1:iAs Γ.k l ρ with
 |exc c l=>rw[e1] at h;exact h
 |no=>rw[e1] at h;exact h
 |ok x=>
  rw[e1] at h;have h:Wx (XP κ Gv Hv G E) ((cx f x.1).th λr=>qgI (some i) r x.2) (FlP κ K Gv Hv G D):=h;show Wx (XP κ Gv Hv G E) ((cx f x.1).th λr=>.ok (r,x.2)) _
  cases e2:cx f x.1 with
  |exc c l=>rw[e2] at h;exact h
  |no=>rw[e2] at h;exact h
  |ok r=>
   rw[e2] at h;have h:Wx (XP κ Gv Hv G E) (qgI (some i) r x.2) (FlP κ K Gv Hv G D):=h;intro v G1 H1 p1 r1
   cases r with
   |val d=>exact h _ G1 H1 (QA (s:=.val d) p1.er r1) p1.gs
   |tmp l=>obtain⟨a,xs,rfl,q1,q2,q3,q4,q5,q6⟩:=r1;exact h _ G1 H1 (QA (s:=.own l) p1.er ⟨a,xs,rfl,q1,q3,q4,q5,q6⟩) p1.gs
   |_=>exact h.elim
theorem qix(gb:Gb κ K k X Γ cx E)(S:AllY κ K k X Γ cx E z m w)(c:Expr)(a b:List Stmt)(p:Pos){x:Y}(h:o2 (cT m Γ c) (o2 (cYs m Γ z a) (cYs m Γ z b) Prod.mk) (λc p=>Y.ite c p.1 p.2)=some x):PS X (.If c a b p) (tY κ K Gv Hv E (iY Γ.k cx w x)):=by
 obtain⟨c',q,h1,h2,rfl⟩:=qh h;obtain⟨a',b',h3,h4,rfl⟩:=qh h2;refine PS.imp (ZP (PT.nox ((all m X.nox Γ gb.gs.toGd).t Gv Hv _ _ h1)) (S.ys Gv Hv _ _ h3) (S.ys Gv Hv _ _ h4)) λD σ H hq1=>?_;obtain⟨ρ,G,er,h⟩:=hq1;refine⟨ρ,G,er,Wk.mono (Wx.nox (x:=iT Γ.k c' ρ) (Wx.th h)) λt h G1 H1 p1=>?_⟩;obtain⟨d,ρ1⟩:=t
 cases d with
 |true=>rw[if_pos rfl];exact⟨ρ1,G1,p1.er,Wx.mono2 h (λc l hx=>hx.up p1.gs) λf hf=>hf.back p1.gs⟩
 |false=>rw[if_neg (λz=>by cases z)];exact⟨ρ1,G1,p1.er,Wx.mono2 h (λc l hx=>hx.up p1.gs) λf hf=>hf.back p1.gs⟩
theorem qf4(gb:Gb κ K k X Γ cx E)(own:PassesOwn (model X.prog X.w) X.A X.env X.xe)(S:AllY κ K k X Γ cx E z m w)(tg it:Expr)(body:List Stmt)(p:Pos){x:Y}(hf:yE it=true)
  (h:o2 (o2 (cTg Γ tg) (cI m Γ (qcv tg) it) Prod.mk) (cYs m Γ z body) (λp b=>Y.for_ p.1 p.2 b)=some x):PS X (.For tg it body [] p) (tY κ K Gv Hv E (iY Γ.k cx w x)):=by
 obtain⟨q,b',h1,h2,rfl⟩:=qh h;obtain⟨t,src,h3,h4,rfl⟩:=qh h1;have gd:=gb.gs.toGd;refine PS.imp (qd9 own gd.calm (PI.nox ((all m X.nox Γ gd).i Gv Hv _ _ _ h4)) (PG.nox (qbK gd tg h3)) (S.ys Gv Hv _ _ h2) (JQ hf X.env)) λD σ H hq1=>?_;obtain⟨ρ,G,er,h⟩:=hq1;refine⟨ρ,G,er,Wk.mono (Wx.nox (x:=iI Γ.k src ρ) (Wx.th h)) λx h J G1 H1 p1 it1=>?_⟩
 refine⟨λi mm σ' H'=>mm=x.1.length - i/\i<=x.1.length/\∃ρb Gb,ER κ K Gv Hv Gb H' ρb σ'/\qo G1 Gb/\Wx (XP κ Gv Hv G E) (qgH (λd ρ1=>(noX (t.go d ρ1)).th λρ2=>iYs Γ.k cx w b' ρ2) (x.1.drop i) ρb) (FlP κ K Gv Hv G D),
  ⟨x.1.length,by simp,Nat.zero_le _,x.2,G1,p1.er,λ_ _ e=>e,by rw[List.drop_zero];exact h⟩,?_⟩
 rintro i mm σ' H' ⟨rfl,hi,ρb,Gb,erb,g1,hw⟩;have it2:=it1 i Gb H' g1 erb.base erb.sub
 by_cases hlt:i < x.1.length
 ·obtain⟨go,yl⟩:=it2.1 x.1[i] (List.getElem?_eq_getElem hlt);refine .inr ⟨go,_,λσ2 H2 w=>⟨x.1.length - (i+1),by omega,w⟩,λv H2 hy=>?_⟩;obtain⟨G',hs,gss,sub,new,rep⟩:=yl v H2 hy;have p2:=Po.more erb hs gss sub new;rw[List.drop_eq_getElem_cons hlt] at hw;refine⟨Gv,Hv,ρb,G',x.1[i],p2.er,rep,Wk.mono (Wx.nox (x:=t.go x.1[i] ρb) (Wx.th (Wx.th hw))) λρ2 hw σ2 er2=>⟨ρ2,G',er2,Wx.mono2 hw (λc l hx=>hx.up λb o e=>gss b o (g1 b o (p1.gs b o e))) λf hf=>?_⟩⟩
  cases f with
  |next ρ3=>exactλσ3 G3 H3 er3 g3=>⟨rfl,hlt,ρ3,G3,er3,λb o e=>g3 b o (gss b o (g1 b o e)),hf⟩
  |ret r=>exact hf
 ·have e:i=x.1.length:=by omega
  subst e;rw[List.drop_length] at hw;exact .inl ⟨it2.2 rfl,hw σ' Gb H' erb λb o e=>g1 b o (p1.gs b o e)⟩
theorem qez(S:AllY κ K k X Γ cx E z m w):∀l x,cYs (m+1) Γ z l=some x->PSs X l (tY κ K Gv Hv E (iYs Γ.k cx w x))
 |[],_,h=>by cases h;exact PSs.imp jN λD σ H ⟨ρ,G,er,h⟩=>h σ G H er λ_ _ e=>e
 | st::l,_,h=>by
  obtain⟨s',l',h1,h2,rfl⟩:=qh h;refine PSs.imp (zc (S.y Gv Hv _ _ h1) (S.ys Gv Hv _ _ h2)) λD σ H hq1=>?_;obtain⟨ρ,G,er,h⟩:=hq1;refine⟨ρ,G,er,Wx.mono (Wx.th (x:=iY Γ.k cx w s' ρ) h) λf hf=>?_⟩
  cases f with
  |next ρ1=>exactλσ1 G1 H1 er1 g1=>⟨ρ1,G1,er1,Wx.mono2 hf (λc l hx=>hx.up g1) λf hf=>hf.back g1⟩
  |ret r=>exact hf
end
end DE
namespace DE
open PySem PySem.Spec PyProof.Rows L2
noncomputable abbrev atX(X:Cx)(pins:PP)(E1:PQ):Cx:={ X with pn:=X.pn++pins,xe:=E1 }
section
variable{κ:KC}{K:Frag}{Gv Hv:Hp}{k m w:Nat}{X:Cx}{Γ:Ct}{cx:Str->List Ar->R Rv}{E:XK}{z:Bool}{pins pins':PP}{E1:PQ}{σ:L2.St}{H:Hp}{s:Shared}
theorem qiy(ok:X.Ok):(atX X pins E1).Ok:=⟨ok.mod,ok.kind,ok.glob,ok.blt,ok.above,ok.inj,ok.has,ok.cab,ok.hd,ok.frames,ok.stk,ok.exf,ok.bs,ok.bsz,ok.noex,ok.exfs,ok.funs,ok.frf⟩
theorem qiz(ok:(atX X pins E1).Ok):X.Ok:=⟨ok.mod,ok.kind,ok.glob,ok.blt,ok.above,ok.inj,ok.has,ok.cab,ok.hd,ok.frames,ok.stk,ok.exf,ok.bs,ok.bsz,ok.noex,ok.exfs,ok.funs,ok.frf⟩
theorem qiA(I:L2.Inv X pins σ H s):L2.Inv (atX X pins E1) [] σ H s:=⟨qiy I.ok,I.os,I.bare,I.base,I.loc,I.cell,I.free,I.freeC,λp hp=>I.pin p (by simpa using hp),I.hok,I.len⟩
theorem YK(I:L2.Inv (atX X pins E1) pins' σ H s):L2.Inv X pins σ H s:=⟨qiz I.ok,I.os,I.bare,I.base,I.loc,I.cell,I.free,I.freeC,λp hp=>I.pin p (List.mem_append_left _ hp),I.hok,I.len⟩
theorem qiB{D:Ends}{f:Flow}(h:SP (atX X pins E1) [] D f s):SP X pins D f s:=by
 cases f with
 |next=>obtain⟨σ',H',I,q⟩:=h;exact⟨σ',H',YK I,q⟩
 |brk=>obtain⟨σ',H',I,q⟩:=h;exact⟨σ',H',YK I,q⟩
 |cont=>obtain⟨σ',H',I,q⟩:=h;exact⟨σ',H',YK I,q⟩
 |ret u=>obtain⟨v,σ',H',I,r,q⟩:=h;exact⟨v,σ',H',YK I,r,q⟩
theorem qiC(gs:Gs κ K k X.nox Γ):Gs κ K k (atX X pins E1).nox Γ:=
 { nx:=gs.nx,hN:=gs.hN,vis:=gs.vis,loc:=gs.loc,glo:=gs.glo,cf:=gs.cf,nd:=gs.nd,calm:=gs.calm,hK:=gs.hK,room:=gs.room,fns:=gs.fns,blt:=gs.blt,gl:=gs.gl,cls:=gs.cls,flds:=gs.flds,mts:=gs.mts,mks:=gs.mks,xsubs:=gs.xsubs,xgs:=gs.xgs,subs:=gs.subs,own:=gs.own,sceq:=gs.sceq,fnk:=gs.fnk }
theorem qkF(gs:Gs κ K k X.nox Γ)(gx:Gx κ K k X Γ cx E){x T C:Addr}{od:Option Addr}{G2:Hp}{hh:Heap}{l:List (Str×D)}{D:Ends}{G:Hp}{n:Nat}{Ξ:Addr->List (Str×DE.D)->Prop}(hn:σ.length=n)(Hd:Held X pins σ H s x T C od hh)
  (h1:qo Hv H) (h2:qo Gv G2) (h3:qo G2 H) (h4:∀a o,G2 a=some o->(∃o',Gv a=some o')\/Hv a=none) (h5:qkD κ G2 od l) (g:qo G G2) :
  ∀(hs:List ExceptHandler) (hs':List (Str×Nat×Nat)),cHs Γ hs=some hs'->Wx Ξ (Jl Γ.cs n C l hs') (FlP κ K Gv Hv G D)->wpAny (model X.prog X.w) X.A (handleBy (.ref x) X.env hs) (SP X pins D) X.xe { s with heap:=hh }:=by
 intro hs
 induction hs with
 |nil=>intro hs' hc hw;cases hc;exact hw.elim
 |cons hd hs ih=>
  intro hs' hc hw;unfold cHs at hc
  split at hc
  ·rename_i e;cases e
  ·rename_i t tp n v vp n2 np ap hp r e;injection e with e1 e2;subst e1 e2;obtain⟨hb,hc⟩:=qi hc;obtain⟨q,r',h6,h7,rfl⟩:=qh hc;obtain⟨i,j,h8,h9,rfl⟩:=qh h6;simp only[Bool.and_eq_true,decide_eq_true_eq,beq_iff_eq] at hb;obtain⟨⟨⟨⟨⟨⟨b1,b2⟩,b3⟩,b4⟩,b5⟩,b6⟩,b7⟩:=hb;subst b1;have hg:Gl X t:=gs.glo t b5;obtain⟨n1,n2',n3⟩:=qF b4;obtain⟨m1,m2,m3⟩:=qF b6;have hw:Wx Ξ (match Γ.cs.xs C t with |some true=>R.ok (Fl.next ((List.replicate n Sl.no).set j (.val (.exc C (l.map (·.1)) (l.map (·.2)))))) |some false=>Jl Γ.cs n C l r' |none=>.no) (FlP κ K Gv Hv G D):=hw
   cases ex:Γ.cs.xs C t with
   |none=>rw[ex] at hw;exact hw.elim
   |some b=>
    obtain⟨Dc,hm,hq⟩:=gx.xhs C t b b3 ex
    cases b with
    |false=>rw[ex] at hw;exact Qp Hd gx.ex hg hm hq (ih r' h7 hw) n1
    |true=>
     rw[ex] at hw;obtain⟨i1,i2,hN,hxi⟩:=YG gs.toGd h8;obtain⟨j1,j2,_,hxj⟩:=YG gs.toGd h9;have hN:X.N.Nodup:=hN;have hxi:X.N[i]?=some n2:=hxi;have hxj:X.N[j]?=some v:=hxj;have hl:X.env.scope.names.lookup n2=some .local:=by rw[show X.env.scope=Γ.sc from gs.sceq];exact b7
     have hij:i≠j:=λz=>by rw[z,hxj] at hxi;exact b2 (Option.some.inj hxi)
     have hlen:X.N.length=n:=by rw[<-hn];exact Hd.inv.len.symm
     have hi:i < n:=by rw[<-hlen];exact(List.getElem?_eq_some_iff.mp hxi).1
     have hj:j < n:=by rw[<-hlen];exact(List.getElem?_eq_some_iff.mp hxj).1
     refine Z3 Hd gx.ex hg hm hq hN hxi hl (zz (QZ (X:=X.mark (.ref x)) (i:=j) hN hxj j1 (QX (X:=X.mark (.ref x)) (i:=i) hxi (.inl hl) m1 m2) (yK rfl _ _ _) j2)) ⟨.ref x,by rw[List.getElem?_set_self (by rw[hn];exact hi)],?_⟩ n1;have hHx:H x=none:=Hd.mine.hx;have gx2:G2 x=none:=qo.none h3 hHx;have gs2:qo G2 (upd G2 x (qcq x C od)):=qo.upd gx2;refine hw _ (upd G2 x (qcq x C od)) _ ⟨by simp[hn],λb o q=>?_,λb o q=>?_,λb o q=>gs2 b o (h2 b o q),λb o q=>?_,λi' sl q=>?_,λi1' j1' a l' m' q1=>?_⟩ λb o q=>gs2 b o (g b o q)
     ·by_cases hb:b=x
      ·subst hb;rw[qg] at q ⊢;exact q
      ·rw[qf hb] at q ⊢;exact h3 b o q
     ·rw[qf (λz=>by rw[z] at q;have:=h1 _ _ q;rw[hHx] at this;cases this)];exact h1 b o q
     ·by_cases hb:b=x
      ·subst hb;exact .inr (qo.none h1 hHx)
      ·rw[qf hb] at q;exact h4 b o q
     ·by_cases he:j=i'
      ·subst he;rw[List.getElem?_set_self (by simpa using hj)] at q;cases q;refine⟨.ref x,?_,?_⟩
       ·rw[List.getElem?_set_ne hij,List.getElem?_set_self (by simp[hn];exact hj)]
       ·simp only[Rep];rcases h5 with ⟨z1,z2⟩ | ⟨dd,xs,z1,z2,z3⟩
        ·exact⟨x,od,[],rfl,qg,.inl ⟨z1,by rw[z2];rfl⟩,by rw[z2];exact .nil⟩
        ·exact⟨x,od,xs,rfl,qg,.inr ⟨dd,z1,gs2 _ _ z2⟩,z3.same gs2⟩
      ·rw[List.getElem?_set_ne he] at q
       have:=List.eq_of_mem_replicate (List.mem_of_getElem? q)
       subst this;trivial
     ·exfalso
      by_cases he:j=i1'
      ·subst he;rw[List.getElem?_set_self (by simpa using hj)] at q1;cases q1
      ·rw[List.getElem?_set_ne he] at q1
       have:=List.eq_of_mem_replicate (List.mem_of_getElem? q1)
       cases this
  ·cases hc
theorem qf5(gb:Gb κ K k X Γ cx E)(gx:Gx κ K k X Γ cx E)(S:∀X' E',Gb κ K k X' Γ cx E'->AllY κ K k X' Γ cx E' true m w)(body:List Stmt)(h0:ExceptHandler)(hs:List ExceptHandler)(p:Pos){y:Y}(h:o2 (cYs m Γ true body) (cHs Γ (h0::hs)) Y.try_=some y) :
  PS X (.Try body (h0::hs) [] [] p) (tY κ K Gv Hv E (iY Γ.k cx w y)):=by
 obtain⟨b,hs',h1,h2,rfl⟩:=qh h;intro pins s σ H D I hq;obtain⟨ρ,G,er,hw⟩:=hq;have hw:Wx (XP κ Gv Hv G E) (match iYs Γ.k cx w b ρ with |.exc C l=>Jl Γ.cs ρ.length C l hs' |r=>r) (FlP κ K Gv Hv G D):=hw
 let E':XK:=λcv od H2=>∃C l G2,cv=.ref C/\qo Hv H2/\qo Gv G2/\qo G G2/\qo G2 H2/\(∀a o,G2 a=some o->(∃o',Gv a=some o')\/Hv a=none)/\qkD κ G2 od l/\Wx (XP κ Gv Hv G E) (Jl Γ.cs ρ.length C l hs') (FlP κ K Gv Hv G D)
 let E1:Value->Shared->Prop:=λe s'=>∃pins' σ' H1 s1,L2.Inv (atX X pins (λ_ _=>True)) pins' σ' H1 s1/\CX1 X.prog X.w X.stack H1 s1 E' e s'
 have gb':Gb κ K k (atX X pins E1) Γ cx E':=⟨qiC gb.gs,λpins' σ' H1 s1 e s' I' c=>⟨pins',σ',H1,s1,⟨⟨I'.ok.mod,I'.ok.kind,I'.ok.glob,I'.ok.blt,I'.ok.above,I'.ok.inj,I'.ok.has,I'.ok.cab,I'.ok.hd,I'.ok.frames,I'.ok.stk,I'.ok.exf,I'.ok.bs,I'.ok.bsz,I'.ok.noex,I'.ok.exfs,I'.ok.funs,I'.ok.frf⟩,I'.os,I'.bare,I'.base,I'.loc,I'.cell,I'.free,I'.freeC,I'.pin,I'.hok,I'.len⟩,c⟩,gb.xfn⟩
 have B:=(S _ _ gb').ys Gv Hv body b h1 [] s σ H D (qiA I) ⟨ρ,G,er,by
  cases e1:iYs Γ.k cx w b ρ with
  |ok f=>rw[e1] at hw;exact hw
  |no=>rw[e1] at hw;exact hw
  |exc C l=>rw[e1] at hw;exactλod G' H' q1 q2 q3 q4 q5 q6=>⟨C,l,G',rfl,q1,q2,q3,q4,q5,q6,hw⟩⟩
 refine wpAny_Try_except (wpAny_mono B (λf s1 q=>?_) λe s1 hq=>?_)
 ·have q:=qiB q
  cases f with
  |next=>exact wpAny_execs_nil q
  |_=>exact q
 ·obtain⟨pins',σ',H1,s2,I2,c⟩:=hq
  exact qlW (D:=D) gx.stk gx.ex (YK I2) c λx T C od H2 hh q Hd=>by obtain⟨C',l,G2,ec,q1,q2,q3,q4,q5,q6,q7⟩:=q;cases ec;exact qkF gb.gs gx (by rw[er.len,I.len];exact Hd.inv.len) Hd q1 q2 q4 q5 q6 q3 (h0::hs) hs' h2 q7
end
end DE
namespace DE
open PySem PySem.Spec PyProof.Rows L2
section
variable{κ:KC}{K:Frag}{Gv Hv:Hp}{k m w:Nat}{X:Cx}{Γ:Ct}{cx:Str->List Ar->R Rv}{E:XK}{z:Bool}
theorem qk8(gb:Gb κ K k X Γ cx E)(gx:z=false->Gx κ K k X Γ cx E)(A:AllY κ K k X Γ cx E z m w)(S:∀X' E',Gb κ K k X' Γ cx E'->AllY κ K k X' Γ cx E' true m w)(st:Stmt)(x:Y)(h:cY (m+1) Γ z st=some x):PS X st (tY κ K Gv Hv E (iY Γ.k cx w x)):=by
 have gen:(cS (m+1) Γ st).map Y.s=some x->PS X st (tY κ K Gv Hv E (iY Γ.k cx w x)):=λh=>by obtain⟨y,h1,rfl⟩:=map_some h;exact qkE gb st y h1
 unfold cY at h
 split at h
 ·rename_i n np e es cp p
  have hz:z=false:=by
   obtain⟨hc,_⟩:=qi h;rw[Bool.and_eq_true] at hc
   simpa using hc.1
  exact qdz gb (gx hz) n e es np cp p h
 ·rename_i f fp e es cp p
  by_cases ht:Γ.cs.xt.contains f=true
  ·rw[if_pos ht] at h;obtain⟨hc,h⟩:=qi h;obtain⟨l,h1,rfl⟩:=map_some h;exact qdA gb f e es fp cp p ht hc h1
  ·rw[if_neg ht] at h;exact gen h
 ·rename_i y yp f fp e es cp p
  by_cases ht:Γ.cs.xt.contains f=true
  ·rw[if_pos ht] at h;obtain⟨hc,h⟩:=qi h;obtain⟨i,l,h1,h2,rfl⟩:=qh h;exact qf3 gb y f e es yp fp cp p h1 ht hc h2
  ·rw[if_neg ht] at h;exact gen h
 ·rename_i c a b p;exact qix gb A c a b p h
 ·rename_i tg it body p;obtain⟨hc,h⟩:=qi h;rw[Bool.and_eq_true] at hc;exact qf4 gb (gx (by simpa using hc.1)).own A tg it body p hc.2 h
 ·rename_i body h0 hs p;obtain⟨hc,h⟩:=qi h;exact qf5 gb (gx (by simpa using hc)) S body h0 hs p h
 ·exact gen h
theorem qf6:∀m X E,Gb κ K k X Γ cx E->AllY κ K k X Γ cx E true m w
 |0,_,_,_=>⟨(λ_ _ _ _ h=>nomatch h),(λ_ _ _ _ h=>nomatch h)⟩
 | m+1,X,E,gb=>
  have A:=qf6 m X E gb
  ⟨λGv Hv=>qk8 gb (λz=>by cases z) A λX' E' g=>qf6 m X' E' g,λGv Hv=>qez A⟩
theorem qk9(gb:Gb κ K k X Γ cx E)(gx:Gx κ K k X Γ cx E):∀m,AllY κ K k X Γ cx E false m w
 |0=>⟨(λ_ _ _ _ h=>nomatch h),(λ_ _ _ _ h=>nomatch h)⟩
 | m+1=>
  have A:=qk9 gb gx m
  ⟨λGv Hv=>qk8 gb (λ_=>gx) A λX' E' g=>qf6 m X' E' g,λGv Hv=>qez A⟩
end
end DE
namespace DE
open PySem PySem.Spec PyProof.Rows L2
def jK(st:Stmt):List Str:=(qV st).args.map (·.arg)
noncomputable def fnN(st:Stmt):List Str:=jK st++(qk st).names.filterMap λx=>if ((x.2 == .local||x.2 == .cell)&&!(jK st).contains x.1)=true then some x.1 else none
noncomputable def qX(st:Stmt):Bool:=(qk st).kind == .function&&!(qk st).isCoroutine&&!(qk st).isGenerator&&decide (fnN st).Nodup&&(jK st).all (qhI (qk st))&&(qk st).names.all λy=>y.2 != .free
def toSl:Ar->Sl
 |.val d=>.val d
 |.bor l=>.bor l
 |.scr l=>.scr l
def zA(N:List Str)(args:List Ar):Env:=args.map toSl++List.replicate (N.length - args.length) .no
structure Pg where
 defs:List (Str×Stmt)
 gl:Str->Option D
 m:Nat
 w:Nat
 meths:List (Str×Stmt):=[]
 cs:Cs:=Cs.non
 nw:Nat->Str->List Ar->R Rv:=λ_ _ _=>.no
 xl:List Str:=[]
noncomputable def Pg.ct(pg:Pg)(k:Nat)(cl:Str->List Ar->R Rv)(st:Stmt):Ct:=⟨fnN st,qk st,pg.defs.map (·.1),pg.gl,cl,pg.cs,pg.nw k⟩
def flR:Fl->R Rv
 |.next _=>.ok (.val .non)
 |.ret r=>.ok r
noncomputable def evF(pg:Pg)(k:Nat)(cl:Str->List Ar->R Rv)(st:Stmt)(args:List Ar):R Rv:=
 if (qX st&&args.length == (jK st).length)=true then (match cSs pg.m (pg.ct k cl st) (qt st) with
  |some b=>(iSs (pg.ct k cl st).k pg.w b (zA (fnN st) args)).th flR
  |none=>.no) else .no
noncomputable def evX(pg:Pg)(k:Nat)(cl cx:Str->List Ar->R Rv)(st:Stmt)(args:List Ar):R Rv:=
 if (qX st&&args.length == (jK st).length&&decide (2<=k))=true then (match cYs pg.m (pg.ct k cl st) false (qt st) with
  |some b=>(iYs (pg.ct k cl st).k cx pg.w b (zA (fnN st) args)).th flR
  |none=>.no) else .no
noncomputable def clB(pg:Pg):Nat->Bool->Str->List Ar->R Rv
 |0,_,_,_=>.no
 | k+1,x,f,args=>match (pg.defs++pg.meths).lookup f with
  |some st=>if x=true then evX pg k (clB pg k false) (clB pg k true) st args else if pg.xl.contains f=true then noX (evX pg k (clB pg k false) (clB pg k true) st args) else evF pg k (clB pg k false) st args
  |none=>.no
def clK(pg:Pg)(k:Nat)(f:Str)(args:List Ar):R Rv:=clB pg k false f args
def clX(pg:Pg)(k:Nat)(f:Str)(args:List Ar):R Rv:=clB pg k true f args
noncomputable def FnF(K:Frag)(mg:PR)(f:Str)(st:Stmt):Prop:=∃fa fd,Fun K f f st fa fd/\mg f=some (.ref fa)/\qI K fd (jK st) []
inductive AllF(K:Frag)(mg:PR):List (Str×Stmt)->Prop where
 | nil:AllF K mg []
 | cons {f:Str} {st:Stmt} {l:List (Str×Stmt)} (h:FnF K mg f st) (t:AllF K mg l):AllF K mg ((f,st)::l)
theorem AllF.mem{K:Frag}{mg:PR}:∀{l:List (Str×Stmt)} {f:Str} {st:Stmt},AllF K mg l->(f,st)∈l->FnF K mg f st
 |_,_,_,.nil,h=>by cases h
 |_,_,_,.cons h t,m=>by
  cases m with
  |head=>exact h
  |tail _ m=>exact t.mem m
noncomputable def qaj(P:Program)(wd:World)(κ:KC)(K:Frag)(mg:PR)(base:Heap)(pg:Pg)(k:Nat):Prop:=
 (∀(f:Str) (st:Stmt),pg.defs.lookup f=some st->∃fa fd,FnOk P wd K mg base CX0 k fa fd (jK st) (spF κ K (clK pg k) f)/\mg f=some (.ref fa)/\PySem.W.keepIn K (.ref fa)=true/\qI K fd (jK st) [])/\
 (∀(f:Str) (st:Stmt),pg.meths.lookup f=some st->pg.defs.lookup f=none->∀nm fa fd,Fun K nm f st fa fd->FnOk P wd K mg base CX0 k fa fd (jK st) (spF κ K (clK pg k) f))/\
 ∀(f:Str) (st:Stmt),pg.defs.lookup f=some st->∃fa fd,FnOk P wd K mg base (CX1 P wd) k fa fd (jK st) (spX κ K (clX pg k) f)/\mg f=some (.ref fa)/\PySem.W.keepIn K (.ref fa)=true/\qI K fd (jK st) []
structure PgOk(κ:KC)(K:Frag)(mg:PR)(pg:Pg):Prop where
 fn:AllF K mg pg.defs
 blt:∀f∈qbz,mg f=none
 gl:∀x d,pg.gl x=some d->∃v u,mg x=some u/\qB v u/\∀G,Rep κ G d v
 cls:∀c C,κ c=some C->Cls K C
 flds:∀c x C,pg.cs.fld c x=true->κ c=some C->zj K C x
 mts:∀c x f,pg.cs.mt c x=some f->∃C fa fd st nm,κ c=some C/\Meth K C x fa/\pg.meths.lookup f=some st/\pg.defs.lookup f=none/\Fun K nm f st fa fd/\qI K fd (jK st) []
 mks:∀P wd base k,(∀j,j < k->qaj P wd κ K mg base pg j)->∀f,pg.cs.tab.contains f=true->(∀args,pg.nw k f args=.no)\/∃C fa fd ps sp,Mk K C fa/\FnOk P wd K mg base CX0 (k - 1) fa fd ps sp/\mg f=some (.ref C)/\qI K fd ps []/\0 < k/\
  ∀vs H Q,spF κ K (pg.nw k) f vs H Q E0->∀x dx,H x=none->H dx=none->dx≠x->sp (.ref x::vs) (upd (upd H dx (.own x)) x (.ins C dx [])) (λv H2=>v=.non/\Q (.ref x) H2) E0
 xsubs:∀C t b,pg.cs.xs C t=some b->ExcIs K C/\((∃T,mg t=some (.ref T)/\PySem.W.kitOne K (.ref C) (.ref T)=some b)\/(mg t=none/\t = "ValueError"/\PySem.W.kitOne K (.ref C) (.type "ValueError")=some b)):=by exactλ_ _ _ h=>by cases h
 xgs:∀C x,pg.cs.xg C x=true->XcG K C x:=by exactλ_ _ h=>by cases h
 xn0:∀n,pg.cs.xn n=some []->mg n=some (.ref (pg.cs.xa n))/\PySem.W.excIn K (pg.cs.xa n) bV "ValueError.__new__" = true:=by exactλ_ h=>by cases h
 xn1:∀n ns,pg.cs.xn n=some ns->ns≠[]->∀P wd base j,∃fI fd,mg n=some (.ref (pg.cs.xa n))/\XcC K (pg.cs.xa n) fI/\FnOk P wd K mg base CX0 (j+1) fI fd ("self" :: ns) (qk7 (pg.cs.xa n) ns)/\qI K fd ("self" :: ns) []:=by exactλ_ _ h=>by cases h
 xhs:∀C (t:Str) b,t≠("ValueError" : Str)->pg.cs.xs C t=some b->∃D,mg t=some (.ref D)/\PySem.W.exmOne K (.ref C) (.ref D)=some b:=by exactλ_ _ _ _ h=>by cases h
 xtd:∀f,pg.cs.xt.contains f=true->(pg.defs.map (·.1)).contains f=true:=by exactλ_ h=>by cases h
 subs:∀c t b,pg.cs.sub c t=some b->∃C T,κ c=some C/\(∀H p dx fs,H p=some (HO.ins C dx fs)->TyOf K H (.ref p) (.ref C))/\mg t=some (.ref T)/\PySem.W.kitOne K (.ref C) (.ref T)=some b
section
variable{P:Program}{wd:World}{κ:KC}{K:Frag}{mg:PR}{base:Heap}{pg:Pg}
theorem jD.len{G H:Hp}:∀{args:List Ar} {vs:List V},jD κ K G H args vs->args.length=vs.length
 |[],vs,h=>by simp only[jD] at h;subst h;rfl
 | a::l,vs,h=>by simp only[jD] at h;obtain⟨v,r,rfl,_,h2⟩:=h;simp[jD.len h2]
theorem jD.at{G H:Hp}:∀{args:List Ar} {vs:List V} {i:Nat} {a:Ar},jD κ K G H args vs->args[i]?=some a->∃v,vs[i]?=some v/\ArR κ K G H a v
 |[],vs,i,a,h,e=>by simp at e
 | b::l,vs,0,a,h,e=>by simp only[jD] at h;obtain⟨v,r,rfl,h1,h2⟩:=h;simp at e;subst e;exact⟨v,rfl,h1⟩
 | b::l,vs,i+1,a,h,e=>by simp only[jD] at h;obtain⟨v,r,rfl,h1,h2⟩:=h;obtain⟨v',e1,e2⟩:=jD.at (i:=i) h2 (by simpa using e);exact⟨v',by simpa using e1,e2⟩
theorem Zu{G H:Hp}{args:List Ar}{vs:List V}{N:List Str}(sub:qo G H)(h:jD κ K G H args vs):ER κ K G H G H (zA N args) (L2.j5 N vs):=by
 have hl:=h.len;refine⟨by simp[zA,L2.j5,hl],sub,λ_ _ e=>e,λ_ _ e=>e,λa o e=>.inl ⟨o,e⟩,λi s e=>?_,λi j a l n e1=>?_⟩
 ·unfold zA at e;unfold L2.j5
  by_cases hi:i < args.length
  ·rw[List.getElem?_append_left (by simpa using hi),List.getElem?_map] at e;obtain⟨b,e1,rfl⟩:=Option.map_eq_some_iff.mp e;obtain⟨v,e2,e3⟩:=h.at e1;rw[List.getElem?_append_left (by rw[List.length_map,<-hl];exact hi),List.getElem?_map,e2]
   cases b with
   |val d=>exact⟨v,rfl,e3⟩
   |bor l=>obtain⟨a,xs,rfl,h1,h2⟩:=e3;exact⟨a,xs,rfl,h1,h2⟩
   |scr l=>obtain⟨a,xs,rfl,h1,h2⟩:=e3;exact⟨a,xs,rfl,h1,h2⟩
  ·rw[List.getElem?_append_right (by simpa using hi)] at e
   have:s=.no:=by
    have:=List.mem_of_getElem? e
    exact List.eq_of_mem_replicate this
   subst this;trivial
 ·exfalso;unfold zA at e1
  by_cases hi:i < args.length
  ·rw[List.getElem?_append_left (by simpa using hi),List.getElem?_map] at e1;obtain⟨b,_,z⟩:=Option.map_eq_some_iff.mp e1
   cases b<;>cases z
  ·rw[List.getElem?_append_right (by simpa using hi)] at e1
   have:=List.eq_of_mem_replicate (List.mem_of_getElem? e1)
   cases this
theorem z9{st:Stmt}(h:qX st=true):FnScope (fnN st) (jK st) (qk st):=by unfold qX at h;simp only[Bool.and_eq_true,Bool.not_eq_true',List.all_eq_true] at h;obtain⟨⟨⟨⟨⟨h1,h2⟩,h3⟩,h4⟩,h5⟩,h6⟩:=h;refine⟨by simpa using h1,h2,h3,of_decide_eq_true h4,by simp[fnN],λx hx=>qbA (h5 x hx),λy hy=>by simpa using h6 y hy⟩
theorem yj{k:Nat}{x:Bool}{f:Str}{st:Stmt}{args:List Ar}(h:(pg.defs++pg.meths).lookup f=some st):clB pg (k+1) x f args=if x=true then evX pg k (clK pg k) (clX pg k) st args else if pg.xl.contains f=true then noX (evX pg k (clK pg k) (clX pg k) st args) else evF pg k (clK pg k) st args:=by show(match (pg.defs++pg.meths).lookup f with |some st=>_ |none=>R.no)=_;rw[h];rfl
theorem yk{k:Nat}{f:Str}{st:Stmt}{args:List Ar}(h:(pg.defs++pg.meths).lookup f=some st)(hx:pg.xl.contains f=false):clK pg (k+1) f args=evF pg k (clK pg k) st args:=by unfold clK;rw[yj h,if_neg (λz=>by cases z),if_neg (by rw[hx];exactλz=>by cases z)];rfl
theorem Zv{f:Str}{st:Stmt}:∀{l m:List (Str×Stmt)},l.lookup f=some st->(l++m).lookup f=some st
 |[],m,h=>by cases h
 | (g,s)::l,m,h=>by
  rw[List.lookup_cons] at h;rw[List.cons_append,List.lookup_cons]
  cases e:(f == g) with
  |true=>rw[e] at h;exact h
  |false=>rw[e] at h;exact Zv h
theorem qeA{f:Str}:∀{l m:List (Str×Stmt)},l.lookup f=none->(l++m).lookup f=m.lookup f
 |[],m,h=>rfl
 | (g,s)::l,m,h=>by
  rw[List.lookup_cons] at h;rw[List.cons_append,List.lookup_cons]
  cases e:(f == g) with
  |true=>rw[e] at h;cases h
  |false=>rw[e] at h;exact qeA h
theorem yL{f:Str}:∀{l:List (Str×Stmt)},(l.map (·.1)).contains f=true->∃st,l.lookup f=some st
 |[],h=>by simp at h
 | (g,st)::l,h=>by
  by_cases e:f=g
  ·subst e;exact⟨st,by simp[List.lookup_cons]⟩
  ·have hb:(f == g)=false:=by simpa using e
   obtain⟨s,hs⟩:=yL (l:=l) (f:=f) (by simp only[List.map_cons,List.contains_cons,hb,Bool.false_or] at h;exact h)
   exact⟨s,by rw[List.lookup_cons,hb];exact hs⟩
theorem qiD(ok:PgOk κ K mg pg){k:Nat}(ih:∀j,j<=k->qaj P wd κ K mg base pg j){f:Str}{st:Stmt}{fa:Addr}{CX:CXT}{cdv:Value}{A:Around}{outer:List PySem.Env}{s:Shared}{H:Hp}{E:XK}(S:FnScope (fnN st) (jK st) (qk st))(hr:Room k (A.deeper (envOfC f (qk st) s.heap.objs.size fa cdv))) :
  Gs κ K k (Q7 CX P wd K mg base (fnN st) f (qk st) fa cdv A outer s H E).nox (pg.ct k (clK pg k) st):=
 {hN:=rfl
  vis:=λx h=>qeo h
  loc:=λx h=>⟨qbA h,.inl rfl⟩
  glo:=λx h=>by have h:((qk st).names.lookup x == some NameKind.globalImplicit)=true:=h;exact(by simpa using h:(qk st).names.lookup x=some .globalImplicit)
  cf:=λx h=>h
  nd:=S.nd
  calm:=rfl
  hK:=rfl
  room:=hr
  fns:=λg hg=>by obtain⟨st',hl⟩:=yL (l:=pg.defs) hg;obtain⟨ga,gd,G1,G2,G3,G4⟩:=(ih k (Nat.le_refl k)).1 g st' hl;exact⟨ga,gd,jK st',G1,G2,G3,G4⟩
  blt:=ok.blt
  gl:=ok.gl
  cls:=ok.cls
  flds:=ok.flds
  mts:=λc x f h=>by obtain⟨C,fa,fd,st',nm,m1,m2,m3,m4,m5,m6⟩:=ok.mts c x f h;exact⟨C,fa,fd,_,m1,m2,(ih k (Nat.le_refl k)).2.1 f st' m3 m4 nm fa fd m5,m6⟩
  mks:=ok.mks P wd base k λj hj=>ih j (Nat.le_of_lt hj)
  xsubs:=ok.xsubs
  xgs:=ok.xgs
  subs:=ok.subs
  own:=PassesOwn.never
  nx:=λ_ _ h=>h
  sceq:=rfl
  fnk:=S.kind }
theorem Zw{k:Nat}{st:Stmt}{args:List Ar}{cl cx:Str->List Ar->R Rv}{Ξ:Addr->List (Str×D)->Prop}{g:Rv->Prop}(z:Wx Ξ (evX pg k cl cx st args) g):(qX st=true/\args.length=(jK st).length/\2<=k)/\
  Wx Ξ (match cYs pg.m (pg.ct k cl st) false (qt st) with |some b=>(iYs (pg.ct k cl st).k cx pg.w b (zA (fnN st) args)).th flR |none=>.no) g:=by
 unfold evX at z
 by_cases hc:(qX st&&args.length == (jK st).length&&decide (2<=k))=true
 ·rw[if_pos hc] at z;simp only[Bool.and_eq_true,decide_eq_true_eq,beq_iff_eq] at hc;exact⟨⟨hc.1.1,hc.1.2,hc.2⟩,z⟩
 ·rw[if_neg hc] at z;exact z.elim
theorem Zx(ok:PgOk κ K mg pg){k:Nat}(ih:∀j,j<=k->qaj P wd κ K mg base pg j){nm f:Str}{st:Stmt}{fa:Addr}{fd:FuncData}(F:Fun K nm f st fa fd)(h:(pg.defs++pg.meths).lookup f=some st):FnOk P wd K mg base (CX1 P wd) (k+1) fa fd (jK st) (spX κ K (clX pg (k+1)) f):=by
 have un:∀{args:List Ar},clX pg (k+1) f args=evX pg k (clK pg k) (clX pg k) st args:=λ{args}=>by unfold clX;rw[yj h,if_pos rfl];rfl
 by_cases hc:qX st=true/\2<=k
 case neg=>
  have no:∀{vs:List V} {H:Hp} {Q:VK} {E:XK},spX κ K (clX pg (k+1)) f vs H Q E->False:=λ{vs H Q E} ⟨G,args,_,_,z⟩=>by rw[un] at z;exact hc ⟨(Zw z).1.1,(Zw z).1.2.2⟩
  exact⟨λvs H Q E z=>(no z).elim,λA outer s H args us vs Q E _ _ _ _ z=>(no z).elim⟩
 obtain⟨hc,h2⟩:=hc;refine F.okx (z9 hc) (λvs H Q E z=>?_) (λcdv A outer s H vs Q E hr z=>?_)
 ·obtain⟨G,args,_,ha,z⟩:=z;rw[un] at z;rw[<-ha.len];exact(Zw z).1.2.1
 ·obtain⟨G,args,sub,ha,z⟩:=z;rw[un] at z;have z:=(Zw z).2;have S:=z9 hc
  have gb:Gb κ K k (Q7 (CX1 P wd) P wd K mg base (fnN st) f (qk st) fa cdv A outer s H E) (pg.ct k (clK pg k) st) (clX pg k) E:=
   ⟨qiD ok ih S hr,qfl λ_ _ _ q=>q,λg hg=>by obtain⟨st',hl⟩:=yL (l:=pg.defs) (ok.xtd g hg);obtain⟨ga,gd,G1,G2,G3,G4⟩:=(ih k (Nat.le_refl k)).2.2 g st' hl;exact⟨ga,gd,jK st',G1,G2,G3,G4⟩⟩
  have gx:Gx κ K k (Q7 (CX1 P wd) P wd K mg base (fnN st) f (qk st) fa cdv A outer s H E) (pg.ct k (clK pg k) st) (clX pg k) E:=
   {ex:=rfl
    stk:=⟨rfl,rfl⟩
    rs:=qbr
    own:=PassesOwn.leaving
    xn0:=ok.xn0
    xn1:=λn ns e1 e2=>by obtain⟨j,rfl⟩:∃j,k=j+2:=⟨k - 2,by omega⟩;obtain⟨fI,fd,q1,q2,q3,q4⟩:=ok.xn1 n ns e1 e2 P wd base j;exact⟨fI,fd,j+1,rfl,q1,q2,q3,q4⟩
    xhs:=ok.xhs }
  cases hb:cYs pg.m (pg.ct k (clK pg k) st) false (qt st) with
  |none=>rw[hb] at z;exact z.elim
  |some b=>
   rw[hb] at z;refine⟨_,(qk9 gb gx (w:=pg.w) pg.m).ys G H (qt st) b hb,zA (fnN st) args,G,Zu sub ha,Wx.mono (Wx.th z) λfl hf=>?_⟩
   cases fl with
   |next ρ=>exactλσ' G' H' er g'=>hf .non G' H' er.base er.g0 er.sub er.fresh (by simp only[ReR,Rep])
   |ret r=>exact hf
theorem qdB{k:Nat}{fa:Addr}{fd:FuncData}{ps:List Str}{sp sp':Sp}(F:FnOk P wd K mg base (CX1 P wd) k fa fd ps sp)(h:∀vs H Q E,sp' vs H Q E->sp vs H Q E0):FnOk P wd K mg base CX0 k fa fd ps sp':=
 ⟨λvs H Q E q=>F.len vs H Q E0 (h vs H Q E q),λA outer s H args us vs Q E hr he hb hv hs=>codeAny_mono (F.run A outer s H args us vs Q E0 hr he hb hv (h vs H Q E hs)) λr s' q=>by
  cases r with
  |error e=>obtain⟨x,T,C,od,H',_,_,_,_,_,_,_,_,_,_,z⟩:=(show CX1 P wd outer H s E0 e s' from q);exact z.elim
  |ok fl=>cases fl<;>exact q⟩
theorem QB(ok:PgOk κ K mg pg){k:Nat}(ih:∀j,j<=k->qaj P wd κ K mg base pg j){nm f:Str}{st:Stmt}{fa:Addr}{fd:FuncData}(F:Fun K nm f st fa fd)(h:(pg.defs++pg.meths).lookup f=some st):FnOk P wd K mg base CX0 (k+1) fa fd (jK st) (spF κ K (clK pg (k+1)) f):=by
 cases hx:pg.xl.contains f with
 |true=>
  refine qdB (Zx ok ih F h) λvs H Q E z=>?_;obtain⟨G,args,sub,ha,z⟩:=z;refine⟨G,args,sub,ha,?_⟩
  have e1:clK pg (k+1) f args=noX (clX pg (k+1) f args):=by unfold clK clX;rw[yj h,yj h,if_neg (λz=>by cases z),if_pos hx,if_pos rfl]
  rw[e1] at z
  cases e2:clX pg (k+1) f args with
  |ok r=>rw[e2] at z;exact z
  |exc c l=>rw[e2] at z;exact z.elim
  |no=>rw[e2] at z;exact z.elim
 |false=>
  by_cases hc:qX st=true
  case neg=>
   have no:∀{vs:List V} {H:Hp} {Q:VK} {E:XK},spF κ K (clK pg (k+1)) f vs H Q E->False:=λ{vs H Q E} ⟨G,args,_,_,z⟩=>by
    rw[yk h hx] at z
    have:=(Wk.iff (show Wk (if (qX st&&args.length == (jK st).length)=true then _ else R.no) _ from z)).1
    rw[Bool.and_eq_true] at this;exact hc this.1
   exact⟨λvs H Q E z=>(no z).elim,λA outer s H args us vs Q E _ _ _ _ z=>(no z).elim⟩
  refine F.ok (z9 hc) (λvs H Q E z=>?_) (λcdv A outer s H vs Q E hr z=>?_)
  ·obtain⟨G,args,_,ha,z⟩:=z;rw[yk h hx] at z
   have:=(Wk.iff (show Wk (if (qX st&&args.length == (jK st).length)=true then _ else R.no) _ from z)).1
   rw[Bool.and_eq_true] at this;rw[<-ha.len]
   simpa using this.2
  ·obtain⟨G,args,sub,ha,z⟩:=z;rw[yk h hx] at z;have z:=(Wk.iff (show Wk (if (qX st&&args.length == (jK st).length)=true then _ else R.no) _ from z)).2;have gs:Gs κ K k (Q7 CX0 P wd K mg base (fnN st) f (qk st) fa cdv A outer s H E).nox (pg.ct k (clK pg k) st):=qiD ok ih (z9 hc) hr
   cases hb:cSs pg.m (pg.ct k (clK pg k) st) (qt st) with
   |none=>rw[hb] at z;exact z.elim
   |some b=>
   rw[hb] at z;refine⟨_,(qkC gs (w:=pg.w) pg.m).ss G H (qt st) b hb,zA (fnN st) args,G,Zu sub ha,Wk.mono (Wk.th z) λfl hf=>?_⟩
   cases fl with
   |next ρ=>exactλσ' G' H' er g'=>hf .non G' H' er.base er.g0 er.sub er.fresh (by simp only[ReR,Rep])
   |ret r=>exact hf
theorem qiE(ok:PgOk κ K mg pg):∀k j:Nat,j<=k->qaj P wd κ K mg base pg j:=by
 have zero:qaj P wd κ K mg base pg 0:=by
  refine⟨λf st h=>?_,λf st h _ nm fa fd F=>⟨λvs H Q E ⟨G,args,_,_,z⟩=>False.elim z,λA outer s H args us vs Q E _ _ _ _ ⟨G,args',_,_,z⟩=>False.elim z⟩,λf st h=>?_⟩
  ·obtain⟨fa,fd,F,hm,hb⟩:=ok.fn.mem (PySem.mem_of_lookup h);exact⟨fa,fd,⟨λvs H Q E ⟨G,args,_,_,z⟩=>False.elim z,λA outer s H args us vs Q E _ _ _ _ ⟨G,args',_,_,z⟩=>False.elim z⟩,hm,F.kp,hb⟩
  ·obtain⟨fa,fd,F,hm,hb⟩:=ok.fn.mem (PySem.mem_of_lookup h);exact⟨fa,fd,⟨λvs H Q E ⟨G,args,_,_,z⟩=>False.elim z,λA outer s H args us vs Q E _ _ _ _ ⟨G,args',_,_,z⟩=>False.elim z⟩,hm,F.kp,hb⟩
 intro k
 induction k with
 |zero=>intro j hj;rw[Nat.le_zero.mp hj];exact zero
 |succ k ih=>
  intro j hj;rcases Nat.lt_or_ge j (k+1) with h | h
  ·exact ih j (Nat.le_of_lt_succ h)
  ·obtain rfl:j=k+1:=Nat.le_antisymm hj h;refine⟨λf st h=>?_,λf st h h0 nm fa fd F=>?_,λf st h=>?_⟩
   ·obtain⟨fa,fd,F,hm,hb⟩:=ok.fn.mem (PySem.mem_of_lookup h);exact⟨fa,fd,QB ok ih F (Zv h),hm,F.kp,hb⟩
   ·exact QB ok ih F ((qeA h0).trans h)
   ·obtain⟨fa,fd,F,hm,hb⟩:=ok.fn.mem (PySem.mem_of_lookup h);exact⟨fa,fd,Zx ok ih F (Zv h),hm,F.kp,hb⟩
theorem YL(G:Hp):∀ns:List Int,ql κ G (ns.map D.int) (ns.map V.int)
 |[]=>.nil
 | n::ns=>.cons (by simp only[Rep]) (YL G ns)
theorem qiF{st:Stmt}{k:Nat}{fa:Addr}{fd:FuncData}(ok:PgOk κ K mg pg)(F:Fun K "law" "law" st fa fd)(hl:pg.defs.lookup ("law" : Str)=some st)(hp:jK st=(["_law_script"]:List Str)) :
  FnOk P wd K mg base CX0 (k+1) fa fd (["_law_script"]:List Str) (spF κ K (clK pg (k+1)) "law"):=by
 have:=QB (P:=P) (wd:=wd) (base:=base) ok (qiE ok k) F (Zv hl)
 rw[hp] at this;exact this
theorem qiG{k:Nat}{H:Hp}{a:Addr}{ns:List Int}(hq:SqL K H a (ns.map V.int))(h:clK pg k "law" [.scr (ns.map D.int)]=.ok (.val (.bl true))):spF κ K (clK pg k) "law" [.ref a] H (λv _=>v=.bl true) λ_ _ _=>False:=by
 refine⟨λ_=>none,[.scr (ns.map D.int)],λ_ _ e=>(by cases e),⟨_,_,rfl,⟨a,_,rfl,hq,YL _ ns⟩,rfl⟩,?_⟩;rw[h];intro v G' H' _ _ _ _ r
 simpa only[ReR,Rep] using r
end
noncomputable def qma(pg:Pg)(k:Nat)(cl:Str->List Ar->R Rv)(st:Stmt):Option (Nat×Nat×Ss):=oif (qX st) ((cSs pg.m (pg.ct k cl st) (qt st)).map λb=>((jK st).length,(fnN st).length,b))
def slN(n:Nat)(args:List Ar):Env:=args.map toSl++List.replicate (n - args.length) .no
noncomputable def runD(cl:Cl)(w:Nat)(c:Nat×Nat×Ss)(args:List Ar):R Rv:=if args.length=c.1 then (iSs cl w c.2.2 (slN c.2.1 args)).th flR else .no
def Pg.kk(pg:Pg)(k:Nat):Cl:=⟨clK pg k,pg.cs,pg.nw k⟩
theorem qC{pg:Pg}{f:Str}{st:Stmt}{c:Nat×Nat×Ss}(hl:(pg.defs++pg.meths).lookup f=some st)(hc:∀k cl,qma pg k cl st=some c)(k:Nat)(args:List Ar)(hx:pg.xl.contains f=false:=by rfl):clK pg (k+1) f args=runD (pg.kk k) pg.w c args:=by
 obtain⟨h1,h2⟩:=qi (hc k (clK pg k));obtain⟨b,h3,rfl⟩:=map_some h2;rw[yk hl hx];unfold evF runD
 by_cases hn:args.length=(jK st).length
 ·rw[if_pos (by rw[h1,hn];simp),if_pos hn];rw[h3];rfl
 ·rw[if_neg (by simp[hn]),if_neg hn]
end DE
namespace DE
open PySem L2
variable{cl:Cl}{w:Nat}
theorem th_ok{α β:Type}(a:α)(f:α->R β):(R.ok a).th f=f a:=(rfl)
theorem of_some{α:Type}(a:α):R.of (some a)=.ok a:=(rfl)
noncomputable def Jm(cl:Cl)(w:Nat)(tg:Tg)(b:Ss)(l:List D)(ρ:Env):R Fl:=qgH (λd ρ1=>(tg.go d ρ1).th λρ2=>iSs cl w b ρ2) l ρ
noncomputable def zB(cl:Cl)(e:E)(tg:Tg)(c:F)(l:List D)(ρ:Env)(acc:List D):R (List D):=qbv tg.go (λρ1=>iF cl c ρ1) (qZ e (iR cl e)) l ρ acc
def qdC(f:Fl)(g:Env->R Fl):R Fl:=match f with
 |.next ρ1=>g ρ1
 |.ret r=>.ok (.ret r)
section
variable(cl:Cl)(w:Nat)(ρ:Env)
theorem qdD(tg:Tg)(b:Ss):Jm cl w tg b [] ρ=.ok (.next ρ):=(rfl)
theorem qbR(tg:Tg)(b:Ss)(d:D)(l:List D):Jm cl w tg b (d::l) ρ=((tg.go d ρ).th λρ2=>iSs cl w b ρ2).th λf=>qdC f λρ1=>Jm cl w tg b l ρ1:=(rfl)
theorem jE(e:E)(tg:Tg)(c:F)(acc:List D):zB cl e tg c [] ρ acc=.ok acc:=(rfl)
theorem qak(e:E)(tg:Tg)(c:F)(d:D)(l acc:List D):zB cl e tg c (d::l) ρ acc=(tg.go d ρ).th λρ1=>(iF cl c ρ1).th λbt=>if bt.1=true then (qZ e (iR cl e) bt.2).th λx=>if acc.length < sizeLine then zB cl e tg c l x.2 (acc++[x.1]) else .no else zB cl e tg c l bt.2 acc:=(rfl)
theorem qiH(i:Nat)(e:E):iS cl w (.app i e) ρ=(match jd ρ i with
  |none=>.no
  |some _=>(qZ e (iR cl e) ρ).th λy=>(match jd y.2 i with
   |some l=>if l.length < sizeLine then .ok (.next (y.2.set i (.own (l++[y.1])))) else .no
   |none=>.no)):=(rfl)
theorem qiI(e:E):iS cl w (.ret e) ρ=(YA e (iR cl e) ρ).th λr=>.ok (.ret r):=(rfl)
theorem qiJ(i:Nat)(e:E):iS cl w (.set i e) ρ=(JJ e (iR cl e) ρ).th λs=>.ok (.next (s.2.set i s.1)):=(rfl)
theorem qf7(tg:Tg)(e:E):iS cl w (.setT tg e) ρ=(qZ e (iR cl e) ρ).th λx=>(tg.go x.1 x.2).th λρ1=>.ok (.next ρ1):=(rfl)
theorem qiK(c:T)(a b:Ss):iS cl w (.ite c a b) ρ=(iT cl c ρ).th λt=>if t.1=true then iSs cl w a t.2 else iSs cl w b t.2:=(rfl)
theorem qiL(tg:Tg)(src:I)(b:Ss):iS cl w (.for_ tg src b) ρ=(iI cl src ρ).th λx=>Jm cl w tg b x.1 x.2:=(rfl)
theorem qdE(s:S)(l:Ss):iSs cl w (.cons s l) ρ=(iS cl w s ρ).th λf=>qdC f λρ1=>iSs cl w l ρ1:=(rfl)
theorem qiM(op:Operator)(a b:E):iR cl (.bin op a b) ρ=(iR cl a ρ).th λx=>(iR cl b x.2).th λy=>(Qs op x.1 y.1).th λr=>.ok (r,y.2):=(rfl)
theorem qiN(a:E):iR cl (.not a) ρ=(iR cl a ρ).th λx=>match x.1 with
  |.val (.bl b)=>.ok (.val (.bl (!b)),x.2)
  |_=>.no:=(rfl)
theorem qiO(a b:E):iR cl (.and a b) ρ=(iR cl a ρ).th λx=>match x.1 with
  |.val (.bl true)=>iR cl b x.2
  |.val (.bl false)=>.ok (.val (.bl false),x.2)
  |_=>.no:=(rfl)
theorem qiP(op:CmpOp)(a b:E):iR cl (.cmp op a b) ρ=(iR cl a ρ).th λx=>(iR cl b x.2).th λy=>(R.of (Jf op x.1 y.1)).th λr=>.ok (.val (.bl r),y.2):=(rfl)
theorem qiQ(a i:E):iR cl (.idx a i) ρ=(iR cl a ρ).th λx=>(iR cl i x.2).th λy=>(idxD x.1 y.1).th λr=>.ok (r,y.2):=(rfl)
theorem qiR(a:E)(lo hi:O):iR cl (.sli a lo hi) ρ=(iR cl a ρ).th λx=>(iO cl lo x.2).th λl=>(iO cl hi l.2).th λh=>(sliceD x.1 l.1 h.1).th λr=>.ok (r,h.2):=(rfl)
theorem qiS(l:Es):iR cl (.lst l) ρ=(iEs cl l ρ).th λx=>if x.1.length<=sizeLine then .ok (.tmp x.1,x.2) else .no:=(rfl)
theorem qiT(l:Es):iR cl (.tup l) ρ=(iEs cl l ρ).th λx=>if x.1.length<=sizeLine then .ok (.val (.tup x.1),x.2) else .no:=(rfl)
theorem qf8(f:Str)(l:Es):iR cl (.call f l) ρ=(iAs cl l ρ).th λx=>(cl f x.1).th λr=>.ok (r,x.2):=(rfl)
theorem qkG(f:B1)(a:E):iR cl (.b1 f a) ρ=(iR cl a ρ).th λx=>(f.go x.1).th λr=>.ok (r,x.2):=(rfl)
theorem qkH(f:B2)(a b:E):iR cl (.b2 f a b) ρ=(iR cl a ρ).th λx=>(iR cl b x.2).th λy=>(f.go x.1 y.1).th λr=>.ok (r,y.2):=(rfl)
theorem qiU(t:Ty)(a:E):iR cl (.isi t a) ρ=(iR cl a ρ).th λx=>(R.of (t.go x.1)).th λb=>.ok (.val (.bl b),x.2):=(rfl)
theorem qiV(t:Str)(a:E):iR cl (.isc t a) ρ=(iR cl a ρ).th λx=>(R.of (Zj cl.cs x.1 t)).th λb=>.ok (.val (.bl b),x.2):=(rfl)
theorem qiW(a:E)(x:Str):iR cl (.fld a x) ρ=(iR cl a ρ).th λy=>(R.of (qct cl.cs y.1 x)).th λd=>.ok (.val d,y.2):=(rfl)
noncomputable def goM(cl:Cl)(x:Str)(l:Es)(v:Rv)(ρ:Env):Option Str->R (Rv×Env)
 |some f=>(iAs cl l ρ).th λz=>(cl f (toAr v::z.1)).th λr=>.ok (r,z.2)
 |none=>(iAs cl l ρ).th λz=>(bmD x v z.1).th λr=>.ok (r,z.2)
theorem qiX(l:Es):iR cl (.fst l) ρ=(iEs cl l ρ).th λx=>(R.of (Jg Str.empty x.1)).th λz=>.ok (.val (.str z),x.2):=(rfl)
theorem qiY(ks:List Str)(l:Es):iR cl (.dct ks l) ρ=(iEs cl l ρ).th λx=>.ok (.val (.dct ks x.1),x.2):=(rfl)
theorem qiZ(a:E)(x:Str)(l:Es):iR cl (.met a x l) ρ=(iR cl a ρ).th λy=>goM cl x l y.1 y.2 (mtD cl.cs y.1 x):=by
 show(iR cl a ρ).th _=_
 congr 1
theorem qi0(f:Str)(l:Es):iR cl (.new f l) ρ=(iAs cl l ρ).th λx=>(cl.nw f x.1).th λr=>.ok (r,x.2):=(rfl)
theorem qf9(e:E)(src:I)(tg:Tg)(c:F)(n:Nat)(fr:List Nat):iR cl (.comp e src tg c n fr) ρ=(iI cl src ρ).th λx=>if x.1.length<=sizeLine then (zB cl e tg c x.1 (qae n fr x.2) []).th λl=>.ok (.tmp l,x.2) else .no:=(rfl)
theorem qi1(a:T):iT cl (.not a) ρ=(iT cl a ρ).th λt=>.ok (!t.1,t.2):=(rfl)
theorem qi2(a b:T):iT cl (.and a b) ρ=(iT cl a ρ).th λt=>if t.1=true then iT cl b t.2 else .ok (false,t.2):=(rfl)
theorem qkI(a b:T):iT cl (.or a b) ρ=(iT cl a ρ).th λt=>if t.1=true then .ok (true,t.2) else iT cl b t.2:=(rfl)
theorem qi3(op:CmpOp)(a b:E):iT cl (.cmp op a b) ρ=(iR cl a ρ).th λx=>(iR cl b x.2).th λy=>(R.of (Jf op x.1 y.1)).th λr=>.ok (r,y.2):=(rfl)
theorem qi4(a:E):iT cl (.val a) ρ=(iR cl a ρ).th λx=>(R.of (truthD x.1)).th λb=>.ok (b,x.2):=(rfl)
theorem qdF(e:E)(l:Es):iEs cl (.cons e l) ρ=(qZ e (iR cl e) ρ).th λx=>(iEs cl l x.2).th λy=>.ok (x.1::y.1,y.2):=(rfl)
theorem qdG(e:E)(l:Es):iAs cl (.cons e l) ρ=(iR cl e ρ).th λx=>(iAs cl l x.2).th λy=>.ok (toAr x.1::y.1,y.2):=(rfl)
theorem qga(e:E):iO cl (.some e) ρ=(iR cl e ρ).th λx=>match x.1 with
  |.val (.int i)=>.ok (some i,x.2)
  |_=>.no:=(rfl)
theorem qi5(a:E):iI cl (.seq a) ρ=(jo a (iR cl a) ρ).th λx=>.ok (x.1.2,x.2):=(rfl)
theorem qi6(a:E):iI cl (.rng a) ρ=(iR cl a ρ).th λx=>(match x.1.int? with
  |some n=>if zl n=true then .ok (zk 0 n,x.2) else .no
  |none=>.no):=(rfl)
theorem qi7(a b:E):iI cl (.zip a b) ρ=(jo a (iR cl a) ρ).th λx=>(jo b (iR cl b) x.2).th λy=>match x.1.1,y.1.1 with |.lst,.lst=>.ok (qax x.1.2 y.1.2,y.2) |_,_=>.no:=(rfl)
variable(s:Sl)(i:Nat)(d:D)(l:List D)
theorem slR_s:slR (s::ρ) (i+1)=slR ρ i:=(rfl)
theorem slR_v:slR (.val d::ρ) 0=.ok (.val d):=(rfl)
theorem slR_o:slR (.own l::ρ) 0=.ok (.cell l):=(rfl)
theorem slR_b:slR (.bor l::ρ) 0=.ok (.cell l):=(rfl)
theorem slR_c:slR (.scr l::ρ) 0=.ok (.scr l):=(rfl)
theorem slX_s:slX (s::ρ) (i+1)=slX ρ i:=(rfl)
theorem slX_v:slX (.val d::ρ) 0=.ok (.val d):=(rfl)
theorem slX_o:slX (.own l::ρ) 0=.ok (.tmp l):=(rfl)
theorem qkJ:slE (s::ρ) (i+1)=(slE ρ i).th λx=>.ok (x.1,s::x.2):=by
 show(match ρ[i]? with |some (.val d)=>_ |some (.own l)=>_ |_=>_)=R.th (match ρ[i]? with |some (.val d)=>_ |some (.own l)=>_ |_=>_) _
 cases ρ[i]? with
 |none=>rfl
 |some z=>cases z<;>rfl
theorem qkK:slL (s::ρ) (i+1)=(slL ρ i).th λx=>.ok (x.1,s::x.2):=by
 show(match ρ[i]? with |some (.val (.lst l))=>_ |some (.val (.tup l))=>_ |some (.val (.str z))=>_ |some (.own l)=>_ |some (.bor l)=>_ |some (.scr l)=>_ |_=>_)=R.th (match ρ[i]? with |some (.val (.lst l))=>_ |some (.val (.tup l))=>_ |some (.val (.str z))=>_ |some (.own l)=>_ |some (.bor l)=>_ |some (.scr l)=>_ |_=>_) _
 cases ρ[i]? with
 |none=>rfl
 |some z=>
  cases z with
  |val d=>cases d<;>rfl
  |_=>rfl
theorem ownI_s:jd (s::ρ) (i+1)=jd ρ i:=(rfl)
theorem ownI_o:jd (.own l::ρ) 0=some l:=(rfl)
end
mutual
noncomputable def okD:D->Bool
 |.str s=>PyData.strOk s
 |.lst l=>qeB l
 |.tup l=>qeB l
 |.ins ..=>false
 |.exc ..=>false
 |.dct ..=>false
 |.non=>true
 |.bl _=>true
 |.int _=>true
noncomputable def qeB:List D->Bool
 |[]=>true
 | d::l=>okD d&&qeB l
end
mutual
noncomputable def dpD:D->Nat
 |.lst l=>qdH l+1
 |.tup l=>qdH l+1
 |.str _=>0
 |.ins ..=>0
 |.exc ..=>0
 |.dct ..=>0
 |.non=>0
 |.bl _=>0
 |.int _=>0
noncomputable def qdH:List D->Nat
 |[]=>0
 | d::l=>max (dpD d) (qdH l)
end
mutual
theorem qeC:∀d:D,okD d=true->∃p,toP d=some p/\p.canLay0=true/\p.depth=dpD d/\PyData.eqv p p=true
 |.non,_=>⟨_,by rw[toP],by rw[PyData.canLay0],by rw[PyData.depth,dpD],by rw[PyData.eqv]⟩
 |.bl b,_=>⟨_,by rw[toP],by rw[PyData.canLay0],by rw[PyData.depth,dpD],by rw[PyData.eqv];simp⟩
 |.int n,_=>⟨_,by rw[toP],by rw[PyData.canLay0],by rw[PyData.depth,dpD],by rw[PyData.eqv];simp⟩
 |.str s,h=>⟨_,by rw[toP],by rw[PyData.canLay0];rw[okD] at h;exact h,by rw[PyData.depth,dpD],by rw[PyData.eqv];simp⟩
 |.lst l,h=>by rw[okD] at h;obtain⟨p,h1,h2,h3,h4⟩:=QC l h;exact⟨.list p,by rw[toP,h1];rfl,by rw[PyData.canLay0];exact h2,by rw[PyData.depth,dpD,h3],by rw[PyData.eqv];exact h4⟩
 |.tup l,h=>by rw[okD] at h;obtain⟨p,h1,h2,h3,h4⟩:=QC l h;exact⟨.tuple p,by rw[toP,h1];rfl,by rw[PyData.canLay0];exact h2,by rw[PyData.depth,dpD,h3],by rw[PyData.eqv];exact h4⟩
 |.ins ..,h=>by rw[okD] at h;cases h
 |.exc ..,h=>by rw[okD] at h;cases h
 |.dct ..,h=>by rw[okD] at h;cases h
theorem QC:∀l:List D,qeB l=true->∃p,qdd l=some p/\PyData.canLayAll0 p=true/\PyData.depthAll p=qdH l/\PyData.eqvAll p p=true
 |[],_=>⟨[],by rw[qdd],by rw[PyData.canLayAll0],by rw[PyData.depthAll,qdH],by rw[PyData.eqvAll]⟩
 | d::l,h=>by rw[qeB,Bool.and_eq_true] at h;obtain⟨p,h1,h2,h3,h4⟩:=qeC d h.1;obtain⟨q,h5,h6,h7,h8⟩:=QC l h.2;exact⟨p::q,by rw[qdd,h1,h5];rfl,by rw[PyData.canLayAll0,h2,h6];rfl,by rw[PyData.depthAll,qdH,h3,h7],by rw[PyData.eqvAll,h4,h8];rfl⟩
end
theorem qi8{d:D}(h:okD d=true)(hd:dpD d<=64):∃p,toP d=some p/\SeqAt.shaped p=true/\PyData.eqv p p=true:=by obtain⟨p,h1,h2,h3,h4⟩:=qeC d h;exact⟨p,h1,by unfold SeqAt.shaped;rw[h2,h3];simpa using hd,h4⟩
theorem qdI{d:D}(h:okD d=true)(hd:dpD d<=64):eqD d d=some true:=by obtain⟨p,h1,h2,h3⟩:=qi8 h hd;unfold eqD;rw[h1];dsimp only;rw[h2,h3];rfl
theorem jP{a b:Str}(ha:PyData.strOk a=true)(hb:PyData.strOk b=true):eqD (.str a) (.str b)=some (a == b):=by unfold eqD;simp only[toP];rw[show SeqAt.shaped (.str a)=true by unfold SeqAt.shaped;simp[PyData.canLay0,PyData.depth,ha],show SeqAt.shaped (.str b)=true by unfold SeqAt.shaped;simp[PyData.canLay0,PyData.depth,hb]];simp[PyData.eqv]
theorem qi9:SeqAt.shaped .none=true:=by unfold SeqAt.shaped;simp[PyData.canLay0,PyData.depth]
theorem qja(n:Int):SeqAt.shaped (.int n)=true:=by unfold SeqAt.shaped;simp[PyData.canLay0,PyData.depth]
theorem qjb{a:Str}(ha:PyData.strOk a=true):SeqAt.shaped (.str a)=true:=by unfold SeqAt.shaped;simp[PyData.canLay0,PyData.depth,ha]
theorem qQ(a b:Int):eqD (.int a) (.int b)=some (a == b):=by unfold eqD;simp only[toP,qja,Bool.and_self,if_true,PyData.eqv]
theorem qjc{a:Str}(ha:PyData.strOk a=true):eqD (.str a) .non=some false:=by unfold eqD;simp only[toP,qi9,qjb ha,Bool.and_self,if_true,PyData.eqv]
theorem qgb{α:Type}{l:List α}{i:Int}{j:Nat}(h:i=(j:Int))(hj:j < l.length):atI l i=some l[j]:=by subst h;unfold atI ixN;rw[if_pos (1:),if_pos (1:)];simp[hj]
theorem kk_f(pg:Pg)(k:Nat)(f:Str)(args:List Ar):(pg.kk k).f f args=clK pg k f args:=(rfl)
theorem kk_cs(pg:Pg)(k:Nat):(pg.kk k).cs=pg.cs:=(rfl)
end DE
namespace DE
open PySem L2
theorem qkL{α:Type}{l:List α}{j:Nat}{x:α}(h:l[j]?=some x):atI l (j:Int)=some x:=by obtain⟨h1,h2⟩:=List.getElem?_eq_some_iff.mp h;rw[qgb rfl h1,h2]
def rgF(i:Int):Nat->List D
 |0=>[]
 | n+1=>.int i::rgF (i+1) n
theorem qeD:∀(n:Nat) (lo:Int) (s:Nat),(List.range' s n).map (λi:Nat=>D.int (lo+i))=rgF (lo+s) n
 |0,_,_=>rfl
 | n+1,lo,s=>by rw[List.range'_succ,List.map_cons,qeD n lo (s+1)];show _=D.int (lo+s)::rgF (lo+s+1) n;rw[show lo+((s+1:Nat):Int)=lo+s+1 by omega]
theorem zP(lo hi:Int):zk lo hi=rgF lo (hi - lo).toNat:=by
 unfold zk;rw[List.range_eq_range',qeD]
 congr 1
 omega
end DE
namespace DE
open PySem L2
theorem qc{α β γ:Type}(x:R α)(f:α->R β)(g:β->R γ):(x.th f).th g=x.th λa=>(f a).th g:=by cases x<;>rfl
theorem qM{α:Type}(x:R α):x.th R.ok=x:=by cases x<;>rfl
section
variable{β:Type}(cl:Cl)(w:Nat)
def Jn(ρ:Env)(K:Rv×Env->R β)(r:Rv):R β:=K (r,ρ)
def kBl(ρ:Env)(K:Rv×Env->R β)(b:Bool):R β:=K (.val (.bl b),ρ)
def kBo(ρ:Env)(K:Bool×Env->R β)(b:Bool):R β:=K (b,ρ)
def qkM(ρ:Env)(K:Rv×Env->R β)(l:List D):R β:=K (.tmp l,ρ)
def kB2(op:Operator)(u:Rv)(K:Rv×Env->R β)(y:Rv×Env):R β:=(Qs op u y.1).th (Jn y.2 K)
def kB1(op:Operator)(b:E)(K:Rv×Env->R β)(x:Rv×Env):R β:=(iR cl b x.2).th (kB2 op x.1 K)
noncomputable def kNeg(K:Rv×Env->R β)(x:Rv×Env):R β:=R.th (match x.1 with
  |.val (.int i)=>.ok (.val (.int (-i)),x.2)
  |_=>.no) K
noncomputable def qla(K:Rv×Env->R β)(x:Rv×Env):R β:=R.th (match x.1 with
  |.val (.bl b)=>.ok (.val (.bl (!b)),x.2)
  |_=>.no) K
noncomputable def qlb(b:E)(K:Rv×Env->R β)(x:Rv×Env):R β:=R.th (match x.1 with
  |.val (.bl true)=>iR cl b x.2
  |.val (.bl false)=>.ok (.val (.bl false),x.2)
  |_=>.no) K
def kC2(op:CmpOp)(u:Rv)(K:Rv×Env->R β)(y:Rv×Env):R β:=(R.of (Jf op u y.1)).th (kBl y.2 K)
def kC1(op:CmpOp)(b:E)(K:Rv×Env->R β)(x:Rv×Env):R β:=(iR cl b x.2).th (kC2 op x.1 K)
def kI2(u:Rv)(K:Rv×Env->R β)(y:Rv×Env):R β:=(idxD u y.1).th (Jn y.2 K)
def kI1(b:E)(K:Rv×Env->R β)(x:Rv×Env):R β:=(iR cl b x.2).th (kI2 x.1 K)
noncomputable def kS3(v:Rv)(l:Option Int)(K:Rv×Env->R β)(h:Option Int×Env):R β:=(sliceD v l h.1).th (Jn h.2 K)
def kS2(v:Rv)(hi:O)(K:Rv×Env->R β)(l:Option Int×Env):R β:=(iO cl hi l.2).th (kS3 v l.1 K)
def kS1(lo hi:O)(K:Rv×Env->R β)(x:Rv×Env):R β:=(iO cl lo x.2).th (kS2 cl x.1 hi K)
def qlc(K:Rv×Env->R β)(x:List D×Env):R β:=if x.1.length<=sizeLine then K (.tmp x.1,x.2) else .no
noncomputable def qld(K:Rv×Env->R β)(x:List D×Env):R β:=if x.1.length<=sizeLine then K (.val (.tup x.1),x.2) else .no
def qjd(f:Str)(K:Rv×Env->R β)(x:List Ar×Env):R β:=(cl f x.1).th (Jn x.2 K)
def kF1(f:B1)(K:Rv×Env->R β)(x:Rv×Env):R β:=(f.go x.1).th (Jn x.2 K)
def kG2(f:B2)(u:Rv)(K:Rv×Env->R β)(y:Rv×Env):R β:=(f.go u y.1).th (Jn y.2 K)
def kG1(f:B2)(b:E)(K:Rv×Env->R β)(x:Rv×Env):R β:=(iR cl b x.2).th (kG2 f x.1 K)
def qle(t:Str)(K:Rv×Env->R β)(x:Rv×Env):R β:=(R.of (Zj cl.cs x.1 t)).th (kBl x.2 K)
def qkN(ρ:Env)(K:Rv×Env->R β)(d:D):R β:=K (.val d,ρ)
def qlf(x:Str)(K:Rv×Env->R β)(y:Rv×Env):R β:=(R.of (qct cl.cs y.1 x)).th (qkN y.2 K)
def qkO(f:Str)(v:Rv)(K:Rv×Env->R β)(z:List Ar×Env):R β:=(cl f (toAr v::z.1)).th (Jn z.2 K)
def qkP(v:Rv)(l:Es)(ρ:Env)(K:Rv×Env->R β)(f:Str):R β:=(iAs cl l ρ).th (qkO cl f v K)
def qkQ(x:Str)(v:Rv)(K:Rv×Env->R β)(z:List Ar×Env):R β:=(bmD x v z.1).th (Jn z.2 K)
def qkR(ρ:Env)(K:Rv×Env->R β)(z:Str):R β:=K (.val (.str z),ρ)
def qlg(K:Rv×Env->R β)(x:List D×Env):R β:=(R.of (Jg Str.empty x.1)).th (qkR x.2 K)
def qlh(ks:List Str)(K:Rv×Env->R β)(x:List D×Env):R β:=K (.val (.dct ks x.1),x.2)
noncomputable def qjN(x:Str)(v:Rv)(l:Es)(ρ:Env)(K:Rv×Env->R β)(o:Option Str):R β:=match o with
 |some f=>qkP cl v l ρ K f
 |none=>(iAs cl l ρ).th (qkQ x v K)
def qkS(x:Str)(l:Es)(K:Rv×Env->R β)(y:Rv×Env):R β:=qjN cl x y.1 l y.2 K (mtD cl.cs y.1 x)
def qli(f:Str)(K:Rv×Env->R β)(x:List Ar×Env):R β:=(cl.nw f x.1).th (Jn x.2 K)
def qlj(t:Ty)(K:Rv×Env->R β)(x:Rv×Env):R β:=(R.of (t.go x.1)).th (kBl x.2 K)
noncomputable def qje(e:E)(tg:Tg)(c:F)(n:Nat)(fr:List Nat)(K:Rv×Env->R β)(x:List D×Env):R β:=if x.1.length<=sizeLine then (zB cl e tg c x.1 (qae n fr x.2) []).th (qkM x.2 K) else .no
def kTn(K:Bool×Env->R β)(t:Bool×Env):R β:=K (!t.1,t.2)
noncomputable def kTa(b:T)(K:Bool×Env->R β)(t:Bool×Env):R β:=if t.1=true then (iT cl b t.2).th K else K (false,t.2)
noncomputable def kTo(b:T)(K:Bool×Env->R β)(t:Bool×Env):R β:=if t.1=true then K (true,t.2) else (iT cl b t.2).th K
def kD2(op:CmpOp)(u:Rv)(K:Bool×Env->R β)(y:Rv×Env):R β:=(R.of (Jf op u y.1)).th (kBo y.2 K)
def kD1(op:CmpOp)(b:E)(K:Bool×Env->R β)(x:Rv×Env):R β:=(iR cl b x.2).th (kD2 op x.1 K)
def kTv(K:Bool×Env->R β)(x:Rv×Env):R β:=(R.of (truthD x.1)).th (kBo x.2 K)
def kE2(d:D)(K:List D×Env->R β)(y:List D×Env):R β:=K (d::y.1,y.2)
def kE1(l:Es)(K:List D×Env->R β)(x:D×Env):R β:=(iEs cl l x.2).th (kE2 x.1 K)
def kA2(v:Rv)(K:List Ar×Env->R β)(y:List Ar×Env):R β:=K (toAr v::y.1,y.2)
def kA1(l:Es)(K:List Ar×Env->R β)(x:Rv×Env):R β:=(iAs cl l x.2).th (kA2 x.1 K)
noncomputable def kO(K:Option Int×Env->R β)(x:Rv×Env):R β:=R.th (match x.1 with
  |.val (.int i)=>.ok (some i,x.2)
  |_=>.no) K
def qlk(K:List D×Env->R β)(x:(Sk×List D)×Env):R β:=K (x.1.2,x.2)
noncomputable def qll(K:List D×Env->R β)(x:Rv×Env):R β:=R.th (match x.1.int? with
  |some n=>if zl n=true then .ok (zk 0 n,x.2) else .no
  |none=>.no) K
noncomputable def kEnum(K:List D×Env->R β)(x:(Sk×List D)×Env):R β:=R.th (match x.1.1 with |.lst=>.ok (Qu x.1.2,x.2) |_=>.no) K
noncomputable def kZ2(x:Sk×List D)(K:List D×Env->R β)(y:(Sk×List D)×Env):R β:=R.th (match x.1,y.1.1 with |.lst,.lst=>.ok (qax x.2 y.1.2,y.2) |_,_=>.no) K
def kZ1(b:E)(K:List D×Env->R β)(x:(Sk×List D)×Env):R β:=(jo b (iR cl b) x.2).th (kZ2 x.1 K)
def qcw(K:D×Env->R β)(x:Rv×Env):R β:=(qbx x).th K
def QD(K:(Sk×List D)×Env->R β)(x:Rv×Env):R β:=(qfA x).th K
noncomputable def kX(K:Rv->R β)(x:Rv×Env):R β:=R.th (match x.1 with
  |.val d=>.ok (.val d)
  |.tmp l=>.ok (.tmp l)
  |_=>.no) K
def kAv(K:Sl×Env->R β)(x:D×Env):R β:=K (.val x.1,x.2)
noncomputable def kAx(K:Sl×Env->R β)(x:Rv×Env):R β:=R.th (match x.1 with
  |.val d=>.ok (.val d,x.2)
  |.tmp l=>.ok (.own l,x.2)
  |_=>.no) K
def qgc{α:Type}(s:Sl)(K:α×Env->R β)(x:α×Env):R β:=K (x.1,s::x.2)
def oGo(o:Option (List D))(x:R β):R β:=match o with
 |none=>.no
 |some _=>x
noncomputable def qgd(i:Nat)(d:D)(ρ:Env)(K:Fl->R β)(o:Option (List D)):R β:=R.th (match o with
   |some l=>if l.length < sizeLine then .ok (.next (ρ.set i (.own (l++[d])))) else .no
   |none=>.no) K
def qlm(i:Nat)(K:Fl->R β)(y:D×Env):R β:=qgd i y.1 y.2 K (jd y.2 i)
def kRt(K:Fl->R β)(r:Rv):R β:=K (.ret r)
def qln(i:Nat)(K:Fl->R β)(s:Sl×Env):R β:=K (.next (s.2.set i s.1))
def kNx(K:Fl->R β)(ρ:Env):R β:=K (.next ρ)
def kST(tg:Tg)(K:Fl->R β)(x:D×Env):R β:=(tg.go x.1 x.2).th (kNx K)
noncomputable def qlo(a b:Ss)(K:Fl->R β)(t:Bool×Env):R β:=if t.1=true then (iSs cl w a t.2).th K else (iSs cl w b t.2).th K
def qlp(tg:Tg)(b:Ss)(K:Fl->R β)(x:List D×Env):R β:=(Jm cl w tg b x.1 x.2).th K
def qge(l:Ss)(K:Fl->R β)(f:Fl):R β:=(qdC f λρ1=>iSs cl w l ρ1).th K
def qjO(tg:Tg)(b:Ss)(l:List D)(K:Fl->R β)(f:Fl):R β:=(qdC f λρ1=>Jm cl w tg b l ρ1).th K
def qlq(tg:Tg)(b:Ss)(l:List D)(K:Fl->R β)(ρ:Env):R β:=(iSs cl w b ρ).th (qjO cl w tg b l K)
noncomputable def kP3(e:E)(tg:Tg)(c:F)(l acc:List D)(K:List D->R β)(x:D×Env):R β:=if acc.length < sizeLine then (zB cl e tg c l x.2 (acc++[x.1])).th K else .no
noncomputable def kP2(e:E)(tg:Tg)(c:F)(l acc:List D)(K:List D->R β)(t:Bool×Env):R β:=if t.1=true then (qZ e (iR cl e) t.2).th (kP3 cl e tg c l acc K) else (zB cl e tg c l t.2 acc).th K
noncomputable def kP1(e:E)(tg:Tg)(c:F)(l acc:List D)(K:List D->R β)(ρ:Env):R β:=(iF cl c ρ).th (kP2 cl e tg c l acc K)
theorem je{α:Type}{c:Prop}[Decidable c](x y:R α)(K:α->R β):(if c then x else y).th K=if c then x.th K else y.th K:=by split<;>rfl
theorem qD{α:Type}(x:R α){f g:α->R β}(h:∀a,f a=g a):x.th f=x.th g:=by cases x<;>first | rfl | exact h _
section
variable(ρ:Env)(K:Rv×Env->R β)
theorem xR_var(i:Nat):(iR cl (.var i) ρ).th K=(slR ρ i).th (Jn ρ K):=(qc (slR ρ i) _ _)
theorem xR_con(d:D):(iR cl (.con d) ρ).th K=K (.val d,ρ):=(rfl)
theorem xR_bin(op:Operator)(a b:E):(iR cl (.bin op a b) ρ).th K=(iR cl a ρ).th (kB1 cl op b K):=by rw[qiM,qc];refine qD _ λx=>?_;rw[qc];refine qD _ λy=>?_;rw[qc];rfl
theorem xR_not(a:E):(iR cl (.not a) ρ).th K=(iR cl a ρ).th (qla K):=by rw[qiN,qc];rfl
theorem xR_one(a:E):(iR cl (.one a) ρ).th K=(iR cl a ρ).th K:=(rfl)
theorem xR_and(a b:E):(iR cl (.and a b) ρ).th K=(iR cl a ρ).th (qlb cl b K):=by rw[qiO,qc];rfl
theorem xR_cmp(op:CmpOp)(a b:E):(iR cl (.cmp op a b) ρ).th K=(iR cl a ρ).th (kC1 cl op b K):=by rw[qiP,qc];refine qD _ λx=>?_;rw[qc];refine qD _ λy=>?_;rw[qc];rfl
theorem xR_idx(a b:E):(iR cl (.idx a b) ρ).th K=(iR cl a ρ).th (kI1 cl b K):=by rw[qiQ,qc];refine qD _ λx=>?_;rw[qc];refine qD _ λy=>?_;rw[qc];rfl
theorem xR_sli(a:E)(lo hi:O):(iR cl (.sli a lo hi) ρ).th K=(iR cl a ρ).th (kS1 cl lo hi K):=by rw[qiR,qc];refine qD _ λx=>?_;rw[qc];refine qD _ λy=>?_;rw[qc];refine qD _ λz=>?_;rw[qc];rfl
theorem xR_lst(l:Es):(iR cl (.lst l) ρ).th K=(iEs cl l ρ).th (qlc K):=by rw[qiS,qc];refine qD _ λx=>?_;rw[je];rfl
theorem xR_tup(l:Es):(iR cl (.tup l) ρ).th K=(iEs cl l ρ).th (qld K):=by rw[qiT,qc];refine qD _ λx=>?_;rw[je];rfl
theorem xR_call(f:Str)(l:Es):(iR cl (.call f l) ρ).th K=(iAs cl l ρ).th (qjd cl f K):=by rw[qf8,qc];refine qD _ λx=>?_;rw[qc];rfl
theorem xR_b1(f:B1)(a:E):(iR cl (.b1 f a) ρ).th K=(iR cl a ρ).th (kF1 f K):=by rw[qkG,qc];refine qD _ λx=>?_;rw[qc];rfl
theorem xR_b2(f:B2)(a b:E):(iR cl (.b2 f a b) ρ).th K=(iR cl a ρ).th (kG1 cl f b K):=by rw[qkH,qc];refine qD _ λx=>?_;rw[qc];refine qD _ λy=>?_;rw[qc];rfl
theorem xR_isc(t:Str)(a:E):(iR cl (.isc t a) ρ).th K=(iR cl a ρ).th (qle cl t K):=by rw[qiV,qc];refine qD _ λx=>?_;rw[qc];rfl
theorem xR_fld(a:E)(x:Str):(iR cl (.fld a x) ρ).th K=(iR cl a ρ).th (qlf cl x K):=by rw[qiW,qc];refine qD _ λy=>?_;rw[qc];rfl
theorem xR_met(a:E)(x:Str)(l:Es):(iR cl (.met a x l) ρ).th K=(iR cl a ρ).th (qkS cl x l K):=by
 rw[qiZ,qc];refine qD _ λy=>?_;unfold qkS
 cases mtD cl.cs y.1 x with
 |some f=>unfold goM;rw[qc];refine qD _ λz=>?_;rw[qc];rfl
 |none=>unfold goM;rw[qc];refine qD _ λz=>?_;rw[qc];rfl
theorem xR_fst(l:Es):(iR cl (.fst l) ρ).th K=(iEs cl l ρ).th (qlg K):=by rw[qiX,qc];refine qD _ λx=>?_;rw[qc];rfl
theorem xR_dct(ks:List Str)(l:Es):(iR cl (.dct ks l) ρ).th K=(iEs cl l ρ).th (qlh ks K):=by rw[qiY,qc];rfl
theorem xR_new(f:Str)(l:Es):(iR cl (.new f l) ρ).th K=(iAs cl l ρ).th (qli cl f K):=by rw[qi0,qc];refine qD _ λx=>?_;rw[qc];rfl
theorem xR_isi(t:Ty)(a:E):(iR cl (.isi t a) ρ).th K=(iR cl a ρ).th (qlj t K):=by rw[qiU,qc];refine qD _ λx=>?_;rw[qc];rfl
theorem xR_comp(e:E)(src:I)(tg:Tg)(c:F)(n:Nat)(fr:List Nat):(iR cl (.comp e src tg c n fr) ρ).th K=(iI cl src ρ).th (qje cl e tg c n fr K):=by rw[qf9,qc];refine qD _ λx=>?_;rw[je,qc];rfl
end
section
variable(ρ:Env)(K:Rv×Env->R β)(v u:Rv)
theorem yRet:Jn ρ K v=K (v,ρ):=(rfl)
theorem yBl(b:Bool):kBl ρ K b=K (.val (.bl b),ρ):=(rfl)
theorem yTmp(l:List D):qkM ρ K l=K (.tmp l,ρ):=(rfl)
theorem yB1(op:Operator)(b:E):kB1 cl op b K (v,ρ)=(iR cl b ρ).th (kB2 op v K):=(rfl)
theorem yB2(op:Operator):kB2 op u K (v,ρ)=(Qs op u v).th (Jn ρ K):=(rfl)
theorem yNot(b:Bool):qla K (.val (.bl b),ρ)=K (.val (.bl (!b)),ρ):=(rfl)
theorem yAnd(b:E)(t:Bool):qlb cl b K (.val (.bl t),ρ)=if t=true then (iR cl b ρ).th K else K (.val (.bl false),ρ):=by cases t<;>rfl
theorem yC1(op:CmpOp)(b:E):kC1 cl op b K (v,ρ)=(iR cl b ρ).th (kC2 op v K):=(rfl)
theorem yC2(op:CmpOp):kC2 op u K (v,ρ)=(R.of (Jf op u v)).th (kBl ρ K):=(rfl)
theorem yI1(b:E):kI1 cl b K (v,ρ)=(iR cl b ρ).th (kI2 v K):=(rfl)
theorem yI2:kI2 u K (v,ρ)=(idxD u v).th (Jn ρ K):=(rfl)
theorem yS1(lo hi:O):kS1 cl lo hi K (v,ρ)=(iO cl lo ρ).th (kS2 cl v hi K):=(rfl)
theorem yS2(hi:O)(l:Option Int):kS2 cl v hi K (l,ρ)=(iO cl hi ρ).th (kS3 v l K):=(rfl)
theorem yS3(l h:Option Int):kS3 v l K (h,ρ)=(sliceD v l h).th (Jn ρ K):=(rfl)
theorem yLst(l:List D):qlc K (l,ρ)=if l.length<=sizeLine then K (.tmp l,ρ) else .no:=(rfl)
theorem yTup(l:List D):qld K (l,ρ)=if l.length<=sizeLine then K (.val (.tup l),ρ) else .no:=(rfl)
theorem yCall(f:Str)(l:List Ar):qjd cl f K (l,ρ)=(cl f l).th (Jn ρ K):=(rfl)
theorem yF1(f:B1):kF1 f K (v,ρ)=(f.go v).th (Jn ρ K):=(rfl)
theorem yG1(f:B2)(b:E):kG1 cl f b K (v,ρ)=(iR cl b ρ).th (kG2 f v K):=(rfl)
theorem yG2(f:B2):kG2 f u K (v,ρ)=(f.go u v).th (Jn ρ K):=(rfl)
theorem yIsc(t:Str):qle cl t K (v,ρ)=(R.of (Zj cl.cs v t)).th (kBl ρ K):=(rfl)
theorem yDat(d:D):qkN ρ K d=K (.val d,ρ):=(rfl)
theorem yFld(x:Str):qlf cl x K (v,ρ)=(R.of (qct cl.cs v x)).th (qkN ρ K):=(rfl)
theorem yMt3(f:Str)(l:List Ar):qkO cl f v K (l,ρ)=(cl f (toAr v::l)).th (Jn ρ K):=(rfl)
theorem yMt2(f:Str)(l:Es):qkP cl v l ρ K f=(iAs cl l ρ).th (qkO cl f v K):=(rfl)
theorem yMt1(x:Str)(l:Es):qkS cl x l K (v,ρ)=qjN cl x v l ρ K (mtD cl.cs v x):=(rfl)
theorem yMtO(x:Str)(l:Es)(f:Str):qjN cl x v l ρ K (some f)=qkP cl v l ρ K f:=(rfl)
theorem yMtN(x:Str)(l:Es):qjN cl x v l ρ K none=(iAs cl l ρ).th (qkQ x v K):=(rfl)
theorem yMtI(x:Str)(l:List Ar):qkQ x v K (l,ρ)=(bmD x v l).th (Jn ρ K):=(rfl)
theorem yStr(z:Str):qkR ρ K z=K (.val (.str z),ρ):=(rfl)
theorem yFst(l:List D):qlg K (l,ρ)=(R.of (Jg Str.empty l)).th (qkR ρ K):=(rfl)
theorem yDct(ks:List Str)(l:List D):qlh ks K (l,ρ)=K (.val (.dct ks l),ρ):=(rfl)
theorem bm_s(x a:Str)(as:List Ar):bmD x (.val (.str a)) as=qcu x a as:=(rfl)
theorem yMts(cs:Cs)(z x:Str):mtD cs (.val (.str z)) x=none:=(rfl)
theorem sm_split(a b:Str):qcu "split" a [.val (.str b)]=if (b.length == 0)=false/\a.length+2<=sizeLine then .ok (.tmp ((Txt.split a b).map D.str)) else .no:=(rfl)
theorem sm_part(a b:Str):qcu "partition" a [.val (.str b)]=if (b.length == 0)=false/\a.length<=sizeLine then .ok (.val (.tup [.str (Txt.partition a b).1,.str (Txt.partition a b).2.1,.str (Txt.partition a b).2.2])) else .no:=(rfl)
theorem YM:∀zs:List Str,yD (zs.map D.str)=some zs
 |[]=>rfl
 | z::zs=>by show(yD (zs.map D.str)).map (z :: ·)=_;rw[YM zs];rfl
theorem qgf{a:Str}{zs:List Str}{ar:Ar}(h:ar=.val (.lst (zs.map D.str))\/ar=.bor (zs.map D.str))(hz:(zs.map (·.length)).sum+zs.length * a.length<=16777216):qcu "join" a [ar]=.ok (.val (.str (Txt.join a zs))):=by
 have e:qac "join" a (zs.map D.str)=.ok (.val (.str (Txt.join a zs))):=by unfold qac;rw[if_pos rfl,YM];exact if_pos hz
 rcases h with rfl | rfl
 ·exact e
 ·exact e
theorem qjf{z:Str}{n:Int}(h:PySem.intText? z=some n)(hz:z.length<=640):intD (.val (.str z))=.ok (.val (.int n)):=by show(match PySem.intText? z with |some n=>if z.length<=640 then R.ok (Rv.val (.int n)) else .no |none=>.no)=_;rw[h];exact if_pos hz
theorem ym(acc:Str):Jg acc []=some acc:=(rfl)
theorem zm{acc z:Str}{l:List D}(h1:z.length<=3000)(h2:(acc++z).length<=sizeLine):Jg acc (.str z::l)=Jg (acc++z) l:=by show((if z.length<=3000 then some z else none).bind λy=>if (acc++y).length<=sizeLine then Jg (acc++y) l else none)=_;rw[if_pos h1];exact if_pos h2
theorem yn{acc:Str}{n:Int}{l:List D}(h1:n.natAbs.log2 < 1920)(h2:(acc++Str.ofString (toString n)).length<=sizeLine):Jg acc (.int n::l)=Jg (acc++Str.ofString (toString n)) l:=by show((if n.natAbs.log2 < 1920 then some (Str.ofString (toString n)) else none).bind λy=>if (acc++y).length<=sizeLine then Jg (acc++y) l else none)=_;rw[if_pos h1];exact if_pos h2
theorem yNew(f:Str)(l:List Ar):qli cl f K (l,ρ)=(cl.nw f l).th (Jn ρ K):=(rfl)
theorem yIsi(t:Ty):qlj t K (v,ρ)=(R.of (t.go v)).th (kBl ρ K):=(rfl)
theorem yComp(e:E)(tg:Tg)(c:F)(n:Nat)(fr:List Nat)(l:List D):qje cl e tg c n fr K (l,ρ)=if l.length<=sizeLine then (zB cl e tg c l (qae n fr ρ) []).th (qkM ρ K) else .no:=(rfl)
end
section
variable(ρ:Env)(K:Bool×Env->R β)(v u:Rv)(t:Bool)
theorem xT_not(a:T):(iT cl (.not a) ρ).th K=(iT cl a ρ).th (kTn K):=by rw[qi1,qc];rfl
theorem xT_one(a:T):(iT cl (.one a) ρ).th K=(iT cl a ρ).th K:=(rfl)
theorem xT_and(a b:T):(iT cl (.and a b) ρ).th K=(iT cl a ρ).th (kTa cl b K):=by rw[qi2,qc];refine qD _ λt=>?_;rw[je];rfl
theorem xT_or(a b:T):(iT cl (.or a b) ρ).th K=(iT cl a ρ).th (kTo cl b K):=by rw[qkI,qc];refine qD _ λt=>?_;rw[je];rfl
theorem xT_cmp(op:CmpOp)(a b:E):(iT cl (.cmp op a b) ρ).th K=(iR cl a ρ).th (kD1 cl op b K):=by rw[qi3,qc];refine qD _ λx=>?_;rw[qc];refine qD _ λy=>?_;rw[qc];rfl
theorem xT_val(a:E):(iT cl (.val a) ρ).th K=(iR cl a ρ).th (kTv K):=by rw[qi4,qc];refine qD _ λx=>?_;rw[qc];rfl
theorem yBo:kBo ρ K t=K (t,ρ):=(rfl)
theorem yTn:kTn K (t,ρ)=K (!t,ρ):=(rfl)
theorem yTa(b:T):kTa cl b K (t,ρ)=if t=true then (iT cl b ρ).th K else K (false,ρ):=(rfl)
theorem yTo(b:T):kTo cl b K (t,ρ)=if t=true then K (true,ρ) else (iT cl b ρ).th K:=(rfl)
theorem yD1(op:CmpOp)(b:E):kD1 cl op b K (v,ρ)=(iR cl b ρ).th (kD2 op v K):=(rfl)
theorem yD2(op:CmpOp):kD2 op u K (v,ρ)=(R.of (Jf op u v)).th (kBo ρ K):=(rfl)
theorem yTv:kTv K (v,ρ)=(R.of (truthD v)).th (kBo ρ K):=(rfl)
theorem xF_yes:(iF cl .yes ρ).th K=K (true,ρ):=(rfl)
theorem xF_test(c:T):(iF cl (.test c) ρ).th K=(iT cl c ρ).th K:=(rfl)
end
section
variable(ρ:Env)
theorem xEs_nil(K:List D×Env->R β):(iEs cl .nil ρ).th K=K ([],ρ):=(rfl)
theorem xEs_cons(K:List D×Env->R β)(e:E)(l:Es):(iEs cl (.cons e l) ρ).th K=(qZ e (iR cl e) ρ).th (kE1 cl l K):=by rw[qdF,qc];refine qD _ λx=>?_;rw[qc];rfl
theorem yE1(K:List D×Env->R β)(l:Es)(d:D):kE1 cl l K (d,ρ)=(iEs cl l ρ).th (kE2 d K):=(rfl)
theorem yE2(K:List D×Env->R β)(d:D)(ds:List D):kE2 d K (ds,ρ)=K (d::ds,ρ):=(rfl)
theorem xAs_nil(K:List Ar×Env->R β):(iAs cl .nil ρ).th K=K ([],ρ):=(rfl)
theorem xAs_cons(K:List Ar×Env->R β)(e:E)(l:Es):(iAs cl (.cons e l) ρ).th K=(iR cl e ρ).th (kA1 cl l K):=by rw[qdG,qc];refine qD _ λx=>?_;rw[qc];rfl
theorem yA1(K:List Ar×Env->R β)(l:Es)(v:Rv):kA1 cl l K (v,ρ)=(iAs cl l ρ).th (kA2 v K):=(rfl)
theorem yA2(K:List Ar×Env->R β)(v:Rv)(l:List Ar):kA2 v K (l,ρ)=K (toAr v::l,ρ):=(rfl)
theorem xO_none(K:Option Int×Env->R β):(iO cl .none ρ).th K=K (none,ρ):=(rfl)
theorem xO_some(K:Option Int×Env->R β)(e:E):(iO cl (.some e) ρ).th K=(iR cl e ρ).th (kO K):=by rw[qga,qc];rfl
theorem yO(K:Option Int×Env->R β)(i:Int):kO K (.val (.int i),ρ)=K (some i,ρ):=(rfl)
variable(K:List D×Env->R β)
theorem xI_seq(a:E):(iI cl (.seq a) ρ).th K=(jo a (iR cl a) ρ).th (qlk K):=by rw[qi5,qc];rfl
theorem xI_rng(a:E):(iI cl (.rng a) ρ).th K=(iR cl a ρ).th (qll K):=by rw[qi6,qc];rfl
theorem xI_zip(a b:E):(iI cl (.zip a b) ρ).th K=(jo a (iR cl a) ρ).th (kZ1 cl b K):=by rw[qi7,qc];refine qD _ λx=>?_;rw[qc];rfl
theorem ySeq(s:Sk)(l:List D):qlk K ((s,l),ρ)=K (l,ρ):=(rfl)
theorem yRng(n:Int):qll K (.val (.int n),ρ)=if zl n=true then K (zk 0 n,ρ) else .no:=by show R.th (if zl n=true then _ else _) K=_;rw[je];rfl
theorem yZ1(b:E)(x:Sk×List D):kZ1 cl b K (x,ρ)=(jo b (iR cl b) ρ).th (kZ2 x K):=(rfl)
theorem yZ2(l n:List D):kZ2 (.lst,l) K ((.lst,n),ρ)=K (qax l n,ρ):=(rfl)
end
section
variable(ρ:Env)(s:Sl)(i:Nat)(d:D)(l:List D)
theorem yVal(K:D×Env->R β):qcw K (.val d,ρ)=K (d,ρ):=(rfl)
theorem yValt(K:D×Env->R β):qcw K (.tmp l,ρ)=K (.lst l,ρ):=(rfl)
theorem yValL(K:(Sk×List D)×Env->R β):QD K (.val (.lst l),ρ)=K ((.lst,l),ρ):=(rfl)
theorem yValLt(K:(Sk×List D)×Env->R β):QD K (.val (.tup l),ρ)=K ((.tup,l),ρ):=(rfl)
theorem yValLm(K:(Sk×List D)×Env->R β):QD K (.tmp l,ρ)=K ((.lst,l),ρ):=(rfl)
theorem yX(K:Rv->R β):kX K (.val d,ρ)=K (.val d):=(rfl)
theorem yXt(K:Rv->R β):kX K (.tmp l,ρ)=K (.tmp l):=(rfl)
theorem yAv(K:Sl×Env->R β):kAv K (d,ρ)=K (.val d,ρ):=(rfl)
theorem yAx(K:Sl×Env->R β):kAx K (.val d,ρ)=K (.val d,ρ):=(rfl)
theorem yAxt(K:Sl×Env->R β):kAx K (.tmp l,ρ)=K (.own l,ρ):=(rfl)
theorem yCons{α:Type}(K:α×Env->R β)(x:α):qgc s K (x,ρ)=K (x,s::ρ):=(rfl)
theorem xE_s(K:D×Env->R β):(slE (s::ρ) (i+1)).th K=(slE ρ i).th (qgc s K):=by rw[qkJ,qc];rfl
theorem xE_v(K:D×Env->R β):(slE (.val d::ρ) 0).th K=K (d,.val d::ρ):=(rfl)
theorem xE_o(K:D×Env->R β):(slE (.own l::ρ) 0).th K=K (.lst l,.val (.lst l)::ρ):=(rfl)
variable(K:(Sk×List D)×Env->R β)
theorem xL_s:(slL (s::ρ) (i+1)).th K=(slL ρ i).th (qgc s K):=by rw[qkK,qc];rfl
theorem xL_l:(slL (.val (.lst l)::ρ) 0).th K=K ((.lst,l),.val (.lst l)::ρ):=(rfl)
theorem xL_z(z:Str):(slL (.val (.str z)::ρ) 0).th K=K ((.str,qdc z),.val (.str z)::ρ):=(rfl)
theorem xL_o:(slL (.own l::ρ) 0).th K=K ((.lst,l),.val (.lst l)::ρ):=(rfl)
end
section
variable(ρ:Env)(K:Fl->R β)(i:Nat)
theorem oGo_some(l:List D)(x:R β):oGo (some l) x=x:=(rfl)
theorem xS_app(e:E):(iS cl w (.app i e) ρ).th K=oGo (jd ρ i) ((qZ e (iR cl e) ρ).th (qlm i K)):=by
 rw[qiH]
 cases jd ρ i with
 |none=>rfl
 |some l=>show R.th (R.th (qZ e (iR cl e) ρ) _) K=_;rw[qc];rfl
theorem yApp(d:D):qlm i K (d,ρ)=qgd i d ρ K (jd ρ i):=(rfl)
theorem yApp2(d:D)(l:List D):qgd i d ρ K (some l)=if l.length < sizeLine then K (.next (ρ.set i (.own (l++[d])))) else .no:=by show R.th (if l.length < sizeLine then _ else _) K=_;rw[je];rfl
theorem xS_ret(e:E):(iS cl w (.ret e) ρ).th K=(YA e (iR cl e) ρ).th (kRt K):=by rw[qiI,qc];rfl
theorem yRt(r:Rv):kRt K r=K (.ret r):=(rfl)
theorem xS_set(e:E):(iS cl w (.set i e) ρ).th K=(JJ e (iR cl e) ρ).th (qln i K):=by rw[qiJ,qc];rfl
theorem ySet(s:Sl):qln i K (s,ρ)=K (.next (ρ.set i s)):=(rfl)
theorem xS_setT(tg:Tg)(e:E):(iS cl w (.setT tg e) ρ).th K=(qZ e (iR cl e) ρ).th (kST tg K):=by rw[qf7,qc];refine qD _ λx=>?_;rw[qc];rfl
theorem yST(tg:Tg)(d:D):kST tg K (d,ρ)=(tg.go d ρ).th (kNx K):=(rfl)
theorem yNx:kNx K ρ=K (.next ρ):=(rfl)
theorem xS_ite(c:T)(a b:Ss):(iS cl w (.ite c a b) ρ).th K=(iT cl c ρ).th (qlo cl w a b K):=by rw[qiK,qc];refine qD _ λt=>?_;rw[je];rfl
theorem yIte(a b:Ss)(t:Bool):qlo cl w a b K (t,ρ)=if t=true then (iSs cl w a ρ).th K else (iSs cl w b ρ).th K:=(rfl)
theorem xS_for(tg:Tg)(src:I)(b:Ss):(iS cl w (.for_ tg src b) ρ).th K=(iI cl src ρ).th (qlp cl w tg b K):=by rw[qiL,qc];rfl
theorem yFor(tg:Tg)(b:Ss)(l:List D):qlp cl w tg b K (l,ρ)=(Jm cl w tg b l ρ).th K:=(rfl)
theorem xSs_nil:(iSs cl w .nil ρ).th K=K (.next ρ):=(rfl)
theorem xSs_cons(s:S)(l:Ss):(iSs cl w (.cons s l) ρ).th K=(iS cl w s ρ).th (qge cl w l K):=by rw[qdE,qc];rfl
theorem yNext(l:Ss):qge cl w l K (.next ρ)=(iSs cl w l ρ).th K:=(rfl)
theorem yNextr(l:Ss)(r:Rv):qge cl w l K (.ret r)=K (.ret r):=(rfl)
theorem xFo_cons(tg:Tg)(b:Ss)(d:D)(l:List D):(Jm cl w tg b (d::l) ρ).th K=(tg.go d ρ).th (qlq cl w tg b l K):=by rw[qbR,qc,qc];refine qD _ λρ2=>?_;rfl
theorem yFo1(tg:Tg)(b:Ss)(l:List D):qlq cl w tg b l K ρ=(iSs cl w b ρ).th (qjO cl w tg b l K):=(rfl)
theorem yFo2(tg:Tg)(b:Ss)(l:List D):qjO cl w tg b l K (.next ρ)=(Jm cl w tg b l ρ).th K:=(rfl)
theorem yFo2r(tg:Tg)(b:Ss)(l:List D)(r:Rv):qjO cl w tg b l K (.ret r)=K (.ret r):=(rfl)
end
section
variable(ρ:Env)(K:List D->R β)(e:E)(tg:Tg)(c:F)(l acc:List D)(d:D)
theorem xP_cons:(zB cl e tg c (d::l) ρ acc).th K=(tg.go d ρ).th (kP1 cl e tg c l acc K):=by
 rw[qak,qc];refine qD _ λρ1=>?_;rw[qc];refine qD _ λbt=>?_;rw[je,qc];show(if bt.1=true then _ else _)=(if bt.1=true then _ else _)
 by_cases h:bt.1=true
 ·rw[if_pos h,if_pos h];refine qD _ λx=>?_;rw[je];rfl
 ·rw[if_neg h,if_neg h]
theorem yP1:kP1 cl e tg c l acc K ρ=(iF cl c ρ).th (kP2 cl e tg c l acc K):=(rfl)
theorem yP2(t:Bool):kP2 cl e tg c l acc K (t,ρ)=if t=true then (qZ e (iR cl e) ρ).th (kP3 cl e tg c l acc K) else (zB cl e tg c l ρ acc).th K:=(rfl)
theorem yP3:kP3 cl e tg c l acc K (d,ρ)=if acc.length < sizeLine then (zB cl e tg c l ρ (acc++[d])).th K else .no:=(rfl)
end
end
section
variable{β:Type}(r:Env->R (Rv×Env))(ρ:Env)
theorem eE_bin(K:D×Env->R β)(op:Operator)(a b:E):(qZ (.bin op a b) r ρ).th K=(r ρ).th (qcw K):=by rw[show qZ (.bin op a b) r ρ=(r ρ).th qbx from rfl,qc];rfl
theorem eL_bin(K:(Sk×List D)×Env->R β)(op:Operator)(a b:E):(jo (.bin op a b) r ρ).th K=(r ρ).th (QD K):=by rw[show jo (.bin op a b) r ρ=(r ρ).th qfA from rfl,qc];rfl
theorem eX_bin(K:Rv->R β)(op:Operator)(a b:E):(YA (.bin op a b) r ρ).th K=(r ρ).th (kX K):=qc (r ρ) _ _
theorem eA_bin(K:Sl×Env->R β)(op:Operator)(a b:E):(JJ (.bin op a b) r ρ).th K=(r ρ).th (kAx K):=qc (r ρ) _ _
theorem eX_and(K:Rv->R β)(a b:E):(YA (.and a b) r ρ).th K=(r ρ).th (kX K):=qc (r ρ) _ _
theorem eX_cmp(K:Rv->R β)(op:CmpOp)(a b:E):(YA (.cmp op a b) r ρ).th K=(r ρ).th (kX K):=qc (r ρ) _ _
theorem eE_idx(K:D×Env->R β)(a b:E):(qZ (.idx a b) r ρ).th K=(r ρ).th (qcw K):=by rw[show qZ (.idx a b) r ρ=(r ρ).th qbx from rfl,qc];rfl
theorem eL_idx(K:(Sk×List D)×Env->R β)(a b:E):(jo (.idx a b) r ρ).th K=(r ρ).th (QD K):=by rw[show jo (.idx a b) r ρ=(r ρ).th qfA from rfl,qc];rfl
theorem eX_idx(K:Rv->R β)(a b:E):(YA (.idx a b) r ρ).th K=(r ρ).th (kX K):=qc (r ρ) _ _
theorem eA_sli(K:Sl×Env->R β)(a:E)(lo hi:O):(JJ (.sli a lo hi) r ρ).th K=(r ρ).th (kAx K):=qc (r ρ) _ _
theorem eE_lst(K:D×Env->R β)(l:Es):(qZ (.lst l) r ρ).th K=(r ρ).th (qcw K):=by rw[show qZ (.lst l) r ρ=(r ρ).th qbx from rfl,qc];rfl
theorem eX_lst(K:Rv->R β)(l:Es):(YA (.lst l) r ρ).th K=(r ρ).th (kX K):=qc (r ρ) _ _
theorem eA_lst(K:Sl×Env->R β)(l:Es):(JJ (.lst l) r ρ).th K=(r ρ).th (kAx K):=qc (r ρ) _ _
theorem eE_fst(K:D×Env->R β)(l:Es):(qZ (.fst l) r ρ).th K=(r ρ).th (qcw K):=by rw[show qZ (.fst l) r ρ=(r ρ).th qbx from rfl,qc];rfl
theorem eX_fst(K:Rv->R β)(l:Es):(YA (.fst l) r ρ).th K=(r ρ).th (kX K):=qc (r ρ) _ _
theorem eA_dct(K:Sl×Env->R β)(ks:List Str)(l:Es):(JJ (.dct ks l) r ρ).th K=(r ρ).th (kAx K):=qc (r ρ) _ _
theorem eE_tup(K:D×Env->R β)(l:Es):(qZ (.tup l) r ρ).th K=(r ρ).th (qcw K):=by rw[show qZ (.tup l) r ρ=(r ρ).th qbx from rfl,qc];rfl
theorem eX_tup(K:Rv->R β)(l:Es):(YA (.tup l) r ρ).th K=(r ρ).th (kX K):=qc (r ρ) _ _
theorem eE_call(K:D×Env->R β)(f:Str)(l:Es):(qZ (.call f l) r ρ).th K=(r ρ).th (qcw K):=by rw[show qZ (.call f l) r ρ=(r ρ).th qbx from rfl,qc];rfl
theorem eX_call(K:Rv->R β)(f:Str)(l:Es):(YA (.call f l) r ρ).th K=(r ρ).th (kX K):=qc (r ρ) _ _
theorem eA_call(K:Sl×Env->R β)(f:Str)(l:Es):(JJ (.call f l) r ρ).th K=(r ρ).th (kAx K):=qc (r ρ) _ _
theorem eX_b1(K:Rv->R β)(f:B1)(a:E):(YA (.b1 f a) r ρ).th K=(r ρ).th (kX K):=qc (r ρ) _ _
theorem eE_isc(K:D×Env->R β)(t:Str)(a:E):(qZ (.isc t a) r ρ).th K=(r ρ).th (qcw K):=by rw[show qZ (.isc t a) r ρ=(r ρ).th qbx from rfl,qc];rfl
theorem eL_fld(K:(Sk×List D)×Env->R β)(a:E)(x:Str):(jo (.fld a x) r ρ).th K=(r ρ).th (QD K):=by rw[show jo (.fld a x) r ρ=(r ρ).th qfA from rfl,qc];rfl
theorem eA_fld(K:Sl×Env->R β)(a:E)(x:Str):(JJ (.fld a x) r ρ).th K=(r ρ).th (kAx K):=qc (r ρ) _ _
theorem eE_met(K:D×Env->R β)(a:E)(x:Str)(l:Es):(qZ (.met a x l) r ρ).th K=(r ρ).th (qcw K):=by rw[show qZ (.met a x l) r ρ=(r ρ).th qbx from rfl,qc];rfl
theorem eL_met(K:(Sk×List D)×Env->R β)(a:E)(x:Str)(l:Es):(jo (.met a x l) r ρ).th K=(r ρ).th (QD K):=by rw[show jo (.met a x l) r ρ=(r ρ).th qfA from rfl,qc];rfl
theorem eA_met(K:Sl×Env->R β)(a:E)(x:Str)(l:Es):(JJ (.met a x l) r ρ).th K=(r ρ).th (kAx K):=qc (r ρ) _ _
theorem eX_new(K:Rv->R β)(f:Str)(l:Es):(YA (.new f l) r ρ).th K=(r ρ).th (kX K):=qc (r ρ) _ _
theorem eA_comp(K:Sl×Env->R β)(e:E)(src:I)(tg:Tg)(c:F)(n:Nat)(fr:List Nat):(JJ (.comp e src tg c n fr) r ρ).th K=(r ρ).th (kAx K):=qc (r ρ) _ _
theorem eE_var(K:D×Env->R β)(i:Nat):(qZ (.var i) r ρ).th K=(slE ρ i).th K:=(rfl)
theorem eE_con(K:D×Env->R β)(d:D):(qZ (.con d) r ρ).th K=K (d,ρ):=(rfl)
theorem eL_var(K:(Sk×List D)×Env->R β)(i:Nat):(jo (.var i) r ρ).th K=(slL ρ i).th K:=(rfl)
theorem eX_var(K:Rv->R β)(i:Nat):(YA (.var i) r ρ).th K=(slX ρ i).th K:=(rfl)
theorem eX_con(K:Rv->R β)(d:D):(YA (.con d) r ρ).th K=K (.val d):=(rfl)
theorem eA_var(K:Sl×Env->R β)(i:Nat):(JJ (.var i) r ρ).th K=(slE ρ i).th (kAv K):=qc (slE ρ i) _ _
theorem eA_con(K:Sl×Env->R β)(d:D):(JJ (.con d) r ρ).th K=K (.val d,ρ):=(rfl)
end
theorem bAdd(a b:Int):Qs .Add (.val (.int a)) (.val (.int b))=.ok (.val (.int (a+b))):=(rfl)
theorem bAdds(a b:Str):Qs .Add (.val (.str a)) (.val (.str b))=if a.length+b.length<=sizeLine then .ok (.val (.str (a++b))) else .no:=(rfl)
theorem bAddtt(a b:List D):Qs .Add (.tmp a) (.tmp b)=if a.length+b.length<=sizeLine then .ok (.tmp (a++b)) else .no:=(rfl)
theorem bAddct(a b:List D):Qs .Add (.cell a) (.tmp b)=if a.length+b.length<=sizeLine then .ok (.tmp (a++b)) else .no:=(rfl)
theorem bSub(a b:Int):Qs .Sub (.val (.int a)) (.val (.int b))=.ok (.val (.int (a - b))):=(rfl)
theorem bMult(a b:Int):Qs .Mult (.val (.int a)) (.val (.int b))=if qab a b=true then .ok (.val (.int (a * b))) else .no:=(rfl)
theorem bDiv(a b:Int):Qs .FloorDiv (.val (.int a)) (.val (.int b))=if 0 < b/\b < 1073741824 then .ok (.val (.int (a / b))) else .no:=(rfl)
theorem bMod(a b:Int):Qs .Mod (.val (.int a)) (.val (.int b))=if 0 < b then .ok (.val (.int (a % b))) else .no:=(rfl)
theorem bPow(a b:Int):Qs .Pow (.val (.int a)) (.val (.int b))=if 0<=b/\b<=1000000/\a.natAbs < 2 ^ 64 then .ok (.val (.int (a ^ b.toNat))) else .no:=(rfl)
theorem cEq(x y:Rv):Jf .Eq x y=eqD x.data y.data:=(rfl)
theorem cNe(x y:Rv):Jf .NotEq x y=(eqD x.data y.data).map (!·):=(rfl)
theorem cLt(a b:Int):Jf .Lt (.val (.int a)) (.val (.int b))=some (decide (a < b)):=(rfl)
theorem cLe(a b:Int):Jf .LtE (.val (.int a)) (.val (.int b))=some (decide (a<=b)):=(rfl)
theorem cGt(a b:Int):Jf .Gt (.val (.int a)) (.val (.int b))=some (decide (b < a)):=(rfl)
theorem cIn(x y:Rv):Jf .In x y=qcs x y:=(rfl)
theorem cNi(x y:Rv):Jf .NotIn x y=(qcs x y).map (!·):=(rfl)
theorem mIn(a b:Str):qcs (.val (.str a)) (.val (.str b))=some (qcr a b):=(rfl)
theorem rgoV(i:Nat)(d:D)(ρ:Env):Tg.go (.one i) d ρ=.ok (ρ.set i (.val d)):=(rfl)
theorem rgoT(l:List Nat)(ds:List D)(ρ:Env):Tg.go (.many l) (.tup ds) ρ=JI l ds ρ:=(rfl)
theorem setIs_nil(ρ:Env):JI [] [] ρ=.ok ρ:=(rfl)
theorem setIs_cons(i:Nat)(l:List Nat)(d:D)(ds:List D)(ρ:Env):JI (i::l) (d::ds) ρ=JI l ds (ρ.set i (.val d)):=(rfl)
end DE
namespace DE
open PySem L2
section
variable{α β:Type}(f:α->β)(a b:α)(l m:List α)(n:Nat)
theorem g_mapc:List.map f (a::l)=f a::List.map f l:=(rfl)
theorem g_mapn:List.map f []=[]:=(rfl)
theorem g_lenc:(a::l).length=l.length+1:=(rfl)
theorem g_lenn:([]:List α).length=0:=(rfl)
theorem g_rep0:List.replicate 0 a=[]:=(rfl)
theorem g_reps:List.replicate (n+1) a=a::List.replicate n a:=(rfl)
theorem g_appc:(a::l)++m=a::(l++m):=(rfl)
theorem g_appn:[]++m=m:=(rfl)
theorem g_set0:(a::l).set 0 b=b::l:=(rfl)
theorem g_sets:(a::l).set (n+1) b=a::l.set n b:=(rfl)
theorem g_nott:(!true)=false:=(rfl)
theorem g_notf:(!false)=true:=(rfl)
theorem g_omap:Option.map f (some a)=some (f a):=(rfl)
theorem g_fe:(false=true)=False:=Bool.false_eq_true
theorem g_and(p:Prop):(p/\p)=p:=and_self p
theorem g_df(h:Decidable False):@decide False h=false:=decide_false ..
end
def aL(b:Bool)(l:List D):Ar:=match b with
 |true=>.bor l
 |false=>.val (.lst l)
def rA(b:Bool)(l:List D):Rv:=match b with
 |true=>.cell l
 |false=>.val (.lst l)
def pS(b:Bool)(l:List D):Sl:=match b with
 |true=>.bor l
 |false=>.val (.lst l)
section
variable{β:Type}(b:Bool)(l:List D)(ρ:DE.Env)
theorem sA_p:toSl (aL b l)=pS b l:=by cases b<;>rfl
theorem sA_R:slR (pS b l::ρ) 0=.ok (rA b l):=by cases b<;>rfl
theorem sA_L(K:(Sk×List D)×DE.Env->R β):(slL (pS b l::ρ) 0).th K=K ((.lst,l),pS b l::ρ):=by cases b<;>rfl
theorem rA_l:(rA b l).list?=some l:=by cases b<;>rfl
theorem rA_s:(rA b l).str?=none:=by cases b<;>rfl
theorem rA_t:(rA b l).tup?=none:=by cases b<;>rfl
theorem rA_y:Ty.list.go (rA b l)=some true:=by cases b<;>rfl
end
noncomputable abbrev RW(pg:Pg)(f:Str)(c:Nat×Nat×Ss):Prop:=∀(k:Nat) (args:List Ar),clK pg (k+1) f args=runD (pg.kk k) 1000 c args
noncomputable abbrev USs(b c:Ss):Prop:=∀{β:Type} (cl:Cl) (w:Nat) (ρ:DE.Env) (K:Fl->R β),(iSs cl w b ρ).th K=(iSs cl w c ρ).th K
noncomputable abbrev UE(b c:E):Prop:=∀{β:Type} (cl:Cl) (ρ:DE.Env) (K:D×DE.Env->R β),(qZ b (iR cl b) ρ).th K=(qZ c (iR cl c) ρ).th K
end DE
namespace DG
open PySem L2 DE
def qgg:Stmt->List Stmt
 |.ClassDef _ _ _ b _ _ _ _ _ _ _=>b
 |_=>[]
def rk(c:Str):Bool:=c == "Within" || c == "Since" || c == "InRow"
noncomputable def pcs:Cs where
 tab:=["Within","Since","InRow","Book"]
 fld:=λc x=>(rk c&&(x == "lands" || x == "most" || (x == "span" && c == "Within")||(x == "leave" && c != "Within")))||(c == "Book" && (x == "kept_rules" || x == "kept_papers"))
 mt:=λc x=>if rk c&&x == "weight" then some "Rule.weight" else if c == "Book" && x == "rules" then some "Book.rules" else if c == "Book" && x == "lifted" then some "Book.lifted" else if c == "Book" && x == "papers" then some "Book.papers" else none
 sub:=λc t=>if rk c&&t == "Within" then some (c == "Within") else if rk c&&t == "Since" then some (c != "Within") else none
noncomputable def QE(s:Str):Bool:=decide (1<=s.length)&&decide (s.length<=8)&&s.cps.toList.all λc=>decide (97<=c)&&decide (c<=122)
noncomputable def qbS:D->Option (Str×Int)
 |.tup [.str s,.int w]=>if QE s&&decide (1<=w)&&decide (w<=9) then some (s,w) else none
 |_=>none
noncomputable def Jo:List Str->List D->Bool
 |_,[]=>true
 | acc,d::l=>match qbS d with
  |some p=>!acc.contains p.1&&Jo (acc++[p.1]) l
  |none=>false
def qu(l:List D):Bool:=decide (1<=l.length)&&decide (l.length<=6)&&Jo [] l
def btw(n a b:Int):Bool:=decide (a<=n)&&decide (n<=b)
def qkT:D->Bool
 |.ins c _ _=>rk c
 |_=>false
noncomputable def qjg(many:Int):D->Bool
 |.tup [.int o,.int a,.int b]=>btw o 0 (many - 1)&&btw a 0 1000000000&&btw b 0 1000000000&&decide (a<=b)
 |_=>false
def arL:Ar->Option (List D)
 |.val (.lst l)=>some l
 |.bor l=>some l
 |_=>none
def arI:Ar->Option Int
 |.val (.int n)=>some n
 |_=>none
noncomputable def Zy:List Ar->Option (List (Str×D))
 |[a,b]=>match arL a,arI b with
  |some l,some m=>if (qu l&&btw m 0 1000000000)=true then some [("lands",.tup l),("most",.int m)] else none
  |_,_=>none
 |_=>none
noncomputable def zQ(x:Str):List Ar->Option (List (Str×D))
 |[a,b,c]=>match arL a,arI b,arI c with
  |some l,some m,some s=>if (qu l&&btw m 0 1000000000&&btw s 1 1000000000)=true then some [("lands",.tup l),("most",.int m),(x,.int s)] else none
  |_,_,_=>none
 |_=>none
noncomputable def qal:List Ar->Option (List (Str×D))
 |[a,b]=>match arL a,arI b with
  |some l,some m=>if (qu l&&btw m 0 1000000000)=true then some [("lands",.tup l),("most",.int m),("leave",.int 1)] else none
  |_,_=>none
 |_=>none
noncomputable def qjh:List Ar->Option (List (Str×D))
 |[a,b]=>match arL a,arL b with
  |some l,some ps=>if ((decide (l.length<=8)&&l.all qkT)&&(decide (ps.length<=12)&&ps.all (qjg l.length)))=true then some [("kept_rules",.lst l),("kept_papers",.lst ps)] else none
  |_,_=>none
 |_=>none
noncomputable def qbT(c:Str):Option (List (Str×D))->R Rv
 |some fs=>.ok (.val (.ins c (fs.map (·.1)) (fs.map (·.2))))
 |none=>.no
noncomputable def pnw(k:Nat)(f:Str)(args:List Ar):R Rv:=if k < 12 then .no else
 if f = "Within" then qbT "Within" (zQ "span" args) else if f = "Since" then qbT "Since" (zQ "leave" args) else if f = "InRow" then qbT "InRow" (qal args) else if f = "Book" then qbT "Book" (qjh args) else .no
noncomputable def Jp:Nat×Nat×Ss:=(1,1,%[.ret (.and (.isi Ty.int (.var 0)) (.one (.not (.isi Ty.bool (.var 0)))))|0])
noncomputable def jU:Nat×Nat×Ss:=(3,3,%[.ret (.and (.call "is_whole" %[0|0]) (.and (.cmp .LtE (.var 1) (.var 0)) (.one (.cmp .LtE (.var 0) (.var 2)))))|0])
noncomputable abbrev zR:Ss:=%[.ite (.cmp .NotIn (.var 2) (.var 1)) %[.ret (.con (.bl false))|0] .nil|0]
def zo:Ss:=zR
theorem j6:USs zo zR:=λ_ _ _ _=>(rfl)
noncomputable def jV:Nat×Nat×Ss:=(2,3,%[.for_ (.one 2) (.seq (.var 0)) zo,.ret (.con (.bl true))|0])
noncomputable def YN:Nat×Nat×Ss:=(1,1,%[.ite (.not (.val (.isi Ty.str (.var 0)))) %[.ret (.con (.bl false))|0] .nil,.ret (.and (.cmp .LtE (.con (.int 1)) (.b1 .len (.var 0))) (.and (.cmp .LtE (.b1 .len (.var 0)) (.con (.int 8))) (.one (.call "is_made_of" %[0,.con (.str "abcdefghijklmnopqrstuvwxyz")|0]))))|0])
noncomputable def YO:Nat×Nat×Ss:=(1,1,%[.ite (.or (.not (.val (.isi Ty.tuple (.var 0)))) (.one (.cmp .NotEq (.b1 .len (.var 0)) (.con (.int 2))))) %[.ret (.con (.bl false))|0] .nil,.ret (.and (.call "is_name" %[.idx (.var 0) (.con (.int 0))|0]) (.one (.call "is_between" %[.idx (.var 0) (.con (.int 1)),.con (.int 1),.con (.int 9)|0])))|0])
noncomputable abbrev jf:Ss:=%[.ite (.or (.not (.val (.call "is_land" %[2|0]))) (.one (.cmp .In (.idx (.var 2) (.con (.int 0))) (.var 1)))) %[.ret (.con (.bl false))|0] .nil,.app 1 (.idx (.var 2) (.con (.int 0)))|0]
def zC:Ss:=jf
theorem yM:USs zC jf:=λ_ _ _ _=>(rfl)
noncomputable def yN:Nat×Nat×Ss:=(1,3,%[.ite (.or (.not (.val (.isi Ty.list (.var 0)))) (.or (.cmp .Lt (.b1 .len (.var 0)) (.con (.int 1))) (.one (.cmp .Gt (.b1 .len (.var 0)) (.con (.int 6)))))) %[.ret (.con (.bl false))|0] .nil,.set 1 (.lst .nil),.for_ (.one 2) (.seq (.var 0)) zC,.ret (.con (.bl true))|0])
abbrev zN:Ss:=%[.ite (.cmp .Eq (.var 2) (.var 1)) %[.ret (.var 3)|0] .nil|0]
def qN:Ss:=zN
theorem zv:USs qN zN:=λ_ _ _ _=>(rfl)
noncomputable def zD:Nat×Nat×Ss:=(2,4,%[.for_ (.many [2,3]) (.seq (.fld (.var 0) "lands")) qN,.ret (.con (.int 0))|0])
end DG
namespace FA
open PySem L2 DE DG
noncomputable def zp:Nat×Nat×Ss:=(2,2,%[.ite (.cmp .Lt (.var 1) (.b1 .len (.var 0))) %[.ret (.idx (.var 0) (.var 1))|0] .nil,.ret (.con (.int 0))|0])
class LC(pg:Pg):Prop where
 r__law_cell_at:RW pg "_law_cell_at" zp
noncomputable abbrev zS:Ss:=%[.set 9 (.bin .Add (.bin .Add (.bin .FloorDiv (.var 0) (.con (.int 64))) (.bin .Mult (.bin .Mult (.con (.int 5)) (.var 8)) (.var 8))) (.bin .Mult (.bin .Mult (.con (.int 3)) (.var 6)) (.b1 .int (.cmp .Eq (.var 8) (.var 4))))),.set 7 (.bin .Add (.var 7) (.idx (.var 2) (.bin .Mod (.var 9) (.con (.int 26)))))|0]
def qR:Ss:=zS
theorem j7:USs qR zS:=λ_ _ _ _=>(rfl)
noncomputable abbrev zT:Ss:=%[.set 7 (.con (.str "")),.for_ (.one 8) (.rng (.var 3)) qR,.app 5 (.var 7)|0]
def zq:Ss:=zT
theorem j8:USs zq zT:=λ_ _ _ _=>(rfl)
noncomputable def jW:Nat×Nat×Ss:=(2,10,%[.set 2 (.con (.str "abcdefghijklmnopqrstuvwxyz")),.set 3 (.bin .Add (.con (.int 1)) (.bin .Mod (.var 0) (.con (.int 8)))),.set 4 (.bin .Mod (.bin .FloorDiv (.var 0) (.con (.int 8))) (.var 3)),.set 5 (.lst .nil),.for_ (.one 6) (.rng (.var 1)) zq,.ret (.var 5)|0])
class LN(pg:Pg):Prop where
 r__law_lands:RW pg "_law_lands" jW
noncomputable def zE:Nat×Nat×Ss:=(1,5,%[.setT (.many [1,2,3,4]) (.var 0),.ite (.cmp .Eq (.var 1) (.con (.str "within"))) %[.ret (.new "Within" %[.b1 .list (.var 2),3,4|0])|0] .nil,.ite (.cmp .Eq (.var 1) (.con (.str "since"))) %[.ret (.new "Since" %[.b1 .list (.var 2),3,4|0])|0] .nil,.ret (.new "InRow" %[.b1 .list (.var 2),3|0])|0])
class LM(pg:Pg):Prop where
 r__law_made:RW pg "_law_made" zE
end FA
namespace DG
open PySem L2 DE
section
variable{pg:Pg}
def j9(c:Nat):Prop:=97<=c/\c < 123
theorem qgh(c:Nat)(h:j9 c):qcr ⟨#[c]⟩ "abcdefghijklmnopqrstuvwxyz" = true:=by
 have key:∀j:Fin 26,qcr ⟨#[97+j.val]⟩ "abcdefghijklmnopqrstuvwxyz" = true:=by decide+kernel
 have:=key ⟨c - 97,by unfold j9 at h;omega⟩
 rw[show 97+(c - 97)=c by unfold j9 at h;omega] at this;exact this
structure NameOk(z:Str):Prop where
 one:1<=z.cps.size
 eight:z.cps.size<=8
 lets:∀c∈z.cps.toList,j9 c
end
theorem NameOk.of{z:Str}(h:QE z=true):NameOk z:=by
 unfold QE at h;simp only[Bool.and_eq_true,decide_eq_true_eq,List.all_eq_true] at h;refine⟨h.1.1,h.1.2,λc hc=>?_⟩
 have:=h.2 c hc
 unfold j9;omega
theorem qdJ{d:D}{p:Str×Int}(h:qbS d=some p):d=.tup [.str p.1,.int p.2]/\NameOk p.1/\1<=p.2/\p.2<=9:=by
 unfold qbS at h
 split at h
 ·rename_i s w
  split at h
  ·rename_i hc;cases h;simp only[Bool.and_eq_true,decide_eq_true_eq] at hc;exact⟨rfl,NameOk.of hc.1.1,hc.1.2,hc.2⟩
  ·cases h
 ·cases h
theorem qdK(s:Str)(acc:List Str):inD (.str s) (acc.map D.str)=some (acc.contains s):=by
 have e:∀acc:List Str,inV (V.str s) (acc.map V.str)=acc.contains s:=by
  intro acc
  induction acc with
  |nil=>rfl
  |cons z l ih=>
   rw[List.map_cons,List.contains_cons,<-ih];show(eqV (V.str z) (V.str s)||_)=_
   congr 1
   exact BEq.comm
 unfold inD;rw[if_pos (by simp[y6]),show(acc.map D.str).map flV=acc.map V.str by simp[flV]];exact congrArg some (e acc)
theorem yP(s:Str)(acc:List Str):qcs (.val (.str s)) (.cell (acc.map D.str))=some (acc.contains s):=qdK s acc
end DG
namespace FA
open PySem L2 DE DG
open LC LN LM
theorem qbU{i j:Int}(h1:-(2 ^ 64) < j)(h2:j < 2 ^ 64):qab i j=true:=by unfold qab;rw[decide_eq_true h1,decide_eq_true h2];simp
theorem qeE{i j:Int}(h1:-(2 ^ 64) < i)(h2:i < 2 ^ 64):qab i j=true:=by unfold qab;rw[decide_eq_true h1,decide_eq_true h2];simp
def zU(ns:List Int)(i:Nat):Int:=ns.getD i 0
section
variable{pg:Pg}[LC pg]
theorem qbV(k:Nat)(ns:List Int)(i:Nat):clK pg (k+1) "_law_cell_at" [.scr (ns.map D.int),.val (.int (i:Int))]=.ok (.val (.int (zU ns i))):=by
 rw[r__law_cell_at]
 by_cases h:i < ns.length
 ·have h1:(i:Int) < ((ns.map D.int).length:Int):=by rw[List.length_map];omega
  have h2:atI (ns.map D.int) (i:Int)=some (.int (zU ns i)):=qkL (by simp[h,zU]);simp? only[zp,Nat.reduceAdd,Nat.reduceSub,h1,h2,decide_true]
 ·have h1:¬ (i:Int) < ((ns.map D.int).length:Int):=by rw[List.length_map];omega
  have h2:zU ns i=0:=by simp[zU,h]
  simp? only[zp,Nat.reduceAdd,Nat.reduceSub,h1,h2,decide_false]
end
theorem qji(i:Int)(h0:0<=i)(h1:i < 26):atI (Str.cps "abcdefghijklmnopqrstuvwxyz").toList i=some (97+i.toNat)/\j9 (97+i.toNat):=by
 have key:∀j:Fin 26,atI (Str.cps "abcdefghijklmnopqrstuvwxyz").toList (j.val:Int)=some (97+j.val):=by decide+kernel
 obtain⟨j,rfl⟩:=Int.eq_ofNat_of_zero_le h0;exact⟨key ⟨j,by omega⟩,by unfold j9;simp;omega⟩
theorem qdL(z:Str)(c:Nat):(z++(⟨#[c]⟩:Str)).cps.toList=z.cps.toList++[c]:=by show(z.cps ++ #[c]).toList=_;simp
noncomputable def ltr(cell at' k:Int)(j:Nat):Nat:=97+((cell / 64+5 * (j:Int) * (j:Int)+3 * k * (if ((j:Int) == at')=true then 1 else 0)) % 26).toNat
theorem qgi(cell at' k:Int)(j:Nat):j9 (ltr cell at' k j):=by unfold j9 ltr;omega
def Nm(cell at' k:Int)(j:Nat)(z:Str):Prop:=z.cps.toList=(List.range j).map (ltr cell at' k)
theorem Nm.ok{cell at' k:Int}{m:Nat}{z:Str}(h:Nm cell at' k m z)(h1:1<=m)(h8:m<=8):NameOk z:=by
 have e:z.cps.size=m:=by rw[<-Array.length_toList,h];simp
 refine⟨by omega,by omega,λc hc=>?_⟩;rw[h] at hc;obtain⟨j,_,rfl⟩:=List.mem_map.mp hc;exact qgi ..
theorem qam(cl:Cl)(v1 v3 v5 s9:Sl)(cell at' k:Int)(j:Nat)(z:Str)(hj:j < 8)(hz:z.cps.size < 8) :
  ∃s9',iSs cl 1000 qR [.val (.int cell),v1,.val (.str "abcdefghijklmnopqrstuvwxyz"),v3,.val (.int at'),v5,.val (.int k),.val (.str z),.val (.int j),s9]=.ok (.next [.val (.int cell),v1,.val (.str "abcdefghijklmnopqrstuvwxyz"),v3,.val (.int at'),v5,.val (.int k),.val (.str (z++(⟨#[ltr cell at' k j]⟩:Str))),.val (.int j),s9']):=by
 have m1:qab 5 (j:Int)=true:=qeE (2:) (2:);have m2:qab (5 * (j:Int)) (j:Int)=true:=qbU (1:) (1:);have m3:qab 3 k=true:=qeE (2:) (2:);have m4:qab (3 * k) (if ((j:Int) == at')=true then 1 else 0)=true:=qbU (by split<;>decide) (by split<;>decide);have h1:=(qji ((cell / 64+5 * j * j+3 * k * (if ((j:Int) == at')=true then 1 else 0)) % 26) (Int.emod_nonneg _ (2:)) (Int.emod_lt_of_pos _ (2:))).1
 have hl:z.length+(⟨#[ltr cell at' k j]⟩:Str).length<=sizeLine:=by show z.cps.size+1<=2 ^ 24;omega
 have h26:("abcdefghijklmnopqrstuvwxyz" : Str).length<=sizeLine:=by decide+kernel
 refine⟨.val (.int (cell / 64+5 * j * j+3 * k * (if ((j:Int) == at')=true then 1 else 0))),?_⟩;unfold ltr at hl ⊢;refine(qM _).symm.trans ?_;simp? only[j7,m1,m2,m3,m4,qQ,h1,hl,h26]
theorem qdM(cl:Cl)(v1 v3 v5:Sl)(cell at' k:Int)(n:Nat):∀(j:Nat) (z:Str) (s8 s9:Sl),j+n<=8->Nm cell at' k j z->
  ∃z' s8' s9',Jm cl 1000 (.one 8) qR (rgF (j:Int) n) [.val (.int cell),v1,.val (.str "abcdefghijklmnopqrstuvwxyz"),v3,.val (.int at'),v5,.val (.int k),.val (.str z),s8,s9]=.ok (.next [.val (.int cell),v1,.val (.str "abcdefghijklmnopqrstuvwxyz"),v3,.val (.int at'),v5,.val (.int k),.val (.str z'),s8',s9'])/\Nm cell at' k (j+n) z':=by
 induction n with
 |zero=>exactλj z s8 s9 _ hz=>⟨z,s8,s9,rfl,hz⟩
 |succ n ih=>
  intro j z s8 s9 hn hz;have sz:z.cps.size=j:=by rw[<-Array.length_toList,hz];simp
  obtain⟨t9,st⟩:=qam cl v1 v3 v5 s9 cell at' k j z (1:) (1:)
  obtain⟨z',s8',s9',ih,e1⟩:=ih (j+1) (z++(⟨#[ltr cell at' k j]⟩:Str)) (.val (.int j)) t9 (1:) (by
   unfold Nm at hz ⊢;rw[qdL,hz,List.range_succ,List.map_append]
   rfl)
  refine⟨z',s8',s9',?_,by rw[show j+(n+1)=j+1+n by omega];exact e1⟩;rw[show((j+1:Nat):Int)=(j:Int)+1 from by omega] at ih;refine(qM _).symm.trans ?_;rw[rgF];simp only[xFo_cons,rgoV,List.set_cons_succ,List.set_cons_zero,th_ok,yFo1,st,yFo2,ih]
noncomputable def Nms(cell at':Int)(m:Nat)(zs:List Str):Prop:=∀(i:Nat) (z:Str),zs[i]?=some z->Nm cell at' (i:Int) m z
theorem YQ(cl:Cl)(v1:Sl)(cell at':Int)(m:Nat)(hm:1<=m/\m<=8):∀(n:Nat) (zs:List Str) (s6 s7 s8 s9:Sl),zs.length+n < 1000->Nms cell at' m zs->
  ∃(zs':List Str) (s6' s7' s8' s9':Sl),Jm cl 1000 (.one 6) zq (rgF (zs.length:Int) n) [.val (.int cell),v1,.val (.str "abcdefghijklmnopqrstuvwxyz"),.val (.int (m:Int)),.val (.int at'),.own (zs.map D.str),s6,s7,s8,s9]=.ok (.next [.val (.int cell),v1,.val (.str "abcdefghijklmnopqrstuvwxyz"),.val (.int (m:Int)),.val (.int at'),.own (zs'.map D.str),s6',s7',s8',s9'])/\zs'.length=zs.length+n/\Nms cell at' m zs'
 |0,zs,s6,s7,s8,s9,_,hz=>⟨zs,s6,s7,s8,s9,rfl,rfl,hz⟩
 | n+1,zs,s6,s7,s8,s9,hl,hz=>by
  obtain⟨z,s8',s9',e,h1⟩:=qdM cl v1 (.val (.int (m:Int))) (.own (zs.map D.str)) cell at' (zs.length:Int) m 0 "" s8 s9 (1:) rfl;rw[Nat.zero_add] at h1
  obtain⟨zs',t6,t7,t8,t9,ih,h3,h4⟩:=YQ cl v1 cell at' m hm n (zs++[z]) (.val (.int (zs.length:Int))) (.val (.str z)) s8' s9' (by simp;omega) (λi x hx=>by
   by_cases q:i < zs.length
   ·rw[List.getElem?_append_left q] at hx;exact hz i x hx
   ·rw[List.getElem?_append_right (1:)] at hx
    have:i - zs.length=0:=by
     have:=(List.getElem?_eq_some_iff.mp hx).1
     simp at this;omega
    rw[this] at hx;simp at hx;subst hx
    have:i=zs.length:=by omega
    subst this;exact h1)
  refine⟨zs',t6,t7,t8,t9,?_,by rw[h3];simp;omega,h4⟩
  have hs:zl (m:Int)=true:=by unfold zl;simp;omega
  have hz':(zs.map D.str).length < sizeLine:=by rw[List.length_map];show _ < 2 ^ 24;omega
  rw[List.length_append,List.length_singleton,show((zs.length+1:Nat):Int)=(zs.length:Int)+1 from by omega] at ih;refine(qM _).symm.trans ?_;rw[rgF];rw[show((0:Nat):Int)=0 from rfl] at e;simp only[List.map_append,List.map_cons,List.map_nil] at ih;simp? only[j8,hs,zP,Int.sub_zero,Int.toNat_natCast,e,hz',ih]
end FA
namespace K12
open PySem L2 DE DG FA
noncomputable def top(i:Nat):Stmt:=PySem.Challenge.pw_daysgate_k12_lines_of_rules.main.body.getD i (.Pass ⟨0,0,0,0⟩)
def mem(i j:Nat):Stmt:=(qgg (top i)).getD j (.Pass ⟨0,0,0,0⟩)
noncomputable def qjj:Cs:={ tab:=["Within","Since","InRow"],fld:=λc x=>rk c&&(x == "lands" || x == "most" || (x == "span" && c == "Within")||(x == "leave" && c != "Within")),mt:=λc x=>if rk c&&x == "weight" then some "Rule.weight" else if c == "Within" && x == "line" then some "Within.line" else if c == "Since" && x == "line" then some "Since.line" else if c == "InRow" && x == "line" then some "InRow.line" else none,sub:=λc t=>if rk c&&t == "Within" then some (c == "Within") else if rk c&&t == "Since" then some (c != "Within") else if rk c&&t == "InRow" then some (c == "InRow") else none }
noncomputable def pg:Pg:={ defs:=[(("is_whole" : Str),top 6),(("is_between" : Str),top 7),(("is_made_of" : Str),top 8),(("is_name" : Str),top 9),(("is_written_number" : Str),top 10),(("is_land" : Str),top 18),(("are_lands" : Str),top 19),(("line_of" : Str),top 24),(("read_number" : Str),top 25),(("read_lands" : Str),top 26),(("rule_of" : Str),top 27),(("read_rule" : Str),top 28),(("_law_cell_at" : Str),top 30),(("_law_lands" : Str),top 31),(("_law_number" : Str),top 32),(("_law_rule" : Str),top 33),(("_law_made" : Str),top 34),(("_law_line" : Str),top 35),(("_law_kind" : Str),top 36),(("_law_right" : Str),top 37),(("law" : Str),top 38)],gl:=λx=>if x = "GREATEST" then some (.int 1000000000) else if x = "LETTERS" then some (.str "abcdefghijklmnopqrstuvwxyz") else if x = "LONGEST_NAME" then some (.int 8) else if x = "FIGURES" then some (.str "0123456789") else if x = "MOST_FIGURES" then some (.int 10) else if x = "MOST_LANDS" then some (.int 6) else if x = "GREATEST_WEIGHT" then some (.int 9) else none,m:=40,w:=1000,meths:=[("Rule.weight",mem 20 1),("Within.line",mem 21 1),("Since.line",mem 22 1),("InRow.line",mem 23 1)],cs:=qjj,nw:=pnw }
instance:FA.LC pg:=⟨%[30|1]⟩
instance:FA.LN pg:=⟨%[31|1]⟩
instance:FA.LM pg:=⟨%[34|1]⟩
theorem qan:RW pg "is_whole" Jp:=%[6|1]
theorem YR:RW pg "is_between" jU:=%[7|1]
theorem YS:RW pg "is_made_of" jV:=%[8|1]
theorem qbW:RW pg "is_name" YN:=%[9|1]
noncomputable def qA:Nat×Nat×Ss:=(1,1,%[.ite (.or (.cmp .Lt (.b1 .len (.var 0)) (.con (.int 1))) (.one (.cmp .Gt (.b1 .len (.var 0)) (.con (.int 10))))) %[.ret (.con (.bl false))|0] .nil,.ite (.and (.cmp .Eq (.idx (.var 0) (.con (.int 0))) (.con (.str "0"))) (.one (.cmp .Gt (.b1 .len (.var 0)) (.con (.int 1))))) %[.ret (.con (.bl false))|0] .nil,.ret (.call "is_made_of" %[0,.con (.str "0123456789")|0])|0])
theorem jp:RW pg "is_written_number" qA:=%[10|1]
theorem qbX:RW pg "is_land" YO:=%[18|1]
theorem QF:RW pg "are_lands" yN:=%[19|1]
abbrev jX:E:=(.fst %[0,.con (.str " "),1|0])
def jq:E:=jX
theorem JR:UE jq jX:=λ_ _ _=>(rfl)
noncomputable def YT:Nat×Nat×Ss:=(2,4,%[.set 2 (.fld (.var 1) "most"),.set 3 (.met (.con (.str ", ")) "join" %[.comp jq (.seq (.fld (.var 1) "lands")) (.many [0,1]) .yes 2 []|0]),(.ret (.fst %[0,.con (.str " most "),2,(.con (.str ": ")),3|0]))|0])
theorem qbY:RW pg "line_of" YT:=%[24|1]
noncomputable def jF:Nat×Nat×Ss:=(1,1,%[.ite (.not (.val (.call "is_written_number" %[0|0]))) %[.stuck|0] .nil,.ret (.b1 .int (.var 0))|0])
theorem JS:RW pg "read_number" jF:=%[25|1]
noncomputable abbrev zV:Ss:=%[.set 3 (.met (.var 2) "split" %[.con (.str " ")|0]),.ite (.cmp .NotEq (.b1 .len (.var 3)) (.con (.int 2))) %[.stuck|0] .nil,.app 1 (.tup %[.idx (.var 3) (.con (.int 0)),.call "read_number" %[.idx (.var 3) (.con (.int 1))|0]|0])|0]
def zr:Ss:=zV
theorem ya:USs zr zV:=λ_ _ _ _=>(rfl)
noncomputable def jY:Nat×Nat×Ss:=(1,4,%[.set 1 (.lst .nil),.for_ (.one 2) (.seq (.met (.var 0) "split" %[.con (.str ", ")|0])) zr,.ret (.var 1)|0])
theorem YU:RW pg "read_lands" jY:=%[26|1]
noncomputable def jG:Nat×Nat×Ss:=(2,2,%[.ite (.and (.cmp .Eq (.b1 .len (.var 0)) (.con (.int 3))) (.and (.cmp .Eq (.idx (.var 0) (.con (.int 0))) (.con (.str "row"))) (.one (.cmp .Eq (.idx (.var 0) (.con (.int 1))) (.con (.str "most")))))) %[.ret (.new "InRow" %[1,.call "read_number" %[.idx (.var 0) (.con (.int 2))|0]|0])|0] .nil,.ite (.and (.cmp .Eq (.b1 .len (.var 0)) (.con (.int 4))) (.and (.cmp .Eq (.idx (.var 0) (.con (.int 0))) (.con (.str "within"))) (.one (.cmp .Eq (.idx (.var 0) (.con (.int 2))) (.con (.str "most")))))) %[.ret (.new "Within" %[1,.call "read_number" %[.idx (.var 0) (.con (.int 3))|0],.call "read_number" %[.idx (.var 0) (.con (.int 1))|0]|0])|0] .nil,.ite (.and (.cmp .Eq (.b1 .len (.var 0)) (.con (.int 4))) (.and (.cmp .Eq (.idx (.var 0) (.con (.int 0))) (.con (.str "since"))) (.one (.cmp .Eq (.idx (.var 0) (.con (.int 2))) (.con (.str "most")))))) %[.ret (.new "Since" %[1,.call "read_number" %[.idx (.var 0) (.con (.int 3))|0],.call "read_number" %[.idx (.var 0) (.con (.int 1))|0]|0])|0] .nil,.stuck|0])
theorem qbZ:RW pg "rule_of" jG:=%[27|1]
noncomputable def yQ:Nat×Nat×Ss:=(1,2,%[.ite (.not (.val (.isi Ty.str (.var 0)))) %[.stuck|0] .nil,(.set 1 (.met (.var 0) "partition" %[(.con (.str ": "))|0])),.ite (.val (.con (.bl true))) %[.ret (.call "rule_of" %[.met (.idx (.var 1) (.con (.int 0))) "split" %[.con (.str " ")|0],.call "read_lands" %[.idx (.var 1) (.con (.int 2))|0]|0])|0] .nil|0])
theorem QG:RW pg "read_rule" yQ:=%[28|1]
noncomputable def zF:Nat×Nat×Ss:=(2,2,%[.ite (.cmp .Eq (.bin .Mod (.var 0) (.con (.int 5))) (.con (.int 0))) %[.ret (.bin .Mod (.bin .FloorDiv (.var 0) (.con (.int 5))) (.bin .Add (.var 1) (.con (.int 1))))|0] .nil,.ret (.bin .Mod (.bin .FloorDiv (.var 0) (.con (.int 5))) (.b2 .min (.con (.int 31)) (.bin .Add (.var 1) (.con (.int 1)))))|0])
theorem JT:RW pg "_law_number" zF:=%[32|1]
noncomputable abbrev jg:Ss:=%[.app 4 (.tup %[.idx (.var 1) (.bin .Mod (.bin .Add (.bin .FloorDiv (.var 2) (.con (.int 18))) (.var 5)) (.b1 .len (.var 1))),.bin .Add (.con (.int 1)) (.bin .Mod (.bin .FloorDiv (.bin .FloorDiv (.var 2) (.con (.int 108))) (.bin .Add (.var 5) (.con (.int 1)))) (.idx (.lst %[.con (.int 9),.con (.int 2),.con (.int 2)|0]) (.bin .Mod (.bin .Add (.var 2) (.var 5)) (.con (.int 3)))))|0])|0]
def zG:Ss:=jg
theorem yR:USs zG jg:=λ_ _ _ _=>(rfl)
noncomputable def zH:Nat×Nat×Ss:=(2,8,%[.set 2 (.bin .Mod (.bin .Mult (.var 0) (.con (.int 1099087573))) (.con (.int 10000000000037))),.set 3 (.bin .Add (.con (.int 1)) (.bin .Mod (.bin .FloorDiv (.var 2) (.con (.int 3))) (.b1 .len (.var 1)))),.set 4 (.lst .nil),.for_ (.one 5) (.rng (.var 3)) zG,.set 6 (.call "_law_number" %[.bin .FloorDiv (.var 2) (.con (.int 972)),.bin .Pow (.con (.int 10)) (.con (.int 9))|0]),.set 7 (.bin .Add (.con (.int 1)) (.call "_law_number" %[.bin .FloorDiv (.var 2) (.con (.int 30132)),.bin .Sub (.bin .Pow (.con (.int 10)) (.con (.int 9))) (.con (.int 1))|0])),.ite (.cmp .Eq (.bin .Mod (.var 2) (.con (.int 3))) (.con (.int 0))) %[.ret (.tup %[.con (.str "within"),4,6,7|0])|0] .nil,.ite (.cmp .Eq (.bin .Mod (.var 2) (.con (.int 3))) (.con (.int 1))) %[.ret (.tup %[.con (.str "since"),4,6,7|0])|0] .nil,.ret (.tup %[.con (.str "row"),4,6,.con (.int 1)|0])|0])
theorem QH:RW pg "_law_rule" zH:=%[33|1]
noncomputable abbrev jh:Ss:=%[.ite (.cmp .NotEq (.var 6) (.con (.str ""))) %[.set 6 (.bin .Add (.var 6) (.con (.str ", ")))|0] .nil,.set 6 (.bin .Add (.bin .Add (.bin .Add (.var 6) (.var 7)) (.con (.str " "))) (.b1 .str (.var 8)))|0]
def zI:Ss:=jh
theorem zW:USs zI jh:=λ_ _ _ _=>(rfl)
noncomputable def zJ:Nat×Nat×Ss:=(1,9,%[.setT (.many [1,2,3,4]) (.var 0),.set 5 (.var 1),.ite (.cmp .NotEq (.var 1) (.con (.str "row"))) %[.set 5 (.bin .Add (.bin .Add (.var 1) (.con (.str " "))) (.b1 .str (.var 4)))|0] .nil,.set 6 (.con (.str "")),.for_ (.many [7,8]) (.seq (.var 2)) zI,(.ret (.bin .Add (.bin .Add (.bin .Add (.bin .Add (.var 5) (.con (.str " most "))) (.b1 .str (.var 3))) (.con (.str ": "))) (.var 6)))|0])
theorem QI:RW pg "_law_line" zJ:=%[35|1]
noncomputable def zK:Nat×Nat×Ss:=(1,1,%[.ret (.lst %[.isc "Within" (.var 0),.isc "Since" (.var 0),.isc "InRow" (.var 0)|0])|0])
theorem QJ:RW pg "_law_kind" zK:=%[36|1]
abbrev zX:E:=(.met (.var 2) "weight" %[0|0])
def qS:E:=zX
theorem yb:UE qS zX:=λ_ _ _=>(rfl)
abbrev zY:E:=(.var 1)
def zt:E:=zY
theorem yc:UE zt zY:=λ_ _ _=>(rfl)
noncomputable def jZ:Nat×Nat×Ss:=(2,4,%[.set 2 (.dct ["within","since","row"] %[.lst %[.con (.bl true),.con (.bl false),.con (.bl false)|0],.lst %[.con (.bl false),.con (.bl true),.con (.bl false)|0],.lst %[.con (.bl false),.con (.bl true),.con (.bl true)|0]|0]),.set 3 (.met (.var 0) "line" .nil),.ite (.or (.not (.val (.isi Ty.str (.var 3)))) (.or (.cmp .NotEq (.var 3) (.call "_law_line" %[1|0])) (.one (.cmp .NotEq (.call "_law_kind" %[0|0]) (.idx (.var 2) (.idx (.var 1) (.con (.int 0)))))))) %[.ret (.con (.bl false))|0] .nil,.ret (.cmp .Eq (.comp qS (.seq (.idx (.var 1) (.con (.int 1)))) (.many [0,1]) .yes 2 [0]) (.comp zt (.seq (.idx (.var 1) (.con (.int 1)))) (.many [0,1]) .yes 2 []))|0])
theorem YV:RW pg "_law_right" jZ:=%[37|1]
abbrev Zz:E:=(.var 0)
def yS:E:=Zz
theorem YW:UE yS Zz:=λ_ _ _=>(rfl)
abbrev ZA:E:=(.call "_law_rule" %[0,1|0])
def QK:E:=ZA
theorem qb0:UE QK ZA:=λ_ _ _=>(rfl)
noncomputable abbrev ZB:Ss:=%[.ite (.not (.val (.call "_law_right" %[.call "_law_made" %[5|0],5|0]))) %[.ret (.con (.bl false))|0] .nil,.app 4 (.call "read_rule" %[.call "_law_line" %[5|0]|0])|0]
def QL:Ss:=ZB
theorem qb1:USs QL ZB:=λ_ _ _ _=>(rfl)
noncomputable abbrev ZC:Ss:=%[.ite (.or (.not (.val (.call "_law_right" %[6,5|0]))) (.one (.not (.val (.call "_law_right" %[.call "read_rule" %[.call "_law_line" %[5|0]|0],5|0]))))) %[.ret (.con (.bl false))|0] .nil|0]
def QM:Ss:=ZC
theorem qb2:USs QM ZC:=λ_ _ _ _=>(rfl)
noncomputable def qjk:Nat×Nat×Ss:=(1,7,%[.set 1 (.call "_law_lands" %[.call "_law_cell_at" %[0,.con (.int 0)|0],.con (.int 6)|0]),.ite (.cmp .Eq (.bin .Mod (.bin .FloorDiv (.call "_law_cell_at" %[0,.con (.int 0)|0]) (.con (.int 512))) (.con (.int 3))) (.con (.int 1))) %[.set 2 (.lst %[.con (.str "most"),.con (.str "row"),.con (.str "since"),.con (.str "within")|0]),.set 1 (.sli (.bin .Add (.var 2) (.comp yS (.seq (.var 1)) (.one 0) (.test (.cmp .NotIn (.var 0) (.var 1))) 1 [2])) .none (.some (.con (.int 6))))|0] .nil,.set 3 (.comp QK (.seq (.bin .Add (.lst %[.call "_law_cell_at" %[0,.con (.int 1)|0]|0]) (.sli (.var 0) (.some (.con (.int 2))) (.some (.con (.int 16)))))) (.one 0) .yes 1 [1]),.set 4 (.lst .nil),.for_ (.one 5) (.seq (.var 3)) QL,.for_ (.many [6,5]) (.zip (.var 4) (.var 3)) QM,.ret (.con (.bl true))|0])
theorem qkU:RW pg "law" qjk:=%[38|1]
theorem JU:RW pg "Rule.weight" zD:=qC (pg:=pg) (st:=mem 20 1) (by kernel_rfl) (λk cl=>by kernel_rfl)
noncomputable def jH:Nat×Nat×Ss:=(1,2,%[.set 1 (.fld (.var 0) "span"),.ret (.call "line_of" %[.fst %[.con (.str "within "),1|0],0|0])|0])
theorem JV:RW pg "Within.line" jH:=qC (pg:=pg) (st:=mem 21 1) (by kernel_rfl) (λk cl=>by kernel_rfl)
noncomputable def j0:Nat×Nat×Ss:=(1,2,%[.set 1 (.fld (.var 0) "leave"),.ret (.call "line_of" %[.fst %[.con (.str "since "),1|0],0|0])|0])
theorem YX:RW pg "Since.line" j0:=qC (pg:=pg) (st:=mem 22 1) (by kernel_rfl) (λk cl=>by kernel_rfl)
noncomputable def j3:Nat×Nat×Ss:=(1,1,%[.ret (.call "line_of" %[.con (.str "row"),0|0])|0])
theorem YY:RW pg "InRow.line" j3:=qC (pg:=pg) (st:=mem 23 1) (by kernel_rfl) (λk cl=>by kernel_rfl)
end K12
namespace FA
open PySem L2 DE DG
open LC LN LM
def lnD(p:Str×Int):D:=.tup [.str p.1,.int p.2]
theorem ji(p:Str×Int):lnD p=.tup [.str p.1,.int p.2]:=rfl
theorem qdN{z:Str}(h:NameOk z):QE z=true:=by
 unfold QE;simp only[Bool.and_eq_true,decide_eq_true_eq,List.all_eq_true];refine⟨⟨h.one,h.eight⟩,λc hc=>?_⟩
 have:=h.lets c hc
 unfold j9 at this;omega
structure LnOk(p:Str×Int):Prop where
 nm:NameOk p.1
 one:1<=p.2
 nine:p.2<=9
theorem qdO{p:Str×Int}(h:LnOk p):qbS (lnD p)=some p:=by show(if (QE p.1&&decide (1<=p.2)&&decide (p.2<=9))=true then some (p.1,p.2) else none)=_;rw[if_pos (by rw[qdN h.nm,decide_eq_true h.one,decide_eq_true h.nine];rfl)]
theorem YZ:∀(l:List (Str×Int)) (acc:List Str),(∀p∈l,LnOk p)->(acc++l.map (·.1)).Nodup->Jo acc (l.map lnD)=true
 |[],acc,_,_=>rfl
 | p::l,acc,h,nd=>by
  rw[List.map_cons];unfold Jo;rw[qdO (h p (by simp))];have e:acc++(p::l).map (·.1)=(acc++[p.1])++l.map (·.1):=by simp
  rw[e] at nd
  have n1:p.1∉acc:=by
   have:=(List.nodup_append.mp nd).1
   have:=(List.nodup_append.mp this).2.2
   intro hm;exact this p.1 hm p.1 (by simp) rfl
  simp only[Bool.and_eq_true,Bool.not_eq_true'];exact⟨by simpa using n1,YZ l (acc++[p.1]) (λq hq=>h q (by simp[hq])) nd⟩
theorem qao{l:List (Str×Int)}(h:∀p∈l,LnOk p)(nd:(l.map (·.1)).Nodup)(h1:1<=l.length)(h6:l.length<=6):qu (l.map lnD)=true:=by unfold qu;rw[List.length_map,decide_eq_true h1,decide_eq_true h6,YZ l [] h (by simpa using nd)];rfl
theorem qdP{zs:List Str}(i:Int)(h0:0<=i)(h1:i < zs.length):∃z,atI (zs.map D.str) i=some (.str z)/\zs[i.toNat]?=some z:=by
 obtain⟨j,rfl⟩:=Int.eq_ofNat_of_zero_le h0;have hj:j < zs.length:=by omega
 exact⟨zs[j],qkL (by rw[List.getElem?_map,List.getElem?_eq_getElem hj];rfl),by simp[hj]⟩
noncomputable def Lns(zs:List Str)(a:Int)(l:List (Str×Int)):Prop:=∀(i:Nat) (p:Str×Int),l[i]?=some p->zs[((a+(i:Int)) % (zs.length:Int)).toNat]?=some p.1/\LnOk p
inductive Kd where
 | wi | si | ro
def Kd.nm:Kd->Str
 |.wi=>"within"
 |.si=>"since"
 |.ro=>"row"
structure Ru where
 kd:Kd
 lands:List (Str×Int)
 most:Int
 days:Int
def ruD(r:Ru):D:=.tup [.str r.kd.nm,.lst (r.lands.map lnD),.int r.most,.int r.days]
end FA
namespace TW
open PySem PySem.StrLaws PySem.Builtin PySem.Builtin.Str
structure Sep(y:Str)(c:Nat)(t:List Nat):Prop where
 is_:y.cps.toList=c::t
 no:c∉t
 kd:strKind y=1
theorem Sep.len{y:Str}{c:Nat}{t:List Nat}(h:Sep y c t):y.length=t.length+1:=by
 have:=congrArg List.length h.is_
 simpa [Str.length] using this
theorem qT(x:Str):x.cps.toList.length=x.length:=by simp[Str.length]
theorem zZ(y a b:Str)(r:List Str):(Str.join y (a::b::r)).cps.toList=a.cps.toList++(y.cps.toList++(Str.join y (b::r)).cps.toList):=by show(a++y++Str.join y (b::r)).cps.toList=_;simp only[Str.cps_append,Array.toList_append,List.append_assoc]
theorem qb3{y:Str}{c:Nat}{t:List Nat}(h:Sep y c t):∀(zs:List Str),(∀z∈zs,c∉z.cps.toList)->∀k,(Str.join y zs).cps.toList[k]?=some c->((Str.join y zs).cps.toList.drop k).take (t.length+1)=c::t
 |[],_,k,e=>by simp[Str.join,Str.empty] at e
 |[z],hz,k,e=>by exfalso;exact hz z (by simp) (List.mem_of_getElem? e)
 | a::b::r,hz,k,e=>by
  have ih:=qb3 h (b::r) λz hm=>hz z (by simp only[List.mem_cons] at hm ⊢;exact .inr hm);rw[zZ,h.is_] at e ⊢
  by_cases h1:k < a.cps.toList.length
  ·rw[List.getElem?_append_left h1] at e;exact absurd (List.mem_of_getElem? e) (hz a (by simp))
  ·rw[List.getElem?_append_right (1:)] at e;obtain⟨j,rfl⟩:∃j,k=a.cps.toList.length+j:=⟨k - a.cps.toList.length,by omega⟩;rw[Nat.add_sub_cancel_left] at e;rw[List.drop_append,Nat.add_sub_cancel_left,List.drop_eq_nil_of_le (1:),List.nil_append]
   by_cases h2:j < (c::t).length
   ·rw[List.getElem?_append_left h2] at e
    cases j with
    |zero=>rw[List.drop_zero];exact List.take_left' (by simp)
    |succ j=>rw[List.getElem?_cons_succ] at e;exact absurd (List.mem_of_getElem? e) h.no
   ·rw[List.getElem?_append_right (1:)] at e;obtain⟨i,rfl⟩:∃i,j=(c::t).length+i:=⟨j - (c::t).length,by omega⟩;rw[Nat.add_sub_cancel_left] at e;rw[List.drop_append,Nat.add_sub_cancel_left,List.drop_eq_nil_of_le (1:),List.nil_append];exact ih i e
theorem qjl{x y:Str}{c:Nat}{t:List Nat}(h:Sep y c t){k:Nat}(e:(x.cps.toList.drop k).take (t.length+1)=c::t):At x y x.length k:=by
 refine⟨?_,?_⟩
 ·have:=congrArg List.length e
  rw[List.length_take,List.length_drop,qT,List.length_cons] at this;rw[h.len];omega
 ·rw[subAt_eq,h.len,e,h.is_];exact beq_self_eq_true _
theorem jQ(x y:Str)(c a b:Nat)(hb:b<=x.length)(H:∀k,x.cps.toList[k]?=some c->At x y x.length k)(hn:∀k,a<=k->k < b->¬ At x y x.length k):c∉(strSub x a b).cps.toList:=by
 intro hm;rw[strSub_toList] at hm;obtain⟨j,hj⟩:=List.getElem?_of_mem hm
 have hlt:j < b - a:=by have h1:j < ((x.cps.toList.drop a).take (b - a)).length:=(List.getElem?_eq_some_iff.mp hj).1;simp at h1;omega
 rw[List.getElem?_take_of_lt hlt,List.getElem?_drop] at hj;exact hn (a+j) (1:) (1:) (H _ hj)
theorem yT(x y:Str)(c:Nat)(H:∀k,x.cps.toList[k]?=some c->At x y x.length k):∀(cuts:List Nat) (a f:Nat),ChainG x y x.length a cuts f->(∀k,f<=k->¬ At x y x.length k)->∀p∈partsFrom x y.length a cuts,c∉p.cps.toList
 |[],a,f,h,hn,p,hp=>by have e:f=a:=h;subst e;rw[List.mem_singleton.mp hp];exact jQ x y c f x.length (Nat.le_refl _) H λk h1 _=>hn k h1
 | d::r,a,f,h,hn,p,hp=>by
  rcases List.mem_cons.mp hp with rfl | hp'
  ·exact jQ x y c a d (by have:=h.2.1.1;omega) H h.2.2.1
  ·exact yT x y c H r _ f h.2.2.2 hn p hp'
theorem qdQ(x:Str):1<=strKind x:=by
 unfold PySem.Builtin.Str.strKind;split
 ·decide
 ·split<;>decide
theorem QN(x y:Str)(c:Nat)(hw:1<=y.length)(hk:strKind y=1)(H:∀k,x.cps.toList[k]?=some c->At x y x.length k):∀p∈Txt.split x y,c∉p.cps.toList:=by
 obtain⟨f,hG,hn⟩:=occ_tight x y hw;unfold Txt.split;split
 ·rename_i hc;intro p hp;rw[List.mem_singleton.mp hp];intro hm;obtain⟨j,hj⟩:=List.getElem?_of_mem hm;have hA:=H j hj;rw[Bool.or_eq_true,decide_eq_true_eq,decide_eq_true_eq,hk] at hc;rcases hc with h | h
  ·have:=hA.1;omega
  ·have:=qdQ x;omega
 ·split
  ·rename_i he;intro p hp;rw[List.mem_singleton.mp hp];have e0:occurrences x y 0 x.length (x.length+1)=[]:=List.isEmpty_iff.mp he;rw[e0] at hG;have ef:f=0:=hG;subst ef;rw[<-sub_whole x];exact jQ x y c 0 x.length (Nat.le_refl _) H λk h1 _=>hn k h1
  ·rw[partsBetween_eq];exact yT x y c H _ 0 f hG hn
theorem qeF{c:Nat}:∀{a b:List Nat} {m n:List Nat},c∉a->c∉b->a++c::m=b++c::n->a=b/\m=n
 |[],[],m,n,_,_,e=>⟨rfl,(List.cons.inj e).2⟩
 | [],y::b,m,n,_,hb,e=>by exact absurd ((List.cons.inj e).1▸List.mem_cons_self) hb
 | x::a,[],m,n,ha,_,e=>by exact absurd ((List.cons.inj e).1.symm▸List.mem_cons_self) ha
 | x::a,y::b,m,n,ha,hb,e=>by obtain⟨e1,e2⟩:=List.cons.inj e;obtain⟨e3,e4⟩:=qeF (λh=>ha (.tail _ h)) (λh=>hb (.tail _ h)) e2;exact⟨by rw[e1,e3],e4⟩
theorem ZD{y:Str}{c:Nat}{t:List Nat}(h:Sep y c t):∀(ps qs:List Str),ps≠[]->qs≠[]->(∀z∈ps,c∉z.cps.toList)->(∀z∈qs,c∉z.cps.toList)->(Str.join y ps).cps.toList=(Str.join y qs).cps.toList->ps=qs
 |[],_,n,_,_,_,_=>absurd rfl n
 | _::_,[],_,n,_,_,_=>absurd rfl n
 |[p],[q],_,_,_,_,e=>by have e:p.cps.toList=q.cps.toList:=e;rw[Str.ext' (Array.toList_inj.mp e)]
 | [p],q::q'::r,_,_,hp,_,e=>by exfalso;rw[zZ,h.is_] at e;have e:p.cps.toList=_:=e;exact hp p (by simp) (by rw[e];simp)
 | p::p'::r,[q],_,_,_,hq,e=>by exfalso;rw[zZ,h.is_] at e;have e:_=q.cps.toList:=e;exact hq q (by simp) (by rw[<-e];simp)
 | p::p'::r,q::q'::s,_,_,hp,hq,e=>by
  rw[zZ,zZ,h.is_] at e;obtain⟨e1,e2⟩:=qeF (hp p (by simp)) (hq q (by simp)) e;have e2:=List.append_cancel_left e2
  have:=ZD h (p'::r) (q'::s) (by simp) (by simp) (λz hz=>hp z (.tail _ hz)) (λz hz=>hq z (.tail _ hz)) e2
  rw[Str.ext' (Array.toList_inj.mp e1),this]
theorem qdR(x y:Str):Txt.split x y≠[]:=by
 unfold Txt.split;split
 ·simp
 ·split
  ·simp
  ·rw[partsBetween_eq];obtain⟨p,r,e⟩:=partsFrom_ne x y.length 0 (occurrences x y 0 x.length (x.length+1));rw[e];simp
theorem z7{y:Str}{c:Nat}{t:List Nat}(h:Sep y c t)(zs:List Str)(h0:zs≠[])(hz:∀z∈zs,c∉z.cps.toList):Txt.split (Str.join y zs) y=zs:=
 ZD h _ zs (qdR _ _) h0 (QN _ y c (by rw[h.len];omega) h.kd λk e=>qjl h (qb3 h zs hz k e)) hz (by rw[join_split])
theorem qgj(y:Str)(zs:List Str):Txt.join y zs=Str.join y zs:=glued_eq_join y zs
theorem qgk{y:Str}{c:Nat}{t:List Nat}(h:Sep y c t)(a b:Str)(ha:c∉a.cps.toList):Txt.partition (a++y++b) y=(a,y,b):=by
 have el:(a++y++b).cps.toList=a.cps.toList++(y.cps.toList++b.cps.toList):=by simp only[Str.cps_append,Array.toList_append,List.append_assoc]
 have hat:At (a++y++b) y (a++y++b).length a.length:=by refine qjl h ?_;rw[el,h.is_,<-qT a,List.drop_left' rfl];exact List.take_left' (by simp)
 have hno:∀k,k < a.length->¬ At (a++y++b) y (a++y++b).length k:=λk hk hA=>by have h2:=hA.2;rw[subAt_eq,h.is_,h.len] at h2;have h2:=eq_of_beq h2;have h3:=congrArg List.head? h2;rw[List.head?_take,if_neg (1:),List.head?_drop,el,List.getElem?_append_left (by rw[qT];exact hk)] at h3;exact ha (List.mem_of_getElem? h3)
 unfold Txt.partition;rcases occ_head (a++y++b) y 1 (Nat.le_refl 1) with ⟨_,hn⟩ | ⟨i,r,e,hi,hn⟩
 ·exact absurd hat (hn _)
 ·have ei:i=a.length:=by
   rcases Nat.lt_trichotomy i a.length with q | q | q
   ·exact absurd hi (hno i q)
   ·exact q
   ·exact absurd hat (hn _ q)
  rw[e];subst ei;dsimp only
  congr 1
  ·apply Str.ext';apply Array.toList_inj.mp;rw[strSub_toList,el,List.drop_zero,Nat.sub_zero];exact List.take_left' (by rw[qT])
  ·congr 1
   apply Str.ext';apply Array.toList_inj.mp;rw[strSub_toList,el,<-List.append_assoc,List.drop_left' (by rw[List.length_append,qT,qT])];apply List.take_of_length_le;rw[qT,Str.length_append,Str.length_append];omega
end TW
namespace K12
open PySem L2 DE DG FA TW
abbrev nS(n:Int):Str:=Str.ofString (toString n)
def Y0(c:Nat):Prop:=48<=c/\c < 58
theorem qgl(m:Nat):Nat.toDigits 10 m≠[]:=λe=>by have h:=PySem.toDigits_len_ge 10 m;rw[e] at h;exact absurd h (2:)
theorem qb4(m:Nat):m=0\/∃c r,(Nat.toDigits 10 m).map Char.toNat=c::r/\c≠48:=by
 induction m using Nat.strongRecOn with
 |_ m ih=>
  by_cases h:m < 10
  ·by_cases h0:m=0
   ·exact .inl h0
   ·refine .inr ⟨(Nat.digitChar m).toNat,[],?_,?_⟩
    ·rw[Nat.toDigits_of_lt_base h];rfl
    ·have:=PySem.W.KIN.digit_back m h
     omega
  ·have hm:m % 10 < 10:=Nat.mod_lt m (2:);have t:Nat.toDigits 10 (m / 10)++Nat.toDigits 10 (m % 10)=Nat.toDigits 10 (10 * (m / 10)+m % 10):=Nat.toDigits_append_toDigits (2:) (1:) hm;rw[Nat.div_add_mod] at t;rcases ih (m / 10) (1:) with z | ⟨c,r,e,hc⟩
   ·omega
   ·exact .inr ⟨c,r++(Nat.toDigits 10 (m % 10)).map Char.toNat,by rw[<-t,List.map_append,e];rfl,hc⟩
structure NumOk(n:Int):Prop where
 lo:0<=n
 hi:n<=1000000000
theorem yo{n:Int}(h:NumOk n):∀c∈(nS n).cps.toList,Y0 c:=by obtain⟨m,rfl⟩:=Int.eq_ofNat_of_zero_le h.lo;intro c hc;rw[PySem.W.KIN.signs_num] at hc;obtain⟨ch,hch,e⟩:=List.mem_map.mp hc;have r:=PyProof.Rows.digit_range (Nat.isDigit_of_mem_toDigits (2:) (2:) hch);rw[<-e];exact⟨r.1,by have:=r.2;omega⟩
theorem zi{n:Int}(h:NumOk n):1<=(nS n).length/\(nS n).length<=10:=by have h0:=h.lo;have h1:=h.hi;refine⟨?_,PySem.W.KT.len_num h0 (1:)⟩;obtain⟨m,rfl⟩:=Int.eq_ofNat_of_zero_le h.lo;rw[<-qT,PySem.W.KIN.signs_num,List.length_map];exact List.length_pos_iff.mpr (qgl m)
theorem num_reads{n:Int}(h:NumOk n):PySem.intText? (nS n)=some n:=PySem.W.KIN.num_reads h.lo (by have:=h.hi;omega)
theorem qdS{n:Int}(h:NumOk n):(nS n).length=1\/∃c r,(nS n).cps.toList=c::r/\c≠48:=by
 obtain⟨m,rfl⟩:=Int.eq_ofNat_of_zero_le h.lo;rcases qb4 m with rfl | q
 ·exact .inl (by rw[<-qT,PySem.W.KIN.signs_num];rfl)
 ·rw[PySem.W.KIN.signs_num];exact .inr q
theorem ZE{n:Int}(h:NumOk n){c:Nat}(hc:c < 48\/58<=c):c∉(nS n).cps.toList:=λhm=>by
 have:=yo h c hm
 unfold Y0 at this;omega
theorem zw{n:Int}(h:NumOk n):n.natAbs.log2 < 1920:=by
 have h0:=h.lo;have h1:=h.hi
 have:n.natAbs < 2 ^ 30:=by omega
 by_cases hz:n.natAbs=0
 ·rw[hz];decide
 ·have:=(Nat.log2_lt hz).mpr this
  omega
theorem qdT(k:Nat)(n:Int):clK pg (k+1) "is_whole" [.val (.int n)]=.ok (.val (.bl true)):=by rw[qan];simp? only[Jp]
theorem Jq(k:Nat)(n a b:Int)(h1:a<=n)(h2:n<=b):clK pg (k+2) "is_between" [.val (.int n),.val (.int a),.val (.int b)]=.ok (.val (.bl true)):=by rw[YR];simp? only[jU,qdT,h1,h2,decide_true]
theorem Y1(k:Nat)(z w:Str):∀(l:List Nat) (s:Sl),(∀c∈l,qcr ⟨#[c]⟩ w=true)->∃s',Jm (pg.kk k) 1000 (.one 2) zo (l.map λc=>D.str ⟨#[c]⟩) [.val (.str z),.val (.str w),s]=.ok (.next [.val (.str z),.val (.str w),s'])
 |[],s,_=>⟨s,by rw[List.map_nil,qdD]⟩
 | c::l,s,h=>by obtain⟨s',e⟩:=Y1 k z w l (.val (.str ⟨#[c]⟩)) λx hx=>h x (by simp[hx]);refine⟨s',?_⟩;refine(qM _).symm.trans ?_;rw[List.map_cons];simp? only[j6,h c (by simp),e]
theorem qb5(k:Nat)(z w:Str)(h:∀c∈z.cps.toList,qcr ⟨#[c]⟩ w=true):clK pg (k+1) "is_made_of" [.val (.str z),.val (.str w)]=.ok (.val (.bl true)):=by rw[YS];obtain⟨s',e⟩:=Y1 k z w z.cps.toList .no h;simp? only[jV,Nat.reduceAdd,Nat.reduceSub,qdc,e]
theorem qgm(c:Nat)(h:Y0 c):qcr ⟨#[c]⟩ "0123456789" = true:=by
 have key:∀j:Fin 10,qcr ⟨#[48+j.val]⟩ "0123456789" = true:=by decide+kernel
 have:=key ⟨c - 48,by unfold Y0 at h;omega⟩
 rw[show 48+(c - 48)=c by unfold Y0 at h;omega] at this;exact this
theorem qgn(k:Nat)(z:Str)(h:NameOk z):clK pg (k+2) "is_name" [.val (.str z)]=.ok (.val (.bl true)):=by
 have hz:z.length<=sizeLine:=by
  have:=h.eight
  show z.cps.size<=2 ^ 24;omega
 have h1:(1:Int)<=(z.length:Int):=by
  have:=h.one
  show(1:Int)<=(z.cps.size:Int);omega
 have h8:(z.length:Int)<=8:=by
  have:=h.eight
  show(z.cps.size:Int)<=8;omega
 rw[qbW];simp? only[YN,hz,h1,h8,decide_true,qb5 k z "abcdefghijklmnopqrstuvwxyz" λc hc=>qgh c (h.lets c hc)]
theorem qgo(k:Nat)(s:Str)(w:Int)(hs:NameOk s)(h1:1<=w)(h9:w<=9):clK pg (k+3) "is_land" [.val (.tup [.str s,.int w])]=.ok (.val (.bl true)):=by
 rw[qbX];have e0:atI [D.str s,D.int w] 0=some (.str s):=by rfl
 have e1:atI [D.str s,D.int w] 1=some (.int w):=by rfl
 simp? only[YO,e0,e1,qQ,qgn k s hs,Jq k w 1 9 h1 h9,show((((0+1+1:Nat):Int) == 2)=true) from rfl]
theorem Jr(k:Nat)(v:Sl):∀(l:List D) (acc:List Str) (s2:Sl),Jo acc l=true->acc.length+l.length < 1000->∃acc' s2',Jm (pg.kk (k+3)) 1000 (.one 2) zC l [v,.own (acc.map D.str),s2]=.ok (.next [v,.own acc',s2'])
 |[],acc,s2,_,_=>⟨_,s2,rfl⟩
 | d::l,acc,s2,h,hl=>by
  unfold Jo at h
  cases e:qbS d with
  |none=>rw[e] at h;cases h
  |some p=>
   rw[e] at h;simp only[Bool.and_eq_true,Bool.not_eq_true'] at h;obtain⟨rfl,hn,h1,h9⟩:=qdJ e;rw[List.length_cons] at hl;obtain⟨acc',s2',ih⟩:=Jr k v l (acc++[p.1]) (.val (.tup [.str p.1,.int p.2])) h.2 (by simp;omega);refine⟨acc',s2',?_⟩;rw[List.map_append,List.map_cons,List.map_nil] at ih;have e0:atI [D.str p.1,D.int p.2] 0=some (.str p.1):=by rfl
   have hs:(acc.map D.str).length < sizeLine:=by rw[List.length_map];show acc.length < 2 ^ 24;omega
   refine(qM _).symm.trans ?_;simp? only[yM,e0,qgo k p.1 p.2 hn h1 h9,yP,h.1,hs,ih]
theorem QO(k:Nat)(b:Bool)(l:List D)(h:qu l=true):clK pg (k+4) "are_lands" [aL b l]=.ok (.val (.bl true)):=by
 unfold qu at h;simp only[Bool.and_eq_true,decide_eq_true_eq] at h;have h1:¬ (l.length:Int) < 1:=by have:=h.1.1;omega
 have h2:¬ (6:Int) < (l.length:Int):=by have:=h.1.2;omega
 rw[QF];obtain⟨acc',s2',ih⟩:=Jr k (pS b l) l [] .no h.2 (by have:=h.1.2;simp;omega);rw[List.map_nil] at ih;simp? only[yN,h1,h2,show(0:Nat)<=sizeLine by decide+kernel,ih]
theorem qap(k:Nat)(n:Int)(h:NumOk n):clK pg (k+2) "is_written_number" [.val (.str (nS n))]=.ok (.val (.bl true)):=by
 obtain⟨l1,l2⟩:=zi h
 have hz:(nS n).length<=sizeLine:=by show _<=2 ^ 24;omega
 have h1:¬ ((nS n).length:Int) < 1:=by omega
 have h2:¬ (10:Int) < ((nS n).length:Int):=by omega
 have m:=qb5 k (nS n) "0123456789" λc hc=>qgm c (yo h c hc);have ok0:PyData.strOk "0" = true:=by decide+kernel
 obtain⟨c,r,ec⟩:∃c r,(nS n).cps.toList=c::r:=by
  cases e:(nS n).cps.toList with
  |nil=>
   have:=qT (nS n)
   rw[e] at this;simp at this;omega
  |cons c r=>exact⟨c,r,rfl⟩
 have at0:atI (nS n).cps.toList 0=some c:=by rw[ec];exact qkL (j:=0) rfl
 have okc:PyData.strOk ⟨#[c]⟩=true:=by
  have hf:=yo h c (by rw[ec];simp);have key:∀j:Fin 10,PyData.strOk ⟨#[48+j.val]⟩=true:=by decide+kernel
  have:=key ⟨c - 48,by unfold Y0 at hf;omega⟩
  rw[show 48+(c - 48)=c by unfold Y0 at hf;omega] at this;exact this
 rw[jp];rcases qdS h with q | ⟨c',r',e',hc⟩
 ·have h3:¬ (1:Int) < ((nS n).length:Int):=by omega
  generalize nS n=z at *
  by_cases q2:eqD (.str ⟨#[c]⟩) (.str "0")=some true
  ·simp? only[qA,hz,h1,h2,h3,at0,q2,decide_false,m]
  ·have q3:eqD (.str ⟨#[c]⟩) (.str "0")=some false:=by
    rw[jP okc ok0] at q2 ⊢
    simpa using q2
   simp? only[qA,hz,h1,h2,h3,at0,q3,decide_false,m]
 ·rw[ec] at e';cases e'
  have q3:eqD (.str ⟨#[c]⟩) (.str "0")=some false:=by
   rw[jP okc ok0]
   have:(⟨#[c]⟩:Str)≠"0":=λz=>hc (by
    have:=congrArg (λs:Str=>s.cps.toList) z
    have e2:("0" : Str).cps.toList=[48]:=by decide+kernel
    dsimp only at this;rw[e2] at this
    simpa using this)
   simpa using this
  generalize nS n=z at *;simp? only[qA,hz,h1,h2,at0,q3,m]
theorem yU(k:Nat)(n:Int)(h:NumOk n):clK pg (k+3) "read_number" [.val (.str (nS n))]=.ok (.val (.int n)):=by have w:=qap k n h;have e:qjH (.val (.str (nS n)))=.ok (.val (.int n)):=qjf (num_reads h) (by have:=(zi h).2;omega);generalize nS n=z at *;rw[JS];simp? only[jF,w,e]
end K12
namespace K12
open PySem L2 DE DG FA TW
open LC LN LM
structure N6(zs:List Str):Prop where
 two:2<=zs.length
 six:zs.length<=6
 ok:∀z∈zs,NameOk z
 nd:zs.Nodup
theorem N6.once{zs:List Str}(h:N6 zs)(i j:Nat)(z:Str)(hi:zs[i]?=some z)(hj:zs[j]?=some z):i=j:=by
 obtain⟨li,ei⟩:=List.getElem?_eq_some_iff.mp hi;obtain⟨lj,ej⟩:=List.getElem?_eq_some_iff.mp hj;have nd:=List.pairwise_iff_getElem.mp h.nd;rcases Nat.lt_trichotomy i j with q | q | q
 ·exact absurd (ei.trans ej.symm) (nd i j li lj q)
 ·exact q
 ·exact absurd (ej.trans ei.symm) (nd j i lj li q)
theorem Nm.ne6{cell at' k k':Int}{m:Nat}{z z':Str}(h:Nm cell at' k m z)(h':Nm cell at' k' m z')(h0:0<=at')(h1:at' < m)(hk:0<=k/\k < 6)(hk':0<=k'/\k' < 6)(ne:k≠k'):z≠z':=by
 rintro rfl;have e:(List.range m).map (ltr cell at' k)=(List.range m).map (ltr cell at' k'):=h.symm.trans h';have e2:=congrArg (λl=>l[at'.toNat]?) e;simp only[List.getElem?_map] at e2;rw[List.getElem?_range (1:)] at e2;simp only[Option.map_some,Option.some.injEq] at e2;unfold ltr at e2;have ea:((at'.toNat:Nat):Int)=at':=by omega
 rw[ea,beq_self_eq_true,if_pos rfl] at e2;omega
theorem qjm(k:Nat)(cell:Int):∃zs:List Str,clK pg (k+1) "_law_lands" [.val (.int cell),.val (.int 6)]=.ok (.tmp (zs.map D.str))/\zs.length=6/\N6 zs:=by
 have hm:∃m:Nat,(1+cell % 8:Int)=(m:Int)/\1<=m/\m<=8:=⟨(1+cell % 8).toNat,by omega,by omega,by omega⟩;obtain⟨m,e,h1,h2⟩:=hm;have a0:0<=cell / 8 % (m:Int):=Int.emod_nonneg _ (1:);have a1:cell / 8 % (m:Int) < m:=Int.emod_lt_of_pos _ (1:);obtain⟨zs,s6,s7,s8,s9,h,h3,h4⟩:=YQ (pg.kk k) (.val (.int 6)) cell (cell / 8 % (m:Int)) m ⟨h1,h2⟩ 6 [] .no .no .no .no (by simp) (λi z hz=>by simp at hz);simp at h3;refine⟨zs,?_,h3,⟨by omega,by omega,λz hz=>?_,?_⟩⟩
 ·rw[List.map_nil] at h;have hp:(0:Int) < (m:Int):=by omega
  have hs:zl 6=true:=by decide
  rw[show((([]:List Str).length:Nat):Int)=0 from rfl] at h;rw[r__law_lands];have t6:(6:Int).toNat=6:=rfl;simp? only[jW,e,hp,show(0:Nat)<=sizeLine by decide+kernel,hs,zP,Int.sub_zero,t6,h]
 ·obtain⟨i,hi⟩:=List.getElem?_of_mem hz;exact(h4 i z hi).ok h1 h2
 ·rw[List.nodup_iff_pairwise_ne,List.pairwise_iff_getElem];intro i j hi hj hij e;exact Nm.ne6 (h4 i _ (List.getElem?_eq_getElem hi)) (h4 j _ (List.getElem?_eq_getElem hj)) a0 a1 ⟨by omega,by omega⟩ ⟨by omega,by omega⟩ (1:) e
def zL:List Str:=["most","row","since","within"]
theorem qdU:∀z∈zL,NameOk z:=by
 have key:∀z∈zL,QE z=true:=by decide+kernel
 exactλz hz=>NameOk.of (key z hz)
def QP(zs:List Str):List Str:=(zL++zs.filter λz=>!zL.contains z).take 6
theorem qdV{zs:List Str}(h:N6 zs)(h6:zs.length=6):N6 (QP zs):=by
 have nd:(zL++zs.filter λz=>!zL.contains z).Nodup:=by
  rw[List.nodup_append];refine⟨by decide+kernel,h.nd.filter _,λa ha b hb e=>?_⟩;subst e
  have:=(List.mem_filter.mp hb).2
  rw[List.contains_iff_mem.mpr ha] at this;cases this
 have l4:zL.length=4:=rfl;have hlen:4<=(zL++zs.filter λz=>!zL.contains z).length:=by rw[List.length_append,l4];omega
 refine⟨?_,?_,λz hz=>?_,nd.sublist (List.take_sublist ..)⟩
 ·unfold QP;rw[List.length_take];omega
 ·unfold QP;rw[List.length_take];omega
 ·rcases List.mem_append.mp (List.mem_of_mem_take hz) with q | q
  ·exact qdU z q
  ·exact h.ok z (List.mem_filter.mp q).1
theorem jR(k:Nat):∀(zs:List Str) (acc:List D) (s0:Sl),acc.length+zs.length < 1000->
  zB (pg.kk k) yS (.one 0) (F.test (T.cmp CmpOp.NotIn (E.var 0) (E.var 1))) (zs.map D.str) [s0,.bor (zL.map D.str)] acc=.ok (acc++(zs.filter λz=>!zL.contains z).map D.str)
 |[],acc,s0,_=>by simp[jE]
 | z::zs,acc,s0,hl=>by
  rw[List.length_cons] at hl
  have sz:acc.length < sizeLine:=by show _ < 2 ^ 24;omega
  by_cases hc:zL.contains z=true
  ·have ih:=jR k zs acc (.val (.str z)) (1:);rw[List.filter_cons_of_neg (by rw[hc];decide)];refine(qM _).symm.trans ?_;rw[List.map_cons];simp? only[YW,yP,hc,Bool.not_true,ih]
  ·have hc:zL.contains z=false:=by simpa using hc
   have ih:=jR k zs (acc++[.str z]) (.val (.str z)) (by simp;omega);rw[List.filter_cons_of_pos (by rw[hc];decide),List.map_cons];rw[List.append_assoc] at ih;refine(qM _).symm.trans ?_;rw[List.map_cons];simp? only[YW,yP,hc,Bool.not_false,sz,ih,List.singleton_append]
theorem Lns.nodup6{zs:List Str}(hz:N6 zs){a:Int}{l:List (Str×Int)}(h:Lns zs a l)(hl:l.length<=zs.length):(l.map (·.1)).Nodup:=by
 rw[List.nodup_iff_pairwise_ne,List.pairwise_iff_getElem];intro i j hi hj hij e;rw[List.length_map] at hi hj;rw[List.getElem_map,List.getElem_map] at e;have h1:=(h i _ (List.getElem?_eq_getElem hi)).1;have h2:=(h j _ (List.getElem?_eq_getElem hj)).1;rw[e] at h1
 have:=hz.once _ _ _ h1 h2
 have hL:(0:Int) < (zs.length:Int):=by have:=hz.two;omega
 have a0:0<=(a+(i:Int)) % (zs.length:Int):=Int.emod_nonneg _ (1:);have b0:0<=(a+(j:Int)) % (zs.length:Int):=Int.emod_nonneg _ (1:);have e3:(a+(i:Int)) % (zs.length:Int)=(a+(j:Int)) % (zs.length:Int):=by omega
 have e5:(a+(j:Int) - (a+(i:Int))) % (zs.length:Int)=0:=by rw[Int.sub_emod,e3,Int.sub_self,Int.zero_emod]
 rw[show a+(j:Int) - (a+(i:Int))=((j - i:Nat):Int) by omega] at e5;rw[Int.emod_eq_of_lt (1:) (1:)] at e5;omega
theorem Y2(cl:Cl)(v0 v3 s6 s7:Sl)(n:Int)(zs:List Str)(hz:N6 zs):∀(m:Nat) (l:List (Str×Int)) (s5:Sl),l.length+m<=100->Lns zs (n / 18) l->
  ∃(l':List (Str×Int)) (s5':Sl),Jm cl 1000 (.one 5) zG (rgF (l.length:Int) m) [v0,.bor (zs.map D.str),.val (.int n),v3,.own (l.map lnD),s5,s6,s7]=.ok (.next [v0,.bor (zs.map D.str),.val (.int n),v3,.own (l'.map lnD),s5',s6,s7])/\l'.length=l.length+m/\Lns zs (n / 18) l'
 |0,l,s5,_,h=>⟨l,s5,rfl,rfl,h⟩
 | m+1,l,s5,hl,h=>by
  have hL:(0:Int) < (zs.length:Int):=by have:=hz.two;omega
  obtain⟨z,e1,e2⟩:=qdP (zs:=zs) ((n / 18+(l.length:Int)) % (zs.length:Int)) (Int.emod_nonneg _ (1:)) (Int.emod_lt_of_pos _ hL)
  have h3:∃q:Int,atI [D.int 9,D.int 2,D.int 2] ((n+(l.length:Int)) % 3)=some (.int q)/\2<=q/\q<=9:=by
   have a0:0<=(n+(l.length:Int)) % 3:=Int.emod_nonneg _ (2:);have a1:(n+(l.length:Int)) % 3 < 3:=Int.emod_lt_of_pos _ (2:)
   have:(n+(l.length:Int)) % 3=0\/(n+(l.length:Int)) % 3=1\/(n+(l.length:Int)) % 3=2:=by omega
   rcases this with e | e | e<;>rw[e]
   ·exact⟨9,rfl,by decide,by decide⟩
   ·exact⟨2,rfl,by decide,by decide⟩
   ·exact⟨2,rfl,by decide,by decide⟩
  obtain⟨q,e3,q2,q9⟩:=h3;have hq:(0:Int) < q:=by omega
  have w0:0<=n / 108 / ((l.length:Int)+1) % q:=Int.emod_nonneg _ (1:);have w1:n / 108 / ((l.length:Int)+1) % q < q:=Int.emod_lt_of_pos _ hq
  obtain⟨l',s5',ih,i1,i2⟩:=Y2 cl v0 v3 s6 s7 n zs hz m (l++[(z,1+n / 108 / ((l.length:Int)+1) % q)]) (.val (.int (l.length:Int))) (by simp;omega) (λi p hp=>by
   by_cases hi:i < l.length
   ·rw[List.getElem?_append_left hi] at hp;exact h i p hp
   ·rw[List.getElem?_append_right (1:)] at hp;have hlt:=(List.getElem?_eq_some_iff.mp hp).1;simp at hlt;have hi:i=l.length:=by omega
    subst hi;simp at hp;subst hp;exact⟨e2,hz.ok z (List.mem_of_getElem? e2),by show 1<=1+_;omega,by show 1+_<=9;omega⟩)
  refine⟨l',s5',?_,by rw[i1];simp;omega,i2⟩
  have hs:l.length < sizeLine:=by show _ < 2 ^ 24;omega
  have two:0+1+1<=sizeLine:=by decide+kernel
  have three:0+1+1+1<=sizeLine:=by decide+kernel
  have hd:(0:Int) < (l.length:Int)+1/\(l.length:Int)+1 < 1073741824:=⟨by omega,by omega⟩;rw[List.length_append,List.length_singleton,show((l.length+1:Nat):Int)=(l.length:Int)+1 from by omega] at ih;simp only[List.map_append,List.map_cons,List.map_nil,ji] at ih;refine(qM _).symm.trans ?_;rw[rgF];simp? only[yR,List.length_map,hL,e1,e3,hd,hq,two,three,hs,ih,ji]
theorem qeG(k:Nat)(c t:Int)(h0:0<=t)(h1:t<=1000000000):∃n,0<=n/\n<=t/\clK pg (k+1) "_law_number" [.val (.int c),.val (.int t)]=.ok (.val (.int n)):=by
 rw[JT];have hp:(0:Int) < t+1:=by omega
 by_cases hc:c % 5=0
 ·refine⟨c / 5 % (t+1),Int.emod_nonneg _ (1:),by have:=Int.emod_lt_of_pos (c / 5) hp;omega,?_⟩;have hb:(c % 5 == 0)=true:=by simpa using hc
  simp? only[zF,qQ,hb,hp]
 ·have hb:(c % 5 == 0)=false:=by simpa using hc
  obtain⟨d,ed⟩:∃d:Int,(if t+1 < 31 then t+1 else 31)=d:=⟨_,rfl⟩;have hd:0 < d/\d<=t+1:=by rw[<-ed];split<;>omega
  refine⟨c / 5 % d,Int.emod_nonneg _ (1:),by have:=Int.emod_lt_of_pos (c / 5) hd.1;omega,?_⟩;simp? only[zF,qQ,hb,ed,hd.1]
structure R12(r:Ru):Prop where
 lands:qu (r.lands.map lnD)=true
 ok:∀p∈r.lands,LnOk p
 most:NumOk r.most
 days:NumOk r.days
 d1:1<=r.days
 row:r.kd=.ro->r.days=1
 nd:(r.lands.map (·.1)).Nodup
 l1:1<=r.lands.length
 l6:r.lands.length<=6
theorem qdW(k:Nat)(c:Int)(zs:List Str)(hz:N6 zs):∃r:Ru,R12 r/\clK pg (k+2) "_law_rule" [.val (.int c),.bor (zs.map D.str)]=.ok (.val (ruD r)):=by
 have hL:(0:Int) < (zs.length:Int):=by have:=hz.two;omega
 have hn:0<=c * 1099087573 % 10000000000037:=Int.emod_nonneg _ (2:);generalize hN:c * 1099087573 % 10000000000037=n at hn;have m0:0<=n / 3 % (zs.length:Int):=Int.emod_nonneg _ (1:);have m1:n / 3 % (zs.length:Int) < zs.length:=Int.emod_lt_of_pos _ hL;have six:=hz.six;obtain⟨m,em⟩:∃m:Nat,1+n / 3 % (zs.length:Int)=(m:Int):=⟨(1+n / 3 % (zs.length:Int)).toNat,by omega⟩;obtain⟨l,s4',e,e1,e2⟩:=Y2 (pg.kk (k+1)) (.val (.int c)) (.val (.int (m:Int))) .no .no n zs hz m [] .no (by simp;omega) (λi p hp=>by simp at hp);simp at e1;rw[List.map_nil,show((([]:List (Str×Int)).length:Nat):Int)=0 from rfl] at e
 have ok:∀p∈l,LnOk p:=λp hp=>by obtain⟨i,hi⟩:=List.getElem?_of_mem hp;exact(e2 i p hi).2
 have nd:=Lns.nodup6 hz e2 (1:);have lok:qu (l.map lnD)=true:=qao ok nd (1:) (1:);obtain⟨t,t0,t1,et⟩:=qeG k (n / 972) 1000000000 (2:) (2:);obtain⟨d,d0,d1,ed⟩:=qeG k (n / 30132) 999999999 (2:) (2:);have mul:qab c 1099087573=true:=qbU (2:) (2:)
 have sm:zl (m:Int)=true:=by unfold zl;simp;omega
 have p9:(10:Int) ^ (9:Int).toNat=1000000000:=by decide
 have c9:(0:Int)<=9/\(9:Int)<=1000000/\(10:Int).natAbs < 2 ^ 64:=by decide
 have m9:(1000000000:Int) - 1=999999999:=by decide
 have four':0+1+1+1+1<=sizeLine:=by decide+kernel
 have zero:(0:Nat)<=sizeLine:=by decide+kernel
 rw[QH]
 by_cases c0:n % 3=0
 ·refine⟨⟨.wi,l,t,1+d⟩,⟨lok,ok,⟨t0,t1⟩,⟨by show 0<=1+d;omega,by show 1+d<=_;omega⟩,by show 1<=1+d;omega,λz=>(by cases z),nd,by show 1<=l.length;omega,by show l.length<=6;omega⟩,?_⟩;have hb:(n % 3 == 0)=true:=by simpa using c0
  simp? only[zH,List.length_map,mul,hN,hL,em,sm,zP,Int.sub_zero,Int.toNat_natCast,e,qQ,hb,four',zero,p9,c9,m9,et,ed,ruD,Kd.nm]
 by_cases c1:n % 3=1
 ·refine⟨⟨.si,l,t,1+d⟩,⟨lok,ok,⟨t0,t1⟩,⟨by show 0<=1+d;omega,by show 1+d<=_;omega⟩,by show 1<=1+d;omega,λz=>(by cases z),nd,by show 1<=l.length;omega,by show l.length<=6;omega⟩,?_⟩;have hb:(n % 3 == 0)=false:=by simpa using c0
  have hc:(n % 3 == 1)=true:=by simpa using c1
  simp? only[zH,List.length_map,mul,hN,hL,em,sm,zP,Int.sub_zero,Int.toNat_natCast,e,qQ,hb,hc,four',zero,p9,c9,m9,et,ed,ruD,Kd.nm]
 ·refine⟨⟨.ro,l,t,1⟩,⟨lok,ok,⟨t0,t1⟩,⟨by show(0:Int)<=1;decide,by show(1:Int)<=1000000000;decide⟩,by show(1:Int)<=1;decide,λ_=>rfl,nd,by show 1<=l.length;omega,by show l.length<=6;omega⟩,?_⟩;have hb:(n % 3 == 0)=false:=by simpa using c0
  have hc:(n % 3 == 1)=false:=by simpa using c1
  simp? only[zH,List.length_map,mul,hN,hL,em,sm,zP,Int.sub_zero,Int.toNat_natCast,e,qQ,hb,hc,four',zero,p9,c9,m9,et,ed,ruD,Kd.nm]
end K12
namespace Dy
abbrev P:=Int×Int
end Dy
namespace DG
open PySem L2 DE FA Dy
def _root_.FA.Kd.cls:Kd->Str
 |.wi=>"Within"
 |.si=>"Since"
 |.ro=>"InRow"
def _root_.FA.Kd.fld:Kd->Str
 |.wi=>"span"
 |.si=>"leave"
 |.ro=>"leave"
noncomputable def ruI(r:Ru):D:=.ins r.kd.cls ["lands","most",r.kd.fld] [.tup (r.lands.map lnD),.int r.most,.int r.days]
def qjn:Option Str->D
 |some z=>.str z
 |none=>.non
def wt:List (Str×Int)->Option Str->Int
 |[],_=>0
 | p::l,o=>if o=some p.1 then p.2 else wt l o
theorem yq{z:Str}(h:NameOk z):PyData.strOk z=true:=by
 unfold PyData.strOk;rw[<-Array.all_toList,List.all_eq_true];intro c hc
 have:=h.lets c hc
 unfold j9 at this;rw[decide_eq_true_eq];omega
theorem qgp{p:Str}(hp:NameOk p){o:Option Str}(ho:∀z,o=some z->NameOk z):eqD (.str p) (qjn o)=some (decide (o=some p)):=by
 cases o with
 |none=>show eqD (.str p) .non=_;rw[qjc (yq hp)];simp
 |some z=>
  show eqD (.str p) (.str z)=_;rw[jP (yq hp) (yq (ho z rfl))]
  congr 1
  rw[Bool.eq_iff_iff,beq_iff_eq,decide_eq_true_eq];constructor
  ·rintro rfl;rfl
  ·intro e;cases e;rfl
theorem yV(cl:Cl)(v:Sl)(o:Option Str)(ho:∀z,o=some z->NameOk z):∀(l:List (Str×Int)) (s2 s3:Sl),(∀p∈l,LnOk p)->∃F,Jm cl 1000 (.many [2,3]) qN (l.map lnD) [v,.val (qjn o),s2,s3]=.ok F/\(F=.ret (.val (.int (wt l o)))\/(wt l o=0/\∃ρ',F=.next ρ'))
 |[],s2,s3,_=>⟨_,rfl,.inr ⟨rfl,_,rfl⟩⟩
 | p::l,s2,s3,h=>by
  obtain⟨F,i,a⟩:=yV cl v o ho l (.val (.str p.1)) (.val (.int p.2)) λq hq=>h q (by simp[hq]);have e:=qgp (h p (by simp)).nm ho;unfold wt
  by_cases hc:o=some p.1
  ·rw[if_pos hc];rw[decide_eq_true hc] at e;refine⟨_,?_,.inl rfl⟩;refine(qM _).symm.trans ?_;rw[List.map_cons];simp? only[zv,ji,e]
  ·rw[if_neg hc];rw[decide_eq_false hc] at e;refine⟨F,?_,a⟩;refine(qM _).symm.trans ?_;rw[List.map_cons];simp? only[zv,ji,e,i]
end DG
namespace K12
open PySem L2 DE DG FA TW
open LC LN LM
def qY(p:Str×Int):Str:=p.1++(" " : Str)++nS p.2
def qv(l:List (Str×Int)):Str:=Str.join ", " (l.map qY)
def qO(h:Str)(r:Ru):Str:=h++(" most " : Str)++nS r.most++(": " : Str)++qv r.lands
noncomputable def qG(r:Ru):Str:=match r.kd with
 |.wi=>("within " : Str)++nS r.days
 |.si=>("since " : Str)++nS r.days
 |.ro=>"row"
theorem qE:(Str.length " " = 1)/\(Str.length ", " = 2)/\(Str.length ": " = 2)/\(Str.length " most " = 6)/\(Str.length "within " = 7)/\(Str.length "since " = 6)/\(Str.length "row" = 3):=by decide+kernel
theorem Y3{p:Str×Int}(h:LnOk p):(qY p).length<=19:=by have h1:p.1.length<=8:=h.nm.eight;have h2:=(zi (n:=p.2) ⟨by have:=h.one;omega,by have:=h.nine;omega⟩).2;unfold qY;rw[Str.length_append,Str.length_append,qE.1];omega
theorem qb6:∀(l:List (Str×Int)),(∀p∈l,LnOk p)->((l.map qY).map (·.length)).sum<=19 * l.length
 |[],_=>by simp
 | p::l,h=>by have h1:=Y3 (h p (by simp));have h2:=qb6 l λq hq=>h q (by simp[hq]);simp only[List.map_cons,List.sum_cons,List.length_cons];omega
theorem zx{l:List (Str×Int)}(h:∀p∈l,LnOk p)(h6:l.length<=6):(qv l).length<=130:=by have h1:=qb6 l h;have h2:=StrLaws.join_length_le (", " : Str) (l.map qY);rw[qE.2.1,List.length_map] at h2;unfold qv;omega
theorem qm{n:Nat}(h:n<=100000):n<=sizeLine:=by show _<=2 ^ 24;omega
theorem Y4(cl:Cl):∀(l:List (Str×Int)) (acc:List D) (s0 s1:Sl),(∀p∈l,LnOk p)->acc.length+l.length < 1000->
  zB cl jq (.many [0,1]) .yes (l.map lnD) [s0,s1] acc=.ok (acc++(l.map qY).map D.str)
 |[],acc,s0,s1,_,_=>by simp[jE]
 | p::l,acc,s0,s1,h,hl=>by
  have hp:=h p (by simp);have h1:p.1.length<=8:=hp.nm.eight;have hn:NumOk p.2:=⟨by have:=hp.one;omega,by have:=hp.nine;omega⟩;have h2:=(zi hn).2
  have f:Jg Str.empty [.str p.1,.str " ",.int p.2]=some (qY p):=by rw[zm (1:) (by rw[Str.length_append];exact qm (by rw[show Str.empty.length=0 from rfl];omega)),Str.empty_append,zm (by decide+kernel) (by rw[Str.length_append,qE.1];exact qm (1:)),yn (zw hn) (by rw[Str.length_append,Str.length_append,qE.1];exact qm (by show _+_+(nS p.2).length<=_;omega)),ym];rfl
  rw[List.length_cons] at hl;have ih:=Y4 cl l (acc++[.str (qY p)]) (.val (.str p.1)) (.val (.int p.2)) (λq hq=>h q (by simp[hq])) (by simp;omega);rw[List.append_assoc] at ih
  have sz:acc.length < sizeLine:=by show _ < 2 ^ 24;omega
  refine(qM _).symm.trans ?_;rw[List.map_cons,List.map_cons,List.map_cons];simp? only[JR,ji,f,sz,ih,List.singleton_append]
theorem Y5(r:Ru):qct pg.cs (.val (ruI r)) "lands" = some (.tup (r.lands.map lnD)):=by obtain⟨kd,l,m,d⟩:=r;cases kd<;>rfl
theorem qdX(r:Ru):qct pg.cs (.val (ruI r)) "most" = some (.int r.most):=by obtain⟨kd,l,m,d⟩:=r;cases kd<;>rfl
theorem qaq(k:Nat)(h:Str)(hh:h.length<=20)(r:Ru)(hr:R12 r):clK pg (k+1) "line_of" [.val (.str h),.val (ruI r)]=.ok (.val (.str (qO h r))):=by
 have c:=Y4 (pg.kk k) r.lands [] .no .no hr.ok (by have:=hr.l6;simp;omega);rw[List.nil_append] at c;have l1:=hr.l1;have l6:=hr.l6;have s1:=qb6 r.lands hr.ok;have j:qcu "join" ", " [.val (.lst ((r.lands.map qY).map D.str))]=.ok (.val (.str (Txt.join ", " (r.lands.map qY)))):=qgf (.inl rfl) (by rw[qE.2.1,List.length_map];omega);rw[qgj] at j;have tl:=zx hr.ok l6;have nl:=(zi hr.most).2
 have f:Jg Str.empty [.str h,.str " most ",.int r.most,.str ": ",.str (qv r.lands)]=some (qO h r):=by
  have e0:Str.empty.length=0:=rfl;have b1:(Str.empty++h).length=h.length:=by rw[Str.empty_append]
  have b2:(Str.empty++h++(" most " : Str)).length=h.length+6:=by rw[Str.length_append,b1,qE.2.2.2.1]
  have b3:(Str.empty++h++(" most " : Str)++nS r.most).length=h.length+6+(nS r.most).length:=by rw[Str.length_append,b2]
  have b4:(Str.empty++h++(" most " : Str)++nS r.most++(": " : Str)).length=h.length+6+(nS r.most).length+2:=by rw[Str.length_append,b3,qE.2.2.1]
  rw[zm (1:) (by rw[b1];exact qm (1:)),zm (by decide+kernel) (by rw[b2];exact qm (1:)),yn (zw hr.most) (by rw[b3];exact qm (1:)),zm (by decide+kernel) (by rw[b4];exact qm (1:)),zm (1:) (by rw[Str.length_append,b4];exact qm (1:)),ym,Str.empty_append];rfl
 have sz:(r.lands.map lnD).length<=sizeLine:=by rw[List.length_map];exact qm (1:)
 rw[qbY];unfold qv at f;have cs:(pg.kk k).cs=pg.cs:=rfl;generalize hx:ruI r=x;have f1:=Y5 r;have f2:=qdX r;rw[hx] at f1 f2;simp? only[YT,cs,f1,f2,sz,qae,c,j,f]
end K12
namespace K12
open PySem L2 DE DG FA TW
open LC LN LM
theorem JW{r:Ru}(hr:R12 r):(qG r).length<=20:=by
 have h:=(zi hr.days).2;unfold qG;cases r.kd
 ·show(("within " : Str)++nS r.days).length<=20;rw[Str.length_append,qE.2.2.2.2.1];omega
 ·show(("since " : Str)++nS r.days).length<=20;rw[Str.length_append,qE.2.2.2.2.2.1];omega
 ·show Str.length "row"<=20
  decide+kernel
def qkV(r:Ru):Str:=match r.kd with
 |.wi=>"Within.line"
 |.si=>"Since.line"
 |.ro=>"InRow.line"
theorem qgq(r:Ru):mtD pg.cs (.val (ruI r)) "line" = some (qkV r):=by obtain⟨kd,l,m,d⟩:=r;cases kd<;>rfl
theorem qgr(k:Nat)(r:Ru)(hr:R12 r):clK pg (k+2) (qkV r) [.val (ruI r)]=.ok (.val (.str (qO (qG r) r))):=by
 have c:=qaq k (qG r) (JW hr) r hr;have nl:=(zi hr.days).2;have cs:(pg.kk (k+1)).cs=pg.cs:=rfl;obtain⟨kd,l,m,d⟩:=r;have e0:Str.empty.length=0:=rfl;have nl:(nS d).length<=10:=nl;have sd:d.natAbs.log2 < 1920:=zw hr.days
 cases kd with
 |wi=>
  have f:Jg Str.empty [.str "within ",.int d]=some (("within " : Str)++nS d):=by rw[zm (by decide+kernel) (by decide+kernel),Str.empty_append,yn sd (by rw[Str.length_append,qE.2.2.2.2.1];exact qm (by show 7+(nS d).length<=_;omega)),ym]
  have fs:qct pg.cs (.val (ruI ⟨.wi,l,m,d⟩)) "span" = some (.int d):=rfl;have c:clK pg (k+1) "line_of" [.val (.str (("within " : Str)++nS d)),.val (ruI ⟨.wi,l,m,d⟩)]=.ok (.val (.str (qO (("within " : Str)++nS d) ⟨.wi,l,m,d⟩))):=c;show clK pg (k+2) "Within.line" [.val (ruI ⟨.wi,l,m,d⟩)]=.ok (.val (.str (qO (("within " : Str)++nS d) ⟨.wi,l,m,d⟩)));generalize ruI ⟨.wi,l,m,d⟩=x at *;rw[JV];simp? only[jH,cs,fs,f,c]
 |si=>
  have f:Jg Str.empty [.str "since ",.int d]=some (("since " : Str)++nS d):=by rw[zm (by decide+kernel) (by decide+kernel),Str.empty_append,yn sd (by rw[Str.length_append,qE.2.2.2.2.2.1];exact qm (by show 6+(nS d).length<=_;omega)),ym]
  have fs:qct pg.cs (.val (ruI ⟨.si,l,m,d⟩)) "leave" = some (.int d):=rfl;have c:clK pg (k+1) "line_of" [.val (.str (("since " : Str)++nS d)),.val (ruI ⟨.si,l,m,d⟩)]=.ok (.val (.str (qO (("since " : Str)++nS d) ⟨.si,l,m,d⟩))):=c;show clK pg (k+2) "Since.line" [.val (ruI ⟨.si,l,m,d⟩)]=.ok (.val (.str (qO (("since " : Str)++nS d) ⟨.si,l,m,d⟩)));generalize ruI ⟨.si,l,m,d⟩=x at *;rw[YX];simp? only[j0,cs,fs,f,c]
 |ro=>have c:clK pg (k+1) "line_of" [.val (.str "row"),.val (ruI ⟨.ro,l,m,d⟩)]=.ok (.val (.str (qO "row" ⟨.ro,l,m,d⟩))):=c;show clK pg (k+2) "InRow.line" [.val (ruI ⟨.ro,l,m,d⟩)]=.ok (.val (.str (qO "row" ⟨.ro,l,m,d⟩)));generalize ruI ⟨.ro,l,m,d⟩=x at *;rw[YY];simp? only[j3,c]
theorem Y6(y z:Str):∀(l:List Str),l≠[]->Str.join y (l++[z])=Str.join y l++y++z
 |[],h=>absurd rfl h
 |[a],_=>rfl
 | a::b::l,_=>by have ih:=Y6 y z (b::l) (by simp);show a++y++Str.join y ((b::l)++[z])=a++y++Str.join y (b::l)++y++z;rw[ih];simp only[Str.append_assoc]
theorem qb7(p:Str×Int)(h:LnOk p)(l:List (Str×Int)):qv (p::l)≠"":=λe=>by
 have h1:1<=p.1.length:=h.nm.one
 have:=congrArg Str.length e
 cases l with
 |nil=>have e:(qY p).length=0:=this;unfold qY at e;rw[Str.length_append,Str.length_append] at e;omega
 |cons q l=>have e:(qY p++(", " : Str)++qv (q::l)).length=0:=this;unfold qY at e;rw[Str.length_append,Str.length_append,Str.length_append,Str.length_append] at e;omega
theorem jj{a b:Str}(ha:PyData.strOk a=true)(hb:PyData.strOk b=true):PyData.strOk (a++b)=true:=by unfold PyData.strOk at *;rw[Str.cps_append,Array.all_append,ha,hb];rfl
theorem ZF{n:Int}(h:NumOk n):PyData.strOk (nS n)=true:=by
 unfold PyData.strOk;rw[<-Array.all_toList,List.all_eq_true];intro c hc
 have:=yo h c hc
 unfold Y0 at this;rw[decide_eq_true_eq];omega
theorem qb8{p:Str×Int}(h:LnOk p):PyData.strOk (qY p)=true:=jj (jj (yq h.nm) (by decide+kernel)) (ZF ⟨by have:=h.one;omega,by have:=h.nine;omega⟩)
theorem JX:∀(l:List (Str×Int)),(∀p∈l,LnOk p)->PyData.strOk (qv l)=true
 |[],_=>by decide+kernel
 |[p],h=>qb8 (h p (by simp))
 | p::q::l,h=>by have ih:=JX (q::l) λx hx=>h x (by simp only[List.mem_cons] at hx ⊢;exact .inr hx);exact jj (jj (qb8 (h p (by simp))) (by decide+kernel)) ih
theorem qgs{r:Ru}(hr:R12 r):PyData.strOk (qG r)=true:=by
 unfold qG;cases r.kd
 ·exact jj (by decide+kernel) (ZF hr.days)
 ·exact jj (by decide+kernel) (ZF hr.days)
 ·show PyData.strOk "row" = true
  decide+kernel
theorem qgt{r:Ru}(hr:R12 r):PyData.strOk (qO (qG r) r)=true:=jj (jj (jj (jj (qgs hr) (by decide+kernel)) (ZF hr.most)) (by decide+kernel)) (JX _ hr.ok)
theorem Js:qv [] = "":=by decide+kernel
theorem QQ(p:Str×Int)(l:List (Str×Int))(h:l≠[]):qv (l++[p])=qv l++(", " : Str)++p.1++(" " : Str)++nS p.2:=by unfold qv;rw[List.map_append,List.map_cons,List.map_nil,Y6 _ _ _ (by simpa using h)];unfold qY;simp only[Str.append_assoc]
theorem jI(cl:Cl)(v0 v1 v2 v3 v4 v5:Sl):∀(l done:List (Str×Int)) (s7 s8:Sl),(∀p∈done++l,LnOk p)->done.length+l.length<=6->
  ∃s7' s8',Jm cl 1000 (.many [7,8]) zI (l.map lnD) [v0,v1,v2,v3,v4,v5,.val (.str (qv done)),s7,s8]=.ok (.next [v0,v1,v2,v3,v4,v5,.val (.str (qv (done++l))),s7',s8'])
 |[],done,s7,s8,_,_=>⟨s7,s8,by rw[List.append_nil];rfl⟩
 | p::l,done,s7,s8,h,hl=>by
  have hp:=h p (by simp);have hn:NumOk p.2:=⟨by have:=hp.one;omega,by have:=hp.nine;omega⟩;have h1:p.1.length<=8:=hp.nm.eight;have h2:=(zi hn).2;rw[List.length_cons] at hl;obtain⟨s7',s8',ih⟩:=jI cl v0 v1 v2 v3 v4 v5 l (done++[p]) (.val (.str p.1)) (.val (.int p.2)) (by rw[List.append_assoc];exact h) (by simp;omega);rw[List.append_assoc] at ih;have tl:=zx (l:=done) (λq hq=>h q (by simp[hq])) (1:);refine⟨s7',s8',?_⟩;have sm:=zw hn;have okd:=JX done λq hq=>h q (by simp[hq]);have ok0:PyData.strOk "" = true:=by decide+kernel
  have e1:=qE.1;have e2:=qE.2.1
  cases done with
  |nil=>
   rw[Js];have q:eqD (.str "") (.str "")=some true:=by rw[jP ok0 ok0];simp
   have e:qv ([]++[p])=(("" : Str)++p.1++(" " : Str)++nS p.2):=by show qY p=_;rw[show("" : Str)=Str.empty by decide+kernel,Str.empty_append];rfl
   rw[e] at ih;have l0:Str.length "" = 0:=by decide+kernel
   have b1:Str.length "" + p.1.length<=sizeLine:=by rw[l0];exact qm (1:)
   have b2:(("" : Str)++p.1).length+Str.length " "<=sizeLine:=by rw[Str.length_append,l0,e1];exact qm (1:)
   have b3:(("" : Str)++p.1++(" " : Str)).length+(nS p.2).length<=sizeLine:=by rw[Str.length_append,Str.length_append,l0,e1];exact qm (1:)
   refine(qM _).symm.trans ?_;rw[List.map_cons];simp? only[zW,ji,q,Bool.not_true,b1,b2,b3,sm,ih]
  |cons d done=>
   have ne:=qb7 d (h d (by simp)) done
   have q:eqD (.str (qv (d::done))) (.str "")=some false:=by
    rw[jP okd ok0]
    simpa using ne
   have e:=QQ p (d::done) (by simp);rw[e] at ih;generalize qv (d::done)=P at *;have b0:P.length+Str.length ", "<=sizeLine:=by rw[e2];exact qm (1:)
   have b1:(P++(", " : Str)).length+p.1.length<=sizeLine:=by rw[Str.length_append,e2];exact qm (1:)
   have b2:(P++(", " : Str)++p.1).length+Str.length " "<=sizeLine:=by rw[Str.length_append,Str.length_append,e2,e1];exact qm (1:)
   have b3:(P++(", " : Str)++p.1++(" " : Str)).length+(nS p.2).length<=sizeLine:=by rw[Str.length_append,Str.length_append,Str.length_append,e2,e1];exact qm (1:)
   refine(qM _).symm.trans ?_;rw[List.map_cons];simp? only[zW,ji,q,Bool.not_false,b0,b1,b2,b3,sm,ih]
theorem jS(k:Nat)(r:Ru)(hr:R12 r):clK pg (k+1) "_law_line" [.val (ruD r)]=.ok (.val (.str (qO (qG r) r))):=by
 have l6:=hr.l6;have tl:=zx hr.ok l6;have nl:=(zi hr.most).2;have dl:=(zi hr.days).2;have sd:=zw hr.days;have sm:=zw hr.most;have hl:=JW hr;have e2:=qE.2.2.2.1;have e3:=qE.2.2.1;obtain⟨kd,l,m,d⟩:=r
 have fin:∀(H:Str),H.length<=20->(H.length+Str.length " most "<=sizeLine)/\((H++(" most " : Str)).length+(nS m).length<=sizeLine)/\((H++(" most " : Str)++nS m).length+Str.length ": "<=sizeLine)/\((H++(" most " : Str)++nS m++(": " : Str)).length+(qv l).length<=sizeLine):=λH hH=>by have nl:(nS m).length<=10:=nl;have tl:(qv l).length<=130:=tl;simp only[Str.length_append,e2,e3];exact⟨qm (1:),qm (1:),qm (1:),qm (1:)⟩
 obtain⟨b1,b2,b3,b4⟩:=fin (qG ⟨kd,l,m,d⟩) hl;have t7:Str.length " " = 1:=qE.1;rw[QI];have h0:qv [] = "":=Js
 cases kd with
 |wi=>
  have q:eqD (.str "within") (.str "row")=some false:=by decide+kernel
  have hd:qG ⟨.wi,l,m,d⟩=("within" : Str)++(" " : Str)++nS d:=by show("within " : Str)++nS d=_;rw[show("within " : Str)=("within" : Str)++(" " : Str) by decide+kernel]
  rw[hd] at b1 b2 b3 b4 ⊢;have x1:Str.length "within" + Str.length " "<=sizeLine:=by decide+kernel
  have x2:(("within" : Str)++(" " : Str)).length+(nS d).length<=sizeLine:=by have dl:(nS d).length<=10:=dl;rw[Str.length_append,t7,show Str.length "within" = 6 by decide+kernel];exact qm (1:)
  obtain⟨s7,s8,lp⟩:=jI (pg.kk k) (.val (ruD ⟨.wi,l,m,d⟩)) (.val (.str "within")) (.val (.lst (l.map lnD))) (.val (.int m)) (.val (.int d)) (.val (.str (("within" : Str)++(" " : Str)++nS d))) l [] .no .no hr.ok (by simpa using l6);rw[h0,List.nil_append] at lp;unfold ruD Kd.nm at lp ⊢;dsimp only at lp ⊢;unfold qO;simp? only[zJ,q,Bool.not_false,x1,x2,sd,sm,lp,b1,b2,b3,b4]
 |si=>
  have q:eqD (.str "since") (.str "row")=some false:=by decide+kernel
  have hd:qG ⟨.si,l,m,d⟩=("since" : Str)++(" " : Str)++nS d:=by show("since " : Str)++nS d=_;rw[show("since " : Str)=("since" : Str)++(" " : Str) by decide+kernel]
  rw[hd] at b1 b2 b3 b4 ⊢;have x1:Str.length "since" + Str.length " "<=sizeLine:=by decide+kernel
  have x2:(("since" : Str)++(" " : Str)).length+(nS d).length<=sizeLine:=by have dl:(nS d).length<=10:=dl;rw[Str.length_append,t7,show Str.length "since" = 5 by decide+kernel];exact qm (1:)
  obtain⟨s7,s8,lp⟩:=jI (pg.kk k) (.val (ruD ⟨.si,l,m,d⟩)) (.val (.str "since")) (.val (.lst (l.map lnD))) (.val (.int m)) (.val (.int d)) (.val (.str (("since" : Str)++(" " : Str)++nS d))) l [] .no .no hr.ok (by simpa using l6);rw[h0,List.nil_append] at lp;unfold ruD Kd.nm at lp ⊢;dsimp only at lp ⊢;unfold qO;simp? only[zJ,q,Bool.not_false,x1,x2,sd,sm,lp,b1,b2,b3,b4]
 |ro=>
  have q:eqD (.str "row") (.str "row")=some true:=by decide+kernel
  have hd:qG ⟨.ro,l,m,d⟩ = "row":=rfl;rw[hd] at b1 b2 b3 b4 ⊢;obtain⟨s7,s8,lp⟩:=jI (pg.kk k) (.val (ruD ⟨.ro,l,m,d⟩)) (.val (.str "row")) (.val (.lst (l.map lnD))) (.val (.int m)) (.val (.int d)) (.val (.str "row")) l [] .no .no hr.ok (by simpa using l6);rw[h0,List.nil_append] at lp;unfold ruD Kd.nm at lp ⊢;dsimp only at lp ⊢;unfold qO;simp? only[zJ,q,Bool.not_true,sd,sm,lp,b1,b2,b3,b4]
end K12
namespace K12
open PySem L2 DE DG FA TW
open LC LN LM
theorem qlr:Sep (" " : Str) 32 []:=⟨by decide+kernel,by decide,by decide+kernel⟩
theorem qmb:Sep (", " : Str) 44 [32]:=⟨by decide+kernel,by decide,by decide+kernel⟩
theorem qmc:Sep (": " : Str) 58 [32]:=⟨by decide+kernel,by decide,by decide+kernel⟩
theorem ZG{a b:Str}{c:Nat}(ha:c∉a.cps.toList)(hb:c∉b.cps.toList):c∉(a++b).cps.toList:=by rw[Str.cps_append,Array.toList_append,List.mem_append];exactλh=>h.elim ha hb
theorem qb9{z:Str}(h:NameOk z){c:Nat}(hc:c < 97):c∉z.cps.toList:=λhm=>by
 have:=h.lets c hm
 unfold j9 at this;omega
theorem qgu{p:Str×Int}(h:LnOk p):NumOk p.2:=⟨by have:=h.one;omega,by have:=h.nine;omega⟩
theorem qdY{p:Str×Int}(h:LnOk p):44∉(qY p).cps.toList:=ZG (ZG (qb9 h.nm (2:)) (by decide+kernel)) (ZE (qgu h) (.inl (2:)))
theorem qar{p:Str×Int}(h:LnOk p):Txt.split (qY p) " " = [p.1,nS p.2]:=
 z7 qlr [p.1,nS p.2] (by simp) λz hz=>by
  simp only[List.mem_cons,List.not_mem_nil,or_false] at hz;rcases hz with rfl | rfl
  ·exact qb9 h.nm (2:)
  ·exact ZE (qgu h) (.inl (2:))
theorem QR{l:List (Str×Int)}(h:∀p∈l,LnOk p)(h0:l≠[]):Txt.split (qv l) ", " = l.map qY:=
 z7 qmb (l.map qY) (by simpa using h0) λz hz=>by obtain⟨p,hp,rfl⟩:=List.mem_map.mp hz;exact qdY (h p hp)
theorem Y7(k:Nat)(v0:Sl):∀(l done:List (Str×Int)) (s2 s3:Sl),(∀p∈l,LnOk p)->done.length+l.length < 1000->
  ∃s2' s3',Jm (pg.kk (k+3)) 1000 (.one 2) zr ((l.map qY).map D.str) [v0,.own (done.map lnD),s2,s3]=.ok (.next [v0,.own ((done++l).map lnD),s2',s3'])
 |[],done,s2,s3,_,_=>⟨s2,s3,by rw[List.append_nil];rfl⟩
 | p::l,done,s2,s3,h,hl=>by
  have hp:=h p (by simp);rw[List.length_cons] at hl;obtain⟨s2',s3',ih⟩:=Y7 k v0 l (done++[p]) (.val (.str (qY p))) (.own ([p.1,nS p.2].map D.str)) (λq hq=>h q (by simp[hq])) (by simp;omega);rw[List.append_assoc,List.map_append (l₁:=done),List.map_cons,List.map_nil,ji] at ih;refine⟨s2',s3',?_⟩;have tl:=Y3 hp;have c:(Str.length " " == 0)=false/\(qY p).length+2<=sizeLine:=⟨by decide+kernel,qm (1:)⟩;have sp:=qar hp;have rn:=yU k p.2 (qgu hp);have z2:0+1+1<=sizeLine:=by decide+kernel
  have a0:atI [D.str p.1,D.str (nS p.2)] 0=some (.str p.1):=by rfl
  have a1:atI [D.str p.1,D.str (nS p.2)] 1=some (.str (nS p.2)):=by rfl
  have sz:(done.map lnD).length < sizeLine:=by rw[List.length_map];show _ < 2 ^ 24;omega
  have e2:eqD (.int ((0+1+1:Nat):Int)) (.int 2)=some true:=by rw[qQ];rfl
  rw[List.map_cons,List.map_cons];rw[List.map_cons,List.map_cons,List.map_nil] at ih;generalize qY p=X at *;generalize nS p.2=Y at *;refine(qM _).symm.trans ?_;simp? only[ya,c,sp,List.map_cons,List.map_nil,e2,Bool.not_true,a0,a1,rn,z2,sz,ih,List.singleton_append]
theorem Y8(k:Nat)(l:List (Str×Int))(h:∀p∈l,LnOk p)(h0:l≠[])(h6:l.length<=6):clK pg (k+4) "read_lands" [.val (.str (qv l))]=.ok (.tmp (l.map lnD)):=by
 obtain⟨s2,s3,lp⟩:=Y7 k (.val (.str (qv l))) l [] .no .no h (by simp;omega);have sp:=QR h h0;have tl:=zx h h6;have c:(Str.length ", " == 0)=false/\(qv l).length+2<=sizeLine:=⟨by decide+kernel,qm (1:)⟩;have z0:0<=sizeLine:=by decide+kernel
 rw[List.nil_append,List.map_nil] at lp;generalize qv l=X at *;rw[YU];simp? only[jY,z0,c,sp,lp]
noncomputable def JY(r:Ru):List Str:=match r.kd with
 |.wi=>["within",nS r.days,"most",nS r.most]
 |.si=>["since",nS r.days,"most",nS r.most]
 |.ro=>["row","most",nS r.most]
theorem qgv:(" most " : Str)=(" " : Str)++(("most" : Str)++(" " : Str)):=by decide+kernel
theorem Y9(r:Ru):qG r++(" most " : Str)++nS r.most=Str.join " " (JY r):=by
 rw[qgv];unfold qG JY
 cases r.kd with
 |wi=>show("within " : Str)++nS r.days++((" " : Str)++(("most" : Str)++(" " : Str)))++nS r.most=("within" : Str)++(" " : Str)++(nS r.days++(" " : Str)++(("most" : Str)++(" " : Str)++nS r.most));rw[show("within " : Str)=("within" : Str)++(" " : Str) by decide+kernel];simp only[Str.append_assoc]
 |si=>show("since " : Str)++nS r.days++((" " : Str)++(("most" : Str)++(" " : Str)))++nS r.most=("since" : Str)++(" " : Str)++(nS r.days++(" " : Str)++(("most" : Str)++(" " : Str)++nS r.most));rw[show("since " : Str)=("since" : Str)++(" " : Str) by decide+kernel];simp only[Str.append_assoc]
 |ro=>show("row" : Str)++((" " : Str)++(("most" : Str)++(" " : Str)))++nS r.most=("row" : Str)++(" " : Str)++(("most" : Str)++(" " : Str)++nS r.most);simp only[Str.append_assoc]
theorem ZH{r:Ru}(hr:R12 r){c:Nat}(hc:c=32\/c=58):∀z∈JY r,c∉z.cps.toList:=by
 have nd:c∉(nS r.days).cps.toList:=ZE hr.days (1:);have nm:c∉(nS r.most).cps.toList:=ZE hr.most (1:)
 have key:∀z∈(["within","since","row","most"]:List Str),c∉z.cps.toList:=by rcases hc with rfl | rfl<;>decide+kernel
 intro z hz;unfold JY at hz
 cases e:r.kd with
 |wi=>
  rw[e] at hz;simp only[List.mem_cons,List.not_mem_nil,or_false] at hz;rcases hz with rfl | rfl | rfl | rfl
  ·exact key _ (by simp)
  ·exact nd
  ·exact key _ (by simp)
  ·exact nm
 |si=>
  rw[e] at hz;simp only[List.mem_cons,List.not_mem_nil,or_false] at hz;rcases hz with rfl | rfl | rfl | rfl
  ·exact key _ (by simp)
  ·exact nd
  ·exact key _ (by simp)
  ·exact nm
 |ro=>
  rw[e] at hz;simp only[List.mem_cons,List.not_mem_nil,or_false] at hz;rcases hz with rfl | rfl | rfl
  ·exact key _ (by simp)
  ·exact key _ (by simp)
  ·exact nm
theorem qdZ(r:Ru):JY r≠[]:=by unfold JY;cases r.kd<;>simp
theorem qas{r:Ru}(hr:R12 r):Txt.split (qG r++(" most " : Str)++nS r.most) " " = JY r:=by rw[Y9];exact z7 qlr (JY r) (qdZ r) (ZH hr (.inl rfl))
theorem qca{c:Nat}{y:Str}(hy:c∉y.cps.toList):∀(zs:List Str),(∀z∈zs,c∉z.cps.toList)->c∉(Str.join y zs).cps.toList
 |[],_=>by simp[Str.join,Str.empty]
 |[z],h=>h z (by simp)
 | a::b::l,h=>ZG (ZG (h a (by simp)) hy) (qca hy (b::l) λz hz=>h z (.tail _ hz))
theorem qcb{r:Ru}(hr:R12 r):Txt.partition (qO (qG r) r) ": " = (qG r++(" most " : Str)++nS r.most,((": " : Str),qv r.lands)):=by unfold qO;refine qgk qmc _ _ ?_;rw[Y9];exact qca (by decide+kernel) _ (ZH hr (.inr rfl))
noncomputable def qkW(r:Ru):List Ar:=match r.kd with
 |.ro=>[.val (.lst (r.lands.map lnD)),.val (.int r.most)]
 |_=>[.val (.lst (r.lands.map lnD)),.val (.int r.most),.val (.int r.days)]
theorem qjo(j:Nat)(r:Ru)(hr:R12 r):pnw (j+12) r.kd.cls (qkW r)=.ok (.val (ruI r)):=by
 have h1:btw r.most 0 1000000000=true:=by have a:=hr.most.lo;have b:=hr.most.hi;unfold btw;rw[decide_eq_true a,decide_eq_true b];rfl
 have h2:btw r.days 1 1000000000=true:=by have a:=hr.d1;have b:=hr.days.hi;unfold btw;rw[decide_eq_true a,decide_eq_true b];rfl
 have hl:=hr.lands;have hrow:=hr.row;obtain⟨kd,l,m,d⟩:=r;have hl:qu (l.map lnD)=true:=hl;have h1:btw m 0 1000000000=true:=h1;have h2:btw d 1 1000000000=true:=h2;unfold pnw;rw[if_neg (1:)]
 cases kd with
 |wi=>show qbT "Within" (if (qu (l.map lnD)&&btw m 0 1000000000&&btw d 1 1000000000)=true then _ else none)=_;rw[if_pos (by rw[hl,h1,h2];rfl)];rfl
 |si=>show qbT "Since" (if (qu (l.map lnD)&&btw m 0 1000000000&&btw d 1 1000000000)=true then _ else none)=_;rw[if_pos (by rw[hl,h1,h2];rfl)];rfl
 |ro=>show qbT "InRow" (if (qu (l.map lnD)&&btw m 0 1000000000)=true then _ else none)=_;rw[if_pos (by rw[hl,h1];rfl)];have e:d=1:=hrow rfl;subst e;rfl
theorem qcc(k:Nat)(r:Ru)(hr:R12 r):clK pg (k+13) "rule_of" [.val (.lst ((JY r).map D.str)),.val (.lst (r.lands.map lnD))]=.ok (.val (ruI r)):=by
 have nw:=qjo k r hr;have rm:clK pg (k+12) "read_number" [.val (.str (nS r.most))]=.ok (.val (.int r.most)):=yU (k+9) r.most hr.most;have rd:clK pg (k+12) "read_number" [.val (.str (nS r.days))]=.ok (.val (.int r.days)):=yU (k+9) r.days hr.days;have wn:(pg.kk (k+12)).nw=pnw (k+12):=rfl;have e43:eqD (.int ((0+1+1+1+1:Nat):Int)) (.int 3)=some false:=by rw[qQ];rfl
 have e44:eqD (.int ((0+1+1+1+1:Nat):Int)) (.int 4)=some true:=by rw[qQ];rfl
 have e33:eqD (.int ((0+1+1+1:Nat):Int)) (.int 3)=some true:=by rw[qQ];rfl
 have q1:eqD (.str "within") (.str "within")=some true:=by decide+kernel
 have q2:eqD (.str "since") (.str "within")=some false:=by decide+kernel
 have q3:eqD (.str "since") (.str "since")=some true:=by decide+kernel
 have q4:eqD (.str "row") (.str "row")=some true:=by decide+kernel
 have q5:eqD (.str "most") (.str "most")=some true:=by decide+kernel
 obtain⟨kd,l,m,d⟩:=r;rw[qbZ]
 cases kd with
 |wi=>
  have nw:pnw (k+12) "Within" [.val (.lst (l.map lnD)),.val (.int m),.val (.int d)]=.ok (.val (ruI ⟨.wi,l,m,d⟩)):=nw;have rm:clK pg (k+12) "read_number" [.val (.str (nS m))]=.ok (.val (.int m)):=rm;have rd:clK pg (k+12) "read_number" [.val (.str (nS d))]=.ok (.val (.int d)):=rd;show runD _ _ _ [.val (.lst [.str "within",.str (nS d),.str "most",.str (nS m)]),.val (.lst (l.map lnD))]=.ok (.val (ruI ⟨.wi,l,m,d⟩));generalize nS m=M at *;generalize nS d=N at *;generalize ruI ⟨.wi,l,m,d⟩=X at *;have a0:atI [D.str "within",D.str N,D.str "most",D.str M] 0=some (.str "within"):=by rfl
  have a1:atI [D.str "within",D.str N,D.str "most",D.str M] 1=some (.str N):=by rfl
  have a2:atI [D.str "within",D.str N,D.str "most",D.str M] 2=some (.str "most"):=by rfl
  have a3:atI [D.str "within",D.str N,D.str "most",D.str M] 3=some (.str M):=by rfl
  simp? only[jG,e43,e44,q1,q5,a0,a1,a2,a3,rm,rd,wn,nw]
 |si=>
  have nw:pnw (k+12) "Since" [.val (.lst (l.map lnD)),.val (.int m),.val (.int d)]=.ok (.val (ruI ⟨.si,l,m,d⟩)):=nw;have rm:clK pg (k+12) "read_number" [.val (.str (nS m))]=.ok (.val (.int m)):=rm;have rd:clK pg (k+12) "read_number" [.val (.str (nS d))]=.ok (.val (.int d)):=rd;show runD _ _ _ [.val (.lst [.str "since",.str (nS d),.str "most",.str (nS m)]),.val (.lst (l.map lnD))]=.ok (.val (ruI ⟨.si,l,m,d⟩));generalize nS m=M at *;generalize nS d=N at *;generalize ruI ⟨.si,l,m,d⟩=X at *;have a0:atI [D.str "since",D.str N,D.str "most",D.str M] 0=some (.str "since"):=by rfl
  have a1:atI [D.str "since",D.str N,D.str "most",D.str M] 1=some (.str N):=by rfl
  have a2:atI [D.str "since",D.str N,D.str "most",D.str M] 2=some (.str "most"):=by rfl
  have a3:atI [D.str "since",D.str N,D.str "most",D.str M] 3=some (.str M):=by rfl
  simp? only[jG,e43,e44,q2,q3,q5,a0,a1,a2,a3,rm,rd,wn,nw]
 |ro=>
  have nw:pnw (k+12) "InRow" [.val (.lst (l.map lnD)),.val (.int m)]=.ok (.val (ruI ⟨.ro,l,m,d⟩)):=nw;have rm:clK pg (k+12) "read_number" [.val (.str (nS m))]=.ok (.val (.int m)):=rm;show runD _ _ _ [.val (.lst [.str "row",.str "most",.str (nS m)]),.val (.lst (l.map lnD))]=.ok (.val (ruI ⟨.ro,l,m,d⟩));generalize nS m=M at *;generalize ruI ⟨.ro,l,m,d⟩=X at *;have a0:atI [D.str "row",D.str "most",D.str M] 0=some (.str "row"):=by rfl
  have a1:atI [D.str "row",D.str "most",D.str M] 1=some (.str "most"):=by rfl
  have a2:atI [D.str "row",D.str "most",D.str M] 2=some (.str M):=by rfl
  simp? only[jG,e33,q4,q5,a0,a1,a2,rm,wn,nw]
theorem yW(k:Nat)(r:Ru)(hr:R12 r):clK pg (k+14) "read_rule" [.val (.str (qO (qG r) r))]=.ok (.val (ruI r)):=by
 have pl:=qcb hr;have sh:=qas hr;have rl:clK pg (k+13) "read_lands" [.val (.str (qv r.lands))]=.ok (.tmp (r.lands.map lnD)):=Y8 (k+9) r.lands hr.ok (λe=>by have:=hr.l1;rw[e] at this;simp at this) hr.l6;have ro:=qcc k r hr;have tl:=zx hr.ok hr.l6;have nl:=(zi hr.most).2;have hl:=JW hr
 have len1:(qG r++(" most " : Str)++nS r.most).length<=40:=by rw[Str.length_append,Str.length_append,qE.2.2.2.1];omega
 have len2:(qO (qG r) r).length<=200:=by unfold qO;rw[Str.length_append,Str.length_append,qE.2.2.1];omega
 have c1:(Str.length ": " == 0)=false/\(qO (qG r) r).length<=sizeLine:=⟨by decide+kernel,qm (1:)⟩;have c2:(Str.length " " == 0)=false/\(qG r++(" most " : Str)++nS r.most).length+2<=sizeLine:=⟨by decide+kernel,qm (1:)⟩;generalize qO (qG r) r=L at *;generalize qG r++(" most " : Str)++nS r.most=A at *;generalize qv r.lands=B at *;generalize ruI r=X at *;have a0:atI [D.str A,D.str ": ",D.str B] 0=some (.str A):=by rfl
 have a2:atI [D.str A,D.str ": ",D.str B] 2=some (.str B):=by rfl
 rw[QG];simp? only[yQ,c1,pl,a0,a2,c2,sh,rl,ro]
end K12
namespace K12
open PySem L2 DE DG FA TW
open LC LN LM
theorem qjp(k:Nat)(r:Ru)(hr:R12 r):clK pg (k+13) "_law_made" [.val (ruD r)]=.ok (.val (ruI r)):=by
 have nw:=qjo k r hr;have wn:(pg.kk (k+12)).nw=pnw (k+12):=rfl;have q1:eqD (.str "within") (.str "within")=some true:=by decide+kernel
 have q2:eqD (.str "since") (.str "within")=some false:=by decide+kernel
 have q3:eqD (.str "since") (.str "since")=some true:=by decide+kernel
 have q4:eqD (.str "row") (.str "within")=some false:=by decide+kernel
 have q5:eqD (.str "row") (.str "since")=some false:=by decide+kernel
 obtain⟨kd,l,m,d⟩:=r;rw[r__law_made]
 cases kd with
 |wi=>have nw:pnw (k+12) "Within" [.val (.lst (l.map lnD)),.val (.int m),.val (.int d)]=.ok (.val (ruI ⟨.wi,l,m,d⟩)):=nw;show runD _ _ _ [.val (.tup [.str "within",.lst (l.map lnD),.int m,.int d])]=.ok (.val (ruI ⟨.wi,l,m,d⟩));generalize ruI ⟨.wi,l,m,d⟩=X at *;simp? only[zE,q1,wn,nw]
 |si=>have nw:pnw (k+12) "Since" [.val (.lst (l.map lnD)),.val (.int m),.val (.int d)]=.ok (.val (ruI ⟨.si,l,m,d⟩)):=nw;show runD _ _ _ [.val (.tup [.str "since",.lst (l.map lnD),.int m,.int d])]=.ok (.val (ruI ⟨.si,l,m,d⟩));generalize ruI ⟨.si,l,m,d⟩=X at *;simp? only[zE,q2,q3,wn,nw]
 |ro=>have nw:pnw (k+12) "InRow" [.val (.lst (l.map lnD)),.val (.int m)]=.ok (.val (ruI ⟨.ro,l,m,d⟩)):=nw;show runD _ _ _ [.val (.tup [.str "row",.lst (l.map lnD),.int m,.int d])]=.ok (.val (ruI ⟨.ro,l,m,d⟩));generalize ruI ⟨.ro,l,m,d⟩=X at *;simp? only[zE,q4,q5,wn,nw]
noncomputable def y7(kd:Kd):List D:=match kd with
 |.wi=>[.bl true,.bl false,.bl false]
 |.si=>[.bl false,.bl true,.bl false]
 |.ro=>[.bl false,.bl true,.bl true]
theorem qgw(k:Nat)(r:Ru):clK pg (k+1) "_law_kind" [.val (ruI r)]=.ok (.tmp (y7 r.kd)):=by
 obtain⟨kd,l,m,d⟩:=r;have z3:0+1+1+1<=sizeLine:=by decide+kernel
 have cs:(pg.kk k).cs=pg.cs:=rfl;rw[QJ]
 cases kd with
 |wi=>have i1:Zj pg.cs (.val (ruI ⟨.wi,l,m,d⟩)) "Within" = some true:=rfl;have i2:Zj pg.cs (.val (ruI ⟨.wi,l,m,d⟩)) "Since" = some false:=rfl;have i3:Zj pg.cs (.val (ruI ⟨.wi,l,m,d⟩)) "InRow" = some false:=rfl;generalize ruI ⟨.wi,l,m,d⟩=X at *;simp? only[zK,cs,i1,i2,i3,z3,y7]
 |si=>have i1:Zj pg.cs (.val (ruI ⟨.si,l,m,d⟩)) "Within" = some false:=rfl;have i2:Zj pg.cs (.val (ruI ⟨.si,l,m,d⟩)) "Since" = some true:=rfl;have i3:Zj pg.cs (.val (ruI ⟨.si,l,m,d⟩)) "InRow" = some false:=rfl;generalize ruI ⟨.si,l,m,d⟩=X at *;simp? only[zK,cs,i1,i2,i3,z3,y7]
 |ro=>have i1:Zj pg.cs (.val (ruI ⟨.ro,l,m,d⟩)) "Within" = some false:=rfl;have i2:Zj pg.cs (.val (ruI ⟨.ro,l,m,d⟩)) "Since" = some true:=rfl;have i3:Zj pg.cs (.val (ruI ⟨.ro,l,m,d⟩)) "InRow" = some true:=rfl;generalize ruI ⟨.ro,l,m,d⟩=X at *;simp? only[zK,cs,i1,i2,i3,z3,y7]
theorem qeH:∀(l:List (Str×Int)) (p:Str×Int),(l.map (·.1)).Nodup->p∈l->wt l (some p.1)=p.2
 |[],p,_,h=>by cases h
 | q::l,p,nd,h=>by
  unfold wt;rw[List.map_cons,List.nodup_cons] at nd;rcases List.mem_cons.mp h with rfl | h
  ·rw[if_pos rfl]
  ·rw[if_neg (λe=>nd.1 (by
    rw[<-Option.some.inj e];exact List.mem_map_of_mem h))]
   exact qeH l p nd.2 h
theorem qat(r:Ru):mtD pg.cs (.val (ruI r)) "weight" = some ("Rule.weight" : Str):=by obtain⟨kd,l,m,d⟩:=r;cases kd<;>rfl
theorem qd0(k:Nat)(r:Ru)(hr:R12 r)(p:Str×Int)(hp:p∈r.lands):clK pg (k+1) "Rule.weight" [.val (ruI r),.val (.str p.1)]=.ok (.val (.int p.2)):=by
 have hn:=hr.ok p hp;rw[JU,<-qeH r.lands p hr.nd hp];obtain⟨F,i,a⟩:=yV (pg.kk k) (.val (ruI r)) (some p.1) (λz e=>by cases e;exact hn.nm) r.lands .no .no hr.ok;have cs:(pg.kk k).cs=pg.cs:=rfl;have f1:=Y5 r;have i:Jm (pg.kk k) 1000 (.many [2,3]) qN (r.lands.map lnD) [.val (ruI r),.val (.str p.1),.no,.no]=.ok F:=i;generalize ruI r=X at *;rcases a with rfl | ⟨i0,ρ',rfl⟩
 ·simp? only[zD,cs,f1,i]
 ·simp? only[zD,cs,f1,i,i0]
theorem qeI(k:Nat)(r:Ru)(hr:R12 r):∀(l:List (Str×Int)) (acc:List D) (s0 s1:Sl),(∀p∈l,p∈r.lands)->acc.length+l.length < 1000->
  zB (pg.kk (k+1)) qS (.many [0,1]) .yes (l.map lnD) [s0,s1,.val (ruI r)] acc=.ok (acc++l.map λp=>D.int p.2)
 |[],acc,s0,s1,_,_=>by simp[jE]
 | p::l,acc,s0,s1,h,hl=>by
  rw[List.length_cons] at hl;have ih:=qeI k r hr l (acc++[.int p.2]) (.val (.str p.1)) (.val (.int p.2)) (λq hq=>h q (by simp[hq])) (by simp;omega);rw[List.append_assoc] at ih;have w:=qd0 k r hr p (h p (by simp));have mt:=qat r;have cs:(pg.kk (k+1)).cs=pg.cs:=rfl
  have sz:acc.length < sizeLine:=by show _ < 2 ^ 24;omega
  generalize ruI r=X at *;refine(qM _).symm.trans ?_;rw[List.map_cons,List.map_cons];simp? only[yb,ji,cs,mt,w,sz,ih,List.singleton_append]
theorem qeJ(k:Nat):∀(l:List (Str×Int)) (acc:List D) (s0 s1:Sl),acc.length+l.length < 1000->
  zB (pg.kk k) zt (.many [0,1]) .yes (l.map lnD) [s0,s1] acc=.ok (acc++l.map λp=>D.int p.2)
 |[],acc,s0,s1,_=>by simp[jE]
 | p::l,acc,s0,s1,hl=>by
  rw[List.length_cons] at hl;have ih:=qeJ k l (acc++[.int p.2]) (.val (.str p.1)) (.val (.int p.2)) (by simp;omega);rw[List.append_assoc] at ih
  have sz:acc.length < sizeLine:=by show _ < 2 ^ 24;omega
  refine(qM _).symm.trans ?_;rw[List.map_cons,List.map_cons];simp? only[yc,ji,sz,ih,List.singleton_append]
theorem qcd:∀(l:List (Str×Int)),qeB (l.map λp=>D.int p.2)=true/\qdH (l.map λp=>D.int p.2)=0
 |[]=>by simp[qeB,qdH]
 | p::l=>by obtain⟨a,b⟩:=qcd l;rw[List.map_cons];exact⟨by simp[qeB,okD,a],by simp[qdH,dpD,b]⟩
theorem ZI(k:Nat)(r:Ru)(hr:R12 r):clK pg (k+3) "_law_right" [.val (ruI r),.val (ruD r)]=.ok (.val (.bl true)):=by
 have ln:=qgr k r hr;have mt:=qgq r;have ll:clK pg (k+2) "_law_line" [.val (ruD r)]=.ok (.val (.str (qO (qG r) r))):=jS (k+1) r hr;have kd:clK pg (k+2) "_law_kind" [.val (ruI r)]=.ok (.tmp (y7 r.kd)):=qgw (k+1) r;have okL:=qgt hr;have qL:eqD (.str (qO (qG r) r)) (.str (qO (qG r) r))=some true:=by rw[jP okL okL];simp
 have cw:zB (pg.kk (k+2)) qS (.many [0,1]) .yes (r.lands.map lnD) [.no,.no,.val (ruI r)] []=_:=qeI (k+1) r hr r.lands [] .no .no (λp hp=>hp) (by have:=hr.l6;simp;omega);have cv:=qeJ (k+2) r.lands [] .no .no (by have:=hr.l6;simp;omega);rw[List.nil_append] at cw cv;have cs:(pg.kk (k+2)).cs=pg.cs:=rfl;have sz:(r.lands.map lnD).length<=sizeLine:=by rw[List.length_map];exact qm (by have:=hr.l6;omega)
 obtain⟨o1,o2⟩:=qcd r.lands;have qW:eqD (.lst (r.lands.map λp=>D.int p.2)) (.lst (r.lands.map λp=>D.int p.2))=some true:=qdI (by simp only[okD];exact o1) (by simp only[dpD];omega);have z3:0+1+1+1<=sizeLine:=by decide+kernel
 have lk:((["within","since","row"]:List Str).zip [D.lst [.bl true,.bl false,.bl false],D.lst [.bl false,.bl true,.bl false],D.lst [.bl false,.bl true,.bl true]]).lookup r.kd.nm=some (.lst (y7 r.kd)):=by cases r.kd<;>rfl
 have dx:qjG (.val (.dct ["within","since","row"] [.lst [.bl true,.bl false,.bl false],.lst [.bl false,.bl true,.bl false],.lst [.bl false,.bl true,.bl true]])) (.val (.str r.kd.nm))=.ok (.val (.lst (y7 r.kd))):=by show(R.of (((["within","since","row"]:List Str).zip [D.lst [.bl true,.bl false,.bl false],D.lst [.bl false,.bl true,.bl false],D.lst [.bl false,.bl true,.bl true]]).lookup r.kd.nm)).th (λd=>R.ok (Rv.val d))=_;rw[lk];rfl
 have qK:eqD (.lst (y7 r.kd)) (.lst (y7 r.kd))=some true:=by cases r.kd<;>decide+kernel
 have a0:atI [D.str r.kd.nm,D.lst (r.lands.map lnD),D.int r.most,D.int r.days] 0=some (.str r.kd.nm):=by rfl
 have a1:atI [D.str r.kd.nm,D.lst (r.lands.map lnD),D.int r.most,D.int r.days] 1=some (.lst (r.lands.map lnD)):=by rfl
 have ru:ruD r=.tup [.str r.kd.nm,.lst (r.lands.map lnD),.int r.most,.int r.days]:=rfl;rw[YV];rw[ru] at ll ⊢;generalize qO (qG r) r=L at *;generalize ruI r=X at *;generalize y7 r.kd=KL at *;generalize r.kd.nm=NM at *;generalize qkV r=CT at *;simp? only[jZ,cs,mt,ln,qL,ll,kd,z3,dx,a0,a1,qK,Bool.not_true,qae,qhL,List.getD_cons_succ,List.getD_cons_zero,sz,cw,cv,qW]
theorem qjq(k:Nat)(v0 v1 v2 v3 s6:Sl):∀(l done:List Ru) (s5:Sl),(∀r∈l,R12 r)->done.length+l.length < 1000->
  ∃s5',Jm (pg.kk (k+14)) 1000 (.one 5) QL (l.map ruD) [v0,v1,v2,v3,.own (done.map ruI),s5,s6]=.ok (.next [v0,v1,v2,v3,.own ((done++l).map ruI),s5',s6])
 |[],done,s5,_,_=>⟨s5,by rw[List.append_nil];rfl⟩
 | r::l,done,s5,h,hl=>by
  have hr:=h r (by simp);rw[List.length_cons] at hl;obtain⟨s5',ih⟩:=qjq k v0 v1 v2 v3 s6 l (done++[r]) (.val (ruD r)) (λq hq=>h q (by simp[hq])) (by simp;omega);rw[List.append_assoc,List.map_append (l₁:=done),List.map_cons,List.map_nil] at ih;refine⟨s5',?_⟩;have m:clK pg (k+14) "_law_made" [.val (ruD r)]=.ok (.val (ruI r)):=qjp (k+1) r hr;have rt:clK pg (k+14) "_law_right" [.val (ruI r),.val (ruD r)]=.ok (.val (.bl true)):=ZI (k+11) r hr;have ll:clK pg (k+14) "_law_line" [.val (ruD r)]=.ok (.val (.str (qO (qG r) r))):=jS (k+13) r hr;have rr:=yW k r hr
  have sz:(done.map ruI).length < sizeLine:=by rw[List.length_map];show _ < 2 ^ 24;omega
  rw[List.map_cons];generalize ruD r=A at *;generalize ruI r=B at *;generalize qO (qG r) r=L at *;refine(qM _).symm.trans ?_;simp? only[qb1,m,rt,ll,rr,sz,ih,List.singleton_append]
theorem qjr(k:Nat)(v0 v1 v2 v3 v4:Sl):∀(l:List Ru) (s5 s6:Sl),(∀r∈l,R12 r)->
  ∃s5' s6',Jm (pg.kk (k+14)) 1000 (.many [6,5]) QM (qax (l.map ruI) (l.map ruD)) [v0,v1,v2,v3,v4,s5,s6]=.ok (.next [v0,v1,v2,v3,v4,s5',s6'])
 |[],s5,s6,_=>⟨s5,s6,rfl⟩
 | r::l,s5,s6,h=>by have hr:=h r (by simp);obtain⟨s5',s6',ih⟩:=qjr k v0 v1 v2 v3 v4 l (.val (ruD r)) (.val (ruI r)) (λq hq=>h q (by simp[hq]));refine⟨s5',s6',?_⟩;have rt:clK pg (k+14) "_law_right" [.val (ruI r),.val (ruD r)]=.ok (.val (.bl true)):=ZI (k+11) r hr;have ll:clK pg (k+14) "_law_line" [.val (ruD r)]=.ok (.val (.str (qO (qG r) r))):=jS (k+13) r hr;have rr:=yW k r hr;have e:qax ((r::l).map ruI) ((r::l).map ruD)=.tup [ruI r,ruD r]::qax (l.map ruI) (l.map ruD):=rfl;rw[e];generalize ruD r=A at *;generalize ruI r=B at *;generalize qO (qG r) r=L at *;refine(qM _).symm.trans ?_;simp? only[qb2,rt,ll,rr,ih]
theorem Jt(k:Nat)(zs:List Str)(hz:N6 zs):∀(cs:List Int) (acc:List Ru) (s0:Sl),(∀r∈acc,R12 r)->acc.length+cs.length < 1000->
  ∃rs:List Ru,(∀r∈rs,R12 r)/\rs.length=acc.length+cs.length/\zB (pg.kk (k+2)) QK (.one 0) .yes (cs.map D.int) [s0,.bor (zs.map D.str)] (acc.map ruD)=.ok (rs.map ruD)
 |[],acc,s0,h,_=>⟨acc,h,rfl,rfl⟩
 | c::cs,acc,s0,h,hl=>by
  rw[List.length_cons] at hl;obtain⟨r,hr,e⟩:=qdW k c zs hz
  obtain⟨rs,h1,h2,h3⟩:=Jt k zs hz cs (acc++[r]) (.val (.int c)) (λq hq=>by
   rcases List.mem_append.mp hq with q' | q'
   ·exact h q q'
   ·rw[List.mem_singleton.mp q'];exact hr) (by simp;omega)
  refine⟨rs,h1,by rw[h2];simp;omega,?_⟩;rw[List.map_append,List.map_cons,List.map_nil] at h3
  have sz:(acc.map ruD).length < sizeLine:=by rw[List.length_map];show _ < 2 ^ 24;omega
  generalize ruD r=A at *;refine(qM _).symm.trans ?_;rw[List.map_cons];simp? only[qb0,e,sz,h3]
theorem qjs(ns:List Int)(a b:Nat):∃ms:List Int,qde (ns.map D.int) (some (a:Int)) (some (b:Int))=ms.map D.int/\ms.length<=b - a:=by
 refine⟨(ns.drop (min a ns.length)).take (min b ns.length - min a ns.length),?_,?_⟩
 ·unfold qde;rw[HT.Qh,HT.Qh,List.length_map,List.map_take,List.map_drop]
 ·refine Nat.le_trans (List.length_take_le ..) ?_;rcases Nat.le_total a ns.length with h | h
  ·rw[Nat.min_eq_left h];exact Nat.sub_le_sub_right (Nat.min_le_left ..) a
  ·rw[Nat.min_eq_right h,Nat.sub_eq_zero_of_le (Nat.min_le_right ..)];exact Nat.zero_le _
theorem qce(l:List D)(i:Nat):qde l none (some (i:Int))=l.take i:=by
 unfold qde;rw[HT.qcO,HT.Qh];simp only[List.drop_zero,Nat.sub_zero]
 by_cases h:i<=l.length
 ·rw[Nat.min_eq_left h]
 ·rw[Nat.min_eq_right (1:),List.take_length,List.take_of_length_le (1:)]
theorem qd1(ns:List Int):clK pg 20 "law" [.scr (ns.map D.int)]=.ok (.val (.bl true)):=by
 have c0:clK pg 19 "_law_cell_at" [.scr (ns.map D.int),.val (.int 0)]=.ok (.val (.int (zU ns 0))):=qbV 18 ns 0;have c1:clK pg 19 "_law_cell_at" [.scr (ns.map D.int),.val (.int 1)]=.ok (.val (.int (zU ns 1))):=qbV 18 ns 1;obtain⟨zs,ez,lz,hz⟩:=qjm 18 (zU ns 0);obtain⟨ms,em,lm⟩:=qjs ns 2 16;have em:qde (ns.map D.int) (some 2) (some 16)=ms.map D.int:=em;have w4:0+1+1+1+1<=sizeLine:=by decide+kernel
 have X:∃zs' s2,N6 zs'/\∀{β:Type} (K:Fl->R β),(iS (pg.kk 19) 1000 (.ite (.cmp .Eq (.bin .Mod (.bin .FloorDiv (.call "_law_cell_at" %[0,.con (D.int 0)|0]) (.con (D.int 512))) (.con (D.int 3))) (.con (D.int 1))) %[.set 2 (.lst %[.con (D.str "most"),.con (D.str "row"),.con (D.str "since"),.con (D.str "within")|0]),.set 1 (.sli (.bin .Add (.var 2) (.comp yS (I.seq (.var 1)) (Tg.one 0) (.test (.cmp .NotIn (.var 0) (.var 1))) 1 [2])) .none (.some (.con (D.int 6))))|0] .nil) [.scr (ns.map D.int),.own (zs.map D.str),.no,.no,.no,.no,.no]).th K=K (.next [.scr (ns.map D.int),.own (zs'.map D.str),s2,.no,.no,.no,.no]):=by
  by_cases h:(zU ns 0 / 512 % 3 == 1)=true
  ·refine⟨QP zs,.own (zL.map D.str),qdV hz lz,λK=>?_⟩;have oc:=jR 19 zs [] .no (by simp;omega);rw[List.nil_append] at oc;have oc:zB (pg.kk 19) yS (.one 0) (F.test (T.cmp CmpOp.NotIn (E.var 0) (E.var 1))) (zs.map D.str) [.no,.bor [.str "most",.str "row",.str "since",.str "within"]] []=_:=oc;have lf:=List.length_filter_le (λz=>!zL.contains z) zs;have z1:(zs.map D.str).length<=sizeLine:=by rw[List.length_map];exact qm (1:)
   have z2:0+1+1+1+1+((zs.filter λz=>!zL.contains z).map D.str).length<=sizeLine:=by rw[List.length_map];exact qm (1:)
   have tc:qde (.str "most" :: .str "row" :: .str "since" :: .str "within" :: (zs.filter λz=>!zL.contains z).map D.str) none (some 6)=(QP zs).map D.str:=by
    have:=qce ([.str "most",.str "row",.str "since",.str "within"]++(zs.filter λz=>!zL.contains z).map D.str) 6
    unfold QP;rw[List.map_take,List.map_append];exact this
   have wm:zL.map D.str=[.str "most",.str "row",.str "since",.str "within"]:=rfl;rw[wm];simp? only[c0,qQ,h,w4,z1,qae,qhL,List.getD_cons_succ,List.getD_cons_zero,oc,z2,tc]
  ·have h:(zU ns 0 / 512 % 3 == 1)=false:=by simpa using h
   exact⟨zs,.no,hz,λK=>by simp? only[c0,qQ,h]⟩
 obtain⟨zs',s2,hz',X⟩:=X;obtain⟨rs,r1,r2,r3⟩:=Jt 17 zs' hz' (zU ns 1::ms) [] .no (λr h=>by cases h) (by simp;omega);rw[List.map_nil,List.map_cons] at r3;simp only[List.length_nil,List.length_cons] at r2;obtain⟨s5,l0⟩:=qjq 5 (.scr (ns.map D.int)) (.own (zs'.map D.str)) s2 (.val (.lst (rs.map ruD))) .no rs [] .no r1 (by simp;omega);rw[List.map_nil,List.nil_append] at l0;obtain⟨s5',s6',l1⟩:=qjr 5 (.scr (ns.map D.int)) (.own (zs'.map D.str)) s2 (.val (.lst (rs.map ruD))) (.val (.lst (rs.map ruI))) rs s5 .no r1;have b1:0+1+(ms.map D.int).length<=sizeLine:=by rw[List.length_map];exact qm (1:)
 have b2:(ms.map D.int).length+1<=sizeLine:=by rw[List.length_map];exact qm (1:)
 have o1:0+1<=sizeLine:=by decide+kernel
 have z0:0<=sizeLine:=by decide+kernel
 rw[qkU];simp? only[qjk,c0,c1,ez,↓X,em,o1,z0,b1,b2,List.singleton_append,qae,qhL,List.getD_cons_succ,List.getD_cons_zero,r3,l0,l1]
end K12
namespace DE
open PySem PySem.Spec PyProof.Rows L2
def jJ(G G' H:Hp):Prop:=∀a o,G' a=some o->(∃o',G a=some o')\/H a=none
def But(p:Addr)(H H':Hp):Prop:=∀a o,a≠p->H a=some o->H' a=some o
noncomputable def qcf(κ:KC)(K:Frag)(ok:Str->Bool)(go:List Ar->Option (List (Str×D))):Sp:=λvs H Q _=>∃(G:Hp) (c:Str) (C p dx:Addr) (us:List V) (args:List Ar) (fs:List (Str×D)),vs=.ref p::us/\ok c=true/\κ c=some C/\
 H p=some (.ins C dx [])/\G p=none/\qo G H/\jD κ K G H args us/\go args=some fs/\
 ∀G' H' xs,qo G G'->qo G' H'->G' p=none->But p H H'->jJ G G' H->H' p=some (.ins C dx ((fs.map (·.1)).zip xs))->xs.length=fs.length->ql κ G' (fs.map (·.2)) xs->Q .non H'
section
variable{κ:KC}{K:Frag}{G H G' H':Hp}
theorem ZJ{cl:Str->List Ar->R Rv}{f:Str}{args:List Ar}{vs:List V}{r:Rv}{Q:VK}{E:XK}(sub:qo G H)(ha:jD κ K G H args vs)(e:cl f args=.ok r)
  (h:∀v G' H',qo H H'->qo G G'->qo G' H'->jJ G G' H->ReR κ G' H' H r v->Q v H'):spF κ K cl f vs H Q E:=⟨G,args,sub,ha,by rw[e];exact h⟩
theorem ArR.low{a:Ar}{v:V}(h:ArR κ K G H a v)(gs:qo G G')(hs:∀b o,H b=some o->(∀C dx fs,o≠.ins C dx fs)->H' b=some o):(∀l,a≠.scr l)->ArR κ K G' H' a v:=λhn=>by
 cases a with
 |val d=>exact Rep.same gs h
 |bor l=>obtain⟨b,xs,e,h1,h2⟩:=h;exact⟨b,xs,e,hs _ _ h1 (by intros;intro z;cases z),h2.same gs⟩
 |scr l=>exact absurd rfl (hn l)
theorem QS{nw:Str->List Ar->R Rv}{f c:Str}{C:Addr}{ok:Str->Bool}{go:List Ar->Option (List (Str×D))}(hC:κ c=some C)(hok:ok c=true)
  (hgo:∀args r,nw f args=.ok r->(∀a∈args,∀l,a≠.scr l)/\∃fs,go args=some fs/\r=.val (.ins c (fs.map (·.1)) (fs.map (·.2)))) :
  ∀vs H Q,spF κ K nw f vs H Q E0->∀x dx,H x=none->H dx=none->dx≠x->qcf κ K ok go (.ref x::vs) (upd (upd H dx (.own x)) x (.ins C dx [])) (λv H2=>v=.non/\Q (.ref x) H2) E0:=by
 rintro vs H Q ⟨G,args,sub,ha,hw⟩ x dx hx hdx ne
 cases e:nw f args with
 |no=>rw[e] at hw;exact hw.elim
 |exc c l=>rw[e] at hw;exact hw.elim
 |ok r=>
  rw[e] at hw;obtain⟨hs,fs,hg,rfl⟩:=hgo args r e;have gx:G x=none:=qo.none sub hx;have gd:G dx=none:=qo.none sub hdx
  have up:qo H (upd (upd H dx (.own x)) x (.ins C dx [])):=λb o hb=>by
   have nb:b≠x:=λz=>by rw[z,hx] at hb;cases hb
   have nd:b≠dx:=λz=>by rw[z,hdx] at hb;cases hb
   rw[qf nb,qf nd];exact hb
  have ha':∀{args:List Ar} {vs:List V},(∀a∈args,∀l,a≠.scr l)->jD κ K G H args vs->jD κ K G (upd (upd H dx (.own x)) x (.ins C dx [])) args vs:=by
   intro args
   induction args with
   |nil=>intro vs _ h;simp only[jD] at h ⊢;exact h
   |cons a l ih=>intro vs hn h;simp only[jD] at h ⊢;obtain⟨v,r,e,h1,h2⟩:=h;exact⟨v,r,e,h1.low (λ_ _ z=>z) (λb o hb _=>up b o hb) (hn a (List.mem_cons_self ..)),ih (λb hb=>hn b (List.mem_cons_of_mem _ hb)) h2⟩
  refine⟨G,c,C,x,dx,vs,args,fs,rfl,hok,hC,qg,gx,λb o hb=>up b o (sub b o hb),ha' hs ha,hg,λG' H' xs gs sub' gx' but fr hp hl rp=>⟨rfl,?_⟩⟩;refine hw (.ref x) (upd G' x (.ins C dx ((fs.map (·.1)).zip xs))) H' (λb o hb=>?_) (λb o hb=>?_) (λb o hb=>?_) (λb o hb=>?_) ?_
  ·exact but b o (λz=>by rw[z,hx] at hb;cases hb) (up b o hb)
  ·exact qo.upd gx' b o (gs b o hb)
  ·by_cases z:b=x
   ·subst z;rw[qg] at hb;cases hb;exact hp
   ·rw[qf z] at hb;exact sub' b o hb
  ·by_cases z:b=x
   ·subst z;exact .inr hx
   ·rw[qf z] at hb;rcases fr b o hb with q | q
    ·exact .inl q
    ·refine .inr ?_
     cases w:H b with
     |none=>rfl
     | some o'=>rw[up b o' w] at q;cases q
  ·simp only[ReR,Rep];exact⟨x,dx,C,xs,hC,rfl,qg,by rw[hl,List.length_map],rp.same (qo.upd gx')⟩
end
end DE
namespace DG
open PySem PySem.Spec PyProof.Rows L2 DE
theorem ja{G G' H:Hp}{p:Addr}{o:L2.HO}(fr:jJ G G' H)(g:G p=none)(h:H p=some o):G' p=none:=by
 cases e:G' p with
 |none=>rfl
 | some o'=>
  rcases fr p o' e with ⟨o'',z⟩ | z
  ·rw[g] at z;cases z
  ·rw[h] at z;cases z
theorem jJ.trans{G G1 G2 H H1:Hp}(a:jJ G G1 H)(s:qo H H1)(b:jJ G1 G2 H1):jJ G G2 H:=λx o h=>by
 rcases b x o h with ⟨o',z⟩ | z
 ·exact a x o' z
 ·exact .inr (qo.none s z)
theorem jJ.transB{G G1 G2 H H1:Hp}{p:Addr}{o:L2.HO}(a:jJ G G1 H)(s:But p H H1)(hp:H1 p=some o)(b:jJ G1 G2 H1):jJ G G2 H:=λx o h=>by
 rcases b x o h with ⟨o',z⟩ | z
 ·exact a x o' z
 ·refine .inr ?_;have nx:x≠p:=λq=>by rw[q,hp] at z;cases z
  cases w:H x with
  |none=>rfl
  | some o'=>rw[s x o' nx w] at z;cases z
def aA(b:Bool)(l:List D):Ar:=match b with
 |true=>.bor l
 |false=>.val (.lst l)
theorem qcg{a:Ar}{l:List D}(e:arL a=some l):∃b,a=aA b l:=by
 unfold arL at e
 split at e
 ·cases e;exact⟨false,rfl⟩
 ·cases e;exact⟨true,rfl⟩
 ·cases e
theorem ZK{a:Ar}{n:Int}(e:arI a=some n):a=.val (.int n):=by
 unfold arI at e
 split at e
 ·cases e;rfl
 ·cases e
theorem qgx{κ:KC}{K:Frag}{G H:Hp}{b:Bool}{l:List D}{v:V}(sub:qo G H)(h:ArR κ K G H (aA b l) v):∃p xs,v=.ref p/\H p=some (.lst xs)/\ql κ G l xs:=by
 cases b with
 |false=>simp only[aA,ArR,Rep] at h;obtain⟨a,xs,e,h1,h2⟩:=h;exact⟨a,xs,e,sub _ _ h1,h2⟩
 |true=>exact h
theorem Qa{args:List Ar}{fs:List (Str×D)}(h:Zy args=some fs):∃b l m,args=[aA b l,.val (.int m)]/\qu l=true/\btw m 0 1000000000=true/\fs=([("lands",.tup l),("most",.int m)]:List (Str×D)):=by
 unfold Zy at h
 split at h
 ·split at h
  ·rename_i e1 e2
   split at h
   ·rename_i hc;cases h;rw[Bool.and_eq_true] at hc;obtain⟨b,rfl⟩:=qcg e1;obtain rfl:=ZK e2;exact⟨b,_,_,rfl,hc.1,hc.2,rfl⟩
   ·cases h
  ·cases h
 ·cases h
theorem zy{x:Str}{args:List Ar}{fs:List (Str×D)}(h:zQ x args=some fs):∃b l m s,args=[aA b l,.val (.int m),.val (.int s)]/\qu l=true/\btw m 0 1000000000=true/\btw s 1 1000000000=true/\fs=([("lands",.tup l),("most",.int m),(x,.int s)]:List (Str×D)):=by
 unfold zQ at h
 split at h
 ·split at h
  ·rename_i e1 e2 e3
   split at h
   ·rename_i hc;cases h;rw[Bool.and_eq_true,Bool.and_eq_true] at hc;obtain⟨b,rfl⟩:=qcg e1;obtain rfl:=ZK e2;obtain rfl:=ZK e3;exact⟨b,_,_,_,rfl,hc.1.1,hc.1.2,hc.2,rfl⟩
   ·cases h
  ·cases h
 ·cases h
theorem JZ{args:List Ar}{fs:List (Str×D)}(h:qal args=some fs):∃b l m,args=[aA b l,.val (.int m)]/\qu l=true/\btw m 0 1000000000=true/\fs=([("lands",.tup l),("most",.int m),("leave",.int 1)]:List (Str×D)):=by
 unfold qal at h
 split at h
 ·split at h
  ·rename_i e1 e2
   split at h
   ·rename_i hc;cases h;rw[Bool.and_eq_true] at hc;obtain⟨b,rfl⟩:=qcg e1;obtain rfl:=ZK e2;exact⟨b,_,_,rfl,hc.1,hc.2,rfl⟩
   ·cases h
  ·cases h
 ·cases h
theorem Qb{b:Bool}{l:List D}{m:Int}(ol:qu l=true)(om:btw m 0 1000000000=true):Zy [aA b l,.val (.int m)]=some ([("lands",.tup l),("most",.int m)]:List (Str×D)):=by cases b<;>(show(if (qu l&&btw m 0 1000000000)=true then _ else none)=_;rw[if_pos (by rw[ol,om];rfl)])
theorem qch{x:Str}{b:Bool}{l:List D}{m s:Int}(ol:qu l=true)(om:btw m 0 1000000000=true)(os:btw s 1 1000000000=true):zQ x [aA b l,.val (.int m),.val (.int s)]=some ([("lands",.tup l),("most",.int m),(x,.int s)]:List (Str×D)):=by cases b<;>(show(if (qu l&&btw m 0 1000000000&&btw s 1 1000000000)=true then _ else none)=_;rw[if_pos (by rw[ol,om,os];rfl)])
structure Tx(κ:KC)(K:Frag)(mg:PR):Prop where
 tup:mg "tuple" = none
 lst:mg "list" = none
 len:mg "len" = none
 gG:∃t,mg "GREATEST" = some (.int 1000000000 t)
 cls:∀c C,κ c=some C->Cls K C
 nA:∀c x C,pcs.fld c x=true->κ c=some C->zj K C x
theorem ZL{c:Str}(h:rk c=true):pcs.fld c "lands" = true/\pcs.fld c "most" = true:=by
 constructor
 ·show((rk c&&(true||_||_||_))||_)=true;rw[h];rfl
 ·show((rk c&&(false||true||_||_))||_)=true;rw[h];rfl
def okW(c:Str):Bool:=c == "Within"
def okS(c:Str):Bool:=c == "Since" || c == "InRow"
def okI(c:Str):Bool:=c == "InRow"
theorem qjt{c:Str}(h:okW c=true):rk c=true:=by unfold okW at h;unfold rk;rw[h];rfl
theorem qju{c:Str}(h:okS c=true):rk c=true:=by unfold okS at h;unfold rk;rw[Bool.or_assoc,h,Bool.or_true]
theorem qgy{c:Str}(h:okI c=true):okS c=true:=by unfold okI at h;unfold okS;rw[h,Bool.or_true]
theorem qgz{c:Str}(h:okW c=true):pcs.fld c "span" = true:=by
 have e:c = "Within":=by simpa [okW] using h
 subst e;decide
theorem qd2{c:Str}(h:okS c=true):pcs.fld c "leave" = true:=by
 have e:c = "Since"\/c = "InRow":=by simpa [okS] using h
 rcases e with e | e<;>subst e<;>decide
end DG
namespace K12
open PySem PySem.Spec PyProof.Rows L2 DE DG
structure Ck12(pg:Pg)(j:Nat):Prop where
 lands:∀b l,qu l=true->clK pg j "are_lands" [aA b l]=.ok (.val (.bl true))
 btw:∀n a b,btw n a b=true->clK pg j "is_between" [.val (.int n),.val (.int a),.val (.int b)]=.ok (.val (.bl true))
section
variable{P:Program}{wd:World}{κ:KC}{K:Frag}{mg:PR}{base:Heap}{j:Nat}{f:Addr}{fd:FuncData}
theorem qgA:FnScope ["self","lands","most"] ["self","lands","most"] (qk (mem 20 0)):=⟨rfl,rfl,rfl,by decide+kernel,rfl,by decide+kernel,by decide+kernel⟩
theorem ZM(tx:Tx κ K mg)(F:Fun K "__init__" "Rule.__init__" (mem 20 0) f fd)(at_:qaj P wd κ K mg base pg j)(ck:Ck12 pg j):FnOk P wd K mg base CX0 (j+1) f fd ["self","lands","most"] (qcf κ K rk Zy):=by
 obtain⟨fA,dA,FA,mA,kA,bA⟩:=at_.1 "are_lands" (top 19) (by kernel_rfl);obtain⟨fB,dB,FB,mB,kB,bB⟩:=at_.1 "is_between" (top 7) (by kernel_rfl);obtain⟨t1,g1⟩:=tx.gG;refine F.ok qgA (λvs H Q E h=>?_) (λcdv A outer s H vs Q E hr h=>?_)
 ·obtain⟨G,c,C,p,dx,us,args,fs,rfl,_,_,_,_,_,ha,hg,_⟩:=h;obtain⟨b,l,m,rfl,_⟩:=Qa hg
  have:=ha.len
  simp at this;simp[<-this]
 ·obtain⟨G,c,C,p,dx,us,args,fs,rfl,hrk,hC,hp,gp,sub,ha,hg,k1⟩:=h;obtain⟨b,l,m,rfl,ol,om,rfl⟩:=Qa hg;simp only[jD] at ha;obtain⟨v1,us1,rfl,r1,v2,us2,rfl,r2,rfl⟩:=ha;simp only[ArR,Rep] at r2;subst r2;obtain⟨a,xs,rfl,hxa,rl⟩:=qgx sub r1
  refine⟨_,zc (ZP (J3 (QY (jk FA hr (by rfl) mA kA bA .nil jl (qj (pv 1) qw)))) (zz yd) jN)
   (zc (ZP (J3 (QY (jk FB hr (by rfl) mB kB bB .nil jl (qj (pv 2) (qj y8 (qj (jL (v:=.int 1000000000) (by rfl) g1 ⟨_,rfl⟩) qw)))))) (zz yd) jN)
   (zc (Q4 (pv 0) (qJ jw (by rfl) tx.tup PyProof.Rows.boot_tuple (qj (pv 1) qw)) rfl)
   (zz (Q4 (pv 0) (pv 2) rfl)))),?_⟩
  refine⟨_,rfl,ZJ (E:=E0) (G:=G) (args:=[aA b l]) sub ⟨_,_,rfl,r1,rfl⟩ (ck.lands b l ol) λv G1 H1 hs1 gs1 sub1 fr1 rr=>?_⟩;simp only[ReR,Rep] at rr;subst rr;refine⟨_,rfl,?_⟩;refine⟨_,rfl,ZJ (E:=E0) (G:=G1) (args:=[.val (.int m),.val (.int 0),.val (.int 1000000000)]) sub1 ⟨_,_,rfl,by simp only[ArR,Rep],_,_,rfl,by simp only[ArR,Rep],_,_,rfl,by simp only[ArR,Rep],rfl⟩ (ck.btw m 0 1000000000 om) λv G2 H2 hs2 gs2 sub2 fr2 rr=>?_⟩;simp only[ReR,Rep] at rr;subst rr;refine⟨_,rfl,?_⟩;have hp2:H2 p=some (.ins C dx []):=hs2 _ _ (hs1 _ _ hp);have ga2:H2 a=some (.lst xs):=hs2 _ _ (hs1 _ _ hxa);have gp1:G1 p=none:=ja fr1 gp hp;have gp2:G2 p=none:=ja fr2 gp1 (hs1 _ _ hp);refine⟨_,rfl,a,xs,rfl,.inl ⟨SqL.of ga2,λt ht=>?_⟩⟩;have ntp:t≠p:=λz=>by rw[z,hp2] at ht;cases ht
  have gt:G2 t=none:=qo.none sub2 ht;refine⟨_,rfl,p,C,dx,_,rfl,by rw[qf ntp.symm];exact hp2,tx.cls c C hC,tx.nA c _ C (ZL hrk).1 hC,by decide,?_⟩;refine⟨_,rfl,_,rfl,p,C,dx,_,rfl,qg,tx.cls c C hC,tx.nA c _ C (ZL hrk).2 hC,(by show 1 < 1000;decide),?_⟩;refine k1 (upd G2 t (.tup xs)) _ [.ref t,.int m] ?_ ?_ ?_ ?_ ?_ ?_ rfl ?_
  ·exactλb o e=>qo.upd gt b o (gs2 b o (gs1 b o e))
  ·intro b o e
   by_cases z:b=t
   ·subst z;rw[qg] at e;cases e;rw[qf ntp,qf ntp,qg]
   ·rw[qf z] at e;have nb:b≠p:=λq=>by rw[q,gp2] at e;cases e
    rw[qf nb,qf nb,qf z];exact sub2 b o e
  ·rw[qf ntp.symm];exact gp2
  ·intro b o nb e;have e2:=hs2 b o (hs1 b o e);have nt:b≠t:=λq=>by rw[q,ht] at e2;cases e2
   rw[qf nb,qf nb,qf nt];exact e2
  ·intro b o e
   by_cases z:b=t
   ·subst z;exact .inr (qo.none hs1 (qo.none hs2 ht))
   ·rw[qf z] at e;exact(jJ.trans fr1 hs1 fr2) b o e
  ·rw[qg];rfl
  ·simp only[List.map_cons,List.map_nil,ql,Rep];exact⟨_,_,rfl,⟨t,xs,rfl,qg,(rl.same gs1 |>.same gs2).same (qo.upd gt)⟩,_,_,rfl,rfl,rfl⟩
theorem qci:FnScope ["self","lands","most","span"] ["self","lands","most","span"] (qk (mem 21 0)):=⟨rfl,rfl,rfl,by decide+kernel,rfl,by decide+kernel,by decide+kernel⟩
theorem qau{fR cR:Addr}{dR:FuncData}(tx:Tx κ K mg)(F:Fun K "__init__" "Within.__init__" (mem 21 0) f fd)(FR:Fun K "__init__" "Rule.__init__" (mem 20 0) fR dR)(bR:qI K dR ["self","lands","most"] [])(mR:mg "Rule" = some (.ref cR))(cf:ClsFn K cR "__init__" fR)
  (at0:qaj P wd κ K mg base pg j) (at1:qaj P wd κ K mg base pg (j+1)) (ck0:Ck12 pg j) (ck1:Ck12 pg (j+1)):FnOk P wd K mg base CX0 (j+2) f fd ["self","lands","most","span"] (qcf κ K okW (zQ "span")):=by
 obtain⟨fB,dB,FB,mB,kB,bB⟩:=at1.1 "is_between" (top 7) (by kernel_rfl);obtain⟨t1,g1⟩:=tx.gG;refine F.ok qci (λvs H Q E h=>?_) (λcdv A outer s H vs Q E hr h=>?_)
 ·obtain⟨G,c,C,p,dx,us,args,fs,rfl,_,_,_,_,_,ha,hg,_⟩:=h;obtain⟨b,l,m,z,rfl,_⟩:=zy hg
  have:=ha.len
  simp at this;simp[<-this]
 ·obtain⟨G,c,C,p,dx,us,args,fs,rfl,hrk,hC,hp,gp,sub,ha,hg,k1⟩:=h;obtain⟨b,l,m,z,rfl,ol,om,oz,rfl⟩:=zy hg;simp only[jD] at ha;obtain⟨v1,us1,rfl,r1,v2,us2,rfl,r2,v3,us3,rfl,r3,rfl⟩:=ha;simp only[ArR,Rep] at r2 r3;subst r2 r3
  refine⟨_,zc (zO (JC cf (ZM tx FR at0 ck0) hr (by rfl) mR bR .nil jl (qj (pv 0) (qj (pv 1) (qj (pv 2) qw)))))
   (zc (ZP (J3 (QY (jk FB hr (by rfl) mB kB bB .nil jl (qj (pv 3) (qj y8 (qj (jL (v:=.int 1000000000) (by rfl) g1 ⟨_,rfl⟩) qw)))))) (zz yd) jN)
   (zz (Q4 (pv 0) (pv 3) rfl))),?_⟩
  refine⟨_,rfl,_,rfl,_,rfl,G,c,C,p,dx,[v1,.int m],[aA b l,.val (.int m)],_,rfl,qjt hrk,hC,hp,gp,sub,⟨_,_,rfl,r1,_,_,rfl,by simp only[ArR,Rep],rfl⟩,Qb ol om,λG1 H1 xs gs1 sub1 gp1 but1 fr1 hp1 hl1 rp1=>?_⟩;simp only[List.map_cons,List.map_nil,ql] at rp1;obtain⟨x1,w1,rfl,q1,x2,w2,rfl,q2,rfl⟩:=rp1;refine⟨_,rfl,ZJ (E:=E0) (G:=G1) (args:=[.val (.int z),.val (.int 1),.val (.int 1000000000)]) sub1 ⟨_,_,rfl,by simp only[ArR,Rep],_,_,rfl,by simp only[ArR,Rep],_,_,rfl,by simp only[ArR,Rep],rfl⟩ (ck1.btw z 1 1000000000 oz) λv G2 H2 hs2 gs2 sub2 fr2 rr=>?_⟩;simp only[ReR,Rep] at rr;subst rr;refine⟨_,rfl,?_⟩;have hp2:=hs2 _ _ hp1;have gp2:G2 p=none:=ja fr2 gp1 hp1;refine⟨_,rfl,_,rfl,p,C,dx,_,rfl,hp2,tx.cls c C hC,tx.nA c _ C (qgz hrk) hC,(by show 2 < 1000;decide),?_⟩;refine k1 G2 _ [x1,x2,.int z] (λb o e=>gs2 b o (gs1 b o e)) (λb o e=>?_) gp2 (λb o nb e=>?_) (λb o e=>?_) ?_ rfl ?_
  ·rw[qf (λq=>by rw[q,gp2] at e;cases e)];exact sub2 b o e
  ·rw[qf nb];exact hs2 b o (but1 b o nb e)
  ·exact(jJ.transB fr1 but1 hp1 fr2) b o e
  ·rw[qg];rfl
  ·simp only[List.map_cons,List.map_nil,ql];exact⟨_,_,rfl,q1.same gs2,_,_,rfl,q2.same gs2,_,_,rfl,by simp only[Rep],rfl⟩
theorem qd3:FnScope ["self","lands","most","leave"] ["self","lands","most","leave"] (qk (mem 22 0)):=⟨rfl,rfl,rfl,by decide+kernel,rfl,by decide+kernel,by decide+kernel⟩
theorem Qc{fR cR:Addr}{dR:FuncData}(tx:Tx κ K mg)(F:Fun K "__init__" "Since.__init__" (mem 22 0) f fd)(FR:Fun K "__init__" "Rule.__init__" (mem 20 0) fR dR)(bR:qI K dR ["self","lands","most"] [])(mR:mg "Rule" = some (.ref cR))(cf:ClsFn K cR "__init__" fR)
  (at0:qaj P wd κ K mg base pg j) (at1:qaj P wd κ K mg base pg (j+1)) (ck0:Ck12 pg j) (ck1:Ck12 pg (j+1)):FnOk P wd K mg base CX0 (j+2) f fd ["self","lands","most","leave"] (qcf κ K okS (zQ "leave")):=by
 obtain⟨fB,dB,FB,mB,kB,bB⟩:=at1.1 "is_between" (top 7) (by kernel_rfl);obtain⟨t1,g1⟩:=tx.gG;refine F.ok qd3 (λvs H Q E h=>?_) (λcdv A outer s H vs Q E hr h=>?_)
 ·obtain⟨G,c,C,p,dx,us,args,fs,rfl,_,_,_,_,_,ha,hg,_⟩:=h;obtain⟨b,l,m,z,rfl,_⟩:=zy hg
  have:=ha.len
  simp at this;simp[<-this]
 ·obtain⟨G,c,C,p,dx,us,args,fs,rfl,hrk,hC,hp,gp,sub,ha,hg,k1⟩:=h;obtain⟨b,l,m,z,rfl,ol,om,oz,rfl⟩:=zy hg;simp only[jD] at ha;obtain⟨v1,us1,rfl,r1,v2,us2,rfl,r2,v3,us3,rfl,r3,rfl⟩:=ha;simp only[ArR,Rep] at r2 r3;subst r2 r3
  refine⟨_,zc (zO (JC cf (ZM tx FR at0 ck0) hr (by rfl) mR bR .nil jl (qj (pv 0) (qj (pv 1) (qj (pv 2) qw)))))
   (zc (ZP (J3 (QY (jk FB hr (by rfl) mB kB bB .nil jl (qj (pv 3) (qj y8 (qj (jL (v:=.int 1000000000) (by rfl) g1 ⟨_,rfl⟩) qw)))))) (zz yd) jN)
   (zz (Q4 (pv 0) (pv 3) rfl))),?_⟩
  refine⟨_,rfl,_,rfl,_,rfl,G,c,C,p,dx,[v1,.int m],[aA b l,.val (.int m)],_,rfl,qju hrk,hC,hp,gp,sub,⟨_,_,rfl,r1,_,_,rfl,by simp only[ArR,Rep],rfl⟩,Qb ol om,λG1 H1 xs gs1 sub1 gp1 but1 fr1 hp1 hl1 rp1=>?_⟩;simp only[List.map_cons,List.map_nil,ql] at rp1;obtain⟨x1,w1,rfl,q1,x2,w2,rfl,q2,rfl⟩:=rp1;refine⟨_,rfl,ZJ (E:=E0) (G:=G1) (args:=[.val (.int z),.val (.int 1),.val (.int 1000000000)]) sub1 ⟨_,_,rfl,by simp only[ArR,Rep],_,_,rfl,by simp only[ArR,Rep],_,_,rfl,by simp only[ArR,Rep],rfl⟩ (ck1.btw z 1 1000000000 oz) λv G2 H2 hs2 gs2 sub2 fr2 rr=>?_⟩;simp only[ReR,Rep] at rr;subst rr;refine⟨_,rfl,?_⟩;have hp2:=hs2 _ _ hp1;have gp2:G2 p=none:=ja fr2 gp1 hp1;refine⟨_,rfl,_,rfl,p,C,dx,_,rfl,hp2,tx.cls c C hC,tx.nA c _ C (qd2 hrk) hC,(by show 2 < 1000;decide),?_⟩;refine k1 G2 _ [x1,x2,.int z] (λb o e=>gs2 b o (gs1 b o e)) (λb o e=>?_) gp2 (λb o nb e=>?_) (λb o e=>?_) ?_ rfl ?_
  ·rw[qf (λq=>by rw[q,gp2] at e;cases e)];exact sub2 b o e
  ·rw[qf nb];exact hs2 b o (but1 b o nb e)
  ·exact(jJ.transB fr1 but1 hp1 fr2) b o e
  ·rw[qg];rfl
  ·simp only[List.map_cons,List.map_nil,ql];exact⟨_,_,rfl,q1.same gs2,_,_,rfl,q2.same gs2,_,_,rfl,by simp only[Rep],rfl⟩
theorem qd4:FnScope ["self","lands","most"] ["self","lands","most"] (qk (mem 23 0)):=⟨rfl,rfl,rfl,by decide+kernel,rfl,by decide+kernel,by decide+kernel⟩
theorem qcj{fR cR fS cS:Addr}{dR dS:FuncData}(tx:Tx κ K mg)(F:Fun K "__init__" "InRow.__init__" (mem 23 0) f fd)(FS:Fun K "__init__" "Since.__init__" (mem 22 0) fS dS)(bS:qI K dS ["self","lands","most","leave"] [])(mS:mg "Since" = some (.ref cS))(cfS:ClsFn K cS "__init__" fS)
  (FR:Fun K "__init__" "Rule.__init__" (mem 20 0) fR dR) (bR:qI K dR ["self","lands","most"] []) (mR:mg "Rule" = some (.ref cR)) (cf:ClsFn K cR "__init__" fR)
  (at0:qaj P wd κ K mg base pg j) (at1:qaj P wd κ K mg base pg (j+1)) (ck0:Ck12 pg j) (ck1:Ck12 pg (j+1)):FnOk P wd K mg base CX0 (j+3) f fd ["self","lands","most"] (qcf κ K okI qal):=by
 refine F.ok qd4 (λvs H Q E h=>?_) (λcdv A outer s H vs Q E hr h=>?_)
 ·obtain⟨G,c,C,p,dx,us,args,fs,rfl,_,_,_,_,_,ha,hg,_⟩:=h;obtain⟨b,l,m,rfl,_⟩:=JZ hg
  have:=ha.len
  simp at this;simp[<-this]
 ·obtain⟨G,c,C,p,dx,us,args,fs,rfl,hrk,hC,hp,gp,sub,ha,hg,k1⟩:=h;obtain⟨b,l,m,rfl,ol,om,rfl⟩:=JZ hg;simp only[jD] at ha;obtain⟨v1,us1,rfl,r1,v2,us2,rfl,r2,rfl⟩:=ha;simp only[ArR,Rep] at r2;subst r2;refine⟨_,zz (zO (JC cfS (Qc tx FS FR bR mR cf at0 at1 ck0 ck1) hr (by rfl) mS bS .nil jl (qj (pv 0) (qj (pv 1) (qj (pv 2) (qj y8 qw)))))),?_⟩
  exact⟨_,rfl,_,rfl,_,rfl,G,c,C,p,dx,[v1,.int m,.int 1],[aA b l,.val (.int m),.val (.int 1)],_,rfl,qgy hrk,hC,hp,gp,sub,⟨_,_,rfl,r1,_,_,rfl,by simp only[ArR,Rep],_,_,rfl,by simp only[ArR,Rep],rfl⟩,
   qch ol om (2:),λG1 H1 xs gs1 sub1 gp1 but1 fr1 hp1 hl1 rp1=>k1 G1 H1 xs gs1 sub1 gp1 but1 fr1 hp1 hl1 rp1⟩
end
end K12
namespace HD
open PySem PySem.W
noncomputable def yY(tb:String->Option Builtin)(p:Program)(w:World)(n₀:Nat)(ann:Option Value):Nat->SharedT->Thread->Option SharedT
 |0,_,_=>none
 | n+1,s,t=>match through t with
  |true=>some s
  |false=>match stepOk n₀ ann t with
   |false=>none
   |true=>match stepT (denote tb) p w s t with
    | some (s',t')=>yY tb p w n₀ ann n s' t'
    |none=>none
theorem Qd{tb:String->Option Builtin}{p:Program}{w:World}{n₀:Nat}{ann:Option Value}:∀{n:Nat} {s s':SharedT} {t:Thread},yY tb p w n₀ ann n s t=some s'->topRun tb p w n₀ ann n s.abs t=some s'.abs
 |0,_,_,_,h=>by cases h
 | n+1,s,s',t,h=>by
  unfold yY at h;unfold topRun
  cases ht:through t with
  |true=>rw[ht] at h;cases h;rfl
  |false=>
   rw[ht] at h
   cases hk:stepOk n₀ ann t with
   |false=>rw[hk] at h;cases h
   |true=>
    rw[hk] at h
    cases hs:stepT (denote tb) p w s t with
    |none=>rw[hs] at h;cases h
    |some r=>obtain⟨s₂,t₂⟩:=r;rw[hs] at h;dsimp only;rw[stepT_spec hs];exact Qd h
def ofL:List Obj->Nat->BT->BT
 |[],_,t=>t
 | o::r,n,t=>ofL r (n+1) (t.ins n o)
noncomputable def qgB(P:Params)(os:OsState):SharedT:=⟨ofL (boot_heap P).objs.toList 0 .nil,(boot_heap P).objs.toList.length,(boot_heap P).life,Array.mk [],boot_drawn,boot_toks,os⟩
theorem qck(P:Params)(os:OsState):(qgB P os).abs=⟨boot_heap P,Array.mk [],boot_drawn,boot_toks,os⟩:=by kernel_rfl
noncomputable def qgC{α:Type}(p q:Program)(loose:List Str)(Xt:Shared->Bool)(Yf:Shared->α)(g0:Bool)(Hv:Heap)(s:Shared):=
 (staticsOk (importedModules p.main.body) Hv s.heap&&namesBound p s.heap&&gensDone s&&laidKept Hv s.heap,openSeen q loose (importedModules p.main.body) Xt g0 s,Yf s)
theorem qgD{p q:Program}{loose:List Str}{Xt:Shared->Bool}{α:Type}{Yf:Shared->α}{Ya:World->α}{N:Nat}{g0:Bool}{m₀:Nat}{ann:Option Value}
  (open_:∀w:World,(fencedOpening treeTable p w N).map (λs=>(s.heap,s.gens,s.drawn,s.toks))=some (boot_heap w.params,Array.mk [],boot_drawn,boot_toks))
  (size:∀w:World,((boot_heap w.params).isNs mainGlobals&&(Array.mk []:Array GenState).size == 0,(boot_heap w.params).objs.size,(boot_heap w.params).nsMap mainGlobals "__annotations__")=(true,m₀,ann))
  (h:∀w os,(yY treeTable p w m₀ ann N (qgB w.params os) (topStub p)).map (λs=>qgC p q loose Xt Yf g0 (boot_heap w.params) s.abs)=some (true,openGood q loose,Ya w)):LeftO p q loose Xt Yf Ya N g0:=λw=>by
 obtain⟨⟨h0,gs,d,k,os⟩,e,e'⟩:=Option.map_eq_some_iff.mp (open_ w);obtain⟨rfl,rfl,rfl,rfl⟩:h0=boot_heap w.params/\gs=Array.mk []/\d=boot_drawn/\k=boot_toks:=by simpa using e'
 obtain⟨z1,z2,z3⟩:_/\_/\_:=by simpa only[Prod.mk.injEq] using size w
 obtain⟨s₁,r,l⟩:=Option.map_eq_some_iff.mp (h w os);have r':=Qd r;rw[qck] at r';obtain⟨l1,l2,l3⟩:_/\_/\_:=by simpa only[qgC,Prod.mk.injEq] using l
 have t:topFrom treeTable p w N ⟨boot_heap w.params,Array.mk [],boot_drawn,boot_toks,os⟩=some s₁.abs:=by unfold topFrom;dsimp only;rw[z1,z2,z3,r'];show(match staticsOk (importedModules p.main.body) (boot_heap w.params) s₁.abs.heap&&namesBound p s₁.abs.heap&&gensDone s₁.abs&&laidKept (boot_heap w.params) s₁.abs.heap with |true=>_ |false=>_)=_;rw[l1]
 unfold openEnds;rw[e];show(topFrom treeTable p w N _).map _=_;rw[t];exact congrArg some (Prod.ext l2 l3)
end HD
namespace HD
open PySem PySem.W
def dE(P:Params)(k:Str)(t:Tok)(v:Value):DictEntry:=⟨PyData.keyHash P k,.str k t,v⟩
noncomputable def oFn(d:Option Addr)(st:Stmt)(name qual:Str)(dV kV doc pm:Value)(an:Option Addr)(cd ct:Value):Obj:=⟨.type "function",d,.func (fnOf name qual (L2.qV st) (L2.qt st) (L2.qk st) dV kV doc pm an cd ct),#[]⟩
noncomputable def oC(n:Str)(t1:Tok)(q:Str)(t2 t3:Tok)(l ar:Int)(a b:Addr)(x y:Value)(c:Addr)(u:Int)(v:Tok):Obj:=⟨.type "code",none,.fields #[.str n t1,.str q t2,.str "/claim/cut.py" t3,.int l 0,.int ar 0,.int 0 0,.int 0 0,.int 3 0,.ref a,.bool true,.int 181 0,.ref b,.none,x,y,.ref c,.int u 0,.int l 0,.str "/claim/cut.py" v],#[]⟩
noncomputable def oG(st:Stmt)(n m:Str)(t:Tok)(a:Addr):Obj:=oFn none st n n .none .none .none (.str m t) none (.ref a) .none
noncomputable def oB(n:Str)(t:Tok)(l ar:Int)(a:Addr)(v:Nat):Obj:=oC n t n (t+1) (t+2) l ar a (a+1) (.ref (a+2)) (.ref (a+3)) (a+4) v (v+1)
theorem qcl(w:World):((boot_heap w.params).isNs mainGlobals&&(Array.mk []:Array GenState).size == 0,(boot_heap w.params).objs.size,(boot_heap w.params).nsMap mainGlobals "__annotations__")=(true,11,some (.ref 6)):=by kernel_rfl
end HD
namespace K12
open PySem PySem.W HD DG
abbrev HP:Program:=PySem.Challenge.rw_daysgate_k12_lines_of_rules.row.toRowW.prog
noncomputable def Hq:Program:=view HP [1,2,3,4,5,6,7,8,9,10,12,13,14,16,17,18,19,20,21,22,23,24,25,26,27,28,30,31,32,33,34,35,36,37,38]
noncomputable def Hx(s:Shared):Bool:=xlAt Hq [] s&&recOk (RowW.records PySem.Challenge.rw_daysgate_k12_lines_of_rules.row.toRowW) s
noncomputable def Has:List Addr:=[nat_lit 2,nat_lit 3,nat_lit 20,nat_lit 21,nat_lit 27,nat_lit 28,nat_lit 34,nat_lit 35,nat_lit 41,nat_lit 42,nat_lit 48,nat_lit 49,nat_lit 60,nat_lit 92,nat_lit 93,nat_lit 99,nat_lit 100,nat_lit 113,nat_lit 114,nat_lit 120,nat_lit 121,nat_lit 123,nat_lit 124,nat_lit 125,nat_lit 126,nat_lit 141,nat_lit 142,nat_lit 148,nat_lit 149,nat_lit 151,nat_lit 152,nat_lit 167,nat_lit 168,nat_lit 174,nat_lit 175,nat_lit 177,nat_lit 178,nat_lit 193,nat_lit 194,nat_lit 200,nat_lit 201,nat_lit 203,nat_lit 204,nat_lit 210,nat_lit 211,nat_lit 217,nat_lit 218,nat_lit 224,nat_lit 225,nat_lit 231,nat_lit 232,nat_lit 238,nat_lit 239,nat_lit 245,nat_lit 246,nat_lit 252,nat_lit 253,nat_lit 259,nat_lit 260,nat_lit 266,nat_lit 267,nat_lit 273,nat_lit 274,nat_lit 280,nat_lit 281,nat_lit 287,nat_lit 288,nat_lit 292,nat_lit 293,nat_lit 297,nat_lit 298]
noncomputable def HK(P:Params):Frag:=(nat_lit 2,⟨.none,none,.dict #[] 0,#[]⟩)::(nat_lit 3,⟨(.type "dict"),none,.dict #[dE P "__name__" 165 (.str "law_daysgate_k12_lines_of_rules" 494),dE P "__doc__" 166 .none,dE P "__package__" 167 .none,dE P "__loader__" 168 (.builtin "__main__.__loader__#opaque"),dE P "__spec__" 169 .none,dE P "__annotations__" 170 (.ref 6),dE P "__builtins__" 171 (.ref 4),dE P "__file__" 173 (.str "/claim/cut.py" 172),dE P "__cached__" 174 .none,dE P "GREATEST" 190 (.int (1000000000) 189),dE P "LETTERS" 192 (.str "abcdefghijklmnopqrstuvwxyz" 191),dE P "LONGEST_NAME" 194 (.int (8) 193),dE P "FIGURES" 196 (.str "0123456789" 195),dE P "MOST_FIGURES" 198 (.int (10) 197),dE P "is_whole" 205 (.ref 21),dE P "is_between" 214 (.ref 28),dE P "is_made_of" 223 (.ref 35),dE P "is_name" 230 (.ref 42),dE P "is_written_number" 237 (.ref 49),dE P "DayError" 257 (.ref 59),dE P "NoRule" 273 (.ref 72),dE P "NoText" 289 (.ref 84),dE P "MOST_LANDS" 293 (.int (6) 292),dE P "GREATEST_WEIGHT" 295 (.int (9) 294),dE P "is_land" 302 (.ref 93),dE P "are_lands" 311 (.ref 100),dE P "Rule" 352 (.ref 124),dE P "Within" 387 (.ref 152),dE P "Since" 422 (.ref 178),dE P "InRow" 454 (.ref 204),dE P "line_of" 460 (.ref 211),dE P "read_number" 467 (.ref 218),dE P "read_lands" 477 (.ref 225),dE P "rule_of" 485 (.ref 232),dE P "read_rule" 493 (.ref 239),dE P "_law_cell_at" 503 (.ref 246),dE P "_law_lands" 519 (.ref 253),dE P "_law_number" 527 (.ref 260),dE P "_law_rule" 541 (.ref 267),dE P "_law_made" 552 (.ref 274),dE P "_law_line" 567 (.ref 281),dE P "_law_kind" 574 (.ref 288),dE P "_law_right" 580 (.ref 293),dE P "law" 586 (.ref 298)] 44,#[]⟩)::(nat_lit 20,oB "is_whole" 199 7 1 15 203)::(nat_lit 21,oG (top 6) "is_whole" "daysgate.checks" 187 20)::(nat_lit 27,oB "is_between" 206 9 3 22 212)::(nat_lit 28,oG (top 7) "is_between" "daysgate.checks" 187 27)::(nat_lit 34,oB "is_made_of" 215 11 2 29 221)::(nat_lit 35,oG (top 8) "is_made_of" "daysgate.checks" 187 34)::(nat_lit 41,oB "is_name" 224 16 1 36 228)::(nat_lit 42,oG (top 9) "is_name" "daysgate.checks" 187 41)::(nat_lit 48,oB "is_written_number" 231 20 1 43 235)::(nat_lit 49,oG (top 10) "is_written_number" "daysgate.checks" 187 48)::(nat_lit 60,⟨(.type "getset_descriptor"),none,.fields #[(.str "__weakref__" 253),(.ref 59),(.builtin "ExceptionGroup.__weakref__"),.none],#[]⟩)::(nat_lit 92,oB "is_land" 296 36 1 87 300)::(nat_lit 93,oG (top 18) "is_land" "daysgate.rules" 290 92)::(nat_lit 99,oB "are_lands" 303 40 1 94 309)::(nat_lit 100,oG (top 19) "are_lands" "daysgate.rules" 290 99)::(nat_lit 113,oC "__init__" 324 "Rule.__init__" 325 326 51 3 108 109 (.ref 110) (.ref 111) 112 330 331)::(nat_lit 114,oFn none (mem 20 0) "__init__" "Rule.__init__" .none .none .none (.str "daysgate.rules" 290) none (.ref 113) .none)::(nat_lit 120,oC "weight" 333 "Rule.weight" 334 335 59 2 115 116 (.ref 117) (.ref 118) 119 340 341)::(nat_lit 121,oFn none (mem 20 1) "weight" "Rule.weight" .none .none .none (.str "daysgate.rules" 290) none (.ref 120) .none)::(nat_lit 123,⟨(.type "dict"),none,.dict #[dE P "__module__" 319 (.str "daysgate.rules" 290),dE P "__firstlineno__" 323 (.int (49) 322),dE P "__init__" 332 (.ref 114),dE P "weight" 342 (.ref 121),dE P "__static_attributes__" 345 (.ref 122),dE P "__dict__" 347 (.ref 125),dE P "__weakref__" 349 (.ref 126),dE P "__doc__" 350 .none] 4,#[]⟩)::(nat_lit 124,⟨(.type "type"),none,.cls ⟨"Rule",[(.type "object")],[(.ref 124),(.type "object")],123,"Rule",true,[],[(.ref 152),(.ref 178)],false,none,false⟩,#[none,none,some (.str "Rule" 312),some (.str "Rule" 320),some (.builtin "object.__new__"),some (.bool true)]⟩)::(nat_lit 125,⟨(.type "getset_descriptor"),none,.fields #[(.str "__dict__" 346),(.ref 124),(.builtin "function.__dict__"),(.builtin "function.__dict__#set")],#[]⟩)::(nat_lit 126,⟨(.type "getset_descriptor"),none,.fields #[(.str "__weakref__" 348),(.ref 124),(.builtin "ExceptionGroup.__weakref__"),.none],#[]⟩)::(nat_lit 141,oC "__init__" 365 "Within.__init__" 366 367 66 4 136 137 (.ref 138) (.ref 139) 140 372 373)::(nat_lit 142,oFn none (mem 21 0) "__init__" "Within.__init__" .none .none .none (.str "daysgate.rules" 290) none (.ref 141) .none)::(nat_lit 148,oC "line" 375 "Within.line" 376 377 72 1 143 144 (.ref 145) (.ref 146) 147 380 381)::(nat_lit 149,oFn none (mem 21 1) "line" "Within.line" .none .none .none (.str "daysgate.rules" 290) none (.ref 148) .none)::(nat_lit 151,⟨(.type "dict"),none,.dict #[dE P "__module__" 360 (.str "daysgate.rules" 290),dE P "__firstlineno__" 364 (.int (64) 363),dE P "__init__" 374 (.ref 142),dE P "line" 382 (.ref 149),dE P "__static_attributes__" 384 (.ref 150),dE P "__doc__" 385 .none] 2,#[]⟩)::(nat_lit 152,⟨(.type "type"),none,.cls ⟨"Within",[(.ref 124)],[(.ref 152),(.ref 124),(.type "object")],151,"Within",true,[],[],false,none,false⟩,#[some (.ref 129),none,some (.str "Within" 353),some (.str "Within" 361),some (.builtin "object.__new__"),some (.bool true)]⟩)::(nat_lit 167,oC "__init__" 400 "Since.__init__" 401 402 77 4 162 163 (.ref 164) (.ref 165) 166 407 408)::(nat_lit 168,oFn none (mem 22 0) "__init__" "Since.__init__" .none .none .none (.str "daysgate.rules" 290) none (.ref 167) .none)::(nat_lit 174,oC "line" 410 "Since.line" 411 412 83 1 169 170 (.ref 171) (.ref 172) 173 415 416)::(nat_lit 175,oFn none (mem 22 1) "line" "Since.line" .none .none .none (.str "daysgate.rules" 290) none (.ref 174) .none)::(nat_lit 177,⟨(.type "dict"),none,.dict #[dE P "__module__" 395 (.str "daysgate.rules" 290),dE P "__firstlineno__" 399 (.int (75) 398),dE P "__init__" 409 (.ref 168),dE P "line" 417 (.ref 175),dE P "__static_attributes__" 419 (.ref 176),dE P "__doc__" 420 .none] 2,#[]⟩)::(nat_lit 178,⟨(.type "type"),none,.cls ⟨"Since",[(.ref 124)],[(.ref 178),(.ref 124),(.type "object")],177,"Since",true,[],[(.ref 204)],false,none,false⟩,#[some (.ref 155),none,some (.str "Since" 388),some (.str "Since" 396),some (.builtin "object.__new__"),some (.bool true)]⟩)::(nat_lit 193,oC "__init__" 435 "InRow.__init__" 436 437 88 3 188 189 (.ref 190) (.ref 191) 192 441 442)::(nat_lit 194,oFn none (mem 23 0) "__init__" "InRow.__init__" .none .none .none (.str "daysgate.rules" 290) none (.ref 193) .none)::(nat_lit 200,oC "line" 444 "InRow.line" 445 446 91 1 195 196 (.ref 197) (.ref 198) 199 448 449)::(nat_lit 201,oFn none (mem 23 1) "line" "InRow.line" .none .none .none (.str "daysgate.rules" 290) none (.ref 200) .none)::(nat_lit 203,⟨(.type "dict"),none,.dict #[dE P "__module__" 430 (.str "daysgate.rules" 290),dE P "__firstlineno__" 434 (.int (86) 433),dE P "__init__" 443 (.ref 194),dE P "line" 450 (.ref 201),dE P "__static_attributes__" 451 (.ref 202),dE P "__doc__" 452 .none] 2,#[]⟩)::(nat_lit 204,⟨(.type "type"),none,.cls ⟨"InRow",[(.ref 178)],[(.ref 204),(.ref 178),(.ref 124),(.type "object")],203,"InRow",true,[],[],false,none,false⟩,#[some (.ref 181),none,some (.str "InRow" 423),some (.str "InRow" 431),some (.builtin "object.__new__"),some (.bool true)]⟩)::(nat_lit 210,oC "line_of" 455 "line_of" 456 457 93 2 207 208 .none .none 209 458 459)::(nat_lit 211,oG (top 24) "line_of" "daysgate.rules" 290 210)::(nat_lit 217,oB "read_number" 461 97 1 212 465)::(nat_lit 218,oG (top 25) "read_number" "daysgate.rules" 290 217)::(nat_lit 224,oB "read_lands" 468 101 1 219 475)::(nat_lit 225,oG (top 26) "read_lands" "daysgate.rules" 290 224)::(nat_lit 231,oB "rule_of" 478 109 2 226 483)::(nat_lit 232,oG (top 27) "rule_of" "daysgate.rules" 290 231)::(nat_lit 238,oB "read_rule" 486 117 1 233 491)::(nat_lit 239,oG (top 28) "read_rule" "daysgate.rules" 290 238)::(nat_lit 245,oB "_law_cell_at" 496 126 2 240 501)::(nat_lit 246,oG (top 30) "_law_cell_at" "law_daysgate_k12_lines_of_rules" 494 245)::(nat_lit 252,oB "_law_lands" 504 130 2 247 517)::(nat_lit 253,oG (top 31) "_law_lands" "law_daysgate_k12_lines_of_rules" 494 252)::(nat_lit 259,oB "_law_number" 520 142 2 254 525)::(nat_lit 260,oG (top 32) "_law_number" "law_daysgate_k12_lines_of_rules" 494 259)::(nat_lit 266,oB "_law_rule" 528 146 2 261 539)::(nat_lit 267,oG (top 33) "_law_rule" "law_daysgate_k12_lines_of_rules" 494 266)::(nat_lit 273,oB "_law_made" 542 159 1 268 550)::(nat_lit 274,oG (top 34) "_law_made" "law_daysgate_k12_lines_of_rules" 494 273)::(nat_lit 280,oB "_law_line" 553 166 1 275 565)::(nat_lit 281,oG (top 35) "_law_line" "law_daysgate_k12_lines_of_rules" 494 280)::(nat_lit 287,oB "_law_kind" 568 177 1 282 572)::(nat_lit 288,oG (top 36) "_law_kind" "law_daysgate_k12_lines_of_rules" 494 287)::(nat_lit 292,oC "_law_right" 575 "_law_right" 576 577 179 2 289 290 .none .none 291 578 579)::(nat_lit 293,oG (top 37) "_law_right" "law_daysgate_k12_lines_of_rules" 494 292)::(nat_lit 297,oC "law" 581 "law" 582 583 185 1 294 295 .none .none 296 584 585)::(nat_lit 298,oG (top 38) "law" "law_daysgate_k12_lines_of_rules" 494 297)::[]
theorem HKe(P:Params):Has=(HK P).map (·.1):=by kernel_rfl
noncomputable def qjv(p q:Program)(rc:Shared->Bool)(w:World)(H0:Heap)(s0:SharedT):=(yY treeTable p w 11 (some (.ref 6)) 5642 s0 (topStub p)).map (λs=>qgC p q [] (λs=>xlAt q [] s&&rc s) (λs=>Has.map s.heap.get?) true H0 s.abs)
noncomputable def Hlk(w:World)(H0:Heap)(s0:SharedT):=qjv HP Hq (recOk (RowW.records PySem.Challenge.rw_daysgate_k12_lines_of_rules.row.toRowW)) w H0 s0
def qjw(q:Program):=openGood q []
def Hgd:=qjw Hq
theorem qcm:qjv=qjv:=rfl
theorem qcn:qjw=qjw:=rfl
end K12
lay_quick K12.qjv K12.qjw
name_quick hlkQ for K12.qjv by K12.qcm
name_quick hgdQ for K12.qjw by K12.qcn
namespace K12
open PySem PySem.W HD DG
theorem qjx(w:World)(os:OsState):Hlk w (boot_heap w.params) (qgB w.params os)=some (true,Hgd,(HK w.params).map λp=>some p.2):=by
 unfold Hlk Hgd;rw[PySem.W.Fast.hlkQ_eq,PySem.W.Fast.hgdQ_eq]
 kernel_rfl
theorem qkX:LeftO HP Hq [] Hx (λs=>Has.map s.heap.get?) (λw=>(HK w.params).map λp=>some p.2) 5642 true:=
 qgD (boot_open (by kernel_rfl) (2:) (λ_=>by kernel_rfl)) qcl qjx
end K12
namespace DG
open PySem PySem.Spec PyProof.Rows L2 DE
theorem qkY(b:Bool)(l:List D):aA b l=aL b l:=by cases b<;>rfl
theorem QT{c:Str}(h:rk c=true):c = "Within"\/c = "Since"\/c = "InRow":=by
 unfold rk at h
 simpa [or_assoc] using h
theorem QU{c:Str}{o:Option (List (Str×D))}{r:Rv}(h:qbT c o=.ok r):∃fs,o=some fs/\r=.val (.ins c (fs.map (·.1)) (fs.map (·.2))):=by
 cases o with
 |none=>cases h
 |some fs=>cases h;exact⟨fs,rfl,rfl⟩
theorem qco(b:Bool)(l l':List D):aA b l≠.scr l':=by cases b<;>(intro z;cases z)
theorem qmd{j:Nat}{args:List Ar}{r:Rv}(h:pnw (j+12) "Within" args=.ok r):(∀a∈args,∀l,a≠.scr l)/\∃fs,zQ "span" args=some fs/\r=.val (.ins "Within" (fs.map (·.1)) (fs.map (·.2))):=by
 have h:(if j+12 < 12 then R.no else qbT "Within" (zQ "span" args))=.ok r:=h;rw[if_neg (1:)] at h;obtain⟨fs,e,er⟩:=QU h;obtain⟨b,l,m,s,rfl,_⟩:=zy e;refine⟨λa ha=>?_,fs,e,er⟩;simp only[List.mem_cons,List.not_mem_nil,or_false] at ha;rcases ha with rfl | rfl | rfl
 ·exactλl'=>qco b l l'
 ·exactλl' z=>by cases z
 ·exactλl' z=>by cases z
theorem qme{j:Nat}{args:List Ar}{r:Rv}(h:pnw (j+12) "Since" args=.ok r):(∀a∈args,∀l,a≠.scr l)/\∃fs,zQ "leave" args=some fs/\r=.val (.ins "Since" (fs.map (·.1)) (fs.map (·.2))):=by
 have h:(if j+12 < 12 then R.no else qbT "Since" (zQ "leave" args))=.ok r:=h;rw[if_neg (1:)] at h;obtain⟨fs,e,er⟩:=QU h;obtain⟨b,l,m,s,rfl,_⟩:=zy e;refine⟨λa ha=>?_,fs,e,er⟩;simp only[List.mem_cons,List.not_mem_nil,or_false] at ha;rcases ha with rfl | rfl | rfl
 ·exactλl'=>qco b l l'
 ·exactλl' z=>by cases z
 ·exactλl' z=>by cases z
theorem qmf{j:Nat}{args:List Ar}{r:Rv}(h:pnw (j+12) "InRow" args=.ok r):(∀a∈args,∀l,a≠.scr l)/\∃fs,qal args=some fs/\r=.val (.ins "InRow" (fs.map (·.1)) (fs.map (·.2))):=by
 have h:(if j+12 < 12 then R.no else qbT "InRow" (qal args))=.ok r:=h;rw[if_neg (1:)] at h;obtain⟨fs,e,er⟩:=QU h;obtain⟨b,l,m,rfl,_⟩:=JZ e;refine⟨λa ha=>?_,fs,e,er⟩;simp only[List.mem_cons,List.not_mem_nil,or_false] at ha;rcases ha with rfl | rfl
 ·exactλl'=>qco b l l'
 ·exactλl' z=>by cases z
structure Kl(K:Frag)(C:Addr):Prop where
 cls:Cls K C
 tc:PySem.W.findIn K (.ref C) "__class__" = some (some (.builtin "object.__class__"))
 mo:PySem.W.mroIn K C (.type "object")=some true
structure Kr(K:Frag)(fw C cW cS:Addr)(x:Str)(b:Bool):Prop where
 kl:Kl K C
 la:zj K C "lands"
 mo:zj K C "most"
 fx:zj K C x
 wt:Meth K C "weight" fw
 iw:PySem.W.kitOne K (.ref C) (.ref cW)=some b
 is:PySem.W.kitOne K (.ref C) (.ref cS)=some (!b)
noncomputable def J0(K:Frag)(f:Addr)(n q:Str)(st:Stmt):Prop:=∃oc od kV dc pm an cd ct sl,K.lookup f=some ⟨oc,od,.func (PySem.W.fnOf n q (qV st) (qt st) (qk st) .none kV dc pm an cd ct),sl⟩/\PySem.W.codeIn K cd q=true/\PySem.W.keepIn K (.ref f)=true
noncomputable abbrev FG(K:Frag)(f:Addr)(n:Str)(st:Stmt):Prop:=PySem.W.nsIn K mainGlobals n=some (some (.ref f))/\J0 K f n n st
section
variable{K:Frag}{f:Addr}{n q:Str}{st:Stmt}{mg:PR}{h:Heap}
theorem J0.fn(i:J0 K f n q st):∃fd,Fun K n q st f fd:=by obtain⟨oc,od,kV,dc,pm,an,cd,ct,sl,l,c,k⟩:=i;exact⟨_,qed l c k⟩
theorem J0.kp(i:J0 K f n q st):PySem.W.keepIn K (.ref f)=true:=by obtain⟨oc,od,kV,dc,pm,an,cd,ct,sl,l,c,k⟩:=i;exact k
noncomputable def Bd(n q:Str)(st:Stmt)(ps:List Str):Prop:=∀(kV doc pm:Value) (an:Option Addr) (cdv ct:Value) (us:List Value),us.length=ps.length->bindArgs (PySem.W.fnOf n q (qV st) (qt st) (qk st) .none kV doc pm an cdv ct) ⟨us,[]⟩=pure (ps.zip us)
theorem qjy(X:K.In h)(G:h.Ns mainGlobals mg)(a:PySem.W.nsIn K mainGlobals n=some (some (.ref f)))(i:J0 K f n n st){ps:List Str}(hp:jK st=ps)(hb:Bd n n st ps):FnF K mg n st:=by obtain⟨fd,F⟩:=i.fn;exact⟨f,fd,F,PySem.W.mg_of X G a,hp▸F.binds hb⟩
theorem j4(i:J0 K f n q st){ps:List Str}(hb:Bd n q st ps):∃fd,Fun K n q st f fd/\qI K fd ps []:=by obtain⟨fd,F⟩:=i.fn;exact⟨fd,F,F.binds hb⟩
theorem qjz(i:J0 K f n n st)(hb:Bd n n st ["_law_script"]):∃fd,Fun K n n st f fd/\∀(s:Shared) (v:Value),BindsTo s fd ⟨[v],[]⟩ [("_law_script",v)]:=by obtain⟨oc,od,kV,dc,pm,an,cd,ct,sl,l,c,k⟩:=i;exact⟨_,qed l c k,λs v=>.of_eq (hb _ _ _ _ _ _ [v] rfl)⟩
end
section
variable{n q:Str}{st:Stmt}{a b c d e:Str}
theorem bd1(h:∀(kV doc pm:Value) (an:Option Addr) (cdv ct x:Value),bindArgs (PySem.W.fnOf n q (qV st) (qt st) (qk st) .none kV doc pm an cdv ct) ⟨[x],[]⟩=pure [(a,x)]):Bd n q st [a]:=λ_ _ _ _ _ _ us hl=>match us,hl with |[_],_=>h ..
theorem bd2(h:∀(kV doc pm:Value) (an:Option Addr) (cdv ct x y:Value),bindArgs (PySem.W.fnOf n q (qV st) (qt st) (qk st) .none kV doc pm an cdv ct) ⟨[x,y],[]⟩=pure [(a,x),(b,y)]):Bd n q st [a,b]:=λ_ _ _ _ _ _ us hl=>match us,hl with |[_,_],_=>h ..
theorem bd3(h:∀(kV doc pm:Value) (an:Option Addr) (cdv ct x y z:Value),bindArgs (PySem.W.fnOf n q (qV st) (qt st) (qk st) .none kV doc pm an cdv ct) ⟨[x,y,z],[]⟩=pure [(a,x),(b,y),(c,z)]):Bd n q st [a,b,c]:=λ_ _ _ _ _ _ us hl=>match us,hl with |[_,_,_],_=>h ..
theorem bd4(h:∀(kV doc pm:Value) (an:Option Addr) (cdv ct x y z u:Value),bindArgs (PySem.W.fnOf n q (qV st) (qt st) (qk st) .none kV doc pm an cdv ct) ⟨[x,y,z,u],[]⟩=pure [(a,x),(b,y),(c,z),(d,u)]):Bd n q st [a,b,c,d]:=λ_ _ _ _ _ _ us hl=>match us,hl with |[_,_,_,_],_=>h ..
end
end DG
namespace DG
open PySem PySem.Spec PyProof.Rows L2 DE
inductive BDs:List (Str×Stmt)->Prop
 | nil:BDs []
 | cons {n st l ps}:jK st=ps->Bd n n st ps->BDs l->BDs ((n,st)::l)
inductive FGs(K:Frag):List (Str×Stmt)->Prop
 | nil:FGs K []
 | cons {f n st l}:FG K f n st->FGs K l->FGs K ((n,st)::l)
inductive ZNs(K:Frag):List Str->Prop
 | nil:ZNs K []
 | cons {n l}:PySem.W.nsIn K mainGlobals n=some none->ZNs K l->ZNs K (n::l)
section
variable{K:Frag}{mg:PR}{h:Heap}
theorem FGs.all(X:K.In h)(G:h.Ns mainGlobals mg){l:List (Str×Stmt)}(a:FGs K l)(p:BDs l):AllF K mg l:=by
 induction a with
 |nil=>exact .nil
 |cons i _ ih=>
  cases p with
  |cons e b p=>exact .cons (qjy X G i.1 i.2 e b) (ih p)
theorem ZNs.all(X:K.In h)(G:h.Ns mainGlobals mg){l:List Str}(a:ZNs K l):∀f∈l,mg f=none:=by
 induction a with
 |nil=>exact nofun
 |cons i _ ih=>
  intro f hf;rcases List.mem_cons.mp hf with rfl | hf
  ·exact PySem.W.mg_none_of X G i
  ·exact ih f hf
end
end DG
namespace K12
open PySem PySem.W L2 DE DG
noncomputable def qeK(cW cS cI:Addr):KC:=λc=>if c = "Within" then some cW else if c = "Since" then some cS else if c = "InRow" then some cI else none
theorem qcp{cW cS cI C:Addr}{c:Str}(h:qeK cW cS cI c=some C):(c = "Within"/\C=cW)\/(c = "Since"/\C=cS)\/(c = "InRow"/\C=cI):=by
 unfold qeK at h
 split at h
 ·cases h;exact .inl ⟨‹_›,rfl⟩
 split at h
 ·cases h;exact .inr (.inl ⟨‹_›,rfl⟩)
 split at h
 ·cases h;exact .inr (.inr ⟨‹_›,rfl⟩)
 cases h
theorem qgJ(j:Nat):Ck12 pg (j+5) where
 lands:=λb l h=>by rw[qkY];exact QO (j+1) b l h
 btw:=λn a b h=>by unfold DG.btw at h;simp only[Bool.and_eq_true,decide_eq_true_eq] at h;exact Jq (j+3) n a b h.1 h.2
theorem qkZ{c x:Str}(h:qjj.fld c x=true):(rk c=true/\(x = "lands"\/x = "most"))\/(c = "Within"/\x = "span")\/((c = "Since"\/c = "InRow")/\x = "leave"):=by
 have h:(rk c&&(x == "lands" || x == "most" || (x == "span" && c == "Within")||(x == "leave" && c != "Within")))=true:=h;simp only[Bool.or_eq_true,Bool.and_eq_true,beq_iff_eq,bne_iff_ne] at h;obtain⟨h1,((h2 | h2) | h2) | h2⟩:=h
 ·exact .inl ⟨h1,.inl h2⟩
 ·exact .inl ⟨h1,.inr h2⟩
 ·exact .inr (.inl ⟨h2.2,h2.1⟩)
 ·refine .inr (.inr ⟨?_,h2.1⟩);rcases QT h1 with q | q
  ·exact absurd q h2.2
  ·exact q
theorem qmg{c x f:Str}(h:qjj.mt c x=some f):(rk c=true/\x = "weight"/\f = "Rule.weight")\/(c = "Within"/\x = "line"/\f = "Within.line")\/(c = "Since"/\x = "line"/\f = "Since.line")\/(c = "InRow"/\x = "line"/\f = "InRow.line"):=by
 have h:(if (rk c&&x == "weight")=true then some ("Rule.weight" : Str) else if (c == "Within" && x == "line")=true then some ("Within.line" : Str) else if (c == "Since" && x == "line")=true then some ("Since.line" : Str) else if (c == "InRow" && x == "line")=true then some ("InRow.line" : Str) else none)=some f:=h
 split at h
 ·rename_i q;simp only[Bool.and_eq_true,beq_iff_eq] at q;cases h;exact .inl ⟨q.1,q.2,rfl⟩
 split at h
 ·rename_i q;simp only[Bool.and_eq_true,beq_iff_eq] at q;cases h;exact .inr (.inl ⟨q.1,q.2,rfl⟩)
 split at h
 ·rename_i q;simp only[Bool.and_eq_true,beq_iff_eq] at q;cases h;exact .inr (.inr (.inl ⟨q.1,q.2,rfl⟩))
 split at h
 ·rename_i q;simp only[Bool.and_eq_true,beq_iff_eq] at q;cases h;exact .inr (.inr (.inr ⟨q.1,q.2,rfl⟩))
 cases h
theorem qk0{c t:Str}{b:Bool}(h:qjj.sub c t=some b):rk c=true/\((t = "Within"/\b=(c == "Within"))\/(t = "Since"/\b=(c != "Within"))\/(t = "InRow"/\b=(c == "InRow"))):=by
 have h:(if (rk c&&t == "Within")=true then some (c == "Within") else if (rk c&&t == "Since")=true then some (c != "Within") else if (rk c&&t == "InRow")=true then some (c == "InRow") else none)=some b:=h
 split at h
 ·rename_i q;simp only[Bool.and_eq_true,beq_iff_eq] at q;cases h;exact⟨q.1,.inl ⟨q.2,rfl⟩⟩
 split at h
 ·rename_i q;simp only[Bool.and_eq_true,beq_iff_eq] at q;cases h;exact⟨q.1,.inr (.inl ⟨q.2,rfl⟩)⟩
 split at h
 ·rename_i q;simp only[Bool.and_eq_true,beq_iff_eq] at q;cases h;exact⟨q.1,.inr (.inr ⟨q.2,rfl⟩)⟩
 cases h
theorem ty3{K:Frag}{C:Addr}(k:Kl K C)(n:PySem.W.specialIn K (.builtin "object.__class__") "__get__" = some (some (.builtin "getset_descriptor.__get__")))(tk:PySem.W.takesIn K (.builtin "object.__class__")=some true) :
  ∀(H:Hp) (p dx:Addr) (fs:List (Str×V)),H p=some (L2.HO.ins C dx fs)->TyOf K H (.ref p) (.ref C):=λH p dx fs hp=>.ins hp k.cls k.tc n tk k.mo
theorem qjA{l:OpenLaw}{w:World}{K:Frag}{h:Heap}{mg:PR}{fa cR cW cS cI fL fiR fiW fiS fiI fmw flW flS flI:Addr}{t0 t1 t2 t3 t4 t5 t6:Tok}(X:K.In h)(G:h.Ns mainGlobals mg)(hfa:mg "law" = some (.ref fa))
  (aL:FG K fL "law" (top 38))
  (a:FGs K pg.defs)
  (z:ZNs K qbz)
  (v0:nsIn K mainGlobals "GREATEST" = some (some (.int 1000000000 t0)))
  (v1:nsIn K mainGlobals "LETTERS" = some (some (.str "abcdefghijklmnopqrstuvwxyz" t1)))
  (v2:nsIn K mainGlobals "LONGEST_NAME" = some (some (.int 8 t2)))
  (v3:nsIn K mainGlobals "FIGURES" = some (some (.str "0123456789" t3)))
  (v4:nsIn K mainGlobals "MOST_FIGURES" = some (some (.int 10 t4)))
  (v5:nsIn K mainGlobals "MOST_LANDS" = some (some (.int 6 t5)))
  (v6:nsIn K mainGlobals "GREATEST_WEIGHT" = some (some (.int 9 t6)))
  (ncR:nsIn K mainGlobals "Rule" = some (some (.ref cR)))
  (ncW:nsIn K mainGlobals "Within" = some (some (.ref cW)))
  (ncS:nsIn K mainGlobals "Since" = some (some (.ref cS)))
  (ncI:nsIn K mainGlobals "InRow" = some (some (.ref cI)))
  (inR:findIn K (.ref cR) "__init__" = some (some (.ref fiR)))
  (inW:findIn K (.ref cW) "__init__" = some (some (.ref fiW)))
  (inS:findIn K (.ref cS) "__init__" = some (some (.ref fiS)))
  (inI:findIn K (.ref cI) "__init__" = some (some (.ref fiI)))
  (twW:findIn K (.ref cW) "weight" = some (some (.ref fmw)))
  (tlW:findIn K (.ref cW) "line" = some (some (.ref flW)))
  (twS:findIn K (.ref cS) "weight" = some (some (.ref fmw)))
  (tlS:findIn K (.ref cS) "line" = some (some (.ref flS)))
  (twI:findIn K (.ref cI) "weight" = some (some (.ref fmw)))
  (tlI:findIn K (.ref cI) "line" = some (some (.ref flI)))
  (hiR:J0 K fiR "__init__" "Rule.__init__" (mem 20 0))
  (niR:isFn K (.ref fiR)=true)
  (hiW:J0 K fiW "__init__" "Within.__init__" (mem 21 0))
  (niW:isFn K (.ref fiW)=true)
  (hiS:J0 K fiS "__init__" "Since.__init__" (mem 22 0))
  (niS:isFn K (.ref fiS)=true)
  (hiI:J0 K fiI "__init__" "InRow.__init__" (mem 23 0))
  (niI:isFn K (.ref fiI)=true)
  (hmw:J0 K fmw "weight" "Rule.weight" (mem 20 1))
  (nmw:isFn K (.ref fmw)=true)
  (hlW:J0 K flW "line" "Within.line" (mem 21 1))
  (nlW:isFn K (.ref flW)=true)
  (hlS:J0 K flS "line" "Since.line" (mem 22 1))
  (nlS:isFn K (.ref flS)=true)
  (hlI:J0 K flI "line" "InRow.line" (mem 23 1))
  (nlI:isFn K (.ref flI)=true)
  (mkW:makesIn K cW=true)
  (kcW:keepIn K (.ref cW)=true)
  (LW:Kl K cW)
  (na_landsW:findIn K (.ref cW) "lands" = some none)
  (na_mostW:findIn K (.ref cW) "most" = some none)
  (na_spanW:findIn K (.ref cW) "span" = some none)
  (kwW:kitOne K (.ref cW) (.ref cW)=some true)
  (ksW:kitOne K (.ref cW) (.ref cS)=some false)
  (kiW:kitOne K (.ref cW) (.ref cI)=some false)
  (mkS:makesIn K cS=true)
  (kcS:keepIn K (.ref cS)=true)
  (LS:Kl K cS)
  (na_landsS:findIn K (.ref cS) "lands" = some none)
  (na_mostS:findIn K (.ref cS) "most" = some none)
  (na_leaveS:findIn K (.ref cS) "leave" = some none)
  (kwS:kitOne K (.ref cS) (.ref cW)=some false)
  (ksS:kitOne K (.ref cS) (.ref cS)=some true)
  (kiS:kitOne K (.ref cS) (.ref cI)=some false)
  (mkI:makesIn K cI=true)
  (kcI:keepIn K (.ref cI)=true)
  (LI:Kl K cI)
  (na_landsI:findIn K (.ref cI) "lands" = some none)
  (na_mostI:findIn K (.ref cI) "most" = some none)
  (na_leaveI:findIn K (.ref cI) "leave" = some none)
  (kwI:kitOne K (.ref cI) (.ref cW)=some false)
  (ksI:kitOne K (.ref cI) (.ref cS)=some true)
  (kiI:kitOne K (.ref cI) (.ref cI)=some true)
  (rdR:readsIn K cR (.type "type")=true)
  (gsR:specialIn K (.ref cR) "__getattribute__" = some (some (.builtin "type.__getattribute__")))
  (fcR:findCls K (.ref cR) (.type "type") "__init__" = some (.val (.ref fiR)))
  (rdS:readsIn K cS (.type "type")=true)
  (gsS:specialIn K (.ref cS) "__getattribute__" = some (some (.builtin "type.__getattribute__")))
  (fcS:findCls K (.ref cS) (.type "type") "__init__" = some (.val (.ref fiS)))
  (og:specialIn K (.builtin "object.__class__") "__get__" = some (some (.builtin "getset_descriptor.__get__")))
  (ot:takesIn K (.builtin "object.__class__")=some true)
  :
  ∃fd:FuncData,(∀(s:Shared) (v:Value),BindsTo s fd ⟨[v],[]⟩ [("_law_script",v)])/\∀base:Heap,K.In base->base.Ns mainGlobals mg->FnOk l.prog w K mg base CX0 20 fa fd ["_law_script"] (spF (qeK cW cS cI) K (clK pg 20) "law"):=by
 have e:=hfa.symm.trans (mg_of X G aL.1);cases e;obtain⟨dL,FL,bL⟩:=qjz aL.2 ((bd1 λ_ _ _ _ _ _ _ =>rfl));have z:=z.all X G;obtain⟨diR,FiR,biR⟩:=j4 hiR (ps:=["self","lands","most"]) ((bd3 λ_ _ _ _ _ _ _ _ _ =>rfl));obtain⟨diW,FiW,biW⟩:=j4 hiW (ps:=["self","lands","most","span"]) ((bd4 λ_ _ _ _ _ _ _ _ _ _ =>rfl));obtain⟨diS,FiS,biS⟩:=j4 hiS (ps:=["self","lands","most","leave"]) ((bd4 λ_ _ _ _ _ _ _ _ _ _ =>rfl));obtain⟨diI,FiI,biI⟩:=j4 hiI (ps:=["self","lands","most"]) ((bd3 λ_ _ _ _ _ _ _ _ _ =>rfl));obtain⟨dmw,Fmw,bmw⟩:=j4 hmw (ps:=["self","land"]) ((bd2 λ_ _ _ _ _ _ _ _ =>rfl));obtain⟨dlW,FlW,blW⟩:=j4 hlW (ps:=["self"]) ((bd1 λ_ _ _ _ _ _ _ =>rfl));obtain⟨dlS,FlS,blS⟩:=j4 hlS (ps:=["self"]) ((bd1 λ_ _ _ _ _ _ _ =>rfl));obtain⟨dlI,FlI,blI⟩:=j4 hlI (ps:=["self"]) ((bd1 λ_ _ _ _ _ _ _ =>rfl));have mcR:=mg_of X G ncR;have mcW:=mg_of X G ncW;have mcS:=mg_of X G ncS;have mcI:=mg_of X G ncI;have rW:Kr K fmw cW cW cS "span" true:=⟨LW,na_landsW,na_mostW,na_spanW,⟨twW,nmw,hmw.kp⟩,kwW,ksW⟩;have rS:Kr K fmw cS cW cS "leave" false:=⟨LS,na_landsS,na_mostS,na_leaveS,⟨twS,nmw,hmw.kp⟩,kwS,ksS⟩;have rI:Kr K fmw cI cW cS "leave" false:=⟨LI,na_landsI,na_mostI,na_leaveI,⟨twI,nmw,hmw.kp⟩,kwI,ksI⟩
 have clsA:∀c C,qeK cW cS cI c=some C->Cls K C:=λc C hc=>by
  rcases qcp hc with ⟨_,rfl⟩ | ⟨_,rfl⟩ | ⟨_,rfl⟩
  ·exact rW.kl.cls
  ·exact rS.kl.cls
  ·exact rI.kl.cls
 have fldA:∀c x C,qjj.fld c x=true->qeK cW cS cI c=some C->zj K C x:=λc x C hf hc=>by
  rcases qkZ hf with ⟨hr,rfl | rfl⟩ | ⟨rfl,rfl⟩ | ⟨rfl | rfl,rfl⟩
  ·rcases QT hr with rfl | rfl | rfl
   ·cases hc;exact rW.la
   ·cases hc;exact rS.la
   ·cases hc;exact rI.la
  ·rcases QT hr with rfl | rfl | rfl
   ·cases hc;exact rW.mo
   ·cases hc;exact rS.mo
   ·cases hc;exact rI.mo
  ·cases hc;exact rW.fx
  ·cases hc;exact rS.fx
  ·cases hc;exact rI.fx
 have fldB:∀c x C,pcs.fld c x=true->qeK cW cS cI c=some C->zj K C x:=λc x C hf hc=>by
  refine fldA c x C ?_ hc;rcases qcp hc with ⟨rfl,_⟩ | ⟨rfl,_⟩ | ⟨rfl,_⟩
  all_goals
   have hf:((rk _&&(x == "lands" || x == "most" || (x == "span" && _)||(x == "leave" && _)))||(_&&(x == "kept_rules" || x == "kept_papers")))=true:=hf;rw[Bool.or_eq_true] at hf;rcases hf with hf | hf
   ·exact hf
   ·rw[Bool.and_eq_true] at hf;exact absurd hf.1 (2:)
 have tx:Tx (qeK cW cS cI) K mg:=⟨z "tuple" (by decide+kernel),z "list" (by decide+kernel),z "len" (by decide+kernel),⟨_,mg_of X G v0⟩,clsA,fldB⟩;have cfR:ClsFn K cR "__init__" fiR:=⟨rdR,gsR,fcR,hiR.kp⟩;have cfS:ClsFn K cS "__init__" fiS:=⟨rdS,gsS,fcS,hiS.kp⟩;refine⟨dL,bL,λbase _ _=>qiF (k:=19) (st:=top 38) ?ok FL (by kernel_rfl) (by kernel_rfl)⟩
 case ok=>
 refine { fn:=a.all X G ?q,blt:=z,gl:=?g,cls:=clsA,flds:=fldA,mts:=?m,mks:=?k,subs:=?s }
 case q=>repeat first | exact .nil |refine .cons (by kernel_rfl) (bd2 λ_ _ _ _ _ _ _ _ =>rfl) ?_ |refine .cons (by kernel_rfl) (bd3 λ_ _ _ _ _ _ _ _ _ =>rfl) ?_ |refine .cons (by kernel_rfl) (bd1 λ_ _ _ _ _ _ _ =>rfl) ?_ |refine .cons (by kernel_rfl) (bd4 λ_ _ _ _ _ _ _ _ _ _ =>rfl) ?_ |refine .cons (by kernel_rfl) (bd5 λ_ _ _ _ _ _ _ _ _ _ _ =>rfl) ?_ |refine .cons (by kernel_rfl) (bd6 λ_ _ _ _ _ _ _ _ _ _ _ _ =>rfl) ?_
 case g=>
  intro x d hd;unfold pg at hd;dsimp only at hd
  by_cases h0:x = "GREATEST"
  ·rw[if_pos h0] at hd;cases hd;exact⟨.int 1000000000,_,h0▸mg_of X G v0,⟨_,rfl⟩,λ_=>by simp only[Rep]⟩
  rw[if_neg h0] at hd
  by_cases h1:x = "LETTERS"
  ·rw[if_pos h1] at hd;cases hd;exact⟨.str "abcdefghijklmnopqrstuvwxyz",_,h1▸mg_of X G v1,⟨_,rfl⟩,λ_=>by simp only[Rep]⟩
  rw[if_neg h1] at hd
  by_cases h2:x = "LONGEST_NAME"
  ·rw[if_pos h2] at hd;cases hd;exact⟨.int 8,_,h2▸mg_of X G v2,⟨_,rfl⟩,λ_=>by simp only[Rep]⟩
  rw[if_neg h2] at hd
  by_cases h3:x = "FIGURES"
  ·rw[if_pos h3] at hd;cases hd;exact⟨.str "0123456789",_,h3▸mg_of X G v3,⟨_,rfl⟩,λ_=>by simp only[Rep]⟩
  rw[if_neg h3] at hd
  by_cases h4:x = "MOST_FIGURES"
  ·rw[if_pos h4] at hd;cases hd;exact⟨.int 10,_,h4▸mg_of X G v4,⟨_,rfl⟩,λ_=>by simp only[Rep]⟩
  rw[if_neg h4] at hd
  by_cases h5:x = "MOST_LANDS"
  ·rw[if_pos h5] at hd;cases hd;exact⟨.int 6,_,h5▸mg_of X G v5,⟨_,rfl⟩,λ_=>by simp only[Rep]⟩
  rw[if_neg h5] at hd
  by_cases h6:x = "GREATEST_WEIGHT"
  ·rw[if_pos h6] at hd;cases hd;exact⟨.int 9,_,h6▸mg_of X G v6,⟨_,rfl⟩,λ_=>by simp only[Rep]⟩
  rw[if_neg h6] at hd;cases hd
 case m=>
  intro c x f hm;rcases qmg hm with ⟨hr,rfl,rfl⟩ | ⟨rfl,rfl,rfl⟩ | ⟨rfl,rfl,rfl⟩ | ⟨rfl,rfl,rfl⟩
  ·rcases QT hr with rfl | rfl | rfl
   ·exact⟨cW,fmw,_,mem 20 1,"weight",rfl,rW.wt,by kernel_rfl,by kernel_rfl,Fmw,bmw⟩
   ·exact⟨cS,fmw,_,mem 20 1,"weight",rfl,rS.wt,by kernel_rfl,by kernel_rfl,Fmw,bmw⟩
   ·exact⟨cI,fmw,_,mem 20 1,"weight",rfl,rI.wt,by kernel_rfl,by kernel_rfl,Fmw,bmw⟩
  ·exact⟨cW,flW,_,mem 21 1,"line",rfl,⟨tlW,nlW,hlW.kp⟩,by kernel_rfl,by kernel_rfl,FlW,blW⟩
  ·exact⟨cS,flS,_,mem 22 1,"line",rfl,⟨tlS,nlS,hlS.kp⟩,by kernel_rfl,by kernel_rfl,FlS,blS⟩
  ·exact⟨cI,flI,_,mem 23 1,"line",rfl,⟨tlI,nlI,hlI.kp⟩,by kernel_rfl,by kernel_rfl,FlI,blI⟩
 case k=>
  intro P wd base k ih f hf
  by_cases hk:k < 12
  ·exact .inl λargs=>if_pos hk
  obtain⟨j,rfl⟩:∃j,k=j+12:=⟨k - 12,by omega⟩;right
  have hf:f = "Within"\/f = "Since"\/f = "InRow":=by
   have hf:((["Within","Since","InRow"]:List Str).contains f)=true:=hf
   simpa using hf
  rcases hf with rfl | rfl | rfl
  ·exact⟨cW,fiW,_,_,_,⟨mkW,inW,niW,kcW⟩,qau (j:=j+9) tx FiW FiR biR mcR cfR (ih (j+9) (1:)) (ih (j+10) (1:)) (qgJ (j+4)) (qgJ (j+5)),mcW,biW,by omega,QS (c:="Within") rfl rfl λargs r=>qmd (j:=j)⟩
  ·exact⟨cS,fiS,_,_,_,⟨mkS,inS,niS,kcS⟩,Qc (j:=j+9) tx FiS FiR biR mcR cfR (ih (j+9) (1:)) (ih (j+10) (1:)) (qgJ (j+4)) (qgJ (j+5)),mcS,biS,by omega,QS (c:="Since") rfl rfl λargs r=>qme (j:=j)⟩
  ·exact⟨cI,fiI,_,_,_,⟨mkI,inI,niI,kcI⟩,qcj (j:=j+8) tx FiI FiS biS mcS cfS FiR biR mcR cfR (ih (j+8) (1:)) (ih (j+9) (1:)) (qgJ (j+3)) (qgJ (j+4)),mcI,biI,by omega,QS (c:="InRow") rfl rfl λargs r=>qmf (j:=j)⟩
 case s=>
  intro c t b hs;obtain⟨hr,⟨rfl,rfl⟩ | ⟨rfl,rfl⟩ | ⟨rfl,rfl⟩⟩:=qk0 hs
  ·rcases QT hr with rfl | rfl | rfl
   ·exact⟨cW,cW,rfl,ty3 rW.kl og ot,mcW,rW.iw⟩
   ·exact⟨cS,cW,rfl,ty3 rS.kl og ot,mcW,rS.iw⟩
   ·exact⟨cI,cW,rfl,ty3 rI.kl og ot,mcW,rI.iw⟩
  ·rcases QT hr with rfl | rfl | rfl
   ·exact⟨cW,cS,rfl,ty3 rW.kl og ot,mcS,rW.is⟩
   ·exact⟨cS,cS,rfl,ty3 rS.kl og ot,mcS,rS.is⟩
   ·exact⟨cI,cS,rfl,ty3 rI.kl og ot,mcS,rI.is⟩
  ·rcases QT hr with rfl | rfl | rfl
   ·exact⟨cW,cI,rfl,ty3 rW.kl og ot,mcI,kiW⟩
   ·exact⟨cS,cI,rfl,ty3 rS.kl og ot,mcI,kiS⟩
   ·exact⟨cI,cI,rfl,ty3 rI.kl og ot,mcI,kiI⟩
theorem qmh{l:PySem.W.OpenLaw}{q:Program}{loose:List Str}{XP:(Str->Option Value)->Heap->Prop}{YP:World->Heap->Prop}{d:DefRec}{K:Params->Frag}{κ:KC}(hn:l.most=some 63)(hdf:d.params.defaults=[])
  (hY:∀(w:World) (h:Heap),YP w h->(K w.params).In h)
  (F:∀(w:World) (mg:PR) (fa:Addr) (h:Heap),(K w.params).In h->h.Ns mainGlobals mg->mg d.name=some (.ref fa)->
   ∃fd:FuncData,(∀(s:Shared) (u:Value),BindsTo s fd ⟨[u],[]⟩ [("_law_script",u)])/\∀base:Heap,(K w.params).In base->base.Ns mainGlobals mg->FnOk l.prog w (K w.params) mg base CX0 20 fa fd ["_law_script"] (spF κ (K w.params) (clK pg 20) "law")) :
  PySem.W.WalkO q loose XP YP l.row.toRowW d [] (λf vs=>PySem.call f vs):=
 L2.qe7 (n:=63) (k:=20) (x:="_law_script") (CX:=λ_=>CX0) (sp:=λw=>spF κ (K w.params) (clK pg 20) "law") hn (2:) hdf ⟨rfl,by decide,by decide⟩ hY F (λ_ _ a ns hl _ hS=>qiG hS (qd1 ns)) λ_ _ _ _ _ z=>z
end K12
open PySem PySem.W PyProof.Rows
set_option maxRecDepth 100000 in
set_option maxHeartbeats 0 in
theorem PySem.Challenge.cw_daysgate_k12_lines_of_rules_holds : PySem.Challenge.rw_daysgate_k12_lines_of_rules.Holds := by
 w_on;refine holds_law saidX λsaid=>?_
 refine holds_open (q:=K12.Hq) (loose:=[]) (Xt:=K12.Hx) (XP:=XL K12.Hq []) (Yf:=λs=>K12.Has.map s.heap.get?) (Ya:=λw=>(K12.HK w.params).map λp=>some p.2) (YP:=InK K12.HK) (N:=5642) K12.qkX (InK.of K12.HKe) InK.keeps (λs e=>xl_of s (Bool.and_eq_true_iff.mp e).1) XL.keeps (by rfl) (by rfl) (by rfl) (λs e=>recFacts_of (Bool.and_eq_true_iff.mp e).2) (by rfl) (by first | assumption | decide+kernel) (by decide+kernel) ⟨rfl,rfl,rfl,rfl,rfl,by decide+kernel⟩ ?hw ?hc
 (case hw=>w_witness2)
 k_fill
 refine K12.qmh (l:=PySem.Challenge.rw_daysgate_k12_lines_of_rules) (κ:=(K12.qeK (nat_lit 152) (nat_lit 178) (nat_lit 204))) rfl rfl (λw h Y=>Y) ?F
 case F=>
  intro w mg fa h KX G hmg
  refine' K12.qjA KX G hmg ?_ ?_ ?_ ?_ ?_ ?_ ?_ ?_ ?_ ?_ ?_ ?_ ?_ ?_ ?_ ?_ ?_ ?_ ?_ ?_ ?_ ?_ ?_ ?_ ?_ ?_ ?_ ?_ ?_ ?_ ?_ ?_ ?_ ?_ ?_ ?_ ?_ ?_ ?_ ?_ ?_ ?_ ?_ ?_ ?_ ?_ ?_ ?_ ?_ ?_ ?_ ?_ ?_ ?_ ?_ ?_ ?_ ?_ ?_ ?_ ?_ ?_ ?_ ?_ ?_ ?_ ?_ ?_ ?_ ?_ ?_ ?_ ?_ ?_ ?_
  all_goals try first | k_is | exact⟨by k_is,by unfold DG.J0;exact⟨_,_,_,_,_,_,_,_,_,by k_is,by k_is,by k_is⟩⟩ | (unfold DG.J0;exact⟨_,_,_,_,_,_,_,_,_,by k_is,by k_is,by k_is⟩) | (refine⟨⟨?_,?_,?_,?_⟩,?_,?_⟩<;>k_is) | kit_is | (repeat first | exact .nil | refine .cons ⟨by k_is,by unfold DG.J0;exact⟨_,_,_,_,_,_,_,_,_,by k_is,by k_is,by k_is⟩⟩ ?_ | refine .cons (by k_is) ?_)
#print axioms PySem.Challenge.cw_daysgate_k12_lines_of_rules_holds
