import PyProof.Rows.All
import Wide.All
import OpenK.AllK
import PySem.Challenge.RW_daysgate_k71_whole_books_parted
set_option Elab.async false
set_option linter.all false
set_option maxRecDepth 100000
set_option compiler.extract_closed false
set_option bootstrap.genMatcherCode false
set_option genSizeOf false
set_option genInjectivity false
set_option backward.eqns.nonrecursive false
noncomputable section
abbrev PP:=List (PySem.Addr×PySem.Obj)
abbrev PQ:=PySem.Value->PySem.Shared->Prop
abbrev PR:=PySem.Str->Option PySem.Value
open PySem.W (Frag)
set_option hygiene false
local macro_rules
| `(%[$n:num|0])=>`(.cons (.var $n) .nil)
| `(%[$a|0])=>`(.cons $a .nil)
| `(%[$n:num,$b,*|0])=>`(.cons (.var $n) %[$b,*|0])
| `(%[$a,$b,*|0])=>`(.cons $a %[$b,*|0])
| `(%[$n:num|1])=>`(qq (pg:=pg) (st:=top $n) (4:) λk cl=>(4:))
def saidX:PySem.Challenge.rw_daysgate_k71_whole_books_parted.wellSaid=true:=by kernel_rfl
local macro_rules|`(($n:num :))=>`(nat_lit $n)
local macro_rules|`((1:))=>`(by lia)|`((5:))=>`(by simp)|`((-$e :))=>`(by simpa using $e)|`((3:))=>`(by decide+kernel)|`((4:))=>`(by kernel_rfl)|`((2:))=>`(by decide)
local macro_rules|`(tactic| simp?![$ls,*])=>do
  let f (s:String) (k:Lean.Name):=(s.splitOn " ").toArray.map λn=>Lean.mkIdent (k++n.toName)
  let b<-(f "Rv.list? Rv.plain? Rv.data Rv.int? Rv.str? Rv.bl? Rv.tup? int2 seqD Rv.non? idxD sliceD truthD lenD listD intD strD tupD maxD minD B1.go B2.go Ty.of Ty.go toAr toSl flR slN runD th_ok of_some slR_s slR_v slR_o slR_b slR_c slX_s slX_v slX_o ownI_s ownI_o kk_f kk_cs kk_nw at_0 at_1 at_2 ixN_app set_app emp_app xR_var xR_con xR_bin xR_neg xR_not xR_one xR_and xR_cmp xR_ite xR_idx xR_sli xR_lst xR_tup xR_rvs xR_calN xR_call xR_b1 xR_b2 xR_isc xR_fld xR_met xR_new xR_isi xR_comp yRet yBl yTmp yB1 yB2 yNeg yNot yAnd yC1 yC2 yIf yI1 yI2 yS1 yS2 yS3 yLst yTup yRvs_v yNwV yCalN yCall yF1 yG1 yG2 yIsc yDat yFld yMt3 yMt2 yMt1 yMtO yNew yIsi yComp xT_not xT_one xT_and xT_or xT_cmp xT_val yBo yTn yTa yTo yD1 yD2 yTv xF_yes xF_test xEs_nil xEs_cons yE1 yE2 xAs_nil xAs_cons yA1 yA2 xO_none xO_some yO xI_seq xI_rng xI_rev xI_enum xI_zip ySeq yRng yRev yEnum yZ1 yZ2 yVal yValt yValL yValLt yValLs yValLm yX yXt yAv yAx yAxt yCons xE_s xE_v xE_o xL_s xL_l xL_z xL_o xL_b oGo_some xS_app yApp yApp2 xS_ext yExt yExt2 xS_ret yRt xS_set ySet xS_setT yST yNx xS_setI ySI ySI2 ySI3 ySI4 xS_ite yIte xS_for yFor xS_whl xSs_nil xSs_cons yNext yNextr xFo_cons yFo1 yFo2 yFo2r xWh yWh1 yWh2 xP_cons yP1 yP2 yP3 vc_bin vc_rvs vc_and vc_cmp vc_ite vc_idx vc_sli vc_lst vc_tup vc_call vc_calN vc_b1 vc_b2 vc_fld vc_met vc_new vc_comp eE_g eL_g eX_g eA_g eE_var eE_con eL_var eX_var eX_con eA_var eA_con bAdd bAdds bAddtt bAddct bAddvt bSub bMult bDiv bMod cEq cNe cLt cLe cGt cGe cIs cIsN cIn cNi mIn rgoV rgoT setIs_nil setIs_cons g_mapc g_mapn g_lenc g_lenn g_rep0 g_reps g_appc g_appn g_set0 g_sets g_last g_nott g_notf g_omap g_fe g_and g_dt g_df lend_v" `DE++f "Int.reduceLT Int.reduceLE Nat.reduceAdd Nat.reduceSub" .anonymous).mapM λn=>`(Lean.Parser.Tactic.simpLemma| $n:ident)
  let d<-(f "sA_p sA_R sA_L sL_L rA_a rA_l rA_s rA_t rA_y" `DE++f "reduceIte" .anonymous).mapM λn=>`(Lean.Parser.Tactic.simpLemma| ↓ $n:ident)
  let c:Array (Lean.TSyntax [`Lean.Parser.Tactic.simpStar, `Lean.Parser.Tactic.simpErase, `Lean.Parser.Tactic.simpLemma]):=(b++d).map (⟨·.raw⟩)++ls.getElems
  `(tactic| simp only[$c,*])
local macro_rules|`({$xs:term,*})=>`(⟨$xs,*⟩)
local macro_rules|`(tactic|simp?[$ls,*])=>`(tactic|(refine(qh _).symm.trans ?_;simp?![$ls,*]))
local macro_rules|`(tactic|simp![$ls,*]$[$l:location]?)=>`(tactic|simp only[$ls,*]$[$l]?)
open Lean Parser.Tactic in
local macro_rules|`(tactic|let$d:letDecl)=>do
 let s:=d.raw[0]
 unless s[0].isOfKind ``Parser.Term.tuple do Macro.throwUnsupported
 let N k (a:Array Syntax):Syntax:=.node .none k a
 let M x:=N ``rcasesPatMed #[mkNullNode #[x]]
 let q:=s[0].rewriteBottomUp λs=>if s.isIdent then N ``rcasesPat.one #[s] else if s.isOfKind ``Parser.Term.hole then N ``rcasesPat.ignore #[mkAtom "_"] else if s.isOfKind ``Parser.Term.tuple then N ``rcasesPat.tuple #[mkAtom "⟨",mkSepArray ((#[s[1][0]]++s[1][2].getSepArgs).map λx=>N ``rcasesPatLo #[M x,mkNullNode]) (mkAtom ",")|>mkNullNode,mkAtom "⟩"] else s
 return N ``obtain #[mkAtom "obtain",mkNullNode #[M q],mkNullNode s[2][0].getArgs,mkNullNode #[mkAtom ":=",mkNullNode #[s[4]]]]
local macro_rules|`(command|$d:definition)=>`(command|noncomputable $d:definition)
namespace TS
open PySem PyProof.Rows
section
variable{O:KeyOrd}{kf:Keyed->O.α}
def le(O:KeyOrd)(kf:Keyed->O.α)(x y:Keyed):Prop:=O.kle (kf x) (kf y)
def Srt(O:KeyOrd)(kf:Keyed->O.α)(a:Array Keyed)(lo hi:Nat):Prop:=∀(i j:Nat) (x y:Keyed),lo<=i->i<=j->j < hi->a[i]?=some x->a[j]?=some y->le O kf x y
def Srt.pw{a:Array Keyed}(h:Srt O kf a 0 a.size):a.toList.Pairwise (le O kf):=by
 rw[List.pairwise_iff_getElem];intro i j hi hj hij;have hj':j < a.size:=(-hj:)
 have hi':i < a.size:=(-hi:)
 exact h i j _ _ (1:) (1:) hj' (by simp[hi']) (by simp[hj'])
variable{a b o:Array Keyed}{i j:Nat}
end
end TS
namespace L2
open PySem PySem.Spec PyProof.Rows
abbrev Key:=Sum Int Str
def YW:Key->Value->Bool
 |.inl k,v=>Value.isInt k v
 |.inr x,v=>Value.isStrOf x v
def qoS(w:World):Key->Int
 |.inl k=>hashInt k
 |.inr x=>hashStr w x
theorem qu:∀{k:Key} {v:Value},YW k v=true->(∃i t,k=Sum.inl i/\v=Value.int i t)\/(∃x t,k=Sum.inr x/\v=Value.str x t)
 |.inl i,v,h=>by let(t,e):=Value.isInt_shape (k:=i) (v:=v) h;exact .inl ⟨i,t,rfl,e⟩
 |.inr x,v,h=>by let(t,e):=Value.isStrOf_shape (x:=x) (v:=v) h;exact .inr ⟨x,t,rfl,e⟩
def qdn(i:Int)(t:Tok):YW (.inl i) (.int i t)=true:=by simp[YW,Value.isInt]
def qdo(x:Str)(t:Tok):YW (.inr x) (.str x t)=true:=by simp[YW,Value.isStrOf]
def qkb(a b:Int):decide ((Sum.inl a:Key)=Sum.inl b)=(a == b):=by
 by_cases e:a=b
 ·subst e;simp
 ·have h:¬ (Sum.inl a:Key)=Sum.inl b:=λq=>e (Sum.inl.inj q);rw[decide_eq_false h];exact(beq_eq_false_iff_ne.mpr e).symm
def qkc(a b:Str):decide ((Sum.inr a:Key)=Sum.inr b)=decide (a=b):=by
 by_cases e:a=b
 ·subst e;simp
 ·have h:¬ (Sum.inr a:Key)=Sum.inr b:=λq=>e (Sum.inr.inj q);rw[decide_eq_false h,decide_eq_false e]
def qkd(a:Int)(b:Str):decide ((Sum.inl a:Key)=Sum.inr b)=false:=decide_eq_false (λq=>nomatch q)
def qke(a:Str)(b:Int):decide ((Sum.inr a:Key)=Sum.inl b)=false:=decide_eq_false (λq=>nomatch q)
def qr(prog:Program)(w:World):PySem.KeyKind prog w Key where
 is:=YW
 hash:=qoS w
 inj:=λv a b ha hb=>by
  rcases qu ha with ⟨i,t,rfl,rfl⟩|⟨x,t,rfl,rfl⟩
  ·rcases qu hb with ⟨j,u,rfl,e⟩|⟨y,u,rfl,e⟩
   ·injection e with e1 _;rw[e1]
   ·exact nomatch e
  ·rcases qu hb with ⟨j,u,rfl,e⟩|⟨y,u,rfl,e⟩
   ·exact nomatch e
   ·injection e with e1 _;rw[e1]
 byValue:=λk v h=>by rcases qu h with ⟨i,t,rfl,rfl⟩|⟨x,t,rfl,rfl⟩<;>rfl
 pyHash:=λhv h=>by
  rcases qu hv with ⟨i,t,rfl,rfl⟩|⟨x,t,rfl,rfl⟩
  ·exact wpAny_pyHash_int h
  ·exact wpAny_pyHash_str h
 eqBool:=λhu hv h=>by
  rcases qu hu with ⟨i,t,rfl,rfl⟩|⟨x,t,rfl,rfl⟩
  ·rcases qu hv with ⟨j,u,rfl,rfl⟩|⟨y,u,rfl,rfl⟩
   ·rw[qkb]at h;exact wpAny_eqBool_int h
   ·rw[qkd]at h;exact SeqAt.EqAt.int_str i t y u _ _ _ _ h
  ·rcases qu hv with ⟨j,u,rfl,rfl⟩|⟨y,u,rfl,rfl⟩
   ·rw[qke]at h;exact SeqAt.EqAt.str_int x t j u _ _ _ _ h
   ·rw[qkc]at h;exact wpAny_eqBool_str h
 «strs»:=λk x t v h=>by
  rcases qu h with ⟨i,u,rfl,e⟩|⟨y,u,rfl,e⟩
  ·exact nomatch e
  ·injection e with e1 _;subst e1;cases v<;>rfl
def qaL(prog:Program)(w:World)(i:Int)(t:Tok):(qr prog w).is (.inl i) (.int i t)=true:=qdn i t
def qaM(prog:Program)(w:World)(x:Str)(t:Tok):(qr prog w).is (.inr x) (.str x t)=true:=qdo x t
inductive V where
 | non|bl (b:Bool)|int (i:Int)|str (x:Str)|byt (b:Array UInt8)|flt (b:UInt64)|ref (a:Addr)|ty (n:String)
 deriving DecidableEq
def qH:V->Value->Prop
 |.non,u=>u=Value.none
 |.bl b,u=>u=Value.bool b
 |.int i,u=>∃t,u=Value.int i t
 |.str x,u=>∃t,u=Value.str x t
 |.byt b,u=>∃t,u=Value.bytes b t
 |.flt b,u=>∃t,u=Value.float b t
 |.ref a,u=>u=Value.ref a
 |.ty n,u=>u=Value.type n
abbrev qB:List V->List Value->Prop:=Paired qH
def qB.length{xs:List V}{us:List Value}(r:qB xs us):xs.length=us.length:=Paired.length r
theorem qB.get:∀{xs:List V} {us:List Value} {i:Nat} {x:V},qB xs us->xs[i]?=some x->∃u,us[i]?=some u/\qH x u
 |_,_,_,_,.nil,e=>by simp at e
 |_,_,0,_,.cons r _,e=>by simp at e;subst e;exact{_,rfl,r}
 | _,_,i+1,x,.cons _ t,e=>by let(u,h1,h2):=qB.get (i:=i) (x:=x) t (-e:);exact{u,(-h1:),h2}
theorem qB.set{x:V}{u:Value}(r:qH x u):∀{xs:List V} {us:List Value} (i:Nat),qB xs us->qB (xs.set i x) (us.set i u)
 |_,_,_,.nil=>.nil
 |_,_,0,.cons _ t=>.cons r t
 | _,_,i+1,.cons q t=>.cons q (qB.set r i t)
theorem qB.append:∀{xs ys:List V} {us ws:List Value},qB xs us->qB ys ws->qB (xs++ys) (us++ws)
 |_,_,_,_,.nil,s=>s
 |_,_,_,_,.cons r t,s=>.cons r (qB.append t s)
theorem qB.take:∀{xs:List V} {us:List Value} (n:Nat),qB xs us->qB (xs.take n) (us.take n)
 |_,_,0,_=>.nil
 | _,_,_+1,.nil=>.nil
 | _,_,n+1,.cons r t=>.cons r (qB.take n t)
theorem qB.drop:∀{xs:List V} {us:List Value} (n:Nat),qB xs us->qB (xs.drop n) (us.drop n)
 |_,_,0,r=>r
 | _,_,_+1,.nil=>.nil
 | _,_,n+1,.cons _ t=>qB.drop n t
def qaN:Option V->Option Value->Prop
 |some v,some u=>qH v u
 |none,none=>True
 |_,_=>False
def KV{U:Type}:List (U×V)->List (U×Value)->Prop:=Paired λ(p:U×V) (q:U×Value)=>p.1=q.1/\qH p.2 q.2
def kV:Key->V
 |.inl i=>.int i
 |.inr x=>.str x
inductive HO where
 | lst (xs:List V)
 | tup (xs:List V)
 | dK (kvs:List (Key×V))|dT (kvs:List (List Key×V))
 | set (S:Int->Bool) (n:Nat)
 | ins (C dx:Addr) (fs:List (Str×V))
 | own (x:Addr)
 | xd (fs:List (Str×V))
 | met (f x:Addr)
 | rng (lo hi:Int)
 | frz (o:Obj) (u:HO)
 | tbl (ps:Array Value)
 | ext (φ:Heap->Prop)
abbrev Hp:=Addr->Option HO
def upd(H:Hp)(a:Addr)(o:HO):Hp:=λb=>if b=a then some o else H b
def qg{H:Hp}{a:Addr}{o:HO}:upd H a o a=some o:=by unfold upd;rw[if_pos rfl]
def qe{H:Hp}{a b:Addr}{o:HO}(h:b≠a):upd H a o b=H b:=by unfold upd;rw[if_neg h]
def qY{H:Hp}{a b:Addr}{o:HO}(h:H a=some o)(h':H b=none):a≠b:=by intro e;subst e;rw[h]at h';cases h'
section
variable(P:Program)(w:World)
def qO(H:Hp)(h:Heap)(a:Addr):HO->Prop
 |.lst xs=>xs.length<=sizeLine/\∃(its:List Value) (n:Nat),qB xs its/\h.get? a=some { cls:=.type "list",data:=.seq its.toArray n }
 |.tup xs=>xs.length<=sizeLine/\∃its:List Value,qB xs its/\IsTup h a its.toArray
 |.dK kvs=>kvs.length<=sizeLine/\(a == sysModules)=false/\∃vs,KV kvs vs/\h.DictOf (qr P w) a vs
 |.dT kvs=>kvs.length<=sizeLine/\(a == sysModules)=false/\∃xs:List (List Key×Addr×Value),
   Paired (λ(p:List Key×V) (q:List Key×Addr×Value)=>p.1=q.1/\H q.2.1=some (.tup (p.1.map kV))/\qH p.2 q.2.2) kvs xs/\
   ∃o es ep,h.get? a=some o/\o.ExactDict/\o.data=.dict es ep/\es.toList=xs.map (entryOfKey (tupleKind (qr P w)))/\(xs.map (·.1)).Nodup
 |.set S n=>h.SetOf (intKind P w) a S n
 |.ins C dx fs=>H dx=some (.own a)/\fs.length<=1000/\dx≠a/\h.get? a=some (PySem.W.instObj C dx)/\
   ∃mA,h.Ns1 dx mA/\(∀f,qaN (fs.lookup f) (mA f))/\PySem.Within mA (fs.map (·.1))
 |.own _=>∃o,h.get? a=some o
 |.xd fs=>∃mA,h.Ns1 a mA/\∀f,qaN (fs.lookup f) (mA f)
 |.rng lo hi=>∃t u v,h.get? a=some { cls:=.type "range",data:=.fields #[.int lo t,.int hi u,.int 1 v] }
 |.frz o u=>h.get? a=some o/\qO H h a u
 |.tbl ps=>h.get? a=some { cls:=.none,data:=.fields ps }
 |.met f x=>h.get? a=some (PySem.W.methodObj (.ref f) (.ref x))
 |.ext φ=>φ h/\(∃o,h.get? a=some o)/\∀h1 h2:Heap,φ h1->(∀o,h1.get? a=some o->h2.get? a=some o)->φ h2
def HOk(H:Hp)(h:Heap):Prop:=∀a o,H a=some o->qO P w H h a o
end
section
variable{P:Program}{w:World}{H H':Hp}{h h':Heap}{a:Addr}{o:HO}
theorem qO.lt(x:qO P w H h a o):a < h.objs.size:=by
 cases o with
 |lst xs=>let(_,_,_,_,e):=x;exact Heap.lt_size e
 |tup xs=>let(_,_,_,p):=x;exact p.lt
 |dK kvs=>let(_,_,_,_,o,_,_,e,_):=x;exact Heap.lt_size e
 |dT kvs=>let(_,_,_,_,o,_,_,e,_):=x;exact Heap.lt_size e
 |set S n=>let(o,_,_,_,e,_):=x;exact Heap.lt_size e
 |ins C dx fs=>let(_,_,_,e,_):=x;exact Heap.lt_size e
 |own y=>let(_,e):=x;exact Heap.lt_size e
 |xd fs=>let(_,(_,_,_,e,_),_):=x;exact Heap.lt_size e
 |rng lo hi=>let(_,_,_,e):=x;exact Heap.lt_size e
 |frz ob u=>let(e,_):=x;exact Heap.lt_size e
 |tbl ps=>exact Heap.lt_size (show h.get? a=some _ from x)
 |met f y=>exact Heap.lt_size (show h.get? a=some _ from x)
 |ext φ=>let(_,(_,e),_):=x;exact Heap.lt_size e
theorem Paired.mapP{α M:Type}{F G:α->M->Prop}:∀{l₁:List α} {l₂:List M},Paired F l₁ l₂->(∀a b,F a b->G a b)->Paired G l₁ l₂
 |_,_,.nil,_=>.nil
 |_,_,.cons r t,f=>.cons (f _ _ r) (Paired.mapP t f)
theorem qO.stay(x:qO P w H h a o)(k:∀b u,(b=a\/H b=some (.own a))->h.get? b=some u->h'.get? b=some u)
  (ho:∀b,H b=some (.own a)->H' b=some (.own a)) (ht:∀b xs,H b=some (.tup xs)->H' b=some (.tup xs)):qO P w H' h' a o:=by
 induction o with
 |lst xs=>let(z,its,n,r,e):=x;exact{z,its,n,r,k _ _ (.inl rfl) e}
 |tup xs=>let(z,its,r,ob,e,c):=x;exact{z,its,r,ob,k _ _ (.inl rfl) e,c}
 |dK kvs=>let(z,y,vs,r,ob,es,ep,e,c):=x;exact{z,y,vs,r,ob,es,ep,k _ _ (.inl rfl) e,c}
 |dT kvs=>let(z,y,xs,r,ob,es,ep,e,c):=x;exact{z,y,xs,Paired.mapP r λp q z=>{z.1,ht _ _ z.2.1,z.2.2},ob,es,ep,k _ _ (.inl rfl) e,c}
 |set S n=>let(ob,es,ep,t,e,c):=x;exact{ob,es,ep,t,k _ _ (.inl rfl) e,c}
 |ins C dx fs=>let(d,z,ne,e,mA,(od,es,ep,e2,c),r):=x;exact{ho _ d,z,ne,k _ _ (.inl rfl) e,mA,{od,es,ep,k _ _ (.inr d) e2,c},r}
 |own y=>let(ob,e):=x;exact{ob,k _ _ (.inl rfl) e}
 |xd fs=>let(mA,(od,es,ep,e,c),r):=x;exact{mA,{od,es,ep,k _ _ (.inl rfl) e,c},r}
 |rng lo hi=>let(t,u,v,e):=x;exact{t,u,v,k _ _ (.inl rfl) e}
 |frz ob u ih=>let(e,q):=x;exact{k _ _ (.inl rfl) e,ih q}
 |tbl ps=>have e:h.get? a=some { cls:=.none,data:=.fields ps }:=x;show h'.get? a=some { cls:=.none,data:=.fields ps };exact k a _ (.inl rfl) e
 |met f y=>have e:h.get? a=some (PySem.W.methodObj (.ref f) (.ref y)):=x;show h'.get? a=some (PySem.W.methodObj (.ref f) (.ref y));exact k a _ (.inl rfl) e
 |ext φ=>let(p,(o,e),st):=x;exact{st _ _ p λo q=>k _ _ (.inl rfl) q,{o,k _ _ (.inl rfl) e},st}
def HOk.lt(x:HOk P w H h)(e:H a=some o):a < h.objs.size:=(x a o e).lt
theorem HOk.fresh(x:HOk P w H h)(e:h.objs.size<=a):H a=none:=by
 cases q:H a with
 |none=>rfl
 |some u=>exact absurd (Nat.lt_of_lt_of_le (x.lt q) e) (Nat.lt_irrefl _)
def HOk.kept(x:HOk P w H h)(k:∀b u,h.get? b=some u->h'.get? b=some u):HOk P w H h':=λa o e=>(x a o e).stay (λb u _ q=>k b u q) (λ_ q=>q) λ_ _ q=>q
def HOk.laid(x:HOk P w H h)(k:∀b u,h.get? b=some u->h'.get? b=some u)(hp:h.objs.size<=a)(new:qO P w (upd H a o) h' a o):HOk P w (upd H a o) h':=λb u e=>by
 have hn:=x.fresh hp
 by_cases hb:b=a
 ·subst hb;rw[qg]at e;cases e;exact new
 ·rw[qe hb]at e;exact(x b u e).stay (λc v _ q=>k c v q) (λc q=>by rw[qe (qY q hn)];exact q) λc xs q=>by rw[qe (qY q hn)];exact q
end
def Rd(H:Hp)(a:Addr)(u:HO):Prop:=H a=some u\/∃o,H a=some (.frz o u)
def Rd.ok{P:Program}{w:World}{H:Hp}{h:Heap}{a:Addr}{u:HO}(r:Rd H a u)(x:HOk P w H h):qO P w H h a u:=by
 rcases r with r|⟨o,r⟩
 ·exact x a u r
 ·let(_,q):=x a _ r;exact q
def Mut:Option HO->Prop
 |some (.lst _)=>True
 |some (.dK _)=>True
 |some (.dT _)=>True
 |some (.set _ _)=>True
 |some (.ins _ _ _)=>True
 |some (.ext _)=>True
 |_=>False
section
variable{P:Program}{w:World}{H:Hp}{h h':Heap}{x e:Addr}{o':HO}
def HOk.write(ok:HOk P w H h)(mu:Mut (H x))(he:e=x\/H e=some (.own x))(k:∀b u,b≠e->h.get? b=some u->h'.get? b=some u)(heo:∃u,h'.get? e=some u)
  (new:qO P w (upd H x o') h' x o'):HOk P w (upd H x o') h':=λb u q=>by
 have nown:∀c y,H c=some (.own y)->c≠x:=λc y r z=>by subst z;rw[r]at mu;exact mu
 have ntup:∀c xs,H c=some (.tup xs)->c≠x:=λc xs r z=>by subst z;rw[r]at mu;exact mu
 by_cases hb:b=x
 ·subst hb;rw[qg]at q;cases q;exact new
 ·rw[qe hb]at q
  by_cases hbe:b=e
  ·have q':H b=some (.own x):=by
    rcases he with z|z
    ·exact absurd (hbe.trans z) hb
    ·rw[hbe];exact z
   rw[q]at q';cases q';let(v,hv):=heo;exact{v,by rw[hbe];exact hv}
  ·refine(ok b u q).stay (λc v hc r=>k c v ?_ r) (λc r=>by rw[qe (nown c b r)];exact r) λc xs r=>by rw[qe (ntup c xs r)];exact r
   rcases hc with rfl|hc
   ·exact hbe
   ·rintro rfl;rcases he with z|z
    ·exact nown c b hc z
    ·rw[hc]at z;cases z;exact hb rfl
end
structure Un(fs ex:List Addr)(H H':Hp)(h h':Heap):Prop where
 keep:∀b o,h.get? b=some o->H b=none->b∉fs->b∉ex->h'.get? b=some o
 slot:∀b o,h.get? b=some o->H b=none->b∈fs->b∉ex->∃sl,h'.get? b=some { o with slots:=sl }
 free:∀b o,h.get? b=some o->H b=none->b∉ex->H' b=none
 there:∀b o,h.get? b=some o->b∉ex->∃o',h'.get? b=some o'
 tups:∀b xs,H b=some (.tup xs)->H' b=some (.tup xs)
 frzs:∀b o u,H b=some (.frz o u)->H' b=some (.frz o u)
 tbls:∀b ps,H b=some (.tbl ps)->∃more,H' b=some (.tbl (ps++more))
section
variable{fs fs' ex ex':List Addr}{H H1 H2:Hp}{h h1 h2 h':Heap}{a x e:Addr}{o:HO}
def Un.any(u:Un fs ex H H1 h h1){b:Addr}{ob:Obj}(q:h.get? b=some ob)(n:H b=none)(hx:b∉ex):∃sl,h1.get? b=some { ob with slots:=sl }:=by
 by_cases hb:b∈fs
 ·exact u.slot b ob q n hb hx
 ·exact{ob.slots,u.keep b ob q n hb hx}
def Un.kept(k:∀b u,h.get? b=some u->h'.get? b=some u):Un fs ex H H h h':=
 ⟨λb ob q _ _ _=>k b ob q,λb ob q _ _ _=>{ob.slots,k b ob q},λ_ _ _ n _=>n,λb ob q _=>{ob,k b ob q},λ_ _ q=>q,λ_ _ _ q=>q,λ_ ps q=>{#[],by rw[q];simp}⟩
def Un.refl:Un fs ex H H h h:=Un.kept λ_ _ q=>q
def Un.laid(k:∀b u,h.get? b=some u->h'.get? b=some u)(hp:h.objs.size<=a)(hn:H a=none):Un fs ex H (upd H a o) h h' where
 keep:=λb u q _ _ _=>k b u q
 slot:=λb u q _ _ _=>{u.slots,k b u q}
 free:=λb u q n _=>by rw[qe (Nat.ne_of_lt (Nat.lt_of_lt_of_le (Heap.lt_size q) hp))];exact n
 there:=λb u q _=>{u,k b u q}
 tups:=λb xs q=>by rw[qe (qY q hn)];exact q
 frzs:=λb u xs q=>by rw[qe (qY q hn)];exact q
 tbls:=λb ps q=>{#[],by rw[qe (qY q hn),q];simp}
def Un.write(mu:Mut (H x))(he:e=x\/H e=some (.own x))(k:∀b u,b≠e->h.get? b=some u->h'.get? b=some u)(heo:∃u,h'.get? e=some u):Un fs ex H (upd H x o) h h':=by
 have hx:∀b,H b=none->b≠x:=λb n z=>by subst z;rw[n]at mu;exact mu
 have hb:∀b,H b=none->b≠e:=λb n z=>by
  subst z;rcases he with r|r
  ·exact hx b n r
  ·rw[n]at r;cases r
 have hm:∀b u,H b=some u->¬ Mut (some u)->b≠x:=λb u q nm z=>by subst z;rw[q]at mu;exact nm mu
 refine{λb u q n _ _=>k b u (hb b n) q,λb u q n _ _=>{u.slots,k b u (hb b n) q},λb u q n _=>by rw[qe (hx b n)];exact n,λb u q _=>?_,
  λb xs q=>by rw[qe (hm b _ q λz=>z)];exact q,λb u xs q=>by rw[qe (hm b _ q λz=>z)];exact q,λb ps q=>{#[],by rw[qe (hm b _ q λz=>z),q];simp}}
 by_cases hbe:b=e
 ·subst hbe;exact heo
 ·exact{u,k b u hbe q}
end
def trk(h:Heap)(H:Hp):List Addr:=(List.range h.objs.size).filter λa=>(H a).isSome
def qfx(h:Heap)(H:Hp):Heap:=PySem.W.hideAll h (trk h H)
def qdp(h:Heap)(H:Hp):(qfx h H).objs.size=h.objs.size:=PySem.W.hideAll_size _ _
def qfy{h:Heap}{H:Hp}{b:Addr}{o:Obj}(e:h.get? b=some o)(n:H b=none):(qfx h H).get? b=some o:=
 PySem.W.hideAll_get _ e λhm=>by have q:(H b).isSome=true:=(List.mem_filter.mp hm).2;rw[n]at q;simp at q
theorem qhV{h:Heap}{H:Hp}{b:Addr}{o:Obj}(e:(qfx h H).get? b=some o):h.get? b=some o/\H b=none:=by
 have e':h.get? b=some o:=PySem.W.of_hideAll (trk h H) e;refine{e',?_}
 cases q:H b with
 |none=>rfl
 |some x=>have hm:b∈trk h H:=List.mem_filter.mpr ⟨List.mem_range.mpr (Heap.lt_size e'),by simp[q]⟩;have z:(qfx h H).get? b=none:=PySem.W.hideAll_none (trk h H) hm;rw[z]at e;cases e
structure Mod(K:Frag)(mg:PR)(base:Heap):Prop where
 kin:K.In base
 glob:base.Ns mainGlobals mg
 blt:∃mb,base.Ns builtinsNs mb/\∀x:Str,x≠"__name__"->mb x=bootBuiltins x
 nolimit:base.NoLimit
structure Cx where
 prog:Program
 w:World
 K:Frag
 mg:PR
 base:Heap
 A:Around
 N:List Str
 s₀:Shared
 Hv:Hp
 env:Env
 outer:List Env
 stack:List Env
 ex:List Addr
 fn:Str->Bool
 calm:Bool
 pn:PP
 xe:PQ
def frs(l:List Env):List Addr:=l.filterMap (·.frame)
abbrev Cx.fs(X:Cx):List Addr:=frs X.outer
def Vis(sc:Scope)(x:Str):Prop:=sc.names.lookup x=some .local\/sc.names.lookup x=some .cell\/sc.names.lookup x=some .free
def Loc(sc:Scope)(x:Str):Prop:=sc.names.lookup x=some .local\/sc.names.lookup x=some .cell
def qpo(env:Env)(h:Heap)(m:PR)(x:Str)(u:Value):Prop:=
 (env.kindOf x=some .local/\m x=some u)\/((env.kindOf x=some .cell\/env.kindOf x=some .free)/\∃c,env.cells.lookup x=some c/\h.IsCell c (some u))
structure Cx.Ok(X:Cx):Prop where
 mod:Mod X.K X.mg X.base
 kind:X.env.scope.kind=.function
 glob:X.env.globals=mainGlobals
 blt:X.env.builtins=builtinsNs
 above:X.s₀.heap.objs.size<=X.env.locals
 inj:∀x y c,X.env.cells.lookup x=some c->X.env.cells.lookup y=some c->x=y
 has:∀x,(X.env.kindOf x=some .cell\/X.env.kindOf x=some .free)->∃c,X.env.cells.lookup x=some c
 cab:∀x c,X.fn x=true->X.env.cells.lookup x=some c->X.s₀.heap.objs.size<=c
 hd:X.calm=true->X.A.handled=none
 frames:X.A.frames=some X.stack
 stk:X.stack=X.outer\/(X.stack=X.env::X.outer/\X.env.frame=some X.env.locals)
 exf:∀b∈X.ex,b≠X.env.locals/\∀x c,X.env.cells.lookup x=some c->c≠b
 bs:∀b o,X.base.get? b=some o->X.s₀.heap.get? b=some o/\X.Hv b=none
 bsz:X.base.objs.size<=X.s₀.heap.objs.size
 noex:∀b o,X.base.get? b=some o->b∉X.ex
 exfs:∀b∈X.ex,b∉X.fs
 funs:X.s₀.heap.FunFrames X.base X.outer
 frf:∀b∈X.fs,X.Hv b=none
structure Inv(X:Cx)(pins:PP)(Z:List (Option V))(H:Hp)(s:Shared):Prop where
 ok:X.Ok
 os:s.os=X.s₀.os
 bare:AllBare s.gens
 base:Un X.fs X.ex X.Hv H X.s₀.heap s.heap
 loc:∃m,s.heap.Ns X.env.locals m/\∀(i:Nat) (x:Str) (v:V),X.N[i]?=some x->Z[i]?=some (some v)->Vis X.env.scope x->∃u,qH v u/\qpo X.env s.heap m x u
 cell:∀x c,X.env.cells.lookup x=some c->∃v,s.heap.IsCell c v
 free:H X.env.locals=none
 freeC:∀x c,X.env.cells.lookup x=some c->H c=none
 pin:∀p∈X.pn++pins,s.heap.get? p.1=some p.2/\H p.1=none/\p.1≠X.env.locals/\p.1∉X.fs/\∀v,p.2.data≠.cell v
 hok:HOk X.prog X.w H s.heap
 len:Z.length=X.N.length
section
variable{X:Cx}{pins:PP}{Z:List (Option V)}{H H':Hp}{s:Shared}{h':Heap}
def Cx.Ok.nofr(ok:X.Ok){b:Addr}{o:Obj}(e:X.base.get? b=some o):b∉X.fs:=λhb=>by
 have:=(ok.funs.mem hb).1
 rw[e]at this;cases this
def Inv.bs(I:Inv X pins Z H s):∀b o,X.base.get? b=some o->s.heap.get? b=some o/\H b=none:=λb o e=>{I.base.keep b o (I.ok.bs b o e).1 (I.ok.bs b o e).2 (I.ok.nofr e) (I.ok.noex b o e),I.base.free b o (I.ok.bs b o e).1 (I.ok.bs b o e).2 (I.ok.noex b o e)}
def Inv.bk(I:Inv X pins Z H s):∀b o,X.base.get? b=some o->s.heap.get? b=some o:=λb o e=>(I.bs b o e).1
def Inv.mod(I:Inv X pins Z H s):Mod X.K X.mg X.base:=I.ok.mod
def Inv.kIn(I:Inv X pins Z H s):X.K.In s.heap:=I.ok.mod.kin.keeps I.bk
def Inv.lt(I:Inv X pins Z H s):X.env.locals < s.heap.objs.size:=let ⟨_,hn,_⟩:=I.loc;hn.lt
def Inv.sz(I:Inv X pins Z H s):X.s₀.heap.objs.size<=s.heap.objs.size:=Nat.le_trans I.ok.above (Nat.le_of_lt I.lt)
def Inv.nofs(I:Inv X pins Z H s){a:Addr}(h:s.heap.objs.size<=a):a∉X.fs:=λhb=>by let(_,o,ho,_):=I.ok.funs.mem hb;exact absurd (Nat.lt_of_lt_of_le (Heap.lt_size ho) (Nat.le_trans I.sz h)) (Nat.lt_irrefl _)
def Inv.cne(I:Inv X pins Z H s):∀x c,X.env.cells.lookup x=some c->c≠X.env.locals:=λx c e z=>by let(v,o,ho,hd):=I.cell x c e;let(m,(o',es,ep,ho',hd',_),_):=I.loc;rw[z,ho']at ho;cases ho;rw[hd']at hd;cases hd
def Inv.funs(I:Inv X pins Z H s):s.heap.FunFrames X.base X.outer:=by
 have all:∀(l:List Env),(∀b∈frs l,b∈X.fs)->X.s₀.heap.FunFrames X.base l->s.heap.FunFrames X.base l:=by
  intro l
  induction l with
  |nil=>intro _ _;trivial
  |cons env r ih=>intro hs hl;let(hk,(L,o,hf,hn,ho,hd),hr):=hl;have hL:L∈X.fs:=hs L (by unfold frs;rw[List.filterMap_cons,hf];exact List.mem_cons_self);let(sl,e):=I.base.slot L o ho (I.ok.frf L hL) hL λz=>I.ok.exfs L z hL;exact{hk,{L,_,hf,hn,e,hd},ih (λb hb=>hs b (by unfold frs;rw[List.filterMap_cons,hf];exact List.mem_cons_of_mem _ hb)) hr}
 exact all X.outer (λ_ hb=>hb) I.ok.funs
def Inv.stack(I:Inv X pins Z H s):s.heap.FunFrames X.base X.stack:=by
 rcases I.ok.stk with e|⟨e,hf⟩
 ·rw[e];exact I.funs
 ·rw[e];let(m,hn,_):=I.loc;refine .cons (by rw[I.ok.kind];decide) hf hn ?_ I.funs;exact Heap.get?_none_of_le (Nat.le_trans I.ok.bsz I.ok.above)
def Inv.stkSub(I:Inv X pins Z H s):∀b∈frs X.stack,b∈X.env.locals::X.fs:=λb hb=>by
 rcases I.ok.stk with e|⟨e,hf⟩
 ·rw[e]at hb;exact List.mem_cons_of_mem _ hb
 ·rw[e]at hb;unfold frs at hb;rw[List.filterMap_cons,hf]at hb;exact hb
def Inv.stkFree(I:Inv X pins Z H s):∀b∈frs X.stack,H b=none:=λb hb=>by
 rcases List.mem_cons.mp (I.stkSub b hb) with e|hb
 ·rw[e];exact I.free
 ·let(_,o,ho,_):=I.ok.funs.mem hb;exact I.base.free b o ho (I.ok.frf b hb) λz=>I.ok.exfs b z hb
def Inv.step{g':Array GenState}{t':Nat}{d':Drawn}{ch:List Addr}(I:Inv X pins Z H s)
  (hch:∀b∈ch,(b∈X.ex\/X.s₀.heap.objs.size<=b)/\b≠X.env.locals/\(∀x c,X.env.cells.lookup x=some c->c≠b)/\∀p∈X.pn++pins,p.1≠b)
  (keep:∀b o,b≠X.env.locals->b∉X.fs->b∉ch->s.heap.get? b=some o->H b=none->h'.get? b=some o)
  (slot:∀b o,b≠X.env.locals->b∈X.fs->b∉ch->s.heap.get? b=some o->H b=none->∃sl,h'.get? b=some { o with slots:=sl }) (free:∀b o,b∉ch->s.heap.get? b=some o->H b=none->H' b=none)
  (there:∀b o,b∉ch->s.heap.get? b=some o->∃o',h'.get? b=some o')
  (tups:∀b xs,H b=some (.tup xs)->H' b=some (.tup xs)) (frzs:∀b o u,H b=some (.frz o u)->H' b=some (.frz o u)) (tbls:∀b ps,H b=some (.tbl ps)->∃more,H' b=some (.tbl (ps++more)))
  (ns:∀m,s.heap.Ns X.env.locals m->h'.Ns X.env.locals m) (hok:HOk X.prog X.w H' h') (hg:AllBare g') :
  Inv X pins Z H' { s with heap:=h',gens:=g',drawn:=d',toks:=t' }:=by
 have neL:∀b o,X.s₀.heap.get? b=some o->b≠X.env.locals:=λb o e=>Nat.ne_of_lt (Nat.lt_of_lt_of_le (Heap.lt_size e) I.ok.above)
 have neC:∀b o,X.s₀.heap.get? b=some o->b∉X.ex->b∉ch:=λb o e hx hb=>by
  rcases (hch b hb).1 with z|z
  ·exact hx z
  ·exact absurd (Nat.lt_of_lt_of_le (Heap.lt_size e) z) (Nat.lt_irrefl _)
 have cellK:∀x c,X.env.cells.lookup x=some c->∀v,s.heap.IsCell c v->h'.IsCell c v:=λx c e v ⟨o,ho,hd⟩=>by
  have nch:c∉ch:=λz=>(hch c z).2.2.1 x c e rfl
  by_cases hc:c∈X.fs
  ·let(sl,q):=slot c o (I.cne x c e) hc nch ho (I.freeC x c e);exact{_,q,hd}
  ·exact{o,keep c o (I.cne x c e) hc nch ho (I.freeC x c e),hd}
 refine{I.ok,I.os,hg,{λb o e n hb hx=>?_,λb o e n hb hx=>?_,λb o e n hx=>?_,λb o e hx=>?_,λb xs e=>tups b xs (I.base.tups b xs e),λb o xs e=>frzs b o xs (I.base.frzs b o xs e),λb ps e=>?_},?_,λx c e=>?_,?_,λx c e=>?_,λp hp=>?_,hok,I.len}
 ·exact keep b o (neL b o e) hb (neC b o e hx) (I.base.keep b o e n hb hx) (I.base.free b o e n hx)
 ·let(sl,e1):=I.base.slot b o e n hb hx;let(sl',e2):=slot b _ (neL b o e) hb (neC b o e hx) e1 (I.base.free b o e n hx);exact⟨sl',e2⟩
 ·let(o',e1):=I.base.there b o e hx;exact free b o' (neC b o e hx) e1 (I.base.free b o e n hx)
 ·let(o',e1):=I.base.there b o e hx;exact there b o' (neC b o e hx) e1
 ·let(m1,e1):=I.base.tbls b ps e;let(m2,e2):=tbls b _ e1;exact{m1++m2,by rw[e2,Array.append_assoc]}
 ·let(m,hn,hl):=I.loc;refine{m,ns m hn,λi x v e1 e2 e3=>?_};let(u,r,l):=hl i x v e1 e2 e3;refine{u,r,?_};rcases l with l|⟨k,c,e,z⟩
  ·exact .inl l
  ·exact .inr ⟨k,c,e,cellK x c e _ z⟩
 ·let(v,z):=I.cell x c e;exact{v,cellK x c e v z}
 ·let(m,(o,_,_,ho,_),_):=I.loc;exact free _ o (λz=>(hch _ z).2.1 rfl) ho I.free
 ·let(v,o,ho,hd):=I.cell x c e;exact free c o (λz=>(hch c z).2.2.1 x c e rfl) ho (I.freeC x c e)
 ·let(e,n,ne,nf,d):=I.pin p hp;have nch:p.1∉ch:=λz=>(hch p.1 z).2.2.2 p hp rfl;exact{keep p.1 p.2 ne nf nch e n,free p.1 p.2 nch e n,ne,nf,d}
def Inv.un{t':Nat}(I:Inv X pins Z H s)(u:Un X.fs [] H H' s.heap h')(hok:HOk X.prog X.w H' h'):Inv X pins Z H' { s with heap:=h',toks:=t' }:=by
 let(m,(o,es,ep,ho,r),_):=id I.loc;let(sl,hL):=u.any ho I.free (5:)
 exact I.step (g':=s.gens) (d':=s.drawn) (ch:=[]) (λ_ z=>nomatch z) (λb o _ hb _ e n=>u.keep b o e n hb (5:)) (λb o _ hb _ e n=>u.slot b o e n hb (5:)) (λb o _ e n=>u.free b o e n (5:)) (λb o _ e=>u.there b o e (5:)) u.tups u.frzs u.tbls (λm' hm=>by let(o',es',ep',ho',r'):=hm;rw[ho]at ho';cases ho';exact{_,es',ep',hL,r'}) hok I.bare
def Inv.call{g':Array GenState}{t':Nat}{d':Drawn}{ch:List Addr}(I:Inv X pins Z H s)(u:Un (frs X.stack) ch H H' s.heap h')(hok:HOk X.prog X.w H' h')(hg:AllBare g')
  (hch:∀b∈ch,(b∈X.ex\/X.s₀.heap.objs.size<=b)/\b≠X.env.locals/\(∀x c,X.env.cells.lookup x=some c->c≠b)/\∀p∈X.pn++pins,p.1≠b) :
  Inv X pins Z H' { s with heap:=h',gens:=g',drawn:=d',toks:=t' }:=by
 let(m,(o,es,ep,ho,r),_):=id I.loc;let(sl,hL):=u.any ho I.free λz=>(hch _ z).2.1 rfl
 exact I.step (ch:=ch) hch (λb o hL hb hc e n=>u.keep b o e n (λz=>(List.mem_cons.mp (I.stkSub b z)).elim hL hb) hc) (λb o _ _ hc e n=>u.any e n hc) (λb o hc e n=>u.free b o e n hc) (λb o hc e=>u.there b o e hc) u.tups u.frzs u.tbls (λm' hm=>by let(o',es',ep',ho',r'):=hm;rw[ho]at ho';cases ho';exact{_,es',ep',hL,r'}) hok hg
def Inv.turned{t':Nat}{it:Addr}(I:Inv X pins Z H s)(k:∀b o,b≠it->s.heap.get? b=some o->h'.get? b=some o)(hn:H it=none)(hL:it≠X.env.locals)
  (h1:it∈X.ex\/X.s₀.heap.objs.size<=it) (h2:∀x c,X.env.cells.lookup x=some c->c≠it) (h3:∀p∈X.pn++pins,p.1≠it):Inv X pins Z H { s with heap:=h',toks:=t' }:=by
 have nit:∀b u,H b=some u->b≠it:=λb u e z=>by rw[z,hn]at e;cases e
 refine I.step (g':=s.gens) (d':=s.drawn) (ch:=[it]) (λb hb=>?_) (λb o _ _ hc e _=>k b o (λz=>hc (by simp[z])) e) (λb o _ _ hc e _=>{o.slots,k b o (λz=>hc (by simp[z])) e}) (λ_ _ _ _ n=>n)
  (λb o hc e=>{o,k b o (λz=>hc (by simp[z])) e}) (λ_ _ e=>e) (λ_ _ _ e=>e) (λb ps e=>{#[],by rw[e];simp}) (λm hm=>?_) (λb u e=>?_) I.bare
 ·have e:b=it:=(-hb:)
  subst e;exact⟨h1,hL,h2,h3⟩
 ·let(o,es,ep,ho,r):=hm;exact{o,es,ep,k _ o (Ne.symm hL) ho,r}
 ·refine(I.hok b u e).stay (λc v hc q=>k c v ?_ q) (λ_ q=>q) λ_ _ q=>q;rcases hc with z|z
  ·rw[z];exact nit b u e
  ·exact nit c _ z
def Inv.tok(I:Inv X pins Z H s)(t:Nat):Inv X pins Z H { s with toks:=t }:=I.un (h':=s.heap) (t':=t) Un.refl I.hok
def Inv.kept{t':Nat}(I:Inv X pins Z H s)(k:∀b u,s.heap.get? b=some u->h'.get? b=some u):Inv X pins Z H { s with heap:=h',toks:=t' }:=I.un (Un.kept k) (I.hok.kept k)
def Inv.laid{a:Addr}{o:HO}{t':Nat}(I:Inv X pins Z H s)(k:∀b u,s.heap.get? b=some u->h'.get? b=some u)(hp:s.heap.objs.size<=a)(new:qO X.prog X.w (upd H a o) h' a o) :
  Inv X pins Z (upd H a o) { s with heap:=h',toks:=t' }:=I.un (Un.laid k hp (I.hok.fresh hp)) (I.hok.laid k hp new)
def Inv.write{x e:Addr}{o:HO}{t':Nat}(I:Inv X pins Z H s)(mu:Mut (H x))(he:e=x\/H e=some (.own x))(k:∀b u,b≠e->s.heap.get? b=some u->h'.get? b=some u)(heo:∃u,h'.get? e=some u)
  (new:qO X.prog X.w (upd H x o) h' x o):Inv X pins Z (upd H x o) { s with heap:=h',toks:=t' }:=I.un (Un.write mu he k heo) (I.hok.write mu he k heo new)
def Inv.pins_of{pins':PP}(I:Inv X pins Z H s)(h:∀p∈pins',s.heap.get? p.1=some p.2/\H p.1=none/\p.1≠X.env.locals/\p.1∉X.fs/\∀v,p.2.data≠.cell v):Inv X pins' Z H s:=
 ⟨I.ok,I.os,I.bare,I.base,I.loc,I.cell,I.free,I.freeC,λp hp=>(List.mem_append.mp hp).elim (λz=>I.pin p (List.mem_append_left _ z)) (h p),I.hok,I.len⟩
def Qs{N:List Str}(hN:N.Nodup){i j:Nat}{x:Str}(a:N[i]?=some x)(b:N[j]?=some x):i=j:=by let(h1,e1):=List.getElem?_eq_some_iff.mp a;let(h2,e2):=List.getElem?_eq_some_iff.mp b;exact(List.getElem_inj hN).mp (e1.trans e2.symm)
def yT{M:Model}{A:Around}{E:PQ}{i:Nat}{x:Str}{v:V}{u:Value}{Q:Unit->Shared->Prop}(I:Inv X pins Z H s)(hN:X.N.Nodup)(hi:X.N[i]?=some x)(hx:Loc X.env.scope x)(r:qH v u)
  (h:∀s',Inv X pins (Z.set i (some v)) H s'->(∃a,Heap.SameBut a s.heap s'.heap/\(a=X.env.locals\/X.env.cells.lookup x=some a))->Q () s') (hf:X.fn x=true\/X.env.scope.names.lookup x=some .local:=by first|exact .inl rfl|exact .inr rfl|assumption):wpAny M A (storeName X.env x u) Q E s:=by
 let(m,hn,hl):=id I.loc;have hcls:(X.env.scope.kind == .class||(X.env.scope.kind == .module&&X.env.locals != X.env.globals))=false:=by rw[I.ok.kind];rfl
 have hiσ:i < Z.length:=by rw[I.len];exact(List.getElem?_eq_some_iff.mp hi).1
 have cne:=I.cne
 have tracked:∀{a:Addr} {h':Heap},(∃o,s.heap.get? a=some o/\H a=none)->Heap.SameBut a s.heap h'->HOk X.prog X.w H h':=λ{a h'} ha hs b ob e=>by
  let(_,_,hfree):=ha;refine(I.hok b ob e).stay (λc w' hc q=>(hs.2 c ?_).trans q) (λ_ q=>q) λ_ _ q=>q;rintro rfl;rcases hc with rfl|hc
  ·rw[hfree]at e;cases e
  ·rw[hfree]at hc;cases hc
 rcases hx with hk|hk
 ·refine wpAny_storeName_local hk hn (λh' hn' hs=>?_) hcls;let(oL,_,_,hoL,_):=id hn;refine h _ ⟨I.ok,I.os,I.bare,⟨λb o e n hb hx=>?_,λb o e n hb hx=>?_,I.base.free,λb o e hx=>?_,I.base.tups,I.base.frzs,I.base.tbls⟩,⟨_,hn',λj y v' e1 e2 e3=>?_⟩,λy c e=>?_,I.free,I.freeC,λp hp=>?_,tracked ⟨oL,hoL,I.free⟩ hs,(-I.len:)⟩ ⟨_,hs,.inl rfl⟩
  ·exact(hs.2 b (Nat.ne_of_lt (Nat.lt_of_lt_of_le (Heap.lt_size e) I.ok.above))).trans (I.base.keep b o e n hb hx)
  ·let(sl,e1):=I.base.slot b o e n hb hx;exact{sl,(hs.2 b (Nat.ne_of_lt (Nat.lt_of_lt_of_le (Heap.lt_size e) I.ok.above))).trans e1}
  ·let(o',e1):=I.base.there b o e hx;exact{o',(hs.2 b (Nat.ne_of_lt (Nat.lt_of_lt_of_le (Heap.lt_size e) I.ok.above))).trans e1}
  ·by_cases hj:j=i
   ·subst hj;rw[hi]at e1;cases e1;rw[List.getElem?_set_self hiσ]at e2;cases e2;exact{u,r,.inl {hk,by simp}}
   ·rw[List.getElem?_set_ne (Ne.symm hj)]at e2;let(u',r',q):=hl j y v' e1 e2 e3;refine{u',r',?_};rcases q with ⟨k,e⟩|⟨k,c,e,z⟩
    ·refine .inl ⟨k,?_⟩
     have:y≠x:=λe=>hj (Qs hN e1 (e▸hi))
     simp[this,e]
    ·exact .inr ⟨k,c,e,z.sameBut hs (cne y c e)⟩
  ·let(w',z):=I.cell y c e;exact{w',z.sameBut hs (cne y c e)}
  ·let(e,n,ne,nf,d):=I.pin p hp;exact{(hs.2 p.1 ne).trans e,n,ne,nf,d}
 ·have hfn:X.fn x=true:=by
   rcases hf with z|z
   ·exact z
   ·rw[z]at hk;cases hk
  let(c,hc):=I.ok.has x (.inl hk);let(w',z):=I.cell x c hc;refine wpAny_storeName_cell I.ok.kind hk hc z (λh' hc' hs=>?_);let(oc,hoc,hocd):=id z;refine h { s with heap:=h' } ⟨I.ok,I.os,I.bare,⟨λb o e n hb hx=>?_,λb o e n hb hx=>?_,I.base.free,λb o e hx=>?_,I.base.tups,I.base.frzs,I.base.tbls⟩,⟨m,hn.sameBut hs (Ne.symm (cne x c hc)),λj y v' e1 e2 e3=>?_⟩,λy c' e=>?_,I.free,I.freeC,λp hp=>?_,tracked ⟨oc,hoc,I.freeC x c hc⟩ hs,(-I.len:)⟩ ⟨c,hs,.inr hc⟩
  ·exact(hs.2 b (Nat.ne_of_lt (Nat.lt_of_lt_of_le (Heap.lt_size e) (I.ok.cab x c hfn hc)))).trans (I.base.keep b o e n hb hx)
  ·let(sl,e1):=I.base.slot b o e n hb hx;exact{sl,(hs.2 b (Nat.ne_of_lt (Nat.lt_of_lt_of_le (Heap.lt_size e) (I.ok.cab x c hfn hc)))).trans e1}
  ·let(o',e1):=I.base.there b o e hx;exact{o',(hs.2 b (Nat.ne_of_lt (Nat.lt_of_lt_of_le (Heap.lt_size e) (I.ok.cab x c hfn hc)))).trans e1}
  ·by_cases hj:j=i
   ·subst hj;rw[hi]at e1;cases e1;rw[List.getElem?_set_self hiσ]at e2;cases e2;exact{u,r,.inr {.inl hk,c,hc,hc'}}
   ·rw[List.getElem?_set_ne (Ne.symm hj)]at e2;let(u',r',q):=hl j y v' e1 e2 e3;refine{u',r',?_};rcases q with q|⟨k,c',e,z'⟩
    ·exact .inl q
    ·refine .inr ⟨k,c',e,z'.sameBut hs ?_⟩;rintro rfl;exact hj (Qs hN e1 (I.ok.inj _ _ _ e hc▸hi))
  ·by_cases hcc:c'=c
   ·subst hcc;exact{_,hc'}
   ·let(w2,z2):=I.cell y c' e;exact{w2,z2.sameBut hs hcc}
  ·let(e,n,ne,nf,d):=I.pin p hp;refine{(hs.2 p.1 ?_).trans e,n,ne,nf,d};intro q;rw[q,hoc]at e;have q':oc=p.2:=Option.some.inj e;exact d w' (by rw[<-q'];exact hocd)
def qbp{M:Model}{A:Around}{E:PQ}{i:Nat}{x:Str}{v:V}{u:Value}{Q:Unit->Shared->Prop}(I:Inv X pins Z H s)(hN:X.N.Nodup)(hi:X.N[i]?=some x)(hx:Loc X.env.scope x)(r:qH v u)
  (h:∀s',Inv X pins (Z.set i (some v)) H s'->Q () s') (hf:X.fn x=true\/X.env.scope.names.lookup x=some .local:=by first|exact .inl rfl|exact .inr rfl|assumption):wpAny M A (storeName X.env x u) Q E s:=
 yT I hN hi hx r (λs' I' _=>h s' I') hf
def Inv.call'{s':Shared}{ch:List Addr}(I:Inv X pins Z H s)(ho:s'.os=s.os)(u:Un (frs X.stack) ch H H' s.heap s'.heap)(hok:HOk X.prog X.w H' s'.heap)(hg:AllBare s'.gens)
  (hch:∀b∈ch,(b∈X.ex\/X.s₀.heap.objs.size<=b)/\b≠X.env.locals/\(∀x c,X.env.cells.lookup x=some c->c≠b)/\∀p∈X.pn++pins,p.1≠b):Inv X pins Z H' s':=by
 let(h',g',d',t',o'):=s';have e:o'=s.os:=ho;subst e;exact I.call (g':=g') (t':=t') (d':=d') u hok hg hch
end
abbrev XK:=Value->Option Addr->Hp->Prop
abbrev St:=List (Option V)
abbrev VK:=V->Hp->Prop
abbrev TE:=St->Hp->VK->Prop
abbrev TT:=St->Hp->(Bool->Hp->Prop)->Prop
abbrev TA:=St->Hp->(List V->Hp->Prop)->Prop
structure Ends where
 nx:St->Hp->Prop
 rt:VK
 bk:St->Hp->Prop:=λ_ _=>False
 ct:St->Hp->Prop:=λ_ _=>False
abbrev TS:=Ends->St->Hp->Prop
def EP(X:Cx)(pins:PP)(Z:St)(Q:VK)(u:Value)(s':Shared):Prop:=∃v H',Inv X pins Z H' s'/\qH v u/\Q v H'
def TP(X:Cx)(pins:PP)(Z:St)(Q:Bool->Hp->Prop)(b:Bool)(s':Shared):Prop:=∃H',Inv X pins Z H' s'/\Q b H'
def AP(X:Cx)(pins:PP)(Z:St)(Q:List V->Hp->Prop)(us:List Value)(s':Shared):Prop:=∃vs H',Inv X pins Z H' s'/\qB vs us/\Q vs H'
def SP(X:Cx)(pins:PP)(D:Ends)(f:Flow)(s':Shared):Prop:=
 match f with
 |.next=>∃Z' H',Inv X pins Z' H' s'/\D.nx Z' H'
 |.brk=>∃Z' H',Inv X pins Z' H' s'/\D.bk Z' H'
 |.cont=>∃Z' H',Inv X pins Z' H' s'/\D.ct Z' H'
 |.ret u=>∃v Z' H',Inv X pins Z' H' s'/\qH v u/\D.rt v H'
def PE(X:Cx)(e:Expr)(t:TE):Prop:=
 ∀(pins:PP) (s:Shared) (Z:St) (H:Hp) (Q:VK),Inv X pins Z H s->t Z H Q->wpAny (model X.prog X.w) X.A (eval e X.env) (EP X pins Z Q) X.xe s
def PT(X:Cx)(e:Expr)(t:TT):Prop:=
 ∀(pins:PP) (s:Shared) (Z:St) (H:Hp) (Q:Bool->Hp->Prop),Inv X pins Z H s->t Z H Q->wpAny (model X.prog X.w) X.A (isTrue e X.env (eval e X.env)) (TP X pins Z Q) X.xe s
def PW(X:Cx)(e:Expr)(t:TT):Prop:=
 ∀(whole:Sem Value) (pins:PP) (s:Shared) (Z:St) (H:Hp) (Q:Bool->Hp->Prop),Inv X pins Z H s->t Z H Q->wpAny (model X.prog X.w) X.A (isTrue e X.env whole) (TP X pins Z Q) X.xe s
def PW.pt{X:Cx}{e:Expr}{t:TT}(h:PW X e t):PT X e t:=h _
def PA(X:Cx)(es:List Expr)(t:TA):Prop:=
 ∀(pos:Pos) (pins:PP) (s:Shared) (Z:St) (H:Hp) (Q:List V->Hp->Prop),Inv X pins Z H s->t Z H Q->wpAny (model X.prog X.w) X.A (spliced (backTo pos (starEach es X.env))) (AP X pins Z Q) X.xe s
def PS(X:Cx)(st:Stmt)(t:TS):Prop:=
 ∀(pins:PP) (s:Shared) (Z:St) (H:Hp) (D:Ends),Inv X pins Z H s->t D Z H->wpAny (model X.prog X.w) X.A (exec st X.env) (SP X pins D) X.xe s
def PSs(X:Cx)(st:List Stmt)(t:TS):Prop:=
 ∀(pins:PP) (s:Shared) (Z:St) (H:Hp) (D:Ends),Inv X pins Z H s->t D Z H->wpAny (model X.prog X.w) X.A (execs st X.env) (SP X pins D) X.xe s
def thn{α:Type}{t:Sem α}{Q Q':α->Shared->Prop}{M:Model}{A:Around}{E:PQ}{s:Shared}(h:wpAny M A t Q E s)(hQ:∀a s,Q a s->Q' a s):wpAny M A t Q' E s:=wpAny_mono h hQ λ_ _ x=>x
section
variable{X:Cx}
def bin{a b:Expr}{ta tb:TE}(ha:PE X a ta)(hb:PE X b tb){pins:PP}{s:Shared}{Z:St}{H:Hp}{R:V->V->Hp->Prop}(I:Inv X pins Z H s)(h:ta Z H λx H1=>tb Z H1 λy H2=>R x y H2)
  {α:Type} {Q:α->Shared->Prop} {f:Value->Value->Sem α}
  (hf:∀v u s2 x y H2,Inv X pins Z H2 s2->qH x v->qH y u->R x y H2->wpAny (model X.prog X.w) X.A (f v u) Q X.xe s2) :
  wpAny (model X.prog X.w) X.A (eval a X.env) (λv s₁=>wpAny (model X.prog X.w) X.A (eval b X.env) (λu s₂=>wpAny (model X.prog X.w) X.A (f v u) Q X.xe s₂) X.xe s₁) X.xe s:=by
 refine thn (ha pins s Z H _ I h) λv s1 hq1=>?_;let(x,H1,I1,r1,q1):=hq1;refine thn (hb pins s1 Z H1 _ I1 q1) λu s2 hq1=>?_;let(y,H2,I2,r2,q2):=hq1;exact hf v u s2 x y H2 I2 r1 r2 q2
def qnk(i:Nat):TE:=λZ H Q=>∃v,Z[i]?=some (some v)/\Q v H
def tC(v:V):TE:=λ_ H Q=>Q v H
def qbq{i:Nat}{x:Str}{pos:Pos}(hN:X.N[i]?=some x)(hv:Vis X.env.scope x)(hd:(x == ("__debug__" : Str))=false:=by decide)(hcd:(x == ("__classdict__" : Str))=false:=by decide):PE X (.Name x pos) (qnk i):=by
 intro pins s Z H Q I h;let(v,e,h):=h;let(m,hn,hl):=I.loc;let(u,r,l):=hl i x v hN e hv;have fin:EP X pins Z Q u s:=⟨v,H,I,r,h⟩;rcases l with ⟨hk,hm⟩|⟨hk,c,hc,hcell⟩
 ·exact wpAny_Name (wpAny_loadName_local I.ok.kind hk hn hm fin) hd
 ·rcases hk with hk|hk
  ·exact wpAny_Name (wpAny_loadName_cell I.ok.kind hk hc hcell fin) hd
  ·exact wpAny_Name (wpAny_loadName_free I.ok.kind hk hc hcell fin hcd) hd
def Zo{i j pos}:PE X (.Constant (.int i) j pos) (tC (.int i)):=λ_ _ _ H _ I h=>wpAny_Constant_int ⟨.int i,H,I.tok _,⟨_,rfl⟩,h⟩
def qnA{b j pos}:PE X (.Constant (.bool b) j pos) (tC (.bl b)):=λ_ _ _ H _ I h=>Constant_bool ⟨.bl b,H,I,rfl,h⟩
def qkf{j pos}:PE X (.Constant .none j pos) (tC .non):=λ_ _ _ H _ I h=>Constant_none ⟨.non,H,I,rfl,h⟩
def qkg{x j pos}:PE X (.Constant (.str x) j pos) (tC (.str x)):=λ_ _ _ H _ I h=>Calls.Constant_str ⟨.str x,H,I.tok _,⟨_,rfl⟩,h⟩
def Gl(X:Cx)(x:Str):Prop:=X.env.kindOf x=some .globalImplicit
def zZ{E:PQ}{pins:PP}{s:Shared}{Z:St}{H:Hp}{x:Str}{u:Value}{pos:Pos}{Q:PQ}(I:Inv X pins Z H s)(hg:Gl X x)(hm:X.mg x=some u)(h:Q u s)
  (hd:(x == ("__debug__" : Str))=false:=by decide):wpAny (model X.prog X.w) X.A (eval (.Name x pos) X.env) Q E s:=
 Calls.Name_function_global I.ok.kind hg (Calls.loadGlobal_global (by rw[I.ok.glob];exact I.mod.glob.keeps I.bk) hm h) hd
def JG{E:PQ}{pins:PP}{s:Shared}{Z:St}{H:Hp}{x:Str}{u:Value}{pos:Pos}{Q:PQ}(I:Inv X pins Z H s)(hg:Gl X x)(hm:X.mg x=none)(hv:bootBuiltins x=some u)(h:Q u s)
  (hn:x≠"__name__":=by decide) (hd:(x == ("__debug__" : Str))=false:=by decide):wpAny (model X.prog X.w) X.A (eval (.Name x pos) X.env) Q E s:=by
 let(mb,h1,h2):=I.mod.blt;exact Calls.Name_function_global I.ok.kind hg (Calls.loadGlobal_builtin (by rw[I.ok.glob];exact I.mod.glob.keeps I.bk) hm (by rw[I.ok.blt];exact h1.keeps I.bk) ((h2 x hn).trans hv) h) hd
def J6{x:Str}{v:V}{u:Value}{pos:Pos}(hg:Gl X x)(hm:X.mg x=some u)(r:qH v u)(hd:(x == ("__debug__" : Str))=false:=by decide):PE X (.Name x pos) (tC v):=
 λ_ _ _ H _ I h=>zZ I hg hm ⟨v,H,I,r,h⟩ hd
def Jq{x:Str}{v:V}{u:Value}{pos:Pos}(hg:Gl X x)(hm:X.mg x=none)(hv:bootBuiltins x=some u)(r:qH v u)(hn:x≠"__name__":=by decide)(hd:(x == ("__debug__" : Str))=false:=by decide):PE X (.Name x pos) (tC v):=
 λ_ _ _ H _ I h=>JG I hg hm hv ⟨v,H,I,r,h⟩ hn hd
variable{a b:Expr}{ta tb:TE}{pos:Pos}
def tB(t:TE):TT:=λZ H Q=>t Z H λx H1=>∃c,x=.bl c/\Q c H1
def qbr{e:Expr}{t:TE}(h:PE X e t)(he:∀whole,isTrue e X.env whole=(do let v<-whole;standAt e.pos;holding [v] (truthy v)):=by intro _;rfl):PT X e (tB t):=by intro pins s Z H Q I hw;refine isTrue_plain (thn (h pins s Z H _ I hw) λv s1 ⟨x,H1,I1,r1,q1⟩=>?_) (he _);let(d,rfl,q):=q1;cases r1;exact wpAny_truthy_bool ⟨H1,I1,q⟩
variable{tA tB':TT}{rest:List Expr}
def qpp(t:TT):TT:=λZ H Q=>t Z H λc H1=>Q (!c) H1
theorem qhW(ha:PT X a tA):PW X (.BoolOp .And [a] pos) tA:=by
 intro wh pins s Z H Q I h;refine isTrue_and (thn (ha pins s Z H Q I h) λc s1 e=>?_)
 cases c with
 |true=>exact isTrue_and_nil e
 |false=>exact e
theorem qkh(ha:PT X a tA):PW X (.BoolOp .Or [a] pos) tA:=by
 intro wh pins s Z H Q I h;refine isTrue_or (thn (ha pins s Z H Q I h) λc s1 e=>?_)
 cases c with
 |false=>exact isTrue_or_nil e
 |true=>exact e
def Zp(ha:PT X a tA):PT X (.UnaryOp .Not a pos) (qpp tA):=by intro pins s Z H Q I h;exact isTrue_not (ha pins s Z H (λc H1=>Q (!c) H1) I h)
def qnB(ta tb:TE):TE:=λZ H Q=>ta Z H λx H1=>∃c,x=.bl c/\if c=true then tb Z H1 Q else Q (.bl false) H1
def qnC(ta:TE):TE:=λZ H Q=>ta Z H λx H1=>∃c,x=.bl c/\Q (.bl (!c)) H1
def qki{op}{t:TE}(h:PE X a t):PE X (.BoolOp op [a] pos) t:=λpins s Z H Q I hw=>BoolOp_one (h pins s Z H Q I hw)
theorem qkj(ha:PE X a ta)(hb:PE X (.BoolOp .And (b::rest) pos) tb):PE X (.BoolOp .And (a::b::rest) pos) (qnB ta tb):=by
 intro pins s Z H Q I h;refine BoolOp_and (thn (ha pins s Z H _ I h) λv s1 hq1=>?_);let(x,H1,I1,r1,q1):=hq1;let(c,rfl,q1):=q1;cases r1;refine wpAny_truthy_bool ?_
 cases c with
 |true=>exact hb pins s1 Z H1 Q I1 q1
 |false=>exact{.bl false,H1,I1,rfl,q1}
def qkk(ha:PE X a ta):PE X (.UnaryOp .Not a pos) (qnC ta):=by intro pins s Z H Q I h;refine UnaryOp_ (thn (ha pins s Z H _ I h) λv s1 hq1=>?_);let(x,H1,I1,r1,q1):=hq1;let(c,rfl,q1):=q1;cases r1;exact not_of (wpAny_truthy_bool ⟨.bl (!c),H1,I1,rfl,q1⟩)
def tIf(t:TT)(ta tb:TE):TE:=λZ H Q=>t Z H λc H1=>if c=true then ta Z H1 Q else tb Z H1 Q
theorem qfz{c:Expr}(hc:PT X c tA)(ha:PE X a ta)(hb:PE X b tb):PE X (.IfExp c a b pos) (tIf tA ta tb):=by
 intro pins s Z H Q I h;refine wpAny_IfExp (thn (hc pins s Z H _ I h) λd s1 hq1=>?_);let(H1,I1,q1):=hq1
 cases d with
 |true=>exact ha pins s1 Z H1 Q I1 q1
 |false=>exact hb pins s1 Z H1 Q I1 q1
end
def SqL(K:Frag)(H:Hp)(a:Addr)(xs:List V):Prop:=
 Rd H a (.lst xs)\/
  ∃(o:Obj) (its:Array Value) (n:Nat),K.lookup a=some o/\o.cls=.type "list"/\o.dict=none/\o.data=.seq its n/\its.size<=sizeLine/\qB xs its.toList
def SqT(K:Frag)(H:Hp)(a:Addr)(xs:List V):Prop:=
 Rd H a (.tup xs)\/
  ∃(o:Obj) (its:Array Value) (n:Nat),K.lookup a=some o/\o.cls=.type "tuple"/\o.data=.seq its n/\its.size<=sizeLine/\qB xs its.toList
def qpq:Value->Option V
 |.none=>some .non
 |.bool b=>some (.bl b)
 |.int i _=>some (.int i)
 |.str x _=>some (.str x)
 |.bytes b _=>some (.byt b)
 |.float b _=>some (.flt b)
 |.ref a=>some (.ref a)
 |.type n=>some (.ty n)
 |_=>none
theorem qH.abs{x:V}{u:Value}(r:qH x u):qpq u=some x:=by
 cases x with
 |non=>cases r;rfl
 |bl _=>cases r;rfl
 |int _=>let(t,rfl):=r;rfl
 |str _=>let(t,rfl):=r;rfl
 |byt _=>let(t,rfl):=r;rfl
 |flt _=>let(t,rfl):=r;rfl
 |ref _=>cases r;rfl
 |ty _=>cases r;rfl
def qH.inj{x y:V}{u:Value}(r:qH x u)(q:qH y u):x=y:=Option.some.inj (r.abs.symm.trans q.abs)
theorem qB.inj:∀{xs ys:List V} {us:List Value},qB xs us->qB ys us->xs=ys
 |_,_,_,.nil,.nil=>rfl
 | _,_,_,.cons r t,.cons r' t'=>by rw[r.inj r',qB.inj t t']
section
variable{X:Cx}{pins:PP}{Z:St}{H:Hp}{s:Shared}{a:Addr}{xs ys:List V}
def SqL.of{K:Frag}(h:H a=some (.lst xs)):SqL K H a xs:=.inl (.inl h)
def SqT.of{K:Frag}(h:H a=some (.tup xs)):SqT K H a xs:=.inl (.inl h)
def Inv.list(I:Inv X pins Z H s)(h:SqL X.K H a xs):∃its:List Value,qB xs its/\PlainL s.heap a its.toArray/\xs.length<=sizeLine:=by
 rcases h with h|⟨o,its,n,hk,hc,hd,hs,hz,r⟩
 ·let(z,its,n,r,e):=h.ok I.hok;exact{its,r,{_,n,e,rfl,rfl,rfl},z}
 ·refine{its.toList,r,{o,n,I.kIn a o hk,hc,hd,(-hs:)},?_};have e:=r.length;simp![Array.length_toList]at e
  lia
def Inv.tuple(I:Inv X pins Z H s)(h:SqT X.K H a xs):∃its:List Value,qB xs its/\IsTup s.heap a its.toArray/\xs.length<=sizeLine:=by
 rcases h with h|⟨o,its,n,hk,hc,hs,hz,r⟩
 ·let(z,its,r,p):=h.ok I.hok;exact⟨its,r,p,z⟩
 ·refine{its.toList,r,{o,I.kIn a o hk,hc,n,(-hs:)},?_};have e:=r.length;simp![Array.length_toList]at e
  lia
def Inv.list_inj(I:Inv X pins Z H s)(h:SqL X.K H a xs)(h':SqL X.K H a ys):xs=ys:=by
 let(its,r,(o,n,e,_,_,d),_):=I.list h;let(its',r',(o',n',e',_,_,d'),_):=I.list h';rw[e]at e';cases e';rw[d]at d';injection d' with d1 _
 have:its=its':=by simpa using congrArg Array.toList d1
 subst this;exact r.inj r'
def Inv.tuple_inj(I:Inv X pins Z H s)(h:SqT X.K H a xs)(h':SqT X.K H a ys):xs=ys:=by
 let(its,r,(o,e,_,n,d),_):=I.tuple h;let(its',r',(o',e',_,n',d'),_):=I.tuple h';rw[e]at e';cases e';rw[d]at d';injection d' with d1 _
 have:its=its':=by simpa using congrArg Array.toList d1
 subst this;exact r.inj r'
end
abbrev Cx.wish(X:Cx)(E:PQ):Cx:={ X with xe:=E }
abbrev Cx.nox(X:Cx):Cx:=X.wish λ_ _=>False
def Cx.Ok.wish{X:Cx}(ok:X.Ok)(E:PQ):(X.wish E).Ok:=
 ⟨ok.mod,ok.kind,ok.glob,ok.blt,ok.above,ok.inj,ok.has,ok.cab,ok.hd,ok.frames,ok.stk,ok.exf,ok.bs,ok.bsz,ok.noex,ok.exfs,ok.funs,ok.frf⟩
def Cx.Ok.unwish{X:Cx}{E:PQ}(ok:(X.wish E).Ok):X.Ok:=
 ⟨ok.mod,ok.kind,ok.glob,ok.blt,ok.above,ok.inj,ok.has,ok.cab,ok.hd,ok.frames,ok.stk,ok.exf,ok.bs,ok.bsz,ok.noex,ok.exfs,ok.funs,ok.frf⟩
section
variable{X:Cx}{pins:PP}{Z:St}{H:Hp}{s:Shared}{E:PQ}
def Inv.wish(I:Inv X pins Z H s)(E:PQ):Inv (X.wish E) pins Z H s:={I.ok.wish E,I.os,I.bare,I.base,I.loc,I.cell,I.free,I.freeC,I.pin,I.hok,I.len}
def Inv.unwish(I:Inv (X.wish E) pins Z H s):Inv X pins Z H s:=⟨I.ok.unwish,I.os,I.bare,I.base,I.loc,I.cell,I.free,I.freeC,I.pin,I.hok,I.len⟩
theorem SP.unwish{D:Ends}{f:Flow}{s':Shared}(h:SP (X.wish E) pins D f s'):SP X pins D f s':=by
 cases f with
 |next=>let(Z',H',I,q):=h;exact⟨Z',H',I.unwish,q⟩
 |brk=>let(Z',H',I,q):=h;exact⟨Z',H',I.unwish,q⟩
 |cont=>let(Z',H',I,q):=h;exact⟨Z',H',I.unwish,q⟩
 |ret u=>let(v,Z',H',I,r,q):=h;exact⟨v,Z',H',I.unwish,r,q⟩
def PT.nox{e:Expr}{t:TT}(h:PT X.nox e t):PT X e t:=λpins s Z H Q I hw=>wpAny_mono (h pins s Z H Q (I.wish _) hw) (λ_ _ ⟨H',I',q⟩=>⟨H',I'.unwish,q⟩) λ_ _ z=>False.elim z
def PSs.nox{st:List Stmt}{t:TS}(h:PSs X.nox st t):PSs X st t:=λpins s Z H D I hw=>wpAny_mono (h pins s Z H D (I.wish _) hw) (λ_ _ q=>q.unwish) λ_ _ z=>False.elim z
end
section
variable{X:Cx}{st:Stmt}{rest:List Stmt}{t u:TS}{e:Expr}{te:TE}{pos:Pos}
def qkl:TS:=λD Z H=>D.nx Z H
def qpr(t u:TS):TS:=λD Z H=>t { D with nx:=u D } Z H
def Jr:PSs X [] qkl:=λ_ _ Z H _ I h=>wpAny_execs_nil ⟨Z,H,I,h⟩
theorem zd(h1:PS X st t)(h2:PSs X rest u):PSs X (st::rest) (qpr t u):=by
 intro pins s Z H D I h;refine wpAny_execs_cons (thn (h1 pins s Z H { D with nx:=u D } I h) λf s1 q=>?_)
 cases f with
 |next=>let(Z',H',I',q):=q;exact h2 pins s1 Z' H' D I' q
 |ret v=>exact q
 |brk=>exact q
 |cont=>exact q
theorem jw(h1:PS X st t):PSs X [st] t:=by
 intro pins s Z H D I h;refine wpAny_execs_cons (thn (h1 pins s Z H D I h) λf s1 q=>?_)
 cases f with
 |next=>exact wpAny_execs_nil q
 |ret v=>exact q
 |brk=>exact q
 |cont=>exact q
def qhX:PS X (.Pass pos) qkl:=λ_ _ Z H _ I h=>wpAny_Pass ⟨Z,H,I,h⟩
def Inv.quiet{pins:PP}{Z:St}{H:Hp}{s:Shared}(I:Inv X pins Z H s):interactive X.env=false:=by simp[interactive,I.ok.kind]
def qnD(te:TE):TS:=λD Z H=>te Z H λ_ H1=>D.nx Z H1
def yJ(he:PE X e te)(hs:swapsWith e none pos.line X.env=pure false:=by rfl):PS X (.Expr e pos) (qnD te):=by intro pins s Z H D I h;exact wpAny_Expr_any (thn (he pins s Z H _ I h) λv s1 ⟨x,H1,I1,r1,q1⟩=>⟨Z,H1,I1,q1⟩) I.quiet hs
def qps(te:TE):TS:=λD Z H=>te Z H D.rt
def qdq(he:PE X e te):PS X (.Return (some e) pos) (qps te):=by intro pins s Z H D I h;exact wpAny_Return_some (thn (he pins s Z H _ I h) λv s1 ⟨x,H1,I1,r1,q1⟩=>⟨x,Z,H1,I1,r1,q1⟩)
def qnE:TS:=λD _ H=>D.rt .non H
def qhY:PS X (.Return none pos) qnE:=λ_ _ Z H _ I h=>wpAny_Return_none ⟨.non,Z,H,I,rfl,h⟩
def qpt(c:TT)(t u:TS):TS:=λD Z H=>c Z H λb H1=>if b=true then t D Z H1 else u D Z H1
theorem qcs{c:Expr}{a b:List Stmt}{tc:TT}(hc:PT X c tc)(ha:PSs X a t)(hb:PSs X b u):PS X (.If c a b pos) (qpt tc t u):=by
 intro pins s Z H D I h;refine wpAny_If (thn (hc pins s Z H _ I h) λd s1 hq1=>?_);let(H1,I1,q1):=hq1
 cases d with
 |true=>exact ha pins s1 Z H1 D I1 q1
 |false=>exact hb pins s1 Z H1 D I1 q1
def qkm:TS:=λ_ _ _=>False
def JY:PS X st qkm:=λ_ _ _ _ _ _ h=>h.elim
end
abbrev TG:=V->St->Hp->(St->Hp->Prop)->Prop
abbrev TGs:=List V->St->Hp->(St->Hp->Prop)->Prop
def PG(X:Cx)(target:Expr)(t:TG):Prop:=
 ∀(pins:PP) (s:Shared) (Z:St) (H:Hp) (v:V) (u:Value) (Q:St->Hp->Prop),Inv X pins Z H s->qH v u->t v Z H Q->
  wpAny (model X.prog X.w) X.A (assign target X.env u) (λ_ s'=>∃Z' H',Inv X pins Z' H' s'/\Q Z' H') X.xe s
def PGs(X:Cx)(ts:List Expr)(t:TGs):Prop:=
 ∀(pins:PP) (s:Shared) (Z:St) (H:Hp) (vs:List V) (us:List Value) (Q:St->Hp->Prop),Inv X pins Z H s->qB vs us->t vs Z H Q->
  wpAny (model X.prog X.w) X.A (assignInOrder ((assignEach ts X.env).map (·.2)) us) (λ_ s'=>∃Z' H',Inv X pins Z' H' s'/\Q Z' H') X.xe s
abbrev qnF:=V->V->V->Hp->(Hp->Prop)->Prop
def qoT(X:Cx)(t:qnF):Prop:=
 ∀(pins:PP) (s:Shared) (Z:St) (H:Hp) (o i v:V) (ov iv u:Value) (Q:Hp->Prop),Inv X pins Z H s->qH o ov->qH i iv->qH v u->t o i v H Q->
  wpAny (model X.prog X.w) X.A (setItem ov iv u) (λ_ s'=>∃H',Inv X pins Z H' s'/\Q H') X.xe s
section
variable{X:Cx}{pos:Pos}
def qfA(i:Nat):TG:=λv Z H Q=>Q (Z.set i (some v)) H
def qhZ{i:Nat}{x:Str}(hN:X.N.Nodup)(hi:X.N[i]?=some x)(hx:Loc X.env.scope x)(hf:X.fn x=true\/X.env.scope.names.lookup x=some .local:=by first|exact .inl rfl|exact .inr rfl|assumption):PG X (.Name x pos) (qfA i):=by intro pins s Z H v u Q I r h;exact wpAny_assign_Name (qbp I hN hi hx r (λs' I'=>{_,H,I',h}) hf)
def qpu:TGs:=λvs Z H Q=>vs=[]/\Q Z H
def qnG(t:TG)(u:TGs):TGs:=λvs Z H Q=>∃v r,vs=v::r/\t v Z H λZ' H'=>u r Z' H' Q
def qh0:PGs X [] qpu:=by intro pins s Z H vs us Q I r h;let(e,h):=h;subst e;cases r;exact assignInOrder_nil ⟨Z,H,I,h⟩
theorem qfB{e:Expr}{es:List Expr}{t:TG}{u:TGs}(h1:PG X e t)(h2:PGs X es u)
  (hs:(assignEach (e::es) X.env).map (·.2)=assign e X.env::(assignEach es X.env).map (·.2):=by rfl):PGs X (e::es) (qnG t u):=by
 intro pins s Z H vs us Q I r h;let(v,vr,e1,h):=h;subst e1
 cases r with
 |cons r rr=>rw[hs];refine assignInOrder_cons (thn (h1 pins s Z H _ _ _ I r h) λ_ s1 hq1=>?_);let(Z1,H1,I1,q1):=hq1;exact h2 pins s1 Z1 H1 _ _ Q I1 rr q1
def qpv(K:Frag)(n:Nat)(t:TGs):TG:=λv Z H Q=>∃a xs,v=.ref a/\SqT K H a xs/\xs.length=n/\t xs Z H Q
def qkn{es:List Expr}{k:Nat}{t:TGs}{n:Nat}(hc:X.calm=true)(h:PGs X es t)
  (hn:(assignEach es X.env).length=n:=by rfl) (hst:(assignEach es X.env).findIdx? (·.1)=none:=by rfl):PG X (.Tuple es k pos) (qpv X.K n t):=by
 intro pins s Z H v u Q I r hw;let(a,xs,e1,hq,hl,hw):=hw;subst e1;cases r;let(its,rv,ht,hz):=I.tuple hq;refine assign_Tuple_tuple (I.ok.hd hc) ht (by simp[hn,<-hl,rv.length]) hst λh' hx=>?_;have I1:Inv X pins Z H { s with heap:=h' }:=I.kept (t':=s.toks) λb o e=>hx b o (Nat.ne_of_lt (Heap.lt_size e)) e;exact h pins _ Z H xs _ Q I1 (-rv:) hw
def qpw(to ti:TE)(t:qnF):TG:=λv Z H Q=>to Z H λo H1=>ti Z H1 λi H2=>t o i v H2 λH3=>Q Z H3
def qko{o i:Expr}{to ti:TE}{t:qnF}(ho:PE X o to)(hi:PE X i ti)(hs:qoT X t)
  (ha:∀v,assign (.Subscript o i pos) X.env v=(do
   let ov<-holding [v] (eval o X.env)
   let iv<-holding [v,ov] (eval i X.env)
   standAt pos
   holding [v,ov,iv] (setItem ov iv v)
   release [v,ov,iv] []):=by intro _;rfl):PG X (.Subscript o i pos) (qpw to ti t):=by
 intro pins s Z H v u Q I r h;rw[ha];refine wpAny_bind (wpAny_holding (thn (ho pins s Z H _ I h) λov s1 hq1=>?_));let(x,H1,I1,r1,q1):=hq1;refine wpAny_bind (wpAny_holding (thn (hi pins s1 Z H1 _ I1 q1) λiv s2 hq1=>?_));let(y,H2,I2,r2,q2):=hq1;refine wpAny_bind (wpAny_standAt (wpAny_bind (wpAny_holding (thn (hs pins s2 Z H2 x y v ov iv u _ I2 r1 r2 r q2) λ_ s3 hq1=>?_))));let(H3,I3,q3):=hq1;exact wpAny_release ⟨Z,H3,I3,q3⟩
def qnH(te:TE)(g:TG):TS:=λD Z H=>te Z H λx H1=>g x Z H1 D.nx
def qg4{tg e:Expr}{te:TE}{g:TG}(he:PE X e te)(hg:PG X tg g)(hs:swapsWithSole [tg] e pos.line X.env=pure false:=by rfl)(hw:swappedStores [tg] e X.env=pure none:=by rfl)
  (h1:(assignEach [tg] X.env).map (·.2)=[assign tg X.env]:=by rfl):PS X (.Assign [tg] e pos) (qnH te g):=by
 intro pins s Z H D I h;refine wpAny_Assign_stores (thn (he pins s Z H _ I h) λv s1 ⟨x,H1,I1,r1,q1⟩=>?_) hs hw;rw[h1];exact thn (hg pins s1 Z H1 x v _ I1 r1 q1) λ_ s2 q=>q
def qbs{i:Nat}{x:Str}{e:Expr}{te:TE}{pos':Pos}(hN:X.N.Nodup)(hi:X.N[i]?=some x)(hx:Loc X.env.scope x)(he:PE X e te)(hs:swapsWith e (some (.Name x pos')) pos.line X.env=pure false:=by rfl)(hf:X.fn x=true\/X.env.scope.names.lookup x=some .local:=by first|exact .inl rfl|exact .inr rfl|assumption) :
  PS X (.Assign [.Name x pos'] e pos) (qnH te (qfA i)):=by
 intro pins s Z H D I h;refine wpAny_Assign_Name (thn (he pins s Z H _ I h) λv s1 ⟨y,H1,I1,r1,q1⟩=>?_) hs;exact qbp I1 hN hi hx r1 (λs2 I2=>{_,H1,I2,q1}) hf
def qkp(c:TT)(tb:TS):TS:=λD Z H=>∃W:Nat->St->Hp->Prop,(∃m,W m Z H)/\∀m Z H,W m Z H->
 c Z H λb H1=>if b=true then∃N:St->Hp->Prop,(∀Z' H',N Z' H'->∃m',m' < m/\W m' Z' H')/\tb { D with nx:=N,ct:=N,bk:=D.nx } Z H1 else D.nx Z H1
theorem qfC{c:Expr}{body:List Stmt}{tc:TT}{tb:TS}(hp:PassesOwn (model X.prog X.w) X.A X.env X.xe)(hc:PT X c tc)(hb:PSs X body tb):PS X (.While c body [] pos) (qkp tc tb):=by
 intro pins s Z H D I h;let(W,(m0,w0),turn):=h;refine wpAny_While (codeAny_whileLoop (λn s'=>∃Z' H',Inv X pins Z' H' s'/\W n Z' H') ?_ m0 ⟨Z,H,I,w0⟩);rintro n s1 ⟨Z1,H1,I1,w1⟩;refine wpAny_passesOwn hp (thn (hc pins s1 Z1 H1 _ I1 (turn n Z1 H1 w1)) λb s2 hq1=>?_);let(H2,I2,q2):=hq1
 cases b with
 |true=>
  let(N,hN,q2):=q2;rw[if_pos rfl];refine wpAny_passesOwn hp (thn (hb pins s2 Z1 H2 _ I2 q2) λf s3 q3=>?_)
  cases f with
  |next=>let(Z3,H3,I3,n3):=q3;let(m',hm,w3):=hN Z3 H3 n3;exact⟨m',hm,Z3,H3,I3,w3⟩
  |cont=>let(Z3,H3,I3,n3):=q3;let(m',hm,w3):=hN Z3 H3 n3;exact⟨m',hm,Z3,H3,I3,w3⟩
  |brk=>exact q3
  |ret v=>exact q3
 |false=>rw[if_neg Bool.false_ne_true];exact wpAny_execs_nil ⟨Z1,H2,I2,q2⟩
end
structure It where
 go:Nat->Hp->Prop
 yld:Nat->Hp->V->Hp->Prop
 stop:Nat->Hp->Prop
def qct(X:Cx)(pins:PP)(H:Hp)(b:Addr):Prop:=
 H b=none/\b≠X.env.locals/\b∉X.fs/\(b∈X.ex\/X.s₀.heap.objs.size<=b)/\(∀x c,X.env.cells.lookup x=some c->c≠b)/\∀p∈X.pn++pins,p.1≠b
def Inv.fpOk{X:Cx}{pins:PP}{Z:St}{H H':Hp}{s:Shared}{b:Addr}(I:Inv X pins Z H s)(hb:s.heap.objs.size<=b)(hn:H' b=none):qct X pins H' b:=by
 refine{hn,Nat.ne_of_gt (Nat.lt_of_lt_of_le I.lt hb),I.nofs hb,.inr (Nat.le_trans I.sz hb),λx c e z=>?_,λp hp z=>?_}
 ·let(v,q):=I.cell x c e;exact absurd (Nat.lt_of_lt_of_le q.lt (by rw[z];exact hb)) (Nat.lt_irrefl _)
 ·exact absurd (Nat.lt_of_lt_of_le (Heap.lt_size (I.pin p hp).1) (by rw[z];exact hb)) (Nat.lt_irrefl _)
structure Turn(P:Program)(w:World)(K:Frag)(tg:Expr)(J:It)(fp:List Addr)(it:Addr)(tn:Nat->Heap->Prop):Prop where
 mem:it∈fp
 obj:∀i h,tn i h->∀b∈fp,∃o,h.get? b=some o/\∀v,o.data≠.cell v
 keep:∀i h h',tn i h->(∀b∈fp,∀o,h.get? b=some o->h'.get? b=some o)->tn i h'
 item:∀(X:Cx),X.prog=P->X.w=w->X.K=K->X.calm=true->∀(i:Nat) (pins:PP) (s:Shared) (Z:St) (H:Hp) (E:PQ),Inv X pins Z H s->(∀b∈fp,qct X pins H b)->tn i s.heap->J.go i H->
  wpAny (model P w) X.A (pyNext (.ref it)) (λr s1=>∃u,r=some u/\
   wpAny (model P w) X.A (letOwnedTupleGo tg (.ref it) u) (λ_ s2=>∃x H',Inv X pins Z H' s2/\qH x u/\J.yld i H x H'/\tn (i+1) s2.heap/\∀b∈fp,H' b=none) E s1) E s
 done:∀(X:Cx),X.prog=P->X.w=w->X.K=K->X.calm=true->∀(i:Nat) (pins:PP) (s:Shared) (Z:St) (H:Hp) (E:PQ),Inv X pins Z H s->(∀b∈fp,qct X pins H b)->tn i s.heap->J.stop i H->
  wpAny (model P w) X.A (pyNext (.ref it)) (λr s1=>r=none/\Inv X pins Z H s1) E s
 self:∀(A:Around) (i:Nat) (s:Shared) (Q:PQ) (E:PQ),tn i s.heap->Q (.ref it) s->wpAny (model P w) A (pyIter (.ref it)) Q E s
abbrev TI:=St->Hp->(It->Hp->Prop)->Prop
def PIE(X:Cx)(pins:PP)(Z:St)(tg:Expr)(R:It->Hp->Prop)(itv:Value)(s2:Shared):Prop:=
 ∃(it:Addr) (fp:List Addr) (tn:Nat->Heap->Prop) (J:It) (H':Hp),itv=.ref it/\Inv X pins Z H' s2/\Turn X.prog X.w X.K tg J fp it tn/\tn 0 s2.heap/\(∀b∈fp,qct X pins H' b)/\R J H'
def PI(X:Cx)(tg iter:Expr)(wi:TI):Prop:=
 ∀(pins:PP) (s:Shared) (Z:St) (H:Hp) (R:It->Hp->Prop),Inv X pins Z H s->wi Z H R->
  wpAny (model X.prog X.w) X.A (eval iter X.env) (λv s1=>wpAny (model X.prog X.w) X.A (pyIter v) (PIE X pins Z tg R) X.xe s1) X.xe s
def qdr{M:Model}{A:Around}{E:PQ}{s:Shared}{tg:Expr}{it:Addr}{u:Value}{o:Obj}{n:String}{vs:Array Value}{Q:Unit->Shared->Prop}(ho:s.heap.get? it=some o)(hc:o.cls=.type n)(hd:o.data=.fields vs)
  (hn:["enumerate","zip","dict_itemiterator","dict_reverseitemiterator","odict_iterator","itertools.zip_longest","itertools.pairwise"].contains n=false) (hQ:Q () s):wpAny M A (letOwnedTupleGo tg (.ref it) u) Q E s:=by
 unfold letOwnedTupleGo
 cases tg<;>first
  | exact wpAny_pure hQ
  | (cases u<;>first
    | exact wpAny_pure hQ
    | (refine wpAny_bind (wpAny_load ho ?_)
       rw[hc,hd];show wpAny M A (if (["enumerate","zip","dict_itemiterator","dict_reverseitemiterator","odict_iterator","itertools.zip_longest","itertools.pairwise"].contains n&&vs[0]? == some (rawInt _))=true then _ else _) Q E s;rw[if_neg (by intro h;rw[hn,Bool.false_and]at h;cases h)];exact wpAny_pure hQ))
def Itl(K:Frag)(a:Addr):It:=
 ⟨λi H=>∃xs x,SqL K H a xs/\xs[i]?=some x,λi H x H'=>H'=H/\∀xs,SqL K H a xs->xs[i]?=some x,λi H=>∃xs,SqL K H a xs/\xs.length<=i⟩
def Itt(K:Frag)(a:Addr):It:=
 ⟨λi H=>∃xs x,SqT K H a xs/\xs[i]?=some x,λi H x H'=>H'=H/\∀xs,SqT K H a xs->xs[i]?=some x,λi H=>∃xs,SqT K H a xs/\xs.length<=i⟩
def Itr(lo:Int)(n:Nat):It:={λi _=>i < n,λi H x H'=>H'=H/\x=.int (lo+i),λi _=>n<=i}
def qds{P:Program}{w:World}{K:Frag}{tg:Expr}(a it:Addr):Turn P w K tg (Itl K a) [it] it (λi h=>h.IsListIter it a i) where
 mem:=by simp
 obj:=λi h st b hb=>by
  have e:b=it:=(-hb:)
  subst e;let(o,e,c,d):=st;exact{o,e,λv z=>by rw[d]at z;cases z}
 keep:=λi h h' st k=>st.at λo e=>k it (5:) o e
 item:=by intro X hP hw hK hc i pins s Z H E I hf st hg;subst hP hw hK;let(xs,x,hq,hx):=hg;let(its,rv,p,hz):=I.list hq;let(u,hu,ru):=rv.get hx;let(f0,f1,f2,f3,f4,f5):=hf it (5:);refine wpAny_pyNext_list_item st p.isList (x:=u) (-hu:) λh' st' sb=>?_;have I1:Inv X pins Z H { s with heap:=h' }:=I.turned (t':=s.toks) (λb o hb e=>(sb.2 b hb).trans e) f0 f1 f3 f4 f5;let(o,e,c,d):=id st';exact{u,rfl,qdr (s:={ s with heap:=h' }) e c d (2:) ⟨x,H,I1,ru,⟨rfl,λys hy=>by rw[I.list_inj hy hq];exact hx⟩,st',λb hb=>(hf b hb).1⟩}
 done:=by intro X hP hw hK hc i pins s Z H E I hf st hg;subst hP hw hK;let(xs,hq,hx):=hg;let(its,rv,p,hz):=I.list hq;let(f0,f1,f2,f3,f4,f5):=hf it (5:);have hl:=rv.length;exact wpAny_pyNext_list_end (I.ok.hd hc) st p.isList (by simp;lia) λh' eb=>{rfl,I.turned (t':=s.toks) (λb o hb e=>eb b o hb e) f0 f1 f3 f4 f5}
 self:=λ_ _ _ _ _ st h=>wpAny_pyIter_listiter st h
def qcu{P:Program}{w:World}{K:Frag}{tg:Expr}(a it:Addr):Turn P w K tg (Itt K a) [it] it (λi h=>h.IsTupleIter it a i) where
 mem:=by simp
 obj:=λi h st b hb=>by
  have e:b=it:=(-hb:)
  subst e;let(o,e,c,d):=st;exact{o,e,λv z=>by rw[d]at z;cases z}
 keep:=λi h h' st k=>st.at λo e=>k it (5:) o e
 item:=by intro X hP hw hK hc i pins s Z H E I hf st hg;subst hP hw hK;let(xs,x,hq,hx):=hg;let(its,rv,p,hz):=I.tuple hq;let(u,hu,ru):=rv.get hx;let(f0,f1,f2,f3,f4,f5):=hf it (5:);refine wpAny_pyNext_tuple_item st (show s.heap.IsTuple a its.toArray from p) (x:=u) (-hu:) λh' st' sb=>?_;have I1:Inv X pins Z H { s with heap:=h' }:=I.turned (t':=s.toks) (λb o hb e=>(sb.2 b hb).trans e) f0 f1 f3 f4 f5;let(o,e,c,d):=id st';exact{u,rfl,qdr (s:={ s with heap:=h' }) e c d (2:) ⟨x,H,I1,ru,⟨rfl,λys hy=>by rw[I.tuple_inj hy hq];exact hx⟩,st',λb hb=>(hf b hb).1⟩}
 done:=by intro X hP hw hK hc i pins s Z H E I hf st hg;subst hP hw hK;let(xs,hq,hx):=hg;let(its,rv,p,hz):=I.tuple hq;let(f0,f1,f2,f3,f4,f5):=hf it (5:);have hl:=rv.length;exact wpAny_pyNext_tuple_end (I.ok.hd hc) st (show s.heap.IsTuple a its.toArray from p) (by simp;lia) λh' eb=>{rfl,I.turned (t':=s.toks) (λb o hb e=>eb b o hb e) f0 f1 f3 f4 f5}
 self:=λ_ _ _ _ _ st h=>wpAny_pyIter_tupleiter st h
def qcv{P:Program}{w:World}{K:Frag}{tg:Expr}(it:Addr)(lo:Int)(n:Nat):Turn P w K tg (Itr lo n) [it] it (λi h=>IsRangeIter h it (lo+(i:Nat) * 1) ((n:Int) - (i:Nat)) 1) where
 mem:=by simp
 obj:=λi h st b hb=>by
  have e:b=it:=(-hb:)
  subst e
  exact{_,st,λv z=>by have z':Data.fields _=Data.cell v:=z;cases z'}
 keep:=λi h h' st k=>k it (5:) _ st
 item:=by intro X hP hw hK hc i pins s Z H E I hf st hg;subst hP hw hK;let(f0,f1,f2,f3,f4,f5):=hf it (5:);have W:=Walks.range (prog:=X.prog) (w:=X.w) (I.ok.hd hc) it lo 1 n;refine W.item i s _ _ hg st λv h' tk hv st' kk=>?_;let(t,rfl):=hv;have I1:Inv X pins Z H { s with heap:=h',toks:=tk }:=I.turned (λb o hb e=>kk b o (-hb:) e) f0 f1 f3 f4 f5;refine{_,rfl,qdr (s:={ s with heap:=h',toks:=tk }) (n:="range_iterator") st' rfl rfl (2:) ⟨.int (lo+i),H,I1,⟨t,?_⟩,⟨rfl,rfl⟩,st',λb hb=>(hf b hb).1⟩};rw[Int.mul_one]
 done:=by intro X hP hw hK hc i pins s Z H E I hf st hg;subst hP hw hK;let(f0,f1,f2,f3,f4,f5):=hf it (5:);exact wpAny_pyNext_range_end (I.ok.hd hc) st (by have:n<=i:=hg;lia) λh' eb=>{rfl,I.turned (t':=s.toks) (λb o hb e=>eb b o hb e) f0 f1 f3 f4 f5}
 self:=λ_ _ _ _ _ st h=>wpAny_pyIter_rangeiter st h
section
variable{X:Cx}{tg:Expr}
def qbt{pins:PP}{Z:St}{H:Hp}{s:Shared}{R:It->Hp->Prop}{E:PQ}{lo hi:Int}{t u v:Tok}{tk:Nat}(I:Inv X pins Z H s)(h1:-(2 ^ 62)<=lo)(h2:lo < 2 ^ 62)(h3:-(2 ^ 62)<=hi)(h4:hi < 2 ^ 62)
  (q:R (Itr lo (hi - lo).toNat) H):wpAny (model X.prog X.w) X.A (pyIter (.ref s.heap.objs.size)) (PIE X pins Z tg R) E { s with heap:=s.heap.push { cls:=.type "range",data:=.fields #[.int lo t,.int hi u,.int 1 v] },toks:=tk }:=by
 refine wpAny_pyIter_range (IsRange.new ..) (small_one h1 h2 h3 h4) ?_;have I1:Inv X pins Z H { s with heap:=s.heap.push { cls:=.type "range",data:=.fields #[.int lo t,.int hi u,.int 1 v] },toks:=tk }:=I.kept λb o e=>Heap.get?_push_of_some _ e
 refine{(s.heap.push { cls:=.type "range",data:=.fields #[.int lo t,.int hi u,.int 1 v] }).objs.size,[(s.heap.push { cls:=.type "range",data:=.fields #[.int lo t,.int hi u,.int 1 v] }).objs.size],_,_,H,rfl,
  I1.kept (t':=tk) λb o e=>Heap.get?_push_of_some _ e,qcv _ lo (hi - lo).toNat,?_,λb hb=>?_,q}
 ·have e1:lo+((0:Nat):Int) * 1=lo:=by simp
  have e2:(((hi - lo).toNat:Nat):Int) - ((0:Nat):Int)=Builtin.Range.rangeSize lo hi 1:=by rw[rangeSize_one];split<;>lia
  show IsRangeIter _ _ (lo+((0:Nat):Int) * 1) ((((hi - lo).toNat:Nat):Int) - ((0:Nat):Int)) 1;rw[e1,e2];exact Heap.get?_push_size _ rfl
 ·have e:b=(s.heap.push { cls:=.type "range",data:=.fields #[.int lo t,.int hi u,.int 1 v] }).objs.size:=(-hb:)
  subst e;exact I1.fpOk (Nat.le_refl _) (I1.hok.fresh (Nat.le_refl _))
def qnI(ta:TA):TI:=λZ H R=>ta Z H λvs H1=>∃j:Int,vs=[.int j]/\-(2 ^ 62)<=j/\j < 2 ^ 62/\R (Itr 0 j.toNat) H1
def qnJ(ta:TA):TI:=λZ H R=>ta Z H λvs H1=>∃i j:Int,vs=[.int i,.int j]/\(-(2 ^ 62)<=i/\i < 2 ^ 62/\-(2 ^ 62)<=j/\j < 2 ^ 62)/\R (Itr i (j - i).toNat) H1
theorem qdt{a:Expr}{ta:TA}{p pos:Pos}(hg:Gl X "range")(hm:X.mg "range" = none)(ha:PA X [a] ta)(hs:starEach [a] X.env=[(false,eval a X.env)]:=by rfl):PI X tg (.Call (.Name "range" p) [a] [] pos) (qnI ta):=by
 intro pins s Z H R I h;refine Call_ (JG I hg hm boot_range (PyProof.Rows.callWith_type1 (thn (ha pos pins s Z H _ I h) λus s1 ⟨vs,H1,I1,r1,q1⟩=>?_) hs rfl));let(j,e,q1,q2,q):=q1;subst e
 cases r1 with
 |cons r rr=>cases rr;let(t,rfl):=r;exact call_range_1 (qbt I1 (1:) (1:) q1 q2 (-q:))
theorem qdu{a b:Expr}{ta:TA}{p pos:Pos}(hg:Gl X "range")(hm:X.mg "range" = none)(ha:PA X [a,b] ta)(hs:starEach [a,b] X.env=[(false,eval a X.env),(false,eval b X.env)]:=by rfl)(hs2:starEach [b] X.env=[(false,eval b X.env)]:=by rfl) :
  PI X tg (.Call (.Name "range" p) [a,b] [] pos) (qnJ ta):=by
 intro pins s Z H R I h;refine Call_ (JG I hg hm boot_range (PyProof.Rows.callWith_type1 (thn (ha pos pins s Z H _ I h) λus s1 ⟨vs,H1,I1,r1,q1⟩=>?_) (by rw[hs,hs2]) (by rw[hs2];rfl)));let(i,j,e,(q1,q2,q3,q4),q):=q1;subst e
 cases r1 with
 |cons r rr=>
  cases rr with
  | cons r' rr=>cases rr;let(t,rfl):=r;let(t',rfl):=r';exact call_range_2 (qbt I1 q1 q2 q3 q4 q)
def qpx(wi:TI)(g:TG)(tb:TS):TS:=λD Z H=>wi Z H λJ H1=>∃W:Nat->Nat->St->Hp->Prop,(∃m,W 0 m Z H1)/\∀i m Z H,W i m Z H->
 (J.stop i H/\D.nx Z H)\/(J.go i H/\∃N:St->Hp->Prop,(∀Z' H',N Z' H'->∃m',m' < m/\W (i+1) m' Z' H')/\∀x H',J.yld i H x H'->g x Z H' λZ2 H2=>tb { D with nx:=N,ct:=N,bk:=D.nx } Z2 H2)
def Zq(fp:List Addr)(h:Heap):List (Addr×Obj):=fp.filterMap λb=>(h.get? b).map λo=>(b,o)
def yo{fp:List Addr}{h:Heap}{b:Addr}{o:Obj}(hb:b∈fp)(e:h.get? b=some o):(b,o)∈Zq fp h:=List.mem_filterMap.mpr ⟨b,hb,by rw[e];rfl⟩
theorem qdv{fp:List Addr}{h:Heap}{p:Addr×Obj}(hp:p∈Zq fp h):p.1∈fp/\h.get? p.1=some p.2:=by
 let(b,hb,e):=List.mem_filterMap.mp hp
 cases q:h.get? b with
 |none=>rw[q]at e;cases e
 |some o=>rw[q]at e;have e':(b,o)=p:=Option.some.inj e;subst e';exact⟨hb,q⟩
def Inv.pinned{pins:PP}{Z:St}{H:Hp}{s:Shared}{fp:List Addr}(I:Inv X pins Z H s)(hf:∀b∈fp,qct X pins H b)(ho:∀b∈fp,∃o,s.heap.get? b=some o/\∀v,o.data≠.cell v):Inv X (pins++Zq fp s.heap) Z H s:=
 I.pins_of λp hp=>(List.mem_append.mp hp).elim (λz=>I.pin p (List.mem_append_right _ z)) λz=>by let(hb,e):=qdv z;let(f0,f1,f2,_):=hf p.1 hb;let(o,e',d):=ho p.1 hb;rw[e]at e';cases e';exact⟨e,f0,f1,f2,d⟩
def Inv.unpinned{pins pl:PP}{Z:St}{H:Hp}{s:Shared}(I:Inv X (pins++pl) Z H s):Inv X pins Z H s:=I.pins_of λp hp=>I.pin p (List.mem_append_right _ (List.mem_append_left _ hp))
def qkq{iter:Expr}{body:List Stmt}{wi:TI}{g:TG}{tb:TS}{pos:Pos}(hp:PassesOwn (model X.prog X.w) X.A X.env X.xe)(hc:X.calm=true)(hi:PI X tg iter wi)(hg:PG X tg g)(hb:PSs X body tb)
  (hs:∀x,foldedSetIterable iter X.env x=pure x:=by intro _;rfl):PS X (.For tg iter body [] pos) (qpx wi g tb):=by
 intro pins s Z H D I h;refine wpAny_For (thn (hi pins s Z H _ I h) λv s1 h1=>thn h1 λitv s2 h2=>?_) hs;let(it,fp,tn,J,H2,e,I2,T,st2,f2,W,(m0,w0),turn):=h2;subst e;have stat:∀{H':Hp},(∀b∈fp,H' b=none)->∀b∈fp,qct X pins H' b:=λhn b hb=>{hn b hb,(f2 b hb).2};refine codeAny_forLoop_any (λn s'=>∃i Z' H',Inv X pins Z' H' s'/\tn i s'.heap/\(∀b∈fp,H' b=none)/\W i n Z' H') ?_ m0 ⟨0,Z,H2,I2,st2,λb hb=>(f2 b hb).1,w0⟩;rintro n s3 ⟨i,Z3,H3,I3,st3,fr3,w3⟩;rcases turn i n Z3 H3 w3 with ⟨stop,qn⟩|⟨go,N,hN,step⟩
 ·refine wpAny_passesOwn hp (thn (T.done X rfl rfl rfl hc i pins s3 Z3 H3 X.xe I3 (stat fr3) st3 stop) λr s4 hq1=>?_);let(hr,I4):=hq1;subst hr;exact wpAny_execs_nil ⟨Z3,H3,I4,qn⟩
 ·refine wpAny_passesOwn hp (thn (T.item X rfl rfl rfl hc i pins s3 Z3 H3 X.xe I3 (stat fr3) st3 go) λr s4 hq1=>?_);let(u,hr,h4):=hq1;subst hr;refine wpAny_passesOwn hp (thn h4 λ_ s5 hq1=>?_);let(x,H5,I5,r5,y5,st5,fr5):=hq1;have I5':=I5.pinned (stat fr5) (T.obj _ _ st5);refine wpAny_passesOwn hp (thn (hg _ s5 Z3 H5 x u _ I5' r5 (step x H5 y5)) λ_ s6 hq1=>?_);let(Z6,H6,I6,q6):=hq1;refine wpAny_passesOwn hp (thn (hb _ s6 Z6 H6 _ I6 q6) λf s7 q7=>?_)
  have again:∀{Z7:St} {H7:Hp},Inv X (pins++Zq fp s5.heap) Z7 H7 s7->N Z7 H7->∃m,m < n/\∃i Z' H',Inv X pins Z' H' s7/\tn i s7.heap/\(∀b∈fp,H' b=none)/\W i m Z' H':=λ{Z7 H7} I7 n7=>by let(m',hm,w7):=hN Z7 H7 n7;refine{m',hm,i+1,Z7,H7,I7.unpinned,T.keep _ _ _ st5 λb hb o e=>(I7.pin (b,o) (List.mem_append_right _ (List.mem_append_right _ (yo hb e)))).1,λb hb=>?_,w7};let(o,e,d):=T.obj _ _ st5 b hb;exact(I7.pin (b,o) (List.mem_append_right _ (List.mem_append_right _ (yo hb e)))).2.1
  cases f with
  |next=>let(Z7,H7,I7,n7):=q7;exact again I7 n7
  |cont=>let(Z7,H7,I7,n7):=q7;exact again I7 n7
  |brk=>let(Z7,H7,I7,q7):=q7;exact⟨Z7,H7,I7.unpinned,q7⟩
  |ret v=>let(x7,Z7,H7,I7,r7,q7):=q7;exact⟨x7,Z7,H7,I7.unpinned,r7,q7⟩
end
abbrev R2:=V->V->Hp->VK->Prop
def OpR(X:Cx)(f:Value->Value->Sem Value)(r:R2):Prop:=
 ∀(pins:PP) (s:Shared) (Z:St) (H:Hp) (x y:V) (v u:Value) (Q:VK),Inv X pins Z H s->qH x v->qH y u->r x y H Q->
  wpAny (model X.prog X.w) X.A (f v u) (EP X pins Z Q) X.xe s
def UnR(X:Cx)(f:Value->Sem Value)(r:V->Hp->VK->Prop):Prop:=
 ∀(pins:PP) (s:Shared) (Z:St) (H:Hp) (x:V) (v:Value) (Q:VK),Inv X pins Z H s->qH x v->r x H Q->
  wpAny (model X.prog X.w) X.A (f v) (EP X pins Z Q) X.xe s
def qW(X:Cx)(f:Value)(r:List V->Hp->VK->Prop):Prop:=
 ∀(pins:PP) (s:Shared) (Z:St) (H:Hp) (xs:List V) (us:List Value) (Q:VK),Inv X pins Z H s->qB xs us->r xs H Q->
  wpAny (model X.prog X.w) X.A (call f us) (EP X pins Z Q) X.xe s
def qpy(X:Cx)(r:V->Hp->(Bool->Hp->Prop)->Prop):Prop:=
 ∀(pins:PP) (s:Shared) (Z:St) (H:Hp) (x:V) (v:Value) (Q:Bool->Hp->Prop),Inv X pins Z H s->qH x v->r x H Q->
  wpAny (model X.prog X.w) X.A (truthy v) (TP X pins Z Q) X.xe s
def tOp(r:R2)(ta tb:TE):TE:=λZ H Q=>ta Z H λx H1=>tb Z H1 λy H2=>r x y H2 Q
def tUn(r:V->Hp->VK->Prop)(ta:TE):TE:=λZ H Q=>ta Z H λx H1=>r x H1 Q
def rI(C:Int->Int->Prop)(g:Int->Int->V):R2:=λx y H Q=>∃i j,x=.int i/\y=.int j/\C i j/\Q (g i j) H
def rI0(g:Int->Int->V):R2:=λx y H Q=>∃i j,x=.int i/\y=.int j/\Q (g i j) H
def rU(g:Int->V):V->Hp->VK->Prop:=λx H Q=>∃i,x=.int i/\Q (g i) H
section
variable{X:Cx}{a b c:Expr}{ta tb tc:TE}{pos:Pos}
def qnK(ha:PE X a ta)(hb:PE X b tb){pins:PP}{s:Shared}{Z:St}{H:Hp}{R:V->V->Hp->Prop}(I:Inv X pins Z H s)
  (h:ta Z H λx H1=>tb Z H1 λy H2=>R x y H2) {Q:PQ} {f:Value->Value->Sem Value}
  (hf:∀v u s2 x y H2,Inv X pins Z H2 s2->qH x v->qH y u->R x y H2->wpAny (model X.prog X.w) X.A (f v u) Q X.xe s2) :
  wpAny (model X.prog X.w) X.A (eval a X.env) (λv s₁=>wpAny (model X.prog X.w) X.A (eval b X.env) (λu s₂=>wpAny (model X.prog X.w) X.A (f v u) Q X.xe s₂) X.xe s₁) X.xe s:=by
 refine thn (ha pins s Z H _ I h) λv s1 hq1=>?_;let(x,H1,I1,r1,q1):=hq1;refine thn (hb pins s1 Z H1 _ I1 q1) λu s2 hq1=>?_;let(y,H2,I2,r2,q2):=hq1;exact hf v u s2 x y H2 I2 r1 r2 q2
def qnL{op:Operator}{r:R2}(ho:OpR X (binaryOp op) r)(ha:PE X a ta)(hb:PE X b tb):PE X (.BinOp a op b pos) (tOp r ta tb):=by intro pins s Z H Q I h;exact wpAny_BinOp (qnK ha hb I h λv u s2 x y H2 I2 rx ry q=>ho pins s2 Z H2 x y v u Q I2 rx ry q)
def qkr{op:UnaryOp}{r:V->Hp->VK->Prop}(ho:UnR X (unaryOp op) r)(ha:PE X a ta):PE X (.UnaryOp op a pos) (tUn r ta):=by intro pins s Z H Q I h;exact UnaryOp_ (thn (ha pins s Z H _ I h) λv s1 ⟨x,H1,I1,r1,q1⟩=>ho pins s1 Z H1 x v Q I1 r1 q1)
def opI{f:Value->Value->Sem Value}{C:Int->Int->Prop}{g:Int->Int->Int}
  (rule:∀(i j:Int) (t u:Tok) (s:Shared) (Q:PQ) (E:PQ),C i j->Q (.int (g i j) s.toks) { s with toks:=s.toks+1 }->wpAny (model X.prog X.w) X.A (f (.int i t) (.int j u)) Q E s) :
  OpR X f (rI C λi j=>.int (g i j)):=by
 intro pins s Z H x y v u Q I rx ry h;let(i,j,rfl,rfl,hc,q):=h;let(t,rfl):=rx;let(t',rfl):=ry;exact rule i j t t' s _ _ hc ⟨.int (g i j),H,I.tok _,⟨_,rfl⟩,q⟩
def qoU{f:Value->Value->Sem Value}{g:Int->Int->Int}
  (rule:∀(i j:Int) (t u:Tok) (s:Shared) (Q:PQ) (E:PQ),Q (.int (g i j) s.toks) { s with toks:=s.toks+1 }->wpAny (model X.prog X.w) X.A (f (.int i t) (.int j u)) Q E s) :
  OpR X f (rI0 λi j=>.int (g i j)):=by
 intro pins s Z H x y v u Q I rx ry h;let(i,j,rfl,rfl,q):=h;let(t,rfl):=rx;let(t',rfl):=ry;exact rule i j t t' s _ _ ⟨.int (g i j),H,I.tok _,⟨_,rfl⟩,q⟩
def qnl{f:Value->Value->Sem Value}{g:Int->Int->Bool}
  (rule:∀(i j:Int) (t u:Tok) (s:Shared) (Q:PQ) (E:PQ),Q (.bool (g i j)) s->wpAny (model X.prog X.w) X.A (f (.int i t) (.int j u)) Q E s) :
  OpR X f (rI0 λi j=>.bl (g i j)):=by
 intro pins s Z H x y v u Q I rx ry h;let(i,j,rfl,rfl,q):=h;let(t,rfl):=rx;let(t',rfl):=ry;exact rule i j t t' s _ _ ⟨.bl (g i j),H,I,rfl,q⟩
def qpz(i j:Int):Prop:=0 < j/\j < 1073741824
def qpA(i j:Int):Prop:=0<=j/\j<=1000000/\i.natAbs < 2 ^ 64
def qnm(i j:Int):Prop:=(-(2 ^ 64) < i/\i < 2 ^ 64)\/(-(2 ^ 64) < j/\j < 2 ^ 64)
def qnm.ok{i j:Int}(h:qnm i j):IntMulOk i j:=by
 rcases h with ⟨h1,h2⟩|⟨h1,h2⟩
 ·exact .of_left (intBits_le_64 h1 h2)
 ·exact .of_right (intBits_le_64 h1 h2)
def qks:OpR X (binaryOp .Add) (rI0 λi j=>.int (i+j)):=qoU λ_ _ _ _ _ _ _ q=>add_int q
def qkt:OpR X (binaryOp .Sub) (rI0 λi j=>.int (i - j)):=qoU λ_ _ _ _ _ _ _ q=>sub_int q
def qku:OpR X (binaryOp .Mult) (rI qnm λi j=>.int (i * j)):=opI λ_ _ _ _ _ _ _ hc q=>mul_int q hc.ok
def qh1:OpR X (binaryOp .FloorDiv) (rI qpz λi j=>.int (i / j)):=opI λi j _ _ _ _ _ hc q=>by have h1:(0:Int) < j:=hc.1;have h2:j < 1073741824:=hc.2;exact floordiv_int (1:) (by rw[Int.fdiv_eq_ediv_of_nonneg i (1:)];exact q) (.inl (PyProof.noPylong_small (1:)))
def qkv:OpR X (binaryOp .Mod) (rI (λ_ j=>0 < j) λi j=>.int (i % j)):=opI λi j _ _ _ _ _ hc q=>by have h1:(0:Int) < j:=hc;exact mod_int' (1:) (by rw[Int.fmod_eq_emod_of_nonneg i (1:)];exact q)
def qkw:OpR X (binaryOp .Pow) (rI qpA λi j=>.int (i ^ j.toNat)):=opI λ_ _ _ _ _ _ _ hc q=>pow_int_small hc.1 hc.2.1 hc.2.2 q
def unI{f:Value->Sem Value}{g:Int->Int}
  (rule:∀(i:Int) (t:Tok) (s:Shared) (Q:PQ) (E:PQ),Q (.int (g i) s.toks) { s with toks:=s.toks+1 }->wpAny (model X.prog X.w) X.A (f (.int i t)) Q E s) :
  UnR X f (rU λi=>.int (g i)):=by
 intro pins s Z H x v Q I rx h;let(i,rfl,q):=h;let(t,rfl):=rx;exact rule i t s _ _ ⟨.int (g i),H,I.tok _,⟨_,rfl⟩,q⟩
def qg5:UnR X (unaryOp .USub) (rU λi=>.int (-i)):=unI λ_ _ _ _ _ q=>neg_int q
def qbu{pins:PP}{Z:St}{H:Hp}{s:Shared}{Q:VK}{k k':Bool}(I:Inv X pins Z H s)(q:Q (.bl k) H)(e:k=k'):EP X pins Z Q (.bool k') s:=by subst e;exact{.bl k,H,I,rfl,q}
def qnM:OpR X (compareOp .Lt) (rI0 λi j=>.bl (decide (i < j))):=qnl λ_ _ _ _ _ _ _ q=>lt_int q
def qnN:OpR X (compareOp .LtE) (rI0 λi j=>.bl (decide (i<=j))):=qnl λ_ _ _ _ _ _ _ q=>le_int q
def qnO:OpR X (compareOp .Gt) (rI0 λi j=>.bl (decide (j < i))):=qnl λ_ _ _ _ _ _ _ q=>gt_int q
def qnP:OpR X (compareOp .GtE) (rI0 λi j=>.bl (decide (j<=i))):=qnl λ_ _ _ _ _ _ _ q=>ge_int q
def qdw:OpR X (compareOp .In) (λx y H Q=>∃i j,x=.str i/\y=.str j/\Q (.bl (!(Builtin.Str.occurrences j i 0 j.length 1).isEmpty)) H):=by intro pins s Z H x y v u Q I rx ry h;let(i,j,rfl,rfl,q):=h;let(t,rfl):=rx;let(t',rfl):=ry;exact in_str (qbu I q rfl)
def qkx:OpR X (compareOp .Is) (λx y H Q=>y=.non/\Q (.bl (decide (x=.non))) H):=by
 intro pins s Z H x y v u Q I rx ry h;let(rfl,q):=h;cases ry;refine is_none_gen (qbu I q ?_)
 cases x<;>first
  | (cases rx;rfl)
  | (let(t,rfl):=rx;rfl)
def qh2:OpR X (compareOp .IsNot) (λx y H Q=>y=.non/\Q (.bl (!decide (x=.non))) H):=by
 intro pins s Z H x y v u Q I rx ry h;let(rfl,q):=h;cases ry;refine isnot_none_gen (qbu I q ?_)
 cases x<;>first
  | (cases rx;rfl)
  | (let(t,rfl):=rx;rfl)
def Zr:OpR X (compareOp .NotIn) (λx y H Q=>∃i j,x=.str i/\y=.str j/\Q (.bl (!(!(Builtin.Str.occurrences j i 0 j.length 1).isEmpty))) H):=by intro pins s Z H x y v u Q I rx ry h;let(i,j,rfl,rfl,q):=h;let(t,rfl):=rx;let(t',rfl):=ry;exact notIn_str (qbu I q rfl)
def qh3{op:CmpOp}{r:R2}(ho:OpR X (compareOp op) r)(ha:PE X a ta)(hb:PE X b tb)(hm:behindInMarks op b=false):PE X (.Compare a [op] [b] pos) (tOp r ta tb):=by intro pins s Z H Q I h;exact wpAny_Compare1 (qnK ha hb I h λv u s2 x y H2 I2 rx ry q=>ho pins s2 Z H2 x y v u Q I2 rx ry q) hm
def qnQ(t:TE):TT:=λZ H Q=>t Z H λx H'=>∃k,x=.bl k/\Q k H'
def qh4{op:CmpOp}{r:R2}(ho:OpR X (compareOp op) r)(ha:PE X a ta)(hb:PE X b tb)(hm:behindInMarks op b=false):PT X (.Compare a [op] [b] pos) (qnQ (tOp r ta tb)):=by
 intro pins s Z H Q I h
 refine wpAny_isTrue_Compare1 (thn (ha pins s Z H _ I h) λv s1 ⟨x,H1,I1,r1,q1⟩=>thn (hb pins s1 Z H1 _ I1 q1) λu s2 ⟨y,H2,I2,r2,q2⟩=>thn (ho pins s2 Z H2 x y v u _ I2 r1 r2 q2) λc s3 ⟨z,H3,I3,r3,k,e,q3⟩=>?_) hm
 subst e;cases r3;exact wpAny_truthy_bool ⟨H3,I3,q3⟩
def qnn(K:Frag)(x:V)(H:Hp)(k:Bool):Prop:=
 match x with
 |.non=>k=false
 |.bl b=>k=b
 |.int i=>k=(i != 0)
 |.str y=>y.length<=sizeLine/\k=((y.length:Int) != 0)
 |.byt y=>y.size<=sizeLine/\k=((y.size:Int) != 0)
 |.ref p=>(∃xs,SqL K H p xs/\k = !xs.isEmpty)\/(∃xs,SqT K H p xs/\k = !xs.isEmpty)\/∃kvs,H p=some (.dK kvs)/\k = !kvs.isEmpty
 |_=>False
def qcw{U:Type}{kvs:List (U×V)}{vs:List (U×Value)}(r:KV kvs vs):(!vs.isEmpty) = !kvs.isEmpty:=by cases r<;>rfl
def Y2{xs:List V}{its:List Value}(r:qB xs its):(!its.toArray.isEmpty) = !xs.isEmpty:=by cases r<;>simp
def J7:(sizeLine:Nat) < 2 ^ 63:=by rw[sizeLine_eq];decide
theorem qky:qpy X (λx H Q=>∃k,qnn X.K x H k/\Q k H):=by
 intro pins s Z H x v Q I rx h;let(k,e,q):=h;have hl:=J7;have hs:sizeLine=16777216:=sizeLine_eq
 cases x with
 |non=>cases rx;have e':k=false:=e;subst e';exact truthy_none ⟨H,I,q⟩
 |bl b=>cases rx;have e':k=b:=e;subst e';exact wpAny_truthy_bool ⟨H,I,q⟩
 |int i=>let(t,rfl):=rx;have e':k=(i != 0):=e;subst e';exact PySem.P.truthy_int ⟨H,I,q⟩
 |str y=>let(t,rfl):=rx;let(hy,e'):y.length<=sizeLine/\k=((y.length:Int) != 0):=e;subst e';exact PySem.P.truthy_str (1:) ⟨H,I.tok _,q⟩
 |byt y=>let(t,rfl):=rx;let(hy,e'):y.size<=sizeLine/\k=((y.size:Int) != 0):=e;subst e';exact PySem.W.truthy_bytes (1:) ⟨H,I.tok _,q⟩
 |ref p=>
  cases rx;have e':(∃xs,SqL X.K H p xs/\k = !xs.isEmpty)\/(∃xs,SqT X.K H p xs/\k = !xs.isEmpty)\/∃kvs,H p=some (.dK kvs)/\k = !kvs.isEmpty:=e;rcases e' with ⟨xs,hx,e'⟩|⟨xs,hx,e'⟩|⟨kvs,hx,e'⟩
  ·subst e';let(its,r,pl,hz):=I.list hx;have hlen:=r.length;exact wpAny_truthy_list pl.isList (by simp![List.size_toArray];lia) ⟨H,I.tok _,by rw[Y2 r];exact q⟩
  ·subst e';let(its,r,pl,hz):=I.tuple hx;have hlen:=r.length;exact truthy_tuple pl (by simp![List.size_toArray];lia) ⟨H,I.tok _,by rw[Y2 r];exact q⟩
  ·subst e';let(hz,hS,vs,r,m):kvs.length<=sizeLine/\(p == sysModules)=false/\∃vs,KV kvs vs/\s.heap.DictOf (qr X.prog X.w) p vs:=I.hok p _ hx;have hlen:kvs.length=vs.length:=Paired.length r;exact wpAny_truthy_dict hS m (1:) ⟨H,I.tok _,by rw[qcw r];exact q⟩
 |_=>exact(show False from e).elim
def qfD(ha:PE X a ta)(he:∀whole,isTrue a X.env whole=(do let v<-whole;standAt a.pos;holding [v] (truthy v))) :
  PT X a (λZ H Q=>ta Z H λx H'=>∃k,qnn X.K x H' k/\Q k H'):=by
 intro pins s Z H Q I h;exact isTrue_plain (thn (ha pins s Z H _ I h) λv s1 ⟨x,H1,I1,r1,q1⟩=>qky pins s1 Z H1 x v Q I1 r1 q1) (he _)
def qcx:OpR X (binaryOp .Add) (λx y H Q=>∃i j,x=.str i/\y=.str j/\i.length+j.length<=sizeLine/\Q (.str (i++j)) H):=by intro pins s Z H x y v u Q I rx ry h;let(i,j,rfl,rfl,hz,q):=h;let(t,rfl):=rx;let(t',rfl):=ry;exact add_str (λt' tk=>{.str (i++j),H,I.tok _,{_,rfl},q}) hz
theorem yU{x:V}{us:List Value}(r:qB [x] us):∃u,us=[u]/\qH x u:=by
 cases r with
 |cons r1 r2=>cases r2;exact{_,rfl,r1}
theorem Zs{x y:V}{us:List Value}(r:qB [x,y] us):∃u w',us=[u,w']/\qH x u/\qH y w':=by
 cases r with
 |cons r1 r2=>
  cases r2 with
  |cons r3 r4=>cases r4;exact{_,_,rfl,r1,r3}
def qdx(hc:X.calm=true):qW X (.builtin "max") (λxs H Q=>∃i j,xs=[.int i,.int j]/\Q (.int (if j > i then j else i)) H):=by
 intro pins s Z H xs us Q I r h;let(i,j,rfl,q):=h;let(u,w',rfl,(t,rfl),(t',rfl)):=Zs r;refine max_two_ints (I.ok.hd hc) λh' tk k=>{_,H,I.kept k,?_,q}
 by_cases hj:j > i
 ·rw[if_pos hj,if_pos hj];exact{_,rfl}
 ·rw[if_neg hj,if_neg hj];exact{_,rfl}
def qdy(hc:X.calm=true):qW X (.builtin "min") (λxs H Q=>∃i j,xs=[.int i,.int j]/\Q (.int (if j < i then j else i)) H):=by
 intro pins s Z H xs us Q I r h;let(i,j,rfl,q):=h;let(u,w',rfl,(t,rfl),(t',rfl)):=Zs r;refine min_two_ints (I.ok.hd hc) λh' tk k=>{_,H,I.kept k,?_,q}
 by_cases hj:j < i
 ·rw[if_pos hj,if_pos hj];exact{_,rfl}
 ·rw[if_neg hj,if_neg hj];exact{_,rfl}
def Zt:qW X (.type "int") (λxs H Q=>(∃i,xs=[.int i]/\Q (.int i) H)\/∃k,xs=[.bl k]/\Q (.int (if k then 1 else 0)) H):=by
 intro pins s Z H xs us Q I r h;rcases h with ⟨i,rfl,q⟩|⟨k,rfl,q⟩
 ·let(u,rfl,t,rfl):=yU r;exact call_int_int ⟨.int i,H,I,⟨_,rfl⟩,q⟩
 ·let(u,rfl,r1):=yU r;cases r1;exact call_int_bool ⟨.int (if k then 1 else 0),H,I.tok _,⟨_,rfl⟩,q⟩
end
structure ObjM(h:Heap)(x dx C:Addr)(mA:PR):Prop where
 obj:h.get? x=some (PySem.W.instObj C dx)
 ns:h.Ns1 dx mA
 ne:dx≠x
def Zu{h:Heap}{dx:Addr}{mA:PR}(n:h.Ns1 dx mA):∃od,h.get? dx=some od/\∀name,PySem.W.lookIn name od=some (mA name):=by
 let(o,es,ep,ho,hd,hk,_,hm):=n;refine{o,ho,λname=>?_};have e:=hm name;unfold nsFind findBy at e;rw[<-Array.find?_toList]at e;unfold PySem.W.lookIn;rw[hd];dsimp only;split
 ·rename_i y q;rw[q]at e;exact congrArg some e
 ·rename_i q;rw[q]at e
  have a:es.toList.any (·.refKey)=false:=by rw[List.any_eq_false];intro y hy;let(z,t,hkey):=hk y (Array.mem_toList_iff.mp hy);simp[DictEntry.refKey,hkey]
  have a':¬ es.toList.any (·.refKey)=true:=by rw[a];exact Bool.false_ne_true
  rw[if_neg a'];exact congrArg some e
def ObjM.look{h:Heap}{x dx C:Addr}{mA:PR}(I:ObjM h x dx C mA):∃od,PySem.W.InstAt h x (PySem.W.instObj C dx) C (some od)/\∀name,PySem.W.lookIn name od=some (mA name):=
 let ⟨od,ho,hl⟩:=Zu I.ns
 ⟨od,⟨I.obj,rfl,rfl,ho⟩,hl⟩
section
variable{prog:Program}{w:World}{A:Around}{E:PQ}{s:Shared}{K:Frag}{x dx C f:Addr}{mA:PR}{name:Str}{v:Value}
def qh5{expr:Bool}{Q:PQ}(X:K.In s.heap)(I:ObjM s.heap x dx C mA)(hg:PySem.W.plainGet K C name=true)(hh:PySem.W.hasDictIn K C=true)
  (ha:PySem.W.findIn K (.ref C) name=some none) (hv:mA name=some v) (hv':PySem.W.handedIn v=true) (h:Q v { s with toks:=s.toks+1 }) :
  wpAny (model prog w) A (getAttr (.ref x) name expr) Q E s:=by
 let(od,J,hl):=I.look;exact PySem.W.get_value X J (PySem.W.plainGet_of hg).1 (PySem.W.findObj_own hh ha rfl (by rw[hl,hv])) hv' h
def qfE{pl:Sem Bool}{Q:Value×List Value->Shared->Prop}(X:K.In s.heap)(I:ObjM s.heap x dx C mA)(hg:PySem.W.plainGet K C name=true)
  (hf:PySem.W.findIn K (.ref C) name=some (some (.ref f))) (ht:PySem.W.isFn K (.ref f)=true) (hv:mA name=none) (h:Q (.ref f,[.ref x]) s) :
  wpAny (model prog w) A (getMethod (.ref x) name pl) Q E s:=by
 let(od,J,hl):=I.look;exact PySem.W.method_fn X J (PySem.W.plainGet_of hg).1 (PySem.W.plainGet_of hg).2 hf (beq_iff_eq.mp ht) (by show(PySem.W.lookIn name od).map (·.isSome)=some false;rw[hl,hv];rfl) h
def qh6{ns:List Str}{Q:Unit->Shared->Prop}(X:K.In s.heap)(I:ObjM s.heap x dx C mA)
  (hs:PySem.W.findIn K (.ref C) "__setattr__" = some (some (.builtin "object.__setattr__"))) (hp:PySem.W.plainOver K C=true) (ht:PySem.W.takerIn K C name=some none) (hh:PySem.W.hasDictIn K C=true)
  (hw:PySem.Within mA ns) (hsz:ns.length<=sizeLine)
  (h:∀h',ObjM h' x dx C (λy=>if y=name then some v else mA y)->Heap.SameBut dx s.heap h'->Q () { s with heap:=h',toks:=s.toks+2 }) :
  wpAny (model prog w) A (setAttr (.ref x) name v) Q E s:=by
 let(od,J,hl):=I.look;refine PySem.W.set_plain X J hs (PySem.W.osa_open (s:={ s with toks:=s.toks+1 }) (r:=none) X J hp ht λb=>?_);let(cd,hc,hd'):=PySem.W.any_some hh;have hx:s.heap.get? x=some ⟨.ref C,some dx,.plain,#[]⟩:=I.obj;refine wpAny_bind (wpAny_pure (wpAny_bind (wpAny_bind (wpAny_loadPart hx (wpAny_bind (PySem.W.Looks.here (s:={ s with toks:=s.toks+1 }) (PySem.W.looks_clsIn X hc) ?_))))));rw[hd'];refine wpAny_pure (a:=some dx) (wpAny_bind (wpAny_pure (wpAny_bind ?_)));refine wpAny_nsSet1 (s:={ s with toks:=s.toks+1 }) I.ns λh' hn2 hs2=>?_;let(oD,esD,epD,hoD,hdD,hcD):=hn2.count (PySem.Within.cons name v hw);refine wpAny_bind (wpAny_lookBehind hoD (by rw[hdD];exact pastItsLine_dict (Nat.le_trans hcD (by rw[List.length_cons];lia))) ?_);exact wpAny_pure (h _ ⟨(hs2.2 _ (Ne.symm I.ne)).trans I.obj,hn2,I.ne⟩ hs2)
def qfF{R:Result->Shared->Prop}{vs:List Value}{kw:List (Str×Value)}(X:K.In s.heap)(hm:PySem.W.makesIn K C=true)
  (hi:PySem.W.findIn K (.ref C) "__init__" = some (some (.ref f))) (hf:PySem.W.typeIn K (.ref f)=some (.type "function"))
  (h:codeAny (model prog w) (A.under (.builtin "type.__call__" ⟨.ref C::vs,kw⟩)) (.call (.ref f) ⟨.ref (s.heap.objs.size+1)::vs,kw⟩) (PySem.W.InitBack (s.heap.objs.size+1) R)
   { s with heap:=(s.heap.push PySem.W.emptyDict).push (PySem.W.instObj C s.heap.objs.size) }) :
  codeAny (model prog w) A (.call (.ref C) ⟨vs,kw⟩) R s:=by
 let(hh,g,d,t,os):=s;exact PySem.W.make_core (PySem.W.makes_of X hm) (PySem.W.looks_findIn X hi) (λself=>PySem.W.bind_fn X self hf) (.inl rfl) h
end
def qaJ(f:Str)(v:V):List (Str×V)->List (Str×V)
 |[]=>[(f,v)]
 | (g,x)::r=>if g=f then (g,v)::r else (g,x)::qaJ f v r
theorem J8(f g:Str)(v:V):∀fs:List (Str×V),(qaJ f v fs).lookup g=if g=f then some v else fs.lookup g
 |[]=>by
  show List.lookup g [(f,v)]=_
  by_cases h:g=f
  ·have hb:(g == f)=true:=beq_iff_eq.mpr h;simp![List.lookup,hb,if_pos h]
  ·have hb:(g == f)=false:=beq_eq_false_iff_ne.mpr h;simp![List.lookup,hb,if_neg h]
 | (k,x)::r=>by
  have ih:=J8 f g v r;rw[show qaJ f v ((k,x)::r)=(if k=f then (k,v)::r else (k,x)::qaJ f v r) from rfl]
  by_cases hk:k=f
  ·rw[if_pos hk]
   by_cases h:g=k
   ·have hb:(g == k)=true:=beq_iff_eq.mpr h;simp![List.lookup,hb,if_pos (h.trans hk)]
   ·have hb:(g == k)=false:=beq_eq_false_iff_ne.mpr h;simp![List.lookup,hb,if_neg (λe:g=f=>h (e.trans hk.symm))]
  ·rw[if_neg hk]
   by_cases h:g=k
   ·have hb:(g == k)=true:=beq_iff_eq.mpr h;simp![List.lookup,hb,if_neg (λe:g=f=>hk (h.symm.trans e))]
   ·have hb:(g == k)=false:=beq_eq_false_iff_ne.mpr h;simp![List.lookup,hb];exact ih
theorem J9(f:Str)(v:V):∀fs:List (Str×V),f∈(qaJ f v fs).map (·.1)/\∀g,g∈fs.map (·.1)->g∈(qaJ f v fs).map (·.1)
 |[]=>{by simp[qaJ],λg h=>by simp at h}
 | (k,x)::r=>by
  let(i1,i2):=J9 f v r;rw[show qaJ f v ((k,x)::r)=(if k=f then (k,v)::r else (k,x)::qaJ f v r) from rfl]
  by_cases hk:k=f
  ·rw[if_pos hk];subst hk;exact{by simp,λg h=>(-h:)}
  ·rw[if_neg hk];refine{?_,λg h=>?_}
   ·rw[List.map_cons];exact List.mem_cons_of_mem _ i1
   ·rw[List.map_cons]at h ⊢;rcases List.mem_cons.mp h with e|e
    ·exact List.mem_cons.mpr (.inl e)
    ·exact List.mem_cons_of_mem _ (i2 g e)
theorem Yb(f:Str)(v:V):∀fs:List (Str×V),(qaJ f v fs).length<=fs.length+1
 |[]=>by simp[qaJ]
 | (k,x)::r=>by
  have ih:=Yb f v r;rw[show qaJ f v ((k,x)::r)=(if k=f then (k,v)::r else (k,x)::qaJ f v r) from rfl]
  by_cases hk:k=f
  ·rw[if_pos hk,List.length_cons,List.length_cons];lia
  ·rw[if_neg hk,List.length_cons,List.length_cons];lia
theorem qaN.some_of{v:V}{o:Option Value}(r:qaN (some v) o):∃u,o=some u/\qH v u:=by
 cases o with
 |none=>exact(show False from r).elim
 |some u=>exact⟨u,rfl,r⟩
theorem qaN.none_of{o:Option Value}(r:qaN none o):o=none:=by
 cases o with
 |none=>rfl
 |some u=>exact(show False from r).elim
theorem qdz{v:V}{u:Value}(r:qH v u):PySem.W.handedIn u=true:=by
 cases v with
 |non=>cases (show u=Value.none from r);rfl
 |bl b=>cases (show u=Value.bool b from r);rfl
 |int i=>let(t,e):=(show∃t,u=Value.int i t from r);cases e;rfl
 |str x=>let(t,e):=(show∃t,u=Value.str x t from r);cases e;rfl
 |byt b=>let(t,e):=(show∃t,u=Value.bytes b t from r);cases e;rfl
 |flt b=>let(t,e):=(show∃t,u=Value.float b t from r);cases e;rfl
 |ref a=>cases (show u=Value.ref a from r);rfl
 |ty n=>cases (show u=Value.type n from r);rfl
section
variable{P:Program}{w:World}{H H':Hp}{h h':Heap}{a C dx:Addr}{fs fs':List (Str×V)}
def Qt(hok:HOk P w H h)(e:H a=some (.ins C dx fs)):∃mA,ObjM h a dx C mA/\(∀f,qaN (fs.lookup f) (mA f))/\PySem.Within mA (fs.map (·.1))/\fs.length<=1000/\H dx=some (.own a):=by let(d,z,ne,ob,mA,n,r,q):=(show qO P w H h a (.ins C dx fs) from hok a _ e);exact{mA,⟨ob,n,ne⟩,r,q,z,d}
end
structure Cls(K:Frag)(C:Addr):Prop where
 pg:PySem.W.plainGet K C Str.empty=true
 hd:PySem.W.hasDictIn K C=true
 po:PySem.W.plainOver K C=true
 sa:PySem.W.findIn K (.ref C) "__setattr__" = some (some (.builtin "object.__setattr__"))
def Cls.get{K:Frag}{C:Addr}(c:Cls K C)(f:Str):PySem.W.plainGet K C f=true:=c.pg
def ze(K:Frag)(C:Addr)(f:Str):Prop:=PySem.W.findIn K (.ref C) f=some none
def ze.taker{K:Frag}{C:Addr}{f:Str}(n:ze K C f):PySem.W.takerIn K C f=some none:=by unfold PySem.W.takerIn;rw[show PySem.W.findIn K (.ref C) f=some none from n];rfl
structure Meth(K:Frag)(C:Addr)(m:Str)(f:Addr):Prop where
 at_:PySem.W.findIn K (.ref C) m=some (some (.ref f))
 fn:PySem.W.isFn K (.ref f)=true
 kp:PySem.W.keepIn K (.ref f)=true
section
variable{X:Cx}{pins:PP}{Z:St}{H:Hp}{s:Shared}{a C dx:Addr}{fs:List (Str×V)}{f:Str}{v:V}{A:Around}{E:PQ}
def qcy{b:Bool}{Q:PQ}(I:Inv X pins Z H s)(e:H a=some (.ins C dx fs))(c:Cls X.K C)(n:ze X.K C f)(l:fs.lookup f=some v)
  (h:∀u s',Inv X pins Z H s'->qH v u->Q u s'):wpAny (model X.prog X.w) A (getAttr (.ref a) f b) Q E s:=by
 let(mA,O,r,_,_,_):=Qt I.hok e;let(u,hu,ru):=qaN.some_of (v:=v) (o:=mA f) (by rw[<-l];exact r f);exact qh5 I.kIn O (c.get f) c.hd n hu (qdz ru) (h u _ (I.tok _) ru)
def Y3{m:Str}{g:Addr}{pl:Sem Bool}{Q:Value×List Value->Shared->Prop}(I:Inv X pins Z H s)(e:H a=some (.ins C dx fs))(c:Cls X.K C)(k:Meth X.K C m g)(l:fs.lookup m=none)
  (h:Q (.ref g,[.ref a]) s):wpAny (model X.prog X.w) A (getMethod (.ref a) m pl) Q E s:=by
 let(mA,O,r,_,_,_):=Qt I.hok e;have hn:mA m=none:=qaN.none_of (by rw[<-l];exact r m);exact qfE I.kIn O (c.get m) k.at_ k.fn hn h
def qcz{y:V}{u:Value}{Q:Unit->Shared->Prop}(I:Inv X pins Z H s)(e:H a=some (.ins C dx fs))(c:Cls X.K C)(n:ze X.K C f)(hl:fs.length < 1000)(ry:qH y u)
  (h:∀s',Inv X pins Z (upd H a (.ins C dx (qaJ f y fs))) s'->Q () s'):wpAny (model X.prog X.w) A (setAttr (.ref a) f u) Q E s:=by
 let(mA,O,r,wi,_,ho):=Qt I.hok e;have hz:(fs.map (·.1)).length<=sizeLine:=by rw[List.length_map,sizeLine_eq];lia
 refine qh6 I.kIn O c.sa c.po n.taker c.hd wi hz λh' O' sb=>h _ ?_;have hd:∃o,h'.get? dx=some o:=let ⟨o,_,_,e',_⟩:=O'.ns;⟨o,e'⟩;refine I.write (x:=a) (e:=dx) (by rw[e];exact True.intro) (.inr ho) (λb q hb z=>(sb.2 b hb).trans z) hd ?_;refine{by rw[qe O.ne];exact ho,?_,O.ne,O'.obj,_,O'.ns,λg=>?_,λg hg=>?_}
 ·have:=Yb f y fs;lia
 ·show qaN ((qaJ f y fs).lookup g) (if g=f then some u else mA g);rw[J8]
  by_cases q:g=f
  ·rw[if_pos q,if_pos q];exact ry
  ·rw[if_neg q,if_neg q];exact r g
 ·by_cases q:g=f
  ·rw[q];exact(J9 f y fs).1
  ·refine(J9 f y fs).2 g (wi g λz=>hg ?_);show(if g=f then some u else mA g)=none;rw[if_neg q];exact z
def Inv.made(I:Inv X pins Z H s):Inv X pins Z (upd (upd H s.heap.objs.size (.own (s.heap.objs.size+1))) (s.heap.objs.size+1) (.ins C s.heap.objs.size []))
  { s with heap:=(s.heap.push PySem.W.emptyDict).push (PySem.W.instObj C s.heap.objs.size) }:=by
 have e1:(s.heap.push PySem.W.emptyDict).get? s.heap.objs.size=some PySem.W.emptyDict:=Heap.get?_push_size s.heap rfl
 have e2:((s.heap.push PySem.W.emptyDict).push (PySem.W.instObj C s.heap.objs.size)).get? (s.heap.objs.size+1)=some (PySem.W.instObj C s.heap.objs.size):=by
  have:=Heap.get?_push_size (s.heap.push PySem.W.emptyDict) (o:=PySem.W.instObj C s.heap.objs.size) rfl
  rwa[Heap.size_push]at this
 have e3:(s.heap.push PySem.W.emptyDict).Ns s.heap.objs.size (λ_=>none):={PySem.W.emptyDict,#[],_,e1,rfl,(λe he=>absurd he (5:)),λ_=>rfl};have I1:=I.laid (a:=s.heap.objs.size) (o:=.own (s.heap.objs.size+1)) (h':=s.heap.push PySem.W.emptyDict) (t':=s.toks) (λb u q=>Heap.get?_push_of_some _ q) (Nat.le_refl _) ⟨_,e1⟩;refine I1.laid (a:=s.heap.objs.size+1) (o:=.ins C s.heap.objs.size []) (t':=s.toks) (λb u q=>Heap.get?_push_of_some _ q) (Nat.le_of_eq (Heap.size_push _ _)) ?_;have ne:s.heap.objs.size≠s.heap.objs.size+1:=Nat.ne_of_lt (Nat.lt_succ_self _);refine{by rw[qe ne,qg],Nat.zero_le _,ne,e2,λ_=>none,(Heap.Ns1.of_empty e3).at λo q=>Heap.get?_push_of_some _ q,λ_=>True.intro,λy hy=>absurd rfl hy}
def qdA{prog:Program}{w:World}{env:Env}{e:Expr}{f:Str}{pos:Pos}{s:Shared}{Q:PQ}(hb:attributeBase e f env (eval e env)=eval e env)
  (h:wpAny (model prog w) A (eval e env) (λo s₁=>wpAny (model prog w) A (getAttr o f true) Q E s₁) E s):wpAny (model prog w) A (eval (.Attribute e f pos) env) Q E s:=
 Attribute_any_ h (by rw[arm_eval_Attribute,hb])
end
def qpB(K:Frag)(ta:TE)(f:Str):TE:=λZ H Q=>ta Z H λx H1=>∃a C dx fs v,x=.ref a/\H1 a=some (.ins C dx fs)/\Cls K C/\ze K C f/\fs.lookup f=some v/\Q v H1
def qpC(K:Frag)(ta tv:TE)(f:Str):TS:=λD Z H=>tv Z H λy H1=>ta Z H1 λx H2=>∃a C dx fs,x=.ref a/\H2 a=some (.ins C dx fs)/\Cls K C/\ze K C f/\fs.length < 1000/\
 D.nx Z (upd H2 a (.ins C dx (qaJ f y fs)))
section
variable{X:Cx}{o e value:Expr}{f:Str}{pos pos' tpos:Pos}{ta tv:TE}
def qkz(he:PE X e ta)(hb:attributeBase e f X.env (eval e X.env)=eval e X.env):PE X (.Attribute e f pos) (qpB X.K ta f):=by intro pins s Z H Q I h;refine qdA hb (thn (he pins s Z H _ I h) λu s1 hq1=>?_);let(x,H1,I1,rx,a,C,dx,fs,v,ex,ea,c,n,l,q):=hq1;subst ex;obtain rfl:u=Value.ref a:=rx;exact qcy I1 ea c n l λu' s2 I2 ru=>⟨v,H1,I2,ru,q⟩
def Zv(ha:PE X o ta)(hv:PE X value tv)(hs:swapsWith value (some (.Attribute o f pos')) pos.line X.env=pure false):PS X (.Assign [.Attribute o f pos'] value pos) (qpC X.K ta tv f):=by intro pins s Z H D I h;refine plainObj_wpAny_Assign_Attribute (thn (hv pins s Z H _ I h) λu s1 ⟨y,H1,I1,ry,q⟩=>thn (ha pins s1 Z H1 _ I1 q) λov s2 ⟨x,H2,I2,rx,a,C,dx,fs,ex,ea,c,n,l,q2⟩=>?_) hs;subst ex;obtain rfl:ov=Value.ref a:=rx;exact qcz I2 ea c n l ry λs3 I3=>{Z,_,I3,q2}
end
section
variable{X:Cx}{pins:PP}{Z:St}{H:Hp}{s:Shared}{A:Around}{E:PQ}{Q:PQ}{c:Value}{b:Bool}
inductive TyOf(K:Frag)(H:Hp):V->Value->Prop where
 | non:TyOf K H .non (.type "NoneType")
 | bl (x:Bool):TyOf K H (.bl x) (.type "bool")
 | int (i:Int):TyOf K H (.int i) (.type "int")
 | str (x:Str):TyOf K H (.str x) (.type "str")
 | flt (x:UInt64):TyOf K H (.flt x) (.type "float")
 | lst {a:Addr} {xs:List V} (e:H a=some (.lst xs)):TyOf K H (.ref a) (.type "list")
 | frz {a:Addr} {o:Obj} {xs:List V} (e:H a=some (.frz o (.lst xs))):TyOf K H (.ref a) (.type "list")
 | tup {a:Addr} {xs:List V} (e:H a=some (.tup xs)):TyOf K H (.ref a) (.type "tuple")
 | dK {a:Addr} {kvs:List (Key×V)} (e:H a=some (.dK kvs)):TyOf K H (.ref a) (.type "dict")
 | dT {a:Addr} {kvs:List (List Key×V)} (e:H a=some (.dT kvs)):TyOf K H (.ref a) (.type "dict")
 | ins {a C dx:Addr} {fs:List (Str×V)} (e:H a=some (.ins C dx fs)) (cl:Cls K C) (ha:PySem.W.findIn K (.ref C) "__class__" = some (some (.builtin "object.__class__")))
   (hn:PySem.W.specialIn K (.builtin "object.__class__") "__get__" = some (some (.builtin "getset_descriptor.__get__"))) (htk:PySem.W.takesIn K (.builtin "object.__class__")=some true)
   (hm:PySem.W.mroIn K C (.type "object")=some true):TyOf K H (.ref a) (.ref C)
theorem Zw{x:V}{u t:Value}(I:Inv X pins Z H s)(rx:qH x u)(ty:TyOf X.K H x t)(e:PySem.W.kitOne X.K t c=some b)(h:∀tk,Q (.bool b) { s with toks:=tk }) :
  wpAny (model X.prog X.w) A (call (.builtin "isinstance") [u,c]) Q E s:=by
 cases ty with
 |non=>cases (show u=Value.none from rx);exact PySem.W.kia_one PySem.W.kitx_none I.kIn True.intro e (λz=>nomatch z) h
 |bl y=>cases (show u=Value.bool y from rx);exact PySem.W.kia_one PySem.W.kitx_bool I.kIn True.intro e (λz=>nomatch z) h
 |int i=>let(t,q):=(show∃t,u=Value.int i t from rx);cases q;exact PySem.W.kia_one PySem.W.kitx_int I.kIn True.intro e (λz=>nomatch z) h
 |str y=>let(t,q):=(show∃t,u=Value.str y t from rx);cases q;exact PySem.W.kia_one PySem.W.kitx_str I.kIn True.intro e (λz=>nomatch z) h
 |flt y=>let(t,q):=(show∃t,u=Value.float y t from rx);cases q;exact PySem.W.kia_one PySem.W.kitx_float I.kIn True.intro e (λz=>nomatch z) h
 |@lst a xs ea=>
  cases (show u=Value.ref a from rx)
  let(_,_,n,_,h1):=(show qO X.prog X.w H s.heap a (.lst xs) from I.hok a _ ea);exact PySem.W.kia_one PySem.W.kitx_list I.kIn ⟨_,h1,rfl⟩ e (λz=>nomatch z) h
 |@frz a ob xs ea=>
  cases (show u=Value.ref a from rx)
  let(_,_,_,n,_,h1):=(show qO X.prog X.w H s.heap a (.frz ob (.lst xs)) from I.hok a _ ea);exact PySem.W.kia_one PySem.W.kitx_list I.kIn ⟨_,h1,rfl⟩ e (λz=>nomatch z) h
 |@tup a xs ea=>
  cases (show u=Value.ref a from rx)
  let(_,_,_,p):=(show qO X.prog X.w H s.heap a (.tup xs) from I.hok a _ ea);let(o,h1,h2,_):=p;exact PySem.W.kia_one PySem.W.kitx_tuple I.kIn ⟨o,h1,h2⟩ e (λz=>nomatch z) h
 |@dK a kvs ea=>
  cases (show u=Value.ref a from rx)
  let(_,_,vs,_,p):=(show qO X.prog X.w H s.heap a (.dK kvs) from I.hok a _ ea);let(o,es,ep,h1,h2,_):=p;exact PySem.W.kia_one PySem.W.kitx_dict I.kIn ⟨o,h1,h2.1⟩ e (λz=>nomatch z) h
 |@dT a kvs ea=>
  cases (show u=Value.ref a from rx)
  let(_,_,xs,_,o,es,ep,h1,h2,_):=(show qO X.prog X.w H s.heap a (.dT kvs) from I.hok a _ ea);exact PySem.W.kia_one PySem.W.kitx_dict I.kIn ⟨o,h1,h2.1⟩ e (λz=>nomatch z) h
 |@ins a C dx fs ea cl ha hn htk hm=>
  cases (show u=Value.ref a from rx)
  let(mA,O,_):=Qt I.hok ea;let(od,J,_):=O.look;exact PySem.W.kia_one (PySem.W.kitx_own (cl.get _) cl.hd ha hn htk hm) I.kIn J e (λz=>nomatch z) h
end
structure Room(k:Nat)(A:Around):Prop where
 hd:A.handled=none
 dp:A.depth+3 * k+5 < recursionLimit
 un:A.units+16 * k+200 < cLine
def Room.deeper{k:Nat}{A:Around}(r:Room (k+1) A)(env:Env):Room k (A.deeper env):=
 ⟨r.hd,by have:=r.dp;show A.depth+1+3 * k+5 < _;lia,by have:=r.un;show A.units+3+16 * k+200 < _;lia⟩
def qcA{A:Around}{C:Addr}{us:List Value}{kw:List (Str×Value)}:(A.under (.builtin "type.__call__" ⟨.ref C::us,kw⟩)).depth=A.depth+1:=by first|rfl|simp[Around.under,Code.weight,Code.isCreation,Code.isGuard,Code.isCaller,Code.frames,Code.isFrame,guardIds]
def qcB{A:Around}{C:Addr}{us:List Value}{kw:List (Str×Value)}:(A.under (.builtin "type.__call__" ⟨.ref C::us,kw⟩)).units=A.units+1:=by first|rfl|simp[Around.under,Code.cUnits,Code.frames,Code.isFrame]
def Room.make{k:Nat}{A:Around}(r:Room (k+1) A)(C:Addr)(us:List Value)(kw:List (Str×Value)):Room k (A.under (.builtin "type.__call__" ⟨.ref C::us,kw⟩)):=
 ⟨r.hd,by have:=r.dp;rw[qcA];lia,by have:=r.un;rw[qcB];lia⟩
def Room.depth{k:Nat}{A:Around}(r:Room k A):A.depth < recursionLimit:=by have:=r.dp;lia
def qj3:TA:=λ_ H Q=>Q [] H
def qfG(ta:TE)(tr:TA):TA:=λZ H Q=>ta Z H λx H1=>tr Z H1 λxs H2=>Q (x::xs) H2
section
variable{X:Cx}{e:Expr}{es:List Expr}{te:TE}{t:TA}{pos:Pos}
def qC:PA X [] qj3:=λ_ _ _ _ H Q I h=>Calls.spliced_nil ⟨[],H,I,.nil,h⟩
def qm(ha:PE X e te)(hr:PA X es t)(hs:starEach (e::es) X.env=(false,eval e X.env)::starEach es X.env:=by rfl):PA X (e::es) (qfG te t):=by intro pos pins s Z H Q I h;rw[hs];show wpAny _ _ (spliced ((false,eval e X.env)::backTo pos (starEach es X.env))) _ _ s;refine Calls.spliced_cons (thn (ha pins s Z H _ I h) λu s1 hq1=>?_);let(x,H1,I1,r1,q1):=hq1;exact thn (hr pos pins s1 Z H1 _ I1 q1) λus s2 ⟨xs,H2,I2,r2,q2⟩=>{x::xs,H2,I2,.cons r1 r2,q2}
def qpD(t:TA):TE:=λZ H Q=>t Z H λxs H1=>xs.length<=sizeLine/\∀p,H1 p=none->Q (.ref p) (upd H1 p (.tup xs))
def qpE(t:TA):TE:=λZ H Q=>t Z H λxs H1=>xs.length<=sizeLine/\∀p,H1 p=none->Q (.ref p) (upd H1 p (.lst xs))
def qkA{x1}(h:PA X es t):PE X (.Tuple es x1 pos) (qpD t):=by intro pins s Z H Q I hq;refine wpAny_Tuple_spliced (thn (h pos pins s Z H _ I hq) λus s1 ⟨xs,H1,I1,r,z,q⟩=>{by rw[<-r.length];exact z,?_});have hf:H1 s1.heap.objs.size=none:=I1.hok.fresh (Nat.le_refl _);refine{.ref s1.heap.objs.size,upd H1 s1.heap.objs.size (.tup xs),I1.laid (t':=s1.toks) (λb u e=>Heap.get?_push_of_some _ e) (Nat.le_refl _) ?_,rfl,q _ hf};exact{z,us,r,{_,Heap.get?_push_size _ rfl,rfl,_,rfl}}
def qkB(h:PA X es t):PE X (.List es pos) (qpE t):=by intro pins s Z H Q I hq;refine wpAny_List_spliced (thn (h pos pins s Z H _ I hq) λus s1 ⟨xs,H1,I1,r,z,q⟩=>{by rw[<-r.length];exact z,?_});have hf:H1 s1.heap.objs.size=none:=I1.hok.fresh (Nat.le_refl _);refine{.ref s1.heap.objs.size,upd H1 s1.heap.objs.size (.lst xs),I1.laid (t':=s1.toks) (λb u e=>Heap.get?_push_of_some _ e) (Nat.le_refl _) ?_,rfl,q _ hf};exact{z,us,0,r,Heap.get?_push_size _ rfl}
end
abbrev Sp:=List V->Hp->VK->XK->Prop
abbrev CXT:=List Env->Hp->Shared->XK->Value->Shared->Prop
structure Env0(P:Program)(w:World)(K:Frag)(mg:PR)(base:Heap)(A:Around)(outer:List Env)(s:Shared)(H:Hp):Prop where
 frames:A.frames=some outer
 mod:Mod K mg base
 bs:∀b o,base.get? b=some o->s.heap.get? b=some o/\H b=none
 bsz:base.objs.size<=s.heap.objs.size
 funs:s.heap.FunFrames base outer
 frf:∀b∈frs outer,H b=none
 hok:HOk P w H s.heap
 bare:AllBare s.gens
def CE(outer:List Env)(P:Program)(w:World)(H:Hp)(s:Shared)(Q:VK)(u:Value)(s':Shared):Prop:=
 ∃v H',s'.os=s.os/\AllBare s'.gens/\Un (frs outer) [] H H' s.heap s'.heap/\HOk P w H' s'.heap/\qH v u/\Q v H'
def CR(CX:CXT)(outer:List Env)(P:Program)(w:World)(H:Hp)(s:Shared)(Q:VK)(E:XK)(r:Result)(s':Shared):Prop:=
 match r with
 |.ok (.ret u)=>CE outer P w H s Q u s'
 |.ok _=>False
 |.error e=>CX outer H s E e s'
structure FnOk(P:Program)(w:World)(K:Frag)(mg:PR)(base:Heap)(CX:CXT)(k:Nat)(f:Addr)(fd:FuncData)(ps:List Str)(sp:Sp):Prop where
 len:∀vs H Q E,sp vs H Q E->vs.length=ps.length
 run:∀(A:Around) (outer:List Env) (s:Shared) (H:Hp) (args:Args) (us:List Value) (vs:List V) (Q:VK) (E:XK),Room k A->Env0 P w K mg base A outer s H->BindsTo s fd args (ps.zip us)->qB vs us->sp vs H Q E->
  codeAny (model P w) A (.call (.ref f) args) (CR CX outer P w H s Q E) s
def Env0.make{P:Program}{w:World}{K:Frag}{mg:PR}{base:Heap}{A:Around}{outer:List Env}{s:Shared}{H:Hp}(e:Env0 P w K mg base A outer s H)(C:Addr)(us:List Value)(kw:List (Str×Value)) :
  Env0 P w K mg base (A.under (.builtin "type.__call__" ⟨.ref C::us,kw⟩)) outer s H:={by first|exact e.frames|(simpa [Around.under,Code.envs,Code.isFrame,pushEnvs] using e.frames),e.mod,e.bs,e.bsz,e.funs,e.frf,e.hok,e.bare}
section
variable{X:Cx}{pins:PP}{Z:St}{H:Hp}{s s':Shared}
def Inv.env0(I:Inv X pins Z H s):Env0 X.prog X.w X.K X.mg X.base X.A X.stack s H:=
 ⟨I.ok.frames,I.ok.mod,I.bs,Nat.le_trans I.ok.bsz I.sz,I.stack,I.stkFree,I.hok,I.bare⟩
def Inv.after{Q:VK}{u:Value}(I:Inv X pins Z H s)(h:CE X.stack X.prog X.w H s Q u s'):EP X pins Z Q u s':=by let(v,H',os,bare,un,hok,r,q):=h;let(hh,g,d,t,os'):=s';obtain rfl:os'=s.os:=os;exact{v,H',I.call (h':=hh) (g':=g) (d':=d) (t':=t) (ch:=[]) un hok bare (λb z=>absurd z (5:)),r,q}
end
def qcC(sp:Sp)(dvs:List V)(E:XK)(t:TA):TE:=λZ H Q=>t Z H λvs H1=>sp (vs++dvs) H1 Q E
def qh7(C:Addr)(m:Str)(sp:Sp)(dvs:List V)(E:XK)(ta:TE)(t:TA):TE:=λZ H Q=>ta Z H λx H1=>∃a dx fs,x=.ref a/\H1 a=some (.ins C dx fs)/\fs.lookup m=none/\
 t Z H1 λvs H2=>sp (x::(vs++dvs)) H2 Q E
def qh8(C:Addr)(sp:Sp)(dvs:List V)(E:XK)(t:TA):TE:=λZ H Q=>t Z H λvs H1=>∀x dx,H1 x=none->H1 dx=none->dx≠x->
 sp (.ref x::(vs++dvs)) (upd (upd H1 dx (.own x)) x (.ins C dx [])) (λv H2=>v=.non/\Q (.ref x) H2) E
def qX(K:Frag)(fd:FuncData)(ps:List Str)(ds:List Value):Prop:=
 ∀(s:Shared) (us:List Value),K.In s.heap->(us++ds).length=ps.length->BindsTo s fd ⟨us,[]⟩ (ps.zip (us++ds))
def qX.all{K:Frag}{fd:FuncData}{ps:List Str}(h:∀us:List Value,us.length=ps.length->bindArgs fd ⟨us,[]⟩=pure (ps.zip us)):qX K fd ps []:=λs us _ hl=>by rw[List.append_nil]at hl ⊢;exact .of_eq (h us hl)
def jK(CX:CXT)(X:Cx)(E:XK):Prop:=∀(pins:PP) (Z:St) (H:Hp) (s:Shared) (e:Value) (s':Shared),Inv X pins Z H s->CX X.stack H s E e s'->X.xe e s'
section
variable{X:Cx}{CX:CXT}{k:Nat}{f C:Addr}{fd:FuncData}{ps:List Str}{sp:Sp}{dvs:List V}{ds:List Value}{E:XK}{x m:Str}{p pos apos:Pos}{e o:Expr}{es:List Expr}{ta:TE}{t:TA}
theorem Zx{pins:PP}{Z:St}{H:Hp}{s:Shared}{Q:VK}{us:List Value}{vs:List V}(F:FnOk X.prog X.w X.K X.mg X.base CX k f fd ps sp)(hr:Room k X.A)(hb:qX X.K fd ps ds)(hd:qB dvs ds)(hx:jK CX X E)
  (I:Inv X pins Z H s) (r:qB vs us) (h:sp (vs++dvs) H Q E):wpAny (model X.prog X.w) X.A (call (.ref f) us) (EP X pins Z Q) X.xe s:=by
 have r2:qB (vs++dvs) (us++ds):=r.append hd;have hl:(us++ds).length=ps.length:=by rw[<-r2.length];exact F.len _ _ _ _ h
 refine wpAny_call (codeAny_mono (F.run X.A X.stack s H ⟨us,[]⟩ (us++ds) (vs++dvs) Q E hr I.env0 (hb s us I.kIn hl) r2 h) λr s' hq=>?_)
 cases r with
 |error e=>exact hx pins Z H s e s' I hq
 |ok fl=>
  cases fl with
  |ret u=>exact I.after hq
  |next=>exact False.elim hq
  |brk=>exact False.elim hq
  |cont=>exact False.elim hq
def jx(F:FnOk X.prog X.w X.K X.mg X.base CX k f fd ps sp)(hr:Room k X.A)(hg:Gl X x)(hm:X.mg x=some (.ref f))(hk:PySem.W.keepIn X.K (.ref f)=true)(hb:qX X.K fd ps ds)(hd:qB dvs ds)(hx:jK CX X E)
  (ha:PA X (e::es) t) (hdb:(x == ("__debug__" : Str))=false:=by decide) (he:starEach (e::es) X.env=(false,eval e X.env)::starEach es X.env:=by rfl) (hpl:(backTo pos (starEach es X.env)).any (·.1)=false:=by rfl) :
  PE X (.Call (.Name x p) (e::es) [] pos) (qcC sp dvs E t):=by
 intro pins s Z H Q I h;refine wpAny_Call_Name_kw (zZ I hg hm ?_ hdb);refine PySem.W.callWith_K (h₀:=X.base) I.ok.mod.kin hk (thn (ha pos pins s Z H _ I h) λus s1 ⟨vs,H1,I1,r,q⟩=>{I1.kIn,?_}) he hpl;exact Zx F hr hb hd hx I1 r q
def Qu(F:FnOk X.prog X.w X.K X.mg X.base CX k f fd ps sp)(hr:Room k X.A)(hg:Gl X x)(hm:X.mg x=some (.ref f))(hk:PySem.W.keepIn X.K (.ref f)=true)(hb:qX X.K fd ps ds)(hd:qB dvs ds)(hx:jK CX X E)
  (hdb:(x == ("__debug__" : Str))=false:=by decide):PE X (.Call (.Name x p) [] [] pos) (qcC sp dvs E qj3):=by
 intro pins s Z H Q I h;refine wpAny_Call_Name_kw (zZ I hg hm ?_ hdb);exact PySem.W.callWith_K0 I.kIn hk (Zx (us:=[]) F hr hb hd hx I .nil h)
def qh9{pl:Sem Bool}(he:PE X o ta)(c:Cls X.K C)(hm:Meth X.K C m f)(F:FnOk X.prog X.w X.K X.mg X.base CX k f fd ps sp)(hr:Room k X.A)(hb:qX X.K fd ps ds)(hd:qB dvs ds)(hx:jK CX X E)(ha:PA X (e::es) t)
  (hst:starEach (e::es) X.env=(false,eval e X.env)::starEach es X.env:=by rfl) (hpl:(backTo pos (starEach es X.env)).any (·.1)=false:=by rfl)
  (ht:eval (.Call (.Attribute o m apos) (e::es) [] pos) X.env=(do
   let ov<-eval o X.env
   standAt apos.atName
   let (f,first)<-holding [ov] (getMethod ov m pl)
   callWith pos f first (backTo pos (starEach (e::es) X.env)) (backToKw pos (keywordEach [] X.env))):=by rfl) :
  PE X (.Call (.Attribute o m apos) (e::es) [] pos) (qh7 C m sp dvs E ta t):=by
 intro pins s Z H Q I h;refine PySem.W.methodCall_KW (pl:=pl) (thn (he pins s Z H _ I h) λu s1 ⟨x,H1,I1,rx,a,dx,fs,ex,ea,l,q⟩=>?_) ht;subst ex;obtain rfl:u=Value.ref a:=rx;refine Y3 I1 ea c hm l ?_;refine PySem.W.callWith_K (first:=[.ref a]) (h₀:=X.base) I.ok.mod.kin hm.kp (thn (ha pos pins s1 Z H1 _ I1 q) λus s2 ⟨vs,H2,I2,r,q2⟩=>{I2.kIn,?_}) hst hpl;exact Zx (us:=.ref a::us) (vs:=.ref a::vs) F hr hb hd hx I2 (.cons rfl r) q2
def qfH{pl:Sem Bool}(he:PE X o ta)(c:Cls X.K C)(hm:Meth X.K C m f)(F:FnOk X.prog X.w X.K X.mg X.base CX k f fd ps sp)(hr:Room k X.A)(hb:qX X.K fd ps ds)(hd:qB dvs ds)(hx:jK CX X E)
  (ht:eval (.Call (.Attribute o m apos) [] [] pos) X.env=(do
   let ov<-eval o X.env
   standAt apos.atName
   let (f,first)<-holding [ov] (getMethod ov m pl)
   callWith pos f first (backTo pos (starEach [] X.env)) (backToKw pos (keywordEach [] X.env))):=by rfl) :
  PE X (.Call (.Attribute o m apos) [] [] pos) (qh7 C m sp dvs E ta qj3):=by
 intro pins s Z H Q I h;refine PySem.W.methodCall_KW (pl:=pl) (thn (he pins s Z H _ I h) λu s1 ⟨x,H1,I1,rx,a,dx,fs,ex,ea,l,q⟩=>?_) ht;subst ex;obtain rfl:u=Value.ref a:=rx;refine Y3 I1 ea c hm l ?_;exact PySem.W.callWith_K0 (first:=[.ref a]) I1.kIn hm.kp (Zx (us:=[.ref a]) (vs:=[.ref a]) F hr hb hd hx I1 %[rfl|0] q)
structure Mk(K:Frag)(C f:Addr):Prop where
 makes:PySem.W.makesIn K C=true
 init:PySem.W.findIn K (.ref C) "__init__" = some (some (.ref f))
 fn:PySem.W.isFn K (.ref f)=true
 kp:PySem.W.keepIn K (.ref C)=true
theorem qbv{pins:PP}{Z:St}{H:Hp}{s:Shared}{Q:VK}{us:List Value}{vs:List V}(M:Mk X.K C f)(F:FnOk X.prog X.w X.K X.mg X.base CX k f fd ps sp)(hr:Room (k+1) X.A)(hb:qX X.K fd ps ds)(hd:qB dvs ds)
  (hx:jK CX X E) (I:Inv X pins Z H s) (r:qB vs us)
  (h:∀x dx,H x=none->H dx=none->dx≠x->sp (.ref x::(vs++dvs)) (upd (upd H dx (.own x)) x (.ins C dx [])) (λv H2=>v=.non/\Q (.ref x) H2) E) :
  wpAny (model X.prog X.w) X.A (call (.ref C) us) (EP X pins Z Q) X.xe s:=by
 have hq:=h (s.heap.objs.size+1) s.heap.objs.size (I.hok.fresh (Nat.le_succ _)) (I.hok.fresh (Nat.le_refl _)) (Nat.ne_of_lt (Nat.lt_succ_self _));have I2:=Inv.made (C:=C) I;have r2:qB (V.ref (s.heap.objs.size+1)::(vs++dvs)) (Value.ref (s.heap.objs.size+1)::(us++ds)):=.cons rfl (r.append hd)
 have hl:(Value.ref (s.heap.objs.size+1)::us++ds).length=ps.length:=by have e:=r2.length;rw[F.len _ _ _ _ hq]at e;exact e.symm
 refine wpAny_call (qfF (f:=f) I.kIn M.makes M.init (beq_iff_eq.mp M.fn) (codeAny_mono (F.run _ X.stack _ _ ⟨Value.ref (s.heap.objs.size+1)::us,[]⟩ (Value.ref (s.heap.objs.size+1)::(us++ds)) _ _ E (hr.make C us [])
  (I2.env0.make C us []) (hb _ (Value.ref (s.heap.objs.size+1)::us) I2.kIn hl) r2 hq) λr s' hq'=>?_))
 cases r with
 |error e=>exact hx pins Z _ _ e s' I2 hq'
 |ok fl=>
  cases fl with
  |ret u=>let(v,H',I3,rv,ev,q3):=I2.after hq';subst ev;exact{rv,{V.ref (s.heap.objs.size+1),H',I3,rfl,q3}}
  |next=>exact False.elim hq'
  |brk=>exact False.elim hq'
  |cont=>exact False.elim hq'
def qia(M:Mk X.K C f)(F:FnOk X.prog X.w X.K X.mg X.base CX k f fd ps sp)(hr:Room (k+1) X.A)(hg:Gl X x)(hm:X.mg x=some (.ref C))(hb:qX X.K fd ps ds)(hd:qB dvs ds)(hx:jK CX X E)
  (ha:PA X (e::es) t) (hdb:(x == ("__debug__" : Str))=false:=by decide) (he:starEach (e::es) X.env=(false,eval e X.env)::starEach es X.env:=by rfl) (hpl:(backTo pos (starEach es X.env)).any (·.1)=false:=by rfl) :
  PE X (.Call (.Name x p) (e::es) [] pos) (qh8 C sp dvs E t):=by
 intro pins s Z H Q I h;refine wpAny_Call_Name_kw (zZ I hg hm ?_ hdb);refine PySem.W.callWith_K (h₀:=X.base) I.ok.mod.kin M.kp (thn (ha pos pins s Z H _ I h) λus s1 ⟨vs,H1,I1,r,q⟩=>{I1.kIn,?_}) he hpl;exact qbv M F hr hb hd hx I1 r q
def qfI(M:Mk X.K C f)(F:FnOk X.prog X.w X.K X.mg X.base CX k f fd ps sp)(hr:Room (k+1) X.A)(hg:Gl X x)(hm:X.mg x=some (.ref C))(hb:qX X.K fd ps ds)(hd:qB dvs ds)(hx:jK CX X E)
  (hdb:(x == ("__debug__" : Str))=false:=by decide):PE X (.Call (.Name x p) [] [] pos) (qh8 C sp dvs E qj3):=by
 intro pins s Z H Q I h;refine wpAny_Call_Name_kw (zZ I hg hm ?_ hdb);exact PySem.W.callWith_K0 I.kIn M.kp (qbv (us:=[]) M F hr hb hd hx I .nil h)
end
structure FnScope(N P:List Str)(sc:Scope):Prop where
 kind:sc.kind=.function
 co:sc.isCoroutine=false
 gen:sc.isGenerator=false
 nd:N.Nodup
 pre:N.take P.length=P
 par:∀x∈P,sc.names.lookup x=some .local\/sc.names.lookup x=some .cell
 nofree:∀y∈sc.names,y.2≠.free
theorem Zy{kindOf:Str->Option NameKind}{x:Str}:∀{binds:List (Str×Value)} {m:PR},(∀v,(x,v)∉binds)->bindL kindOf binds m x=m x
 |[],_,_=>rfl
 | (n,v)::r,m,h=>by
  unfold bindL;rw[Zy λw hw=>h w (List.mem_cons_of_mem _ hw)];split
  ·have:x≠n:=by rintro rfl;exact h v List.mem_cons_self
   simp[this]
  ·rfl
theorem Zz{kindOf:Str->Option NameKind}{x:Str}:∀{binds:List (Str×Value)} {m:PR},(∀v,(x,v)∉binds)->bindC kindOf binds m x=m x
 |[],_,_=>rfl
 | (n,v)::r,m,h=>by
  unfold bindC;rw[Zz λw hw=>h w (List.mem_cons_of_mem _ hw)];split
  ·rfl
  ·have:x≠n:=by rintro rfl;exact h v List.mem_cons_self
   simp[this]
theorem ZB{kindOf:Str->Option NameKind}{x:Str}{v:Value}:∀{P:List Str} {vs:List Value} {i:Nat} {m:PR},P.Nodup->P[i]?=some x->vs[i]?=some v->kindOf x=some .local->
  bindL kindOf (P.zip vs) m x=some v
 |[],_,_,_,_,h,_,_=>by simp at h
 | _::_,[],_,_,_,_,h,_=>by simp at h
 | p::P,w::vs,0,m,nd,h1,h2,hk=>by simp at h1 h2;subst h1;subst h2;show bindL kindOf ((p,w)::P.zip vs) m p=_;unfold bindL;rw[Zy λv hv=>(List.nodup_cons.mp nd).1 (List.of_mem_zip hv).1,if_pos hk];simp
 | p::P,w::vs,i+1,m,nd,h1,h2,hk=>by show bindL kindOf ((p,w)::P.zip vs) m x=_;unfold bindL;exact ZB (i:=i) (List.nodup_cons.mp nd).2 (-h1:) (-h2:) hk
theorem ZC{kindOf:Str->Option NameKind}{x:Str}{v:Value}:∀{P:List Str} {vs:List Value} {i:Nat} {m:PR},P.Nodup->P[i]?=some x->vs[i]?=some v->kindOf x≠some .local->
  bindC kindOf (P.zip vs) m x=some v
 |[],_,_,_,_,h,_,_=>by simp at h
 | _::_,[],_,_,_,_,h,_=>by simp at h
 | p::P,w::vs,0,m,nd,h1,h2,hk=>by simp at h1 h2;subst h1;subst h2;show bindC kindOf ((p,w)::P.zip vs) m p=_;unfold bindC;rw[Zz λv hv=>(List.nodup_cons.mp nd).1 (List.of_mem_zip hv).1,if_neg hk];simp
 | p::P,w::vs,i+1,m,nd,h1,h2,hk=>by show bindC kindOf ((p,w)::P.zip vs) m x=_;unfold bindC;exact ZC (i:=i) (List.nodup_cons.mp nd).2 (-h1:) (-h2:) hk
def JS(N:List Str)(vs:List V):St:=vs.map some++List.replicate (N.length - vs.length) none
def qbw(CX:CXT)(P:Program)(w:World)(K:Frag)(mg:PR)(base:Heap)(N:List Str)(qual:Str)(scope:Scope)(f:Addr)(cd:Value)(A:Around)(outer:List Env)(s:Shared)(H:Hp)(E:XK):Cx where
 prog:=P
 w:=w
 K:=K
 mg:=mg
 base:=base
 A:=A.deeper (envOfC qual scope s.heap.objs.size f cd)
 N:=N
 s₀:=s
 Hv:=H
 env:=envOfC qual scope s.heap.objs.size f cd
 outer:=outer
 stack:=envOfC qual scope s.heap.objs.size f cd::outer
 ex:=[]
 calm:=true
 fn:=λ_=>true
 pn:=[]
 xe:=λe s'=>wpAny (model P w) (A.deeper (envOfC qual scope s.heap.objs.size f cd)) (leaving (envOfC qual scope s.heap.objs.size f cd) e) (λ_ s''=>CX outer H s E e s'') (λe' s''=>CX outer H s E e' s'') s'
def qbx{sc:Scope}{n:Nat}{x:Str}(h:sc.names.lookup x=some .cell):∃c,(cellsFrom n sc.names []).lookup x=some c:=by have q:=PySem.W.cellsFrom_some sc.names n [] (.inl h);exact Option.isSome_iff_exists.mp q
def qdB{CX:CXT}{P:Program}{w:World}{K:Frag}{mg:PR}{base:Heap}{N ps:List Str}{qual:Str}{scope:Scope}{f:Addr}{cd:Value}{A:Around}{outer:List Env}{s s1:Shared}{H:Hp}{E:XK}{us:List Value}{vs:List V}
  (S:FnScope N ps scope) (hd:A.handled=none) (e0:Env0 P w K mg base A outer s H) (hl:vs.length=ps.length) (r:qB vs us)
  (x:InCallC s s.heap.objs.size (bindL (envOfC qual scope s.heap.objs.size f cd).kindOf (ps.zip us) λ_=>none) (cellsFrom (s.heap.objs.size+1) scope.names []) (bindC (envOfC qual scope s.heap.objs.size f cd).kindOf (ps.zip us) λ_=>none) s1) :
  Inv (qbw CX P w K mg base N qual scope f cd A outer s H E) [] (JS N vs) H s1:=by
 have hpl:ps.length<=N.length:=by have:=congrArg List.length S.pre;rw[List.length_take]at this;lia
 let(h1,tk,rfl,hk):=x.done;have noA:∀b:Addr,b∉(qbw CX P w K mg base N qual scope f cd A outer s H E).ex:=λb z=>absurd (show b∈([]:List Addr) from z) (5:)
 refine{{e0.mod,S.kind,rfl,rfl,Nat.le_refl _,λy z c h1 h2=>?_,λy hy=>?_,λy c _ h=>?_,λ_=>hd,Around.frames_deeper e0.frames,.inr ⟨rfl,rfl⟩,λb z=>absurd z (noA b),e0.bs,e0.bsz,λb _ _=>noA b,λb z=>absurd z (noA b),e0.funs,e0.frf},
  rfl,e0.bare,Un.kept hk,{_,x.toInCall.ns,λi y v h1 h2 h3=>?_},λy c h=>{_,x.cell y c h},e0.hok.fresh (Nat.le_refl _),λy c h=>?_,λp hp=>absurd (show p∈([]:PP) from hp) (5:),e0.hok.kept hk,?_}
 ·exact name_of_addr x.apart (PySem.mem_of_lookup h1) (PySem.mem_of_lookup h2)
 ·have hy:scope.names.lookup y=some .cell\/scope.names.lookup y=some .free:=hy;rcases hy with hy|hy
  ·exact qbx hy
  ·exact absurd rfl (S.nofree _ (PySem.mem_of_lookup hy))
 ·exact Nat.le_of_lt (x.above y c (PySem.mem_of_lookup h))
 ·have hi:i < vs.length:=by
   unfold JS at h2
   by_cases hi:i < vs.length
   ·exact hi
   ·rw[List.getElem?_append_right (-hi:)]at h2;rw[List.getElem?_replicate]at h2
    split at h2<;>cases h2
  have ha:vs[i]?=some v:=by
   unfold JS at h2;rw[List.getElem?_append_left (-hi:),List.getElem?_map]at h2
   cases e:vs[i]? with
   |none=>rw[e]at h2;cases h2
   |some a=>rw[e]at h2;cases h2;rfl
  let(u,hu,rv):=r.get ha
  have hp:ps[i]?=some y:=by rw[<-S.pre,List.getElem?_take_of_lt (1:)];exact h1
  have ndP:ps.Nodup:=by rw[<-S.pre];exact S.nd.sublist (List.take_sublist _ _)
  refine{u,rv,?_};rcases S.par y (List.mem_of_getElem? hp) with k|k
  ·exact .inl ⟨k,ZB ndP hp hu k⟩
  ·let(c,e):=qbx (n:=s.heap.objs.size+1) k;refine .inr ⟨.inl k,c,e,?_⟩;have q:=x.cell y c e;rw[ZC ndP hp hu (by show scope.names.lookup y≠_;rw[k];decide)]at q;exact q
 ·exact e0.hok.fresh (Nat.le_of_lt (x.above y c (PySem.mem_of_lookup h)))
 ·unfold JS;show _=N.length;rw[List.length_append,List.length_map,List.length_replicate]
  lia
theorem qkC{CX:CXT}{P:Program}{w:World}{K:Frag}{mg:PR}{base:Heap}{k:Nat}{f:Addr}{name qual:Str}{params:Arguments}{body:List Stmt}{scope:Scope}{dV kV doc pm cdv ct oc:Value}{an od:Option Addr}
  {osl:Array (Option Value)} {N ps:List Str} {sp:Sp} (lk:K.lookup f=some ⟨oc,od,.func (PySem.W.fnOf name qual params body scope dV kV doc pm an cdv ct),osl⟩) (hcd:PySem.W.codeIn K cdv qual=true) (S:FnScope N ps scope)
  (len:∀vs H Q E,sp vs H Q E->vs.length=ps.length)
  (hbody:∀(A:Around) (outer:List Env) (s:Shared) (H:Hp) (vs:List V) (Q:VK) (E:XK),Room k (A.deeper (envOfC qual scope s.heap.objs.size f cdv))->sp vs H Q E->
   ∃t,PSs (qbw CX P w K mg base N qual scope f cdv A outer s H E) body t/\t { nx:=λ_ H'=>Q .non H',rt:=Q } (JS N vs) H) :
  FnOk P w K mg base CX (k+1) f (PySem.W.fnOf name qual params body scope dV kV doc pm an cdv ct) ps sp:=by
 refine{len,λA outer s H args us vs Q E hr e0 hb r hsp=>?_};have hl:=len _ _ _ _ hsp;have KX:K.In s.heap:=e0.mod.kin.keeps λb o e=>(e0.bs b o e).1;have lim:s.heap.NoLimit:=e0.mod.nolimit.keeps λb o e=>(e0.bs b o e).1
 have hkind:∀y∈ps.zip us,scope.names.lookup y.1=some .local\/(scope.names.lookup y.1=some .cell/\((cellsFrom (s.heap.objs.size+1) scope.names []).lookup y.1).isSome=true):=λ⟨n,v⟩ hy=>by
  rcases S.par n (List.of_mem_zip hy).1 with q|q
  ·exact .inl q
  ·exact .inr ⟨q,PySem.W.cellsFrom_some _ _ _ (.inl q)⟩
 refine codeAny_call_function hr.depth (KX _ _ lk) rfl S.co S.gen rfl (PySem.W.codeRec_of KX hcd) (hb _ _ _ _ ?_);refine wpAny_newFunctionEnv_cells S.kind hkind λenv he s1 x=>?_;subst he;refine{lim.keeps x.toInCall.keep,codeAny_func ?_};let(t,ht,hq):=hbody A outer s H vs Q E (hr.deeper _) hsp;have I:Inv (qbw CX P w K mg base N qual scope f cdv A outer s H E) [] (JS N vs) H s1:=qdB S hr.hd e0 hl r x;refine wpAny_mono (ht [] s1 (JS N vs) H _ I hq) (λfl s' hs=>?_) λe s' hs=>hs
 have fin:∀{Z':St} {H':Hp} {v:V} {u:Value},Inv (qbw CX P w K mg base N qual scope f cdv A outer s H E) [] Z' H' s'->qH v u->Q v H'->CE outer P w H s Q u s':=
  λ{Z' H' v u} J rv q=>⟨v,H',J.os,J.bare,J.base,J.hok,rv,q⟩
 cases fl with
 |ret u=>let(v,Z',H',J,rv,q):=hs;exact fin J rv q
 |next=>let(Z',H',J,q):=hs;exact fin (v:=V.non) (u:=Value.none) J rfl q
 |brk=>let(_,_,_,q):=hs;exact False.elim q
 |cont=>let(_,_,_,q):=hs;exact False.elim q
section
variable{X:Cx}{x:Str}{p pos:Pos}{e:Expr}{es:List Expr}{t:TA}{id T:String}{r:List V->Hp->VK->Prop}
def tCB(r:List V->Hp->VK->Prop)(t:TA):TE:=λZ H Q=>t Z H λvs H1=>r vs H1 Q
def qT(hc:qW X (.builtin id) r)(hg:Gl X x)(hm:X.mg x=none)(hv:bootBuiltins x=some (.builtin id))(ha:PA X (e::es) t)(hn:x≠"__name__":=by decide)(hdb:(x == ("__debug__" : Str))=false:=by decide)
  (he:starEach (e::es) X.env=(false,eval e X.env)::starEach es X.env:=by rfl) (hpl:(backTo pos (starEach es X.env)).any (·.1)=false:=by rfl):PE X (.Call (.Name x p) (e::es) [] pos) (tCB r t):=by
 intro pins s Z H Q I h;refine wpAny_Call_Name_kw (JG I hg hm hv ?_ hn hdb);exact PyProof.Rows.callWith_builtin1 (thn (ha pos pins s Z H _ I h) λus s1 ⟨vs,H1,I1,r1,q1⟩=>hc pins s1 Z H1 vs us Q I1 r1 q1) he hpl
def zf(hc:qW X (.type T) r)(hg:Gl X x)(hm:X.mg x=none)(hv:bootBuiltins x=some (.type T))(ha:PA X (e::es) t)(hn:x≠"__name__":=by decide)(hdb:(x == ("__debug__" : Str))=false:=by decide)
  (he:starEach (e::es) X.env=(false,eval e X.env)::starEach es X.env:=by rfl) (hpl:(backTo pos (starEach es X.env)).any (·.1)=false:=by rfl):PE X (.Call (.Name x p) (e::es) [] pos) (tCB r t):=by
 intro pins s Z H Q I h;refine wpAny_Call_Name_kw (JG I hg hm hv ?_ hn hdb);exact PyProof.Rows.callWith_type1 (thn (ha pos pins s Z H _ I h) λus s1 ⟨vs,H1,I1,r1,q1⟩=>hc pins s1 Z H1 vs us Q I1 r1 q1) he hpl
end
end L2
namespace HT
open PySem PyProof.Rows
section
variable{prog:Program}{w:World}{A:Around}{E:PQ}{s:Shared}
def sIx(n d:Nat):Option Int->Nat
 |none=>d
 |some v=>if v < 0 then (v+(n:Int)).toNat else min v.toNat n
def qby(n d:Nat):sIx n d none=d:=rfl
def Qv(n d k:Nat):sIx n d (some (k:Int))=min k n:=by show(if (k:Int) < 0 then ((k:Int)+(n:Int)).toNat else min (k:Int).toNat n)=min k n;rw[if_neg (1:),Int.toNat_natCast]
end
end HT
namespace L2
open PySem PySem.Spec PyProof.Rows
abbrev TO:=St->Hp->(Option Int->Hp->Prop)->Prop
def PO(X:Cx)(e:Option Expr)(t:TO):Prop:=
 ∀(pins:PP) (s:Shared) (Z:St) (H:Hp) (Q:Option Int->Hp->Prop),Inv X pins Z H s->t Z H Q->
  wpAny (model X.prog X.w) X.A (evalPart e X.env) (λu s'=>∃o H',Inv X pins Z H' s'/\IsPart u o/\Q o H') X.xe s
def qib:TO:=λ_ H Q=>Q none H
def qnR(t:TE):TO:=λZ H Q=>t Z H λx H1=>∃i,x=.int i/\Q (some i) H1
section
variable{X:Cx}{e:Expr}{te:TE}{lo hi:Option Expr}{tl th:TO}{pos p2:Pos}
def qaO:PO X none qib:=by intro pins s Z H Q I h;rw[evalPart_none];exact wpAny_pure ⟨none,H,I,.none,h⟩
def qic(h:PE X e te):PO X (some e) (qnR te):=by intro pins s Z H Q I hw;rw[evalPart_some];refine thn (h pins s Z H _ I hw) λu s1 hq1=>?_;let(x,H1,I1,r1,q1):=hq1;let(i,rfl,q):=q1;let(t,rfl):=r1;exact{some i,H1,I1,.int i t,q}
def SlR(X:Cx)(r:V->Option Int->Option Int->Hp->VK->Prop):Prop:=
 ∀(pins:PP) (s:Shared) (Z:St) (H:Hp) (x:V) (v vl vu:Value) (lo hi:Option Int) (sl:Addr) (Q:VK),Inv X pins Z H s->qH x v->s.heap.IsSliceOf sl vl vu .none->IsPart vl lo->IsPart vu hi->r x lo hi H Q->
  ∃T id,typeLookup (.type T) "__getitem__" = pure (some (.builtin id))/\s.TypeIs v T/\wpAny (model X.prog X.w) X.A (getItem v (.ref sl)) (EP X pins Z Q) X.xe s
def tSl(r:V->Option Int->Option Int->Hp->VK->Prop)(te:TE)(tl th:TO):TE:=λZ H Q=>te Z H λx H1=>tl Z H1 λl H2=>th Z H2 λu H3=>r x l u H3 Q
def qfJ{r:V->Option Int->Option Int->Hp->VK->Prop}(hr:SlR X r)(he:PE X e te)(hl:PO X lo tl)(hu:PO X hi th):PE X (.Subscript e (.Slice lo hi none p2) pos) (tSl r te tl th):=by intro pins s Z H Q I h;refine Subscript_ (thn (he pins s Z H _ I h) λv s1 hq1=>?_);let(x,H1,I1,r1,q1):=hq1;refine wpAny_Slice (thn (hl pins s1 Z H1 _ I1 q1) λvl s2 ⟨l,H2,I2,pl,q2⟩=>thn (hu pins s2 Z H2 _ I2 q2) λvu s3 hq1=>?_);let(u,H3,I3,pu,q3):=hq1;rw[evalPart_none];refine wpAny_pure ?_;have I4:Inv X pins Z H3 { s3 with heap:=s3.heap.push { cls:=.type "slice",data:=.fields #[vl,vu,.none] } }:=I3.kept (t':=s3.toks) λb ob q=>Heap.get?_push_of_some _ q;let(T,id,hT,ht,hg):=hr pins { s3 with heap:=s3.heap.push { cls:=.type "slice",data:=.fields #[vl,vu,.none] } } Z H3 x v vl vu l u s3.heap.objs.size Q I4 r1 (Heap.IsSliceOf.new ..) pl pu q3;show wpAny (model X.prog X.w) X.A (subscriptTail e (.Slice lo hi none p2) v (.ref s3.heap.objs.size)) (EP X pins Z Q) X.xe { s3 with heap:=s3.heap.push { cls:=.type "slice",data:=.fields #[vl,vu,.none] } };exact tail_any (ops:=[.ref s3.heap.objs.size,v]) ht hT hg (by with_unfolding_all rfl)
def qj4(xs:List V)(lo hi:Option Int):List V:=(xs.drop (HT.sIx xs.length 0 lo)).take (HT.sIx xs.length xs.length hi - HT.sIx xs.length 0 lo)
def qaP(xs:List V)(lo hi:Option Int):(qj4 xs lo hi).length<=xs.length:=by
 unfold qj4;rw[List.length_take,List.length_drop]
 lia
end
def ixN(n:Nat)(i:Int):Option Nat:=if 0<=i then (if i < n then some i.toNat else none) else if -(n:Int)<=i then some (i+n).toNat else none
def atI{α:Type}(xs:List α)(i:Int):Option α:=(ixN xs.length i).bind λj=>xs[j]?
def qdC{n:Nat}{i:Int}{j:Nat}(h:ixN n i=some j):seqIndex? i n=some j/\j < n/\-(n:Int)<=i/\i < n:=by
 unfold ixN at h
 by_cases h0:0<=i
 ·rw[if_pos h0]at h
  by_cases h1:i < n
  ·rw[if_pos h1]at h;have e:i.toNat=j:=Option.some.inj h;exact{by rw[seqIndex_of h0 h1,e],by lia,by lia,h1}
  ·rw[if_neg h1]at h;cases h
 ·rw[if_neg h0]at h
  by_cases h1:-(n:Int)<=i
  ·rw[if_pos h1]at h;have e:(i+n).toNat=j:=Option.some.inj h;exact{by rw[seqIndex_neg (1:) h1,e],by lia,h1,by lia}
  ·rw[if_neg h1]at h;cases h
theorem qaQ{α:Type}{xs:List α}{i:Int}{v:α}(h:atI xs i=some v):∃j,seqIndex? i xs.length=some j/\xs[j]?=some v/\j < xs.length/\-(xs.length:Int)<=i/\i < xs.length:=by
 unfold atI at h
 cases e:ixN xs.length i with
 |none=>rw[e]at h;cases h
 |some j=>rw[e]at h;let(h1,h2,h3,h4):=qdC e;exact⟨j,h1,h,h2,h3,h4⟩
def qfK{α:Type}(xs:List α)(v:α):atI (xs++[v]) (-1)=some v:=by
 have hl:(xs++[v]).length=xs.length+1:=by simp
 have e:ixN (xs++[v]).length (-1)=some xs.length:=by
  unfold ixN;rw[hl,if_neg (2:),if_pos (1:)]
  congr 1
  lia
 unfold atI;rw[e];show(xs++[v])[xs.length]?=some v;simp
def qdD(b:Expr):Prop:=∀o i,subscripted b false o i=operate [o,i] (getItem o i)
def IxR(X:Cx)(r:R2):Prop:=
 ∀(value slice:Expr) (pins:PP) (s:Shared) (Z:St) (H:Hp) (x y:V) (v u:Value) (Q:VK),Inv X pins Z H s->qH x v->qH y u->r x y H Q->
  subscripted slice false v u=operate [v,u] (getItem v u)->wpAny (model X.prog X.w) X.A (subscriptTail value slice v u) (EP X pins Z Q) X.xe s
def MtR(X:Cx)(id:String)(r:V->List V->Hp->VK->Prop):Prop:=
 ∀(pins:PP) (s:Shared) (Z:St) (H:Hp) (x:V) (xs:List V) (v:Value) (us:List Value) (Q:VK),Inv X pins Z H s->qH x v->qB xs us->r x xs H Q->
  wpAny (model X.prog X.w) X.A (call (.builtin id) (v::us)) (EP X pins Z Q) X.xe s
section
variable{X:Cx}{a b:Expr}{ta tb:TE}{pos:Pos}
def qnS{r:R2}(hr:IxR X r)(ha:PE X a ta)(hb:PE X b tb)(hs:qdD b):PE X (.Subscript a b pos) (tOp r ta tb):=by intro pins s Z H Q I h;exact Subscript_ (qnK ha hb I h λv u s2 x y H2 I2 rx ry q=>hr a b pins s2 Z H2 x y v u Q I2 rx ry q (hs _ _))
def qpF(K:Frag):R2:=λx y H Q=>∃p xs i v,x=.ref p/\y=.int i/\SqL K H p xs/\atI xs i=some v/\Q v H
def qpG(K:Frag):R2:=λx y H Q=>∃p xs i v,x=.ref p/\y=.int i/\SqT K H p xs/\atI xs i=some v/\Q v H
def qpH:R2:=λx y H Q=>∃z i c,x=.str z/\y=.int i/\z.length<=sizeLine/\atI z.cps.toList i=some c/\Q (.str ⟨#[c]⟩) H
def qid:IxR X (qpF X.K):=by
 intro value slice pins s Z H x y v u Q I rx ry h hs;let(p,xs,i,z,rfl,rfl,hq,he,q):=h;cases rx;let(t,rfl):=ry;let(its,r,pl,hz):=I.list hq;let(j,h1,h2,h3,h4,h5):=qaQ he;let(w,ew,rw'):=r.get h2;have hl:=r.length;have hn:=J7;have fin:EP X pins Z Q w s:=⟨z,H,I,rw',q⟩
 by_cases h0:0<=i
 ·have hj:i.toNat=j:=by
   rw[seqIndex_of h0 h5]at h1;exact Option.some.inj h1
  exact item_listR pl.isList h0 (1:) (by rw[hj];simpa using ew) fin hs
 ·have hj:(i+(its.toArray.size:Int)).toNat=j:=by
   rw[seqIndex_neg (1:) h4]at h1;rw[List.size_toArray,<-hl];exact Option.some.inj h1
  exact subscriptTail_builtinR (x:=w) pl.isList.typeIs slot_list_getitem.lookup
   (wpAny_getItem_list_neg (Q:=λr s'=>r=w/\EP X pins Z Q r s') pl.isList (1:) (by rw[List.size_toArray]<;>lia) (1:) (by rw[hj];simpa using ew) ⟨rfl,fin⟩) hs
def qkD:IxR X (qpG X.K):=by
 intro value slice pins s Z H x y v u Q I rx ry h hs;let(p,xs,i,z,rfl,rfl,hq,he,q):=h;cases rx;let(t,rfl):=ry;let(its,r,pl,hz):=I.tuple hq;let(j,h1,h2,h3,h4,h5):=qaQ he;let(w,ew,rw'):=r.get h2;have hl:=r.length;have hn:=J7;have fin:EP X pins Z Q w s:=⟨z,H,I,rw',q⟩
 exact subscriptTail_builtinR (x:=w) pl.typeIs slot_tuple_getitem.lookup
  (getItem_tuple (j:=j) (Q:=λr s'=>r=w/\EP X pins Z Q r s') pl (1:) (1:) (by rw[List.size_toArray,<-hl];exact h1) (-ew:) ⟨rfl,fin⟩) hs
def qkE:IxR X qpH:=by
 intro value slice pins s Z H x y v u Q I rx ry h hs;let(z,i,c,rfl,rfl,hz,he,q):=h;let(t,rfl):=rx;let(t',rfl):=ry;let(j,h1,h2,h3,h4,h5):=qaQ he;have hl:z.cps.toList.length=z.length:=by simp[Str.length]
 rw[hl]at h1 h4 h5;have hn:=J7
 exact tail_any (typeIs_str s z t) slot_str_getitem.lookup (getItem_str (c:=c) (by have e1:decide (i < -(2 ^ 63:Int))=false:=decide_eq_false (1:);have e2:decide (i≥2 ^ 63)=false:=decide_eq_false (1:);rw[e1,e2,Bool.or_false]) (by rw[h1];simpa using h2) ⟨.str ⟨#[c]⟩,H,I.tok _,⟨_,rfl⟩,q⟩) hs
def qcD(its:List Value)(n j:Nat)(u:Value):Obj.mapSeq (·.setIfInBounds j u) { cls:=.type "list",data:=.seq its.toArray n }={ cls:=.type "list",data:=.seq (its.set j u).toArray n }:=by simp[Obj.mapSeq]
def Inv.lst{pins:PP}{Z:St}{H:Hp}{s:Shared}{p:Addr}{xs:List V}(I:Inv X pins Z H s)(h:H p=some (.lst xs)) :
  ∃(its:List Value) (n:Nat),qB xs its/\s.heap.get? p=some { cls:=.type "list",data:=.seq its.toArray n }/\xs.length<=sizeLine:=by
 let(z,its,n,r,e):=I.hok p _ h;exact⟨its,n,r,e,z⟩
def Inv.lstUpd{pins:PP}{Z:St}{H:Hp}{s:Shared}{p:Addr}{xs ys:List V}{its its':List Value}{n n':Nat}{f:Obj->Obj}(I:Inv X pins Z H s)(h:H p=some (.lst xs))
  (ho:s.heap.get? p=some { cls:=.type "list",data:=.seq its.toArray n }) (hf:f { cls:=.type "list",data:=.seq its.toArray n }={ cls:=.type "list",data:=.seq its'.toArray n' }) (r:qB ys its') (hz:ys.length<=sizeLine) (t:Nat) :
  Inv X pins Z (upd H p (.lst ys)) { s with heap:=s.heap.update p f,toks:=t }:=by
 have e:(s.heap.update p f).get? p=some { cls:=.type "list",data:=.seq its'.toArray n' }:=by rw[Heap.get?_update_self f ho (by rw[hf]<;>rfl),hf]
 refine I.write (x:=p) (e:=p) (by rw[h];trivial) (.inl rfl) (λb u hb q=>(Heap.get?_update_other _ _ (Ne.symm hb)).trans q) ⟨_,e⟩ ?_;exact⟨hz,its',n',r,e⟩
def qnT:V->V->V->Hp->(Hp->Prop)->Prop:=λo i v H Q=>∃p xs k j,o=.ref p/\i=.int k/\H p=some (.lst xs)/\ixN xs.length k=some j/\Q (upd H p (.lst (xs.set j v)))
def qfL:qoT X qnT:=by
 intro pins s Z H o i v ov iv u Q I ro ri rv h;let(p,xs,k,j,rfl,rfl,hp,hj,q):=h;cases ro;let(t,rfl):=ri;let(its,n,r,ho,hz):=I.lst hp;let(h1,h2,h3,h4):=qdC hj;have hl:=r.length;have hn:=J7
 have I':Inv X pins Z (upd H p (.lst (xs.set j v))) { s with heap:=s.heap.update p (Obj.mapSeq (·.setIfInBounds j u)) }:=
  I.lstUpd hp ho (qcD its n j u) (r.set rv j) (by rw[List.length_set];exact hz) s.toks
 by_cases h0:0<=k
 ·have hk:k.toNat=j:=by
   rw[seqIndex_of h0 h4]at h1;exact Option.some.inj h1
  exact PySem.W.ki_setAt ho h0 (1:) (by rw[List.size_toArray,<-hl];exact h4) (by rw[hk];exact{_,I',q})
 ·have hk:(k+(its.toArray.size:Int)).toNat=j:=by
   rw[seqIndex_neg (1:) h3]at h1;rw[List.size_toArray,<-hl];exact Option.some.inj h1
  exact PySem.W.ki_setBack ho (1:) (by rw[List.size_toArray,<-hl];exact h3) (1:) (by rw[hk];exact{_,I',q})
def ZD(lo hi:Option Int)(n:Nat):(sliceBounds lo hi none n).1=((HT.sIx n 0 lo:Nat):Int)/\(sliceBounds lo hi none n).2.1=((HT.sIx n n hi:Nat):Int)/\(sliceBounds lo hi none n).2.2=1:=by
 refine{?_,?_,rfl}
 ·cases lo with
  |none=>simp[sliceBounds,HT.sIx]
  |some i=>
   simp![sliceBounds,HT.sIx,Option.getD_none,show(1:Int) > 0 by decide,if_true]
   by_cases h:i < 0
   ·simp![h,if_true]<;>lia
   ·simp![h,if_false]<;>lia
 ·cases hi with
  |none=>simp[sliceBounds,HT.sIx]
  |some i=>
   simp![sliceBounds,HT.sIx,Option.getD_none,show(1:Int) > 0 by decide,if_true]
   by_cases h:i < 0
   ·simp![h,if_true]<;>lia
   ·simp![h,if_false]<;>lia
def Qw(its:List Value)(lo hi:Option Int):slicePick its.toArray lo hi none=((its.drop (HT.sIx its.length 0 lo)).take (HT.sIx its.length its.length hi - HT.sIx its.length 0 lo)).toArray:=by let(h1,h2,h3):=ZD lo hi its.toArray.size;unfold slicePick;rw[h1,h2,h3];simp![sliceRange_one,pick_run,List.size_toArray]<;>rfl
def qpI(K:Frag):V->Option Int->Option Int->Hp->VK->Prop:=λx lo hi H Q=>∃a xs,x=.ref a/\SqL K H a xs/\∀p,H p=none->Q (.ref p) (upd H p (.lst (qj4 xs lo hi)))
def qie:SlR X (qpI X.K):=by intro pins s Z H x v vl vu lo hi sl Q I rx hs pl pu h;let(a,xs,rfl,hx,q):=h;cases rx;let(its,r,ht,hz):=I.list hx;have hlen:=r.length;refine{"list",_,slot_list_getitem.lookup,ht.isList.typeIs,?_};refine wpAny_getItem_list_slice ht.isList hs pl pu .none (5:) ?_ (by rw[List.size_toArray]<;>lia);rw[Qw,<-hlen];refine{.ref s.heap.objs.size,_,I.laid (t':=s.toks) (o:=.lst (qj4 xs lo hi)) (λb ob q=>Heap.get?_push_of_some _ q) (Nat.le_refl _) ?_,rfl,q _ (I.hok.fresh (Nat.le_refl _))};exact{Nat.le_trans (qaP xs lo hi) hz,_,0,(r.drop (HT.sIx xs.length 0 lo)).take (HT.sIx xs.length xs.length hi - HT.sIx xs.length 0 lo),Heap.get?_push_size _ rfl}
def Yc:V->Bool
 |.non=>true
 |.bl _=>true
 |.int _=>true
 |.str _=>true
 |_=>false
def eqV:V->V->Bool
 |.non,.non=>true
 |.bl a,.bl b=>a == b
 |.bl a,.int b=>(if a then 1 else 0) == b
 |.int a,.bl b=>a == (if b then 1 else 0)
 |.int a,.int b=>a == b
 |.str a,.str b=>a == b
 |_,_=>false
theorem qkF{A:Around}{s:Shared}{y x:V}{u v:Value}(ry:qH y u)(rx:qH x v)(fy:Yc y=true)(fx:Yc x=true):SeqAt.EqAt A s u v (eqV y x):=by
 cases y with
 |non=>
  cases ry
  cases x with
  |non=>cases rx;exact SeqAt.EqAt.same _
  |bl b=>cases rx;exact SeqAt.EqAt.none_bool b
  |int b=>let(t,rfl):=rx;exact SeqAt.EqAt.none_int b t
  |str b=>let(t,rfl):=rx;exact SeqAt.EqAt.none_str b t
  |_=>exact absurd (show false=true from fx) Bool.false_ne_true
 |bl a=>
  cases ry
  cases x with
  |non=>cases rx;exact SeqAt.EqAt.bool_none a
  |bl b=>cases rx;exact SeqAt.EqAt.bool_bool a b
  |int b=>let(t,rfl):=rx;exact SeqAt.EqAt.bool_int a b t
  |str b=>let(t,rfl):=rx;exact SeqAt.EqAt.bool_str a b t
  |_=>exact absurd (show false=true from fx) Bool.false_ne_true
 |int a=>
  let(t',rfl):=ry
  cases x with
  |non=>cases rx;exact SeqAt.EqAt.int_none a t'
  |bl b=>cases rx;exact SeqAt.EqAt.int_bool a t' b
  |int b=>let(t,rfl):=rx;exact SeqAt.EqAt.int_int a t' b t
  |str b=>let(t,rfl):=rx;exact SeqAt.EqAt.int_str a t' b t
  |_=>exact absurd (show false=true from fx) Bool.false_ne_true
 |str a=>
  let(t',rfl):=ry
  cases x with
  |non=>cases rx;exact SeqAt.EqAt.str_none a t'
  |bl b=>cases rx;exact SeqAt.EqAt.str_bool a t' b
  |int b=>let(t,rfl):=rx;exact SeqAt.EqAt.str_int a t' b t
  |str b=>let(t,rfl):=rx;exact SeqAt.EqAt.str_str a t' b t
  |_=>exact absurd (show false=true from fx) Bool.false_ne_true
 |_=>exact absurd (show false=true from fy) Bool.false_ne_true
def eqU(x:V)(u:Value):Bool:=match u with
 |.none=>eqV .non x
 |.bool b=>eqV (.bl b) x
 |.int i _=>eqV (.int i) x
 |.str z _=>eqV (.str z) x
 |_=>false
theorem qg6{x y:V}{u:Value}(r:qH y u)(f:Yc y=true):eqU x u=eqV y x:=by
 cases y with
 |non=>cases r;rfl
 |bl b=>cases r;rfl
 |int i=>let(t,rfl):=r;rfl
 |str z=>let(t,rfl):=r;rfl
 |_=>exact absurd (show false=true from f) Bool.false_ne_true
theorem Yd{x:V}:∀{xs:List V} {us:List Value},qB xs us->xs.all Yc=true->us.any (eqU x)=xs.any λy=>eqV y x
 |_,_,.nil,_=>rfl
 | y::xs,u::us,.cons r t,f=>by rw[List.all_cons,Bool.and_eq_true]at f;rw[List.any_cons,List.any_cons,qg6 r f.1,Yd t f.2]
theorem yV{A:Around}{s:Shared}{x:V}{v:Value}(rx:qH x v)(fx:Yc x=true):∀{xs:List V} {us:List Value},qB xs us->xs.all Yc=true->∀u∈us,SeqAt.EqAt A s u v (eqU x u)
 |_,_,.nil,_=>λu hu=>by cases hu
 | y::xs,u::us,.cons r t,f=>λu' hu=>by
  rw[List.all_cons,Bool.and_eq_true]at f;rcases List.mem_cons.mp hu with rfl|hu
  ·rw[qg6 r f.1];exact qkF r rx f.1 fx
  ·exact yV rx fx t f.2 u' hu
def inV(x:V)(xs:List V):Bool:=xs.any λy=>eqV y x
def rIn(K:Frag)(neg:Bool):R2:=λx y H Q=>∃p xs,y=.ref p/\(SqL K H p xs\/SqT K H p xs)/\Yc x=true/\xs.all Yc=true/\Q (.bl (if neg then !inV x xs else inV x xs)) H
def qdE:OpR X (compareOp .In) (rIn X.K false):=by
 intro pins s Z H x y v u Q I rx ry h;let(p,xs,rfl,hq,fx,fs,q):=h;cases ry;rcases hq with hq|hq
 ·let(its,r,pl,hz):=I.list hq;refine SeqAt.in_listAt (eqU x) pl.isList (λw hw=>yV rx fx r fs w (-hw:)) ⟨.bl _,H,I,rfl,?_⟩;rw[show its.toArray.any (eqU x)=its.any (eqU x) by simp,Yd r fs];exact q
 ·let(its,r,pl,hz):=I.tuple hq;refine SeqAt.in_tupleAt (eqU x) pl (λw hw=>yV rx fx r fs w (-hw:)) ⟨.bl _,H,I,rfl,?_⟩;rw[show its.toArray.any (eqU x)=its.any (eqU x) by simp,Yd r fs];exact q
def ZE:OpR X (compareOp .NotIn) (rIn X.K true):=by
 intro pins s Z H x y v u Q I rx ry h;let(p,xs,rfl,hq,fx,fs,q):=h;cases ry;rcases hq with hq|hq
 ·let(its,r,pl,hz):=I.list hq;refine SeqAt.notIn_listAt (eqU x) pl.isList (λw hw=>yV rx fx r fs w (-hw:)) ⟨.bl _,H,I,rfl,?_⟩;rw[show its.toArray.any (eqU x)=its.any (eqU x) by simp,Yd r fs];exact q
 ·let(its,r,pl,hz):=I.tuple hq;refine SeqAt.notIn_tupleAt (eqU x) pl (λw hw=>yV rx fx r fs w (-hw:)) ⟨.bl _,H,I,rfl,?_⟩;rw[show its.toArray.any (eqU x)=its.any (eqU x) by simp,Yd r fs];exact q
def JH:qW X (.builtin "len") (λxs H Q=>∃p ys,xs=[.ref p]/\(SqL X.K H p ys\/SqT X.K H p ys)/\Q (.int ys.length) H):=by
 intro pins s Z H xs us Q I r h;let(p,ys,rfl,hq,q):=h;let(u,rfl,rx):=yU r;cases rx;have hn:=J7;rcases hq with hq|hq
 ·let(its,r',pl,hz):=I.list hq;have hlen:=r'.length;exact Calls.call_len_list pl.isList (by simp![List.size_toArray]<;>lia) ⟨.int ys.length,H,I.tok _,⟨s.toks+1,by rw[List.size_toArray,hlen]⟩,q⟩
 ·let(its,r',pl,hz):=I.tuple hq;have hlen:=r'.length;exact len_tuple pl (by simp![List.size_toArray]<;>lia) ⟨.int ys.length,H,I.tok _,⟨s.toks+1,by rw[List.size_toArray,hlen]⟩,q⟩
def ZF:qW X (.builtin "len") (λxs H Q=>∃z,xs=[.str z]/\z.length<=sizeLine/\Q (.int z.length) H):=by intro pins s Z H xs us Q I r h;let(z,rfl,hz,q):=h;let(u,rfl,t,rfl):=yU r;have hn:=J7;exact len_str (1:) ⟨.int z.length,H,I.tok _,⟨_,rfl⟩,q⟩
def j0:qW X (.type "list") (λxs H Q=>∃p ys,xs=[.ref p]/\(SqL X.K H p ys\/SqT X.K H p ys)/\∀l,H l=none->Q (.ref l) (upd H l (.lst ys))):=by
 intro pins s Z H xs us Q I r h;let(p,ys,rfl,hq,q):=h;let(u,rfl,rx):=yU r;cases rx
 have fin:∀(its:List Value),qB ys its->ys.length<=sizeLine->∀(h':Heap) (c':Nat),(∀b o',s.heap.get? b=some o'->h'.get? b=some o')->
   h'.get? s.heap.objs.size=some { cls:=.type "list",dict:=none,data:=.seq its.toArray c',slots:=#[] }->EP X pins Z Q (.ref s.heap.objs.size) { s with heap:=h' }:=λits r' hz h' c' kp e=>
  ⟨.ref s.heap.objs.size,_,I.laid (t':=s.toks) kp (Nat.le_refl _) (show qO X.prog X.w _ h' _ (.lst ys) from⟨hz,its,c',r',e⟩),rfl,q _ (I.hok.fresh (Nat.le_refl _))⟩
 rcases hq with hq|hq
 ·let(its,r',pl,hz):=I.list hq;have hlen:=r'.length;let(o,ho,hc,n,hd):=pl.isList;exact call_list_seq p (.inl rfl) ho hc hd (λh' c' kp e=>fin its r' hz h' c' kp e) (by simp![List.size_toArray]<;>lia)
 ·let(its,r',pl,hz):=I.tuple hq;have hlen:=r'.length;let(o,ho,hc,n,hd):=pl;exact call_list_seq p (.inr rfl) ho hc hd (λh' c' kp e=>fin its r' hz h' c' kp e) (by simp![List.size_toArray]<;>lia)
def yW:qW X (.type "tuple") (λxs H Q=>∃p ys,xs=[.ref p]/\((SqL X.K H p ys/\∀l,H l=none->Q (.ref l) (upd H l (.tup ys)))\/(SqT X.K H p ys/\Q (.ref p) H))):=by
 intro pins s Z H xs us Q I r h;let(p,ys,rfl,h):=h;let(u,rfl,rx):=yU r;cases rx;rcases h with ⟨hq,q⟩|⟨hq,q⟩
 ·let(its,r',pl,hz):=I.list hq;have hlen:=r'.length;refine call_tuple_list pl.isList (λh' kp=>?_) (by simp![List.size_toArray]<;>lia);have I1:Inv X pins Z H { s with heap:=h' }:=I.kept (t':=s.toks) kp
  have I2:Inv X pins Z (upd H h'.objs.size (.tup ys)) { s with heap:=h'.push { cls:=.type "tuple",data:=.seq its.toArray } }:=
   I1.laid (t':=s.toks) (λb o e=>Heap.get?_push_of_some _ e) (Nat.le_refl _) (show qO X.prog X.w _ _ _ (.tup ys) from⟨hz,its,r',IsTup.new _ _⟩)
  exact{.ref h'.objs.size,_,I2,rfl,q _ (I1.hok.fresh (Nat.le_refl _))}
 ·let(its,r',pl,hz):=I.tuple hq;exact call_tuple_same pl ⟨.ref p,H,I,rfl,q⟩
def tyV(K:Frag)(T:String)(x:V)(H:Hp):Prop:=match x with
 |.str _=>T = "str"
 |.int _=>T = "int"
 |.ref p=>(T = "list"/\∃xs,SqL K H p xs)\/(T = "tuple"/\∃o,K.lookup p=some o/\o.cls=.type "tuple"/\o.dict=none)\/
   (T = "dict"/\((∃kvs,H p=some (.dK kvs))\/∃kvs,H p=some (.dT kvs)))\/(T = "set"/\∃S n,H p=some (.set S n))
 |_=>False
theorem qkG{pins:PP}{Z:St}{H:Hp}{s:Shared}{T:String}{x:V}{v:Value}(I:Inv X pins Z H s)(r:qH x v)(ty:tyV X.K T x H) :
  s.TypeIs v T/\∀a,v=.ref a->∃ob,s.heap.get? a=some ob/\ob.dict=none:=by
 cases x with
 |str z=>
  let(t,rfl):=r
  cases (show T = "str" from ty)
  exact{typeIs_str s z t,λ_ e=>nomatch e}
 |int i=>
  let(t,rfl):=r
  cases (show T = "int" from ty)
  exact{typeIs_int s i t,λ_ e=>nomatch e}
 |ref p=>
  cases r;rcases ty with ⟨rfl,xs,hq⟩|⟨rfl,o,hk,hc,hd⟩|⟨rfl,hk⟩|⟨rfl,S,n,hk⟩
  ·let(its,_,pl,_):=I.list hq;refine{pl.isList.typeIs,λa e=>?_};cases e;let(o,n,e,c,hd,_):=pl;exact⟨o,e,hd⟩
  ·refine{{o,I.kIn p o hk,hc},λa e=>?_};cases e;exact{o,I.kIn _ o hk,hd}
  ·have z:∃o,s.heap.get? p=some o/\o.ExactDict:=by
    rcases hk with ⟨kvs,hk⟩|⟨kvs,hk⟩
    ·let(_,_,_,_,o,_,_,e,ex,_):=I.hok p _ hk;exact⟨o,e,ex⟩
    ·let(_,_,_,_,o,_,_,e,ex,_):=I.hok p _ hk;exact⟨o,e,ex⟩
   let(o,e,ex):=z;refine{⟨o,e,ex.1⟩,λa e2=>?_};cases e2;exact⟨o,e,ex.2.1⟩
  ·let(o,_,_,_,e,ex,_):=I.hok p _ hk;refine{⟨o,e,ex.1⟩,λa e2=>?_};cases e2;exact⟨o,e,ex.2.1⟩
 |_=>exact False.elim ty
def tBM(K:Frag)(T:String)(r:V->List V->Hp->VK->Prop)(to:TE)(t:TA):TE:=λZ H Q=>to Z H λx H1=>tyV K T x H1/\t Z H1 λxs H2=>r x xs H2 Q
variable{o e:Expr}{es:List Expr}{to:TE}{t:TA}{name:Str}{apos cpos:Pos}{T id:String}{r:V->List V->Hp->VK->Prop}
def qkH(pa:PlainAttrs T)(slot:Slot T name id)(hty:typeOf (.builtin id)=pure (.type "method_descriptor"))(hm:MtR X id r)(ho:PE X o to)(ha:PA X (e::es) t)
  (hbase:attributeBase o name X.env (eval o X.env)=eval o X.env:=by rfl)
  (hfew:((backTo cpos (starEach (e::es) X.env)).all (λx=>!x.1)&&(backToKw cpos (keywordEach [] X.env)).all (λx=>x.1.isSome)
   && decide ((e::es).length+([]:List Keyword).length+(if ([]:List Keyword).isEmpty then 0 else 1) < 30))=true:=by rfl)
  (hline:(apos.endLine == cpos.line)=true:=by rfl) (hs:starEach (e::es) X.env=(false,eval e X.env)::starEach es X.env:=by rfl) (hplain:(backTo cpos (starEach es X.env)).any (·.1)=false:=by rfl) :
  PE X (.Call (.Attribute o name apos) (e::es) [] cpos) (tBM X.K T r to t):=by
 intro pins s Z H Q I h;refine wpAny_Call_method_late hbase hfew hline rfl (thn (ho pins s Z H _ I h) λv s1 hq1=>?_);let(x,H1,I1,r1,ty,q1):=hq1;let(h1,h2):=qkG I1 r1 ty;refine{T,id,pa,slot,hty,h1,h2,?_};have hA:=ha cpos pins s1 Z H1 _ I1 q1;rw[hs]at hA ⊢;refine Calls.callWith_builtin (by show(false||(backTo cpos (starEach es X.env)).any (·.1))=false;rw[hplain]<;>rfl) (Calls.evalArgs_plain ?_);exact thn hA λus s2 ⟨vs,H2,I2,r2,q2⟩=>hm pins s2 Z H2 x vs v us Q I2 r1 r2 q2
end
def MtM(X:Cx)(id:String)(r:V->List V->Hp->VK->Prop):Prop:=
 ∀(pins:PP) (s:Shared) (Z:St) (H:Hp) (x:V) (xs:List V) (v:Value) (us:List Value) (Q:VK),Inv X pins Z H s->qH x v->qB xs us->r x xs H Q->
  wpAny (model X.prog X.w) X.A (call (.builtin id) (v::us)) (EP X pins Z Q) X.xe s
theorem qB.one:∀{x:V} {us:List Value},qB [x] us->∃u,us=[u]/\qH x u
 |_,_,.cons r .nil=>{_,rfl,r}
theorem qB.reverse{xs:List V}{us:List Value}(h:qB xs us):qB xs.reverse us.reverse:=by
 induction h with
 |nil=>exact .nil
 |cons r t ih=>rw[List.reverse_cons,List.reverse_cons];exact qB.append ih %[r|0]
section
variable{X:Cx}{pins:PP}{Z:St}{H:Hp}{s:Shared}{l b:Addr}{xs ys zs:List V}
def Inv.lset{its its':List Value}{n:Nat}{f:Array Value->Array Value}{t':Nat}(I:Inv X pins Z H s)(hH:H l=some (.lst xs))
  (e:s.heap.get? l=some { cls:=.type "list",data:=.seq its.toArray n }) (hf:f its.toArray=its'.toArray) (hv:qB ys its') (hz:ys.length<=sizeLine) :
  Inv X pins Z (upd H l (.lst ys)) { s with heap:=s.heap.update l (Obj.mapSeq f),toks:=t' }:=by
 have q:=PySem.IsL.update e f;rw[hf]at q;refine I.write (x:=l) (e:=l) (by rw[hH];exact trivial) (.inl rfl) (λb' u hb hu=>(Heap.get?_update_other s.heap (Obj.mapSeq f) (Ne.symm hb)).trans hu) ⟨_,q⟩ ?_;exact{hz,its',_,hv,q}
def Inv.lnew{its:List Value}{t':Nat}(I:Inv X pins Z H s)(hv:qB ys its)(hz:ys.length<=sizeLine) :
  Inv X pins Z (upd H s.heap.objs.size (.lst ys)) { s with heap:=s.heap.push { cls:=.type "list",data:=.seq its.toArray },toks:=t' }:=
 I.laid (λ_ _ q=>Heap.get?_push_of_some _ q) (Nat.le_refl _) ⟨hz,its,0,hv,Heap.get?_push_size _ rfl⟩
def Inv.fresh(I:Inv X pins Z H s):H s.heap.objs.size=none:=I.hok.fresh (Nat.le_refl _)
def Inv.lstM(I:Inv X pins Z H s)(hH:H l=some (.lst xs)):xs.length<=sizeLine/\∃(its:List Value) (n:Nat),qB xs its/\xs.length=its.length/\s.heap.get? l=some { cls:=.type "list",data:=.seq its.toArray n }:=by let(z,its,n,r,e):=I.hok l _ hH;exact⟨z,its,n,r,r.length,e⟩
def qfM{n:Nat}(h:n<=sizeLine):Builtin.List.listTooLong n=false:=by unfold Builtin.List.listTooLong;exact decide_eq_false (1:)
end
section
variable{X:Cx}
def qif:V->List V->Hp->VK->Prop:=λx vs H Q=>∃l xs y,x=.ref l/\vs=[y]/\H l=some (.lst xs)/\xs.length < sizeLine/\Q .non (upd H l (.lst (xs++[y])))
def qdF:MtM X "list.append" qif:=by
 intro pins s Z H x vs v us Q I rx rv h;let(l,xs,y,rfl,rfl,hH,hz,q):=h;cases rx;let(u,rfl,ru):=rv.one;let(z,its,n,r,hl,e):=I.lstM hH;refine call_meets F.slot_list_append ⟨_,e,rfl⟩ F.entry_list_append (F.args_list_append_2 _ _) (PySem.list_append l its.toArray n u (by rw[List.size_toArray];lia)) ⟨e,?_⟩;refine{.non,_,I.lset (its':=its++[u]) hH e (5:) (r.append %[ru|0]) ?_,rfl,q};rw[List.length_append,List.length_singleton]
 lia
def qig:V->List V->Hp->VK->Prop:=λx vs H Q=>∃l b xs zs,x=.ref l/\vs=[.ref b]/\H l=some (.lst xs)/\H b=some (.lst zs)/\xs.length+zs.length<=sizeLine/\Q .non (upd H l (.lst (xs++zs)))
def qdG:MtM X "list.extend" qig:=by
 intro pins s Z H x vs v us Q I rx rv h;let(l,b,xs,zs,rfl,rfl,hH,hB,hz,q):=h;cases rx;let(u,rfl,ru):=rv.one;cases ru;let(z,its,n,r,hl,e):=I.lstM hH;let(z2,its2,n2,r2,hl2,e2):=I.lstM hB;have hsz:its.toArray.size+its2.toArray.size<=sizeLine:=by rw[List.size_toArray,List.size_toArray];lia
 have hlong:¬ (!its.toArray.isEmpty&&Builtin.List.listTooLong (its.toArray.size+its2.toArray.size))=true:=by rw[qfM hsz,Bool.and_false];exact Bool.false_ne_true
 refine call_meets F.slot_list_extend ⟨_,e,rfl⟩ F.entry_list_extend (F.args_list_extend_2 _ _)
  (AutoSeq1.list_extend_list_list_0 l its.toArray n b its2.toArray n2 hlong (by rw[List.size_toArray];lia) (1:)) ⟨e,e2,?_⟩
 refine{.non,_,I.lset (its':=its++its2) hH e (5:) (r.append r2) ?_,rfl,q};rw[List.length_append]
 lia
def qpJ:R2:=λx y H Q=>∃l b xs zs,x=.ref l/\y=.ref b/\H l=some (.lst xs)/\H b=some (.lst zs)/\xs.length+zs.length<=sizeLine/\∀p,H p=none->Q (.ref p) (upd H p (.lst (xs++zs)))
def qkI:OpR X (binaryOp .Add) qpJ:=by
 intro pins s Z H x y v u Q I rx ry h;let(l,b,xs,zs,rfl,rfl,hH,hB,hz,q):=h;cases rx;cases ry;let(z,its,n,r,hl,e):=I.lstM hH;let(z2,its2,n2,r2,hl2,e2):=I.lstM hB;refine PySem.P.add_list e e2 ?_ (by rw[List.size_toArray,List.size_toArray];lia);have ea:its.toArray++its2.toArray=(its++its2).toArray:=by simp
 rw[ea];exact{.ref _,_,I.lnew (t':=s.toks) (r.append r2) (by rw[List.length_append];lia),rfl,q _ I.fresh}
end
end L2
namespace Att
open PySem PySem.W PySem.Calls PyProof.Rows
theorem Ye{P:Params}{h:Heap}:∀(ns:List Int) (vs:List Value),WellAll P h vs (ns.map WData.int)->IntsAre vs ns:=by
 intro ns
 induction ns with
 |nil=>intro vs w;rw[List.map_nil]at w;cases w;exact .nil
 |cons n ns ih=>
  intro vs w;rw[List.map_cons]at w
  cases w with
  |cons a b=>cases a;exact .cons _ _ (ih _ b)
theorem qdH{l:OpenLaw}{n:Nat}(hn:l.most=some n){P:Params}{h:Heap}{args:List WData}{vals:List Value}
  (hpre:l.row.toRowW.claim.pre args=true) (hwl:WellAll P h vals args) :
  ∃a vs ns,vals=[Value.ref a]/\args=[WData.list (ns.map WData.int)]/\h.get? a=some { cls:=.type "list",data:=.seq vs.toArray }/\IntsAre vs ns/\ns.length<=n:=by
 have hsh:WShape.hasAll [] args [.list .int]=true:=(pre_splitW hpre).1;have hc:l.pre.holds [] { args:=args }=true:=(pre_splitW hpre).2;let(d,r,rfl,h1,h2):=hasAllW_cons hsh;cases hasAllW_nil h2;let(xs,rfl,h3):=hasW_list h1;let(ns,rfl):=items_int h3
 have hlen:ns.length<=n:=by
  unfold OpenLaw.pre at hc
  have h4:(WTm.not (.lt (.lit (.int (n:Int))) (.len (.arg 0)))).holds [] { args:=[.list (ns.map .int)] }=true:=by have h4:=(holds_andW hc).1;rw[hn]at h4;exact h4
  have h5:=condW_of h4 (w_not (w_lt w_lit (w_len_list (w_arg rfl))));rw[List.length_map]at h5;refine Nat.le_of_not_lt λq=>?_;have q':(n:Int) < ((ns.length:Nat):Int):=by lia
  first
   | (rw[decide_eq_true q']at h5;exact absurd h5 (2:))
   | (simp at h5;lia)
 cases hwl with
 |cons w1 w2=>
  cases w2
  cases w1 with
  |list ho hall=>exact{_,_,ns,rfl,rfl,ho,Ye ns _ hall,hlen}
def qdI(l:OpenLaw)(args:List WData):l.row.toRowW.claim.post args (.bool true) args=true:=
 postW_of (r:=l.row.toRowW) (X:=(true == true))
  (show WShape.has [] (.bool true) .bool=true by first|rfl|decide|simp[WShape.has,WShape.arms,WShape.armsAll])
  (show(WTm.eq .res (.lit (.bool true))).value [] { args:=args,res:=some (.bool true),after:=args }=some (.bool (true == true)) from w_eq_bool (w_res rfl) w_lit) rfl
def qaR{l:OpenLaw}{n:Nat}{q:Program}{loose:List Str}{XP:(Str->Option Value)->Heap->Prop}{YP:World->Heap->Prop}{d:DefRec}
  (hn:l.most=some n) (hdf:d.params.defaults=[])
  (call:∀(w:World) (s₀ s₁:Shared) (mg mb:PR) (fa:Addr) (o:Obj) (pm cd doc:Value) (a:Addr) (vs:List Value) (ns:List Int),
   Ground q loose [] XP w s₀ mg mb s₁.heap->YP w s₁.heap->
   s₁.heap.get? fa=some o->o.data=.func (docDef d.name d.params d.body d.scope pm cd doc)->s₁.heap.CodeRec cd d.name->mg d.name=some (.ref fa)->
   s₁.heap.get? a=some { cls:=.type "list",data:=.seq vs.toArray }->IntsAre vs ns->ns.length<=n->s₁.gens=#[]->
   codeAny (model l.prog w) callerA (.call (.ref fa) ⟨[.ref a],[]⟩) (λr s'=>r=.ok (.ret (.bool true))/\OldK s₁.heap s'.heap/\s'.os=s₁.os/\AllBare s'.gens) s₁) :
  WalkO q loose XP YP l.row.toRowW d [] (λf vs=>PySem.call f vs):=by
 intro w s₀ s₁ mg mb G Y fa o pm cd doc dV kV ho hd hcd hD hmg hg args vals as hpre hlay hrd hwl hlo;obtain rfl:dV=.none:=Dflts.none hD hdf;obtain rfl:kV=.none:=Dflts.noKw hD;let(a,vs,ns,rfl,rfl,hobj,hints,hlen):=qdH hn hpre hwl;refine enter_call (codeAny_mono (call w s₀ s₁ mg mb fa o pm cd doc a vs ns G Y ho (fd_plain hd) hcd hmg hobj hints hlen hg) λr s' hq=>?_);let(rfl,h2,h3,h4):=hq;exact{.inl {.bool true,.bool true,[],rfl,λ_=>rfl,.bool true,qdI l _,λ_=>{List.Pairwise.nil,λ_ hm=>(nomatch hm)}},h2,h3,h4}
end Att
namespace L2
open PySem PySem.Spec PyProof.Rows
theorem ZG:∀{vs:List Value} {ns:List Int},IntsAre vs ns->qB (ns.map V.int) vs
 |_,_,.nil=>.nil
 |_,_,.cons n t h=>.cons ⟨t,rfl⟩ (ZG h)
def qnU(H:Hp):Prop:=∀b,H b=none\/∃o xs,H b=some (.frz o (.lst xs))
theorem qfN{P:Program}{w:World}{K:Frag}{mg mb:PR}{CX:CXT}{k:Nat}{fa a:Addr}{fd:FuncData}{x:Str}{sp:Sp}{s₁:Shared}{vs:List Value}{ns:List Int}
  (KX:K.In s₁.heap) (hns:s₁.heap.Ns mainGlobals mg) (hb:s₁.heap.Ns builtinsNs mb) (hbb:∀x:Str,x≠"__name__"->mb x=bootBuiltins x) (hlim:s₁.heap.NoLimit) (hg:s₁.gens=#[])
  (ha:s₁.heap.get? a=some { cls:=.type "list",data:=.seq vs.toArray }) (hi:IntsAre vs ns) (hl:ns.length<=sizeLine) (hr:Room k callerA)
  (F:∀base:Heap,K.In base->base.Ns mainGlobals mg->FnOk P w K mg base CX k fa fd [x] sp) (hbind:∀(s:Shared) (u:Value),BindsTo s fd ⟨[u],[]⟩ [(x,u)])
  (hsp:∀H:Hp,qnU H->SqL K H a (ns.map V.int)->sp [.ref a] H (λv _=>v=.bl true) λ_ _ _=>False)
  (hCX:∀H e s',CX [] H s₁ (λ_ _ _=>False) e s'->False) :
  codeAny (model P w) callerA (.call (.ref fa) ⟨[.ref a],[]⟩) (λr s'=>r=.ok (.ret (.bool true))/\OldK s₁.heap s'.heap/\s'.os=s₁.os/\AllBare s'.gens) s₁:=by
 have rv:=ZG hi;have lenV:=hi.length
 have core:∀H:Hp,qnU H->SqL K H a (ns.map V.int)->HOk P w H s₁.heap->(∀b,H b≠none->b=a)->(H a≠none->K.lookup a=none)->
   codeAny (model P w) callerA (.call (.ref fa) ⟨[.ref a],[]⟩) (λr s'=>r=.ok (.ret (.bool true))/\OldK s₁.heap s'.heap/\s'.os=s₁.os/\AllBare s'.gens) s₁:=by
  intro H hO hS hok hA hK;have base_of:∀{b:Addr} {o:Obj},s₁.heap.get? b=some o->H b=none->(qfx s₁.heap H).get? b=some o:=λe n=>qfy e n
  have noA:∀{b:Addr} {o:Obj} {es:Array DictEntry} {ep:Nat},s₁.heap.get? b=some o->o.data=.dict es ep->H b=none:=λ{b o es ep} e d=>by
   cases q:H b with
   |none=>rfl
   |some u=>have e':b=a:=hA b (by rw[q];simp);subst e';rw[ha]at e;cases e;have d':Data.seq vs.toArray _=Data.dict es ep:=d;cases d'
  have nsK:∀{b:Addr} {m:PR},s₁.heap.Ns b m->(qfx s₁.heap H).Ns b m:=λ{b m} ⟨o,es,ep,e,d,r⟩=>{o,es,ep,base_of e (noA e d),d,r}
  have hKb:K.In (qfx s₁.heap H):=λb o e=>base_of (KX b o e) (by
   cases q:H b with
   |none=>rfl
   |some u=>have e':b=a:=hA b (by rw[q];simp);subst e';rw[hK (by rw[q];simp)]at e;cases e)
  have hM:Mod K mg (qfx s₁.heap H):={hKb,nsK hns,{mb,nsK hb,hbb},let ⟨mc,h1,h2⟩:=hlim;⟨mc,nsK h1,h2⟩};have e0:Env0 P w K mg (qfx s₁.heap H) callerA [] s₁ H:={rfl,hM,λb o e=>qhV e,Nat.le_of_eq (qdp _ _),trivial,λb hb=>absurd (show b∈([]:List Addr) from hb) (5:),hok,.of_eq hg};refine codeAny_mono ((F _ hKb (nsK hns)).run callerA [] s₁ H ⟨[.ref a],[]⟩ [.ref a] [.ref a] _ _ hr e0 (hbind s₁ (.ref a)) %[rfl|0] (hsp H hO hS)) λr s' h=>?_
  cases r with
  |error e=>exact(hCX H e s' h).elim
  |ok fl=>
   cases fl with
   |next=>exact False.elim h
   |brk=>exact False.elim h
   |cont=>exact False.elim h
   |ret u=>
    let(v,H',os,bare,un,hok',r',q):=h;have q':v=.bl true:=q;subst q';obtain rfl:u=Value.bool true:=r';refine{rfl,OldK.of_keep λb o e=>?_,os,bare}
    cases q:H b with
    |none=>exact un.keep b o e q (by intro z;exact absurd (show b∈([]:List Addr) from z) (5:)) (5:)
    |some u=>
     rcases hO b with z|⟨ob,xs,z⟩
     ·rw[q]at z;cases z
     ·have z2:=un.frzs b ob _ z;let(e1,_):=hok b _ z;let(e2,_):=hok' b _ z2;rw[e]at e1;cases e1;exact e2
 cases hk:K.lookup a with
 |some o=>have e:=KX a o hk;rw[ha]at e;cases e;refine core (λ_=>none) (λ_=>.inl rfl) (.inr ⟨_,vs.toArray,_,hk,rfl,rfl,rfl,by rw[List.size_toArray,lenV];exact hl,(-rv:)⟩) (λb u z=>by have z':(none:Option HO)=some u:=z;cases z') (λb z=>absurd rfl z) λz=>absurd rfl z
 |none=>
  refine core (λb=>if b=a then some (.frz { cls:=.type "list",data:=.seq vs.toArray } (.lst (ns.map V.int))) else none) (λb=>?_) (.inl (.inr ⟨{ cls:=.type "list",data:=.seq vs.toArray },if_pos rfl⟩)) (λb u z=>?_) (λb z=>?_) λ_=>hk
  ·by_cases hb:b=a
   ·exact .inr ⟨_,_,if_pos hb⟩
   ·exact .inl (if_neg hb)
  ·by_cases hb:b=a
   ·have z':=(if_pos hb).symm.trans z;cases z';subst hb;exact{ha,by rw[List.length_map];exact hl,vs,_,rv,ha}
   ·have z':=(if_neg hb).symm.trans z;cases z'
  ·by_cases hb:b=a
   ·exact hb
   ·exact absurd (if_neg hb) z
def qih{l:PySem.W.OpenLaw}{n k:Nat}{q:Program}{loose:List Str}{XP:(Str->Option Value)->Heap->Prop}{YP:World->Heap->Prop}{d:DefRec}{K:Params->Frag}{CX:World->CXT}{sp:World->Sp}{x:Str}
  (hn:l.most=some n) (hn2:n<=sizeLine) (hdf:d.params.defaults=[]) (hr:Room k callerA)
  (hY:∀(w:World) (h:Heap),YP w h->(K w.params).In h)
  (F:∀(w:World) (mg:PR) (fa:Addr) (h:Heap),(K w.params).In h->h.Ns mainGlobals mg->mg d.name=some (.ref fa)->
   ∃fd:FuncData,(∀(s:Shared) (u:Value),BindsTo s fd ⟨[u],[]⟩ [(x,u)])/\
    ∀base:Heap,(K w.params).In base->base.Ns mainGlobals mg->FnOk l.prog w (K w.params) mg base (CX w) k fa fd [x] (sp w))
  (hsp:∀(w:World) (H:Hp) (a:Addr) (ns:List Int),ns.length<=n->qnU H->SqL (K w.params) H a (ns.map V.int)->sp w [.ref a] H (λv _=>v=.bl true) λ_ _ _=>False)
  (hCX:∀(w:World) (H:Hp) (s:Shared) (e:Value) (s':Shared),CX w [] H s (λ_ _ _=>False) e s'->False) :
  PySem.W.WalkO q loose XP YP l.row.toRowW d [] (λf vs=>PySem.call f vs):=by
 refine Att.qaR hn hdf λw s₀ s₁ mg mb fa o pm cd doc a vs ns G Y ho hd hcd hmg hobj hints hlen hg=>?_;have KX:=hY w _ Y;let(fd,hb,hF):=F w mg fa _ KX G.T.g hmg;exact qfN KX G.T.g G.T.b G.T.builtins G.T.nolimit hg hobj hints (Nat.le_trans hlen hn2) hr hF hb (λH hO hS=>hsp w H a ns hlen hO hS) λH e s'=>hCX w H s₁ e s'
def zj(s:Stmt):Arguments:=match s with
 |.FunctionDef _ a _ _ _ _ _ _ _ _=>a
 |_=>{ posonlyargs:=[],args:=[],vararg:=none,kwonlyargs:=[],kw_defaults:=[],kwarg:=none,defaults:=[] }
def qz(s:Stmt):List Stmt:=match s with
 |.FunctionDef _ _ b _ _ _ _ _ _ _=>b
 |_=>[]
def qi(s:Stmt):Scope:=match s with
 |.FunctionDef _ _ _ _ _ _ sc _ _ _=>sc
 |_=>{ kind:=.function,names:=[],isGenerator:=false,isCoroutine:=false }
abbrev CX0:CXT:=λ_ _ _ _ _ _=>False
abbrev E0:XK:=λ_ _ _=>False
def j5{X:Cx}:jK CX0 X E0:=λ_ _ _ _ _ _ _ h=>h.elim
structure Fun(K:Frag)(x qual:Str)(st:Stmt)(f:Addr)(fd:FuncData):Prop where
 ex:∃(oc:Value) (od:Option Addr) (kV doc pm:Value) (an:Option Addr) (cdv ct:Value) (osl:Array (Option Value)),
  fd=PySem.W.fnOf x qual (zj st) (qz st) (qi st) .none kV doc pm an cdv ct/\K.lookup f=some ⟨oc,od,.func fd,osl⟩/\PySem.W.codeIn K cdv qual=true
 kp:PySem.W.keepIn K (.ref f)=true
section
variable{P:Program}{w:World}{K:Frag}{mg:PR}{base:Heap}
def Fun.ok{x qual:Str}{st:Stmt}{f:Addr}{fd:FuncData}{N ps:List Str}{k:Nat}{sp:Sp}(F:Fun K x qual st f fd)(S:FnScope N ps (qi st))(len:∀vs H Q E,sp vs H Q E->vs.length=ps.length)
  (hbody:∀(cdv:Value) (A:Around) (outer:List Env) (s:Shared) (H:Hp) (vs:List V) (Q:VK) (E:XK),Room k (A.deeper (envOfC qual (qi st) s.heap.objs.size f cdv))->sp vs H Q E->
   ∃t,PSs (qbw CX0 P w K mg base N qual (qi st) f cdv A outer s H E).nox (qz st) t/\t { nx:=λ_ H'=>Q .non H',rt:=Q } (JS N vs) H):FnOk P w K mg base CX0 (k+1) f fd ps sp:=by
 let(oc,od,kV,doc,pm,an,cdv,ct,osl,rfl,lk,hcd):=F.ex;refine qkC lk hcd S len λA outer s H vs Q E hr hsp=>?_;let(t,h,q):=hbody cdv A outer s H vs Q E hr hsp;exact⟨t,h.nox,q⟩
def Fun.binds{x qual:Str}{st:Stmt}{f:Addr}{fd:FuncData}{ps:List Str}(F:Fun K x qual st f fd)
  (h:∀(kV doc pm:Value) (an:Option Addr) (cdv ct:Value) (us:List Value),us.length=ps.length->bindArgs (PySem.W.fnOf x qual (zj st) (qz st) (qi st) .none kV doc pm an cdv ct) ⟨us,[]⟩=pure (ps.zip us)):qX K fd ps []:=by
 let(oc,od,kV,doc,pm,an,cdv,ct,osl,rfl,lk,hcd):=F.ex;exact .all (h kV doc pm an cdv ct)
def qg7{x qual:Str}{st:Stmt}{f:Addr}{oc:Value}{od an:Option Addr}{osl:Array (Option Value)}{kV doc pm cdv ct:Value}(l:K.lookup f=some ⟨oc,od,.func (PySem.W.fnOf x qual (zj st) (qz st) (qi st) .none kV doc pm an cdv ct),osl⟩)
  (c:PySem.W.codeIn K cdv qual=true) (k:PySem.W.keepIn K (.ref f)=true):Fun K x qual st f (PySem.W.fnOf x qual (zj st) (qz st) (qi st) .none kV doc pm an cdv ct):={⟨oc,od,kV,doc,pm,an,cdv,ct,osl,rfl,l,c⟩,k}
end
def ZH{n:Nat}(h:n<=1000):n < sizeLine:=Nat.lt_of_le_of_lt h (2:)
section
variable{X:Cx}
def pv(i:Nat){x:Str}{pos:Pos}(hN:X.N[i]?=some x:=by rfl)(hv:Vis X.env.scope x:=by first|exact Or.inl rfl|exact Or.inr (Or.inl rfl)|exact Or.inr (Or.inr rfl))(hd:(x == ("__debug__" : Str))=false:=by decide)
  (hcd:(x == ("__classdict__" : Str))=false:=by decide):PE X (.Name x pos) (qnk i):=qbq hN hv hd hcd
end
def qp(H H':Hp):Prop:=∀b o,H b=some o->H' b=some o
def qp.seq{K:Frag}{H H':Hp}{a:Addr}{xs:List V}(e:qp H H')(h:SqL K H a xs):SqL K H' a xs:=by
 rcases h with (h|⟨o,h⟩)|h
 ·exact .inl (.inl (e _ _ h))
 ·exact .inl (.inr ⟨o,e _ _ h⟩)
 ·exact .inr h
end L2
namespace TS
open PySem PyProof.Rows
section
variable{prog:Program}{w:World}{A:Around}{E:PQ}{s:Shared}{O:KeyOrd}{kf:Keyed->O.α}{U:SortKind}
def qdJ(s s1:Shared):Prop:=∀b o,s.heap.get? b=some o->s1.heap.get? b=some o
end
def pO:KeyOrd where
 α:=Int×Int
 blt p q:=decide (p.1 < q.1)||(decide (p.1=q.1)&&decide (p.2 < q.2))
 irrefl a:=by simp
 trans a b c h1 h2:=by
  simp at h1 h2 ⊢
  lia
 negTrans a b c h:=by
  simp at h ⊢
  lia
 total a b h1 h2:=by
  let(a1,a2):=a;let(b1,b2):=b;simp at h1 h2;have e1:a1=b1:=by lia
  subst e1;have e2:a2=b2:=by lia
  rw[e2]
def nOf:Value->Int
 |.int n _=>n
 |_=>0
def yz(h:Heap)(v:Value):Int×Int:=match v with
 |.ref a=>match h.get? a with
  |some o=>match o.data with
   |.seq xs _=>(nOf (xs.getD 0 .none),nOf (xs.getD 1 .none))
   |_=>(0,0)
  |none=>(0,0)
 |_=>(0,0)
def qbz(h:Heap)(v:Value)(p:Int×Int):Prop:=∃a t u,v=.ref a/\IsTup h a #[.int p.1 t,.int p.2 u]
def qbz.pair{h:Heap}{v:Value}{p:Int×Int}(e:qbz h v p):yz h v=p:=by let(a,t,u,rfl,o,ho,hc,n,hd):=e;unfold yz;simp![ho,hd];rfl
def qbz.grow{s s1:Shared}{v:Value}{p:Int×Int}(e:qbz s.heap v p)(g:qdJ s s1):qbz s1.heap v p:=by let(a,t,u,rfl,o,ho,hc,n,hd):=e;exact{a,t,u,rfl,o,g a o ho,hc,n,hd}
section
variable{prog:Program}{w:World}{A:Around}{E:PQ}{s:Shared}
def qkJ{x y:Value}{p q:Int×Int}{Q:Bool->Shared->Prop}(hx:qbz s.heap x p)(hy:qbz s.heap y q)(h:Q (pO.blt p q) s):wpAny (model prog w) A (keyLt' (tuples' true) x y) Q E s:=by
 let(a,t,u,rfl,o,ho,hc,n,hd):=hx;let(b,t',u',rfl,o',ho',hc',n',hd'):=hy;refine PySem.W.kat_lt ho hd ho' hd' ?_;show PySem.W.KatLex prog w A true _ Q [(.int p.1 t,.int q.1 t'),(.int p.2 u,.int q.2 u')] 0 s;refine PySem.W.kat_cons (wpAny_eqBool_int ?_)
 by_cases e1:p.1=q.1
 ·rw[show(p.1 == q.1)=true by simpa using e1];refine PySem.W.kat_yes (PySem.W.kat_cons (wpAny_eqBool_int ?_))
  by_cases e2:p.2=q.2
  ·rw[show(p.2 == q.2)=true by simpa using e2];refine PySem.W.kat_yes (PySem.W.kat_nil ?_)
   have:pO.blt p q=false:=by unfold pO;simp[e1,e2]
   rw[this]at h;exact h
  ·rw[show(p.2 == q.2)=false by simpa using e2];refine PySem.W.kat_no (PySem.W.kat_one _ _ (lt_int ?_))
   have:pO.blt p q=decide (p.2 < q.2):=by unfold pO;simp[e1]
   rw[this]at h;exact h
 ·rw[show(p.1 == q.1)=false by simpa using e1];refine PySem.W.kat_no ?_
  have:pO.blt p q=decide (p.1 < q.1):=by unfold pO;simp[e1]
  rw[this]at h;exact oneLt_int h
theorem qdK:∀{vs:List Value} {ps:List (Int×Int)},Paired (qbz s.heap) vs ps->∃fs,PySem.W.KatTups s.heap vs fs/\fs.length=vs.length/\∀v∈fs,∃n t,v=Value.int n t
 |_,_,.nil=>{[],trivial,rfl,λ_ h=>nomatch h}
 |_,_,.cons r rs=>by
  let(a,t,u,rfl,o,ho,hc,n,hd):=r;let(fs,h1,h2,h3):=qdK rs;refine{_::fs,PySem.W.KatTups.cons ho hc hd rfl h1,by simp[h2],λv hv=>?_};rcases List.mem_cons.mp hv with rfl|hv
  ·exact{_,_,rfl}
  ·exact h3 v hv
def ZI{vs:List Value}{x:Keyed}(h:x∈(pairsOf vs).toList):x.1=x.2/\x.1∈vs:=by rw[pairsOf_toList]at h;exact mem_zip_self h
theorem Paired.at_mem{α M:Type}{R:α->M->Prop}:∀{l:List α} {m:List M},Paired R l m->∀a∈l,∃b∈m,R a b
 |_,_,.nil,_,h=>nomatch h
 |_,_,.cons r rs,a,h=>by
  rcases List.mem_cons.mp h with rfl|h
  ·exact{_,List.mem_cons_self,r}
  ·let(b,hb,q):=Paired.at_mem rs a h;exact{b,List.mem_cons_of_mem _ hb,q}
theorem Paired.grow2{s s1:Shared}(g:qdJ s s1):∀{vs:List Value} {ps:List (Int×Int)},Paired (qbz s.heap) vs ps->Paired (qbz s1.heap) vs ps
 |_,_,.nil=>.nil
 |_,_,.cons r rs=>.cons (r.grow g) (Paired.grow2 g rs)
end
theorem Paired.perm{α M:Type}{R:α->M->Prop}{us us':List M}(p:us'.Perm us):∀{xs:List α},Paired R xs us->∃xs',xs'.Perm xs/\Paired R xs' us':=by
 induction p with
 |nil=>exactλ{xs} h=>{xs,List.Perm.refl _,h}
 |cons x _ ih=>
  intro xs h
  cases h with
  |cons r rs=>let(xs',h1,h2):=ih rs;exact{_::xs',h1.cons _,.cons r h2}
 |swap x y l=>
  intro xs h
  cases h with
  |cons r rs=>
   cases rs with
   | cons r' rs=>exact{_::_::_,List.Perm.swap ..,.cons r' (.cons r rs)}
 |trans _ _ ih1 ih2=>intro xs h;let(x1,h1,h2):=ih2 h;let(x2,h3,h4):=ih1 h2;exact{x2,h3.trans h1,h4}
end TS
namespace L2
open PySem PySem.Spec PyProof.Rows
def P2(K:Frag)(H:Hp)(v:V)(p:Int×Int):Prop:=∃a,v=.ref a/\H a=some (.tup [.int p.1,.int p.2])
def qdL(p q:Int×Int):Prop:=p.1 < q.1\/(p.1=q.1/\p.2<=q.2)
section
variable{X:Cx}
def P2.raw{pins:PP}{Z:St}{H:Hp}{s:Shared}{v:V}{u:Value}{p:Int×Int}(I:Inv X pins Z H s)(h:P2 X.K H v p)(r:qH v u):TS.qbz s.heap u p:=by let(a,rfl,hq):=h;obtain rfl:u=Value.ref a:=r;let(its,rv,pl,_):=I.tuple (SqT.of hq);let(u1,u2,rfl,(t1,rfl),(t2,rfl)):=Zs rv;exact⟨a,t1,t2,rfl,pl⟩
end
def zy(env:Env)(ns:List (Str×NameKind))(acc:List (Str×Addr)):List (Str×Addr):=ns.foldl (λcs x=>if x.2 == .free then (x.1,(env.cells.lookup x.1).getD 0)::cs else cs) acc
theorem qg8{env:Env}:∀(ns:List (Str×NameKind)) (acc:List (Str×Addr)),(∀x∈ns,x.2=.free->∃c,env.cells.lookup x.1=some c)->
  (forIn ns acc λ(x:Str×NameKind) (cs:List (Str×Addr))=>(match x with |(name,kind)=>if kind == .free then (do let c<-cellOf env name;pure (ForInStep.yield ((name,c)::cs)):Sem (ForInStep (List (Str×Addr)))) else pure (ForInStep.yield cs)))=(pure (zy env ns acc):Sem (List (Str×Addr)))
 |[],acc,_=>by rw[List.forIn_nil];rfl
 | (n,k)::r,acc,h=>by
  rw[List.forIn_cons];have hr:=qg8 (env:=env) r
  by_cases hk:k=.free
  ·subst hk;let(c,hc):=h (n,.free) List.mem_cons_self rfl;have e1:cellOf env n=pure c:=by unfold cellOf;rw[hc]
   simp![beq_self_eq_true,if_true,e1,pure_bind];rw[hr _ λx hx=>h x (List.mem_cons_of_mem _ hx)];unfold zy;simp[hc]
  ·have hb:(k == NameKind.free)=false:=(-hk:)
   simp![hb,Bool.false_eq_true,if_false,pure_bind];rw[hr _ λx hx=>h x (List.mem_cons_of_mem _ hx)];unfold zy;rw[List.foldl_cons];simp![hb,Bool.false_eq_true,if_false]
def qg9{env:Env}{scope:Scope}(h:∀x∈scope.names,x.2=.free->∃c,env.cells.lookup x.1=some c):closureFor scope env=pure (zy env scope.names []):=by
 unfold closureFor
 have:=qg8 scope.names [] h
 simp![bind_pure_comp]at this;simp![bind_pure_comp,id_map',this];rfl
theorem qdM{env:Env}:∀(ns:List (Str×NameKind)) (acc:List (Str×Addr)),(∀x∈ns,x.2=.free->∃c,env.cells.lookup x.1=some c)->(∀x c,acc.lookup x=some c->env.cells.lookup x=some c)->
  ∀x c,(zy env ns acc).lookup x=some c->env.cells.lookup x=some c
 |[],_,_,h=>h
 | (n,k)::r,acc,hf,h=>by
  have ih:=qdM (env:=env) r (if k == .free then (n,(env.cells.lookup n).getD 0)::acc else acc) (λx hx=>hf x (List.mem_cons_of_mem _ hx)) (λx c e=>by
   by_cases hk:k=.free
   ·subst hk;simp![beq_self_eq_true,if_true]at e;let(c',hc):=hf (n,.free) List.mem_cons_self rfl;rw[List.lookup_cons]at e
    by_cases hx:x=n
    ·subst hx;simp[hc]at e;rw[hc,e]
    ·rw[show(x == n)=false by simpa using hx]at e;exact h x c e
   ·rw[show(k == NameKind.free)=false by simpa using hk]at e;exact h x c e)
  exact ih
def yY{env:Env}{ns:List (Str×NameKind)}(h:∀x∈ns,x.2=.free->∃c,env.cells.lookup x.1=some c):∀x c,(zy env ns []).lookup x=some c->env.cells.lookup x=some c:=qdM ns [] h λ_ _ e=>by cases e
theorem Qx{env:Env}:∀(ns:List (Str×NameKind)) (acc:List (Str×Addr)) (x:Str) (c:Addr),acc.lookup x=some c->∃c,(zy env ns acc).lookup x=some c
 |[],_,_,c,h=>⟨c,h⟩
 | (n,k)::r,acc,x,c,h=>by
  show∃c,(zy env r (if k == .free then (n,(env.cells.lookup n).getD 0)::acc else acc)).lookup x=some c
  by_cases hk:k=.free
  ·subst hk;simp![beq_self_eq_true,if_true]
   by_cases hx:x=n
   ·subst hx;exact Qx r _ x ((env.cells.lookup x).getD 0) (by rw[List.lookup_cons];simp)
   ·exact Qx r _ x c (by rw[List.lookup_cons,show(x == n)=false by simpa using hx];exact h)
  ·rw[show(k == NameKind.free)=false by simpa using hk];exact Qx r _ x c h
theorem qaS{env:Env}:∀(ns:List (Str×NameKind)) (acc:List (Str×Addr)) (x:Str),(x,NameKind.free)∈ns->∃c,(zy env ns acc).lookup x=some c
 | (n,k)::r,acc,x,h=>by
  show∃c,(zy env r (if k == .free then (n,(env.cells.lookup n).getD 0)::acc else acc)).lookup x=some c;rcases List.mem_cons.mp h with e|h
  ·injection e with e1 e2;subst e1 e2;simp![beq_self_eq_true,if_true];exact Qx r _ x ((env.cells.lookup x).getD 0) (by rw[List.lookup_cons];simp)
  ·exact qaS r _ x h
theorem JZ{env:Env}:∀{names:List (Str×NameKind)} {x:Str},names.lookup x=some .free->
  (names.map λ(n,k)=>if (k == NameKind.free&&env.scope.kind == .function&&env.kindOf n == some .cell) then (n,NameKind.cell) else (n,k)).lookup x=some .cell\/
  (names.map λ(n,k)=>if (k == NameKind.free&&env.scope.kind == .function&&env.kindOf n == some .cell) then (n,NameKind.cell) else (n,k)).lookup x=some .free
 |[],_,h=>by simp at h
 | (n,k)::r,x,h=>by
  simp![List.map_cons]
  by_cases hx:x=n
  ·subst hx;simp[List.lookup_cons]at h;subst h
   by_cases hc:(NameKind.free == NameKind.free&&env.scope.kind == .function&&env.kindOf x == some .cell)=true
   ·rw[if_pos hc];left;simp[List.lookup_cons]
   ·rw[if_neg hc];right;simp[List.lookup_cons]
  ·have hb:(x == n)=false:=(-hx:)
   rw[List.lookup_cons,hb]at h;have ih:=JZ (env:=env) h
   by_cases hc:(k == NameKind.free&&env.scope.kind == .function&&env.kindOf n == some .cell)=true
   ·rw[if_pos hc];simp![List.lookup_cons,hb];exact ih
   ·rw[if_neg hc];simp![List.lookup_cons,hb];exact ih
theorem qdN{env:Env}:∀{names:List (Str×NameKind)} {x:Str} {k':NameKind},(names.map λ(n,k)=>if (k == NameKind.free&&env.scope.kind == .function&&env.kindOf n == some .cell) then (n,NameKind.cell) else (n,k)).lookup x=some k'->
  k'=.cell\/k'=.free->(x,NameKind.free)∈names\/(x,NameKind.cell)∈names
 |[],_,_,h,_=>by simp at h
 | (n,k)::r,x,k',h,hk=>by
  simp![List.map_cons]at h
  by_cases hx:x=n
  ·subst hx
   by_cases hc:(k == NameKind.free&&env.scope.kind == .function&&env.kindOf x == some .cell)=true
   ·have:k=.free:=by simp at hc;exact hc.1.1
    subst this;exact .inl List.mem_cons_self
   ·rw[if_neg hc]at h;simp[List.lookup_cons]at h;subst h;rcases hk with rfl|rfl
    ·exact .inr List.mem_cons_self
    ·exact .inl List.mem_cons_self
  ·have hb:(x == n)=false:=(-hx:)
   have ih:=qdN (env:=env) (names:=r) (x:=x) (k':=k') (by
    by_cases hc:(k == NameKind.free&&env.scope.kind == .function&&env.kindOf n == some .cell)=true
    ·rw[if_pos hc]at h;simp![List.lookup_cons,hb]at h;exact h
    ·rw[if_neg hc]at h;simp![List.lookup_cons,hb]at h;exact h) hk
   exact ih.imp (List.mem_cons_of_mem _) (List.mem_cons_of_mem _)
def blk(X:Cx)(N:List Str)(scope:Scope)(cl:List (Str×Addr))(C:Addr)(fp:List Addr)(s2:Shared)(H2:Hp):Cx:=
 { X with N:=N,s₀:=s2,Hv:=H2,env:=compEnvC scope cl C X.env,outer:=X.stack,stack:=X.stack,ex:=fp,fn:=λ_=>false,pn:=[],xe:=λ_ _=>False }
structure BlkScope(X:Cx)(own:List Str)(fr:List Nat)(scope:Scope):Prop where
 kind:scope.kind=.function
 nocell:∀x∈scope.names,x.2≠.cell
 names:∀x∈scope.names,x.2=.local->scope.names.lookup x.1=some .local
 free:∀x∈scope.names,x.2=.free->X.env.kindOf x.1=some .cell\/X.env.kindOf x.1=some .free
 look:∀i∈fr,scope.names.lookup (X.N.getD i "")=some .free
def JI(X:Cx)(own:List Str)(fr:List Nat):List Str:=own++fr.map λi=>X.N.getD i ""
def YX(own:List Str)(fr:List Nat)(Z:St):St:=(own.map λ_=>none)++fr.map λi=>(Z[i]?).join
section
variable{X:Cx}{pins:PP}{Z:St}{H:Hp}{s:Shared}{own:List Str}{fr:List Nat}{scope:Scope}
abbrev qdc(its:List Value)(n:Nat):Obj:={ cls:=.type "list",data:=.seq its.toArray n }
def qkK{C:Addr}{fp:List Addr}(B:BlkScope X own fr scope)(I:Inv X pins Z H s)(hf:∀b∈fp,qct X pins H b)(hfo:∀b∈fp,b < s.heap.objs.size)(hC:s.heap.objs.size<=C) :
  (blk X (JI X own fr) scope (zy X.env scope.names []) C fp s H).Ok where
 mod:=I.ok.mod
 kind:=B.kind
 glob:=I.ok.glob
 blt:=I.ok.blt
 above:=hC
 inj:=λx y c h1 h2=>I.ok.inj x y c (yY (λz hz e=>I.ok.has _ (B.free z hz e)) x c h1) (yY (λz hz e=>I.ok.has _ (B.free z hz e)) y c h2)
 has:=λx h=>by
  have h':(x,NameKind.free)∈scope.names\/(x,NameKind.cell)∈scope.names:=by
   rcases h with h|h
   ·exact qdN (env:=X.env) h (.inl rfl)
   ·exact qdN (env:=X.env) h (.inr rfl)
  rcases h' with h'|h'
  ·exact qaS _ _ _ h'
  ·exact absurd rfl (B.nocell _ h')
 cab:=λx c h=>nomatch h
 hd:=I.ok.hd
 frames:=I.ok.frames
 stk:=.inl rfl
 exf:=λb hb=>{Nat.ne_of_lt (Nat.lt_of_lt_of_le (hfo b hb) hC),λx c e=>(hf b hb).2.2.2.2.1 x c (yY (λz hz e=>I.ok.has _ (B.free z hz e)) x c e)}
 bs:=I.bs
 bsz:=Nat.le_trans I.ok.bsz I.sz
 noex:=λb o e hb=>by
  rcases (hf b hb).2.2.2.1 with z|z
  ·exact I.ok.noex b o e z
  ·exact absurd (Nat.lt_of_lt_of_le (Heap.lt_size (I.ok.bs b o e).1) z) (Nat.lt_irrefl _)
 exfs:=λb hb z=>by
  rcases List.mem_cons.mp (I.stkSub b z) with e|e
  ·exact(hf b hb).2.1 e
  ·exact(hf b hb).2.2.1 e
 funs:=I.stack
 frf:=I.stkFree
def qdO{C D:Addr}{fp:List Addr}{h4:Heap}{tk:Nat}{n:Nat}(B:BlkScope X own fr scope)(I:Inv X pins Z H s)(hf:∀b∈fp,qct X pins H b)(hfo:∀b∈fp,b < s.heap.objs.size)(hC:s.heap.objs.size<=C)(hD:s.heap.objs.size<=D)(hDC:D≠C)
  (k:∀b o,s.heap.get? b=some o->h4.get? b=some o) (hn:h4.Ns C λ_=>none) (hl:h4.get? D=some (qdc [] n)) :
  Inv (blk X (JI X own fr) scope (zy X.env scope.names []) C fp s H) [(D,qdc [] n)] (YX own fr Z) H { s with heap:=h4,toks:=tk }:=by
 have sub:=yY (env:=X.env) (ns:=scope.names) (λz hz e=>I.ok.has _ (B.free z hz e));refine{qkK B I hf hfo hC,rfl,I.bare,Un.kept k,{_,hn,λi x v h1 h2 h3=>?_},λx c e=>?_,I.hok.fresh hC,λx c e=>I.freeC x c (sub x c e),λp hp=>?_,I.hok.kept k,?_}
 ·have h1:(JI X own fr)[i]?=some x:=h1;unfold JI at h1;unfold YX at h2
  by_cases hi:i < own.length
  ·rw[List.getElem?_append_left (-hi:),List.getElem?_map]at h2
   cases q:own[i]? with
   |none=>rw[q]at h2;cases h2
   |some a=>rw[q]at h2;cases h2
  ·rw[List.getElem?_append_right (-hi:),List.getElem?_map]at h2;rw[List.getElem?_append_right (-hi:),List.getElem?_map]at h1;rw[List.length_map]at h2
   cases q:fr[i - own.length]? with
   |none=>rw[q]at h2;cases h2
   |some j=>
    rw[q]at h1 h2;have h1:X.N.getD j "" = x:=Option.some.inj h1;have h2:(Z[j]?).join=some v:=Option.some.inj h2
    have h2':Z[j]?=some (some v):=by
     cases w:Z[j]? with
     |none=>rw[w]at h2;cases h2
     |some y=>rw[w]at h2;cases y with
      |none=>cases h2
      |some y=>cases h2;rfl
    have hjl:j < X.N.length:=by rw[<-I.len];exact(List.getElem?_eq_some_iff.mp h2').1
    have hN:X.N[j]?=some x:=by rw[<-h1,List.getElem?_eq_getElem hjl];simp[hjl]
    have hfree:scope.names.lookup x=some .free:=by rw[<-h1];exact B.look j (List.mem_of_getElem? q)
    have hk:=B.free (x,.free) (PySem.mem_of_lookup hfree) rfl;let(m,_,hloc):=I.loc
    let(u,r,l):=hloc j x v hN h2' (by
     rcases hk with z|z
     ·exact .inr (.inl z)
     ·exact .inr (.inr z))
    refine{u,r,.inr {?_,?_}}
    ·exact JZ (env:=X.env) hfree
    ·rcases l with ⟨l,_⟩|⟨_,c,hc,o,ho,hd⟩
     ·have hk:X.env.kindOf x=some .cell\/X.env.kindOf x=some .free:=hk;rw[l]at hk;rcases hk with z|z<;>cases z
     ·let(c',hc'):=qaS (env:=X.env) scope.names [] x (PySem.mem_of_lookup hfree)
      have:=sub x c' hc'
      rw[hc]at this;cases this;exact{c,hc',o,k _ _ ho,hd}
 ·let(v,o,ho,hd):=I.cell x c (sub x c e);exact{v,o,k _ _ ho,hd}
 ·have hp:p∈[(D,qdc [] n)]:=by simpa [blk] using hp
  cases List.mem_singleton.mp hp;refine{hl,I.hok.fresh hD,hDC,λz=>?_,λv e=>by cases e};rcases List.mem_cons.mp (I.stkSub D z) with e|e
  ·exact Nat.ne_of_lt (Nat.lt_of_lt_of_le I.lt hD) e.symm
  ·exact I.nofs hD e
 ·show(YX own fr Z).length=(JI X own fr).length;unfold YX JI;simp
end
def PIf(X:Cx)(ifs:List Expr)(t:TT):Prop:=
 ∀(pins:PP) (s:Shared) (Z:St) (H:Hp) (Q:Bool->Hp->Prop),Inv X pins Z H s->t Z H Q->
  wpAny (model X.prog X.w) X.A (forIn ifs true λc r=>if r=true then do let ok<-isTrue c X.env (eval c X.env);pure (ForInStep.yield ok) else pure (ForInStep.yield r)) (TP X pins Z Q) X.xe s
def qpK:TT:=λ_ H Q=>Q true H
section
variable{X:Cx}{pins:PP}{Z:St}{H:Hp}{s:Shared}{own:List Str}{fr:List Nat}{scope:Scope}
def qii:PIf X [] qpK:=λ_ _ _ H _ I h=>wpAny_tests_nil ⟨H,I,h⟩
def qij{c:Expr}{t:TT}(h:PT X c t):PIf X [c] t:=λpins s Z H Q I hw=>wpAny_tests_one (h pins s Z H Q I hw)
def ZJ(J:It)(g:TG)(tc:TT)(te:TE)(fin:List V->Hp->Prop)(W:Nat->Nat->List V->St->Hp->Prop):Prop:=
 ∀i m ys Z' H',W i m ys Z' H'->(J.stop i H'/\fin ys H')\/
  (J.go i H'/\ys.length < sizeLine/\∃N:List V->St->Hp->Prop,(∀ys' Z2 H2,N ys' Z2 H2->∃m',m' < m/\W (i+1) m' ys' Z2 H2)/\
   ∀x H2,J.yld i H' x H2->g x Z' H2 λZ2 H3=>tc Z2 H3 λb H4=>if b=true then te Z2 H4 λy H5=>N (ys++[y]) Z2 H5 else N ys Z2 H4)
def qik(own:List Str)(fr:List Nat)(wi:TI)(g:TG)(tc:TT)(te:TE):TE:=λZ H Q=>wi Z H λJ H1=>∃W:Nat->Nat->List V->St->Hp->Prop,(∃m,W 0 m [] (YX own fr Z) H1)/\ZJ J g tc te (λys H'=>∀l,H' l=none->Q (.ref l) (upd H' l (.lst ys))) W
def qil{N:List Str}{cl:List (Str×Addr)}{C l:Addr}{fp:List Addr}{s4:Shared}{H':Hp}{Z':St}{its:List Value}{k:Nat}{ys:List V}(I:Inv X pins Z H s)(hf:∀b∈fp,qct X pins H b)(hl:s.heap.objs.size<=l)
  (I4:Inv (blk X N scope cl C fp s H) [(l,qdc its k)] Z' H' s4) (rv:qB ys its) (hz:ys.length<=sizeLine):Inv X pins Z (upd H' l (.lst ys)) s4:=by
 have base:Un (frs X.stack) fp H H' s.heap s4.heap:=I4.base;have pin:=I4.pin (l,qdc its k) (List.mem_append_right _ List.mem_cons_self);have nl:∀b o,s.heap.get? b=some o->b≠l:=λb o e=>Nat.ne_of_lt (Nat.lt_of_lt_of_le (Heap.lt_size e) hl);have nh:∀b u,H' b=some u->b≠l:=λb u e=>qY e pin.2.1;refine I.call' (ch:=fp) I4.os ⟨base.keep,base.slot,λb o e n hx=>?_,base.there,λb xs e=>?_,λb o u e=>?_,λb ps e=>?_⟩ (λb u e=>?_) I4.bare (λb hb=>{(hf b hb).2.2.2.1,(hf b hb).2.1,(hf b hb).2.2.2.2.1,(hf b hb).2.2.2.2.2})
 ·rw[qe (nl b o e)];exact base.free b o e n hx
 ·have:=base.tups b xs e
  rw[qe (nh b _ this)];exact this
 ·have:=base.frzs b o u e
  rw[qe (nh b _ this)];exact this
 ·let(more,this):=base.tbls b ps e;exact{more,by rw[qe (nh b _ this)];exact this}
 ·by_cases hb:b=l
  ·subst hb;rw[qg]at e;cases e;exact⟨hz,its,k,rv,pin.1⟩
  ·rw[qe hb]at e;exact(I4.hok b u e).stay (λc v _ q=>q) (λc q=>by rw[qe (nh c _ q)];exact q) λc xs q=>by rw[qe (nh c _ q)];exact q
def ZK{elt iter tg:Expr}{ifs:List Expr}{pos:Pos}{g:TG}{tc:TT}{te:TE}{it:Addr}{fp:List Addr}{tn:Nat->Heap->Prop}{J:It}{fin:List V->Hp->Prop}{W:Nat->Nat->List V->St->Hp->Prop}{m0:Nat}
  {RR:Value->Addr->Result->Shared->Prop} {E:PQ} (hc:X.calm=true) (B:BlkScope X own fr scope)
  (hg:∀cl C fp s2 H2,PG (blk X (JI X own fr) scope cl C fp s2 H2) tg g) (ht:∀cl C fp s2 H2,PIf (blk X (JI X own fr) scope cl C fp s2 H2) ifs tc) (he:∀cl C fp s2 H2,PE (blk X (JI X own fr) scope cl C fp s2 H2) elt te)
  (I:Inv X pins Z H s) (T:Turn X.prog X.w X.K tg J fp it tn) (st0:tn 0 s.heap) (hf:∀b∈fp,qct X pins H b) (w0:W 0 m0 [] (YX own fr Z) H) (hW:ZJ J g tc te fin W)
  (post:∀(l C:Addr) (s4:Shared) (ys:List V) (H':Hp) (m:PR),s.heap.objs.size<=C->H' C=none->H' l=none->l≠C->s4.heap.Ns C m->Inv X pins Z (upd H' l (.lst ys)) s4->fin ys H'->RR (.ref l) C (.ok .next) s4) :
  wpAny (model X.prog X.w) X.A (newList []) (λacc s₃=>wpAny (model X.prog X.w) X.A (newFunctionEnv scope X.env.globals (zy X.env scope.names []) [] X.env.qual none .none (some X.env)) (λcenv s₄=>codeAny (model X.prog X.w) X.A (.compStart (.ListComp elt [⟨tg,iter,ifs,0⟩] scope pos) 0 (.ref it) acc { cenv with scope:=relabel scope X.env }) (RR acc cenv.locals) s₄) E s₃) E s:=by
 have hfo:∀b∈fp,b < s.heap.objs.size:=λb hb=>by let(o,e,_):=T.obj _ _ st0 b hb;exact Heap.lt_size e
 refine wpAny_newObj_type (wpAny_newFunctionEnv B.nocell (by intro y hy;simp at hy) (λh1 hns hsb=>?_) B.kind);dsimp only at hns hsb ⊢;generalize hH2:s.heap.push { cls:=.type "list",dict:=none,data:=.seq ([]:List Value).toArray }=h2 at hns hsb ⊢;have hC:h2.objs.size=s.heap.objs.size+1:=by rw[<-hH2,Heap.size_push]
 have hDC:s.heap.objs.size≠h2.objs.size:=by rw[hC];exact Nat.ne_of_lt (Nat.lt_succ_self _)
 have hCle:s.heap.objs.size<=h2.objs.size:=by rw[hC];exact Nat.le_succ _
 have old:∀b o,s.heap.get? b=some o->h1.get? b=some o:=λb o e=>hsb.extBut b o (by rw[hC];exact Nat.ne_of_lt (Nat.lt_succ_of_lt (Heap.lt_size e))) (Heap.get?_push_of_some _ (hH2▸Heap.get?_push_of_some _ e));have hacc:h1.get? s.heap.objs.size=some (qdc [] 0):=hsb.extBut _ _ hDC (Heap.get?_push_of_some _ (hH2▸Heap.get?_push_size _ rfl));have hns':h1.Ns h2.objs.size λ_=>none:=hns;have I0:=qdO (tk:=s.toks+([]:List (Str×Value)).length) B I hf hfo hCle (Nat.le_refl _) hDC old hns' hacc;have st1:tn 0 h1:=T.keep _ _ _ st0 λb hb o e=>old b o e
 have loop:codeAny (model X.prog X.w) X.A (.compLoop (.ListComp elt [⟨tg,iter,ifs,0⟩] scope pos) 0 (.ref it) (.ref s.heap.objs.size) (compEnvC scope (zy X.env scope.names []) h2.objs.size X.env))
   (RR (.ref s.heap.objs.size) h2.objs.size) { s with heap:=h1,toks:=s.toks+([]:List (Str×Value)).length }:=by
  generalize hl:s.heap.objs.size=l at *;generalize hCC:h2.objs.size=C at *
  have stat:∀{H':Hp} {o:Obj},(∀b∈fp,H' b=none)->∀b∈fp,qct (blk X (JI X own fr) scope (zy X.env scope.names []) C fp s H) [(l,o)] H' b:=λ{H' o} hn b hb=>by
   refine{hn b hb,λe=>?_,λz=>?_,.inl hb,λx c e z=>?_,λp hp z=>?_}
   ·exact Nat.ne_of_lt (Nat.lt_of_lt_of_le (hfo b hb) hCle) e
   ·rcases List.mem_cons.mp (I.stkSub b z) with e|e
    ·exact(hf b hb).2.1 e
    ·exact(hf b hb).2.2.1 e
   ·exact(hf b hb).2.2.2.2.1 x c (yY (λz hz e=>I.ok.has _ (B.free z hz e)) x c e) z
   ·have hp:p∈[(l,o)]:=by simpa [blk] using hp
    cases List.mem_singleton.mp hp;exact Nat.ne_of_lt (hfo b hb) z.symm
  refine codeAny_loop rfl (λn s'=>∃i ys Z' H' its k,Inv (blk X (JI X own fr) scope (zy X.env scope.names []) C fp s H) [(l,qdc its k)] Z' H' s'/\qB ys its/\ys.length<=sizeLine/\tn i s'.heap/\(∀b∈fp,H' b=none)/\W i n ys Z' H')
   (λn s3 hI=>?_) m0 ⟨0,[],YX own fr Z,H,[],0,I0,.nil,Nat.zero_le _,st1,λb hb=>(hf b hb).1,w0⟩
  show wpAny _ X.A ((compTurn (.ListComp elt [⟨tg,iter,ifs,0⟩] scope pos) 0 (.ref it) (.ref l) (compEnvC scope (zy X.env scope.names []) C X.env)).onRaise (λx=>do noteFrame x (compEnvC scope (zy X.env scope.names []) C X.env);theTreesLotGoes x)) _ _ s3;refine wpAny_noted ?_;rw[compTurn_list];let(i,ys,Z3,H3,its,k,I3,rv,hz,st3,fr3,w3):=hI;refine wpAny_bind (wpAny_standAt (wpAny_bind ?_));rcases hW i n ys Z3 H3 w3 with ⟨stop,qn⟩|⟨go,hlt,N,hN,step⟩
  ·refine thn (T.done (blk X (JI X own fr) scope (zy X.env scope.names []) C fp s H) rfl rfl rfl hc i _ s3 Z3 H3 _ I3 (stat fr3) st3 stop) λr s4 hq1=>?_;let(hr,I4):=hq1;subst hr;let(m,hm,_):=I4.loc;exact wpAny_pure (post l C s4 ys H3 m hCle I4.free (I4.pin (l,qdc its k) (List.mem_append_right _ List.mem_cons_self)).2.1 hDC hm (qil I hf (Nat.le_of_eq hl) I4 rv hz) qn)
  ·refine thn (T.item (blk X (JI X own fr) scope (zy X.env scope.names []) C fp s H) rfl rfl rfl hc i _ s3 Z3 H3 _ I3 (stat fr3) st3 go) λr s4 hq1=>?_;let(u,hr,h4):=hq1;subst hr;refine wpAny_bind (thn h4 λ_ s5 hq1=>?_);let(x,H5,I5,r5,y5,st5,fr5):=hq1;have I5':=I5.pinned (stat fr5) (T.obj _ _ st5);refine wpAny_bind (wpAny_mono (hg _ _ _ _ _ _ s5 Z3 H5 x u _ I5' r5 (step x H5 y5)) (λ_ s6 ⟨Z6,H6,I6,q6⟩=>?_) λ_ _ z=>z.elim);refine wpAny_bind (wpAny_mono (ht _ _ _ _ _ _ s6 Z6 H6 _ I6 q6) (λb s7 ⟨H7,I7,q7⟩=>?_) λ_ _ z=>z.elim)
   have back:∀{Z8:St} {H8:Hp} {s8:Shared},Inv (blk X (JI X own fr) scope (zy X.env scope.names []) C fp s H) ([(l,qdc its k)]++Zq fp s5.heap) Z8 H8 s8->(∀b∈fp,∀o,s5.heap.get? b=some o->s8.heap.get? b=some o)/\∀b∈fp,H8 b=none:=λI8=>by refine{λb hb o e=>(I8.pin (b,o) (List.mem_append_right _ (List.mem_append_right _ (yo hb e)))).1,λb hb=>?_};let(o,e,_):=T.obj _ _ st5 b hb;exact(I8.pin (b,o) (List.mem_append_right _ (List.mem_append_right _ (yo hb e)))).2.1
   cases b with
   |false=>let(k1,k2):=back I7;simp![Bool.false_eq_true,if_false]at q7 ⊢;let(m',hm',w7):=hN _ _ _ q7;exact wpAny_pure ⟨rfl,m',hm',i+1,ys,Z6,H7,its,k,I7.unpinned,rv,hz,T.keep _ _ _ st5 k1,k2,w7⟩
   |true=>
    simp![if_true]at q7 ⊢;refine wpAny_bind (wpAny_bind (wpAny_mono (he _ _ _ _ _ _ s7 Z6 H7 _ I7 q7) (λw s8 ⟨y,H8,I8,r8,q8⟩=>?_) λ_ _ z=>z.elim));let(k1,k2):=back I8;let(m',hm',w8):=hN _ _ _ q8;have pin:=I8.pin (l,qdc its k) (List.mem_append_right _ (List.mem_append_left _ List.mem_cons_self));have hil:its.length=ys.length:=rv.length.symm;refine wpAny_bind (append_at pin.1 (λh9 hs9 hD9=>?_) (by rw[List.size_toArray,hil];exact hz));have new:h9.get? l=some (qdc (its++[w]) (k+1)):=by rw[hD9,List.push_toArray]
    have Ia:Inv (blk X (JI X own fr) scope (zy X.env scope.names []) C fp s H) [] Z6 H8 s8:=I8.pins_of (λp hp=>nomatch hp)
    have Ib:Inv (blk X (JI X own fr) scope (zy X.env scope.names []) C fp s H) [] Z6 H8 { s8 with heap:=h9 }:=Ia.turned (t':=s8.toks) (λb o hb e=>hs9.extBut b o hb e) pin.2.1 pin.2.2.1 (.inr (Nat.le_of_eq hl)) (λx c e z=>by
     let(v,o,ho,hd):=I8.cell x c e;rw[z,pin.1]at ho;cases ho
     cases hd) (λp hp=>by
      have hp:p∈([]:PP):=by simpa [blk] using hp
      cases hp)
    have Ic:Inv (blk X (JI X own fr) scope (zy X.env scope.names []) C fp s H) [(l,qdc (its++[w]) (k+1))] Z6 H8 { s8 with heap:=h9 }:=Ib.pins_of λp hp=>by cases List.mem_singleton.mp hp;exact{new,pin.2.1,pin.2.2.1,pin.2.2.2.1,λv e=>by cases e}
    refine wpAny_pure (wpAny_pure ⟨rfl,m',hm',i+1,ys++[y],Z6,H8,its++[w],k+1,Ic,rv.append %[r8|0],by rw[List.length_append];exact hlt,T.keep _ _ _ st5 λb hb o e=>?_,k2,w8⟩);exact hs9.extBut b o (Nat.ne_of_lt (hfo b hb)) (k1 b hb o e)
 exact codeAny_compStart_list loop (T.self _ 0 _ _ _ st1 loop)
def Inv.letgo{s2 s4:Shared}{H2 H4:Hp}{C:Addr}{h':Heap}(I2:Inv X pins Z H2 s2){Z4:St}(I4:Inv X pins Z4 H4 s4)(hC:s2.heap.objs.size<=C)(hn:H4 C=none)(hs:Heap.SameBut C s4.heap h'):Inv X pins Z4 H4 { s4 with heap:=h' }:=by let(f0,f1,_,f3,f4,f5):=I2.fpOk hC hn;exact I4.turned (t':=s4.toks) (λb o hb e=>hs.extBut b o hb e) f0 f1 f3 f4 f5
def qim{elt iter tg:Expr}{ifs:List Expr}{pos:Pos}{g:TG}{tc:TT}{te:TE}{wi:TI}(own:List Str)(fr:List Nat)(hc:X.calm=true)(B:BlkScope X own fr scope)(hi:PI X tg iter wi)
  (hg:∀cl C fp s2 H2,PG (blk X (JI X own fr) scope cl C fp s2 H2) tg g) (ht:∀cl C fp s2 H2,PIf (blk X (JI X own fr) scope cl C fp s2 H2) ifs tc) (he:∀cl C fp s2 H2,PE (blk X (JI X own fr) scope cl C fp s2 H2) elt te)
  (hs:∀x,foldedSetIterable iter X.env x=pure x:=by intro _;rfl):PE X (.ListComp elt [⟨tg,iter,ifs,0⟩] scope pos) (qik own fr wi g tc te):=by
 intro pins s Z H Q I h;rw[eval_ListComp];refine wpAny_comprehension_free (use:=none) rfl hs (qg9 λz hz e=>I.ok.has _ (B.free z hz e)) B.kind B.names ?_;refine thn (hi pins s Z H _ I h) λv s1 h1=>thn h1 λitv s2 h2=>?_;let(it,fp,tn,J,H2,e,I2,T,st2,f2,W,(m0,w0),hW):=h2;subst e;refine ZK hc B hg ht he I2 T st2 f2 w0 hW λl C s4 ys H' m hC nC nl hlC hm I4 fin=>?_;exact{m,hm,λh' hs'=>{.ref l,_,I2.letgo I4 hC (by rw[qe (Ne.symm hlC)];exact nC) hs',rfl,fin l nl}}
def qin{elt iter tg:Expr}{ifs:List Expr}{pos pos' cpos:Pos}{g:TG}{tc:TT}{te:TE}{wi:TI}{i:Nat}{x:Str}(own:List Str)(fr:List Nat)(hN:X.N.Nodup)(hxi:X.N[i]?=some x)(hx:X.env.scope.names.lookup x=some .local)(hc:X.calm=true)(B:BlkScope X own fr scope)(hi:PI X tg iter wi)
  (hg:∀cl C fp s2 H2,PG (blk X (JI X own fr) scope cl C fp s2 H2) tg g) (ht:∀cl C fp s2 H2,PIf (blk X (JI X own fr) scope cl C fp s2 H2) ifs tc) (he:∀cl C fp s2 H2,PE (blk X (JI X own fr) scope cl C fp s2 H2) elt te)
  (hsw:swapsWith (.ListComp elt [⟨tg,iter,ifs,0⟩] scope cpos) (some (.Name x pos')) pos.line X.env=pure true:=by rfl)
  (hs:∀x,foldedSetIterable iter X.env x=pure x:=by intro _;rfl):PS X (.Assign [.Name x pos'] (.ListComp elt [⟨tg,iter,ifs,0⟩] scope cpos) pos) (qnH (qik own fr wi g tc te) (qfA i)):=by
 intro pins s Z H D I h;rw[exec_Assign_Name_used _ _ _ _ hsw];refine wpAny_bind (wpAny_standAt (wpAny_bind ?_));show wpAny _ X.A (do let _<-comprehension (.ListComp elt [⟨tg,iter,ifs,0⟩] scope cpos) scope X.env _ (newList []) false (eval iter X.env) (some (assign (.Name x pos') X.env))) _ _ s;refine wpAny_bind (wpAny_mono (wpAny_comprehension_free (use:=some (assign (.Name x pos') X.env)) (Q:=λ_ s'=>SP X pins D .next s') rfl hs (qg9 λz hz e=>I.ok.has _ (B.free z hz e)) B.kind B.names ?_) (λ_ s' hq=>wpAny_pure (wpAny_pure hq)) λ_ _ e=>e);refine thn (hi pins s Z H _ I h) λv s1 h1=>thn h1 λitv s2 h2=>?_;let(it,fp,tn,J,H2,e,I2,T,st2,f2,W,(m0,w0),hW):=h2;subst e;refine ZK (RR:=λacc C=>compPost (model X.prog X.w) X.A X.xe (some (assign (.Name x pos') X.env)) (λ_ s'=>SP X pins D .next s') acc C) hc B hg ht he I2 T st2 f2 w0 hW λl C s4 ys H' m hC nC nl hlC hm I4 fin=>?_;show wpAny _ X.A (assign (.Name x pos') X.env (.ref l)) _ _ s4;refine wpAny_assign_Name (yT I4 hN hxi (.inl hx) (v:=.ref l) rfl (λs5 I5 hsb=>?_) (.inr hx));let(a,sb,ha):=hsb
 have hCa:C≠a:=by
  rcases ha with rfl|ha
  ·exact Nat.ne_of_gt (Nat.lt_of_lt_of_le I2.lt hC)
  ·let(v,q):=I2.cell x a ha;exact Nat.ne_of_gt (Nat.lt_of_lt_of_le q.lt hC)
 exact{m,hm.sameBut sb hCa,λh' hs'=>{_,_,I2.letgo I5 hC (by rw[qe (Ne.symm hlC)];exact nC) hs',fin l nl}}
end
mutual
def DV(K:Frag)(H:Hp):PyData->V->Prop
 |.none,v=>v=.non
 |.bool b,v=>v=.bl b
 |.int i,v=>v=.int i
 |.str x,v=>v=.str x
 |.list ds,v=>∃a xs,v=.ref a/\SqL K H a xs/\DVs K H ds xs
 |.tuple ds,v=>∃a xs,v=.ref a/\SqT K H a xs/\DVs K H ds xs
 |.dict _,_=>False
def DVs(K:Frag)(H:Hp):List PyData->List V->Prop
 |[],xs=>xs=[]
 | d::ds,xs=>∃x r,xs=x::r/\DV K H d x/\DVs K H ds r
end
section
variable{X:Cx}{pins:PP}{Z:St}{H:Hp}{s:Shared}
mutual
theorem DV.reads(I:Inv X pins Z H s):∀{d:PyData} {v:V} {u:Value},DV X.K H d v->qH v u->∃as,Reads s.heap u d as
 |.none,v,u,h,r=>by
  have h:v=.non:=by simpa [DV] using h
  subst h;cases r;exact{_,Reads.none}
 |.bool b,v,u,h,r=>by
  have h:v=.bl b:=by simpa [DV] using h
  subst h;cases r;exact{_,Reads.bool b}
 |.int i,v,u,h,r=>by
  have h:v=.int i:=by simpa [DV] using h
  subst h;let(t,rfl):=r;exact{_,Reads.int i t}
 |.str x,v,u,h,r=>by
  have h:v=.str x:=by simpa [DV] using h
  subst h;let(t,rfl):=r;exact{_,Reads.str x t}
 |.list ds,v,u,h,r=>by
  have h:∃a xs,v=.ref a/\SqL X.K H a xs/\DVs X.K H ds xs:=by simpa [DV] using h
  let(a,xs,rfl,hq,hd):=h;cases r;let(its,rv,pl,_):=I.list hq;let(as,ra):=DVs.reads I hd rv;let(o,ho,hc,n,hdd):=pl.isList;exact{_,reads_list_at ho hc hdd (-ra:)}
 |.tuple ds,v,u,h,r=>by
  have h:∃a xs,v=.ref a/\SqT X.K H a xs/\DVs X.K H ds xs:=by simpa [DV] using h
  let(a,xs,rfl,hq,hd):=h;cases r;let(its,rv,pl,_):=I.tuple hq;let(as,ra):=DVs.reads I hd rv;let(o,ho,hc,n,hdd):=pl;exact{_,reads_tuple_at ho hc hdd (-ra:)}
 |.dict _,v,u,h,r=>by simp[DV]at h
theorem DVs.reads(I:Inv X pins Z H s):∀{ds:List PyData} {vs:List V} {us:List Value},DVs X.K H ds vs->qB vs us->∃as,ReadsAll s.heap us ds as
 |[],vs,us,h,r=>by
  have h:vs=[]:=by simpa [DVs] using h
  subst h;cases r;exact{_,ReadsAll.nil}
 | d::ds,vs,us,h,r=>by
  have h:∃x r,vs=x::r/\DV X.K H d x/\DVs X.K H ds r:=by simpa [DVs] using h
  let(x,rr,rfl,h1,h2):=h
  cases r with
  |cons r1 r2=>let(as,ra):=DV.reads I h1 r1;let(bs,rb):=DVs.reads I h2 r2;exact{_,ReadsAll.cons ra rb}
end
def qpL(K:Frag):R2:=λx y H Q=>∃d e,DV K H d x/\DV K H e y/\SeqAt.shaped d=true/\SeqAt.shaped e=true/\Q (.bl (PyData.eqv d e)) H
def qpM(K:Frag):R2:=λx y H Q=>∃d e,DV K H d x/\DV K H e y/\SeqAt.shaped d=true/\SeqAt.shaped e=true/\Q (.bl (!PyData.eqv d e)) H
def qkL(hu:X.A.units+64 < cLine):OpR X (compareOp .Eq) (qpL X.K):=by intro pins s Z H x y v u Q I rx ry h;let(d,e,hd,he,sd,se,q):=h;let(as,ra):=DV.reads I hd rx;let(bs,rb):=DV.reads I he ry;exact eq_dataH ra rb sd se hu ⟨.bl _,H,I,rfl,q⟩
def qkM(hu:X.A.units+64 < cLine):OpR X (compareOp .NotEq) (qpM X.K):=by intro pins s Z H x y v u Q I rx ry h;let(d,e,hd,he,sd,se,q):=h;let(as,ra):=DV.reads I hd rx;let(bs,rb):=DV.reads I he ry;exact ne_dataH ra rb sd se hu ⟨.bl _,H,I,rfl,q⟩
def qfO:qW X (.builtin "isinstance") (λvs H Q=>∃x n t b,vs=[x,.ty n]/\TyOf X.K H x t/\PySem.W.kitOne X.K t (.type n)=some b/\Q (.bl b) H):=by intro pins s Z H xs us Q I r h;let(x,n,t,b,rfl,ty,e,q):=h;let(u,w,rfl,rx,rn):=Zs r;cases rn;exact Zw I rx ty e λtk=>{.bl b,H,I.tok tk,rfl,q}
def ZL:∀(bs:List Bool),((List.range bs.length).all λi=>bs.getD i false)=bs.all id:=by
 intro bs;rw[Bool.eq_iff_iff,List.all_eq_true,List.all_eq_true];constructor
 ·intro h x hx;let(i,hi,rfl):=List.mem_iff_getElem.mp hx
  have:=h i (List.mem_range.mpr hi)
  simpa [hi] using this
 ·intro h i hi;have hi:=List.mem_range.mp hi
  have:=h bs[i] (List.getElem_mem hi)
  simpa [hi] using this
def ZM:∀(bs:List Bool),((List.range bs.length).any λi=>bs.getD i false)=bs.any id:=by
 intro bs;rw[Bool.eq_iff_iff,List.any_eq_true,List.any_eq_true];constructor
 ·rintro⟨i,hi,h⟩;have hi:=List.mem_range.mp hi;exact{bs[i],List.getElem_mem hi,by simpa [hi] using h}
 ·rintro⟨x,hx,h⟩;let(i,hi,rfl):=List.mem_iff_getElem.mp hx;exact{i,List.mem_range.mpr hi,by simpa [hi] using h}
def Y4{p:Addr}{bs:List Bool}(hc:X.calm=true)(I:Inv X pins Z H s)(hq:SqL X.K H p (bs.map V.bl)){Q:VK}{k:Bool}(q:Q (.bl k) H)(f:(Nat->Bool)->Bool)(hk:f (λi=>bs.getD i false)=k) :
  wpAny (model X.prog X.w) X.A.in1 (pyIter (.ref p)) (λit s2=>∃I fp wr n P St tr,it=.ref I/\Walks X.prog X.w X.A.in1 I fp wr n P St/\St 0 s2.heap/\TruthOf X.prog X.w X.A.in1 P tr/\n=bs.length/\
   ∀h' tk,(∀b o,b∉wr->s2.heap.get? b=some o->h'.get? b=some o)->tr=(λi=>bs.getD i false)/\EP X pins Z Q (.bool k) { s2 with heap:=h',toks:=tk }) X.xe s:=by
 let(its,rv,pl,hz):=I.list hq;have hlt:p < s.heap.objs.size:=by let(_,e,_):=pl.isList;exact Heap.lt_size e
 refine wpAny_pyIter_list pl.isList ?_;refine{s.heap.objs.size,_,_,_,_,_,λi=>bs.getD i false,rfl,Walks.list (prog:=X.prog) (w:=X.w) (A:=X.A.in1) (show X.A.in1.handled=none from I.ok.hd hc) _ p (Nat.ne_of_lt hlt) its.toArray,{{_,Heap.get?_push_size _ rfl,rfl,rfl},pl.isList.push _},?_,?_,λh' tk kp=>{rfl,.bl k,H,?_,rfl,q}}
 ·intro i v s' Q' E' hv hq';have hv:its[i]?=some v:=(-hv:)
  have hi:i < its.length:=(List.getElem?_eq_some_iff.mp hv).1;have hl:=rv.length;rw[List.length_map]at hl
  have hb:(bs.map V.bl)[i]?=some (.bl (bs.getD i false)):=by rw[List.getElem?_map,List.getElem?_eq_getElem (1:)];simp[show i < bs.length by lia]
  let(u,hu,ru):=rv.get hb;rw[hv]at hu;cases hu;cases ru;exact wpAny_truthy_bool hq'
 ·have hl:=rv.length;rw[List.length_map]at hl;simp[hl]
 ·refine I.kept (t':=tk) λb o e=>kp b o (λhb=>?_) (Heap.get?_push_of_some _ e)
  have:b=s.heap.objs.size:=(-hb:)
  exact Nat.ne_of_lt (Heap.lt_size e) this
def qdP(hc:X.calm=true):qW X (.builtin "all") (λvs H Q=>∃(p:Addr) (bs:List Bool),vs=[.ref p]/\SqL X.K H p (bs.map V.bl)/\Q (.bl (bs.all id)) H):=by intro pins s Z H xs us Q I r h;let(p,bs,rfl,hq,q):=h;let(u,rfl,rx):=yU r;cases rx;refine call_all_walk (thn (Y4 hc I hq q (λf=>(List.range bs.length).all f) (ZL bs)) λit s2 h2=>?_);let(I',fp,wr,n,P,St,tr,rfl,W,st,tt,hn,fin):=h2;subst hn;refine{I',fp,wr,_,P,St,tr,rfl,W,st,tt,λh' tk kp=>?_};let(rfl,e):=fin h' tk kp;rw[ZL];exact e
def qdQ(hc:X.calm=true):qW X (.builtin "any") (λvs H Q=>∃(p:Addr) (bs:List Bool),vs=[.ref p]/\SqL X.K H p (bs.map V.bl)/\Q (.bl (bs.any id)) H):=by intro pins s Z H xs us Q I r h;let(p,bs,rfl,hq,q):=h;let(u,rfl,rx):=yU r;cases rx;refine call_any_walk (thn (Y4 hc I hq q (λf=>(List.range bs.length).any f) (ZM bs)) λit s2 h2=>?_);let(I',fp,wr,n,P,St,tr,rfl,W,st,tt,hn,fin):=h2;subst hn;refine{I',fp,wr,_,P,St,tr,rfl,W,st,tt,λh' tk kp=>?_};let(rfl,e):=fin h' tk kp;rw[ZM];exact e
def qpN(te:TE)(tl th:TO)(ts:TE)(K:Frag):TE:=λZ H Q=>te Z H λx H1=>tl Z H1 λl H2=>th Z H2 λu H3=>ts Z H3 λz H4=>∃a xs st ys,x=.ref a/\SqL K H4 a xs/\z=.int st/\st≠0/\ys.length<=xs.length/\(∀its:List Value,qB xs its->qB ys (slicePick its.toArray l u (some st)).toList)/\∀p,H4 p=none->Q (.ref p) (upd H4 p (.lst ys))
def qdR{e st:Expr}{te ts:TE}{lo hi:Option Expr}{tl th:TO}{pos p2:Pos}(he:PE X e te)(hl:PO X lo tl)(hu:PO X hi th)(hst:PE X st ts):PE X (.Subscript e (.Slice lo hi (some st) p2) pos) (qpN te tl th ts X.K):=by intro pins s Z H Q I h;refine Subscript_ (thn (he pins s Z H _ I h) λv s1 hq1=>?_);let(x,H1,I1,r1,q1):=hq1;refine wpAny_Slice (thn (hl pins s1 Z H1 _ I1 q1) λvl s2 ⟨l,H2,I2,pl,q2⟩=>thn (hu pins s2 Z H2 _ I2 q2) λvu s3 hq1=>?_);let(u,H3,I3,pu,q3):=hq1;rw[evalPart_some];refine thn (hst pins s3 Z H3 _ I3 q3) λvs s4 hq1=>?_;let(z,H4,I4,r4,q4):=hq1;let(a,xs,k,ys,rfl,hq,rfl,h0,hle,hys,q):=q4;cases r1;let(t,rfl):=r4;have I5:Inv X pins Z H4 { s4 with heap:=s4.heap.push { cls:=.type "slice",data:=.fields #[vl,vu,.int k t] } }:=I4.kept (t':=s4.toks) λb ob q=>Heap.get?_push_of_some _ q;let(its,rv,ht,hz):=I5.list hq;have hlen:=rv.length;show wpAny (model X.prog X.w) X.A (subscriptTail e (.Slice lo hi (some st) p2) (.ref a) (.ref s4.heap.objs.size)) (EP X pins Z Q) X.xe { s4 with heap:=s4.heap.push { cls:=.type "slice",data:=.fields #[vl,vu,.int k t] } };refine tail_any ht.isList.typeIs slot_list_getitem.lookup ?_ rfl;refine wpAny_getItem_list_slice ht.isList (Heap.IsSliceOf.new ..) pl pu (.int k t) (λe=>h0 (Option.some.inj e)) ?_ (by rw[List.size_toArray];lia);have hv:=hys its rv;generalize hP:slicePick its.toArray l u (some k)=P at hv ⊢;refine{.ref _,_,I5.laid (t':=s4.toks) (o:=.lst ys) (λb ob q=>Heap.get?_push_of_some _ q) (Nat.le_refl _) ?_,rfl,q _ (I5.hok.fresh (Nat.le_refl _))};exact{by lia,P.toList,0,hv,by rw[Array.toArray_toList];exact Heap.get?_push_size _ rfl}
def qfP{xs:List V}:∀its:List Value,qB xs its->qB xs.reverse (slicePick its.toArray none none (some (-1))).toList:=λits r=>by rw[PySem.W.krv_pick];exact r.reverse
end
end L2
set_option maxHeartbeats 4000000
namespace L2
open PySem PySem.Spec PyProof.Rows
section
variable{X:Cx}
theorem Y5:∀{ns:List Int} {its:List Value},qB (ns.map V.int) its->∃xs:List (Int×Tok),its=xs.map (λp=>Value.int p.1 p.2)/\ns=xs.map (·.1)
 |[],_,.nil=>{[],rfl,rfl}
 | n::ns,_,.cons r t=>by let(xs,rfl,rfl):=Y5 t;let(k,rfl):=r;exact{(n,k)::xs,rfl,rfl}
def qdS(hc:X.calm=true):qW X (.builtin "sum") (λvs H Q=>∃(p:Addr) (ns:List Int),vs=[.ref p]/\SqL X.K H p (ns.map V.int)/\Q (.int ns.sum) H):=by
 intro pins s Z H xs us Q I r h;let(p,ns,rfl,hq,q):=h;let(u,rfl,rx):=yU r;cases rx;let(its,rv,pl,hz):=I.list hq;let(zs,rfl,rfl):=Y5 rv
 have hl:s.heap.IsList p (intItems zs.toArray):=by
  have e:(zs.map λp=>Value.int p.1 p.2).toArray=intItems zs.toArray:=by simp[intItems]
  rw[<-e];exact pl.isList
 refine sum_intListG (I.ok.hd hc) hl λh' tk t' hk=>?_;refine{.int _,H,I.kept (t':=tk) hk,{t',?_},q};rw[preSum_eq,List.take_of_length_le (5:)]
end
section
variable{U:Type}[DecidableEq U]
def qdT(kvs:List (U×V))(k:U):Option V:=(kvs.find? λkv=>decide (kv.1=k)).map (·.2)
def Qy{p:U×V}{r:List (U×V)}{k:U}(e:p.1=k):qdT (p::r) k=some p.2:=by simp[qdT,List.find?_cons,e]
def Qz{p:U×V}{r:List (U×V)}{k:U}(e:¬ p.1=k):qdT (p::r) k=qdT r k:=by simp[qdT,List.find?_cons,e]
theorem qaN.getD{o:Option V}{u:Option Value}{d:V}{d':Value}(r:qaN o u)(rd:qH d d'):qH (o.getD d) (u.getD d'):=by
 cases o with
 |none=>cases u with
  |none=>exact rd
  |some _=>exact(show False from r).elim
 |some _=>cases u with
  |none=>exact(show False from r).elim
  |some _=>exact r
theorem KV.val{kvs:List (U×V)}{vs:List (U×Value)}(r:KV kvs vs)(k:U):qaN (qdT kvs k) (valueAt vs k):=by
 unfold KV at r
 induction r with
 |nil=>exact True.intro
 |@cons p q ps qs h t ih=>
  let(h1,h2):=h
  by_cases e:p.1=k
  ·have e':q.1=k:=h1.symm.trans e;have b:valueAt (q::qs) k=some q.2:=by simp[valueAt,List.find?_cons,e']
   rw[Qy e,b];exact h2
  ·have e':¬ q.1=k:=λz=>e (h1.trans z);have b:valueAt (q::qs) k=valueAt qs k:=by simp[valueAt,List.find?_cons,e']
   rw[Qz e,b];exact ih
theorem KV.keys{kvs:List (U×V)}{vs:List (U×Value)}(r:KV kvs vs):kvs.map (·.1)=vs.map (·.1):=by
 unfold KV at r
 induction r with
 |nil=>rfl
 |cons h t ih=>rw[List.map_cons,List.map_cons,ih,h.1]
def KV.length{kvs:List (U×V)}{vs:List (U×Value)}(r:KV kvs vs):kvs.length=vs.length:=Paired.length r
end
theorem qio{P:Program}{w:World}{k:Key}{u:Value}(r:qH (kV k) u):(qr P w).is k u=true:=by
 cases k with
 |inl i=>let(t,e):=(show∃t,u=Value.int i t from r);subst e;exact qaL P w i t
 |inr x=>let(t,e):=(show∃t,u=Value.str x t from r);subst e;exact qaM P w x t
theorem ZO{P:Program}{w:World}:∀{ks:List Key} {us:List Value},qB (ks.map kV) us->ItemsAre (qr P w) ks us
 |[],_,r=>by rw[List.map_nil]at r;cases r;exact .nil
 | k::ks,_,r=>by
  rw[List.map_cons]at r
  cases r with
  |cons h t=>exact .cons (qio h) (ZO t)
noncomputable abbrev KT(H:Hp):List (List Key×V)->List (List Key×Addr×Value)->Prop:=Paired λp q=>p.1=q.1/\H q.2.1=some (.tup (p.1.map kV))/\qH p.2 q.2.2
theorem KT.val{H:Hp}{kvs:List (List Key×V)}{xs:List (List Key×Addr×Value)}(r:KT H kvs xs)(k:List Key):qaN (qdT kvs k) ((atKey xs k).map (·.2)):=by
 induction r with
 |nil=>exact True.intro
 |@cons p q ps qs h t ih=>
  let(h1,_,h2):=h
  by_cases e:p.1=k
  ·have e':q.1=k:=h1.symm.trans e;have b:atKey (q::qs) k=some q.2:=by simp[atKey,List.find?_cons,e']
   rw[Qy e,b];exact h2
  ·have e':¬ q.1=k:=λz=>e (h1.trans z);have b:atKey (q::qs) k=atKey qs k:=by simp[atKey,List.find?_cons,e']
   rw[Qz e,b];exact ih
section
variable{P:Program}{w:World}{H:Hp}{h:Heap}{a:Addr}
def qkN{u:HO}(ok:HOk P w H h)(e:Rd H a u):qO P w H h a u:=e.ok ok
def qip{kvs:List (Key×V)}(ok:HOk P w H h)(e:Rd H a (.dK kvs)):kvs.length<=sizeLine/\(a == sysModules)=false/\∃vs,KV kvs vs/\h.DictOf (qr P w) a vs:=
 show qO P w H h a (.dK kvs) from qkN ok e
def qnV{kvs:List (Key×V)}(ok:HOk P w H h)(e:H a=some (.dK kvs)):kvs.length<=sizeLine/\(a == sysModules)=false/\∃vs,KV kvs vs/\h.DictOf (qr P w) a vs:=qip ok (.inl e)
def qha{ks:List Key}(ok:HOk P w H h)(e:H a=some (.tup (ks.map kV))):(tupleKind (qr P w)).is h ks a:=by let(_,its,r,o,h1,h2,n,h3):=(show qO P w H h a (.tup (ks.map kV)) from ok a _ e);exact{o,its.toArray,n,h1,h2,h3,by simpa using ZO r}
def qkO{kvs:List (List Key×V)}(ok:HOk P w H h)(e:Rd H a (.dT kvs)):kvs.length<=sizeLine/\(a == sysModules)=false/\
  ∃xs,KT H kvs xs/\h.DictOfH (tupleKind (qr P w)) a xs:=by
 let(z,y,xs,r,o,es,ep,h1,h2,h3,h4,h5):=(show qO P w H h a (.dT kvs) from qkN ok e);refine{z,y,xs,r,o,es,ep,h1,h2,h3,h4,λx hx=>?_,h5}
 have all:∀{l:List (List Key×V)} {m:List (List Key×Addr×Value)},KT H l m->∀x∈m,(tupleKind (qr P w)).is h x.1 x.2.1:=by
  intro l m q
  induction q with
  |nil=>intro x hx;exact nomatch hx
  |@cons p q ps qs hq t ih=>
   intro x hx;rcases List.mem_cons.mp hx with e|hx
   ·subst e;exact qha ok (by rw[<-hq.1];exact hq.2.1)
   ·exact ih x hx
 exact all r x hx
end
def qkP(H:Hp)(a:Addr)(y:V)(r:Option V):Prop:=
 (∃kvs k,Rd H a (.dK kvs)/\y=kV k/\r=qdT kvs k)\/∃kvs k b,Rd H a (.dT kvs)/\y=.ref b/\H b=some (.tup (k.map kV))/\r=qdT kvs k
def qkP.k{H:Hp}{a:Addr}{kvs:List (Key×V)}{k:Key}(e:H a=some (.dK kvs)):qkP H a (kV k) (qdT kvs k):=.inl ⟨kvs,k,.inl e,rfl,rfl⟩
section
variable{X:Cx}{pins:PP}{Z:St}{H:Hp}{s:Shared}{a:Addr}{y v:V}{u r:Value}{o:Option V}{A:Around}{E:PQ}
def Inv.big(I:Inv X pins Z H s):sysModules < s.heap.objs.size:=by have h:mainGlobals < s.heap.objs.size:=(I.mod.glob.keeps I.bk).lt;exact Nat.lt_trans (2:) h
def qkQ{P:Program}{w:World}{H':Hp}{h':Heap}{kvs:List (Key×V)}{vs:List (Key×Value)}(z:kvs.length<=sizeLine)(hd:(a == sysModules)=false)(rel:KV kvs vs)(dd:h'.DictOf (qr P w) a vs) :
  qO P w H' h' a (.dK kvs):=⟨z,hd,vs,rel,dd⟩
end
structure M2(X:Cx)(o:Expr)(m:Str)(apos:Pos)(e f:Expr)(cpos:Pos):Prop where
 base:attributeBase o m X.env (eval o X.env)=eval o X.env
 few:((backTo cpos (starEach [e,f] X.env)).all (λx=>!x.1)&&(backToKw cpos (keywordEach [] X.env)).all (λx=>x.1.isSome)
  && decide (([e,f]:List Expr).length+([]:List Keyword).length+(if ([]:List Keyword).isEmpty then 0 else 1) < 30))=true
 line:(apos.endLine == cpos.line)=true
 trees:backTo cpos (starEach [e,f] X.env)=[(false,eval e X.env),(false,eval f X.env)]
def IsD(H:Hp)(a:Addr):Prop:=(∃kvs,Rd H a (.dK kvs))\/∃kvs,Rd H a (.dT kvs)
def qkR{X:Cx}{pins:PP}{Z:St}{H:Hp}{s:Shared}{a:Addr}(I:Inv X pins Z H s)(d:IsD H a) :
  s.TypeIs (.ref a) "dict"/\(∀b,Value.ref a=.ref b->∃ob,s.heap.get? b=some ob/\ob.dict=none)/\(a == sysModules)=false:=by
 rcases d with ⟨kvs,e⟩|⟨kvs,e⟩
 ·let(_,hd,vs,_,dd):=qip I.hok e;refine{dd.typeIs,λb q=>?_,hd};cases q;let(ob,_,_,h1,h2,_):=dd;exact⟨ob,h1,h2.2.1⟩
 ·let(_,hd,xs,_,dd):=qkO I.hok e;refine{dd.typeIs,λb q=>?_,hd};cases q;let(ob,_,_,h1,h2,_):=dd;exact⟨ob,h1,h2.2.1⟩
section
variable{X:Cx}{pins:PP}{Z:St}{H:Hp}{s:Shared}{a:Addr}{y d:V}{u r:Value}{o:Option V}{A:Around}{E:PQ}
def qkS{Q:PQ}(hu:A.units+1 < cLine)(I:Inv X pins Z H s)(g:qkP H a y o)(ry:qH y u)(rd:qH d r)(h:∀w' s',Inv X pins Z H s'->qH (o.getD d) w'->Q w' s') :
  wpAny (model X.prog X.w) A (call (.builtin "dict.get") [.ref a,u,r]) Q E s:=by
 rcases g with ⟨kvs,k,e,ey,l⟩|⟨kvs,k,b,e,ey,eb,l⟩
 ·subst ey;let(z,hd,vs,rel,dd):=qip I.hok e;refine call_meetsIn PySem.F.slot_dict_get dd.typeIs PySem.F.entry_dict_get (PySem.F.args_dict_get_3 _ _ _) (meets_dict_get_default (qr X.prog X.w) a (qio ry) hd r) ⟨_,dd.mapOf,h _ _ (I.tok _) ?_⟩;rw[l];exact(rel.val k).getD rd
 ·subst ey
  cases (show u=Value.ref b from ry)
  let(z,hd,xs,rel,dd):=qkO I.hok e;refine call_meetsIn PySem.F.slot_dict_get dd.typeIs PySem.F.entry_dict_get (PySem.F.args_dict_get_3 _ _ _) (meetsH_dict_get_default (tupleKind (qr X.prog X.w)) a b hd r) ⟨tupleKind_room_in1 hu,k,xs,qha I.hok eb,dd,h _ _ (I.tok _) ?_⟩;rw[l];exact(rel.val k).getD rd
end
def J0(osc:Scope)(N:List Str)(fr:List Nat)(sc:Scope):Bool:=
 sc.kind == .function&&(sc.names.all λx=>x.2 != .cell&&(x.2 != .local||sc.names.lookup x.1 == some .local)&&(x.2 != .free||(osc.names.lookup x.1 == some .cell||osc.names.lookup x.1 == some .free)))&&fr.all λi=>sc.names.lookup (N.getD i "") == some .free
def qp.upd{H:Hp}{a:Addr}{o:HO}(h:H a=none):qp H (upd H a o):=λb u e=>by rw[qe (qY e h)];exact e
open PySem.W
structure NX(fs:List Addr)(e:Addr)(oT:Option Addr)(oe:Obj)(vs:Array Value)(T':Addr)(fl:Value)(h h':Heap):Prop where
 kept:∀b o,b∉fs->b≠e->oT≠some b->h.get? b=some o->h'.get? b=some o
 frame:∀b o,b∈fs->h.get? b=some o->∃sl,h'.get? b=some { o with slots:=sl }
 obj:∃o' vs',h'.get? e=some o'/\o'.cls=oe.cls/\o'.dict=oe.dict/\o'.data=.fields vs'/\vs'[0]?=vs[0]?/\vs'[1]?=some (.ref T')
 new:h.get? T'=none
 ne:T'≠e
 ent:∃ot ts,h'.get? T'=some ot/\ot.data=.fields ts/\ts[3]?=some fl
section
variable{M:Model}{A:Around}{E:PQ}{s:Shared}{base:Heap}{env:Env}{outer:List Env}{L e:Addr}{oe:Obj}{vs:Array Value}{Q:Unit->Shared->Prop}
def qiq(hl:s.heap.FunFrames base (env::outer))(he:s.heap.get? e=some oe)(hd:oe.data=.fields vs):e∉frs (env::outer):=λhm=>by let(_,o,ho,hnf):=hl.mem hm;rw[he]at ho;cases ho;exact hnf vs hd
def Y6{head:Value}{hadNext:Bool}(hfr:A.frames=some (env::outer))(hl:s.heap.FunFrames base (env::outer))(hf:env.frame=some L)(he:s.heap.get? e=some oe)(hd:oe.data=.fields vs)(hsz:1 < vs.size)
  (k:∀h' T',NX (frs (env::outer)) e none oe vs T' (rawInt L) s.heap h'->Q () { s with heap:=h' }) :
  wpAny M A (do let fr<-frameOf env;let pl<-entryPlaceOf L hadNext;let en<-EntryCells.newEntry head fr .none (rawInt L) .none pl;setField (.ref e) 1 en) Q E s:=by
 have hne:=qiq hl he hd;refine wpAny_bind (wpAny_frameOf_fun hfr hl hf λh1 so=>wpAny_bind (wpAny_entryPlaceOf λpl hpl=>wpAny_bind ?_));let(so1,so2,so3):=so;have e1:h1.get? e=some oe:=(so2 e hne).trans he;simp![EntryCells.newEntry,newFields];refine wpAny_newObj_type ?_ (hpl.sizeOk5 _ _ _ _ _);generalize hob:(⟨.type "traceback",none,.fields ([head,.ref L,.none,rawInt L,.none]++(if pl.isEmpty then List.replicate 6 Value.none else pl)).toArray,#[]⟩:Obj)=tb;have hts:∃ts,tb.data=.fields ts/\ts[3]?=some (rawInt L):={_,by rw[<-hob],by simp};have e2:(h1.push tb).get? e=some oe:=Heap.get?_push_of_some _ e1;refine wpAny_setField e2 hd hsz (k _ h1.objs.size ?_);have hTe:h1.objs.size≠e:=Nat.ne_of_gt (Heap.lt_size e1)
 have up:∀b o,b≠e->h1.get? b=some o->((h1.push tb).update e (Obj.mapFields (·.setIfInBounds 1 (Value.ref h1.objs.size)))).get? b=some o:=λb o hb q=>by rw[Heap.get?_update_other _ _ (Ne.symm hb)];exact Heap.get?_push_of_some _ q
 have hdt:=Obj.data_mapFields hd (·.setIfInBounds 1 (Value.ref h1.objs.size));refine{λb o h1' h2' _ q=>up b o h2' ((so2 b h1').trans q),λb o hb q=>?_,?_,?_,hTe,?_}
 ·let(sl,z):=so3 b o q;exact{sl,up b _ (λz=>hne (z▸hb)) z}
 ·refine{_,_,Heap.get?_update_self _ e2 (Obj.isFreed_of_fields hdt),Obj.cls_mapFields _ _,?_,hdt,?_,?_}
  ·let(c1,c2,c3,c4):=oe;cases hd;rfl
  ·rw[Array.getElem?_setIfInBounds_ne (2:)]
  ·simp[hsz]
 ·cases q:s.heap.get? h1.objs.size with
  |none=>rfl
  |some o=>let(sl,z):=so3 _ o q;exact absurd (Heap.lt_size z) (Nat.lt_irrefl _)
 ·let(ts,t1,t2):=hts;refine{tb,ts,?_,t1,t2};rw[Heap.get?_update_other _ _ (Ne.symm hTe)];exact Heap.get?_push_size _ (by rw[<-hob];rfl)
def qir(h:Heap)(e:Addr)(vs:Array Value):Option Addr->Prop
 |none=>vs[1]?=some .none
 |some T=>vs[1]?=some (.ref T)/\T≠e/\∃ot ts,h.get? T=some ot/\ot.data=.fields ts/\ts[3]?=some .none
theorem qhb{oT:Option Addr}(hfr:A.frames=some (env::outer))(hl:s.heap.FunFrames base (env::outer))(hf:env.frame=some L)(he:s.heap.get? e=some oe)(hd:oe.data=.fields vs)(hb:qir s.heap e vs oT)
  (k:∀h' T',NX (frs (env::outer)) e oT oe vs T' (rawInt L) s.heap h'->Q () { s with heap:=h' }):wpAny M A (noteFrame (.ref e) env) Q E s:=by
 simp![noteFrame,hf]
 cases oT with
 |none=>have hv:vs[1]?=some .none:=hb;have hsz:1 < vs.size:=(Array.getElem?_eq_some_iff.mp hv).1;refine wpAny_bind (wpAny_field he hd hv ?_);rw[if_neg (2:)];exact Y6 hfr hl hf he hd hsz k
 |some T=>
  let(hv,hTe,ot,ts,hT,hdT,h3):=hb;have hsz:1 < vs.size:=(Array.getElem?_eq_some_iff.mp hv).1;refine wpAny_bind (wpAny_field he hd hv ?_);rw[if_pos (show(Value.ref T != Value.none)=true by simp)];refine wpAny_bind (wpAny_field hT hdT h3 ?_);rw[if_neg (show ¬ ((Value.none == rawInt L)=true) by simp[rawInt])];refine wpAny_bind (wpAny_setField hT hdT (Array.getElem?_eq_some_iff.mp h3).1 ?_);have oth:∀{b:Addr},b≠T->(s.heap.update T (Obj.mapFields (·.setIfInBounds 3 Value.none))).get? b=s.heap.get? b:=λhb=>Heap.get?_update_other _ _ (Ne.symm hb)
  have nT:∀{b:Addr} {o:Obj},s.heap.get? b=some o->(∀vs,o.data≠.fields vs)->b≠T:=λ{b o} q hn z=>by rw[z,hT]at q;cases q;exact hn ts hdT
  have hl2:(s.heap.update T (Obj.mapFields (·.setIfInBounds 3 Value.none))).FunFrames base (env::outer):=hl.of_keeps λb o q hn=>{o,(oth (nT q hn)).trans q,rfl};refine Y6 (s:={ s with heap:=s.heap.update T (Obj.mapFields (·.setIfInBounds 3 Value.none)) }) hfr hl2 hf ((oth (Ne.symm hTe)).trans he) hd hsz λh' T' nx=>k h' T' ?_;let(n1,n2,n3,n4,n5,n6):=nx;refine{λb o h1 h2 h4 q=>n1 b o h1 h2 (5:) ((oth (λz=>h4 (by rw[z]))).trans q),λb o hb q=>n2 b o hb ((oth ?_).trans q),n3,?_,n5,n6}
  ·let(_,o',ho',hn):=hl.mem hb;exact nT ho' hn
  ·cases q:s.heap.get? T' with
   |none=>rfl
   |some o=>
    by_cases z:T'=T
    ·subst z
     have:=Heap.get?_update_self (Obj.mapFields (·.setIfInBounds 3 Value.none)) hT (Obj.isFreed_of_fields (Obj.data_mapFields hdT _))
     rw[this]at n4;cases n4
    ·rw[oth z,q]at n4;cases n4
def QA{fs:List Addr}{oT:Option Addr}{T':Addr}{fl:Value}{h:Heap}(nx:NX fs e oT oe vs T' fl h s.heap)(k:∀h',NX fs e oT oe vs T' .none h h'->Q () { s with heap:=h' }):wpAny M A (setFlight (.ref e) none) Q E s:=by
 let(n1,n2,(o',vs',o1,o2,o3,o4,o5,o6),n4,n5,ot,ts,t1,t2,t3):=nx;have h3:3 < ts.size:=(Array.getElem?_eq_some_iff.mp t3).1;unfold setFlight;refine wpAny_bind (wpAny_field o1 o4 o6 ?_);rw[if_pos (show(Value.ref T' != Value.none)=true by simp)];refine wpAny_setField t1 t2 h3 (k _ ?_);have oth:∀{b:Addr},b≠T'->(s.heap.update T' (Obj.mapFields (·.setIfInBounds 3 ((none:Option Addr).elim Value.none λf=>rawInt f)))).get? b=s.heap.get? b:=λhb=>Heap.get?_update_other _ _ (Ne.symm hb)
 have nT:∀{b:Addr} {o:Obj},h.get? b=some o->b≠T':=λ{b o} q z=>by rw[z,n4]at q;cases q
 have hdt:=Obj.data_mapFields t2 (·.setIfInBounds 3 ((none:Option Addr).elim Value.none λf=>rawInt f));refine{λb o h1 h2 h4 q=>(oth (nT q)).trans (n1 b o h1 h2 h4 q),λb o hb q=>?_,{o',vs',(oth (Ne.symm n5)).trans o1,o2,o3,o4,o5,o6},n4,n5,_,_,Heap.get?_update_self _ t1 (Obj.isFreed_of_fields hdt),hdt,by simp[h3]};let(sl,z):=n2 b o hb q;exact{sl,(oth (nT q)).trans z}
def qis{oT:Option Addr}(hfr:A.frames=some (env::outer))(hl:s.heap.FunFrames base (env::outer))(hf:env.frame=some L)(he:s.heap.get? e=some oe)(hd:oe.data=.fields vs)(hb:qir s.heap e vs oT)
  (k:∀h' T',NX (frs (env::outer)) e oT oe vs T' .none s.heap h'->Q () { s with heap:=h' }):wpAny M A (leaving env (.ref e)) Q E s:=by
 unfold leaving;exact wpAny_bind (qhb hfr hl hf he hd hb λh1 T' nx=>QA (s:={ s with heap:=h1 }) nx λh2 nx2=>k h2 T' nx2)
end
def Fly(h:Heap)(x:Addr)(C:Addr)(od oT:Option Addr):Prop:=∃oe vs,h.get? x=some oe/\oe.cls=.ref C/\oe.dict=od/\oe.data=.fields vs/\qir h x vs oT
def CX1(P:Program)(w:World):CXT:=λouter H s E e s'=>∃x T C od H',e=.ref x/\s'.os=s.os/\AllBare s'.gens/\Un (frs outer) [] H H' s.heap s'.heap/\HOk P w H' s'.heap/\H' x=none/\H' T=none/\
 s.heap.get? x=none/\s.heap.get? T=none/\Fly s'.heap x C od (some T)/\E (.ref C) od H'
theorem qbA{P:Program}{w:World}{H:Hp}{h:Heap}{a:Addr}{o:HO}(x:qO P w H h a o):∃ob,h.get? a=some ob:=by
 cases o with
 |lst xs=>let(z,its,n,r,e):=x;exact{_,e}
 |tup xs=>let(z,its,r,ob,e,c):=x;exact{_,e}
 |dK kvs=>let(z,y,vs,r,ob,es,ep,e,c):=x;exact{_,e}
 |dT kvs=>let(z,y,xs,r,ob,es,ep,e,c):=x;exact{_,e}
 |set S n=>let(ob,es,ep,t,e,c):=x;exact{_,e}
 |ins C dx fs=>let(d,z,ne,e,_):=x;exact{_,e}
 |own y=>let(ob,e):=x;exact{_,e}
 |xd fs=>let(mA,(od,es,ep,e,c),r):=x;exact{_,e}
 |rng lo hi=>let(t,u,v,e):=x;exact{_,e}
 |frz ob u=>let(e,q):=x;exact{_,e}
 |tbl ps=>exact{_,x}
 |met f y=>exact{_,x}
 |ext φ=>let(p,(o,e),st):=x;exact{_,e}
section
variable{X:Cx}{pins:PP}{Z:St}{H:Hp}{s:Shared}
structure Mine(X:Cx)(pins:PP)(H:Hp)(x:Addr)(oT:Option Addr):Prop where
 hx:H x=none
 x0:X.s₀.heap.get? x=none
 hT:∀T,oT=some T->H T=none/\X.s₀.heap.get? T=none
 pin:∀p∈X.pn++pins,p.1≠x/\oT≠some p.1
variable{x T':Addr}{oT:Option Addr}{oe:Obj}{vs:Array Value}{h':Heap}
def ZQ(I:Inv X pins Z H s)(hex:X.ex=[])(M:Mine X pins H x oT)(fx:∃o vs,s.heap.get? x=some o/\o.data=.fields vs)(fT:∀T,oT=some T->∃o vs,s.heap.get? T=some o/\o.data=.fields vs)(nx:NX (frs X.stack) x oT oe vs T' .none s.heap h') :
  Inv X pins Z H { s with heap:=h' }:=by
 let(k1,k2,_):=nx;have nex:∀{b:Addr},b∉X.ex:=λ{b} hb=>by rw[hex]at hb;cases hb
 have s0x:∀{b:Addr} {o:Obj},X.s₀.heap.get? b=some o->b≠X.env.locals/\b≠x/\oT≠some b:=λ{b o} e=>{Nat.ne_of_lt (Nat.lt_of_lt_of_le (Heap.lt_size e) I.ok.above),(λz=>by rw[z,M.x0]at e;cases e),(λz=>by rw[(M.hT b z).2]at e;cases e)}
 have frm:∀{b:Addr},b∈frs X.stack->b=X.env.locals\/b∈X.fs:=λ{b} hb=>List.mem_cons.mp (I.stkSub b hb)
 have any:∀{b:Addr} {o:Obj},s.heap.get? b=some o->(∀vs,o.data≠.fields vs)->∃sl,h'.get? b=some { o with slots:=sl }:=λ{b o} e hn=>by
  by_cases hm:b∈frs X.stack
  ·exact k2 b o hm e
  ·refine{o.slots,k1 b o hm (λz=>?_) (λz=>?_) e}
   ·let(o',v',q,qd):=fx;rw[z,q]at e;cases e;exact hn v' qd
   ·let(o',v',q,qd):=fT b z;rw[q]at e;cases e;exact hn v' qd
 have cellK:∀{c:Addr} {v:Option Value},s.heap.IsCell c v->h'.IsCell c v:=λ{c v} ⟨o,ho,hd⟩=>by
  let(sl,e):=any ho λvs z=>by rw[hd]at z;cases z
  exact{_,e,hd}
 refine{I.ok,I.os,I.bare,{λb o e n hb hx=>?_,λb o e n hb hx=>?_,I.base.free,λb o e hx=>?_,I.base.tups,I.base.frzs,I.base.tbls},?_,λy c e=>?_,I.free,I.freeC,λp hp=>?_,λa o e=>?_,I.len}
 ·let(z1,z2,z3):=s0x e;refine k1 b o (λz=>?_) z2 z3 (I.base.keep b o e n hb hx);rcases frm z with z|z
  ·exact z1 z
  ·exact hb z
 ·let(sl,e1):=I.base.slot b o e n hb hx;let(_,o',ho',hd):=I.ok.funs.mem hb;rw[e]at ho';cases ho';let(sl',e2):=any e1 hd;exact⟨sl',e2⟩
 ·let(o1,e1):=I.base.there b o e hx;let(z1,z2,z3):=s0x e
  by_cases hm:b∈frs X.stack
  ·let(sl,e2):=k2 b _ hm e1;exact{_,e2}
  ·exact{_,k1 b _ hm z2 z3 e1}
 ·let(m,(o,es,ep,ho,hd,r),hl):=I.loc;let(sl,e2):=any ho λvs z=>by rw[hd]at z;cases z
  refine{m,{_,es,ep,e2,hd,r},λi y v e1 e2 e3=>?_};let(u,r,l):=hl i y v e1 e2 e3;refine{u,r,?_};rcases l with l|⟨k,c,e,z⟩
  ·exact .inl l
  ·exact .inr ⟨k,c,e,cellK z⟩
 ·let(v,z):=I.cell y c e;exact{v,cellK z}
 ·let(e,n,ne,nf,d):=I.pin p hp;refine{k1 _ _ (λz=>?_) (M.pin p hp).1 (M.pin p hp).2 e,n,ne,nf,d};rcases frm z with z|z
  ·exact ne z
  ·exact nf z
 ·have trk:∀{b:Addr} {u:HO},H b=some u->b∉frs X.stack/\b≠x/\oT≠some b:=λ{b u} e=>
   ⟨(λz=>by rw[I.stkFree b z]at e;cases e),(λz=>by rw[z,M.hx]at e;cases e),(λz=>by rw[(M.hT b z).1]at e;cases e)⟩
  refine(I.hok a o e).stay (λb u hb q=>?_) (λ_ q=>q) λ_ _ q=>q
  have:b∉frs X.stack/\b≠x/\oT≠some b:=by
   rcases hb with z|z
   ·rw[z];exact trk e
   ·exact trk z
  exact k1 _ _ this.1 this.2.1 this.2.2 q
def NX.fly{C:Addr}{od:Option Addr}{h:Heap}{fs:List Addr}(nx:NX fs x oT oe vs T' .none h h')(hc:oe.cls=.ref C)(hd:oe.dict=od):Fly h' x C od (some T'):=by let(_,_,(o',vs',o1,o2,o3,o4,o5,o6),_,n5,ot,ts,t1,t2,t3):=nx;exact{o',vs',o1,o2.trans hc,o3.trans hd,o4,o6,n5,ot,ts,t1,t2,t3}
def Fly.fields{C:Addr}{od:Option Addr}{h:Heap}(fl:Fly h x C od oT):(∃o vs,h.get? x=some o/\o.data=.fields vs)/\∀T,oT=some T->∃o vs,h.get? T=some o/\o.data=.fields vs:=by let(o,vs,e1,_,_,e4,b):=fl;refine{⟨o,vs,e1,e4⟩,λT z=>?_};subst z;let(_,_,ot,ts,t1,t2,_):=b;exact⟨ot,ts,t1,t2⟩
theorem Inv.newH{x:Addr}(I:Inv X pins Z H s)(h:s.heap.get? x=none):H x=none:=by
 cases e:H x with
 |none=>rfl
 |some u=>let(o,q):=qbA (I.hok x u e);rw[h]at q;cases q
theorem Inv.new0{x:Addr}(I:Inv X pins Z H s)(hx:x∉X.ex)(h:s.heap.get? x=none):X.s₀.heap.get? x=none:=by
 cases e:X.s₀.heap.get? x with
 |none=>rfl
 |some o=>let(o',q):=I.base.there x o e hx;rw[h]at q;cases q
def qbB{E:XK}{C:Addr}{od:Option Addr}(I:Inv X pins Z H s)(hst:X.stack=X.env::X.outer/\X.env.frame=some X.env.locals)(hex:X.ex=[])(M:Mine X pins H x oT)(fl:Fly s.heap x C od oT)(q:E (.ref C) od H){E':PQ} :
  wpAny (model X.prog X.w) X.A (leaving X.env (.ref x)) (λ_ s''=>CX1 X.prog X.w X.outer X.Hv X.s₀ E (.ref x) s'') E' s:=by
 let(fx,fT):=fl.fields;let(oe,vs,e1,e2,e3,e4,b):=fl;have hfr:X.A.frames=some (X.env::X.outer):=by rw[<-hst.1];exact I.ok.frames
 have hl:=I.stack;rw[hst.1]at hl;refine qis hfr hl hst.2 e1 e4 b λh' T' nx=>?_;have nx2:=nx;rw[<-hst.1]at nx2;have I2:=ZQ I hex M fx fT nx2;have no:∀b:Addr,b∉X.ex:=λb z=>by rw[hex]at z;cases z
 exact{x,T',C,od,H,rfl,I2.os,I2.bare,by rw[<-hex];exact I2.base,I2.hok,M.hx,I.newH nx.new,M.x0,I.new0 (no T') nx.new,nx.fly e2 e3,q}
end
def qit{K:Frag}{h:Heap}{C:Addr}{bB:List Value}{nid:String}(Y:K.In h)(ok:excIn K C bB nid=true) :
  ∃bm N nm qn bs hd sn sub ab col dd k0 k1 k2 k3 k5 mN,h.get? C=some (excClassObj nm qn C N bs bm hd sn sub ab col dd k0 k1 k2 k3 k5 nid)/\h.Ns N mN/\mN "__init__" = none/\OwnTail h bB bm:=by
 unfold excIn at ok
 split at ok
 case h_2=>cases ok
 case h_1 d1 cdat slots hlk=>
  split at ok
  case h_2=>cases ok
  case h_1 C2 tl a0 a1 a2 a3 nn a5 hmro hsl=>
   simp![Bool.and_eq_true,beq_iff_eq,Bool.not_eq_true']at ok;let(((((e1,e2),e3),e4),e5),e6):=ok;subst e1;subst e2;let(w1,w2,w3,w4,w5,w6,w7,w8,w9,w10,w11):=cdat
   dsimp only at hmro e3 e5 e6;subst hmro;subst e3;obtain⟨sl⟩:=slots;obtain rfl:sl=[a0,a1,a2,a3,some (.builtin nn),a5]:=hsl;exact{tl,w4,w1,w5,w2,w6,w7,w8,w9,w10,d1,a0,a1,a2,a3,a5,_,Y _ _ hlk,.of_isNs (isNs_of_in Y e5),nsMap_none_of_in Y e5 e6,tail_of_in Y e4}
def qdU(X:Cx)(E:XK):Prop:=∀(pins:PP) (Z:St) (H:Hp) (s:Shared),Inv X pins Z H s->∀(h':Heap) (x C:Addr) (vs:List Value),Heap.MadeExcOf s.heap h' x (.ref C) vs->E (.ref C) none H->X.xe (.ref x) { s with heap:=h' }
section
variable{X:Cx}{pins:PP}{Z:St}{H:Hp}{s:Shared}
def qfQ{h h':Heap}{x C:Addr}{vs:List Value}(m:Heap.MadeExcOf h h' x (.ref C) vs):Fly h' x C none none:=by let(t,ht,_):=m.there;exact{_,_,ht,rfl,rfl,rfl,rfl}
end
section
variable{P:Program}{w:World}{K:Frag}{mg:PR}{base:Heap}{N:List Str}{qual:Str}{scope:Scope}{f:Addr}{cd:Value}{A:Around}{outer:List Env}{s:Shared}{H:Hp}{E:XK}
def qdV{X:Cx}{pins:PP}{Z:St}{H1 H2:Hp}{s1:Shared}{x T:Addr}(I:Inv X pins Z H1 s1)(hex:X.ex=[])(hx:H2 x=none)(hT:H2 T=none)(nx:s1.heap.get? x=none)(nT:s1.heap.get? T=none):Mine X pins H2 x (some T):=by
 have no:∀b:Addr,b∉X.ex:=λb z=>by rw[hex]at z;cases z
 refine{hx,I.new0 (no x) nx,λT' z=>by cases z;exact{hT,I.new0 (no T) nT},λp hp=>?_};let(e,_):=I.pin p hp;refine{λz=>?_,λz=>?_}
 ·rw[z,nx]at e;cases e
 ·cases z;rw[nT]at e;cases e
def qiu{E2:XK}(hE:∀c d h,E2 c d h->E c d h):jK (CX1 P w) (qbw (CX1 P w) P w K mg base N qual scope f cd A outer s H E) E2:=λpins Z H1 s1 e s2 I h=>by let(x,T,C,od,H2,rfl,hos,hb,un,hok,hx,hT,nx,nT,fl,q):=h;have I2:Inv (qbw (CX1 P w) P w K mg base N qual scope f cd A outer s H E) pins Z H2 s2:=I.call' (ch:=[]) hos un hok hb λb z=>absurd z (5:);exact qbB I2 ⟨rfl,rfl⟩ rfl (qdV I rfl hx hT nx nT) fl (hE _ _ _ q)
def Fun.okx{x:Str}{st:Stmt}{fd:FuncData}{ps:List Str}{k:Nat}{sp:Sp}(F:Fun K x qual st f fd)(S:FnScope N ps (qi st))(len:∀vs H Q E,sp vs H Q E->vs.length=ps.length)
  (body:∀(cdv:Value) (A:Around) (outer:List Env) (s:Shared) (H:Hp) (vs:List V) (Q:VK) (E:XK),Room k (A.deeper (envOfC qual (qi st) s.heap.objs.size f cdv))->sp vs H Q E->
   ∃t,PSs (qbw (CX1 P w) P w K mg base N qual (qi st) f cdv A outer s H E) (qz st) t/\t { nx:=λ_ H'=>Q .non H',rt:=Q } (JS N vs) H):FnOk P w K mg base (CX1 P w) (k+1) f fd ps sp:=by
 let(oc,od,kV,doc,pm,an,cdv,ct,osl,rfl,lk,hcd):=F.ex;exact qkC lk hcd S len λA outer s H vs Q E hr hsp=>body cdv A outer s H vs Q E hr hsp
end
section
variable{X:Cx}{E:XK}{n:Str}{C:Addr}{bB:List Value}{B nid iid:String}{e0:Expr}{es:List Expr}{t:TA}{np cpos pos:Pos}
def qkT(C:Addr)(E:XK)(t:TA):TS:=λ_ Z H=>t Z H λvs H1=>vs.length<=sizeLine/\E (.ref C) none H1
def qfR(hx:qdU X E)(hc:X.calm=true)(hg:Gl X n)(hm:X.mg n=some (.ref C))(ok:excIn X.K C bB nid=true)(FB:ExcBaseFacts B nid iid bB)(ha:PA X (e0::es) t)
  (he:starEach (e0::es) X.env=(false,eval e0 X.env)::starEach es X.env:=by rfl) (hpl:(backTo cpos (starEach es X.env)).any (·.1)=false:=by rfl) (hdb:(n == ("__debug__" : Str))=false:=by decide) :
  PS X (.Raise (some (.Call (.Name n np) (e0::es) [] cpos)) none pos) (qkT C E t):=by
 intro pins s Z H D I h;let(bm,N,nm,qn,bs,hd,sn,sub,ab,col,dd,k0,k1,k2,k3,k5,mN,hC,hN,hni,T):=qit I.mod.kin ok
 refine wpAny_Raise_call_subT (C:=C) (nm:=nm) (q:=qn) (N:=N) (bs:=bs) (bm:=bm) (hdct:=hd) (sn:=sn) (sub:=sub) (ab:=ab) (col:=col) (dd:=dd) (k0:=k0) (k1:=k1) (k2:=k2) (k3:=k3) (k5:=k5)
  FB (mN:=mN) (T.hasType FB.hasBase) (I.ok.hd hc) ?_ hni (zZ I hg hm ⟨rfl,?_⟩ hdb)
 ·rw[he];show(false||(backTo cpos (starEach es X.env)).any (·.1))=false;rw[hpl];rfl
 have ha':=ha cpos pins s Z H _ I h;rw[he]at ha' ⊢;refine Calls.evalArgs_plain (thn ha' λus s1 z=>?_);let(vs,H1,I1,r,hl,q):=z;exact{rfl,by rw[<-r.length];exact hl,I1.bk _ _ hC,hN.keeps I1.bk,T.keeps I1.bk,λh' x m=>hx pins Z H1 s1 I1 h' x C _ m q}
end
def qft(x C:Addr)(od:Option Addr):HO:=.ext λh=>∃o,h.get? x=some o/\o.cls=.ref C/\o.dict=od/\notCls o=true
section
variable{X:Cx}{pins:PP}{Z:St}{H:Hp}{s:Shared}{x C:Addr}{od oT:Option Addr}
def qnW(I:Inv X pins Z H s)(fl:Fly s.heap x C od oT)(hx:H x=none)(x0:X.s₀.heap.get? x=none)(pin:∀p∈X.pn++pins,p.1≠x):Inv X pins Z (upd H x (qft x C od)) s:=by
 let(oe,vs,ho,hc,hdi,hd,_):=fl;have nn:∀{b:Addr},b≠x->upd H x (qft x C od) b=H b:=λh=>qe h;have ntr:∀{b:Addr} {u:HO},H b=some u->b≠x:=λ{b u} e z=>by rw[z,hx]at e;cases e
 refine{I.ok,I.os,I.bare,{I.base.keep,I.base.slot,λb o e n hx=>?_,I.base.there,λb xs e=>?_,λb o u e=>?_,λb ps e=>?_},I.loc,I.cell,?_,λy c e=>?_,λp hp=>?_,λa o e=>?_,I.len}
 ·rw[nn (λz=>by rw[z,x0]at e;cases e)];exact I.base.free b o e n hx
 ·have:=I.base.tups b xs e
  rw[nn (ntr this)];exact this
 ·have:=I.base.frzs b o u e
  rw[nn (ntr this)];exact this
 ·let(more,this):=I.base.tbls b ps e;rw[nn (ntr this)];exact⟨more,this⟩
 ·have:X.env.locals≠x:=λz=>by
   let(m,(o,es,ep,e1,e2,_),_):=I.loc;rw[z,ho]at e1;cases e1;rw[hd]at e2;cases e2
  rw[nn this];exact I.free
 ·have:c≠x:=λz=>by
   let(v,o,e1,e2):=I.cell y c e;rw[z,ho]at e1;cases e1;rw[hd]at e2;cases e2
  rw[nn this];exact I.freeC y c e
 ·let(e,n,r):=I.pin p hp;refine{e,?_,r};rw[nn (pin p hp)];exact n
 ·have st:∀{c:Addr} {v:HO},qO X.prog X.w H s.heap c v->qO X.prog X.w (upd H x (qft x C od)) s.heap c v:=λz=>
   z.stay (λ_ _ _ q=>q) (λb q=>by rw[nn (ntr q)];exact q) (λb xs q=>by rw[nn (ntr q)];exact q)
  by_cases hb:a=x
  ·subst hb;rw[qg]at e;cases e;refine{{oe,ho,hc,hdi,?_},⟨oe,ho⟩,λh1 h2 ⟨o,e1,e2⟩ k=>{o,k o e1,e2}};unfold notCls;rw[hd]
  ·rw[nn hb]at e;exact st (I.hok a o e)
end
abbrev Cx.mark(X:Cx)(e:Value):Cx:={ X with A:=X.A.mark (some e),calm:=false,xe:=λ_ _=>False }
section
variable{X:Cx}{pins:PP}{Z:St}{H:Hp}{s:Shared}{e:Value}
def Inv.mark(I:Inv X pins Z H s):Inv (X.mark e) pins Z H s:=
 ⟨⟨I.ok.mod,I.ok.kind,I.ok.glob,I.ok.blt,I.ok.above,I.ok.inj,I.ok.has,I.ok.cab,(λz=>by cases z),I.ok.frames,I.ok.stk,I.ok.exf,I.ok.bs,I.ok.bsz,I.ok.noex,I.ok.exfs,I.ok.funs,I.ok.frf⟩,I.os,I.bare,I.base,I.loc,I.cell,I.free,I.freeC,I.pin,I.hok,I.len⟩
def Inv.unmark(ok:X.Ok)(I:Inv (X.mark e) pins Z H s):Inv X pins Z H s:=⟨ok,I.os,I.bare,I.base,I.loc,I.cell,I.free,I.freeC,I.pin,I.hok,I.len⟩
def yZ{M:Model}{A:Around}{E:PQ}{i:Nat}{n:Str}{pos:Pos}{Q:Unit->Shared->Prop}(I:Inv X pins Z H s)(hN:X.N.Nodup)(hi:X.N[i]?=some n)(hl:X.env.scope.names.lookup n=some .local)
  (h:∀s',Inv X pins (Z.set i none) H s'->Q () s'):wpAny M A (do bindName X.env n .none;unbindBehindTheSuite X.env n pos) Q E s:=by
 refine wpAny_bind (wpAny_bindName (yT (v:=.non) I hN hi (.inl hl) rfl (λs1 I1 _=>?_) (.inr hl)));unfold unbindBehindTheSuite;refine wpAny_onRaise ?_;let(m,hn,hlk):=id I1.loc;have hiσ:i < Z.length:=by rw[I.len];exact(List.getElem?_eq_some_iff.mp hi).1
 let(u,ru,hlook):=hlk i n .non hi (by rw[List.getElem?_set_self hiσ]) (.inl hl);have hkl:X.env.kindOf n=some .local:=hl
 have hv:m n=some u:=by
  rcases hlook with ⟨_,z⟩|⟨z,_⟩
  ·exact z
  ·rcases z with z|z<;>(rw[hkl]at z;cases z)
 have hcls:(X.env.scope.kind == .class||(X.env.scope.kind == .module&&X.env.locals != X.env.globals))=false:=by rw[I.ok.kind];rfl
 refine wpAny_unbindName_local hkl hn hv hcls λh' u' hn' hs'=>?_;refine h _ ?_;have kp:∀{b:Addr} {o:Obj},b≠X.env.locals->s1.heap.get? b=some o->h'.get? b=some o:=λ{b o} hb e=>(hs'.2 b hb).trans e;have s0l:∀{b:Addr} {o:Obj},X.s₀.heap.get? b=some o->b≠X.env.locals:=λ{b o} e=>Nat.ne_of_lt (Nat.lt_of_lt_of_le (Heap.lt_size e) I.ok.above);have cK:∀{c:Addr} {v:Option Value} {y:Str},X.env.cells.lookup y=some c->s1.heap.IsCell c v->h'.IsCell c v:=λ{c v y} ey ⟨o,ho,hd⟩=>{o,kp (I1.cne y c ey) ho,hd};refine{I1.ok,I1.os,I1.bare,{λb o e n hb hx=>kp (s0l e) (I1.base.keep b o e n hb hx),λb o e n hb hx=>?_,I1.base.free,λb o e hx=>?_,I1.base.tups,I1.base.frzs,I1.base.tbls},{_,hn',λj y v e1 e2 e3=>?_},λy c e=>?_,I1.free,I1.freeC,λp hp=>?_,λa o e=>?_,?_}
 ·let(sl,e1):=I1.base.slot b o e n hb hx;exact{sl,kp (s0l e) e1}
 ·let(o1,e1):=I1.base.there b o e hx;exact{o1,kp (s0l e) e1}
 ·have hij:i≠j:=λz=>by
   subst z;rw[List.getElem?_set_self hiσ]at e2;cases e2
  have hyn:y≠n:=λz=>hij (Qs hN hi (z▸e1));let(u2,r2,l2):=hlk j y v e1 (by rw[List.getElem?_set_ne hij]at e2 ⊢;exact e2) e3;refine{u2,r2,?_};rcases l2 with ⟨k,z⟩|⟨k,c,e,z⟩
  ·exact .inl ⟨k,by show(if y=n then u' else m y)=_;rw[if_neg hyn];exact z⟩
  ·exact .inr ⟨k,c,e,cK e z⟩
 ·let(v,z):=I1.cell y c e;exact{v,cK e z}
 ·let(e,n,ne,r):=I1.pin p hp;exact{kp ne e,n,ne,r}
 ·have tl:∀{b:Addr} {u:HO},H b=some u->b≠X.env.locals:=λ{b u} e z=>by rw[z,I1.free]at e;cases e
  refine(I1.hok a o e).stay (λb u hb q=>kp ?_ q) (λ_ q=>q) λ_ _ q=>q;rcases hb with z|z
  ·rw[z];exact tl e
  ·exact tl z
 ·rw[List.length_set];exact I.len
end
section
variable{X:Cx}{pins:PP}{Z:St}{H:Hp}{s:Shared}
def PA.nox{es:List Expr}{t:TA}(h:PA X.nox es t):PA X es t:=λpos pins s Z H Q I hw=>wpAny_mono (h pos pins s Z H Q (I.wish _) hw) (λ_ _ ⟨v,H',I',r,q⟩=>⟨v,H',I'.unwish,r,q⟩) λ_ _ z=>False.elim z
structure Held(X:Cx)(pins:PP)(Z:St)(H:Hp)(s:Shared)(x T C:Addr)(od:Option Addr)(h:Heap):Prop where
 inv:Inv X pins Z H s
 mine:Mine X pins H x (some T)
 fld:(∃o vs,s.heap.get? x=some o/\o.data=.fields vs)/\∀T',some T=some T'->∃o vs,s.heap.get? T'=some o/\o.data=.fields vs
 nx:∃oe vs T',NX (frs X.stack) x (some T) oe vs T' .none s.heap h/\oe.cls=.ref C/\oe.dict=od
variable{x T C:Addr}{od:Option Addr}{h:Heap}
def Held.now(Hd:Held X pins Z H s x T C od h)(hex:X.ex=[]):Inv X pins Z H { s with heap:=h }:=by let(oe,vs,T',nx,_):=Hd.nx;exact ZQ Hd.inv hex Hd.mine Hd.fld.1 Hd.fld.2 nx
def Held.fly(Hd:Held X pins Z H s x T C od h):∃T',Fly h x C od (some T'):=by let(oe,vs,T',nx,e1,e2):=Hd.nx;exact{T',nx.fly e1 e2}
def Held.ty{M:Model}(Hd:Held X pins Z H s x T C od h):Looks M h (typeOf (.ref x)) (.ref C):=by let(T',o,_,ho,hc,_):=Hd.fly;rw[<-hc];exact(Looks.ld ho).andThen .now
def qkU(i:Nat)(D:Ends):Ends:={ nx:=λZ' H'=>D.nx (Z'.set i none) H',rt:=D.rt,bk:=λZ' H'=>D.bk (Z'.set i none) H',ct:=λZ' H'=>D.ct (Z'.set i none) H' }
variable{c n:Str}{Dc:Addr}{cp hpos:Pos}{b0:Stmt}{suite:List Stmt}{rest:List ExceptHandler}{i:Nat}{D:Ends}{E:PQ}
theorem qcE{th:TS}(Hd:Held X pins Z H s x T C od h)(hex:X.ex=[])(hg:Gl X c)(hm:X.mg c=some (.ref Dc))(hq:exmOne X.K (.ref C) (.ref Dc)=some true)
  (hN:X.N.Nodup) (hi:X.N[i]?=some n) (hl:X.env.scope.names.lookup n=some .local) (hsu:PSs (X.mark (.ref x)) (b0::suite) th) (q:th (qkU i D) (Z.set i (some (.ref x))) (upd H x (qft x C od)))
  (hdb:(c == ("__debug__" : Str))=false) :
  wpAny (model X.prog X.w) X.A (handleBy (.ref x) X.env (.ExceptHandler (some (.Name c cp)) (some n) (b0::suite) hpos::rest)) (SP X pins D) E { s with heap:=h }:=by
 have I:=Hd.now hex;refine wpAny_handleBy_cons (codeAny_handlers_test ?_) (by intro z;cases z);refine zZ (X:=X.mark (.ref x)) I.mark hg hm ?_ hdb;refine Looks.here (exm_one I.kIn Hd.ty hq) ?_;refine codeAny_handlers_suite_as ?_;let(oe,vs,T',nx,e1,e2):=Hd.nx;refine QA (s:={ s with heap:=h }) nx λh3 nx3=>?_;have Hd3:Held X pins Z H s x T C od h3:=⟨Hd.inv,Hd.mine,Hd.fld,oe,vs,T',nx3,e1,e2⟩;have I3:=Hd3.now hex;have I4:Inv X pins Z (upd H x (qft x C od)) { s with heap:=h3 }:=qnW I3 (nx3.fly e1 e2) Hd.mine.hx Hd.mine.x0 λp hp=>(Hd.mine.pin p hp).1;refine yT (X:=X.mark (.ref x)) (v:=.ref x) I4.mark hN hi (.inl hl) rfl (λs5 I5 _=>?_) (.inr hl);refine wpAny_mono (hsu pins s5 _ _ (qkU i D) I5 q) (λf s6 z=>?_) (λ_ _ z=>False.elim z);have ok:=I.ok
 cases f with
 |next=>let(Z6,H6,I6,z):=z;exact yZ (I6.unmark ok) hN hi hl λs7 I7=>{_,H6,I7,z}
 |brk=>let(Z6,H6,I6,z):=z;exact yZ (I6.unmark ok) hN hi hl λs7 I7=>{_,H6,I7,z}
 |cont=>let(Z6,H6,I6,z):=z;exact yZ (I6.unmark ok) hN hi hl λs7 I7=>{_,H6,I7,z}
 |ret u=>let(v,Z6,H6,I6,r,z):=z;exact yZ (I6.unmark ok) hN hi hl λs7 I7=>{v,_,H6,I7,r,z}
def qaT{nm:Option Str}{body:List Stmt}(Hd:Held X pins Z H s x T C od h)(hex:X.ex=[])(hg:Gl X c)(hm:X.mg c=some (.ref Dc))(hq:exmOne X.K (.ref C) (.ref Dc)=some false)
  (k:wpAny (model X.prog X.w) X.A (handleBy (.ref x) X.env rest) (SP X pins D) E { s with heap:=h }) (hdb:(c == ("__debug__" : Str))=false) :
  wpAny (model X.prog X.w) X.A (handleBy (.ref x) X.env (.ExceptHandler (some (.Name c cp)) nm body hpos::rest)) (SP X pins D) E { s with heap:=h }:=by
 have I:=Hd.now hex;refine wpAny_handleBy_cons (codeAny_handlers_test ?_) (by intro z;cases z);refine zZ (X:=X.mark (.ref x)) I.mark hg hm ?_ hdb;exact Looks.here (exm_one I.kIn Hd.ty hq) k
def qpO{H1:Hp}{s1 s':Shared}{EX:XK}{e:Value}{hs:List ExceptHandler}(hst:X.stack=X.env::X.outer/\X.env.frame=some X.env.locals)(hex:X.ex=[])(I:Inv X pins Z H1 s1)(cx:CX1 X.prog X.w X.stack H1 s1 EX e s')
  (k:∀(x T C:Addr) (od:Option Addr) (H2:Hp) (h:Heap),EX (.ref C) od H2->Held X pins Z H2 s' x T C od h->wpAny (model X.prog X.w) X.A (handleBy (.ref x) X.env hs) (SP X pins D) E { s' with heap:=h }) :
  wpAny (model X.prog X.w) X.A (noteFrame e X.env) (λ_ s2=>wpAny (model X.prog X.w) X.A (setFlight e none) (λ_ s3=>wpAny (model X.prog X.w) X.A (handleBy e X.env hs) (SP X pins D) E s3) E s2) E s':=by
 let(x,T,C,od,H2,rfl,hos,hb,un,hok,hx,hT,nx,nT,fl,q):=cx;have I2:Inv X pins Z H2 s':=I.call' (ch:=[]) hos un hok hb λb z=>absurd z (5:);have M:Mine X pins H2 x (some T):=qdV I hex hx hT nx nT;have hfr:X.A.frames=some (X.env::X.outer):=by rw[<-hst.1];exact I.ok.frames
 have hl:=I2.stack;rw[hst.1]at hl;have ff:=fl.fields;let(oe,vs,e1,e2,e3,e4,b):=fl;refine qhb hfr hl hst.2 e1 e4 b λh1 T' n1=>QA (s:={ s' with heap:=h1 }) n1 λh2 n2=>?_;exact k x T C od H2 h2 q ⟨I2,M,ff,oe,vs,T',by rw[hst.1];exact n2,e2,e3⟩
end
section
variable{prog:Program}{w:World}{A:Around}{E:PQ}{s:Shared}{K:Frag}{x C:Addr}{ox:Obj}
def qdW{name:Str}{a g:Value}{od:Option Obj}(hc:(clsIn K C).isSome=true)(ha:findIn K (.ref C) name=some (some a))(hg:specialIn K a "__get__" = some (some g))(ht:takesIn K a=some true):findObj K C od name=some (.bind g a):=by let(cd,e):=Option.isSome_iff_exists.mp hc;simp[findObj,e,ha,hg,ht]
structure ExcIs(K:Frag)(C:Addr):Prop where
 cls:(clsIn K C).isSome=true
 ga:findIn K (.ref C) "__getattribute__" = some (some (.builtin "BaseException.__getattribute__"))
 gh:findIn K (.ref C) "__getattr__" = some none
 at_:findIn K (.ref C) "__class__" = some (some (.builtin "object.__class__"))
 get:specialIn K (.builtin "object.__class__") "__get__" = some (some (.builtin "getset_descriptor.__get__"))
 tk:takesIn K (.builtin "object.__class__")=some true
 obj:mroIn K C (.type "object")=some true
 base:mroIn K C (.type "BaseException")=some true
def qdX{Q:Option Value->Shared->Prop}(Y:K.In s.heap){od:Option Obj}(I:W.InstAt s.heap x ox C od)(hC:ExcIs K C)
  (h:Q (some (.ref C)) { s with toks:=s.toks+1 }):wpAny (model prog w) A (getAttr? (.ref x) "__class__") Q E s:=by
 let(hh,g,d,t,os):=s;have L0:=I.type (M:=model prog w);have L1:=looks_findIn (M:=model prog w) Y hC.ga;have L2:=looks_findIn (M:=model prog w) Y hC.gh;have L3:=looks_find (M:=model prog w) Y I (qdW hC.cls hC.at_ hC.get hC.tk);have L4:=looks_mroIn (M:=model prog w) Y hC.base;have hbind:∀self,bindSpecial (.builtin "BaseException.__getattribute__") self=pure (.builtin "BaseException.__getattribute__",[self]):=λself=>by rfl
 unfold getAttr? getAttrBy? getAttrBy;refine wpAny_bind (wpAny_mkText (wpAny_bind (wpAny_attempt (wpAny_holding (wpAny_bind (L0.at (wpAny_bind (L1.at ?_))))))));show wpAny _ _ (getAttrByItsOwn _ _ _ _ _ _) _ _ _;unfold getAttrByItsOwn;refine wpAny_bind ?_;show wpAny _ _ (typeLookup (.ref C) "__getattr__") _ _ _;refine L2.at (wpAny_bind (wpAny_attempt (wpAny_holding ?_)));show wpAny _ _ (boundAndCalled _ _ _) _ _ _;unfold boundAndCalled;refine wpAny_bind ?_;rw[hbind];refine wpAny_pure ?_;refine wpAny_call (codeAny_call_builtin (3:) F.entry_bexc_ga ?_);have hk:builtinKind "BaseException.__getattribute__" = some .slot:=(3:)
 have hsp:splitId "BaseException.__getattribute__" = some ("BaseException","__getattribute__"):=(3:)
 have LI:Looks (model prog w) hh (isInstance (.ref x) (.type "BaseException")) true:=L0.andThen L4;have hargs:=F.args_bexc_ga (.ref x) (.str "__class__" t);simp![checkBuiltinCall,hk,hsp];refine wpAny_bind ?_;refine LI.at ?_;rw[if_neg (2:)];refine wpAny_of_eq hargs ?_;unfold Builtin.«object.__getattribute__»;refine wpAny_bind (wpAny_pure ?_);refine wpAny_bind (wpAny_pure ?_);refine wpAny_bind (L0.at (wpAny_bind (L3.at ?_)));show wpAny _ _ (holding [Value.builtin "object.__class__"] (call (.builtin "getset_descriptor.__get__") [.builtin "object.__class__",.ref x,.ref C]) >>= ret) _ _ _;refine wpAny_bind (wpAny_holding (wpAny_call (class_get (s:={hh,g,d,t+1,os}) (ox:=ox) (od:=od) Y I hC.obj ?_)));exact wpAny_pure (handed_on rfl (wpAny_pure h))
def qiv(hC:ExcIs K C):KitX K (.ref x) (.ref C) (λh=>∃ox od,W.InstAt h x ox C od) where
 ty:=λ_ _ _ ⟨_,_,I⟩=>I.type
 it:=λM h Y _=>by
  let(cd,e):=Option.isSome_iff_exists.mp hC.cls;unfold clsIn at e
  split at e
  ·rename_i ho;intro A' Q' E' s' k q;unfold isType loadHead;refine wpAny_bind (wpAny_loadPart (k _ _ (Y _ _ ho)) ?_);exact wpAny_pure q
  ·cases e
 ne:=λh tp dd its n sl Y htp=>by
  let(cd,e):=Option.isSome_iff_exists.mp hC.cls;refine Bool.eq_false_iff.mpr λq=>?_;have z:C=tp:=Value.ref.inj (beq_iff_eq.mp q);subst z;unfold clsIn at e
  split at e
  ·rename_i ho;have z:=(Y _ _ ho).symm.trans htp;cases z
  ·cases e
 ca:=λY ⟨_,_,I⟩ k=>qdX Y I hC k
end
section
variable{X:Cx}
def qiw(H:Hp)(x C:Addr)(od:Option Addr):Prop:=H x=some (qft x C od)/\∀dd,od=some dd->∃u,H dd=some u
theorem qiw.inst{pins:PP}{Z:St}{H:Hp}{s:Shared}{x C:Addr}{od:Option Addr}(I:Inv X pins Z H s)(h:qiw H x C od):∃ox oo,W.InstAt s.heap x ox C oo:=by
 let(o,e1,e2,e3,e4):=(I.hok x _ h.1).1
 cases od with
 |none=>exact{o,none,e1,e2,e4,by rw[e3];trivial}
 |some dd=>let(u,hu):=h.2 dd rfl;let(ob,hob):=qbA (I.hok dd u hu);exact{o,some ob,e1,e2,e4,by rw[e3];exact hob}
def qdY:qW X (.builtin "isinstance") (λvs H Q=>∃x C od c cv b,vs=[.ref x,c]/\qiw H x C od/\ExcIs X.K C/\qH c cv/\(∀u,qH c u->u=cv)/\kitOne X.K (.ref C) cv=some b/\Q (.bl b) H):=by intro pins s Z H xs us Q I r h;let(x,C,od,c,cv,b,rfl,hx,hC,rc,uq,e,q):=h;let(u,v,rfl,ru,rv):=Zs r;cases ru;obtain rfl:v=cv:=uq v rv;exact kia_one (qiv hC) I.kIn (hx.inst I) e (λz=>nomatch z) λtk=>{.bl b,H,I.tok tk,rfl,q}
end
def Its(x:Str):It:={λi _=>i < x.cps.size,λi H v H'=>H'=H/\∃c,x.cps[i]?=some c/\v=.str {#[c]},λi _=>i=x.cps.size}
def qfS{P:Program}{w:World}{K:Frag}{tg:Expr}{x:Str}{t:Tok}{it:Addr}{T:String}(hT:T = "str_ascii_iterator"\/T = "str_iterator")(W:∀A':Around,A'.handled=none->Walks P w A' it [it] [it] x.cps.size (SignAt x) (λi h=>h.IsStrIter it T x t i)) :
  Turn P w K tg (Its x) [it] it (λi h=>h.IsStrIter it T x t i) where
 mem:=by simp
 obj:=λi h st b hb=>by
  have e:b=it:=(-hb:)
  subst e;let(o,e,c,d):=st;exact{o,e,λv z=>by rw[d]at z;cases z}
 keep:=λi h h' st k=>let ⟨o,e,r⟩:=st;⟨o,k it (5:) o e,r⟩
 item:=by intro X hP hw hK hc i pins s Z H E I hf st hg;subst hP hw hK;let(f0,f1,f2,f3,f4,f5):=hf it (5:);refine(W X.A (I.ok.hd hc)).item i s _ _ hg st λv h' tk hv st' kk=>?_;let(c,u,hcx,rfl):=hv;have I1:Inv X pins Z H { s with heap:=h',toks:=tk }:=I.turned (λb o hb e=>kk b o (-hb:) e) f0 f1 f3 f4 f5;let(o,e1,e2,e3):=id st';refine{_,rfl,qdr (s:={ s with heap:=h',toks:=tk }) e1 e2 e3 (by rcases hT with z|z<;>(rw[z];decide)) ⟨.str ⟨#[c]⟩,H,I1,⟨u,rfl⟩,⟨rfl,c,hcx,rfl⟩,st',λb hb=>(hf b hb).1⟩}
 done:=by intro X hP hw hK hc i pins s Z H E I hf st hg;subst hP hw hK;obtain rfl:i=x.cps.size:=hg;let(f0,f1,f2,f3,f4,f5):=hf it (5:);exact(W X.A (I.ok.hd hc)).done s _ _ st λh' tk kk=>{rfl,I.turned (λb o hb e=>kk b o (-hb:) e) f0 f1 f3 f4 f5}
 self:=λA i s Q E st h=>by
  rcases hT with z|z
  ·subst z;exact wpAny_pyIter_striter_ascii st h
  ·subst z;exact wpAny_pyIter_striter_wide st h
structure ClsFn(K:Frag)(C:Addr)(m:Str)(f:Addr):Prop where
 reads:readsIn K C (.type "type")=true
 sp:specialIn K (.ref C) "__getattribute__" = some (some (.builtin "type.__getattribute__"))
 at_:findCls K (.ref C) (.type "type") m=some (.val (.ref f))
 kp:keepIn K (.ref f)=true
section
variable{X:Cx}{CX:CXT}{k:Nat}{f C:Addr}{fd:FuncData}{ps:List Str}{sp:Sp}{dvs:List V}{ds:List Value}{E:XK}{x m:Str}{p pos apos:Pos}{e:Expr}{es:List Expr}{t:TA}
def qbC{pl:Sem Bool}(hC:ClsFn X.K C m f)(F:FnOk X.prog X.w X.K X.mg X.base CX k f fd ps sp)(hr:Room k X.A)(hg:Gl X x)(hm:X.mg x=some (.ref C))(hb:qX X.K fd ps ds)(hd:qB dvs ds)(hx:jK CX X E)(ha:PA X (e::es) t)
  (hdb:(x == ("__debug__" : Str))=false:=by decide) (hst:starEach (e::es) X.env=(false,eval e X.env)::starEach es X.env:=by rfl) (hpl:(backTo pos (starEach es X.env)).any (·.1)=false:=by rfl)
  (ht:eval (.Call (.Attribute (.Name x p) m apos) (e::es) [] pos) X.env=(do
   let ov<-eval (.Name x p) X.env
   standAt apos.atName
   let (f,first)<-holding [ov] (getMethod ov m pl)
   callWith pos f first (backTo pos (starEach (e::es) X.env)) (backToKw pos (keywordEach [] X.env))):=by rfl) :
  PE X (.Call (.Attribute (.Name x p) m apos) (e::es) [] pos) (qcC sp dvs E t):=by
 intro pins s Z H Q I h;refine PySem.W.methodCall_KW (pl:=pl) (zZ I hg hm ?_ hdb) ht;refine method_cls I.kIn hC.sp (cls_value I.kIn hC.reads hC.at_ rfl ?_);have I1:=I.tok (s.toks+1);refine PySem.W.callWith_K (first:=[]) (h₀:=X.base) I.ok.mod.kin hC.kp (thn (ha pos pins _ Z H _ I1 h) λus s2 z=>?_) hst hpl;let(vs,H2,I2,r,q):=z;exact{I2.kIn,Zx F hr hb hd hx I2 r q}
end
def Itz(K:Frag)(a b:Addr):It:=
 ⟨λi H=>∃xs ys x y,SqL K H a xs/\SqL K H b ys/\xs[i]?=some x/\ys[i]?=some y,
  λi H v H'=>∃T x y,v=.ref T/\H T=none/\H'=upd H T (.tup [x,y])/\∀xs ys,SqL K H a xs->SqL K H b ys->xs[i]?=some x/\ys[i]?=some y,
  λi H=>∃xs ys,SqL K H a xs/\SqL K H b ys/\(xs.length<=i\/ys.length<=i)⟩
def ZSt(z TI TO i1 i2 a b:Addr)(i:Nat)(h:Heap):Prop:=IsZip h z TI TO .none/\IsPair h TI (.ref i1) (.ref i2)/\(∃u v,IsPair h TO u v)/\h.IsListIter i1 a i/\h.IsListIter i2 b i
def Inv.turnedAll{X:Cx}{pins:PP}{Z:St}{H:Hp}{s:Shared}{h':Heap}{t':Nat}{ch:List Addr}(I:Inv X pins Z H s)(k:∀b o,b∉ch->s.heap.get? b=some o->h'.get? b=some o)(hf:∀b∈ch,qct X pins H b):Inv X pins Z H { s with heap:=h',toks:=t' }:=by
 have nch:∀{b:Addr} {u:HO},H b=some u->b∉ch:=λ{b u} e z=>by rw[(hf b z).1]at e;cases e
 refine I.step (g':=s.gens) (d':=s.drawn) (ch:=ch) (λb hb=>?_) (λb o _ _ hc e _=>k b o hc e) (λb o _ _ hc e _=>{o.slots,k b o hc e}) (λ_ _ _ _ n=>n) (λb o hc e=>{o,k b o hc e}) (λ_ _ e=>e) (λ_ _ _ e=>e) (λb ps e=>{#[],by rw[e];simp}) (λm hm=>?_) (λb u e=>?_) I.bare
 ·let(f0,f1,f2,f3,f4,f5):=hf b hb;exact⟨f3,f1,f4,f5⟩
 ·let(o,es,ep,ho,r):=hm;exact{o,es,ep,k _ o (λz=>(hf _ z).2.1 rfl) ho,r}
 ·refine(I.hok b u e).stay (λc v hc q=>k c v ?_ q) (λ_ q=>q) λ_ _ q=>q;rcases hc with z|z
  ·rw[z];exact nch e
  ·exact nch z
def Inv.turnedNew{X:Cx}{pins:PP}{Z:St}{H:Hp}{s:Shared}{h':Heap}{t':Nat}{ch:List Addr}{T:Addr}{ob:HO}(I:Inv X pins Z H s)(k:∀b o,b∉ch->s.heap.get? b=some o->h'.get? b=some o)(hf:∀b∈ch,qct X pins H b)
  (hT:s.heap.get? T=none) (new:qO X.prog X.w (upd H T ob) h' T ob):Inv X pins Z (upd H T ob) { s with heap:=h',toks:=t' }:=by
 have hH:H T=none:=I.newH hT;have nch:∀{b:Addr} {u:HO},H b=some u->b∉ch:=λ{b u} e z=>by rw[(hf b z).1]at e;cases e
 have nT:∀{b:Addr} {u:HO},H b=some u->b≠T:=λ{b u} e z=>by rw[z,hH]at e;cases e
 have up:∀{b:Addr} {u:HO},H b=some u->upd H T ob b=some u:=λ{b u} e=>by rw[qe (nT e)];exact e
 refine I.step (g':=s.gens) (d':=s.drawn) (ch:=ch) (λb hb=>?_) (λb o _ _ hc e _=>k b o hc e) (λb o _ _ hc e _=>{o.slots,k b o hc e}) (λb o _ e n=>?_) (λb o hc e=>{o,k b o hc e}) (λ_ _ e=>up e) (λ_ _ _ e=>up e) (λb ps e=>{#[],by rw[up e];simp}) (λm hm=>?_) (λb u e=>?_) I.bare
 ·let(f0,f1,f2,f3,f4,f5):=hf b hb;exact⟨f3,f1,f4,f5⟩
 ·rw[qe (λz=>by rw[z,hT]at e;cases e)];exact n
 ·let(o,es,ep,ho,r):=hm;exact{o,es,ep,k _ o (λz=>(hf _ z).2.1 rfl) ho,r}
 ·by_cases hb:b=T
  ·subst hb;rw[qg]at e;cases e;exact new
  ·rw[qe hb]at e;refine(I.hok b u e).stay (λc v hc q=>k c v ?_ q) (λ_ q=>up q) λ_ _ q=>up q;rcases hc with z|z
   ·rw[z];exact nch e
   ·exact nch z
def qfT{P:Program}{w:World}{K:Frag}{elts:List Expr}{kk:Nat}{pos:Pos}{z TI TO i1 i2 a b:Addr}(D:ZipApart z TI TO i1 i2 a b) :
  Turn P w K (.Tuple elts kk pos) (Itz K a b) [z,TI,TO,i1,i2] z (ZSt z TI TO i1 i2 a b) where
 mem:=by simp
 obj:=λi h st c hc=>by
  let(s1,s2,(u,v,s3),(o4,s4,_,d4),(o5,s5,_,d5)):=st;simp at hc;rcases hc with rfl|rfl|rfl|rfl|rfl
  ·exact{_,s1,λv q=>by cases q}
  ·exact{_,s2,λv q=>by cases q}
  ·exact{_,s3,λv q=>by cases q}
  ·exact{_,s4,λv q=>by rw[d4]at q;cases q}
  ·exact{_,s5,λv q=>by rw[d5]at q;cases q}
 keep:=λi h h' st k=>by let(s1,s2,(u,v,s3),s4,s5):=st;exact{k z (5:) _ s1,k TI (5:) _ s2,{u,v,k TO (5:) _ s3},s4.at λo e=>k i1 (5:) o e,s5.at λo e=>k i2 (5:) o e}
 item:=by
  intro X hP hw hK hc i pins s Z H E I hf st hg;subst hP hw hK;let(xs,ys,x,y,qa,qb,hx,hy):=hg;let(s1,s2,(u,v,s3),s4,s5):=st;let(ia,ra,pa,za):=I.list qa;let(ib,rb,pb,zb):=I.list qb;let(ux,ex,rx):=ra.get hx;let(uy,ey,ry):=rb.get hy;refine wpAny_pyNext_zip_item D s1 s2 s3 s4 s5 pa.isList pb.isList (x:=ux) (y:=uy) (-ex:) (-ey:) λh' a1 a2 a3 a4 a5 a6 kp=>?_;refine{_,rfl,wpAny_letOwnedTupleGo_zip (s:={ s with heap:=h' }) a1 λh2 b1 b2=>?_};have two:(2:Nat)<=sizeLine:=Nat.le_of_lt (ZH (2:))
  have kp2:∀c o,c∉[z,TI,TO,i1,i2]->s.heap.get? c=some o->h2.get? c=some o:=λc o hc e=>by simp at hc;exact b2.extBut c o hc.1 (kp c o hc.1 hc.2.2.1 hc.2.2.2.1 hc.2.2.2.2 e)
  have I1:Inv X pins Z H { s with heap:=h2 }:=I.turnedAll (t':=s.toks) kp2 hf
  have hnew:s.heap.get? s.heap.objs.size=none:=by
   cases q:s.heap.get? s.heap.objs.size with
   |none=>rfl
   |some o=>exact absurd (Heap.lt_size q) (Nat.lt_irrefl _)
  have hH:H s.heap.objs.size=none:=I.hok.fresh (Nat.le_refl _);have hTz:s.heap.objs.size≠z:=Nat.ne_of_gt (Heap.lt_size s1);have hT2:IsPair h2 s.heap.objs.size ux uy:=b2.extBut _ _ hTz a5;have hf2:=hf;have I2:Inv X pins Z (upd H s.heap.objs.size (.tup [x,y])) { s with heap:=h2 }:=I.turnedNew (t':=s.toks) kp2 hf hnew ⟨two,[ux,uy],.cons rx %[ry|0],_,hT2,rfl,0,rfl⟩;refine{.ref s.heap.objs.size,_,I2,rfl,{_,x,y,rfl,hH,rfl,λxs' ys' h1 h2=>?_},?_,λc hc=>?_}
  ·rw[I.list_inj h1 qa,I.list_inj h2 qb];exact⟨hx,hy⟩
  ·exact{b1,b2.extBut _ _ D.TIz (kp TI _ D.TIz D.TITO D.TIi1 D.TIi2 s2),{_,_,b2.extBut _ _ D.TOz a2},a3.extBut b2.extBut D.i1z,a4.extBut b2.extBut D.i2z}
  ·have hc0:=(hf c hc).1;rw[qe]
   ·exact hc0
   ·intro q
    have e:∃o,s.heap.get? c=some o:=by
     simp at hc;rcases hc with rfl|rfl|rfl|rfl|rfl
     ·exact{_,s1}
     ·exact{_,s2}
     ·exact{_,s3}
     ·let(o,e,_):=s4;exact⟨o,e⟩
     ·let(o,e,_):=s5;exact⟨o,e⟩
    let(o,e):=e;rw[q,hnew]at e;cases e
 done:=by intro X hP hw hK hc i pins s Z H E I hf st hg;subst hP hw hK;let(xs,ys,qa,qb,hend):=hg;let(s1,s2,(u,v,s3),s4,s5):=st;let(ia,ra,pa,za):=I.list qa;let(ib,rb,pb,zb):=I.list qb;have la:=ra.length;have lb:=rb.length;refine wpAny_pyNext_zip_end (I.ok.hd hc) D s1 s2 s3 s4 s5 pa.isList pb.isList (by simp;lia) λh' kp=>{rfl,I.turnedAll (t':=s.toks) (λc o hc e=>?_) hf};simp at hc;exact kp c o hc.1 hc.2.2.1 hc.2.2.2.1 hc.2.2.2.2 e
 self:=λA i s Q E st h=>wpAny_pyIter_zip st.1 h
def qpP(K:Frag)(ta:TA):TI:=λZ H R=>ta Z H λvs H1=>∃a b,vs=[.ref a,.ref b]/\(∃xs,SqL K H1 a xs)/\(∃ys,SqL K H1 b ys)/\R (Itz K a b) H1
section
variable{X:Cx}
def qkV{ea eb:Expr}{elts:List Expr}{kk:Nat}{tpos p pos:Pos}{ta:TA}(hg:Gl X "zip")(hm:X.mg "zip" = none)(ha:PA X [ea,eb] ta)(hs:starEach [ea,eb] X.env=[(false,eval ea X.env),(false,eval eb X.env)]:=by rfl)(hs2:starEach [eb] X.env=[(false,eval eb X.env)]:=by rfl) :
  PI X (.Tuple elts kk tpos) (.Call (.Name "zip" p) [ea,eb] [] pos) (qpP X.K ta):=by
 intro pins s Z H R I h;refine Call_ (JG I hg hm boot_zip (PyProof.Rows.callWith_type1 (thn (ha pos pins s Z H _ I h) λus s1 z=>?_) (by rw[hs,hs2]) (by rw[hs2];rfl)));let(vs,H1,I1,r1,a,b,rfl,(xs,qa),(ys,qb),q):=z;let(u,v,rfl,ru,rv):=Zs r1;cases ru;cases rv;let(ia,ra,pa,za):=I1.list qa;let(ib,rb,pb,zb):=I1.list qb;have la:a < s1.heap.objs.size:=by let(_,e,_):=pa.isList;exact Heap.lt_size e
 have lb:b < s1.heap.objs.size:=by let(_,e,_):=pb.isList;exact Heap.lt_size e
 refine call_zip_2 pa.isList pb.isList λh' z1 z2 z3 z4 z5 z6 kp=>wpAny_pyIter_zip z1 ?_
 have D:ZipApart (s1.heap.objs.size+4) (s1.heap.objs.size+2) (s1.heap.objs.size+3) s1.heap.objs.size (s1.heap.objs.size+1) a b:=by constructor<;>(first|exact Nat.ne_of_lt (Nat.lt_of_lt_of_le la (Nat.le_add_right _ _))|exact Nat.ne_of_lt (Nat.lt_of_lt_of_le lb (Nat.le_add_right _ _))|exact Nat.ne_of_lt la|exact Nat.ne_of_lt lb|exact Nat.ne_of_lt (1:)|exact Nat.ne_of_gt (1:))
 refine{s1.heap.objs.size+4,[s1.heap.objs.size+4,s1.heap.objs.size+2,s1.heap.objs.size+3,s1.heap.objs.size,s1.heap.objs.size+1],_,_,H1,rfl,I1.kept (t':=s1.toks) kp,qfT D,{z1,z2,{_,_,z3},z4,z5},λc hc=>?_,q}
 have:s1.heap.objs.size<=c:=by
  simp at hc;rcases hc with rfl|rfl|rfl|rfl|rfl
  ·exact Nat.le_add_right _ _
  ·exact Nat.le_add_right _ _
  ·exact Nat.le_add_right _ _
  ·exact Nat.le_refl _
  ·exact Nat.le_add_right _ _
 exact I1.fpOk this (I1.hok.fresh this)
end
open PyProof
section
variable{X:Cx}
theorem qkW:SlR X (λx lo hi H Q=>∃z,x=.str z/\z.length<=sizeLine/\Q (.str (Txt.slice z lo hi)) H):=by
 intro pins s Z H x v vl vu lo hi sl Q I rx hs pl pu h;let(z,rfl,hz,q):=h;let(t,rfl):=rx;refine{"str",_,F.slot_str_getitem.lookup,typeIs_str _ _ _,?_};let(o,e1,e2,e3):=hs
 cases pl with
 |none=>
  cases pu with
  |none=>exact wpAny_getItem_str_slice (l:=none) (u:=none) (st:=none) ⟨o,e1,e2,e3⟩ rfl (post_val_or_str ⟨Nat.le_trans (Txt.slice_le z _ _) hz,λt' k=>{.str _,H,I.tok k,⟨t',rfl⟩,q}⟩)
  |int j uj=>exact wpAny_getItem_str_slice (l:=none) (u:=some (j,uj)) (st:=none) ⟨o,e1,e2,e3⟩ rfl (post_val_or_str ⟨Nat.le_trans (Txt.slice_le z _ _) hz,λt' k=>{.str _,H,I.tok k,⟨t',rfl⟩,q}⟩)
 |int i ui=>
  cases pu with
  |none=>exact wpAny_getItem_str_slice (l:=some (i,ui)) (u:=none) (st:=none) ⟨o,e1,e2,e3⟩ rfl (post_val_or_str ⟨Nat.le_trans (Txt.slice_le z _ _) hz,λt' k=>{.str _,H,I.tok k,⟨t',rfl⟩,q}⟩)
  |int j uj=>exact wpAny_getItem_str_slice (l:=some (i,ui)) (u:=some (j,uj)) (st:=none) ⟨o,e1,e2,e3⟩ rfl (post_val_or_str ⟨Nat.le_trans (Txt.slice_le z _ _) hz,λt' k=>{.str _,H,I.tok k,⟨t',rfl⟩,q}⟩)
end
def Ite(K:Frag)(a:Addr):It:=
 ⟨λi H=>∃xs x,SqL K H a xs/\xs[i]?=some x,
  λi H v H'=>∃T x,v=.ref T/\H T=none/\H'=upd H T (.tup [.int i,x])/\∀xs,SqL K H a xs->xs[i]?=some x,
  λi H=>∃xs,SqL K H a xs/\xs.length<=i⟩
def ESt(e it a:Addr)(i:Nat)(h:Heap):Prop:=(∃old,IsEnum h e it ((i:Nat):Int) old)/\h.IsListIter it a i
def qdZ{P:Program}{w:World}{K:Frag}{elts:List Expr}{kk:Nat}{pos:Pos}{e it a:Addr}(hne:e≠it) :
  Turn P w K (.Tuple elts kk pos) (Ite K a) [e,it] e (ESt e it a) where
 mem:=by simp
 obj:=λi h st c hc=>by
  let((old,s1),(o4,s4,_,d4)):=st;simp at hc;rcases hc with rfl|rfl
  ·exact{_,s1,λv q=>by cases q}
  ·exact{_,s4,λv q=>by rw[d4]at q;cases q}
 keep:=λi h h' st k=>by let((old,s1),s4):=st;exact{{old,k e (5:) _ s1},s4.at λo e=>k it (5:) o e}
 item:=by
  intro X hP hw hK hc i pins s Z H E I hf st hg;subst hP hw hK;let(xs,x,qa,hx):=hg;let((old,s1),s4):=st;let(ia,ra,pa,za):=I.list qa;let(ux,ex,rx):=ra.get hx;refine wpAny_pyNext_enum_item s1 s4 pa.isList (x:=ux) (-ex:) hne λh' a1 a2 a3 a4 kp=>?_;refine{_,rfl,wpAny_letOwnedTupleGo_enum (s:={ s with heap:=h',toks:=s.toks+1 }) a1 λh2 b1 b2=>?_};have two:(2:Nat)<=sizeLine:=Nat.le_of_lt (ZH (2:))
  have kp2:∀c o,c∉[e,it]->s.heap.get? c=some o->h2.get? c=some o:=λc o hc q=>by simp at hc;exact b2.extBut c o hc.1 (kp c o hc.1 hc.2 q)
  have hnew:s.heap.get? s.heap.objs.size=none:=by
   cases q:s.heap.get? s.heap.objs.size with
   |none=>rfl
   |some o=>exact absurd (Heap.lt_size q) (Nat.lt_irrefl _)
  have hH:H s.heap.objs.size=none:=I.hok.fresh (Nat.le_refl _);have hTe:s.heap.objs.size≠e:=Nat.ne_of_gt (Heap.lt_size s1);have hT2:IsPair h2 s.heap.objs.size (.int i s.toks) ux:=b2.extBut _ _ hTe a3;have I2:Inv X pins Z (upd H s.heap.objs.size (.tup [.int i,x])) { s with heap:=h2,toks:=s.toks+1 }:=I.turnedNew (t':=s.toks+1) kp2 hf hnew ⟨two,[.int i s.toks,ux],.cons ⟨_,rfl⟩ %[rx|0],_,hT2,rfl,0,rfl⟩;refine{.ref s.heap.objs.size,_,I2,rfl,{_,x,rfl,hH,rfl,λxs' h1=>?_},?_,λc hc=>?_}
  ·rw[I.list_inj h1 qa];exact hx
  ·have e1:((i+1:Nat):Int)=(i:Int)+1:=by lia
   refine{{ux,?_},a2.extBut b2.extBut (Ne.symm hne)};rw[e1];exact b1
  ·have hc0:=(hf c hc).1;rw[qe]
   ·exact hc0
   ·intro q
    have e:∃o,s.heap.get? c=some o:=by
     simp at hc;rcases hc with rfl|rfl
     ·exact{_,s1}
     ·let(o,e,_):=s4;exact⟨o,e⟩
    let(o,e):=e;rw[q,hnew]at e;cases e
 done:=by intro X hP hw hK hc i pins s Z H E I hf st hg;subst hP hw hK;let(xs,qa,hend):=hg;let((old,s1),s4):=st;let(ia,ra,pa,za):=I.list qa;have la:=ra.length;refine wpAny_pyNext_enum_end (I.ok.hd hc) s1 s4 pa.isList (by simp;lia) λh' kp=>{rfl,I.turnedAll (t':=s.toks) (λc o hc e=>?_) hf};simp at hc;exact kp c o hc.2 e
 self:=λA i s Q E st h=>by let((old,s1),_):=st;exact wpAny_pyIter_enum s1 h
def qnX(K:Frag)(ta:TA):TI:=λZ H R=>ta Z H λvs H1=>∃a,vs=[.ref a]/\(∃xs,SqL K H1 a xs)/\R (Ite K a) H1
section
variable{X:Cx}
def qix{ea:Expr}{elts:List Expr}{kk:Nat}{tpos p pos:Pos}{ta:TA}(hg:Gl X "enumerate")(hm:X.mg "enumerate" = none)(ha:PA X [ea] ta)(hs:starEach [ea] X.env=[(false,eval ea X.env)]:=by rfl) :
  PI X (.Tuple elts kk tpos) (.Call (.Name "enumerate" p) [ea] [] pos) (qnX X.K ta):=by
 intro pins s Z H R I h;refine Call_ (JG I hg hm boot_enumerate (PyProof.Rows.callWith_type1 (thn (ha pos pins s Z H _ I h) λus s1 z=>?_) hs rfl));let(vs,H1,I1,r1,a,rfl,(xs,qa),q):=z;let(u,rfl,ru):=yU r1;cases ru;let(ia,ra,pa,za):=I1.list qa;refine call_enumerate_list pa.isList λh' z1 z2 z3 kp=>wpAny_pyIter_enum z1 ?_;refine{s1.heap.objs.size+1,[s1.heap.objs.size+1,s1.heap.objs.size],_,_,H1,rfl,I1.kept (t':=s1.toks) kp,qdZ (Nat.succ_ne_self _),{{_,z1},z2},λc hc=>?_,q}
 have:s1.heap.objs.size<=c:=by
  simp at hc;rcases hc with rfl|rfl
  ·exact Nat.le_add_right _ _
  ·exact Nat.le_refl _
 exact I1.fpOk this (I1.hok.fresh this)
end
def Itv(K:Frag)(a:Addr)(xs:List V):It:=
 ⟨λi H=>SqL K H a xs/\i < xs.length,λi H x H'=>H'=H/\xs[xs.length - 1 - i]?=some x,λi H=>SqL K H a xs/\xs.length=i⟩
def qfU{P:Program}{w:World}{K:Frag}{tg:Expr}(a it:Addr)(xs:List V):Turn P w K tg (Itv K a xs) [it] it (λi h=>h.IsRevIter it a ((xs.length:Int) - 1 - i)) where
 mem:=by simp
 obj:=λi h st b hb=>by
  have e:b=it:=(-hb:)
  subst e;let(o,e,c,d):=st;exact{o,e,λv z=>by rw[d]at z;cases z}
 keep:=λi h h' st k=>st.at λo e=>k it (5:) o e
 item:=by
  intro X hP hw hK hc i pins s Z H E I hf st hg;subst hP hw hK;let(hq,hi):=hg;let(its,rv,p,hz):=I.list hq;have hx:xs[xs.length - 1 - i]?=some xs[xs.length - 1 - i]:=List.getElem?_eq_getElem (by omega);let(u,hu,ru):=rv.get hx;let(f0,f1,f2,f3,f4,f5):=hf it (5:);have e1:(xs.length:Int) - 1 - i=((xs.length - 1 - i:Nat):Int):=by omega
  rw[e1]at st;refine wpAny_pyNext_rev_item st p.isList (x:=u) (-hu:) λh' st' sb=>?_;have I1:Inv X pins Z H { s with heap:=h' }:=I.turned (t':=s.toks) (λb o hb e=>(sb.2 b hb).trans e) f0 f1 f3 f4 f5;have e2:((xs.length - 1 - i:Nat):Int) - 1=(xs.length:Int) - 1 - ((i+1:Nat):Int):=by omega
  rw[e2]at st';let(o,e,c,d):=id st';exact{u,rfl,qdr (s:={ s with heap:=h' }) e c d (2:) ⟨_,H,I1,ru,⟨rfl,hx⟩,st',λb hb=>(hf b hb).1⟩}
 done:=by
  intro X hP hw hK hc i pins s Z H E I hf st hg;subst hP hw hK;let(hq,hi):=hg;let(f0,f1,f2,f3,f4,f5):=hf it (5:);have e1:(xs.length:Int) - 1 - i = -1:=by omega
  rw[e1]at st;exact wpAny_pyNext_rev_end (I.ok.hd hc) st λh' eb=>{rfl,I.turned (t':=s.toks) (λb o hb e=>eb b o hb e) f0 f1 f3 f4 f5}
 self:=λ_ _ _ _ _ st h=>wpAny_pyIter_revIter st h
def qpQ(K:Frag)(ta:TA):TI:=λZ H R=>ta Z H λvs H1=>∃a xs,vs=[.ref a]/\SqL K H1 a xs/\R (Itv K a xs) H1
section
variable{X:Cx}
def qkX{ea tg:Expr}{p pos:Pos}{ta:TA}(hg:Gl X "reversed")(hm:X.mg "reversed" = none)(ha:PA X [ea] ta)(hs:starEach [ea] X.env=[(false,eval ea X.env)]:=by rfl) :
  PI X tg (.Call (.Name "reversed" p) [ea] [] pos) (qpQ X.K ta):=by
 intro pins s Z H R I h;refine Call_ (JG I hg hm boot_reversed (PyProof.Rows.callWith_type1 (thn (ha pos pins s Z H _ I h) λus s1 z=>?_) hs rfl));let(vs,H1,I1,r1,a,xs,rfl,qa,q):=z;let(u,rfl,ru):=yU r1;cases ru;let(ia,ra,pa,za):=I1.list qa;have la:=ra.length;refine call_reversed_list pa.isList ?_;refine wpAny_pyIter_revIter ⟨_,Heap.get?_push_size _ rfl,rfl,rfl⟩ ?_;refine{s1.heap.objs.size,[s1.heap.objs.size],_,_,H1,rfl,I1.kept (t':=s1.toks) λb o e=>Heap.get?_push_of_some _ e,qfU a _ xs,{_,Heap.get?_push_size _ rfl,rfl,?_},λb hb=>?_,q}
 ·show Data.fields #[.ref a,rawInt ((ia.toArray.size:Int) - 1)]=_
  have:(ia.toArray.size:Int) - 1=(xs.length:Int) - 1 - ((0:Nat):Int):=by simp;omega
  rw[this]
 ·have e:b=s1.heap.objs.size:=(-hb:)
  subst e;exact I1.fpOk (Nat.le_refl _) (I1.hok.fresh (Nat.le_refl _))
end
def rsz(lo hi c:Int):Nat:=if lo < hi then ((hi - lo - 1) / c+1).toNat else 0
section
variable{prog:Program}{w:World}{A:Around}{E:PQ}{s:Shared}
def ZU:typeLookup (.type "list") "keys" = pure none:=am_miss_of_fast (4:)
def qkY{a:Addr}{o:Obj}{xs:Array Value}{k:Nat}{Q:Option Value->Shared->Prop}(hx:s.heap.get? a=some o)(hc:o.cls=.type "list")(hdat:o.data=.seq xs k)(hd:o.dict=none)(hA:A.handled=none)
  (h:∀h' tk,(∀b ob,s.heap.get? b=some ob->h'.get? b=some ob)->Q none { s with heap:=h',toks:=tk }):wpAny (model prog w) A (getAttr? (.ref a) "keys") Q E s:=by
 let(c,dct,dat,sl):=o;simp only at hc hdat hd;subst hc hdat hd;let(hp,g,d,tk,os):=s;have hT:∀tk',(⟨hp,g,d,tk',os⟩:Shared).TypeIs (.ref a) "list":=λ_=>{_,hx,rfl};have f1:=sub_AttributeError;have f3:=PySem.F.slot_list_getattribute.lookup;have f4:=PySem.F.slot_list_getattribute.bind (.ref a);have f5:=am_list_getattr_none;unfold getAttr? getAttrBy? getAttrBy
 repeat (any_goals (first|assumption|exact hT _|((with_reducible show wpAny _ _ (call (Value.builtin "list.__getattribute__") _ _) _ _ _);refine call_meets PySem.F.slot_list_getattribute (hT _) am_entry_list_getattribute (PySem.F.args_list_getattribute_2 _ _) (meets_getattribute_miss_list a xs k sl _ _ ZU (3:)) ⟨hx,hA,λh' tk' e hx'=>?_⟩)|wp_step))
 let(t',u',he):=hx'.there;show wpAny _ _ (getattributeRaised _ _ _ _ _ _ _) _ _ _;unfold getattributeRaised
 repeat (any_goals (first|assumption|wp_step))
 exact h _ _ hx'.keeps
def qbD:entryFor table "dict.update.loop" = some Builtin.«dict.update.loop»:=entryFor_of_tree (4:)
def J1:plainId "dict.update.loop" = true:=(3:)
def qiy(prog:Program)(w:World)(h:Heap)(items:Array Value)(ps:List (Key×Value)):Prop:=items.size=ps.length/\∀(i:Nat) (kv:Key×Value),ps[i]?=some kv->∃(b:Addr) (ku:Value),items[i]?=some (.ref b)/\h.IsTuple b #[ku,kv.2]/\(qr prog w).is kv.1 ku=true
theorem qkZ{h0:Heap}{D I l:Addr}{items:Array Value}{ps:List (Key×Value)}{R:Result->Shared->Prop}(hD:h0.get? D=none)(hI:h0.get? I=none)(hne:D≠I)(hl:h0.IsList l items)(hps:qiy prog w h0 items ps)(hz:ps.length<=sizeLine)(hh:A.handled=none) :
  ∀(k i:Nat) (t:Tok) (s:Shared),ps.length - i=k->i<=ps.length->(∀b o,h0.get? b=some o->s.heap.get? b=some o)->s.heap.IsListIter I l i->s.heap.DictOf (qr prog w) D (merged [] (ps.take i))->
   (∀h' tk,(∀b o,h0.get? b=some o->h'.get? b=some o)->h'.DictOf (qr prog w) D (merged [] ps)->R (.ok (.ret .none)) { s with heap:=h',toks:=tk })->
   codeAny (model prog w) A (.builtin "dict.update.loop" ⟨[.ref D,.ref I,.int i t,.none],[]⟩) R s:=by
 have old:∀{b:Addr} {o:Obj},h0.get? b=some o->b≠D/\b≠I:=λ{b o} e=>{λz=>(by rw[z,hD]at e;cases e),λz=>(by rw[z,hI]at e;cases e)};intro k
 induction k with
 |zero=>
  intro i t s hk hi ho it dd hR;have hin:i=ps.length:=by lia
  subst hin;refine codeAny_builtin qbD ?_;rw[Around.under_plainId J1 _];show wpAny _ A.in1 (pyNext (.ref I) >>= _) _ _ s;have hl':s.heap.IsList l items:=hl.at λo e=>ho _ _ e;refine wpAny_bind (wpAny_pyNext_list_end (-hh:) it hl' (by simp[hps.1]) λh' eb=>?_);rw[List.take_length]at dd;show wpAny _ A.in1 (Builtin.Dict.addKeywords D [] >>= _) _ _ _;refine wpAny_bind (wpAny_pure (wpAny_pure (hR h' s.toks (λb o e=>eb b o (old e).2 (ho b o e)) ?_)));let(o,es,ep,h1,r):=dd;exact{o,es,ep,eb D o hne h1,r}
 |succ k ih=>
  intro i t s hk hi ho it dd hR;have hlt:i < ps.length:=by lia
  let(kv,hkv):∃kv,ps[i]?=some kv:={ps[i],List.getElem?_eq_getElem _};let(b,ku,h1,h2,h3):=hps.2 i kv hkv;have hl':s.heap.IsList l items:=hl.at λo e=>ho _ _ e;refine codeAny_builtin qbD ?_;rw[Around.under_plainId J1 _];show wpAny _ A.in1 (pyNext (.ref I) >>= _) _ _ s;refine wpAny_bind (wpAny_pyNext_list_item it hl' h1 λh' it' sb=>?_);have ho':∀b o,h0.get? b=some o->h'.get? b=some o:=λb o e=>(sb.2 b (old e).2).trans (ho b o e)
  have dd':h'.DictOf (qr prog w) D (merged [] (ps.take i)):=by let(o,es,ep,q,r):=dd;exact{o,es,ep,(sb.2 D hne).trans q,r}
  let(ot,q1,q2,n,q3):=h2;have hT:Shared.TypeIs { s with heap:=h' } (.ref b) "tuple":={ot,ho' _ _ q1,q2};show wpAny _ A.in1 (holding [Value.ref b] _ >>= _) _ _ _;refine wpAny_bind (wpAny_holding (wpAny_bind (wpAny_tryCatch ?_)));unfold Builtin.Dict.pairItems;refine wpAny_bind (wpAny_typeOf hT ?_);rw[if_pos (2:)];refine wpAny_bind (wpAny_seqItems (ho' _ _ q1) q3 (wpAny_pure ?_));show wpAny _ A.in1 (holding [ku,kv.2] (dictSet D ku kv.2)) _ _ _;unfold dictSet;refine wpAny_holding (wpAny_holding (wpAny_bind ((qr prog w).pyHash (k:=kv.1) h3 ?_)))
  have hmx:(merged [] (ps.take i)).length<=sizeLine:=by
   have e1:=merged_length_le ([]:List (Key×Value)) (ps.take i);have e2:(ps.take i).length<=ps.length:=by rw[List.length_take];lia
   simp![List.length_nil]at e1
   lia
  refine wpAny_dictSetHashed_pairs (s:={ s with heap:=h',toks:=s.toks+1 }) (hsz:=hmx) h3 dd' λh'' dd'' sb'=>?_;refine wpAny_pure ⟨plainId_quiet J1 _,ih (i+1) _ _ (1:) hlt (λb o e=>(sb'.2 b (old e).1).trans (ho' b o e)) ?_ ?_ hR⟩
  ·let(o,z,r):=it';exact{o,(sb'.2 I (Ne.symm hne)).trans z,r}
  ·rw[merged_take_succ [] ps i kv hkv];exact dd''
def qcF{l:Addr}{ol:Obj}{items:Array Value}{n:Nat}{ps:List (Key×Value)}{Q:PQ}(hh:A.handled=none)(hx:s.heap.get? l=some ol)(hc:ol.cls=.type "list")(hdat:ol.data=.seq items n)(hd:ol.dict=none)(hps:qiy prog w s.heap items ps)(hz:ps.length<=sizeLine)
  (h:∀h' tk,(∀b o,s.heap.get? b=some o->h'.get? b=some o)->h'.DictOf (qr prog w) s.heap.objs.size (merged [] ps)->Q (.ref s.heap.objs.size) { s with heap:=h',toks:=tk }) :
  wpAny (model prog w) A (call (.type "dict") [.ref l]) Q E s:=by
 refine callType_codes (Q₁:=λobj s₁=>obj=.ref s.heap.objs.size/\s₁={ s with heap:=s.heap.push { cls:=.type "dict",data:=.dict #[] } }) PySem.F.kt_called_dict (PySem.F.kt_typeCall_dict_1 _) PySem.F.entry_dict_init (kt_code_dict_new _ ⟨rfl,rfl⟩) ?_;rintro obj s₁ ⟨rfl,rfl⟩;have hnew:(s.heap.push { cls:=.type "dict",data:=.dict #[] }).DictOf (qr prog w) s.heap.objs.size []:=Heap.DictOf.new s.heap;have hx':(s.heap.push { cls:=.type "dict",data:=.dict #[] }).get? l=some ol:=Heap.get?_push_of_some _ hx;have hT:Shared.TypeIs { s with heap:=s.heap.push { cls:=.type "dict",data:=.dict #[] } } (.ref l) "list":=⟨ol,hx',hc⟩;refine{hnew.typeIs,PySem.F.args_dict_init_2 _ _,?_};unfold Builtin.«dict.__init__»;refine wpAny_bind ?_;unfold Builtin.Dict.selfAndRest;refine wpAny_bind (wpAny_notOrdered_dict hnew.typeIs ?_);show wpAny _ _ (pure (s.heap.objs.size,[Value.ref l])) _ _ _;refine wpAny_pure ?_;show wpAny _ _ (Builtin.Dict.updateFrom "dict.__init__" s.heap.objs.size (.ref l) [] .none) _ _ _;unfold Builtin.Dict.updateFrom;refine wpAny_bind (wpAny_typeOf hT ?_);rw[if_pos (2:)];refine wpAny_bind (qkY hx' hc hdat hd (-hh:) λh1 tk1 k1=>?_);rw[if_pos (by rfl)];refine wpAny_bind (wpAny_rule ?_);have hl1:h1.IsList l items:={ol,k1 _ _ hx',hc,n,hdat};refine wpAny_bind (wpAny_pyIter_list hl1 ?_);have k0:∀b o,s.heap.get? b=some o->(h1.push { cls:=.type "list_iterator",data:=.fields #[.ref l,.int 0 0] }).get? b=some o:=λb o e=>Heap.get?_push_of_some _ (k1 b o (Heap.get?_push_of_some _ e));let(od,es,ep,hod,rd):=hnew;have hlt:s.heap.objs.size < h1.objs.size:=Heap.lt_size (k1 _ _ hod);have hDI:s.heap.objs.size≠h1.objs.size:=Nat.ne_of_lt hlt;refine wpAny_pure ⟨plainId_quiet J1 _,?_⟩;refine qkZ (h0:=s.heap) (l:=l) (items:=items) (ps:=ps) (Heap.get?_none_of_le (Nat.le_refl _)) (Heap.get?_none_of_le (Nat.le_of_lt hlt)) hDI ⟨ol,hx,hc,n,hdat⟩ hps hz (-hh:) _ 0 _ _ rfl (Nat.zero_le _) k0 ?_ ?_ λh' tk ko dd=>?_
 ·exact{_,Heap.get?_push_size _ rfl,rfl,rfl}
 ·exact{od,es,ep,Heap.get?_push_of_some _ (k1 _ _ hod),rd}
 ·exact{rfl,h h' tk ko dd}
end
section
variable{X:Cx}
def kvV(kv:Str×Int):Key×V:=(.inr kv.1,.int kv.2)
theorem qhc{P:Program}{w:World}{H:Hp}{h:Heap}(ok:HOk P w H h):∀{xs:List V} {kvs:List (Str×Int)} {its:List Value},Paired (λx (kv:Str×Int)=>∃b,x=V.ref b/\H b=some (.tup [.str kv.1,.int kv.2])) xs kvs->qB xs its->
  ∃ps:List (Key×Value),KV (kvs.map kvV) ps/\Paired (λu (kv:Key×Value)=>∃b ku,u=Value.ref b/\h.IsTuple b #[ku,kv.2]/\(qr P w).is kv.1 ku=true) its ps
 |_,_,_,.nil,.nil=>{[],.nil,.nil}
 | _,_,_,.cons (b:=kv) hx hr,.cons rx rr=>by let(ps,h1,h2):=qhc ok hr rr;let(b,rfl,hb):=hx;let(_,its,rv,tp):=(show qO P w H h b (.tup [.str kv.1,.int kv.2]) from ok b _ hb);let(u,v,rfl,ru,rv):=Zs rv;exact{(.inr kv.1,v)::ps,.cons ⟨rfl,rv⟩ h1,.cons {b,u,rx,tp,qio (k:=.inr kv.1) ru} h2}
theorem Paired.ix{α M:Type}{R:α->M->Prop}:∀{l:List α} {m:List M} {i:Nat} {b:M},Paired R l m->m[i]?=some b->∃a,l[i]?=some a/\R a b
 |_,_,_,_,.nil,e=>by simp at e
 |_,_,0,_,.cons h t,e=>by simp at e;subst e;exact{_,rfl,h}
 | _,_,i+1,_,.cons h t,e=>by let(a,e1,e2):=Paired.ix (i:=i) t (-e:);exact{a,(-e1:),e2}
def qcG(hc:X.calm=true):qW X (.type "dict") (λvs H Q=>∃(p:Addr) (xs:List V) (kvs:List (Str×Int)),vs=[.ref p]/\SqL X.K H p xs/\Paired (λx (kv:Str×Int)=>∃b,x=V.ref b/\H b=some (.tup [.str kv.1,.int kv.2])) xs kvs/\(kvs.map (·.1)).Nodup/\∀q,H q=none->Q (.ref q) (upd H q (.dK (kvs.map kvV)))):=by
 intro pins s Z H xs us Q I r h;let(p,xs,kvs,rfl,hq,hp,nd,q):=h;let(u,rfl,rx):=yU r;cases rx;let(its,rv,(ol,n,g1,g2,g3,g4),hz):=I.list hq;let(ps,h1,h2):=qhc I.hok hp rv;have e1:=h1.length;have e2:=h2.length;have e3:=rv.length;rw[List.length_map]at e1
 have hps:qiy X.prog X.w s.heap its.toArray ps:={by simpa using e2,λi kv e=>by let(u,z1,b,ku,z2,z3,z4):=Paired.ix h2 e;exact{b,ku,by rw[<-z2];simpa using z1,z3,z4}}
 refine qcF (I.ok.hd hc) g1 g2 g4 g3 hps (1:) λh' tk ko dd=>?_
 have nk:(ps.map (·.1)).Nodup:=by
  rw[<-h1.keys,List.map_map]
  have:((λx:Key×V=>x.1) ∘ kvV)=(Sum.inr:Str->Key) ∘ (λkv:Str×Int=>kv.1):=rfl
  rw[this,<-List.map_map];exact nd.map (f:=(Sum.inr:Str->Key)) (λa b=>by simp)
 rw[merged_nil_of_nodup ps nk]at dd;refine{.ref _,_,I.laid (a:=s.heap.objs.size) (o:=.dK (kvs.map kvV)) (t':=tk) ko (Nat.le_refl _) (qkQ (by rw[List.length_map];lia) (beq_eq_false_iff_ne.mpr (Ne.symm (Nat.ne_of_lt I.big))) h1 dd),rfl,q _ (I.hok.fresh (Nat.le_refl _))}
end
end L2
namespace TS
open PySem PySem.W PyProof.Rows
def evO{α:Type}(n:Nat)(c:Nat->Nat->Bool):KasT α->Option α
 |.ret a=>some a
 |.ask i j k=>if i < n/\j < n then evO n c (k (c i j)) else none
theorem qk0{α:Type}{n:Nat}{c:Nat->Nat->Bool}{cmp:Nat->Nat->(Bool->Shared->Prop)->Shared->Prop}{s:Shared}(hc:∀i j C,i < n->j < n->C (c i j) s->cmp i j C s){Q:α->Shared->Prop}:∀(t:KasT α) (a:α),evO n c t=some a->Q a s->t.kasWp cmp Q s
 |.ret a,b,e,h=>by cases e;exact h
 |.ask i j k,b,e,h=>by
  unfold evO at e
  split at e
  ·rename_i hij;exact hc i j _ hij.1 hij.2 (qk0 hc (k (c i j)) b e h)
  ·cases e
def cF(f:List Nat)(i j:Nat):Bool:=decide (f.getD i 0 < f.getD j 0)
def qno(f:List Nat):List Nat->Bool
 | a::b::l=>decide (f.getD a 0<=f.getD b 0)&&qno f (b::l)
 |_=>true
def chk(n:Nat)(f:List Nat):Bool:=match evO n (cF f) (kas_sort n) with
 |some p=>decide (p.toList.Perm (List.range n))&&qno f p.toList
 |none=>false
def qiz(n:Nat):Nat->List (List Nat)
 |0=>[[]]
 | k+1=>(List.range n).flatMap λa=>(qiz n k).map (a :: ·)
theorem qd0(n:Nat):∀(f:List Nat),(∀x∈f,x < n)->f∈qiz n f.length
 |[],_=>by simp[qiz]
 | a::f,h=>by rw[List.length_cons,qiz,List.mem_flatMap];exact{a,List.mem_range.mpr (h a (5:)),List.mem_map.mpr {f,qd0 n f λx hx=>h x (by simp[hx]),rfl}}
def qpR:∀f∈qiz 2 2,chk 2 f=true:=(3:)
def qpS:∀f∈qiz 3 3,chk 3 f=true:=(3:)
def qpT:∀f∈qiz 4 4,chk 4 f=true:=(3:)
def qiA{n:Nat}(h2:2<=n)(h4:n<=4){f:List Nat}(hl:f.length=n)(hf:∀x∈f,x < n):chk n f=true:=by
 have m:=qd0 n f hf;rw[hl]at m;rcases (by lia:n=2\/n=3\/n=4) with rfl|rfl|rfl
 ·exact qpR f m
 ·exact qpS f m
 ·exact qpT f m
theorem QB{p q:Nat->Bool}:∀(l:List Nat),(∀k∈l,p k=true->q k=true)->l.countP p<=l.countP q
 |[],_=>Nat.le_refl _
 | a::l,h=>by
  have ih:=QB l λk hk=>h k (by simp[hk]);rw[List.countP_cons,List.countP_cons]
  have:=h a (5:)
  cases e:p a with
  |true=>rw[this e];simp;exact ih
  |false=>simp;exact Nat.le_trans ih (Nat.le_add_right _ _)
theorem qd1{p q:Nat->Bool}{x:Nat}(hp:p x=false)(hq:q x=true):∀(l:List Nat),x∈l->(∀k∈l,p k=true->q k=true)->l.countP p < l.countP q
 |[],hx,_=>by cases hx
 | a::l,hx,h=>by
  rw[List.countP_cons,List.countP_cons];have ha:=h a (5:);have hl:∀k∈l,p k=true->q k=true:=λk hk=>h k (by simp[hk])
  by_cases e:a=x
  ·subst e;rw[hp,hq]
   have:=QB l hl
   simp
   lia
  ·have ih:=qd1 hp hq l (by rcases List.mem_cons.mp hx with z|z;exact absurd z.symm e;exact z) hl
   cases e2:p a with
   |true=>rw[ha e2];simp;exact ih
   |false=>simp;lia
section
variable{O:KeyOrd}(key:Nat->O.α)(n:Nat)
def rnk(i:Nat):Nat:=(List.range n).countP λj=>O.blt (key j) (key i)
theorem qhd{i j:Nat}(hi:i < n):decide (rnk key n i < rnk key n j)=O.blt (key i) (key j):=by
 cases e:O.blt (key i) (key j) with
 |true=>exact decide_eq_true (qd1 (O.irrefl _) e _ (List.mem_range.mpr hi) λk _ hk=>O.trans _ _ _ hk e)
 |false=>
  refine decide_eq_false (Nat.not_lt.mpr (QB _ λk _ hk=>?_));rcases O.negTrans _ (key i) _ hk with z|z
  ·exact z
  ·rw[e]at z;cases z
def qnY{i:Nat}(hi:i < n):rnk key n i < n:=by
 have:=qd1 (p:=λj=>O.blt (key j) (key i)) (q:=λ_=>true) (x:=i) (O.irrefl _) rfl (List.range n) (List.mem_range.mpr hi) λ_ _ _=>rfl
 rwa[show(List.range n).countP (λ_=>true)=n by simp]at this
def rks:List Nat:=(List.range n).map (rnk key n)
def qbE{i:Nat}(hi:i < n):(rks key n).getD i 0=rnk key n i:=by unfold rks;simp[List.getD,hi]
end
theorem qd2{f:List Nat}:∀{l:List Nat},qno f l=true->∀(i j a b:Nat),i<=j->l[i]?=some a->l[j]?=some b->f.getD a 0<=f.getD b 0
 |[],_,i,j,a,b,_,h,_=>by simp at h
 |[x],_,i,j,a,b,hij,h1,h2=>by
  have hi:i=0:=by have:=(List.getElem?_eq_some_iff.mp h1).1;simp at this;exact this
  have hj:j=0:=by have:=(List.getElem?_eq_some_iff.mp h2).1;simp at this;exact this
  subst hi hj;rw[h1]at h2;cases h2;exact Nat.le_refl _
 | x::y::l,h,i,j,a,b,hij,h1,h2=>by
  unfold qno at h;rw[Bool.and_eq_true,decide_eq_true_eq]at h
  cases j with
  |zero=>
   obtain rfl:i=0:=by lia
   rw[h1]at h2;cases h2;exact Nat.le_refl _
  |succ j=>
   rw[List.getElem?_cons_succ]at h2
   cases i with
   |zero=>cases h1;exact Nat.le_trans h.1 (qd2 h.2 0 j y b (Nat.zero_le _) rfl h2)
   |succ i=>rw[List.getElem?_cons_succ]at h1;exact qd2 h.2 i j a b (1:) h1 h2
section
variable{prog:Program}{w:World}{A:Around}{E:PQ}{s:Shared}{O:KeyOrd}{kf:Keyed->O.α}{U:SortKind}{a0:Array Keyed}
theorem qnZ(kl:∀x y,x∈a0.toList->y∈a0.toList->∀C:Bool->Shared->Prop,C (O.blt (kf x) (kf y)) s->wpAny (model prog w) A (keyLt' U x.1 y.1) C (λ_ _=>False) s)(h2:2<=a0.size)(h4:a0.size<=4){Q:Unit×SortSt->Shared->Prop}
  (h:∀st':SortSt,(arrOf st').Perm a0->failedOf st'=none->Srt O kf (arrOf st') 0 a0.size->Q ((),st') s):wpAny (model prog w) A (sortRuns'.run (SortSt.mk' U a0 #[] 7 none)) Q E s:=by
 have key0:∀i,i < a0.size->kas_item a0 i∈a0.toList:=λi hi=>by
  have e:kas_item a0 i=a0[i]:=by unfold kas_item;simp[hi]
  rw[e];exact Array.getElem_mem_toList hi
 have ck:=qiA (n:=a0.size) h2 h4 (f:=rks (λi=>kf (kas_item a0 i)) a0.size) (by simp[rks]) (λx hx=>by let(i,hi,rfl):=List.mem_map.mp hx;exact qnY _ _ (List.mem_range.mp hi))
 unfold chk at ck
 cases ev:evO a0.size (cF (rks (λi=>kf (kas_item a0 i)) a0.size)) (kas_sort a0.size) with
 |none=>rw[ev]at ck;cases ck
 |some p=>
  rw[ev]at ck;dsimp only at ck;rw[Bool.and_eq_true,decide_eq_true_eq]at ck
  have e0:SortSt.mk' U a0 #[] 7 none=kas_st U a0 (List.toArray (List.range a0.size)):=by unfold kas_st;rw[kas_range]
  rw[e0];refine kas_runs (E:=E) (Q:=λu st' s'=>Q (u,st') s') (it:=a0) (G:=λp' s'=>p'=p/\s'=s) h2 (1:) (λp' st' s' hz ha hf hG=>?_) (qk0 (c:=cF (rks (λi=>kf (kas_item a0 i)) a0.size)) (λi j C hi hj hC=>?_) _ p ev ⟨rfl,rfl⟩)
  ·let(rfl,rfl):=hG
   have hp:(arrOf st').Perm a0:=by
    rw[ha,Array.perm_iff_toList_perm,Array.toList_map]
    have:=ck.1.map (kas_item a0)
    have e:=congrArg Array.toList (kas_range a0);rw[Array.toList_map]at e;exact this.trans (by rw[<-e])
   refine h st' hp hf λi j x y _ hij hj hx hy=>?_;rw[ha]at hx hy;rw[Array.getElem?_map]at hx hy;let(a,a1,rfl):=Option.map_eq_some_iff.mp hx;let(b,b1,rfl):=Option.map_eq_some_iff.mp hy;rw[<-Array.getElem?_toList]at a1 b1;have la:a < a0.size:=List.mem_range.mp (ck.1.mem_iff.mp (List.mem_of_getElem? a1));have lb:b < a0.size:=List.mem_range.mp (ck.1.mem_iff.mp (List.mem_of_getElem? b1))
   have:=qd2 ck.2 i j a b hij a1 b1
   rw[qbE _ _ la,qbE _ _ lb]at this;have r:=qhd (λi=>kf (kas_item a0 i)) a0.size (i:=b) (j:=a) lb;rw[decide_eq_false (Nat.not_lt.mpr this)]at r;exact r.symm
  ·have e:cF (rks (λi=>kf (kas_item a0 i)) a0.size) i j=O.blt (kf (kas_item a0 i)) (kf (kas_item a0 j)):=by
    unfold cF;rw[qbE _ _ hi,qbE _ _ hj];exact qhd (λi=>kf (kas_item a0 i)) a0.size hi
   rw[e]at hC;exact kl _ _ (key0 i hi) (key0 j hj) C hC
end
structure Sorts4(prog:Program)(w:World)(s:Shared)(vs:List Value)(O:KeyOrd)(kf:Keyed->O.α)(U:SortKind):Prop where
 kind:2<=vs.length->∀(A:Around) (E:PQ) (s1:Shared) (Q:SortKind->Shared->Prop),qdJ s s1->Q U s1->wpAny (model prog w) A (keyKind' vs.toArray) Q E s1
 kl:∀(A:Around) (s1:Shared),qdJ s s1->∀x y,x∈(pairsOf vs).toList->y∈(pairsOf vs).toList->∀C:Bool->Shared->Prop,C (O.blt (kf x) (kf y)) s1->wpAny (model prog w) A (keyLt' U x.1 y.1) C (λ_ _=>False) s1
section
variable{prog:Program}{w:World}{s:Shared}
def qcH{vs:List Value}{ps:List (Int×Int)}(h:Paired (qbz s.heap) vs ps):Sorts4 prog w s vs pO (λx=>yz s.heap x.1) (tuples' true) where
 kind:=λh2 A E s1 Q g q=>by let(fs,t1,t2,t3):=qdK (Paired.grow2 g h);refine PySem.W.kat_kind t1 (1:) (T:=Value.type "int") (λv hv=>?_) rfl q;let(n,t,rfl):=t3 v hv;exact .now
 kl:=λA s1 g x y hx hy C q=>by let(p,_,hp):=Paired.at_mem h _ (ZI hx).2;let(p',_,hp'):=Paired.at_mem h _ (ZI hy).2;have q:C (pO.blt (yz s.heap x.1) (yz s.heap y.1)) s1:=q;rw[hp.pair,hp'.pair]at q;exact qkJ (hp.grow g) (hp'.grow g) q
end
section
variable{prog:Program}{w:World}{A:Around}{E:PQ}{s:Shared}{O:KeyOrd}{kf:Keyed->O.α}{U:SortKind}
def qfV{s0:Shared}{a:Addr}{vs:List Value}{n:Nat}{P:PySem.Fin->Shared->Prop}(S:Sorts4 prog w s0 vs O kf U)(ho:s.heap.get? a=some (seqObj "list" vs.toArray n))(hsz:vs.length<=sizeLine)(h64:vs.length<=4)
  (hg:∀b o,s0.heap.get? b=some o->s.heap.get? b=some o/\b≠a)
  (h:∀st':SortSt,(arrOf st').Perm (pairsOf vs)->Srt O kf (arrOf st') 0 (pairsOf vs).size->P (.done (.ret .none)) { s with heap:=sortedHeap s.heap a vs ((arrOf st').map (·.2)) }) :
  wpAny (model prog w) A (Builtin.«list.sort» ⟨[.ref a],[]⟩) P E s:=by
 rw[list_sort_plain];have ha:a < s.heap.objs.size:=Heap.lt_size ho;have hv:vs.toArray.size=vs.length:=by simp
 refine wpAny_bind (listItems_at ho rfl (wpAny_bind (listUpdate_at ho rfl ?_ (by rw[hv];exact hsz) (Nat.zero_le _))));let(n1,ho1):∃n1,(s.heap.update a (Obj.mapSeq λ_=>#[])).get? a=some (seqObj "list" #[] n1):={_,get?_update_seq ho (λ_=>#[])};refine wpAny_bind (seqEpoch_at ho1 rfl (wpAny_bind (wpAny_newTuple ?_ (-hsz:))));refine wpAny_bind (wpAny_newList (wpAny_holding ?_) (Nat.zero_le _));generalize hh:(((s.heap.update a (Obj.mapSeq λ_=>#[])).push (seqObj "tuple" vs.toArray 0)).push (seqObj "list" #[] 0))=h6
 have ho6:h6.get? a=some (seqObj "list" #[] n1):=by rw[<-hh];exact Heap.get?_push_of_some _ (Heap.get?_push_of_some _ ho1)
 have grown:qdJ s0 { s with heap:=h6 }:=λb o e=>by let(e1,ne):=hg b o e;show h6.get? b=some o;rw[<-hh];exact Heap.get?_push_of_some _ (Heap.get?_push_of_some _ (by rw[Heap.get?_update_ne _ _ _ _ ne];exact e1))
 have fin:∀st':SortSt,(arrOf st').Perm (pairsOf vs)->Srt O kf (arrOf st') 0 (pairsOf vs).size->P (.done (.ret .none)) { s with heap:=h6.update a (Obj.mapSeq λ_=>(arrOf st').map (·.2)) }:=λst' a1 a2=>by
  have:=h st' a1 a2
  unfold sortedHeap at this;rw[hh]at this;exact this
 have small:∀st':SortSt,(arrOf st').Perm (pairsOf vs)->((arrOf st').map (·.2)).size<=sizeLine+1:=λst' hp=>by
  rw[Array.size_map,hp.size_eq,pairsOf_size]
  lia
 show wpAny (model prog w) A _ P E { s with heap:=h6 };dsimp only
 by_cases h2:vs.toArray.size < 2
 ·rw[if_pos h2,if_pos h2];refine wpAny_bind (wpAny_pure ?_);rw[StateT.run_pure];refine wpAny_bind (wpAny_pure ?_);dsimp only;refine wpAny_bind (seqEpoch_at ho6 rfl ?_);refine wpAny_bind (listUpdate_at ho6 rfl ?_ (Nat.zero_le _) (small (SortSt.mk' general' (vs.toArray.zip vs.toArray) #[] 7 none) (Array.Perm.refl _)));simp![bne_self_eq_false,Bool.false_eq_true,if_false];refine wpAny_pure (fin (SortSt.mk' general' (vs.toArray.zip vs.toArray) #[] 7 none) (Array.Perm.refl _) ?_);intro i j x y _ b c d e
  have:i=j:=by rw[pairsOf_size]at c;lia
  subst this;rw[d]at e;cases e;exact KeyOrd.kle_refl _
 ·rw[if_neg h2,if_neg h2];refine wpAny_bind (S.kind (1:) A E _ _ grown ?_);refine wpAny_bind (qnZ (O:=O) (kf:=kf) (a0:=pairsOf vs) (S.kl _ _ grown) (by rw[pairsOf_size];lia) (by rw[pairsOf_size];exact h64) λst' hp hf hs=>?_);dsimp only;refine wpAny_bind (seqEpoch_at ho6 rfl (wpAny_bind (listUpdate_at ho6 rfl ?_ (Nat.zero_le _) (small st' hp))));rw[hf];simp![bne_self_eq_false,Bool.false_eq_true,if_false];exact wpAny_pure (fin st' hp hs)
def qaU{l:Addr}{vs:List Value}{Q:PQ}(S:Sorts4 prog w s vs O kf U)(hl:s.heap.IsList l vs.toArray)(hsz:vs.length<=sizeLine)(h64:vs.length<=4)
  (h:∀st':SortSt,(arrOf st').Perm (pairsOf vs)->Srt O kf (arrOf st') 0 (pairsOf vs).size->Q (.ref (s.heap.objs.size+1)) { s with heap:=sortedAll s.heap vs ((arrOf st').map (·.2)) }) :
  wpAny (model prog w) A (call (.builtin "sorted") [.ref l]) Q E s:=by
 refine Calls.call_function_entry kind_sorted plain_sorted entry_sorted (args_sorted1 _) ?_;unfold Builtin.«sorted»;refine wpAny_bind (m:=checkCount "sorted" 1 1 _) (wpAny_pure (wpAny_bind (collect_list hl ?_ hsz)));refine wpAny_bind (wpAny_newList ?_ hsz);have hz:((s.heap.push (seqObj "list" #[] 0)).update s.heap.objs.size (Obj.mapSeq (· ++ vs.toArray))).objs.size=s.heap.objs.size+1:=by rw[Heap.size_update,size_push']
 show wpAny _ _ _ _ _ { s with heap:=((s.heap.push (seqObj "list" #[] 0)).update s.heap.objs.size (Obj.mapSeq (· ++ vs.toArray))).push (seqObj "list" vs.toArray 0) };rw[hz];generalize hh:((s.heap.push (seqObj "list" #[] 0)).update s.heap.objs.size (Obj.mapSeq (· ++ vs.toArray))).push (seqObj "list" vs.toArray 0)=h6
 have hoL:h6.get? (s.heap.objs.size+1)=some (seqObj "list" vs.toArray 0):=by rw[<-hh,<-hz];exact Heap.get?_push_size _ rfl
 have old:∀b o,s.heap.get? b=some o->h6.get? b=some o/\b≠s.heap.objs.size+1:=λb o e=>by have hlt:b < s.heap.objs.size:=Heap.lt_size e;refine{?_,Nat.ne_of_lt (Nat.lt_succ_of_lt hlt)};rw[<-hh];refine Heap.get?_push_of_some _ ?_;rw[Heap.get?_update_ne _ _ _ _ (Nat.ne_of_lt hlt)];exact Heap.get?_push_of_some _ e
 have hr:∀st':SortSt,(arrOf st').Perm (pairsOf vs)->Srt O kf (arrOf st') 0 (pairsOf vs).size->Q (.ref (s.heap.objs.size+1)) { s with heap:=sortedHeap h6 (s.heap.objs.size+1) vs ((arrOf st').map (·.2)) }:=λst' a1 a2=>by
  have:=h st' a1 a2
  unfold sortedAll at this;rw[hh]at this;exact this
 refine wpAny_bind (wpAny_holding (wpAny_call_entry slot_list_sort ⟨_,hoL,rfl⟩ entry_list_sort (qfV S hoL hsz h64 old λst' a1 a2=>{_,rfl,?_}) (args_list_sort _)));exact wpAny_pure ⟨_,rfl,hr st' a1 a2⟩
end
end TS
namespace L2
open PySem PySem.Spec PyProof.Rows
section
variable{X:Cx}
def ZV:qW X (.builtin "sorted") (λvs H Q=>∃p xs ps,vs=[.ref p]/\SqL X.K H p xs/\xs.length<=4/\Paired (P2 X.K H) xs ps/\
  ∀l ys qs,H l=none->Paired (P2 X.K H) ys qs->ys.Perm xs->qs.Perm ps->qs.Pairwise qdL->Q (.ref l) (upd H l (.lst ys))):=by
 intro pins s Z H xs us Q I r h;let(p,xs,ps,rfl,hq,h64,hp,q):=h;let(u,rfl,rx):=yU r;cases rx;let(its,rv,pl,hz):=I.list hq;have hlen:=rv.length
 have three:∀{xs:List V} {its:List Value} {ps:List (Int×Int)},qB xs its->Paired (P2 X.K H) xs ps->Paired (λ(z:V×(Int×Int)) u=>qH z.1 u/\P2 X.K H z.1 z.2/\TS.qbz s.heap u z.2) (xs.zip ps) its/\Paired (TS.qbz s.heap) its ps/\xs.length=ps.length:=by
  intro xs its ps a b
  induction a generalizing ps with
  |nil=>cases b;exact{.nil,.nil,rfl}
  |cons r rs ih=>
   cases b with
   |cons b bs=>let(i1,i2,i3):=ih bs;have t:=P2.raw I b r;exact{.cons ⟨r,b,t⟩ i1,.cons t i2,by simp[i3]}
 let(t1,t2,t3):=three rv hp;refine TS.qaU (TS.qcH t2) pl.isList (1:) (1:) λst' pm sr=>?_
 have hl:(arrOf st').toList.Perm (its.zip its):=by
  have:=Array.perm_iff_toList_perm.mp pm
  rwa[pairsOf_toList]at this
 have hout:((arrOf st').map (·.2)).toList.Perm its:=by
  rw[Array.toList_map]
  have:=hl.map (·.2)
  rwa[List.map_snd_zip (Nat.le_refl _)]at this
 let(zs,z1,z2):=TS.Paired.perm hout t1
 have hys:(zs.map (·.1)).Perm xs:=by
  have:=z1.map (·.1)
  rwa[List.map_fst_zip (1:)]at this
 have hqs:(zs.map (·.2)).Perm ps:=by
  have:=z1.map (·.2)
  rwa[List.map_snd_zip (1:)]at this
 have hv:qB (zs.map (·.1)) ((arrOf st').map (·.2)).toList:=by
  clear z1 hys hqs;generalize ((arrOf st').map (·.2)).toList=ol at z2
  induction z2 with
  |nil=>exact .nil
  |cons r _ ih=>exact .cons r.1 ih
 have hP:Paired (P2 X.K H) (zs.map (·.1)) (zs.map (·.2)):=by
  clear z1 hys hqs hv;generalize ((arrOf st').map (·.2)).toList=ol at z2
  induction z2 with
  |nil=>exact .nil
  |cons r _ ih=>exact .cons r.2.1 ih
 have hkeys:((arrOf st').map (·.2)).toList.map (TS.yz s.heap)=zs.map (·.2):=by
  clear z1 hys hqs hv hP;generalize ((arrOf st').map (·.2)).toList=ol at z2
  induction z2 with
  |nil=>rfl
  |cons r _ ih=>rw[List.map_cons,List.map_cons,ih,r.2.2.pair]
 have hsrt:(zs.map (·.2)).Pairwise qdL:=by
  rw[<-hkeys,Array.toList_map,List.map_map];have h0:(arrOf st').size=(pairsOf its).size:=pm.size_eq;rw[<-h0]at sr
  have:=sr.pw
  refine List.pairwise_map.mpr ?_;refine List.Pairwise.imp_of_mem (λ{a b} ha hb hab=>?_) this;have ea:=(mem_zip_self (hl.mem_iff.mp ha)).1;have eb:=(mem_zip_self (hl.mem_iff.mp hb)).1;have hab:TS.pO.blt (TS.yz s.heap b.1) (TS.yz s.heap a.1)=false:=hab;rw[ea,eb]at hab;unfold TS.pO at hab;simp at hab;show qdL (TS.yz s.heap a.2) (TS.yz s.heap b.2);unfold qdL
  lia
 let(e,he):=sortedAll_at s.heap its ((arrOf st').map (·.2));have hz2:(zs.map (·.1)).length<=sizeLine:=by rw[hys.length_eq];exact hz
 refine{.ref (s.heap.objs.size+1),_,I.laid (t':=s.toks) (λb o eb=>sortedAll_old eb) (Nat.le_succ _) (show qO X.prog X.w _ _ _ (.lst (zs.map (·.1))) from{hz2,_,e,hv,?_}),rfl,q _ _ _ (I.hok.fresh (Nat.le_succ _)) hP hys hqs hsrt};rw[Array.toArray_toList];exact he
end
open PySem.W
def qd3(K:Frag)(C fI:Addr)(bmB:List Value)(newId:String):Bool:=match K.lookup C with
 | some ⟨.type "type",_,.cls cd,sl⟩=>(match cd.mro,sl.toList with
  | .ref C'::bm,[_,_,_,_,some (.builtin n),_]=>C' == C&&n == newId&&!cd.hasDel&&tailIn K bmB bm&&nsOkIn K cd.ns&&nsIn K cd.ns "__init__" == some (some (.ref fI))
  |_,_=>false)
 |_=>false
def qcI{K:Frag}{h:Heap}{N:Addr}{mg:PR}{n:Str}{v:Value}(X:K.In h)(G:h.Ns N mg)(e:nsIn K N n=some (some v)):mg n=some v:=by
 let(o,es,ep,ho,hd,_,hf):=G;unfold nsIn at e
 split at e
 ·rename_i c d es' n' sl q
  have:=X _ _ q
  rw[ho]at this;cases this;cases hd
  split at e
  ·rename_i en he;cases e;rw[<-hf];unfold nsFind findBy;rw[<-Array.find?_toList,he];rfl
  ·split at e<;>cases e
 ·cases e
def qfW{K:Frag}{h:Heap}{C fI:Addr}{bB:List Value}{nid:String}(Y:K.In h)(ok:qd3 K C fI bB nid=true) :
  ∃bm N nm qn bs hd sn sub ab col dd k0 k1 k2 k3 k5 mN,h.get? C=some (excClassObj nm qn C N bs bm hd sn sub ab col dd k0 k1 k2 k3 k5 nid)/\h.Ns N mN/\mN "__init__" = some (.ref fI)/\OwnTail h bB bm:=by
 unfold qd3 at ok
 split at ok
 case h_2=>cases ok
 case h_1 d1 cdat slots hlk=>
  split at ok
  case h_2=>cases ok
  case h_1 C2 tl a0 a1 a2 a3 nn a5 hmro hsl=>
   simp![Bool.and_eq_true,beq_iff_eq,Bool.not_eq_true']at ok;let(((((e1,e2),e3),e4),e5),e6):=ok;subst e1;subst e2;let(w1,w2,w3,w4,w5,w6,w7,w8,w9,w10,w11):=cdat
   dsimp only at hmro e3 e5 e6;subst hmro;subst e3;obtain⟨sl⟩:=slots;obtain rfl:sl=[a0,a1,a2,a3,some (.builtin nn),a5]:=hsl;exact{tl,w4,w1,w5,w2,w6,w7,w8,w9,w10,d1,a0,a1,a2,a3,a5,_,Y _ _ hlk,.of_isNs (isNs_of_in Y e5),qcI Y (.of_isNs (isNs_of_in Y e5)) e6,tail_of_in Y e4}
section
variable{prog:Program}{w:World}{A:Around}{E:PQ}{h:Heap}{g:Array GenState}{d:Drawn}{t:Nat}{os:OsState}
variable{nm q:Str}{C N:Addr}{bs bm bmB:List Value}{hdct:Bool}{sn:List Str}{sub:List Value}{ab:Bool}{col:Option Bool}{dd:Option Addr}{k0 k1 k2 k3 k5:Option Value}{B newId initId:String}
def Yg(F:ExcBaseFacts B newId initId bmB)(T:OwnTail h bmB bm){mN:PR}{rest:List Value}{fI:Addr}{oI:Obj}{Q:Fin->Shared->Prop}
  (hC:h.get? C=some (excClassObj nm q C N bs bm hdct sn sub ab col dd k0 k1 k2 k3 k5 newId)) (hn:h.Ns N mN) (hi:mN "__init__" = some (.ref fI))
  (hfI:h.get? fI=some oI) (hfc:oI.cls=.type "function")
  (hq:∀h' e,Heap.MadeExcOf h h' e (.ref C) rest->
   wpAny (model prog w) A (call (.ref fI) (.ref e::rest)) (λr s'=>r=.none/\Q (.done (.ret (.ref e))) s') E ⟨h',g,d,t,os⟩) (hrest:rest.length<=sizeLine) :
  wpAny (model prog w) A (Builtin.«type.__call__» ⟨.ref C::rest,[]⟩) Q E ⟨h,g,d,t,os⟩:=by
 repeat (first|with_reducible refine wpAny_loadPart_at hC ?_|with_reducible refine wpAny_madeBy_exc hC ?_|wp_step)
 refine codeAny_call_builtin_code (Code.quiet_builtin _ F.quiet) (wpAny_check_new_subT F T hC ?_);refine codeAny_exc_new_subT F T hC ?_ hrest;show wpAny _ _ _ _ _ _
 have hC₁:=Heap.get?_push_of_some { cls:=.ref C,data:=.fields #[.ref h.objs.size,.none,.none,.none,.bool false,.none] }
  (Heap.get?_push_of_some { cls:=.type "tuple",data:=.seq rest.toArray } hC)
 have hfI₁:=Heap.get?_push_of_some { cls:=.ref C,data:=.fields #[.ref h.objs.size,.none,.none,.none,.bool false,.none] }
  (Heap.get?_push_of_some { cls:=.type "tuple",data:=.seq rest.toArray } hfI)
 have hn₁:((h.push { cls:=.type "tuple",data:=.seq rest.toArray }).push { cls:=.ref C,data:=.fields #[.ref h.objs.size,.none,.none,.none,.bool false,.none] }).Ns N mN:=
  let ⟨o,es,ep,e,r⟩:=hn;⟨o,es,ep,Heap.get?_push_of_some _ (Heap.get?_push_of_some _ e),r⟩
 have hget:((h.push { cls:=.type "tuple",data:=.seq rest.toArray }).push
   { cls:=.ref C,data:=.fields #[.ref h.objs.size,.none,.none,.none,.bool false,.none] }).get? (h.objs.size+1)=some
   { cls:=.ref C,data:=.fields #[.ref h.objs.size,.none,.none,.none,.bool false,.none] }:=by heap_get
 have hcC:(Value.ref C::bm).contains (.ref C)=true:=by simp
 have T₁:=T.keeps (h':=(h.push { cls:=.type "tuple",data:=.seq rest.toArray }).push { cls:=.ref C,data:=.fields #[.ref h.objs.size,.none,.none,.none,.bool false,.none] })
  λb o e=>Heap.get?_push_of_some _ (Heap.get?_push_of_some _ e)
 unfold isInstance
 repeat (first|with_reducible refine wpAny_loadPart_at hget ?_|(with_reducible refine wpAny_isSubtype_exc hC₁ ?_;rw[hcC])|wp_step)
 show wpAny _ _ (typeLookup (.ref C) _) _ _ _;refine wpAny_typeLookup_tail hC₁ hn₁ T₁ F.mroIs F.init.lookup ?_;rw[hi];refine wpAny_holding (wpAny_bind ?_);unfold bindSpecial;refine wpAny_bind (wpAny_typeOf (T:="function") ⟨_,hfI₁,hfc⟩ ?_);rw[if_pos (2:)];refine wpAny_pure (wpAny_bind (wpAny_mono (hq _ (h.objs.size+1) ⟨λb o hb=>Heap.get?_push_of_some _ (Heap.get?_push_of_some _ hb),Heap.get?_none_of_le (Nat.le_succ _),h.objs.size,hget,Heap.get?_none_of_le (Nat.le_refl _),?_⟩) (λr s' hr=>?_) λ_ _ x=>x))
 ·exact Heap.get?_push_of_some _ (Heap.get?_push_at rfl rfl)
 ·let(rfl,hQ):=hr
  wp_walk
  exact hQ
def qcJ(F:ExcBaseFacts B newId initId bmB)(T:OwnTail h bmB bm){mN:PR}{rest:List Value}{fI:Addr}{oI:Obj}{Q:PQ}
  (hC:h.get? C=some (excClassObj nm q C N bs bm hdct sn sub ab col dd k0 k1 k2 k3 k5 newId)) (hn:h.Ns N mN) (hi:mN "__init__" = some (.ref fI))
  (hfI:h.get? fI=some oI) (hfc:oI.cls=.type "function")
  (hq:∀h' e,Heap.MadeExcOf h h' e (.ref C) rest->
   wpAny (model prog w) (A.under (.builtin "type.__call__" ⟨.ref C::rest,[]⟩)) (call (.ref fI) (.ref e::rest)) (λr s'=>r=.none/\Q (.ref e) s') E ⟨h',g,d,t,os⟩) (hrest:rest.length<=sizeLine) :
  wpAny (model prog w) A (call (.ref C) rest) Q E ⟨h,g,d,t,os⟩:=by
 have f1:=tc_lookup;have f2:=tc_bind (.ref C);have hT:(⟨h,g,d,t,os⟩:Shared).TypeIs (.ref C) "type":={_,hC,rfl};refine wpAny_call (codeAny_of_tree ?_);show wpAny _ _ (callAny (.ref C) _) _ _ _
 repeat (any_goals (first|assumption|with_reducible refine wpAny_loadPart_at hC ?_|wp_step))
 refine{rfl,?_};refine codeAny_call_builtin_at (Code.quiet_builtin _ (3:)) entry_typeCall (wpAny_check_type_call_sub hC (Yg (hrest:=hrest) F T hC hn hi hfI hfc λh' e hm=>?_));exact hq h' e hm
end
section
variable{prog:Program}{w:World}{A:Around}{E:PQ}{s:Shared}{env:Env}
variable{nm q:Str}{C N:Addr}{bs bm bmB:List Value}{hdct:Bool}{sn:List Str}{sub:List Value}{ab:Bool}{col:Option Bool}{dd:Option Addr}{k0 k1 k2 k3 k5:Option Value}{newId:String}
def qcK{M:Model}{x:Str}{np cpos pos:Pos}{args:List Expr}{Q:Flow->Shared->Prop}(hbase:bm.contains (.type "BaseException")=true)(hh:A.handled=none)
  (h:wpAny M A (eval (.Call (.Name x np) args [] cpos) env) (λv s₁=>∃e v0 od sl,v=.ref e/\s₁.heap.get? C=some (excClassObj nm q C N bs bm hdct sn sub ab col dd k0 k1 k2 k3 k5 newId)/\
   s₁.heap.get? e=some ⟨.ref C,od,.fields #[v0,.none,.none,.none,.bool false,.none],sl⟩/\E (.ref e) s₁) E s) :
  wpAny M A (exec (.Raise (some (.Call (.Name x np) args [] cpos)) none pos) env) Q E s:=by
 rw[arm_exec_Raise];have hcB:(Value.ref C::bm).contains (.type "BaseException")=true:=by rw[List.contains_cons,hbase,Bool.or_true]
 simp![evalOpt,Option.map];refine wpAny_bind (wpAny_standAt ?_);unfold raiseStmt;refine wpAny_bind (wpAny_bind (wpAny_mono h (λv s₁ h₁=>wpAny_bind (wpAny_standAt (wpAny_pure ?_))) λ_ _ x=>x));let(e,v0,od,sl,rfl,hC,he,hE):=h₁;let(hp,g,d,tk,os):=s₁
 repeat (first|with_reducible refine wpAny_loadPart_at he ?_|with_reducible refine wpAny_loadPart_at hC ?_|(with_reducible refine wpAny_isSubtype_exc hC ?_;rw[hcB])|wp_step)
 exact wpAny_raiseNew_none hh hE
end
abbrev bV:List Value:=[.type "ValueError",.type "Exception",.type "BaseException",.type "object"]
def qhe(x C:Addr)(od:Option Addr):HO:=.ext λh=>∃v0,h.get? x=some ⟨.ref C,od,.fields #[v0,.none,.none,.none,.bool false,.none],#[]⟩
def xD(a:Addr)(fs:List (Str×V)):HO:=.ext λh=>∃mA,h.Ns1 a mA/\(∀f,qaN (fs.lookup f) (mA f))/\PySem.Within mA (fs.map (·.1))
def qiB{P:Program}{w:World}{H:Hp}{h:Heap}{x C:Addr}{od:Option Addr}{v0:Value}(e:h.get? x=some ⟨.ref C,od,.fields #[v0,.none,.none,.none,.bool false,.none],#[]⟩):qO P w H h x (qhe x C od):=
 ⟨⟨v0,e⟩,⟨_,e⟩,λh1 h2 ⟨v,z⟩ k=>{v,k _ z}⟩
def qk1:V->Prop
 |.int n=>n.natAbs.log2 < 1920
 |.non=>True
 |_=>False
def rem(H:Hp)(x:Addr):Hp:=λb=>if b=x then none else H b
def qbF{H:Hp}{x:Addr}:rem H x x=none:=by unfold rem;rw[if_pos rfl]
def qbG{H:Hp}{x b:Addr}(h:b≠x):rem H x b=H b:=by unfold rem;rw[if_neg h]
section
variable{X:Cx}{pins:PP}{Z:St}{H:Hp}{s:Shared}{x C:Addr}{od oT:Option Addr}
def Inv.trk{φ:Heap->Prop}(I:Inv X pins Z H s)(new:qO X.prog X.w (upd H x (.ext φ)) s.heap x (.ext φ))(dat:∃oe vs,s.heap.get? x=some oe/\oe.data=.fields vs)(hx:H x=none)(x0:X.s₀.heap.get? x=none)(pin:∀p∈X.pn++pins,p.1≠x):Inv X pins Z (upd H x (.ext φ)) s:=by
 let(oe,vs,ho,hd):=dat
 have nn:∀{b:Addr},b≠x->upd H x (.ext φ) b=H b:=λh=>qe h;have ntr:∀{b:Addr} {u:HO},H b=some u->b≠x:=λ{b u} e z=>by rw[z,hx]at e;cases e
 refine{I.ok,I.os,I.bare,{I.base.keep,I.base.slot,λb o e n hx=>?_,I.base.there,λb xs e=>?_,λb o u e=>?_,λb ps e=>?_},I.loc,I.cell,?_,λy c e=>?_,λp hp=>?_,λa o e=>?_,I.len}
 ·rw[nn (λz=>by rw[z,x0]at e;cases e)];exact I.base.free b o e n hx
 ·have:=I.base.tups b xs e
  rw[nn (ntr this)];exact this
 ·have:=I.base.frzs b o u e
  rw[nn (ntr this)];exact this
 ·let(more,this):=I.base.tbls b ps e;rw[nn (ntr this)];exact⟨more,this⟩
 ·have:X.env.locals≠x:=λz=>by
   let(m,(o,es,ep,e1,e2,_),_):=I.loc;rw[z,ho]at e1;cases e1;rw[hd]at e2;cases e2
  rw[nn this];exact I.free
 ·have:c≠x:=λz=>by
   let(v,o,e1,e2):=I.cell y c e;rw[z,ho]at e1;cases e1;rw[hd]at e2;cases e2
  rw[nn this];exact I.freeC y c e
 ·let(e,n,r):=I.pin p hp;refine{e,?_,r};rw[nn (pin p hp)];exact n
 ·by_cases hb:a=x
  ·subst hb;rw[qg]at e;cases e;exact new
  ·rw[nn hb]at e;exact(I.hok a o e).stay (λ_ _ _ q=>q) (λb q=>by rw[nn (ntr q)];exact q) (λb xs q=>by rw[nn (ntr q)];exact q)
def Inv.untrk{φ:Heap->Prop}(I:Inv X pins Z H s)(h:H x=some (.ext φ)):Inv X pins Z (rem H x) s:=by
 have nn:∀{b:Addr} {u:HO},H b=some u->(∀ψ,u≠.ext ψ)->rem H x b=some u:=λ{b u} e n=>by rw[qbG (λz=>by rw[z,h]at e;exact n φ (Option.some.inj e).symm)];exact e
 have no:∀{b:Addr},H b=none->rem H x b=none:=λ{b} e=>by
  unfold rem
  by_cases hb:b=x
  ·rw[if_pos hb]
  ·rw[if_neg hb];exact e
 refine{I.ok,I.os,I.bare,{I.base.keep,I.base.slot,λb o e n hx=>no (I.base.free b o e n hx),I.base.there,λb xs e=>nn (I.base.tups b xs e) (λ_ z=>by cases z),λb o u e=>nn (I.base.frzs b o u e) (λ_ z=>by cases z),λb ps e=>?_},I.loc,I.cell,no I.free,λy c e=>no (I.freeC y c e),λp hp=>?_,λa o e=>?_,I.len}
 ·let(more,this):=I.base.tbls b ps e;exact{more,nn this (λ_ z=>by cases z)}
 ·let(e,n,r):=I.pin p hp;exact{e,no n,r}
 ·have ha:a≠x:=λz=>by rw[z,qbF]at e;cases e
  rw[qbG ha]at e;exact(I.hok a o e).stay (λ_ _ _ q=>q) (λb q=>nn q (λ_ z=>by cases z)) (λb xs q=>nn q (λ_ z=>by cases z))
def J2(X:Cx)(E:XK):Prop:=∀(pins:PP) (Z:St) (H:Hp) (s:Shared) (x C:Addr) (od:Option Addr),Inv X pins Z H s->Mine X pins H x none->Fly s.heap x C od none->E (.ref C) od H->X.xe (.ref x) s
end
section
variable{P:Program}{w:World}{K:Frag}{mg:PR}{base:Heap}{N:List Str}{qual:Str}{scope:Scope}{f:Addr}{cd:Value}{A:Around}{outer:List Env}{s:Shared}{H:Hp}{E:XK}
def qd4:J2 (qbw (CX1 P w) P w K mg base N qual scope f cd A outer s H E) E:=λpins Z H1 s1 x C od I M fl q=>qbB I ⟨rfl,rfl⟩ rfl M fl q
end
section
variable{X:Cx}{E:XK}
def qfX(hex:X.ex=[])(h:J2 X E):qdU X E:=λpins Z H s I h' x C vs m q=>by
 have no:∀b:Addr,b∉X.ex:=λb z=>by rw[hex]at z;cases z
 refine h pins Z H _ x C none (I.kept (t':=s.toks) m.keeps) ⟨I.newH m.new,I.new0 (no x) m.new,(λT z=>by cases z),λp hp=>{λz=>?_,by simp}⟩ (qfQ m) q;let(e,_):=I.pin p hp;rw[z,m.new]at e;cases e
def qk2(K:Frag)(f:Addr):Bool:=match K.lookup f with
 |some ⟨.type n,_,_,_⟩=>n == "function"
 |_=>false
structure XcC(K:Frag)(C fI:Addr):Prop where
 ok:qd3 K C fI bV "ValueError.__new__" = true
 fn:qk2 K fI=true
 kp:keepIn K (.ref C)=true
def qiC(C:Addr)(sp:Sp)(E:XK)(t:TA):TS:=λ_ Z H=>t Z H λvs H1=>vs.length<=sizeLine/\∀x,H1 x=none->sp (.ref x::vs) (upd H1 x (qhe x C none)) (λv H2=>v=.non/\∃od,H2 x=some (qhe x C od)/\E (.ref C) od (rem H2 x)) E0
theorem qd5{k:Nat}{n:Str}{C fI:Addr}{fd:FuncData}{ps:List Str}{sp:Sp}{e0:Expr}{es:List Expr}{t:TA}{np cpos pos:Pos}(hex:X.ex=[])(hx:J2 X E)(hc:X.calm=true)(hg:Gl X n)(hm:X.mg n=some (.ref C))(c:XcC X.K C fI)
  (F:FnOk X.prog X.w X.K X.mg X.base CX0 k fI fd ps sp) (hr:Room (k+1) X.A) (hb:qX X.K fd ps []) (ha:PA X (e0::es) t)
  (he:starEach (e0::es) X.env=(false,eval e0 X.env)::starEach es X.env) (hpl:(backTo cpos (starEach es X.env)).any (·.1)=false) (hdb:(n == ("__debug__" : Str))=false) :
  PS X (.Raise (some (.Call (.Name n np) (e0::es) [] cpos)) none pos) (qiC C sp E t):=by
 intro pins s Z H D I h;let(bm,N,nm,qn,bs,hd,sn,sub,ab,col,dd,k0,k1,k2,k3,k5,mN,hC,hN,hi,T):=qfW I.mod.kin c.ok;have FB:=PySem.F.excBase_ValueError
 let(oI,hoI,hcI):∃oI,X.K.lookup fI=some oI/\oI.cls=.type "function":=by
  have:=c.fn
  unfold qk2 at this
  split at this
  ·rename_i q;exact{_,q,by rw[beq_iff_eq.mp this]}
  ·cases this
 have no:∀b:Addr,b∉X.ex:=λb z=>by rw[hex]at z;cases z
 refine qcK (C:=C) (nm:=nm) (q:=qn) (N:=N) (bs:=bs) (bm:=bm) (hdct:=hd) (sn:=sn) (sub:=sub) (ab:=ab) (col:=col) (dd:=dd) (k0:=k0) (k1:=k1) (k2:=k2) (k3:=k3) (k5:=k5) (newId:="ValueError.__new__") (T.hasType FB.hasBase) (I.ok.hd hc) ?_;refine wpAny_Call_Name_kw (zZ I hg hm ?_ hdb);refine PySem.W.callWith_K (h₀:=X.base) I.ok.mod.kin c.kp (thn (ha cpos pins s Z H _ I h) λus s1 z=>?_) he hpl;let(vs,H1,I1,r,hl,q):=z;refine{I1.kIn,?_};let(hh,g,d,tk,os):=s1;refine qcJ FB (T.keeps I1.bk) (I1.bk _ _ hC) (hN.keeps I1.bk) hi (I1.bk _ _ (I.mod.kin _ _ hoI)) hcI (λh' e m=>?_) (by rw[List.nil_append,<-r.length];exact hl);have Ik:=I1.kept (t':=tk) m.keeps;have hn1:=I1.newH m.new;have h0:=I1.new0 (no e) m.new
 have hpin:∀p∈X.pn++pins,p.1≠e:=λp hp z=>by let(e',_):=I1.pin p hp;rw[z,m.new]at e';cases e'
 let(t',ht,_):=m.there;have I2:Inv X pins Z (upd H1 e (qhe e C none)) _:=Ik.trk (x:=e) (qiB ht) ⟨_,_,ht,rfl⟩ hn1 h0 hpin;have hq:=q e hn1;have r2:qB (V.ref e::vs) (Value.ref e::us):=.cons rfl r
 have hln:(Value.ref e::us++[]).length=ps.length:=by
  have:=r2.length
  rw[F.len _ _ _ _ hq]at this;rw[List.append_nil];exact this.symm
 have hbn:=hb ⟨h',g,d,tk,os⟩ (Value.ref e::us) I2.kIn hln;rw[List.append_nil]at hbn;refine wpAny_call (codeAny_mono (F.run _ X.stack _ _ ⟨Value.ref e::us,[]⟩ (Value.ref e::us) _ _ E0 (hr.make C us []) (I2.env0.make C us []) hbn r2 hq) λres s' hq'=>?_)
 cases res with
 |error e=>exact False.elim hq'
 |ok fl=>
  cases fl with
  |ret u=>let(v,H',I3,rv,ev,od,hxe,q3):=I2.after hq';subst ev;let((v0,ho),_):=I3.hok e _ hxe;refine{rv,e,v0,od,#[],rfl,I3.bk _ _ hC,ho,hx pins Z (rem H' e) s' e C od (I3.untrk hxe) {qbF,h0,(λT z=>by cases z),λp hp=>{hpin p hp,by simp}} {_,_,ho,rfl,rfl,rfl,rfl} q3}
  |next=>exact False.elim hq'
  |brk=>exact False.elim hq'
  |cont=>exact False.elim hq'
end
section
variable{prog:Program}{w:World}{A:Around}{E:PQ}{s:Shared}{K:Frag}{x C:Addr}{ox:Obj}
def qiD{name:Str}{v:Value}{expr:Bool}{od:Option Obj}{Q:PQ}(Y:K.In s.heap)(I:W.InstAt s.heap x ox C od)(hC:ExcIs K C)(hf:findObj K C od name=some (.value v))(hh:handedIn v=true)
  (h:Q v { s with toks:=s.toks+1 }):wpAny (model prog w) A (getAttr (.ref x) name expr) Q E s:=by
 let(hp,g,d,t,os):=s;have L0:=I.type (M:=model prog w);have L1:=looks_findIn (M:=model prog w) Y hC.ga;have L2:=looks_findIn (M:=model prog w) Y hC.gh;have L3:=looks_find (M:=model prog w) Y I hf;have L4:=looks_mroIn (M:=model prog w) Y hC.base;have hbind:∀self,bindSpecial (.builtin "BaseException.__getattribute__") self=pure (.builtin "BaseException.__getattribute__",[self]):=λself=>by rfl
 unfold getAttr getAttrBy;refine wpAny_bind (wpAny_mkText (wpAny_holding (wpAny_bind (L0.at (wpAny_bind (L1.at ?_))))));show wpAny _ _ (getAttrByItsOwn _ _ _ _ _ _) _ _ _;unfold getAttrByItsOwn;refine wpAny_bind ?_;show wpAny _ _ (typeLookup (.ref C) "__getattr__") _ _ _;refine L2.at (wpAny_bind (wpAny_attempt (wpAny_holding ?_)));unfold callGetattribute;rw[if_neg (by cases expr<;>decide)];show wpAny _ _ (boundAndCalled _ _ _) _ _ _;unfold boundAndCalled;refine wpAny_bind ?_;rw[hbind];refine wpAny_pure ?_;refine wpAny_call (codeAny_call_builtin (3:) F.entry_bexc_ga ?_);have hk:builtinKind "BaseException.__getattribute__" = some .slot:=(3:)
 have hsp:splitId "BaseException.__getattribute__" = some ("BaseException","__getattribute__"):=(3:)
 have LI:Looks (model prog w) hp (isInstance (.ref x) (.type "BaseException")) true:=L0.andThen L4;have hargs:=F.args_bexc_ga (.ref x) (.str name t);simp![checkBuiltinCall,hk,hsp];refine wpAny_bind ?_;refine LI.at ?_;rw[if_neg (2:)];refine wpAny_of_eq hargs ?_;unfold Builtin.«object.__getattribute__»;refine wpAny_bind (wpAny_pure ?_);refine wpAny_bind (wpAny_pure ?_);refine wpAny_bind (L0.at (wpAny_bind (L3.at ?_)));exact wpAny_pure (handed_on hh h)
end
structure XcG(K:Frag)(C:Addr)(name:Str):Prop where
 is_:ExcIs K C
 no:findIn K (.ref C) name=some none
 hd:hasDictIn K C=true
section
variable{X:Cx}
def tXf(K:Frag)(ta:TE)(f:Str):TE:=λZ H Q=>ta Z H λx H1=>∃a C dd fs v,x=.ref a/\H1 a=some (qft a C (some dd))/\H1 dd=some (xD dd fs)/\XcG K C f/\fs.lookup f=some v/\Q v H1
theorem qiE{e:Expr}{f:Str}{pos:Pos}{ta:TE}(he:PE X e ta)(hb:attributeBase e f X.env (eval e X.env)=eval e X.env):PE X (.Attribute e f pos) (tXf X.K ta f):=by
 intro pins s Z H Q I h;refine qdA hb (thn (he pins s Z H _ I h) λu s1 hq1=>?_);let(x,H1,I1,rx,a,C,dd,fs,v,ex,ea,ed,c,l,q):=hq1;subst ex;obtain rfl:u=Value.ref a:=rx;let(o,e1,e2,e3,e4):=(I1.hok a _ ea).1;let(mA,ns,r,_):=(I1.hok dd _ ed).1;let(oo,hoo,hlk):=Zu ns;have J:InstAt s1.heap a o C (some oo):={e1,e2,e4,by rw[e3];exact hoo};have hr:=r f;rw[l]at hr
 cases hm:mA f with
 |none=>rw[hm]at hr;exact hr.elim
 |some w=>
  rw[hm]at hr
  have hw:handedIn w=true:=by
   have hr:qH v w:=hr
   cases v<;>first|(let(t,rfl):=hr;rfl)|(cases hr;rfl)
  refine qiD I1.kIn J c.is_ (findObj_own c.hd c.no rfl (by rw[hlk,hm])) hw ⟨v,H1,I1.tok _,hr,q⟩
end
section
variable{prog:Program}{w:World}{A:Around}{E:PQ}{s:Shared}
def qfY{Q:Int->Shared->Prop}(h:Q 0xFCA86420 { s with toks:=s.toks+1 }):wpAny (model prog w) A (pyHash .none) Q E s:=by
 have hT:s.TypeIs .none "NoneType":=rfl;unfold pyHash;have hv:[Value.none].any Value.onHeap=false:=rfl;refine wpAny_bind ?_;rw[cRoomFor,if_neg (by rw[hv];exact Bool.false_ne_true)];refine wpAny_pure ?_;refine wpAny_bind (wpAny_specialOf hT PySem.F.slot_NoneType_hash.lookup ?_);rw[if_neg (3:)];refine wpAny_bind (wpAny_specialOf hT PySem.F.slot_NoneType_hash.lookup ?_);show wpAny _ _ (callSpecialIfBoundUnlessNone? .none "__hash__" _ >>= _) Q E s
 refine wpAny_bind (wpAny_callSpecialIfBoundUnlessNone?_slot hT PySem.F.slot_NoneType_hash
  (wpAny_call_entry PySem.F.slot_NoneType_hash hT PySem.F.entry_NoneType_hash
   (show wpAny _ _ (do ret (<-mkInt 0xFCA86420)) _ _ s from wpAny_ret_mkInt ?_) (PySem.F.args_NoneType_hash_1 _)))
 show wpAny _ _ (if (decide (-(2:Int) ^ 63<=0xFCA86420)&&decide ((0xFCA86420:Int) < 2 ^ 63))=true then _ else _) Q E _;rw[if_pos (3:)];exact wpAny_pure h
end
def qn0:Option Key->Value->Bool
 |none,.none=>true
 |none,_=>false
 |some k,v=>YW k v
def zE{v:Value}(h:qn0 none v=true):v=.none:=by cases v<;>first|rfl|cases h
def qbH{k:Key}:YW k .none=false:=by cases k<;>rfl
def qiF(prog:Program)(w:World):PySem.KeyKind prog w (Option Key) where
 is:=qn0
 hash:=λk=>match k with |none=>0xFCA86420 |some k=>qoS w k
 inj:=λv a b ha hb=>by
  cases a with
  |none=>
   obtain rfl:=zE ha
   cases b with
   |none=>rfl
   |some b=>exact absurd (show YW b .none=true from hb) (by rw[qbH];exact Bool.false_ne_true)
  |some a=>
   cases b with
   |none=>cases zE hb;exact absurd (show YW a .none=true from ha) (by rw[qbH];exact Bool.false_ne_true)
   |some b=>rw[(qr prog w).inj v a b ha hb]
 byValue:=λk v h=>by
  cases k with
  |none=>cases zE h;rfl
  |some k=>exact(qr prog w).byValue k v h
 pyHash:=λ{A E s k v Q} hv h=>by
  cases k with
  |none=>cases zE hv;exact qfY h
  |some k=>exact(qr prog w).pyHash hv h
 eqBool:=λ{A E s a b u v Q} hu hv h=>by
  cases a with
  |none=>
   obtain rfl:=zE hu
   cases b with
   |none=>cases zE hv;exact SeqAt.EqAt.same .none _ _ _ _ (-h:)
   |some b=>
    rcases qu hv with ⟨i,t,rfl,rfl⟩|⟨x,t,rfl,rfl⟩
    ·exact SeqAt.EqAt.none_int i t _ _ _ _ h
    ·exact SeqAt.EqAt.none_str x t _ _ _ _ h
  |some a=>
   cases b with
   |none=>
    cases zE hv;rcases qu hu with ⟨i,t,rfl,rfl⟩|⟨x,t,rfl,rfl⟩
    ·exact SeqAt.EqAt.int_none i t _ _ _ _ h
    ·exact SeqAt.EqAt.str_none x t _ _ _ _ h
   |some b=>refine(qr prog w).eqBool hu hv ?_;rw[show decide (a=b)=decide (some a=some b) from decide_eq_decide.mpr (5:)];exact h
 «strs»:=λk x t v h=>by
  cases k with
  |none=>cases h
  |some k=>exact(qr prog w).strs k x t v h
def qk3(H:Hp)(a:Addr)(y:V)(r:Option V):Prop:=qkP H a y r\/(∃kvs,H a=some (.dK kvs)/\y=.non/\r=none)
def qk4{prog:Program}{w:World}{h:Heap}{a:Addr}{vs:List (Key×Value)}(dd:h.DictOf (qr prog w) a vs):∃f,h.MapOf (qiF prog w) a f/\f none=none:=by
 let(o,es,ep,h1,h2,h3,h4,h5,h6):=dd;refine{λk=>findBy (qiF prog w).is es k,{o,es,ep,h1,h2,h3,λe he=>?_,λ_=>rfl},?_}
 ·let(k,q1,q2):=h4 e he;exact{some k,q1,q2}
 ·show findBy qn0 es none=none;unfold findBy;rw[Array.find?_eq_none.mpr λe he=>?_]
  ·rfl
  ·let(k,q1,q2):=h4 e he;rcases qu q1 with ⟨i,t,rfl,q⟩|⟨x,t,rfl,q⟩<;>rw[q]<;>exact Bool.false_ne_true
section
variable{X:Cx}{pins:PP}{Z:St}{H:Hp}{s:Shared}{A:Around}{E:PQ}{a:Addr}{y d:V}{o:Option V}{u r:Value}
def qiG{Q:PQ}(hu:A.units+1 < cLine)(I:Inv X pins Z H s)(g:qk3 H a y o)(ry:qH y u)(rd:qH d r)(h:∀w' s',Inv X pins Z H s'->qH (o.getD d) w'->Q w' s') :
  wpAny (model X.prog X.w) A (call (.builtin "dict.get") [.ref a,u,r]) Q E s:=by
 rcases g with g|⟨kvs,e,ey,l⟩
 ·exact qkS hu I g ry rd h
 ·subst ey l;obtain rfl:u=.none:=ry;let(z,hd,vs,rel,dd):=qnV I.hok e;let(f,m,hn):=qk4 dd;refine call_meetsIn PySem.F.slot_dict_get dd.typeIs PySem.F.entry_dict_get (PySem.F.args_dict_get_3 _ _ _) (meets_dict_get_default (qiF X.prog X.w) a (k:=none) rfl hd r) ⟨_,m,h _ _ (I.tok _) ?_⟩;rw[hn];exact rd
end
def qiH(td ty tx:TE):TE:=λZ H Q=>td Z H λx H1=>∃a,x=.ref a/\IsD H1 a/\ty Z H1 λy H2=>tx Z H2 λz H3=>∃o,qk3 H3 a y o/\Q (o.getD z) H3
section
variable{X:Cx}{o e f:Expr}{apos cpos:Pos}{td ty tx:TE}
def qd6(hu:X.A.units+1 < cLine)(ho:PE X o td)(he:PE X e ty)(hf:PE X f tx)(m:M2 X o "get" apos e f cpos):PE X (.Call (.Attribute o "get" apos) [e,f] [] cpos) (qiH td ty tx):=by
 intro pins s Z H Q I h;refine wpAny_Call_method m.base m.few m.line PySem.F.plainAttrs_dict PySem.F.slot_dict_get PySem.F.type_dict_get (thn (ho pins s Z H _ I h) λu s1 hq1=>?_);let(x,H1,I1,rx,a,ex,d,q1):=hq1;subst ex;obtain rfl:u=Value.ref a:=rx;let(t1,t2,_):=qkR I1 d;refine{t1,t2,?_};rw[m.trees]
 refine Calls.callWith_builtin rfl (Calls.evalArgs_plain (Calls.spliced_cons (thn (he pins s1 Z H1 _ I1 q1) λiv s2 ⟨y,H2,I2,ry,q2⟩=>Calls.spliced_cons (thn (hf pins s2 Z H2 _ I2 q2) λfv s3 ⟨z,H3,I3,rz,ov,g,q3⟩=>Calls.spliced_nil ?_))))
 exact qiG hu I3 g ry rz λw' s4 I4 rw'=>{_,H3,I4,rw',q3}
end
end L2
namespace DE
open PySem L2
inductive D where
 | non|bl (b:Bool)|int (n:Int)|str (s:Str)|lst (l:List D)|tup (l:List D)|ins (c:Str) (ns:List Str) (l:List D)|exc (C:Addr) (ns:List Str) (l:List D)|dct (ks:List Str) (l:List D)
 deriving Inhabited
abbrev KC:=Str->Option Addr
def kvX(ks:List Str)(xs:List V):List (Key×V):=(ks.zip xs).map λp=>(Sum.inr p.1,p.2)
mutual
def Rep(U:KC)(G:Hp):D->V->Prop
 |.non,v=>v=.non
 |.bl b,v=>v=.bl b
 |.int n,v=>v=.int n
 |.str s,v=>v=.str s
 |.lst ds,v=>∃a xs,v=.ref a/\G a=some (.lst xs)/\qo U G ds xs
 |.tup ds,v=>∃a xs,v=.ref a/\G a=some (.tup xs)/\qo U G ds xs
 |.ins c ns ds,v=>∃p dx C xs,U c=some C/\v=.ref p/\G p=some (.ins C dx (ns.zip xs))/\xs.length=ns.length/\qo U G ds xs
 |.exc C ns ds,v=>∃p od xs,v=.ref p/\G p=some (qft p C od)/\((od=none/\ns=[])\/∃dd,od=some dd/\G dd=some (xD dd (ns.zip xs)))/\qo U G ds xs
 |.dct ks ds,v=>∃p xs,v=.ref p/\G p=some (.dK (kvX ks xs))/\xs.length=ks.length/\qo U G ds xs
def qo(U:KC)(G:Hp):List D->List V->Prop
 |[],xs=>xs=[]
 | d::ds,xs=>∃x r,xs=x::r/\Rep U G d x/\qo U G ds r
end
mutual
theorem Rep.same{U:KC}{G G':Hp}(e:qp G G'):∀{d:D} {v:V},Rep U G d v->Rep U G' d v
 |.non,v,h=>by simp![Rep]at h ⊢;exact h
 |.bl b,v,h=>by simp![Rep]at h ⊢;exact h
 |.int i,v,h=>by simp![Rep]at h ⊢;exact h
 |.str x,v,h=>by simp![Rep]at h ⊢;exact h
 |.lst ds,v,h=>by simp![Rep]at h ⊢;let(a,xs,rfl,h1,h2):=h;exact{a,xs,rfl,e _ _ h1,qo.same e h2}
 |.tup ds,v,h=>by simp![Rep]at h ⊢;let(a,xs,rfl,h1,h2):=h;exact{a,xs,rfl,e _ _ h1,qo.same e h2}
 |.ins c ns ds,v,h=>by simp![Rep]at h ⊢;let(p,dx,C,xs,hc,rfl,h1,hl,h2):=h;exact{p,dx,C,xs,hc,rfl,e _ _ h1,hl,qo.same e h2}
 |.exc C ns ds,v,h=>by
  simp![Rep]at h ⊢;let(p,od,xs,rfl,h1,h3,h2):=h;refine{p,od,xs,rfl,e _ _ h1,?_,qo.same e h2};rcases h3 with z|⟨dd,z1,z2⟩
  ·exact .inl z
  ·exact .inr ⟨dd,z1,e _ _ z2⟩
 |.dct ks ds,v,h=>by simp![Rep]at h ⊢;let(p,xs,rfl,h1,hl,h2):=h;exact{p,xs,rfl,e _ _ h1,hl,qo.same e h2}
theorem qo.same{U:KC}{G G':Hp}(e:qp G G'):∀{ds:List D} {vs:List V},qo U G ds vs->qo U G' ds vs
 |[],vs,h=>by simp![qo]at h ⊢;exact h
 | d::ds,vs,h=>by simp![qo]at h ⊢;let(x,r,rfl,h1,h2):=h;exact{x,r,rfl,Rep.same e h1,qo.same e h2}
end
section
variable{U:KC}{G G':Hp}
def qo.nil:qo U G [] []:=by simp![qo]
def qo.cons{d:D}{ds:List D}{v:V}{vs:List V}(h:Rep U G d v)(t:qo U G ds vs):qo U G (d::ds) (v::vs):=by simp![qo];exact⟨v,vs,rfl,h,t⟩
theorem qo.len:∀{ds:List D} {vs:List V},qo U G ds vs->ds.length=vs.length
 |[],vs,h=>by simp![qo]at h;subst h;rfl
 | d::ds,vs,h=>by simp![qo]at h;let(x,r,rfl,h1,h2):=h;simp[qo.len h2]
theorem qo.app:∀{ds es:List D} {vs us:List V},qo U G ds vs->qo U G es us->qo U G (ds++es) (vs++us)
 | [],es,vs,us,h,h'=>by simp![qo]at h;subst h;exact h'
 | d::ds,es,vs,us,h,h'=>by simp![qo]at h;let(x,r,rfl,h1,h2):=h;exact qo.cons h1 (qo.app h2 h')
def qo.snoc{ds:List D}{vs:List V}{d:D}{v:V}(h:qo U G ds vs)(h':Rep U G d v):qo U G (ds++[d]) (vs++[v]):=h.app %[h'|0]
theorem qo.drop:∀(n:Nat) {ds:List D} {vs:List V},qo U G ds vs->qo U G (ds.drop n) (vs.drop n)
 |0,_,_,h=>h
 | n+1,[],vs,h=>by simp![qo]at h;subst h;exact .nil
 | n+1,d::ds,vs,h=>by simp![qo]at h;let(x,r,rfl,h1,h2):=h;exact qo.drop n h2
theorem qo.take:∀(n:Nat) {ds:List D} {vs:List V},qo U G ds vs->qo U G (ds.take n) (vs.take n)
 |0,_,_,h=>(-qo.nil:)
 | n+1,[],vs,h=>by simp![qo]at h;subst h;exact .nil
 | n+1,d::ds,vs,h=>by simp![qo]at h;let(x,r,rfl,h1,h2):=h;exact qo.cons h1 (qo.take n h2)
theorem qo.atD:∀{ds:List D} {vs:List V} {i:Nat} {d:D},qo U G ds vs->ds[i]?=some d->∃v,vs[i]?=some v/\Rep U G d v
 |[],vs,i,d,h,e=>by simp at e
 | d::ds,vs,0,d',h,e=>by simp![qo]at h;let(x,r,rfl,h1,h2):=h;simp at e;subst e;exact⟨x,rfl,h1⟩
 | d::ds,vs,i+1,d',h,e=>by simp![qo]at h;let(x,r,rfl,h1,h2):=h;let(v',e1,e2):=qo.atD (i:=i) h2 (-e:);exact{v',(-e1:),e2}
theorem qo.set:∀{ds:List D} {vs:List V} (i:Nat) {d:D} {v:V},qo U G ds vs->Rep U G d v->qo U G (ds.set i d) (vs.set i v)
 | [],vs,i,d,v,h,h'=>by simp![qo]at h;subst h;exact .nil
 | d::ds,vs,0,d',v,h,h'=>by simp![qo]at h;let(x,r,rfl,h1,h2):=h;exact qo.cons h' h2
 | d::ds,vs,i+1,d',v,h,h'=>by simp![qo]at h;let(x,r,rfl,h1,h2):=h;exact qo.cons h1 (qo.set i h2 h')
end
inductive Sl where
 | no|val (d:D)|own (l:List D)|bor (l:List D)|scr (l:List D)
abbrev Env:=List Sl
def SlR(U:KC)(K:Frag)(G H Hv:Hp):Sl->Option (Option V)->Prop
 |.no,_=>True
 |.val d,o=>∃v,o=some (some v)/\Rep U G d v
 |.own ds,o=>∃a xs,o=some (some (.ref a))/\H a=some (.lst xs)/\Hv a=none/\G a=none/\qo U G ds xs
 |.bor ds,o=>∃a xs,o=some (some (.ref a))/\Hv a=some (.lst xs)/\qo U G ds xs
 |.scr ds,o=>∃a xs,o=some (some (.ref a))/\SqL K Hv a xs/\qo U G ds xs
def qcL(N:Env)(Z:St)(a:Addr):Prop:=∃(i:Nat) (l:List D),N[i]?=some (.own l)/\Z[i]?=some (some (.ref a))
structure ER(U:KC)(K:Frag)(Gv Hv G H:Hp)(N:Env)(Z:St):Prop where
 len:N.length=Z.length
 sub:qp G H
 base:qp Hv H
 g0:qp Gv G
 fresh:∀a o,G a=some o->(∃o',Gv a=some o')\/Hv a=none
 sl:∀(i:Nat) (s:Sl),N[i]?=some s->SlR U K G H Hv s Z[i]?
 ap:∀(i j:Nat) (a:Addr) (l m:List D),N[i]?=some (.own l)->N[j]?=some (.own m)->Z[i]?=some (some (.ref a))->Z[j]?=some (some (.ref a))->i=j
structure Po(U:KC)(K:Frag)(Gv Hv:Hp)(Z:St)(G H:Hp)(N:Env)(G' H':Hp)(N':Env):Prop where
 er:ER U K Gv Hv G' H' N' Z
 hs:qp H H'
 gs:qp G G'
 new:∀a o,G' a=some o->(∃o',G a=some o')\/H a=none\/qcL N Z a
 fz:∀(i:Nat) (l:List D),N'[i]?=some (.own l)->N[i]?=some (.own l)
theorem qp.none{H H':Hp}(e:qp H H'){a:Addr}(h:H' a=none):H a=none:=by
 cases q:H a with
 |none=>rfl
 |some o=>rw[e a o q]at h;cases h
section
variable{U:KC}{K:Frag}{Gv Hv G H G' H' G'' H'':Hp}{N N' N'':Env}{Z:St}
def Po.refl(h:ER U K Gv Hv G H N Z):Po U K Gv Hv Z G H N G H N:={h,λ_ _ e=>e,λ_ _ e=>e,λ_ o e=>.inl ⟨o,e⟩,λ_ _ e=>e}
def Po.trans(a:Po U K Gv Hv Z G H N G' H' N')(b:Po U K Gv Hv Z G' H' N' G'' H'' N''):Po U K Gv Hv Z G H N G'' H'' N'':=
 ⟨b.er,λc o e=>b.hs c o (a.hs c o e),λc o e=>b.gs c o (a.gs c o e),λc o e=>by
  rcases b.new c o e with ⟨o',z⟩|z|⟨i,l,z1,z2⟩
  ·exact a.new c o' z
  ·exact .inr (.inl (qp.none a.hs z))
  ·exact .inr (.inr ⟨i,l,a.fz i l z1,z2⟩),λi l e=>a.fz i l (b.fz i l e)⟩
theorem SlR.grow(hs:qp H H')(gs:qp G G')(nw:∀a xs,H a=some (.lst xs)->Hv a=none->G a=none->G' a=none){s:Sl}{o:Option (Option V)}(h:SlR U K G H Hv s o):SlR U K G' H' Hv s o:=by
 cases s with
 |no=>trivial
 |val d=>let(v,e,r):=h;exact{v,e,r.same gs}
 |own ds=>let(a,xs,e,h1,h2,h3,h4):=h;exact{a,xs,e,hs _ _ h1,h2,nw a xs h1 h2 h3,h4.same gs}
 |bor ds=>let(a,xs,e,h1,h4):=h;exact{a,xs,e,h1,h4.same gs}
 |scr ds=>let(a,xs,e,h1,h4):=h;exact{a,xs,e,h1,h4.same gs}
def Po.more(h:ER U K Gv Hv G H N Z)(hs:qp H H')(gs:qp G G')(sub:qp G' H')(new:∀a o,G' a=some o->(∃o',G a=some o')\/H a=none):Po U K Gv Hv Z G H N G' H' N:=by
 refine{{h.len,sub,λb o e=>hs b o (h.base b o e),λb o e=>gs b o (h.g0 b o e),λa o e=>?_,λi s e=>(h.sl i s e).grow hs gs λa xs h1 h2 h3=>?_,h.ap},hs,gs,λa o e=>?_,λ_ _ e=>e}
 ·rcases new a o e with ⟨o',z⟩|z
  ·exact h.fresh a o' z
  ·exact .inr (qp.none h.base z)
 ·cases q:G' a with
  |none=>rfl
  |some o=>
   rcases new a o q with ⟨o',z⟩|z
   ·rw[h3]at z;cases z
   ·rw[h1]at z;cases z
 ·rcases new a o e with z|z
  ·exact .inl z
  ·exact .inr (.inl z)
def Po.room(h:ER U K Gv Hv G H N Z)(hs:qp H H'):Po U K Gv Hv Z G H N G H' N:=
 Po.more h hs (λ_ _ e=>e) (λb o e=>hs b o (h.sub b o e)) λ_ o e=>.inl ⟨o,e⟩
def Po.lay(h:ER U K Gv Hv G H N Z){a:Addr}{o:HO}(ha:H a=none):Po U K Gv Hv Z G H N (upd G a o) (upd H a o) N:=by
 have ga:G a=none:=qp.none h.sub ha;refine Po.more h (qp.upd ha) (qp.upd ga) (λb u e=>?_) λb u e=>?_
 ·by_cases hb:b=a
  ·subst hb;rw[qg]at e ⊢;exact e
  ·rw[qe hb]at e ⊢;exact h.sub b u e
 ·by_cases hb:b=a
  ·subst hb;exact .inr ha
  ·rw[qe hb]at e;exact .inl ⟨u,e⟩
end
inductive Rv where
 | val (d:D)|tmp (l:List D)|cell (l:List D)|scr (l:List D)
def RvR(U:KC)(K:Frag)(Hv Hb G H:Hp)(N:Env)(Z:St):Rv->V->Prop
 |.val d,v=>Rep U G d v
 |.tmp ds,v=>∃a xs,v=.ref a/\H a=some (.lst xs)/\Hb a=none/\Hv a=none/\G a=none/\¬ qcL N Z a/\qo U G ds xs
 |.cell ds,v=>∃a xs,v=.ref a/\H a=some (.lst xs)/\qo U G ds xs
 |.scr ds,v=>∃a xs,v=.ref a/\SqL K H a xs/\qo U G ds xs
section
variable{U:KC}{K:Frag}{Gv Hv Hb G H G' H':Hp}{N N':Env}{Z:St}
theorem RvR.keep{r:Rv}{v:V}(h:RvR U K Hv Hb G H N Z r v)(p:Po U K Gv Hv Z G H N G' H' N'):RvR U K Hv Hb G' H' N' Z r v:=by
 cases r with
 |val d=>exact Rep.same p.gs h
 |tmp ds=>
  let(a,xs,rfl,h1,h2,h3,h4,h5,h6):=h;refine{a,xs,rfl,p.hs _ _ h1,h2,h3,?_,λ⟨i,l,z1,z2⟩=>h5 {i,l,p.fz i l z1,z2},h6.same p.gs}
  cases q:G' a with
  |none=>rfl
  |some o=>
   rcases p.new a o q with ⟨o',z⟩|z|z
   ·rw[h4]at z;cases z
   ·rw[h1]at z;cases z
   ·exact absurd z h5
 |cell ds=>let(a,xs,rfl,h1,h6):=h;exact{a,xs,rfl,p.hs _ _ h1,h6.same p.gs}
 |scr ds=>let(a,xs,rfl,h1,h6):=h;exact{a,xs,rfl,p.hs.seq h1,h6.same p.gs}
theorem RvR.back{Hc:Hp}{r:Rv}{v:V}(h:RvR U K Hv Hc G H N Z r v)(e:qp Hb Hc):RvR U K Hv Hb G H N Z r v:=by
 cases r with
 |val d=>exact h
 |tmp ds=>let(a,xs,rfl,h1,h2,h3,h4,h5,h6):=h;exact{a,xs,rfl,h1,qp.none e h2,h3,h4,h5,h6}
 |cell ds=>exact h
 |scr ds=>exact h
def Rv.list?:Rv->Option (List D)
 |.val (.lst l)=>some l
 |.tmp l=>some l
 |.cell l=>some l
 |.scr l=>some l
 |_=>none
def Rv.plain?:Rv->Option (List D)
 |.val (.lst l)=>some l
 |.tmp l=>some l
 |.cell l=>some l
 |_=>none
theorem RvR.plain(er:ER U K Gv Hv G H N Z){r:Rv}{v:V}{l:List D}(h:RvR U K Hv Hb G H N Z r v)(e:r.plain?=some l):∃a xs,v=.ref a/\H a=some (.lst xs)/\qo U G l xs:=by
 cases r with
 |val d=>
  cases d<;>simp![Rv.plain?]at e<;>try (cases e)
  simp![RvR,Rep]at h;let(a,xs,rfl,h1,h2):=h;exact{a,xs,rfl,er.sub _ _ h1,h2}
 |tmp ds=>simp![Rv.plain?]at e;cases e;let(a,xs,rfl,h1,_,_,_,_,h6):=h;exact⟨a,xs,rfl,h1,h6⟩
 |cell ds=>simp![Rv.plain?]at e;cases e;exact h
 |scr ds=>simp![Rv.plain?]at e;cases e
theorem RvR.list(er:ER U K Gv Hv G H N Z){r:Rv}{v:V}{l:List D}(h:RvR U K Hv Hb G H N Z r v)(e:r.list?=some l):∃a xs,v=.ref a/\SqL K H a xs/\qo U G l xs:=by
 cases r with
 |scr ds=>simp![Rv.list?]at e;cases e;exact h
 |val d=>
  have e':(Rv.val d).plain?=some l:=by cases d<;>simp![Rv.list?]at e<;>first|(cases e;rfl)|cases e
  let(a,xs,h1,h2,h3):=h.plain er e';exact{a,xs,h1,SqL.of h2,h3}
 |tmp ds=>let(a,xs,h1,h2,h3):=h.plain er (l:=l) e;exact{a,xs,h1,SqL.of h2,h3}
 |cell ds=>let(a,xs,h1,h2,h3):=h.plain er (l:=l) e;exact{a,xs,h1,SqL.of h2,h3}
def Po.freeze{a:Addr}{xs:List V}{G1 H1:Hp}{N1:Env}(p:Po U K Gv Hv Z G H N G1 H1 N1)(h1:H1 a=some (.lst xs))(h2:H a=none)(h3:Hv a=none)(h4:G1 a=none)(h5:¬ qcL N1 Z a):Po U K Gv Hv Z G H N (upd G1 a (.lst xs)) H1 N1:=by
 have gs:qp G1 (upd G1 a (.lst xs)):=qp.upd h4;have er:=p.er;refine{{er.len,λb u e=>?_,er.base,λb o e=>gs b o (er.g0 b o e),λb o e=>?_,λi s e=>?_,er.ap},p.hs,λb o e=>gs b o (p.gs b o e),λb o e=>?_,p.fz}
 ·by_cases hb:b=a
  ·subst hb;rw[qg]at e;cases e;exact h1
  ·rw[qe hb]at e;exact er.sub b u e
 ·by_cases hb:b=a
  ·subst hb;exact .inr h3
  ·rw[qe hb]at e;exact er.fresh b o e
 ·have q:=er.sl i s e
  cases s with
  |no=>trivial
  |val d=>let(v,z,r):=q;exact{v,z,r.same gs}
  |own ds=>let(b,ys,z,q1,q2,q3,q4):=q;have hb:b≠a:=λw=>h5 ⟨i,ds,e,by rw[<-w];exact z⟩;exact{b,ys,z,q1,q2,by rw[qe hb];exact q3,q4.same gs}
  |bor ds=>let(b,ys,z,q1,q4):=q;exact{b,ys,z,q1,q4.same gs}
  |scr ds=>let(b,ys,z,q1,q4):=q;exact{b,ys,z,q1,q4.same gs}
 ·by_cases hb:b=a
  ·subst hb;exact .inr (.inl h2)
  ·rw[qe hb]at e;exact p.new b o e
def ER.froze{i:Nat}{l:List D}(h:ER U K Gv Hv G H N Z)(e:N[i]?=some (.own l)):∃a xs,Z[i]?=some (some (.ref a))/\Po U K Gv Hv Z G H N (upd G a (.lst xs)) H (N.set i (.val (.lst l)))/\Rep U (upd G a (.lst xs)) (.lst l) (.ref a):=by
 let(a,xs,z,h1,h2,h3,h4):=h.sl i _ e;have gs:qp G (upd G a (.lst xs)):=qp.upd h3;have hi:i < N.length:=(List.getElem?_eq_some_iff.mp e).1;have rp:Rep U (upd G a (.lst xs)) (.lst l) (.ref a):=by simp![Rep];exact{a,xs,rfl,qg,h4.same gs}
 refine{a,xs,z,{{by rw[List.length_set];exact h.len,λb u q=>?_,h.base,λb o q=>gs b o (h.g0 b o q),λb o q=>?_,λj s q=>?_,λj k b m n q1 q2=>?_},λ_ _ q=>q,gs,λb o q=>?_,λj m q=>?_},rp}
 ·by_cases hb:b=a
  ·subst hb;rw[qg]at q;cases q;exact h1
  ·rw[qe hb]at q;exact h.sub b u q
 ·by_cases hb:b=a
  ·subst hb;exact .inr h2
  ·rw[qe hb]at q;exact h.fresh b o q
 ·by_cases hj:i=j
  ·subst hj;rw[List.getElem?_set_self hi]at q;cases q;exact{_,z,rp}
  ·rw[List.getElem?_set_ne hj]at q;have w:=h.sl j s q
   cases s with
   |no=>trivial
   |val d=>let(v,z,r):=w;exact{v,z,r.same gs}
   |own ds=>let(b,ys,z',q1,q2,q3,q4):=w;have hb:b≠a:=λu=>hj (h.ap i j a l ds e q z (by rw[<-u];exact z'));exact{b,ys,z',q1,q2,by rw[qe hb];exact q3,q4.same gs}
   |bor ds=>let(b,ys,z,q1,q4):=w;exact{b,ys,z,q1,q4.same gs}
   |scr ds=>let(b,ys,z,q1,q4):=w;exact{b,ys,z,q1,q4.same gs}
 ·have f:∀{j:Nat} {m:List D},(N.set i (.val (.lst l)))[j]?=some (.own m)->N[j]?=some (.own m):=λ{j m} q=>by
   by_cases hj:i=j
   ·subst hj;rw[List.getElem?_set_self hi]at q;cases q
   ·rw[List.getElem?_set_ne hj]at q;exact q
  exact h.ap j k b m n (f q1) (f q2)
 ·by_cases hb:b=a
  ·subst hb;exact .inr (.inr ⟨i,l,e,z⟩)
  ·rw[qe hb]at q;exact .inl ⟨o,q⟩
 ·by_cases hj:i=j
  ·subst hj;rw[List.getElem?_set_self hi]at q;cases q
  ·rw[List.getElem?_set_ne hj]at q;exact q
def ER.setVal{i:Nat}{d:D}{v:V}(h:ER U K Gv Hv G H N Z)(r:Rep U G d v):ER U K Gv Hv G H (N.set i (.val d)) (Z.set i (some v)):=by
 refine{by rw[List.length_set,List.length_set];exact h.len,h.sub,h.base,h.g0,h.fresh,λj s q=>?_,λj k b m n q1 q2 q3 q4=>?_}
 ·by_cases hj:i=j
  ·subst hj;have hi:i < N.length:=by simpa using (List.getElem?_eq_some_iff.mp q).1
   rw[List.getElem?_set_self hi]at q;cases q;exact{v,by rw[List.getElem?_set_self (by rw[<-h.len];exact hi)],r}
  ·rw[List.getElem?_set_ne hj]at q ⊢;exact h.sl j s q
 ·have f:∀{j:Nat} {m:List D},(N.set i (.val d))[j]?=some (.own m)->i≠j/\N[j]?=some (.own m):=λ{j m} q=>by
   by_cases hj:i=j
   ·subst hj;have hi:i < N.length:=by simpa using (List.getElem?_eq_some_iff.mp q).1
    rw[List.getElem?_set_self hi]at q;cases q
   ·rw[List.getElem?_set_ne hj]at q;exact⟨hj,q⟩
  let(n1,e1):=f q1;let(n2,e2):=f q2;rw[List.getElem?_set_ne n1]at q3;rw[List.getElem?_set_ne n2]at q4;exact h.ap j k b m n e1 e2 q3 q4
def ER.setOwn{i:Nat}{l:List D}{a:Addr}{xs:List V}(h:ER U K Gv Hv G H N Z)(h1:H a=some (.lst xs))(h2:Hv a=none)(h3:G a=none)(h4:¬ qcL N Z a)(r:qo U G l xs):ER U K Gv Hv G H (N.set i (.own l)) (Z.set i (some (.ref a))):=by
 have f:∀{j:Nat} {m:List D},(N.set i (.own l))[j]?=some (.own m)->i≠j->N[j]?=some (.own m):=λ{j m} q hj=>by rw[List.getElem?_set_ne hj]at q;exact q
 refine{by rw[List.length_set,List.length_set];exact h.len,h.sub,h.base,h.g0,h.fresh,λj s q=>?_,λj k b m n q1 q2 q3 q4=>?_}
 ·by_cases hj:i=j
  ·subst hj;have hi:i < N.length:=by simpa using (List.getElem?_eq_some_iff.mp q).1
   rw[List.getElem?_set_self hi]at q;cases q;exact{a,xs,by rw[List.getElem?_set_self (by rw[<-h.len];exact hi)],h1,h2,h3,r}
  ·rw[List.getElem?_set_ne hj]at q ⊢;exact h.sl j s q
 ·by_cases hj:i=j
  ·by_cases hk:i=k
   ·lia
   ·subst hj;have hi:i < Z.length:=by simpa using (List.getElem?_eq_some_iff.mp q3).1
    rw[List.getElem?_set_self hi]at q3;rw[List.getElem?_set_ne hk]at q4;cases q3;exact absurd ⟨k,n,f q2 hk,q4⟩ h4
  ·by_cases hk:i=k
   ·subst hk;have hi:i < Z.length:=by simpa using (List.getElem?_eq_some_iff.mp q4).1
    rw[List.getElem?_set_self hi]at q4;rw[List.getElem?_set_ne hj]at q3;cases q4;exact absurd ⟨j,m,f q1 hj,q3⟩ h4
   ·rw[List.getElem?_set_ne hj]at q3;rw[List.getElem?_set_ne hk]at q4;exact h.ap j k b m n (f q1 hj) (f q2 hk) q3 q4
def ER.write{i:Nat}{l m:List D}{a:Addr}{ys:List V}(h:ER U K Gv Hv G H N Z)(e:N[i]?=some (.own l))(z:Z[i]?=some (some (.ref a)))(r:qo U G m ys):ER U K Gv Hv G (upd H a (.lst ys)) (N.set i (.own m)) Z:=by
 let(a',xs,z',h1,h2,h3,h4):=h.sl i _ e;have ea:a'=a:=by rw[z']at z;injection z with z;injection z with z;injection z
 subst ea;have hi:i < N.length:=(List.getElem?_eq_some_iff.mp e).1;refine{by rw[List.length_set];exact h.len,λb u q=>?_,λb u q=>?_,h.g0,h.fresh,λj s q=>?_,λj k b m' n q1 q2=>?_}
 ·have hb:b≠a':=λw=>by rw[w,h3]at q;cases q
  rw[qe hb];exact h.sub b u q
 ·have hb:b≠a':=λw=>by rw[w,h2]at q;cases q
  rw[qe hb];exact h.base b u q
 ·by_cases hj:i=j
  ·subst hj;rw[List.getElem?_set_self hi]at q;cases q;exact⟨a',ys,z',qg,h2,h3,r⟩
  ·rw[List.getElem?_set_ne hj]at q;have w:=h.sl j s q
   cases s with
   |no=>trivial
   |val d=>exact w
   |own ds=>let(b,zs,z2,q1,q2,q3,q4):=w;have hb:b≠a':=λu=>hj (h.ap i j a' l ds e q z' (by rw[<-u];exact z2));exact{b,zs,z2,by rw[qe hb];exact q1,q2,q3,q4}
   |bor ds=>exact w
   |scr ds=>exact w
 ·have f:∀{j:Nat} {n:List D},(N.set i (.own m))[j]?=some (.own n)->∃n',N[j]?=some (.own n'):=λ{j n} q=>by
   by_cases hj:i=j
   ·subst hj;exact⟨l,e⟩
   ·rw[List.getElem?_set_ne hj]at q;exact⟨n,q⟩
  let(_,e1):=f q1;let(_,e2):=f q2;exact h.ap j k b _ _ e1 e2
end
inductive Sk where
 | lst|tup|str
def qdd(s:Str):List D:=s.cps.toList.map λc=>D.str ⟨#[c]⟩
inductive R(α:Type) where
 | ok (a:α)|exc (c:Addr) (l:List (Str×D))|no
def R.th{α M:Type}:R α->(α->R M)->R M
 |.ok a,f=>f a
 |.exc c l,_=>.exc c l
 |.no,_=>.no
def R.of{α:Type}:Option α->R α
 |some a=>.ok a
 |none=>.no
mutual
def toP:D->Option PyData
 |.non=>some .none
 |.bl b=>some (.bool b)
 |.int n=>some (.int n)
 |.str s=>some (.str s)
 |.lst l=>(qde l).map .list
 |.tup l=>(qde l).map .tuple
 |.ins ..=>none
 |.exc ..=>none
 |.dct ..=>none
def qde:List D->Option (List PyData)
 |[]=>some []
 | d::l=>(toP d).bind λp=>(qde l).map (p :: ·)
end
def Rv.data:Rv->D
 |.val d=>d
 |.tmp l=>.lst l
 |.cell l=>.lst l
 |.scr l=>.lst l
inductive Ar where
 | val (d:D)|bor (l:List D)|scr (l:List D)
structure Xs where
 xa:Str->Addr:=λ_=>0
 xn:Str->Option (List Str):=λ_=>none
 xs:Addr->Str->Option Bool:=λ_ _=>none
 xg:Addr->Str->Bool:=λ_ _=>false
 xt:List Str:=[]
structure Cs extends Xs where
 tab:List Str
 fld:Str->Str->Bool
 mt:Str->Str->Option Str
 sub:Str->Str->Option Bool
def Cs.non:Cs:={ tab:=[],fld:=λ_ _=>false,mt:=λ_ _=>none,sub:=λ_ _=>none }
structure Ct where
 N:List Str
 sc:Scope
 tab:List Str
 gl:Str->Option D
 cl:Str->List Ar->R Rv
 cs:Cs
 nw:Str->List Ar->R Rv
def qdf:List Str->Str->Option Nat
 |[],_=>none
 | y::r,x=>if y=x then some 0 else (qdf r x).map (· + 1)
def qk5(sc:Scope)(x:Str):Bool:=match sc.names.lookup x with
 |some .local=>true
 |some .cell=>true
 |some .free=>true
 |_=>false
def qk6(sc:Scope)(x:Str):Bool:=match sc.names.lookup x with
 |some .local=>true
 |some .cell=>true
 |_=>false
def glB(sc:Scope)(x:Str):Bool:=sc.names.lookup x == some .globalImplicit
def zg(x:Str):Bool:=!(x == ("__debug__" : Str))&&!(x == ("__classdict__" : Str))&&!(x == ("__name__" : Str))
def oif{α:Type}(c:Bool)(a:Option α):Option α:=match c with
 |true=>a
 |false=>none
def qfu(L:Ct)(x:Str):Option Nat:=oif (zg x&&qk5 L.sc x) (qdf L.N x)
def isF(L:Ct)(it:Expr):Option Nat:=none
def slC(N:Env)(i:Nat):R (List D):=match N[i]? with
 |some (.own l)=>.ok l
 |some (.val (.lst l))=>.ok l
 |some (.val (.tup l))=>.ok l
 |_=>.no
def Rv.int?:Rv->Option Int
 |.val (.int i)=>some i
 |_=>none
def Rv.str?:Rv->Option Str
 |.val (.str i)=>some i
 |_=>none
def Rv.bl?:Rv->Option Bool
 |.val (.bl i)=>some i
 |_=>none
def Rv.tup?:Rv->Option (List D)
 |.val (.tup i)=>some i
 |_=>none
def qd7(i j:Int):Bool:=(decide (-(2 ^ 64) < i)&&decide (i < 2 ^ 64))||(decide (-(2 ^ 64) < j)&&decide (j < 2 ^ 64))
def int2(x y:Rv)(f:Int->Int->R Rv):R Rv:=match x.int?,y.int? with
 |some i,some j=>f i j
 |_,_=>.no
def qn1(x y:Rv):R Rv:=match x.int?,y.int? with
 |some i,some j=>.ok (.val (.int (i+j)))
 |_,_=>match x.str?,y.str? with
  |some a,some b=>if a.length+b.length<=sizeLine then .ok (.val (.str (a++b))) else .no
  |_,_=>match x.plain?,y.plain? with
   |some l,some m=>if l.length+m.length<=sizeLine then .ok (.tmp (l++m)) else .no
   |_,_=>.no
def qn2(x y:Rv):R Rv:=match x.int?,y.int? with
 |some i,some j=>if qd7 i j=true then .ok (.val (.int (i * j))) else .no
 |_,_=>.no
def qaV(op:Operator)(x y:Rv):R Rv:=match op with
 |.Add=>qn1 x y
 |.Sub=>int2 x y λi j=>.ok (.val (.int (i - j)))
 |.Mult=>qn2 x y
 |.FloorDiv=>int2 x y λi j=>if 0 < j/\j < 1073741824 then .ok (.val (.int (i / j))) else .no
 |.Mod=>int2 x y λi j=>if 0 < j then .ok (.val (.int (i % j))) else .no
 |.Pow=>int2 x y λi j=>if 0<=j/\j<=1000000/\i.natAbs < 2 ^ 64 then .ok (.val (.int (i ^ j.toNat))) else .no
 |_=>.no
def eqD(x y:D):Option Bool:=match toP x,toP y with
 |some p,some q=>if SeqAt.shaped p&&SeqAt.shaped q then some (PyData.eqv p q) else none
 |_,_=>none
def jy:D->Bool
 |.non=>true
 |.bl _=>true
 |.int _=>true
 |.str _=>true
 |_=>false
def seqD(r:Rv):Option (List D):=match r.tup? with
 |some l=>some l
 |none=>r.list?
def flV:D->V
 |.bl b=>.bl b
 |.int n=>.int n
 |.str s=>.str s
 |_=>.non
def inD(x:D)(l:List D):Option Bool:=if (jy x&&l.all jy)=true then some (inV (flV x) (l.map flV)) else none
def qj5(x y:Rv)(f:Int->Int->Bool):Option Bool:=match x.int?,y.int? with
 |some i,some j=>some (f i j)
 |_,_=>none
def Rv.non?:Rv->Bool
 |.val .non=>true
 |_=>false
def qj6(a b:Str):Bool:=!(Builtin.Str.occurrences b a 0 b.length 1).isEmpty
def qfv(x y:Rv):Option Bool:=match x.str?,y.str? with
 |some a,some b=>some (qj6 a b)
 |_,_=>(seqD y).bind (inD x.data)
def qaW:List D->Option (List Int)
 |[]=>some []
 | .int i::l=>(qaW l).map (i :: ·)
 |_=>none
def ltD(x y:Rv):Option Bool:=qj5 x y λi j=>decide (i < j)
def Yh(op:CmpOp)(x y:Rv):Option Bool:=match op with
 |.Eq=>eqD x.data y.data
 |.NotEq=>(eqD x.data y.data).map (!·)
 |.Lt=>ltD x y
 |.LtE=>qj5 x y λi j=>decide (i<=j)
 |.Gt=>qj5 x y λi j=>decide (j < i)
 |.GtE=>qj5 x y λi j=>decide (j<=i)
 |.Is=>if y.non? then some x.non? else none
 |.IsNot=>if y.non? then some (!x.non?) else none
 |.In=>qfv x y
 |.NotIn=>(qfv x y).map (!·)
def qpU(x y:Rv):R Rv:=.no
def idxD(x y:Rv):R Rv:=match y.int? with
 |some i=>(match x.str? with
  |some z=>if z.length<=sizeLine then (match atI z.cps.toList i with |some c=>.ok (.val (.str ⟨#[c]⟩)) |none=>.no) else .no
  |none=>match seqD x with
   |some l=>(match atI l i with |some d=>.ok (.val d) |none=>.no)
   |none=>.no)
 |none=>qpU x y
def qdg(l:List D)(lo hi:Option Int):List D:=(l.drop (HT.sIx l.length 0 lo)).take (HT.sIx l.length l.length hi - HT.sIx l.length 0 lo)
def sliceD(r:Rv)(lo hi:Option Int):R Rv:=match r.str? with
 |some z=>if z.length<=sizeLine then .ok (.val (.str (Txt.slice z lo hi))) else .no
 |none=>(R.of r.list?).th λl=>.ok (.tmp (qdg l lo hi))
def truthD(r:Rv):Option Bool:=match r with
 |.val .non=>some false
 |.val (.bl b)=>some b
 |.val (.int i)=>some (i != 0)
 |.val (.str s)=>if s.length<=sizeLine then some ((s.length:Int) != 0) else none
 |r=>(seqD r).map λl=>!l.isEmpty
def qhf(cs:Cs)(r:Rv)(t:Str):Option Bool:=match r with
 |.val (.ins c _ _)=>cs.sub c t
 |.val (.exc C _ _)=>cs.xs C t
 |_=>none
def qoV(cs:Cs)(C:Addr):List Str->Option Bool
 |[]=>some false
 | t::l=>(cs.xs C t).bind λb=>(qoV cs C l).map (b || ·)
def qpV(cs:Cs)(r:Rv)(ts:List Str):Option Bool:=match r with
 |.val (.exc C _ _)=>qoV cs C ts
 |_=>none
def qdh(cs:Cs)(r:Rv)(x:Str):Option D:=match r with
 |.val (.ins c ns ds)=>if cs.fld c x then (ns.zip ds).lookup x else none
 |.val (.exc C ns ds)=>if cs.xg C x then (ns.zip ds).lookup x else none
 |_=>none
def mtD(cs:Cs)(r:Rv)(x:Str):Option Str:=match r with
 |.val (.ins c ns _)=>if ns.contains x then none else cs.mt c x
 |_=>none
def qfZ:List D->Option (List Bool)
 |[]=>some []
 | .bl i::l=>(qfZ l).map (i :: ·)
 |_=>none
def ixM(r:Rv)(as:List Ar):R Rv:=.no
def qpW(x a:Str)(as:List Ar):R Rv:=.no
def bmD(x:Str)(r:Rv)(as:List Ar):R Rv:=match r with
 |.val (.str a)=>qpW x a as
 |r=>if x = "index" then ixM r as else .no
def qpX:D->Option Str
 |.int n=>if n.natAbs.log2 < 1920 then some (Str.ofString (toString n)) else none
 |.str z=>if z.length<=3000 then some z else none
 |_=>none
def qoW(acc:Str):List D->Option Str
 |[]=>some acc
 | d::l=>(qpX d).bind λy=>if (acc++y).length<=sizeLine then qoW (acc++y) l else none
def y0:Expr->Bool
 |.Constant (.str _) _ _=>true
 |.Name ..=>true
 |.Subscript ..=>true
 |_=>false
def lenD(r:Rv):R Rv:=match r.str? with
 |some s=>if s.length<=sizeLine then .ok (.val (.int s.length)) else .no
 |none=>match seqD r with
  |some l=>.ok (.val (.int l.length))
  |none=>.no
def listD(r:Rv):R Rv:=match seqD r with
 |some l=>.ok (.tmp l)
 |none=>.no
def qpY(r:Rv):R Rv:=.no
def intD(r:Rv):R Rv:=match r.int? with
 |some i=>.ok (.val (.int i))
 |none=>match r.bl? with
  |some b=>.ok (.val (.int (if b then 1 else 0)))
  |none=>qpY r
def prD:D->Option (Int×Int)
 |.tup [.int a,.int b]=>some (a,b)
 |_=>none
def qhg:List D->Option (List (Int×Int))
 |[]=>some []
 | d::l=>match prD d,qhg l with
  |some p,some ps=>some (p::ps)
  |_,_=>none
def pD(p:Int×Int):D:=.tup [.int p.1,.int p.2]
def Zm(p q:Int×Int):Bool:=decide (p.1 < q.1)||(decide (p.1=q.1)&&decide (p.2<=q.2))
def y1(ps:List (Int×Int)):List (Int×Int):=ps.mergeSort Zm
def QC(r:Rv):R Rv:=match r.list? with
 |some l=>(match qhg l with |some ps=>if ps.length < 5 then .ok (.tmp ((y1 ps).map pD)) else .no |none=>.no)
 |none=>.no
def qnp(r:Rv):R Rv:=match r.list? with
 |some l=>(match qaW l with |some ns=>.ok (.val (.int ns.sum)) |none=>.no)
 |none=>.no
def qnq:Option Expr->Option Expr->Expr->Bool
 |none,none,.UnaryOp .USub (.Constant (.int 1) _ _) _=>true
 |_,_,_=>false
def qD:Expr->Bool
 |.Starred ..=>true
 |_=>false
def strD(r:Rv):R Rv:=match r.int? with
 |some i=>if i.natAbs.log2 < 1920 then .ok (.val (.str (Str.ofString (toString i)))) else .no
 |none=>.no
def tupD(r:Rv):R Rv:=match r.list? with
 |some l=>.ok (.val (.tup l))
 |none=>.no
def qk7(r:Rv):R Rv:=match r.list? with
 |some l=>(match qfZ l with |some bs=>.ok (.val (.bl (bs.all id))) |none=>.no)
 |none=>.no
def qk8(r:Rv):R Rv:=match r.list? with
 |some l=>(match qfZ l with |some bs=>.ok (.val (.bl (bs.any id))) |none=>.no)
 |none=>.no
def kvD:D->Option (Str×Int)
 |.tup [.str s,.int n]=>some (s,n)
 |_=>none
def qdi:List D->Option (List (Str×Int))
 |[]=>some []
 | d::l=>match kvD d,qdi l with
  |some p,some ps=>some (p::ps)
  |_,_=>none
def qiI(kvs:List (Str×Int))(k:Str):Option Int:=(kvs.find? λkv=>decide (kv.1=k)).map (·.2)
def qaX(n:Int)(x y:Rv):R Rv:=match x.list?,y.str? with
 |some l,some k=>(match qdi l with |some kvs=>if (kvs.map (·.1)).Nodup then .ok (.val (.int ((qiI kvs k).getD n))) else .no |none=>.no)
 |some l,none=>(match qdi l with |some kvs=>if y.non?=true/\(kvs.map (·.1)).Nodup then .ok (.val (.int n)) else .no |none=>.no)
 |_,_=>.no
def dgE(L:Ct)(o:Expr)(x:Str)(es:List Expr)(b:Bool):Option (Expr×Expr×Int):=match o,es with
 |.Call (.Name f _) [a] [] _,[e,.Constant (.int n) _ _]=>if f = "dict"/\x = "get"/\b=true/\glB L.sc "dict" = true/\qD a=false/\qD e=false then some (a,e,n) else none
 |_,_=>none
def maxD(x y:Rv):R Rv:=int2 x y λi j=>.ok (.val (.int (if j > i then j else i)))
def minD(x y:Rv):R Rv:=int2 x y λi j=>.ok (.val (.int (if j < i then j else i)))
def ZX:Expr->Bool
 |.Set ..=>false
 |_=>true
def zF:Expr->Option (List Str)
 |.Name x _=>some [x]
 |.Tuple es _ _=>es.foldr (λe r=>match e,r with |.Name x _,some l=>some (x::l) |_,_=>none) (some [])
 |_=>none
def qf0:Expr->Bool
 |.Tuple ..=>true
 |_=>false
def qd8:Sl->Sl
 |.own l=>.bor l
 |s=>s
def Y7(N:List Str)(sc:Scope):List Nat:=(List.range N.length).filter λi=>sc.names.lookup (N.getD i "") == some .free
def Yi(l:List D):List D:=(List.range l.length).zipWith (λ(i:Nat) d=>D.tup [.int i,d]) l
def qcM(l m:List D):List D:=List.zipWith (λa b=>D.tup [a,b]) l m
def qS(lo hi:Int):List D:=(List.range (hi - lo).toNat).map λi:Nat=>D.int (lo+i)
def qiJ(lo hi c:Int):List D:=(List.range (rsz lo hi c)).map λi:Nat=>D.int (lo+i * c)
def rgB(i j c:Int):Bool:=decide (-(2 ^ 60)<=i)&&decide (i < 2 ^ 60)&&decide (-(2 ^ 60)<=j)&&decide (j < 2 ^ 60)&&decide (0 < c)&&decide (c < 2 ^ 30)
def rg3(x y z:Rv):R (List D):=match x.int?,y.int?,z.int? with
 |some i,some j,some c=>if rgB i j c=true then .ok (qiJ i j c) else .no
 |_,_,_=>.no
def qhh(i:Int):Bool:=decide (-(2 ^ 62)<=i)&&decide (i < 2 ^ 62)
def lrE(L:Ct)(f:Str)(a:Expr):Option (Expr×Expr):=none
def lrD(x y:Rv):R Rv:=match x.int?,y.int? with
 |some i,some j=>if qhh i=true/\qhh j=true/\(j - i).toNat<=10000 then .ok (.tmp (qS i j)) else .no
 |_,_=>.no
def irE(L:Ct)(op:CmpOp)(b:Expr):Option Expr:=none
def qpZ(x y:Rv):R Rv:=match x.int?,y.int? with
 |some i,some j=>.ok (.val (.bl (!decide (0<=i/\i < j))))
 |_,_=>.no
def qN(i:Int):Bool:=decide (-(2 ^ 62)<=i)&&decide (i < 2 ^ 62)
mutual
def nfD:D->Bool
 |.lst l=>(l.isEmpty||!(l.all jy))&&YY l
 |.tup l=>YY l
 |.ins _ _ l=>YY l
 |.exc _ _ l=>YY l
 |.dct _ l=>YY l
 |_=>true
def YY:List D->Bool
 |[]=>true
 | d::l=>nfD d&&YY l
end
def nfA:Ar->Bool
 |.val d=>nfD d
 |.bor l=>YY l
 |.scr l=>YY l
def qcN(as:List Ar)(r:Rv):Rv:=match r with
 |.val (.lst l)=>if as.all nfA&&!l.isEmpty&&l.all jy then .tmp l else r
 |_=>r
def qd9(asg:D->Env->R Env)(test:Env->R (Bool×Env))(elt:Env->R (D×Env)):List D->Env->List D->R (List D)
 |[],_,acc=>.ok acc
 | d::ds,N,acc=>(asg d N).th λN1=>(test N1).th λbt=>if bt.1 then (elt bt.2).th λx=>if acc.length < sizeLine then qd9 asg test elt ds x.2 (acc++[x.1]) else .no else qd9 asg test elt ds bt.2 acc
inductive Fl where
 | next (N:Env)|ret (r:Rv)
def yK:Expr->Bool
 |.ListComp ..=>false
 |.SetComp ..=>false
 |.DictComp ..=>false
 |_=>true
def qea:Expr->Bool
 |.Tuple ..=>false
 |_=>true
def QD:Expr->Bool
 |.Slice ..=>false
 |_=>true
def qk9(step:D->Env->R Fl):List D->Env->R Fl
 |[],N=>.ok (.next N)
 | d::ds,N=>(step d N).th λf=>match f with
  |.next N1=>qk9 step ds N1
  |.ret r=>.ok (.ret r)
def whL(test:Env->R (Bool×Env))(body:Env->R Fl):Nat->Env->R Fl
 |0,_=>.no
 | n+1,N=>(test N).th λb=>if b.1 then (body b.2).th λf=>(match f with
  |.next N1=>whL test body n N1
  |.ret r=>.ok (.ret r)) else .ok (.next b.2)
inductive B1 where
 | len|list|int|srt|sum|all|str|tup|any
inductive B2 where
 | max|min|get (n:Int)|rng|inr
inductive Ty where
 | int|bool|str|list|tuple
inductive Tg where
 | one (i:Nat)|many (l:List Nat)
structure Cl where
 f:Str->List Ar->R Rv
 cs:Cs
 nw:Str->List Ar->R Rv
instance:CoeFun Cl (λ_=>Str->List Ar->R Rv):=⟨Cl.f⟩
mutual
inductive E where
 | var (i:Nat)|con (d:D)|bin (op:Operator) (a b:E)|neg (a:E)|not (a:E)|one (a:E)|and (a b:E)|or (a b:E)|cmp (op:CmpOp) (a b:E)|ite (c:T) (a b:E)
 | idx (a i:E)|sli (a:E) (lo hi:O)|rvs (a:E)|lst (l:Es)|tup (l:Es)|call (f:Str) (l:Es)|calF (f:Str) (l:Es)|calN (f:Str) (l:Es)|b1 (f:B1) (a:E)|b2 (f:B2) (a b:E)|isi (t:Ty) (a:E)|isc (t:Str) (a:E)|isn (ts:List Str) (a:E)|fld (a:E) (x:Str)|met (a:E) (x:Str) (l:Es)|new (f:Str) (l:Es)|fst (l:Es)|dct (ks:List Str) (l:Es)|comp (x:E) (src:I) (tg:Tg) (c:F) (n:Nat) (fr:List Nat)
inductive Es where
 | nil|cons (a:E) (l:Es)
inductive T where
 | not (a:T)|one (a:T)|and (a b:T)|or (a b:T)|cmp (op:CmpOp) (a b:E)|chn (op op':CmpOp) (a b c:E)|val (a:E)
inductive O where
 | none|some (a:E)
inductive F where
 | yes|test (c:T)
inductive I where
 | nam (i:Nat)|seq (a:E)|rng (a:E)|rng2 (a b:E)|rng3 (a b c:E)|enum (a:E)|zip (a b:E)|rev (a:E)
end
def slR(N:Env)(i:Nat):R Rv:=match N[i]? with
 |some (.val d)=>.ok (.val d)
 |some (.own l)=>.ok (.cell l)
 |some (.bor l)=>.ok (.cell l)
 |some (.scr l)=>.ok (.scr l)
 |_=>.no
def slE(N:Env)(i:Nat):R (D×Env):=match N[i]? with
 |some (.val d)=>.ok (d,N)
 |some (.own l)=>.ok (.lst l,N.set i (.val (.lst l)))
 |_=>.no
def slL(N:Env)(i:Nat):R ((Sk×List D)×Env):=match N[i]? with
 |some (.val (.lst l))=>.ok ((.lst,l),N)
 |some (.val (.tup l))=>.ok ((.tup,l),N)
 |some (.val (.str z))=>.ok ((.str,qdd z),N)
 |some (.own l)=>.ok ((.lst,l),N.set i (.val (.lst l)))
 |some (.bor l)=>.ok ((.lst,l),N)
 |some (.scr l)=>.ok ((.lst,l),N)
 |_=>.no
def slX(N:Env)(i:Nat):R Rv:=match N[i]? with
 |some (.val d)=>.ok (.val d)
 |some (.own l)=>.ok (.tmp l)
 |_=>.no
def B1.go:B1->Rv->R Rv
 |.len=>lenD
 |.list=>listD
 |.int=>intD
 |.srt=>QC
 |.sum=>qnp
 |.all=>qk7
 |.str=>strD
 |.tup=>tupD
 |.any=>qk8
def B2.go:B2->Rv->Rv->R Rv
 |.max=>maxD
 |.min=>minD
 |.get n=>qaX n
 |.rng=>lrD
 |.inr=>qpZ
def Ty.of:Ty->D->Option Bool
 |_,.ins ..=>none
 |_,.exc ..=>none
 |_,.dct ..=>none
 |.int,.int _=>some true
 |.int,.bl _=>some true
 |.bool,.bl _=>some true
 |.str,.str _=>some true
 |.list,.lst _=>some true
 |.tuple,.tup _=>some true
 |_,_=>some false
def Ty.go(t:Ty):Rv->Option Bool
 |.scr _=>none
 |r=>t.of r.data
def QE:List Nat->List D->Env->R Env
 |[],[],N=>.ok N
 | i::l,d::ds,N=>QE l ds (N.set i (.val d))
 |_,_,_=>.no
def Tg.go:Tg->D->Env->R Env
 |.one i,d,N=>.ok (N.set i (.val d))
 |.many l,.tup ds,N=>QE l ds N
 |_,_,_=>.no
def toAr:Rv->Ar
 |.val d=>.val d
 |.tmp l=>.val (.lst l)
 |.cell l=>.bor l
 |.scr l=>.scr l
def JT(n:Nat)(fr:List Nat)(N:Env):Env:=List.replicate n Sl.no++fr.map λi=>qd8 (N.getD i .no)
def qnr(x:Rv×Env):R (D×Env):=match x.1 with
 |.val d=>.ok (d,x.2)
 |.tmp l=>.ok (.lst l,x.2)
 |_=>.no
def qns(x:Rv×Env):R ((Sk×List D)×Env):=match x.1 with
 |.val (.lst l)=>.ok ((.lst,l),x.2)
 |.val (.tup l)=>.ok ((.tup,l),x.2)
 |.val (.str z)=>.ok ((.str,qdd z),x.2)
 |.tmp l=>.ok ((.lst,l),x.2)
 |_=>.no
def jZ(e:E)(r:Env->R (Rv×Env))(N:Env):R (D×Env):=match e with
 |.var i=>slE N i
 |.con d=>.ok (d,N)
 |_=>(r N).th qnr
def y2(e:E)(r:Env->R (Rv×Env))(N:Env):R ((Sk×List D)×Env):=match e with
 |.var i=>slL N i
 |_=>(r N).th qns
mutual
def iR(cl:Cl):E->Env->R (Rv×Env)
 |.var i,N=>(slR N i).th λr=>.ok (r,N)
 |.con d,N=>.ok (.val d,N)
 |.bin op a b,N=>(iR cl a N).th λx=>(iR cl b x.2).th λy=>(qaV op x.1 y.1).th λr=>.ok (r,y.2)
 |.neg a,N=>(iR cl a N).th λx=>match x.1 with
  |.val (.int i)=>.ok (.val (.int (-i)),x.2)
  |_=>.no
 |.not a,N=>(iR cl a N).th λx=>match x.1 with
  |.val (.bl b)=>.ok (.val (.bl (!b)),x.2)
  |_=>.no
 |.one a,N=>iR cl a N
 |.and a b,N=>(iR cl a N).th λx=>match x.1 with
  |.val (.bl true)=>iR cl b x.2
  |.val (.bl false)=>.ok (.val (.bl false),x.2)
  |_=>.no
 |.or a b,N=>(iR cl a N).th λx=>match x.1 with
  |.val (.bl false)=>iR cl b x.2
  |.val (.bl true)=>.ok (.val (.bl true),x.2)
  |_=>.no
 |.cmp op a b,N=>(iR cl a N).th λx=>(iR cl b x.2).th λy=>(R.of (Yh op x.1 y.1)).th λr=>.ok (.val (.bl r),y.2)
 |.ite c a b,N=>(iT cl c N).th λt=>if t.1 then iR cl a t.2 else iR cl b t.2
 |.idx a i,N=>(iR cl a N).th λx=>(iR cl i x.2).th λy=>(idxD x.1 y.1).th λr=>.ok (r,y.2)
 |.sli a lo hi,N=>(iR cl a N).th λx=>(iO cl lo x.2).th λl=>(iO cl hi l.2).th λh=>(sliceD x.1 l.1 h.1).th λr=>.ok (r,h.2)
 |.rvs a,N=>(iR cl a N).th λx=>(R.of x.1.list?).th λl=>.ok (.tmp l.reverse,x.2)
 |.lst l,N=>(iEs cl l N).th λx=>if x.1.length<=sizeLine then .ok (.tmp x.1,x.2) else .no
 |.tup l,N=>(iEs cl l N).th λx=>if x.1.length<=sizeLine then .ok (.val (.tup x.1),x.2) else .no
 |.call f l,N=>(iAs cl l N).th λx=>(cl f x.1).th λr=>.ok (r,x.2)
 |.calF f l,N=>(iEs cl l N).th λx=>(cl f (x.1.map .val)).th λr=>.ok (r,x.2)
 |.calN f l,N=>(iAs cl l N).th λx=>(cl f x.1).th λr=>.ok (qcN x.1 r,x.2)
 |.b1 f a,N=>(iR cl a N).th λx=>(f.go x.1).th λr=>.ok (r,x.2)
 |.b2 f a b,N=>(iR cl a N).th λx=>(iR cl b x.2).th λy=>(f.go x.1 y.1).th λr=>.ok (r,y.2)
 |.isi t a,N=>(iR cl a N).th λx=>(R.of (t.go x.1)).th λb=>.ok (.val (.bl b),x.2)
 |.isc t a,N=>(iR cl a N).th λx=>(R.of (qhf cl.cs x.1 t)).th λb=>.ok (.val (.bl b),x.2)
 |.isn ts a,N=>(iR cl a N).th λx=>(R.of (qpV cl.cs x.1 ts)).th λb=>.ok (.val (.bl b),x.2)
 |.fld a x,N=>(iR cl a N).th λy=>(R.of (qdh cl.cs y.1 x)).th λd=>.ok (.val d,y.2)
 |.met a x l,N=>(iR cl a N).th λy=>match mtD cl.cs y.1 x with
  |some f=>(iAs cl l y.2).th λz=>(cl f (toAr y.1::z.1)).th λr=>.ok (r,z.2)
  |none=>(iAs cl l y.2).th λz=>(bmD x y.1 z.1).th λr=>.ok (r,z.2)
 |.new f l,N=>(iAs cl l N).th λx=>(cl.nw f x.1).th λr=>.ok (r,x.2)
 |.fst l,N=>(iEs cl l N).th λx=>(R.of (qoW Str.empty x.1)).th λz=>.ok (.val (.str z),x.2)
 |.dct ks l,N=>(iEs cl l N).th λx=>.ok (.val (.dct ks x.1),x.2)
 |.comp e src tg c n fr,N=>(iI cl src N).th λx=>if x.1.length<=sizeLine then (qd9 tg.go (λN1=>iF cl c N1) (jZ e (iR cl e)) x.1 (JT n fr x.2) []).th λl=>.ok (.tmp l,x.2) else .no
def iT(cl:Cl):T->Env->R (Bool×Env)
 |.not a,N=>(iT cl a N).th λt=>.ok (!t.1,t.2)
 |.one a,N=>iT cl a N
 |.and a b,N=>(iT cl a N).th λt=>if t.1 then iT cl b t.2 else .ok (false,t.2)
 |.or a b,N=>(iT cl a N).th λt=>if t.1 then .ok (true,t.2) else iT cl b t.2
 |.cmp op a b,N=>(iR cl a N).th λx=>(iR cl b x.2).th λy=>(R.of (Yh op x.1 y.1)).th λr=>.ok (r,y.2)
 | .chn op op' a b c,N=>(iR cl a N).th λx=>(iR cl b x.2).th λy=>(R.of (Yh op x.1 y.1)).th λr=>if r=true then (iR cl c y.2).th λz=>(R.of (Yh op' y.1 z.1)).th λr'=>.ok (r',z.2) else .ok (false,y.2)
 |.val a,N=>(iR cl a N).th λx=>(R.of (truthD x.1)).th λb=>.ok (b,x.2)
def iEs(cl:Cl):Es->Env->R (List D×Env)
 |.nil,N=>.ok ([],N)
 |.cons e l,N=>(jZ e (iR cl e) N).th λx=>(iEs cl l x.2).th λy=>.ok (x.1::y.1,y.2)
def iAs(cl:Cl):Es->Env->R (List Ar×Env)
 |.nil,N=>.ok ([],N)
 |.cons e l,N=>(iR cl e N).th λx=>(iAs cl l x.2).th λy=>.ok (toAr x.1::y.1,y.2)
def iO(cl:Cl):O->Env->R (Option Int×Env)
 |.none,N=>.ok (none,N)
 |.some e,N=>(iR cl e N).th λx=>match x.1 with
  |.val (.int i)=>.ok (some i,x.2)
  |_=>.no
def iF(cl:Cl):F->Env->R (Bool×Env)
 |.yes,N=>.ok (true,N)
 |.test c,N=>iT cl c N
def iI(cl:Cl):I->Env->R (List D×Env)
 |.nam i,N=>(slC N i).th λl=>.ok (l,N)
 |.seq a,N=>(y2 a (iR cl a) N).th λx=>.ok (x.1.2,x.2)
 |.rng a,N=>(iR cl a N).th λx=>(match x.1.int? with
  |some n=>if qN n=true then .ok (qS 0 n,x.2) else .no
  |none=>.no)
 |.rng3 a b c,N=>(iR cl a N).th λx=>(iR cl b x.2).th λy=>(iR cl c y.2).th λz=>(rg3 x.1 y.1 z.1).th λl=>.ok (l,z.2)
 |.rng2 a b,N=>(iR cl a N).th λx=>(iR cl b x.2).th λy=>(match x.1.int?,y.1.int? with
  |some i,some j=>if qN i=true/\qN j=true then .ok (qS i j,y.2) else .no
  |_,_=>.no)
 |.enum a,N=>(y2 a (iR cl a) N).th λx=>match x.1.1 with |.lst=>.ok (Yi x.1.2,x.2) |_=>.no
 |.rev a,N=>(y2 a (iR cl a) N).th λx=>match x.1.1 with |.lst=>.ok (x.1.2.reverse,x.2) |_=>.no
 |.zip a b,N=>(y2 a (iR cl a) N).th λx=>(y2 b (iR cl b) x.2).th λy=>match x.1.1,y.1.1 with |.lst,.lst=>.ok (qcM x.1.2 y.1.2,y.2) |_,_=>.no
end
mutual
inductive S where
 | pass|expr (e:E)|app (i:Nat) (e:E)|ext (i:Nat) (e:E)|clr (i:Nat)|ret (e:E)|retN|set (i:Nat) (e:E)|setT (tg:Tg) (e:E)|setI (i:Nat) (x e:E)|ite (c:T) (a b:Ss)|for_ (tg:Tg) (src:I) (b:Ss)|whl (c:T) (b:Ss)|stuck
inductive Ss where
 | nil|cons (s:S) (l:Ss)
end
def zD(N:Env)(i:Nat):Option (List D):=match N[i]? with
 |some (.own l)=>some l
 |_=>none
def qf1(e:E)(r:Env->R (Rv×Env))(N:Env):R Rv:=match e with
 |.var i=>slX N i
 |.con d=>.ok (.val d)
 |_=>(r N).th λx=>match x.1 with
  |.val d=>.ok (.val d)
  |.tmp l=>.ok (.tmp l)
  |_=>.no
def qcO(e:E)(r:Env->R (Rv×Env))(N:Env):R (Sl×Env):=match e with
 |.var i=>(slE N i).th λr=>.ok (.val r.1,r.2)
 |.con d=>.ok (.val d,N)
 |_=>(r N).th λx=>match x.1 with
  |.val d=>.ok (.val d,x.2)
  |.tmp l=>.ok (.own l,x.2)
  |_=>.no
mutual
def iS(cl:Cl)(w:Nat):S->Env->R Fl
 |.pass,N=>.ok (.next N)
 |.expr e,N=>(iR cl e N).th λx=>.ok (.next x.2)
 |.app i e,N=>(match zD N i with
  |none=>.no
  |some _=>(jZ e (iR cl e) N).th λy=>(match zD y.2 i with
   |some l=>if l.length < sizeLine then .ok (.next (y.2.set i (.own (l++[y.1])))) else .no
   |none=>.no))
 |.ext i e,N=>(match zD N i with
  |none=>.no
  |some _=>(iR cl e N).th λy=>(match zD y.2 i,y.1.plain? with
   |some l,some n=>if l.length+n.length<=sizeLine then .ok (.next (y.2.set i (.own (l++n)))) else .no
   |_,_=>.no))
 |.clr i,N=>(match zD N i with
  |some _=>.ok (.next (N.set i (.own [])))
  |none=>.no)
 |.ret e,N=>(qf1 e (iR cl e) N).th λr=>.ok (.ret r)
 |.retN,N=>.ok (.ret (.val .non))
 |.set i e,N=>(qcO e (iR cl e) N).th λs=>.ok (.next (s.2.set i s.1))
 |.setT tg e,N=>(jZ e (iR cl e) N).th λx=>(tg.go x.1 x.2).th λN1=>.ok (.next N1)
 |.setI i x e,N=>(jZ e (iR cl e) N).th λy=>(match zD y.2 i with
  |none=>.no
  |some _=>(iR cl x y.2).th λz=>(match zD z.2 i,z.1.int? with
   |some l,some n=>(match ixN l.length n with
    |some k=>.ok (.next (z.2.set i (.own (l.set k y.1))))
    |none=>.no)
   |_,_=>.no))
 |.ite c a b,N=>(iT cl c N).th λt=>if t.1 then iSs cl w a t.2 else iSs cl w b t.2
 |.for_ tg src b,N=>(iI cl src N).th λx=>qk9 (λd N1=>(tg.go d N1).th λN2=>iSs cl w b N2) x.1 x.2
 |.whl c b,N=>whL (λN1=>iT cl c N1) (λN1=>iSs cl w b N1) w N
 |.stuck,_=>.no
def iSs(cl:Cl)(w:Nat):Ss->Env->R Fl
 |.nil,N=>.ok (.next N)
 |.cons s l,N=>(iS cl w s N).th λf=>match f with
  |.next N1=>iSs cl w l N1
  |.ret r=>.ok (.ret r)
end
def o2{α M γ:Type}(a:Option α)(b:Option M)(f:α->M->γ):Option γ:=match a,b with
 |some x,some y=>some (f x y)
 |_,_=>none
theorem qk{α M γ:Type}{a:Option α}{b:Option M}{f:α->M->γ}{z:γ}(h:o2 a b f=some z):∃x y,a=some x/\b=some y/\f x y=z:=by
 cases a with
 |none=>cases h
 |some x=>
  cases b with
  |none=>cases h
  |some y=>exact{x,y,rfl,rfl,Option.some.inj h}
theorem qj{α:Type}{c:Bool}{a:Option α}{z:α}(h:oif c a=some z):c=true/\a=some z:=by
 cases c with
 |true=>exact⟨rfl,h⟩
 |false=>cases h
def Ct.k(L:Ct):Cl:=⟨L.cl,L.cs,L.nw⟩
def cC(L:Ct)(it:Expr)(r:Option I):Option I:=match isF L it with
 |some i=>some (.nam i)
 |none=>r
def qaY(L:Ct)(x:Str):Option E:=oif (zg x) (match qdf L.N x with
 |some i=>oif (qk5 L.sc x) (some (.var i))
 |none=>oif (glB L.sc x) ((L.gl x).map .con))
def qhi:Const->Option E
 |.none=>some (.con .non)
 |.bool b=>some (.con (.bl b))
 |.int i=>some (.con (.int i))
 |.str s=>some (.con (.str s))
 |_=>none
def qnt(t:Str):Option Ty:=if t = "int" then some .int else if t = "bool" then some .bool else if t = "str" then some .str else if t = "list" then some .list else if t = "tuple" then some .tuple else none
def qn3(f:Str):Option B1:=if f = "len" then some .len else if f = "list" then some .list else if f = "int" then some .int else if f = "sorted" then some .srt else if f = "sum" then some .sum else if f = "all" then some .all else if f = "str" then some .str else if f = "tuple" then some .tup else if f = "any" then some .any else none
def qn4(f:Str):Option B2:=if f = "max" then some .max else if f = "min" then some .min else none
def qdj(L:Ct)(x:Str):Option Nat:=oif (qk6 L.sc x&&zg x) (qdf L.N x)
def qf2(L:Ct):List Str->Option (List Nat)
 |[]=>some []
 | x::l=>o2 (qdj L x) (qf2 L l) (· :: ·)
def cTg(L:Ct)(tg:Expr):Option Tg:=match tg with
 |.Name x _=>(qdj L x).map .one
 |.Tuple es j p=>oif (!es.any qD) (match zF (.Tuple es j p) with
  |some xs=>(qf2 L xs).map .many
  |none=>none)
 |_=>none
def ZZ:E->Option E
 |.var _=>none
 |e=>some e
def cVs(g:Expr->Option E):List Expr->Option Es
 |[]=>some .nil
 | e::l=>o2 (g e) (cVs g l) .cons
def cNm(L:Ct):List Expr->Option (List Str)
 |[]=>some []
 | .Name t _::l=>oif (zg t&&glB L.sc t&&decide (t≠"ValueError")) ((cNm L l).map (t :: ·))
 |_=>none
mutual
def cE:Nat->Ct->Expr->Option E
 |0,_,_=>none
 | m+1,L,e=>match e with
  |.Name x _=>qaY L x
  |.Constant c _ _=>qhi c
  |.BinOp a op b _=>o2 (cE m L a) (cE m L b) (E.bin op)
  |.UnaryOp .USub a _=>(cE m L a).map .neg
  |.UnaryOp .Not a _=>(cE m L a).map .not
  |.BoolOp _ [a] _=>(cE m L a).map .one
  | .BoolOp .And (a::b::l) p=>o2 (cE m L a) (cE m L (.BoolOp .And (b::l) p)) .and
  | .BoolOp .Or (a::b::l) p=>none
  |.Compare a [op] [b] _=>oif (!behindInMarks op b) (o2 (cE m L a) (cE m L b) (E.cmp op))
  |.IfExp c a b _=>o2 (cT m L c) (o2 (cE m L a) (cE m L b) Prod.mk) λc p=>.ite c p.1 p.2
  |.Subscript a (.Slice lo hi none _) _=>o2 (cE m L a) (o2 (cO m L lo) (cO m L hi) Prod.mk) λa p=>.sli a p.1 p.2
  |.Subscript a (.Slice lo hi (some st) _) _=>oif (qnq lo hi st) ((cE m L a).map .rvs)
  |.Subscript a i _=>o2 (cE m L a) (cE m L i) .idx
  |.List es _=>(cEs m L es).map .lst
  |.Tuple es _ _=>(cEs m L es).map .tup
  |.Call (.Name f p) es [] _=>oif (zg f&&glB L.sc f&&(qdf L.N f).isNone) (
    if f = "isinstance" then (match es with
     |[a,b]=>(match b with
      |.Name t _=>oif (zg t&&glB L.sc t&&(qdf L.N t).isNone&&!qD a) (match qnt t with |some y=>(cE m L a).map (.isi y) |none=>(cE m L a).map (.isc t))
      |_=>none)
     |_=>none)
    else if L.tab.contains f=true then (if (f = "_law_let"/\es.length=2)\/f = "_law_day"\/f = "_law_alike" then (cEs m L es).map (.calF f) else if f = "parted"/\L.tab.contains "_law_parted" = true then (cAs m L es).map (.calN f) else (cAs m L es).map (.call f))
    else if L.cs.tab.contains f=true then (cAs m L es).map (.new f)
    else match es with
     |[a]=>(match lrE L f a with
      |some t=>o2 (cE m L t.1) (cE m L t.2) (.b2 .rng)
      |none=>oif (!qD a) (o2 (qn3 f) (cE m L a) .b1))
     |[a,b]=>oif (!(qD a||qD b)) (o2 (qn4 f) (o2 (cE m L a) (cE m L b) Prod.mk) λf p=>.b2 f p.1 p.2)
     |_=>none)
  |.Attribute o x _=>oif (y0 o) ((cE m L o).map λa=>.fld a x)
  |.Call (.Attribute o x ap) es [] q=>if (y0 o&&(ap.endLine == q.line)&&decide (es.length < 30))=true then (o2 (cE m L o) (cAs m L es) λa l=>.met a x l)
   else match dgE L o x es (ap.endLine == q.line) with
    |some t=>o2 (cE m L t.1) (cE m L t.2.1) (.b2 (.get t.2.2))
    |none=>none
  |.ListComp elt [g] sc _=>oif (decide (g.is_async=0)) (match zF g.target with
   |some own=>oif (J0 L.sc L.N (Y7 L.N sc) sc&&decide (own++(Y7 L.N sc).map λi=>L.N.getD i "").Nodup&&ZX g.iter)
     (o2 (o2 (cC L g.iter (cI m L (qf0 g.target) g.iter)) (cTg { L with N:=own++(Y7 L.N sc).map λi=>L.N.getD i "",sc:=sc } g.target) Prod.mk)
      (o2 (cF m { L with N:=own++(Y7 L.N sc).map λi=>L.N.getD i "",sc:=sc } g.ifs) (cX m { L with N:=own++(Y7 L.N sc).map λi=>L.N.getD i "",sc:=sc } elt) Prod.mk)
      λp q=>.comp q.2 p.1 p.2 q.1 own.length (Y7 L.N sc))
   |none=>none)
  |_=>none
def cX:Nat->Ct->Expr->Option E
 |0,_,_=>none
 | m+1,L,e=>match e with
  |.Name x _=>qaY L x
  |e=>(cE m L e).bind ZZ
def cT:Nat->Ct->Expr->Option T
 |0,_,_=>none
 | m+1,L,e=>match e with
  |.UnaryOp .Not a _=>(cT m L a).map .not
  |.BoolOp _ [a] _=>(cT m L a).map .one
  | .BoolOp .And (a::b::l) p=>o2 (cT m L a) (cT m L (.BoolOp .And (b::l) p)) .and
  | .BoolOp .Or (a::b::l) p=>o2 (cT m L a) (cT m L (.BoolOp .Or (b::l) p)) .or
  |.BoolOp _ [] _=>none
  |.IfExp ..=>none
  |.Compare a [op] [b] _=>(match irE L op b with
   |some t=>o2 (cE m L a) (cE m L t) (λx y=>.val (.b2 .inr x y))
   |none=>oif (!behindInMarks op b) (o2 (cE m L a) (cE m L b) (T.cmp op)))
  |.Compare ..=>none
  |e=>(cE m L e).map .val
def cEs:Nat->Ct->List Expr->Option Es
 |0,_,_=>none
 | m+1,L,es=>match es with
  |[]=>some .nil
  | e::l=>oif (!qD e) (o2 (cX m L e) (cEs m L l) .cons)
def cAs:Nat->Ct->List Expr->Option Es
 |0,_,_=>none
 | m+1,L,es=>match es with
  |[]=>some .nil
  | e::l=>oif (!qD e) (o2 (cE m L e) (cAs m L l) .cons)
def cO:Nat->Ct->Option Expr->Option O
 |0,_,_=>none
 | m+1,L,o=>match o with
  |none=>some .none
  |some e=>(cE m L e).map .some
def cF:Nat->Ct->List Expr->Option F
 |0,_,_=>none
 | m+1,L,es=>match es with
  |[]=>some .yes
  |[c]=>(cT m L c).map .test
  |_=>none
def cL:Nat->Ct->Expr->Option E
 |0,_,_=>none
 | m+1,L,e=>match e with
  |.Name x _=>(qfu L x).map .var
  |e=>(cE m L e).bind ZZ
def cI:Nat->Ct->Bool->Expr->Option I
 |0,_,_,_=>none
 | m+1,L,tb,e=>match e with
  |.Call (.Name f p) es [] q=>if f = "range" || f = "enumerate" || f = "zip" || f = "reversed" then oif (zg f&&glB L.sc f&&(qdf L.N f).isNone) (match es with
    |[a]=>oif (!qD a) (if f = "range" then (cE m L a).map .rng else if f = "enumerate" then oif tb ((cL m L a).map .enum) else if f = "reversed" then (cL m L a).map .rev else none)
    |[a,b]=>oif (!(qD a||qD b)) (if f = "range" then o2 (cE m L a) (cE m L b) .rng2 else if f = "zip" then oif tb (o2 (cL m L a) (cL m L b) .zip) else none)
    |_=>none)
   else (cL m L (.Call (.Name f p) es [] q)).map .seq
  |e=>(cL m L e).map .seq
end
def cV(m:Nat)(L:Ct)(e:Expr):Option E:=match e with
 |.Name x _=>qaY L x
 |e=>(cE m L e).bind ZZ
mutual
def cS:Nat->Ct->Stmt->Option S
 |0,_,_=>none
 | m+1,L,st=>match st with
  |.Pass _=>some .pass
  |.Expr e _=>(match e with
   |.Call (.Attribute (.Name x _) meth ap) [a] [] cp=>oif (ap.endLine == cp.line&&!qD a) (
     if meth = "append" then o2 (qfu L x) (cX m L a) .app
     else if meth = "extend" then o2 (qfu L x) (cE m L a) .ext
     else none)
   |.Call (.Attribute (.Name x _) meth ap) [] [] cp=>none
   |e=>oif (yK e) ((cE m L e).map .expr))
  |.Return (some e) _=>(cV m L e).map .ret
  |.Return none _=>some .retN
  |.Assign [tg] e _=>(match tg with
   |.Name x _=>o2 (qdj L x) (cV m L e) .set
   |.Tuple es j p=>oif (yK e&&qea e) (o2 (cTg L (.Tuple es j p)) (cX m L e) .setT)
   |.Subscript (.Name x _) i _=>oif (yK e&&QD i) (o2 (qfu L x) (o2 (cE m L i) (cX m L e) Prod.mk) λx p=>.setI x p.1 p.2)
   |_=>none)
  |.If c a b _=>o2 (cT m L c) (o2 (cSs m L a) (cSs m L b) Prod.mk) λc p=>.ite c p.1 p.2
  |.For tg it body [] _=>oif (ZX it) (o2 (o2 (cTg L tg) (cI m L (qf0 tg) it) Prod.mk) (cSs m L body) λp b=>.for_ p.1 p.2 b)
  |.While c body [] _=>o2 (cT m L c) (cSs m L body) .whl
  |.Raise ..=>some .stuck
  | .Try body (h::hs) [] [] _=>(cSs m L body).map λb=>.ite (.val (.con (.bl true))) b .nil
  |_=>none
def cSs:Nat->Ct->List Stmt->Option Ss
 |0,_,_=>none
 | m+1,L,l=>match l with
  |[]=>some .nil
  | st::l=>o2 (cS m L st) (cSs m L l) .cons
end
def ql{α M:Type}{o:Option α}{f:α->M}{z:M}(h:o.map f=some z):∃x,o=some x/\f x=z:=Option.map_eq_some_iff.mp h
def jd{e z:E}(h:ZZ e=some z):e=z/\∀i,z≠.var i:=by cases e<;>cases h<;>exact{rfl,λi z=>by cases z}
def qiK{z:E}(h:∀i,z≠.var i)(cl:Cl)(N:Env):jZ z (iR cl z) N=(iR cl z N).th qnr:=by cases z<;>first|rfl|exact absurd rfl (h _)
def qiL{z:E}(h:∀i,z≠.var i)(cl:Cl)(N:Env):y2 z (iR cl z) N=(iR cl z N).th qns:=by cases z<;>first|rfl|exact absurd rfl (h _)
def qiM{z:E}(h:∀i,z≠.var i)(cl:Cl)(N:Env):qf1 z (iR cl z) N=(iR cl z N).th λx=>match x.1 with
  |.val d=>.ok (.val d)
  |.tmp l=>.ok (.tmp l)
  |_=>.no:=by
 cases z<;>first|rfl|exact absurd rfl (h _)
def qiN{z:E}(h:∀i,z≠.var i)(cl:Cl)(N:Env):qcO z (iR cl z) N=(iR cl z N).th λx=>match x.1 with
  |.val d=>.ok (.val d,x.2)
  |.tmp l=>.ok (.own l,x.2)
  |_=>.no:=by
 cases z<;>first|rfl|exact absurd rfl (h _)
def Wk{α:Type}(x:R α)(f:α->Prop):Prop:=match x with
 |.ok a=>f a
 |.exc _ _=>False
 |.no=>False
def Wk.th{α M:Type}{x:R α}{g:α->R M}{f:M->Prop}(h:Wk (x.th g) f):Wk x λa=>Wk (g a) f:=by cases x<;>exact h
theorem Wk.mono{α:Type}{x:R α}{f g:α->Prop}(h:Wk x f)(i:∀a,f a->g a):Wk x g:=by
 cases x with
 |ok a=>exact i a h
 |exc c l=>exact h
 |no=>exact h
theorem Wk.of{α:Type}{x:Option α}{f:α->Prop}(h:Wk (R.of x) f):∃a,x=some a/\f a:=by
 cases x with
 |none=>exact h.elim
 |some a=>exact⟨a,rfl,h⟩
def Wk.iff{α:Type}{c:Prop}[Decidable c]{x:R α}{f:α->Prop}(h:Wk (if c then x else .no) f):c/\Wk x f:=by
 by_cases hc:c
 ·rw[if_pos hc]at h;exact⟨hc,h⟩
 ·rw[if_neg hc]at h;exact h.elim
section
variable(U:KC)(K:Frag)(Gv Hv:Hp)
def tR(f:Env->R (Rv×Env)):TE:=λZ H Q=>∃N G,ER U K Gv Hv G H N Z/\Wk (f N) λx=>∀v G' H',Po U K Gv Hv Z G H N G' H' x.2->RvR U K Hv H G' H' x.2 Z x.1 v->Q v H'
def tE(f:Env->R (D×Env)):TE:=λZ H Q=>∃N G,ER U K Gv Hv G H N Z/\Wk (f N) λx=>∀v G' H',Po U K Gv Hv Z G H N G' H' x.2->Rep U G' x.1 v->Q v H'
def tT(f:Env->R (Bool×Env)):TT:=λZ H Q=>∃N G,ER U K Gv Hv G H N Z/\Wk (f N) λx=>∀G' H',Po U K Gv Hv Z G H N G' H' x.2->Q x.1 H'
def tEs(f:Env->R (List D×Env)):TA:=λZ H Q=>∃N G,ER U K Gv Hv G H N Z/\Wk (f N) λx=>∀vs G' H',Po U K Gv Hv Z G H N G' H' x.2->qo U G' x.1 vs->Q vs H'
def ArR(G H:Hp):Ar->V->Prop
 |.val d,v=>Rep U G d v
 |.bor ds,v=>∃a xs,v=.ref a/\H a=some (.lst xs)/\qo U G ds xs
 |.scr ds,v=>∃a xs,v=.ref a/\SqL K H a xs/\qo U G ds xs
def Jn(G H:Hp):List Ar->List V->Prop
 |[],vs=>vs=[]
 | a::l,vs=>∃v r,vs=v::r/\ArR U K G H a v/\Jn G H l r
def tAs(f:Env->R (List Ar×Env)):TA:=λZ H Q=>∃N G,ER U K Gv Hv G H N Z/\Wk (f N) λx=>∀vs G' H',Po U K Gv Hv Z G H N G' H' x.2->Jn U K G' H' x.1 vs->Q vs H'
def tO(f:Env->R (Option Int×Env)):TO:=λZ H Q=>∃N G,ER U K Gv Hv G H N Z/\Wk (f N) λx=>∀G' H',Po U K Gv Hv Z G H N G' H' x.2->Q x.1 H'
def SrR(G:Hp)(s:Sk×List D)(v:V):Prop:=match s.1 with
 |.str=>∃x,v=.str x/\s.2=qdd x
 |.tup=>∃a xs,v=.ref a/\qo U G s.2 xs/\G a=some (.tup xs)
 |.lst=>∃a xs,v=.ref a/\qo U G s.2 xs/\(G a=some (.lst xs)\/SqL K Hv a xs)
def tL(f:Env->R ((Sk×List D)×Env)):TE:=λZ H Q=>∃N G,ER U K Gv Hv G H N Z/\Wk (f N) λx=>∀v G' H',Po U K Gv Hv Z G H N G' H' x.2->SrR U K Hv G' x.1 v->Q v H'
def ItR(G₁:Hp)(J:It)(l:List D):Prop:=∀(i:Nat) (G H:Hp),qp G₁ G->qp Hv H->qp G H->
 (∀d,l[i]?=some d->J.go i H/\∀x H',J.yld i H x H'->∃G',qp H H'/\qp G G'/\qp G' H'/\(∀a o,G' a=some o->(∃o',G a=some o')\/H a=none)/\Rep U G' d x)/\(l.length=i->J.stop i H)
def tI(f:Env->R (List D×Env)):TI:=λZ H Q=>∃N G,ER U K Gv Hv G H N Z/\Wk (f N) λx=>∀J G' H',Po U K Gv Hv Z G H N G' H' x.2->ItR U Hv G' J x.1->Q J H'
def ReR(G' H' H:Hp):Rv->V->Prop
 |.val d,v=>Rep U G' d v
 |.tmp ds,v=>∃a xs,v=.ref a/\H' a=some (.lst xs)/\H a=none/\G' a=none/\qo U G' ds xs
 |_,_=>False
def spF(cl:Str->List Ar->R Rv)(f:Str):Sp:=λvs H Q _=>∃G args,qp G H/\Jn U K G H args vs/\
 Wk (cl f args) λr=>∀v G' H',qp H H'->qp G G'->qp G' H'->(∀a o,G' a=some o->(∃o',G a=some o')\/H a=none)->ReR U G' H' H r v->Q v H'
end
def qeb:List Str:=["len","list","tuple","int","bool","str","max","min","isinstance","range","enumerate","zip","sorted","sum","reversed","all","any","dict"]
structure Gd(U:KC)(K:Frag)(k:Nat)(X:Cx)(L:Ct):Prop where
 hN:X.N=L.N
 vis:∀x,qk5 L.sc x=true->Vis X.env.scope x
 loc:∀x,qk6 L.sc x=true->L2.Loc X.env.scope x/\(X.fn x=true\/X.env.scope.names.lookup x=some .local)
 glo:∀x,glB L.sc x=true->Gl X x
 cf:∀x,(L.sc.names.lookup x=some .cell\/L.sc.names.lookup x=some .free)->X.env.kindOf x=some .cell\/X.env.kindOf x=some .free
 nd:L.N.Nodup
 calm:X.calm=true
 hK:X.K=K
 room:Room k X.A
 fns:∀f,L.tab.contains f=true->∃fa fd ps,FnOk X.prog X.w X.K X.mg X.base CX0 k fa fd ps (spF U K L.cl f)/\X.mg f=some (.ref fa)/\PySem.W.keepIn X.K (.ref fa)=true/\qX X.K fd ps []
 blt:∀f∈qeb,X.mg f=none
 gl:∀x d,L.gl x=some d->∃v u,X.mg x=some u/\qH v u/\∀G,Rep U G d v
 cls:∀c C,U c=some C->Cls X.K C
 flds:∀c x C,L.cs.fld c x=true->U c=some C->ze X.K C x
 mts:∀c x f,L.cs.mt c x=some f->∃C fa fd ps,U c=some C/\Meth X.K C x fa/\FnOk X.prog X.w X.K X.mg X.base CX0 k fa fd ps (spF U K L.cl f)/\qX X.K fd ps []
 mks:∀f,L.cs.tab.contains f=true->(∀args,L.nw f args=.no)\/∃C fa fd ps sp,Mk X.K C fa/\FnOk X.prog X.w X.K X.mg X.base CX0 (k - 1) fa fd ps sp/\X.mg f=some (.ref C)/\qX X.K fd ps []/\0 < k/\
  ∀vs H Q,spF U K L.nw f vs H Q E0->∀x dx,H x=none->H dx=none->dx≠x->sp (.ref x::vs) (upd (upd H dx (.own x)) x (.ins C dx [])) (λv H2=>v=.non/\Q (.ref x) H2) E0
 xsubs:∀C t b,L.cs.xs C t=some b->ExcIs X.K C/\((∃T,X.mg t=some (.ref T)/\PySem.W.kitOne X.K (.ref C) (.ref T)=some b)\/(X.mg t=none/\t = "ValueError"/\PySem.W.kitOne X.K (.ref C) (.type "ValueError")=some b))
 xgs:∀C x,L.cs.xg C x=true->XcG X.K C x
 subs:∀c t b,L.cs.sub c t=some b->∃C T,U c=some C/\(∀H p dx fs,H p=some (HO.ins C dx fs)->TyOf X.K H (.ref p) (.ref C))/\X.mg t=some (.ref T)/\PySem.W.kitOne X.K (.ref C) (.ref T)=some b
def PE.imp{X:Cx}{e:Expr}{t t':TE}(h:PE X e t')(i:∀Z H Q,t Z H Q->t' Z H Q):PE X e t:=λpins s Z H Q I hw=>h pins s Z H Q I (i Z H Q hw)
def PT.imp{X:Cx}{e:Expr}{t t':TT}(h:PT X e t')(i:∀Z H Q,t Z H Q->t' Z H Q):PT X e t:=λpins s Z H Q I hw=>h pins s Z H Q I (i Z H Q hw)
def PA.imp{X:Cx}{es:List Expr}{t t':TA}(h:PA X es t')(i:∀Z H Q,t Z H Q->t' Z H Q):PA X es t:=λpos pins s Z H Q I hw=>h pos pins s Z H Q I (i Z H Q hw)
def PO.imp{X:Cx}{o:Option Expr}{t t':TO}(h:PO X o t')(i:∀Z H Q,t Z H Q->t' Z H Q):PO X o t:=λpins s Z H Q I hw=>h pins s Z H Q I (i Z H Q hw)
def PIf.imp{X:Cx}{es:List Expr}{t t':TT}(h:PIf X es t')(i:∀Z H Q,t Z H Q->t' Z H Q):PIf X es t:=λpins s Z H Q I hw=>h pins s Z H Q I (i Z H Q hw)
def PI.imp{X:Cx}{tg e:Expr}{t t':TI}(h:PI X tg e t')(i:∀Z H Q,t Z H Q->t' Z H Q):PI X tg e t:=λpins s Z H Q I hw=>h pins s Z H Q I (i Z H Q hw)
theorem QF:∀{N:List Str} {x:Str} {i:Nat},qdf N x=some i->N[i]?=some x
 |[],x,i,h=>by cases h
 | y::r,x,i,h=>by
  unfold qdf at h
  by_cases e:y=x
  ·rw[if_pos e]at h;cases h;rw[e];rfl
  ·rw[if_neg e]at h
   cases q:qdf r x with
   |none=>rw[q]at h;cases h
   |some j=>rw[q]at h;cases h;show(y::r)[j+1]?=some x;rw[List.getElem?_cons_succ];exact QF q
def qF{x:Str}(h:zg x=true):(x == ("__debug__" : Str))=false/\(x == ("__classdict__" : Str))=false/\x≠"__name__":=by unfold zg at h;simp![Bool.and_eq_true,Bool.not_eq_true']at h;refine{h.1.1,h.1.2,λz=>?_};rw[z]at h;exact absurd h.2 (2:)
def qhj{sc:Scope}{x:Str}(h:qk5 sc x=true):Vis sc x:=by
 unfold qk5 at h;unfold Vis
 split at h
 ·rename_i e;exact .inl e
 ·rename_i e;exact .inr (.inl e)
 ·rename_i e;exact .inr (.inr e)
 ·cases h
def qec{sc:Scope}{x:Str}(h:qk6 sc x=true):L2.Loc sc x:=by
 unfold qk6 at h;unfold L2.Loc
 split at h
 ·rename_i e;exact .inl e
 ·rename_i e;exact .inr e
 ·cases h
def qf{e:Expr}{es:List Expr}{env:PySem.Env}(h:qD e=false):starEach (e::es) env=(false,eval e env)::starEach es env:=by cases e<;>first|rfl|(simp[qD]at h)
section
variable{U:KC}{K:Frag}{Gv Hv:Hp}{k:Nat}{X:Cx}{L:Ct}
def ER.notOwn{G H:Hp}{N:Env}{Z:St}(er:ER U K Gv Hv G H N Z){a:Addr}(h:H a=none):¬ qcL N Z a:=λ⟨i,l,e,z⟩=>by let(b,xs,z',h1,_):=er.sl i _ e;rw[z]at z';injection z' with z';injection z' with z';injection z' with z';rw[<-z',h]at h1;cases h1
def ER.newList{G H:Hp}{N:Env}{Z:St}(er:ER U K Gv Hv G H N Z){a:Addr}{xs:List V}{l:List D}(h:H a=none)(r:qo U G l xs) :
  Po U K Gv Hv Z G H N G (upd H a (.lst xs)) N/\RvR U K Hv H G (upd H a (.lst xs)) N Z (.tmp l) (.ref a):=
 ⟨Po.room er (qp.upd h),a,xs,rfl,qg,h,qp.none er.base h,qp.none er.sub h,er.notOwn h,r⟩
def qbI(gd:Gd U K k X L){x:Str}{i:Nat}(h:qfu L x=some i)(pos:Pos):PE X (.Name x pos) (qnk i):=by unfold qfu at h;let(hc,h):=qj h;rw[Bool.and_eq_true]at hc;let(n1,n2,n3):=qF hc.1;exact qbq (i:=i) (by rw[gd.hN];exact QF h) (gd.vis x hc.2) n1 n2
theorem QG(gd:Gd U K k X L){x:Str}{z:E}(h:qaY L x=some z)(pos:Pos):(∃i,z=.var i/\PE X (.Name x pos) (qnk i))\/∃d v,z=.con d/\(∀G,Rep U G d v)/\PE X (.Name x pos) (tC v):=by
 unfold qaY at h;let(hok,h):=qj h;let(n1,n2,n3):=qF hok
 cases hi:qdf L.N x with
 |some i=>rw[hi]at h;let(hv,h):=qj h;cases h;exact .inl ⟨i,rfl,qbq (i:=i) (by rw[gd.hN];exact QF hi) (gd.vis x hv) n1 n2⟩
 |none=>rw[hi]at h;let(hg,h):=qj h;let(d,hd,rfl):=ql h;let(v,u,e1,e2,e3):=gd.gl x d hd;exact .inr ⟨d,v,rfl,e3,J6 (gd.glo x hg) e1 e2 n1⟩
def qf3(gd:Gd U K k X L){x:Str}{z:E}(h:qaY L x=some z)(pos:Pos):PE X (.Name x pos) (tR U K Gv Hv (iR L.k z)):=by
 rcases QG gd h pos with ⟨i,rfl,P⟩|⟨d,v,rfl,e3,P⟩
 ·refine PE.imp P λZ H Q hq1=>?_;let(N,G,er,h):=hq1;have h:=Wk.th (x:=slR N i) h;unfold slR at h
  cases q:N[i]? with
  |none=>rw[q]at h;exact h.elim
  |some s=>
   rw[q]at h;have w:=er.sl i s q
   cases s with
   |no=>exact h.elim
   |val d=>let(v,z,r):=w;exact{v,z,h v G H (Po.refl er) r}
   |own l=>let(a,xs,z,r1,r2,r3,r4):=w;exact{_,z,h _ G H (Po.refl er) ⟨a,xs,rfl,r1,r4⟩}
   |bor l=>let(a,xs,z,r1,r4):=w;exact{_,z,h _ G H (Po.refl er) {a,xs,rfl,er.base _ _ r1,r4}}
   |scr l=>let(a,xs,z,r1,r4):=w;exact{_,z,h _ G H (Po.refl er) {a,xs,rfl,er.base.seq r1,r4}}
 ·exact PE.imp P λZ H Q ⟨N,G,er,h⟩=>h v G H (Po.refl er) (e3 G)
def qbJ(gd:Gd U K k X L){x:Str}{z:E}(h:qaY L x=some z)(pos:Pos):PE X (.Name x pos) (tE U K Gv Hv (jZ z (iR L.k z))):=by
 rcases QG gd h pos with ⟨i,rfl,P⟩|⟨d,v,rfl,e3,P⟩
 ·refine PE.imp P λZ H Q hq1=>?_;let(N,G,er,h):=hq1;have h:Wk (slE N i) _:=h;unfold slE at h
  cases q:N[i]? with
  |none=>rw[q]at h;exact h.elim
  |some s=>
   rw[q]at h;have w:=er.sl i s q
   cases s with
   |val d=>let(v,z,r):=w;exact{v,z,h v G H (Po.refl er) r}
   |own l=>let(a,xs,z,p,r):=er.froze q;exact{_,z,h _ _ H p r}
   |_=>exact h.elim
 ·exact PE.imp P λZ H Q ⟨N,G,er,h⟩=>h v G H (Po.refl er) (e3 G)
end
section
variable{U:KC}{K:Frag}{Gv Hv Hb Hc G H:Hp}{N:Env}{Z:St}{r s:Rv}{x y:V}
theorem RvR.int{i:Int}(h:RvR U K Hv Hb G H N Z r x)(e:r.int?=some i):x=.int i:=by
 cases r with
 |val d=>cases d<;>simp![Rv.int?]at e<;>first|(cases e;simpa only[RvR,Rep] using h)|cases e
 |_=>cases e
theorem RvR.str{i:Str}(h:RvR U K Hv Hb G H N Z r x)(e:r.str?=some i):x=.str i:=by
 cases r with
 |val d=>cases d<;>simp![Rv.str?]at e<;>first|(cases e;simpa only[RvR,Rep] using h)|cases e
 |_=>cases e
theorem RvR.bl{i:Bool}(h:RvR U K Hv Hb G H N Z r x)(e:r.bl?=some i):x=.bl i:=by
 cases r with
 |val d=>cases d<;>simp![Rv.bl?]at e<;>first|(cases e;simpa only[RvR,Rep] using h)|cases e
 |_=>cases e
theorem RvR.tup{l:List D}(h:RvR U K Hv Hb G H N Z r x)(e:r.tup?=some l):∃a xs,x=.ref a/\G a=some (.tup xs)/\qo U G l xs:=by
 cases r with
 |val d=>cases d<;>simp![Rv.tup?]at e<;>first|(cases e;simpa only[RvR,Rep] using h)|cases e
 |_=>cases e
theorem RvR.seq(er:ER U K Gv Hv G H N Z){l:List D}(h:RvR U K Hv Hb G H N Z r x)(e:seqD r=some l):∃a xs,x=.ref a/\(SqL K H a xs\/SqT K H a xs)/\qo U G l xs:=by
 unfold seqD at e
 cases q:r.tup? with
 | some l'=>rw[q]at e;cases e;let(a,xs,e1,e2,e3):=h.tup q;exact{a,xs,e1,.inr (SqT.of (er.sub _ _ e2)),e3}
 |none=>rw[q]at e;let(a,xs,e1,e2,e3):=h.list er e;exact{a,xs,e1,.inl e2,e3}
theorem RvR.non(h:RvR U K Hv Hb G H N Z r x):decide (x=.non)=r.non?:=by
 cases r with
 |val d=>
  cases d<;>simp![RvR,Rep]at h<;>simp![Rv.non?]
  ·subst h;rfl
  ·subst h;rfl
  ·subst h;rfl
  ·subst h;rfl
  ·let(a,xs,rfl,_):=h;rfl
  ·let(a,xs,rfl,_):=h;rfl
  ·let(p,dx,C,xs,_,rfl,_):=h;rfl
  ·let(p,od,xs,rfl,_):=h;rfl
  ·let(p,xs,rfl,_):=h;rfl
 |tmp l=>let(a,xs,rfl,_):=h;rfl
 |cell l=>let(a,xs,rfl,_):=h;rfl
 |scr l=>let(a,xs,rfl,_):=h;rfl
mutual
theorem Rep.dv(sub:qp G H):∀{d:D} {v:V} {p:PyData},Rep U G d v->toP d=some p->DV K H p v
 |.non,v,p,h,e=>by simp![toP]at e;cases e;simp![Rep]at h;simp![DV];exact h
 |.bl b,v,p,h,e=>by simp![toP]at e;cases e;simp![Rep]at h;simp![DV];exact h
 |.int b,v,p,h,e=>by simp![toP]at e;cases e;simp![Rep]at h;simp![DV];exact h
 |.str b,v,p,h,e=>by simp![toP]at e;cases e;simp![Rep]at h;simp![DV];exact h
 |.lst l,v,p,h,e=>by simp![toP]at e;let(ps,e1,rfl):=Option.map_eq_some_iff.mp e;simp![Rep]at h;let(a,xs,rfl,h1,h2):=h;simp![DV];exact{a,xs,rfl,SqL.of (sub _ _ h1),qo.dvs sub h2 e1}
 |.tup l,v,p,h,e=>by simp![toP]at e;let(ps,e1,rfl):=Option.map_eq_some_iff.mp e;simp![Rep]at h;let(a,xs,rfl,h1,h2):=h;simp![DV];exact{a,xs,rfl,SqT.of (sub _ _ h1),qo.dvs sub h2 e1}
 |.ins c ns l,v,p,h,e=>by simp![toP]at e;cases e
 |.exc c ns l,v,p,h,e=>by simp![toP]at e;cases e
 |.dct ns l,v,p,h,e=>by simp![toP]at e;cases e
theorem qo.dvs(sub:qp G H):∀{ds:List D} {vs:List V} {ps:List PyData},qo U G ds vs->qde ds=some ps->DVs K H ps vs
 |[],vs,ps,h,e=>by simp![qde]at e;cases e;simp![qo]at h;simp![DVs];exact h
 | d::ds,vs,ps,h,e=>by simp![qde]at e;let(p,e1,e2):=Option.bind_eq_some_iff.mp e;let(qs,e3,rfl):=Option.map_eq_some_iff.mp e2;simp![qo]at h;let(x,r,rfl,h1,h2):=h;simp![DVs];exact{x,r,rfl,Rep.dv sub h1 e1,qo.dvs sub h2 e3}
end
theorem RvR.dv(er:ER U K Gv Hv G H N Z){p:PyData}(h:RvR U K Hv Hb G H N Z r x)(e:toP r.data=some p):DV K H p x:=by
 have lst:∀{l:List D} {a:Addr} {xs:List V},SqL K H a xs->qo U G l xs->toP (.lst l)=some p->DV K H p (.ref a):=λ{l a xs} hq hr e=>by simp![toP]at e;let(ps,e1,rfl):=Option.map_eq_some_iff.mp e;simp![DV];exact{a,xs,rfl,hq,qo.dvs er.sub hr e1}
 cases r with
 |val d=>exact Rep.dv er.sub h e
 |tmp l=>let(a,xs,rfl,h1,_,_,_,_,h6):=h;exact lst (SqL.of h1) h6 e
 |cell l=>let(a,xs,rfl,h1,h6):=h;exact lst (SqL.of h1) h6 e
 |scr l=>let(a,xs,rfl,h1,h6):=h;exact lst h1 h6 e
def qbK{d:D}{v:V}(h:Rep U G d v)(f:jy d=true):v=flV d/\Yc v=true:=by
 cases d<;>simp![jy]at f<;>try (exact absurd f (2:))
 all_goals (simp![Rep]at h;subst h;exact⟨rfl,rfl⟩)
theorem Z0:∀{l:List D} {vs:List V},qo U G l vs->l.all jy=true->vs=l.map flV/\vs.all Yc=true
 |[],vs,h,f=>by simp![qo]at h;subst h;exact⟨rfl,rfl⟩
 | d::l,vs,h,f=>by simp![qo]at h;let(x,r,rfl,h1,h2):=h;simp![List.all_cons,Bool.and_eq_true]at f;let(e1,e2):=qbK h1 f.1;let(e3,e4):=Z0 h2 f.2;subst e1 e3;exact{rfl,by simp![List.all_cons,e2,e4,Bool.and_self]}
theorem qiO(h:RvR U K Hv Hb G H N Z r x)(f:jy r.data=true):x=flV r.data/\Yc x=true:=by
 cases r with
 |val d=>exact qbK h f
 |_=>simp![Rv.data,jy]at f;exact absurd f (2:)
theorem qaZ{f:Int->Int->R Rv}{F:Rv->Prop}(h:Wk (int2 r s f) F):∃i j,r.int?=some i/\s.int?=some j/\Wk (f i j) F:=by
 unfold int2 at h
 cases e1:r.int? with
 |none=>rw[e1]at h;exact h.elim
 |some i=>
  cases e2:s.int? with
  |none=>rw[e1,e2]at h;exact h.elim
  |some j=>rw[e1,e2]at h;exact⟨i,j,rfl,rfl,h⟩
def qf4{l:List D}{xs:List V}{i:Int}{d:D}(h:qo U G l xs)(e:atI l i=some d):∃v,atI xs i=some v/\Rep U G d v:=by unfold atI at e ⊢;rw[<-h.len];let(j,e1,e2):=Option.bind_eq_some_iff.mp e;let(v,e3,e4):=h.atD e2;exact{v,by rw[e1];exact e3,e4}
def qf5{l:List D}{xs:List V}{lo hi:Option Int}(h:qo U G l xs):qo U G (qdg l lo hi) (qj4 xs lo hi):=by unfold qdg qj4;rw[h.len];exact(h.drop _).take _
end
section
variable(U:KC)(K:Frag)(Gv Hv:Hp)
def qnu(op:Operator):R2:=λx y H Q=>∃(N:Env) (Z:St) (G Hb Hc:Hp) (r s:Rv),ER U K Gv Hv G H N Z/\RvR U K Hv Hb G H N Z r x/\RvR U K Hv Hc G H N Z s y/\
 Wk (qaV op r s) λz=>∀v G' H',Po U K Gv Hv Z G H N G' H' N->RvR U K Hv H G' H' N Z z v->Q v H'
def qn5(op:CmpOp):R2:=λx y H Q=>∃(N:Env) (Z:St) (G Hb Hc:Hp) (r s:Rv) (b:Bool),ER U K Gv Hv G H N Z/\RvR U K Hv Hb G H N Z r x/\RvR U K Hv Hc G H N Z s y/\Yh op r s=some b/\Q (.bl b) H
def qp0:R2:=λx y H Q=>∃(N:Env) (Z:St) (G Hb Hc:Hp) (r s:Rv),ER U K Gv Hv G H N Z/\RvR U K Hv Hb G H N Z r x/\RvR U K Hv Hc G H N Z s y/\
 Wk (idxD r s) λz=>∀v G' H',Po U K Gv Hv Z G H N G' H' N->RvR U K Hv H G' H' N Z z v->Q v H'
def qp1:V->Option Int->Option Int->Hp->VK->Prop:=λx lo hi H Q=>∃(N:Env) (Z:St) (G Hb:Hp) (r:Rv),ER U K Gv Hv G H N Z/\RvR U K Hv Hb G H N Z r x/\
 Wk (sliceD r lo hi) λz=>∀v G' H',Po U K Gv Hv Z G H N G' H' N->RvR U K Hv H G' H' N Z z v->Q v H'
def rC1(f:Rv->R Rv):List V->Hp->VK->Prop:=λxs H Q=>∃(N:Env) (Z:St) (G Hb:Hp) (r:Rv) (x:V),xs=[x]/\ER U K Gv Hv G H N Z/\RvR U K Hv Hb G H N Z r x/\
 Wk (f r) λz=>∀v G' H',Po U K Gv Hv Z G H N G' H' N->RvR U K Hv H G' H' N Z z v->Q v H'
def rC2(f:Rv->Rv->R Rv):List V->Hp->VK->Prop:=λxs H Q=>∃(N:Env) (Z:St) (G Hb Hc:Hp) (r s:Rv) (x y:V),xs=[x,y]/\ER U K Gv Hv G H N Z/\RvR U K Hv Hb G H N Z r x/\RvR U K Hv Hc G H N Z s y/\
 Wk (f r s) λz=>∀v G' H',Po U K Gv Hv Z G H N G' H' N->RvR U K Hv H G' H' N Z z v->Q v H'
end
section
variable{U:KC}{K:Frag}{Gv Hv:Hp}{k:Nat}{X:Cx}{L:Ct}
def QH(op:Operator){f:Int->Int->R Rv}{C:Int->Int->Prop}{g:Int->Int->Int}(hop:OpR X (binaryOp op) (rI C λi j=>.int (g i j)))(hf:∀r s,qaV op r s=int2 r s f)(hw:∀i j F,Wk (f i j) F->C i j/\F (.val (.int (g i j)))) :
  OpR X (binaryOp op) (qnu U K Gv Hv op):=by
 rintro pins st Z' H x y v u Q I rx ry ⟨N,Z,G,Hb,Hc,r,s,er,h1,h2,h⟩;rw[hf]at h;let(i,j,e1,e2,h):=qaZ h;let(hc,h):=hw i j _ h;exact hop pins st Z' H x y v u Q I rx ry ⟨i,j,h1.int e1,h2.int e2,hc,h _ G H (Po.refl er) (by simp![RvR,Rep])⟩
def qn6{f:Value->Value->Sem Value}{g:Int->Int->V}(h:OpR X f (rI0 g)):OpR X f (rI (λ_ _=>True) g):=λpins st Z' H x y v u Q I rx ry ⟨i,j,e1,e2,_,q⟩=>h pins st Z' H x y v u Q I rx ry ⟨i,j,e1,e2,q⟩
theorem qla:OpR X (binaryOp .Add) (qnu U K Gv Hv .Add):=by
 rintro pins st Z' H x y v u Q I rx ry ⟨N,Z,G,Hb,Hc,r,s,er,h1,h2,h⟩;have h:Wk (qn1 r s) _:=h;unfold qn1 at h
 have cat:Wk (match r.plain?,s.plain? with
   |some l,some m=>if l.length+m.length<=sizeLine then R.ok (Rv.tmp (l++m)) else .no
   |_,_=>.no) (λz=>∀v G' H',Po U K Gv Hv Z G H N G' H' N->RvR U K Hv H G' H' N Z z v->Q v H')->wpAny (model X.prog X.w) X.A (binaryOp .Add v u) (EP X pins Z' Q) X.xe st:=λh=>by
  cases e1:r.plain? with
  |none=>rw[e1]at h;exact h.elim
  |some l=>
   cases e2:s.plain? with
   |none=>rw[e1,e2]at h;exact h.elim
   |some m=>rw[e1,e2]at h;let(hz,h):=Wk.iff h;let(a,xs,q1,q2,q3):=h1.plain er e1;let(b,ys,p1,p2,p3):=h2.plain er e2;refine qkI pins st Z' H x y v u Q I rx ry ⟨a,b,xs,ys,q1,p1,q2,p2,by rw[<-q3.len,<-p3.len];exact hz,λp hp=>?_⟩;let(z1,z2):=er.newList hp (q3.app p3);exact h _ _ _ z1 z2
 have txt:Wk (match r.str?,s.str? with
   |some a,some b=>if a.length+b.length<=sizeLine then R.ok (Rv.val (.str (a++b))) else .no
   |_,_=>match r.plain?,s.plain? with
    |some l,some m=>if l.length+m.length<=sizeLine then R.ok (Rv.tmp (l++m)) else .no
    |_,_=>.no) (λz=>∀v G' H',Po U K Gv Hv Z G H N G' H' N->RvR U K Hv H G' H' N Z z v->Q v H')->wpAny (model X.prog X.w) X.A (binaryOp .Add v u) (EP X pins Z' Q) X.xe st:=λh=>by
  cases e1:r.str? with
  |none=>rw[e1]at h;exact cat h
  |some l=>
   cases e2:s.str? with
   |none=>rw[e1,e2]at h;exact cat h
   |some m=>rw[e1,e2]at h;let(hz,h):=Wk.iff h;exact qcx pins st Z' H x y v u Q I rx ry ⟨l,m,h1.str e1,h2.str e2,hz,h _ G H (Po.refl er) (by simp![RvR,Rep])⟩
 cases e1:r.int? with
 |none=>rw[e1]at h;exact txt h
 |some i=>
  cases e2:s.int? with
  |none=>rw[e1,e2]at h;exact txt h
  |some j=>rw[e1,e2]at h;exact qks pins st Z' H x y v u Q I rx ry ⟨i,j,h1.int e1,h2.int e2,h _ G H (Po.refl er) (by simp![RvR,Rep])⟩
def qiP{i j:Int}(h:qd7 i j=true):qnm i j:=by unfold qd7 at h;simp![Bool.or_eq_true,Bool.and_eq_true,decide_eq_true_eq]at h;exact h
theorem qlb:OpR X (binaryOp .Mult) (qnu U K Gv Hv .Mult):=by
 rintro pins st Z' H x y v u Q I rx ry ⟨N,Z,G,Hb,Hc,r,s,er,h1,h2,h⟩;have h:Wk (qn2 r s) _:=h;unfold qn2 at h
 cases e2:s.int? with
 |none=>cases e1:r.int?<;>rw[e1,e2]at h<;>exact h.elim
 |some j=>
  cases e1:r.int? with
  |some i=>rw[e1,e2]at h;let(hm,h):=Wk.iff h;exact qku pins st Z' H x y v u Q I rx ry ⟨i,j,h1.int e1,h2.int e2,qiP hm,h _ G H (Po.refl er) (by simp![RvR,Rep])⟩
  |none=>rw[e1,e2]at h;exact h.elim
theorem qlc(op:Operator):OpR X (binaryOp op) (qnu U K Gv Hv op):=by
 cases op with
 |Add=>exact qla
 |Sub=>exact QH .Sub (qn6 qkt) (λ_ _=>rfl) λi j F h=>⟨trivial,h⟩
 |Mult=>exact qlb
 |FloorDiv=>exact QH .FloorDiv qh1 (λ_ _=>rfl) λi j F h=>{(Wk.iff h).1,(Wk.iff h).2}
 |Mod=>exact QH .Mod qkv (λ_ _=>rfl) λi j F h=>{(Wk.iff h).1,(Wk.iff h).2}
 |Pow=>exact QH .Pow qkw (λ_ _=>rfl) λi j F h=>{(Wk.iff h).1,(Wk.iff h).2}
 |_=>exactλ_ _ _ _ _ _ _ _ _ _ _ _ h=>Exists.elim h λ_ h=>Exists.elim h λ_ h=>Exists.elim h λ_ h=>Exists.elim h λ_ h=>Exists.elim h λ_ h=>Exists.elim h λ_ h=>Exists.elim h λ_ h=>h.2.2.2.elim
theorem QI(op:CmpOp){g:Int->Int->Bool}(hop:OpR X (compareOp op) (rI0 λi j=>.bl (g i j)))(hf:∀r s,Yh op r s=qj5 r s g):OpR X (compareOp op) (qn5 U K Gv Hv op):=by
 rintro pins st Z' H x y v u Q I rx ry ⟨N,Z,G,Hb,Hc,r,s,b,er,h1,h2,h,q⟩;rw[hf]at h;unfold qj5 at h
 cases e1:r.int? with
 |none=>rw[e1]at h;cases h
 |some i=>
  cases e2:s.int? with
  |none=>rw[e1,e2]at h;cases h
  |some j=>rw[e1,e2]at h;cases h;exact hop pins st Z' H x y v u Q I rx ry ⟨i,j,h1.int e1,h2.int e2,q⟩
theorem qhk{x y:D}{b:Bool}(h:eqD x y=some b):∃p q,toP x=some p/\toP y=some q/\SeqAt.shaped p=true/\SeqAt.shaped q=true/\b=PyData.eqv p q:=by
 unfold eqD at h
 cases e1:toP x with
 |none=>rw[e1]at h;cases h
 |some p=>
  cases e2:toP y with
  |none=>rw[e1,e2]at h;cases h
  |some q=>
   rw[e1,e2]at h;dsimp only at h
   by_cases hs:(SeqAt.shaped p&&SeqAt.shaped q)=true
   ·rw[if_pos hs]at h;cases h;rw[Bool.and_eq_true]at hs;exact⟨p,q,rfl,rfl,hs.1,hs.2,rfl⟩
   ·rw[if_neg hs]at h;cases h
theorem qhl(gd:Gd U K k X L)(neg:Bool)(op:CmpOp)(hs:OpR X (compareOp op) (λx y H Q=>∃i j,x=.str i/\y=.str j/\Q (.bl (if neg then !qj6 i j else qj6 i j)) H))(hl:OpR X (compareOp op) (rIn X.K neg))
  (hf:∀r s,Yh op r s=(qfv r s).map λb=>if neg then !b else b):OpR X (compareOp op) (qn5 U K Gv Hv op):=by
 rintro pins st Z' H x y v u Q I rx ry ⟨N,Z,G,Hb,Hc,r,s,b,er,h1,h2,h,q⟩;rw[hf]at h;let(b',hb',rfl):=Option.map_eq_some_iff.mp h
 replace h:=hb'
 unfold qfv at h
 have sq:(seqD s).bind (inD r.data)=some b'->wpAny (model X.prog X.w) X.A (compareOp op v u) (EP X pins Z' Q) X.xe st:=λh=>by
  let(l,e1,e2):=Option.bind_eq_some_iff.mp h;unfold inD at e2
  by_cases hc:(jy r.data&&l.all jy)=true
  ·rw[if_pos hc]at e2;cases e2;rw[Bool.and_eq_true]at hc;let(a,xs,p1,p2,p3):=h2.seq er e1;let(f1,f2):=qiO h1 hc.1;let(f3,f4):=Z0 p3 hc.2;refine hl pins st Z' H x y v u Q I rx ry ⟨a,xs,p1,by rw[gd.hK];exact p2,f2,f4,?_⟩;rw[f1,f3];exact q
  ·rw[if_neg hc]at e2;cases e2
 cases e1:r.str? with
 |none=>rw[e1]at h;exact sq h
 |some i=>
  cases e2:s.str? with
  |none=>rw[e1,e2]at h;exact sq h
  |some j=>rw[e1,e2]at h;cases h;exact hs pins st Z' H x y v u Q I rx ry ⟨i,j,h1.str e1,h2.str e2,q⟩
theorem qed{G:Hp}:∀{l:List D} {xs:List V} {ns:List Int},qo U G l xs->qaW l=some ns->xs=ns.map V.int
 |[],xs,ns,r,h=>by simp![qo]at r;subst r;cases h;rfl
 | d::l,xs,ns,r,h=>by
  simp![qo]at r;let(x,us,rfl,r1,r2):=r
  cases d with
  |int i=>unfold qaW at h;let(ms,e1,rfl):=Option.map_eq_some_iff.mp h;simp![Rep]at r1;rw[r1,qed r2 e1];rfl
  |_=>cases h
theorem qhm(gd:Gd U K k X L)(op:CmpOp):OpR X (compareOp op) (qn5 U K Gv Hv op):=by
 have hu:X.A.units+64 < cLine:=by have:=gd.room.un;lia
 cases op with
 |Eq=>rintro pins st Z' H x y v u Q I rx ry ⟨N,Z,G,Hb,Hc,r,s,b,er,h1,h2,h,q⟩;let(p,p',e1,e2,e3,e4,rfl):=qhk h;exact qkL hu pins st Z' H x y v u Q I rx ry ⟨p,p',by rw[gd.hK];exact h1.dv er e1,by rw[gd.hK];exact h2.dv er e2,e3,e4,q⟩
 |NotEq=>rintro pins st Z' H x y v u Q I rx ry ⟨N,Z,G,Hb,Hc,r,s,b,er,h1,h2,h,q⟩;let(b',h',rfl):=Option.map_eq_some_iff.mp h;let(p,p',e1,e2,e3,e4,rfl):=qhk h';exact qkM hu pins st Z' H x y v u Q I rx ry ⟨p,p',by rw[gd.hK];exact h1.dv er e1,by rw[gd.hK];exact h2.dv er e2,e3,e4,q⟩
 |Lt=>exact QI .Lt qnM λ_ _=>rfl
 |LtE=>exact QI .LtE qnN λ_ _=>rfl
 |Gt=>exact QI .Gt qnO λ_ _=>rfl
 |GtE=>exact QI .GtE qnP λ_ _=>rfl
 |Is=>
  rintro pins st Z' H x y v u Q I rx ry ⟨N,Z,G,Hb,Hc,r,s,b,er,h1,h2,h,q⟩;have h:(if s.non?=true then some r.non? else none)=some b:=h
  by_cases hn:s.non?=true
  ·rw[if_pos hn]at h;cases h;refine qkx pins st Z' H x y v u Q I rx ry ⟨of_decide_eq_true (h2.non.trans hn),?_⟩;rw[h1.non];exact q
  ·rw[if_neg hn]at h;cases h
 |IsNot=>
  rintro pins st Z' H x y v u Q I rx ry ⟨N,Z,G,Hb,Hc,r,s,b,er,h1,h2,h,q⟩;have h:(if s.non?=true then some (!r.non?) else none)=some b:=h
  by_cases hn:s.non?=true
  ·rw[if_pos hn]at h;cases h;refine qh2 pins st Z' H x y v u Q I rx ry ⟨of_decide_eq_true (h2.non.trans hn),?_⟩;rw[h1.non];exact q
  ·rw[if_neg hn]at h;cases h
 |In=>exact qhl gd false .In qdw qdE λr s=>by show qfv r s=_;cases qfv r s<;>rfl
 |NotIn=>exact qhl gd true .NotIn Zr ZE λr s=>rfl
theorem QJ{G:Hp}{x:Str}{d:D}:∀{ns:List Str} {ds:List D} {xs:List V},qo U G ds xs->(ns.zip ds).lookup x=some d->∃v,(ns.zip xs).lookup x=some v/\Rep U G d v
 |[],_,_,_,h=>by simp at h
 | n::ns,[],_,_,h=>by simp at h
 | n::ns,e::ds,xs,r,h=>by
  simp![qo]at r;let(v,us,rfl,r1,r2):=r;rw[List.zip_cons_cons,List.lookup_cons]at h
  cases hx:(x == n) with
  |true=>rw[hx]at h;cases h;exact{v,by rw[List.zip_cons_cons,List.lookup_cons,hx],r1}
  |false=>rw[hx]at h;let(u,z1,z2):=QJ r2 h;exact{u,by rw[List.zip_cons_cons,List.lookup_cons,hx];exact z1,z2}
theorem qld(gd:Gd U K k X L):IxR X (qp0 U K Gv Hv):=by
 rintro value slice pins st Z' H x y v u Q I rx ry ⟨N,Z,G,Hb,Hc,r,s,er,h1,h2,h⟩ hs;unfold idxD at h
 cases e1:s.int? with
 |none=>rw[e1]at h;exact False.elim h
 |some i=>
  rw[e1]at h;dsimp only at h
  cases e2:r.str? with
  |some z=>
   rw[e2]at h;dsimp only at h;let(hz,h):=Wk.iff h
   cases e3:atI z.cps.toList i with
   |none=>rw[e3]at h;exact h.elim
   |some c=>rw[e3]at h;exact qkE value slice pins st Z' H x y v u Q I rx ry ⟨z,i,c,h1.str e2,h2.int e1,hz,e3,h _ G H (Po.refl er) (by simp![RvR,Rep])⟩ hs
  |none=>
   rw[e2]at h;dsimp only at h
   cases e3:seqD r with
   |none=>rw[e3]at h;exact h.elim
   |some l=>
    rw[e3]at h;dsimp only at h
    cases e4:atI l i with
    |none=>rw[e4]at h;exact h.elim
    |some d=>
     rw[e4]at h;let(a,xs,p1,p2,p3):=h1.seq er e3;let(w,p4,p5):=qf4 p3 e4;rcases p2 with p2|p2
     ·exact qid value slice pins st Z' H x y v u Q I rx ry ⟨a,xs,i,w,p1,h2.int e1,by rw[gd.hK];exact p2,p4,h w G H (Po.refl er) p5⟩ hs
     ·exact qkD value slice pins st Z' H x y v u Q I rx ry ⟨a,xs,i,w,p1,h2.int e1,by rw[gd.hK];exact p2,p4,h w G H (Po.refl er) p5⟩ hs
theorem qle(gd:Gd U K k X L):L2.SlR X (qp1 U K Gv Hv):=by
 rintro pins st Z' H x v vl vu lo hi sl Q I rx hs pl pu ⟨N,Z,G,Hb,r,er,h1,h⟩;unfold sliceD at h
 cases e2:r.str? with
 |some z=>rw[e2]at h;dsimp only at h;let(hz,h):=Wk.iff h;exact qkW pins st Z' H x v vl vu lo hi sl Q I rx hs pl pu ⟨z,h1.str e2,hz,h _ G H (Po.refl er) (by simp![RvR,Rep])⟩
 |none=>rw[e2]at h;dsimp only at h;let(l,e1,h):=Wk.of (Wk.th h);let(a,xs,p1,p2,p3):=h1.list er e1;refine qie pins st Z' H x v vl vu lo hi sl Q I rx hs pl pu ⟨a,xs,p1,by rw[gd.hK];exact p2,λp hp=>?_⟩;let(z1,z2):=er.newList hp (qf5 (lo:=lo) (hi:=hi) p3);exact h _ _ _ z1 z2
theorem qlf(gd:Gd U K k X L):qW X (.builtin "len") (rC1 U K Gv Hv lenD):=by
 rintro pins st Z' H xs us Q I rs ⟨N,Z,G,Hb,r,x,hx,er,h1,h⟩;unfold lenD at h
 cases e2:r.str? with
 |some z=>rw[e2]at h;dsimp only at h;let(hz,h):=Wk.iff h;exact ZF pins st Z' H xs us Q I rs ⟨z,by rw[hx,h1.str e2],hz,h _ G H (Po.refl er) (by simp![RvR,Rep])⟩
 |none=>
  rw[e2]at h;dsimp only at h
  cases e3:seqD r with
  |none=>rw[e3]at h;exact h.elim
  |some l=>rw[e3]at h;let(a,ys,p1,p2,p3):=h1.seq er e3;refine JH pins st Z' H xs us Q I rs ⟨a,ys,by rw[hx,p1],by rw[gd.hK];exact p2,?_⟩;rw[<-p3.len];exact h _ G H (Po.refl er) (by simp![RvR,Rep])
theorem qiQ(gd:Gd U K k X L):qW X (.type "list") (rC1 U K Gv Hv listD):=by
 rintro pins st Z' H xs us Q I rs ⟨N,Z,G,Hb,r,x,hx,er,h1,h⟩;unfold listD at h
 cases e3:seqD r with
 |none=>rw[e3]at h;exact h.elim
 |some l=>rw[e3]at h;let(a,ys,p1,p2,p3):=h1.seq er e3;refine j0 pins st Z' H xs us Q I rs ⟨a,ys,by rw[hx,p1],by rw[gd.hK];exact p2,λp hp=>?_⟩;let(z1,z2):=er.newList hp p3;exact h _ _ _ z1 z2
def qcP(a b c:Int×Int)(h1:Zm a b=true)(h2:Zm b c=true):Zm a c=true:=by
 simp![Zm,Bool.or_eq_true,Bool.and_eq_true,decide_eq_true_eq]at *
 lia
def qcQ(a b:Int×Int):(Zm a b||Zm b a)=true:=by
 simp![Zm,Bool.or_eq_true,Bool.and_eq_true,decide_eq_true_eq]at *
 lia
def qf6{ps qs:List (Int×Int)}(p:qs.Perm ps)(s:qs.Pairwise qdL):y1 ps=qs:=by
 have s1:(y1 ps).Pairwise λa b=>Zm a b=true:=List.pairwise_mergeSort qcP qcQ ps
 have s2:qs.Pairwise λa b=>Zm a b=true:=s.imp λ{a b} h=>by simp![Zm,Bool.or_eq_true,Bool.and_eq_true,decide_eq_true_eq];exact h
 refine List.Perm.eq_of_pairwise (λa b _ _ h1 h2=>?_) s1 s2 ((List.mergeSort_perm ps Zm).trans p.symm);simp![Zm,Bool.or_eq_true,Bool.and_eq_true,decide_eq_true_eq]at h1 h2;exact Prod.ext (1:) (1:)
theorem qbL{G:Hp}:∀{l:List D} {xs:List V} {ps:List (Int×Int)},qo U G l xs->qhg l=some ps->Paired (λx (p:Int×Int)=>∃a,x=V.ref a/\G a=some (.tup [.int p.1,.int p.2])) xs ps
 |[],xs,ps,r,h=>by simp![qo]at r;subst r;cases h;exact .nil
 | d::l,xs,ps,r,h=>by
  simp![qo]at r;let(x,us,rfl,r1,r2):=r;unfold qhg at h
  cases e1:prD d with
  |none=>rw[e1]at h;cases h
  |some p=>
   cases e2:qhg l with
   |none=>rw[e1,e2]at h;cases h
   |some qs=>
    rw[e1,e2]at h;cases h;refine .cons ?_ (qbL r2 e2);unfold prD at e1
    split at e1
    ·cases e1;simp![Rep,qo]at r1;let(a,ys,rfl,h1,x1,z1,rfl,rfl,x2,z2,rfl,rfl,rfl):=r1;exact⟨a,rfl,h1⟩
    ·cases e1
theorem Paired.memL{α M:Type}{R:α->M->Prop}:∀{l:List α} {m:List M},Paired R l m->∀a∈l,∃b,R a b
 |_,_,.nil,a,h=>by cases h
 |_,_,.cons r rs,a,h=>by
  cases h with
  |head=>exact{_,r}
  |tail _ h=>exact Paired.memL rs a h
theorem qcR{G H:Hp}(sub:qp G H){xs:List V}(f:∀x∈xs,∃p:Int×Int,∃a,x=V.ref a/\G a=some (.tup [.int p.1,.int p.2])){ys:List V}{qs:List (Int×Int)}(hm:∀y∈ys,y∈xs)(h:Paired (P2 K H) ys qs):qo U G (qs.map pD) ys:=by
 induction h with
 |nil=>exact .nil
 |cons r rs ih=>refine .cons ?_ (ih λz hz=>hm z (List.mem_cons_of_mem _ hz));let(p,a,rfl,ga):=f _ (hm _ (List.mem_cons_self ..));let(b,eb,hb):=r;cases eb;rw[sub _ _ ga]at hb;rw[hb]at ga;simp![pD,Rep,qo];exact{a,_,rfl,ga,_,_,rfl,rfl,_,_,rfl,rfl,rfl}
theorem qee(gd:Gd U K k X L):qW X (.builtin "sorted") (rC1 U K Gv Hv QC):=by
 rintro pins st Z' H xs us Q I rs ⟨N,Z,G,Hb,r,x,hx,er,h1,h⟩;unfold QC at h
 cases e3:r.list? with
 |none=>rw[e3]at h;exact h.elim
 |some l=>
  rw[e3]at h;dsimp only at h
  cases e4:qhg l with
  |none=>rw[e4]at h;exact h.elim
  |some ps=>
   rw[e4]at h;dsimp only at h;let(h64,h):=Wk.iff h;let(a,ys,p1,p2,p3):=h1.list er e3;have pr:=qbL p3 e4
   have hlen:ys.length < 5:=by
    have:∀{xs:List V} {ps:List (Int×Int)} {R:V->Int×Int->Prop},Paired R xs ps->xs.length=ps.length:=by
     intro xs ps R q
     induction q with
     |nil=>rfl
     |cons _ _ ih=>simp[ih]
    rw[this pr];exact h64
   have pr2:Paired (P2 X.K H) ys ps:=by
    have:∀{ys:List V} {ps:List (Int×Int)},Paired (λx (p:Int×Int)=>∃a,x=V.ref a/\G a=some (.tup [.int p.1,.int p.2])) ys ps->Paired (P2 X.K H) ys ps:=by
     intro ys ps q
     induction q with
     |nil=>exact .nil
     |cons r rs ih=>let(a,e,ga):=r;exact .cons ⟨a,e,er.sub _ _ ga⟩ ih
    exact this pr
   refine ZV pins st Z' H xs us Q I rs ⟨a,ys,ps,by rw[hx,p1],by rw[gd.hK];exact p2,Nat.le_of_lt_succ hlen,pr2,λp zs qs hp z1 z2 z3 z4=>?_⟩;have e5:y1 ps=qs:=qf6 z3 z4
   have rr:qo U G ((y1 ps).map pD) zs:=by rw[e5];refine qcR (K:=X.K) er.sub (λx hx=>?_) (λy hy=>z2.mem_iff.mp hy) z1;let(p,hp):=Paired.memL pr x hx;exact⟨p,hp⟩
   let(w1,w2):=er.newList hp rr;exact h _ _ _ w1 w2
theorem qlg(gd:Gd U K k X L):qW X (.builtin "sum") (rC1 U K Gv Hv qnp):=by
 rintro pins st Z' H xs us Q I rs ⟨N,Z,G,Hb,r,x,hx,er,h1,h⟩;unfold qnp at h
 cases e3:r.list? with
 |none=>rw[e3]at h;exact h.elim
 |some l=>
  rw[e3]at h;dsimp only at h
  cases e4:qaW l with
  |none=>rw[e4]at h;exact h.elim
  |some ns=>rw[e4]at h;let(a,ys,p1,p2,p3):=h1.list er e3;rw[qed p3 e4]at p2;exact qdS gd.calm pins st Z' H xs us Q I rs ⟨a,ns,by rw[hx,p1],by rw[gd.hK];exact p2,h _ G H (Po.refl er) (by simp![RvR,Rep])⟩
theorem qef{G:Hp}:∀{l:List D} {xs:List V} {ns:List Bool},qo U G l xs->qfZ l=some ns->xs=ns.map V.bl
 |[],xs,ns,r,h=>by simp![qo]at r;subst r;cases h;rfl
 | d::l,xs,ns,r,h=>by
  simp![qo]at r;let(x,us,rfl,r1,r2):=r
  cases d with
  |bl i=>unfold qfZ at h;let(ms,e1,rfl):=Option.map_eq_some_iff.mp h;simp![Rep]at r1;rw[r1,qef r2 e1];rfl
  |_=>cases h
theorem qlh(gd:Gd U K k X L):qW X (.builtin "all") (rC1 U K Gv Hv qk7):=by
 rintro pins st Z' H xs us Q I rs ⟨N,Z,G,Hb,r,x,hx,er,h1,h⟩;unfold qk7 at h
 cases e3:r.list? with
 |none=>rw[e3]at h;exact h.elim
 |some l=>
  rw[e3]at h;dsimp only at h
  cases e4:qfZ l with
  |none=>rw[e4]at h;exact h.elim
  |some ns=>rw[e4]at h;let(a,ys,p1,p2,p3):=h1.list er e3;rw[qef p3 e4]at p2;exact qdP gd.calm pins st Z' H xs us Q I rs ⟨a,ns,by rw[hx,p1],by rw[gd.hK];exact p2,h _ G H (Po.refl er) (by simp![RvR,Rep])⟩
theorem qli(gd:Gd U K k X L):qW X (.builtin "any") (rC1 U K Gv Hv qk8):=by
 rintro pins st Z' H xs us Q I rs ⟨N,Z,G,Hb,r,x,hx,er,h1,h⟩;unfold qk8 at h
 cases e3:r.list? with
 |none=>rw[e3]at h;exact h.elim
 |some l=>
  rw[e3]at h;dsimp only at h
  cases e4:qfZ l with
  |none=>rw[e4]at h;exact h.elim
  |some ns=>rw[e4]at h;let(a,ys,p1,p2,p3):=h1.list er e3;rw[qef p3 e4]at p2;exact qdQ gd.calm pins st Z' H xs us Q I rs ⟨a,ns,by rw[hx,p1],by rw[gd.hK];exact p2,h _ G H (Po.refl er) (by simp![RvR,Rep])⟩
theorem qlj:qW X (.type "str") (rC1 U K Gv Hv strD):=by
 rintro pins st Z' H xs us Q I rs ⟨N,Z,G,Hb,r,x,hx,er,h1,h⟩;unfold strD at h
 cases e3:r.int? with
 |none=>rw[e3]at h;exact h.elim
 |some i=>rw[e3]at h;let(hz,h):=Wk.iff h;have e:=h1.int e3;subst e hx;let(u,rfl,rx):=yU rs;let(t,rfl):=rx;exact PySem.P.str_of_int hz ⟨.str _,H,I.tok _,⟨_,rfl⟩,h _ G H (Po.refl er) (by simp![RvR,Rep])⟩
theorem qf7(gd:Gd U K k X L):qW X (.type "tuple") (rC1 U K Gv Hv tupD):=by
 rintro pins st Z' H xs us Q I rs ⟨N,Z,G,Hb,r,x,hx,er,h1,h⟩;unfold tupD at h
 cases e3:r.list? with
 |none=>rw[e3]at h;exact h.elim
 |some l=>rw[e3]at h;let(a,ys,p1,p2,p3):=h1.list er e3;refine yW pins st Z' H xs us Q I rs ⟨a,ys,by rw[hx,p1],.inl ⟨by rw[gd.hK];exact p2,λp hp=>?_⟩⟩;have po:=Po.lay (o:=.tup ys) er hp;exact h _ _ _ po (by simp![RvR,Rep];exact{p,ys,rfl,qg,p3.same po.gs})
theorem qbM{G:Hp}:∀{l:List D} {xs:List V} {ps:List (Str×Int)},qo U G l xs->qdi l=some ps->Paired (λx (p:Str×Int)=>∃a,x=V.ref a/\G a=some (.tup [.str p.1,.int p.2])) xs ps
 |[],xs,ps,r,h=>by simp![qo]at r;subst r;cases h;exact .nil
 | d::l,xs,ps,r,h=>by
  simp![qo]at r;let(x,us,rfl,r1,r2):=r;unfold qdi at h
  cases e1:kvD d with
  |none=>rw[e1]at h;cases h
  |some p=>
   cases e2:qdi l with
   |none=>rw[e1,e2]at h;cases h
   |some qs=>
    rw[e1,e2]at h;cases h;refine .cons ?_ (qbM r2 e2);unfold kvD at e1
    split at e1
    ·cases e1;simp![Rep,qo]at r1;let(a,ys,rfl,h1,x1,z1,rfl,rfl,x2,z2,rfl,rfl,rfl):=r1;exact⟨a,rfl,h1⟩
    ·cases e1
theorem qf8{n:Int}{x y r:Rv}(h:qaX n x y=.ok r):∃l kvs,x.list?=some l/\qdi l=some kvs/\(kvs.map (·.1)).Nodup/\((∃k,y.str?=some k/\r=.val (.int ((qiI kvs k).getD n)))\/(y.non?=true/\r=.val (.int n))):=by
 unfold qaX at h
 cases e1:x.list? with
 |none=>rw[e1]at h;cases h
 |some l=>
  cases e3:qdi l with
  |none=>cases e2:y.str?<;>rw[e1,e2]at h<;>dsimp only at h<;>rw[e3]at h<;>cases h
  |some kvs=>
   cases e2:y.str? with
   |none=>
    rw[e1,e2]at h;dsimp only at h;rw[e3]at h;dsimp only at h
    split at h
    ·rename_i nd;cases h;exact{l,kvs,rfl,e3,nd.2,.inr ⟨nd.1,rfl⟩}
    ·cases h
   |some k=>
    rw[e1,e2]at h;dsimp only at h;rw[e3]at h;dsimp only at h
    split at h
    ·rename_i nd;cases h;exact{l,kvs,rfl,e3,nd,.inl ⟨k,rfl,rfl⟩}
    ·cases h
theorem qeg(k:Str):∀kvs:List (Str×Int),qdT (kvs.map kvV) (.inr k)=(qiI kvs k).map V.int
 |[]=>rfl
 | kv::l=>by
  have ih:=qeg k l;unfold qiI at ih ⊢
  by_cases e:kv.1=k
  ·rw[List.map_cons,Qy (show(kvV kv).1=.inr k by rw[<-e];rfl),List.find?_cons,show decide (kv.1=k)=true from decide_eq_true e];rfl
  ·rw[List.map_cons,Qz (show ¬ (kvV kv).1=.inr k fromλz=>e (by cases z;rfl)),List.find?_cons,show decide (kv.1=k)=false from decide_eq_false e];exact ih
theorem qlk:qW X (.type "int") (rC1 U K Gv Hv intD):=by
 rintro pins st Z' H xs us Q I rs ⟨N,Z,G,Hb,r,x,hx,er,h1,h⟩;unfold intD at h
 cases e3:r.int? with
 |some i=>rw[e3]at h;exact Zt pins st Z' H xs us Q I rs (.inl ⟨i,by rw[hx,h1.int e3],h _ G H (Po.refl er) (by simp![RvR,Rep])⟩)
 |none=>
  rw[e3]at h;dsimp only at h
  cases e4:r.bl? with
  |none=>rw[e4]at h;exact False.elim h
  |some b=>rw[e4]at h;exact Zt pins st Z' H xs us Q I rs (.inr ⟨b,by rw[hx,h1.bl e4],h _ G H (Po.refl er) (by simp![RvR,Rep])⟩)
def qll(gd:Gd U K k X L):qW X (.builtin "max") (rC2 U K Gv Hv maxD):=by rintro pins st Z' H xs us Q I rs ⟨N,Z,G,Hb,Hc,r,s,x,y,hx,er,h1,h2,h⟩;let(i,j,e1,e2,h):=qaZ h;exact qdx gd.calm pins st Z' H xs us Q I rs ⟨i,j,by rw[hx,h1.int e1,h2.int e2],h _ G H (Po.refl er) (by simp![RvR,Rep])⟩
def qlm(gd:Gd U K k X L):qW X (.builtin "min") (rC2 U K Gv Hv minD):=by rintro pins st Z' H xs us Q I rs ⟨N,Z,G,Hb,Hc,r,s,x,y,hx,er,h1,h2,h⟩;let(i,j,e1,e2,h):=qaZ h;exact qdy gd.calm pins st Z' H xs us Q I rs ⟨i,j,by rw[hx,h1.int e1,h2.int e2],h _ G H (Po.refl er) (by simp![RvR,Rep])⟩
theorem qf9(gd:Gd U K k X L){G H Hb:Hp}{N:Env}{Z:St}{r:Rv}{x:V}{b:Bool}(er:ER U K Gv Hv G H N Z)(h:RvR U K Hv Hb G H N Z r x)(e:truthD r=some b):qnn X.K x H b:=by
 have sq:∀{r:Rv},RvR U K Hv Hb G H N Z r x->(seqD r).map (λl=>!l.isEmpty)=some b->qnn X.K x H b:=λ{r} h e=>by
  let(l,e1,rfl):=Option.map_eq_some_iff.mp e;let(a,xs,rfl,p2,p3):=h.seq er e1
  have hl:(!l.isEmpty) = !xs.isEmpty:=by
   have:=p3.len
   cases l<;>cases xs<;>simp_all
  rw[hl,gd.hK];rcases p2 with p2|p2
  ·exact .inl ⟨xs,p2,rfl⟩
  ·exact .inr (.inl ⟨xs,p2,rfl⟩)
 cases r with
 |val d=>
  cases d with
  |non=>simp![RvR,Rep]at h;subst h;simp![truthD]at e;cases e;exact rfl
  |bl c=>simp![RvR,Rep]at h;subst h;simp![truthD]at e;cases e;exact rfl
  |int c=>simp![RvR,Rep]at h;subst h;simp![truthD]at e;cases e;exact rfl
  |str c=>
   simp![RvR,Rep]at h;subst h;simp![truthD]at e
   by_cases hz:c.length<=sizeLine
   ·rw[if_pos hz]at e;cases e;exact⟨hz,rfl⟩
   ·rw[if_neg hz]at e;cases e
  |lst l=>exact sq h e
  |tup l=>exact sq h e
  |ins c ns l=>exact sq h e
  |exc c ns l=>exact sq h e
  |dct ns l=>exact sq h e
 |tmp l=>exact sq h e
 |cell l=>exact sq h e
 |scr l=>exact sq h e
end
open PySem.Spec PyProof.Rows
structure All(U:KC)(K:Frag)(k:Nat)(X:Cx)(L:Ct)(m:Nat):Prop where
 r:∀Gv Hv e x,cE m L e=some x->PE X e (tR U K Gv Hv (iR L.k x))
 e:∀Gv Hv e x,cX m L e=some x->PE X e (tE U K Gv Hv (jZ x (iR L.k x)))
 t:∀Gv Hv e x,cT m L e=some x->PT X e (tT U K Gv Hv (iT L.k x))
 es:∀Gv Hv e x,cEs m L e=some x->PA X e (tEs U K Gv Hv (iEs L.k x))
 as:∀Gv Hv e x,cAs m L e=some x->PA X e (tAs U K Gv Hv (iAs L.k x))
 o:∀Gv Hv e x,cO m L e=some x->PO X e (tO U K Gv Hv (iO L.k x))
 f:∀Gv Hv e x,cF m L e=some x->PIf X e (tT U K Gv Hv (iF L.k x))
 l:∀Gv Hv e x,cL m L e=some x->PE X e (tL U K Gv Hv (y2 x (iR L.k x)))
 i:∀Gv Hv tg e x,cI m L (qf0 tg) e=some x->PI X tg e (tI U K Gv Hv (iI L.k x))
section
variable{U:KC}{K:Frag}{Gv Hv:Hp}{k m:Nat}{X:Cx}{L:Ct}{x:E}
def qp2:All U K k X L 0:={ r:=(λ_ _ _ _ h=>nomatch h),e:=(λ_ _ _ _ h=>nomatch h),t:=(λ_ _ _ _ h=>nomatch h),es:=(λ_ _ _ _ h=>nomatch h),as:=(λ_ _ _ _ h=>nomatch h),o:=(λ_ _ _ _ h=>nomatch h),f:=(λ_ _ _ _ h=>nomatch h),l:=(λ_ _ _ _ h=>nomatch h),i:=(λ_ _ _ _ _ h=>nomatch h) }
theorem qbN(c:Const)(j:Nat)(pos:Pos)(h:qhi c=some x):PE X (.Constant c j pos) (tR U K Gv Hv (iR L.k x)):=by
 cases c with
 |none=>cases h;exact PE.imp qkf λZ H Q ⟨N,G,er,h⟩=>h _ G H (Po.refl er) (by simp![RvR,Rep])
 |bool b=>cases h;exact PE.imp qnA λZ H Q ⟨N,G,er,h⟩=>h _ G H (Po.refl er) (by simp![RvR,Rep])
 |int b=>cases h;exact PE.imp Zo λZ H Q ⟨N,G,er,h⟩=>h _ G H (Po.refl er) (by simp![RvR,Rep])
 |str b=>cases h;exact PE.imp qkg λZ H Q ⟨N,G,er,h⟩=>h _ G H (Po.refl er) (by simp![RvR,Rep])
 |_=>cases h
def qga(A:All U K k X L m)(a b:Expr)(op:Operator)(pos:Pos)(h:cE (m+1) L (.BinOp a op b pos)=some x):PE X (.BinOp a op b pos) (tR U K Gv Hv (iR L.k x)):=by let(a',b',h1,h2,rfl):=qk h;refine PE.imp (qnL (qlc (U:=U) (K:=K) (Gv:=Gv) (Hv:=Hv) op) (A.r Gv Hv _ _ h1) (A.r Gv Hv _ _ h2)) λZ H Q hq1=>?_;let(N,G,er,h):=hq1;refine{N,G,er,Wk.mono (Wk.th (x:=iR L.k a' N) h) λx h v G1 H1 p1 r1=>{x.2,G1,p1.er,Wk.mono (Wk.th (x:=iR L.k b' x.2) h) λy h w G2 H2 p2 r2=>?_}};exact{y.2,Z,G2,H,H1,x.1,y.1,p2.er,r1.keep p2,r2,Wk.mono (Wk.th h) λz h u G3 H3 p3 r3=>h u G3 H3 (p1.trans (p2.trans p3)) (r3.back (p1.trans p2).hs)}
theorem qln(A:All U K k X L m)(a:Expr)(pos:Pos)(h:cE (m+1) L (.UnaryOp .USub a pos)=some x):PE X (.UnaryOp .USub a pos) (tR U K Gv Hv (iR L.k x)):=by
 let(a',h1,rfl):=ql h;refine PE.imp (qkr qg5 (A.r Gv Hv _ _ h1)) λZ H Q hq1=>?_;let(N,G,er,h):=hq1;refine{N,G,er,Wk.mono (Wk.th (x:=iR L.k a' N) h) λx h v G1 H1 p1 r1=>?_};let(rv,N1):=x
 cases rv with
 |val d=>
  cases d with
  |int i=>exact{i,by simpa only[RvR,Rep] using r1,h _ G1 H1 p1 (by simp![RvR,Rep])}
  |_=>exact False.elim h
 |_=>exact False.elim h
theorem qiR(A:All U K k X L m)(a:Expr)(pos:Pos)(h:cE (m+1) L (.UnaryOp .Not a pos)=some x):PE X (.UnaryOp .Not a pos) (tR U K Gv Hv (iR L.k x)):=by
 let(a',h1,rfl):=ql h;refine PE.imp (qkk (A.r Gv Hv _ _ h1)) λZ H Q hq1=>?_;let(N,G,er,h):=hq1;refine{N,G,er,Wk.mono (Wk.th (x:=iR L.k a' N) h) λx h v G1 H1 p1 r1=>?_};let(rv,N1):=x
 cases rv with
 |val d=>
  cases d with
  |bl i=>exact{i,by simpa only[RvR,Rep] using r1,h _ G1 H1 p1 (by simp![RvR,Rep])}
  |_=>exact False.elim h
 |_=>exact False.elim h
def qiS(gd:Gd U K k X L)(A:All U K k X L m)(a b:Expr)(op:CmpOp)(pos:Pos)(h:cE (m+1) L (.Compare a [op] [b] pos)=some x):PE X (.Compare a [op] [b] pos) (tR U K Gv Hv (iR L.k x)):=by let(hm,h):=qj h;let(a',b',h1,h2,rfl):=qk h;refine PE.imp (qh3 (qhm (Gv:=Gv) (Hv:=Hv) gd op) (A.r Gv Hv _ _ h1) (A.r Gv Hv _ _ h2) (-hm:)) λZ H Q hq1=>?_;let(N,G,er,h):=hq1;refine{N,G,er,Wk.mono (Wk.th (x:=iR L.k a' N) h) λx h v G1 H1 p1 r1=>{x.2,G1,p1.er,Wk.mono (Wk.th (x:=iR L.k b' x.2) h) λy h w G2 H2 p2 r2=>?_}};let(c,e,h):=Wk.of (Wk.th h);exact{y.2,Z,G2,H,H1,x.1,y.1,c,p2.er,r1.keep p2,r2,e,h _ G2 H2 (p1.trans p2) (by simp![RvR,Rep])}
def qiT(gd:Gd U K k X L)(A:All U K k X L m)(a b:Expr)(op:CmpOp)(pos:Pos){x:T}(h:cT (m+1) L (.Compare a [op] [b] pos)=some x):PT X (.Compare a [op] [b] pos) (tT U K Gv Hv (iT L.k x)):=by let(hm,h):=qj h;let(a',b',h1,h2,rfl):=qk h;refine PT.imp (qh4 (qhm (Gv:=Gv) (Hv:=Hv) gd op) (A.r Gv Hv _ _ h1) (A.r Gv Hv _ _ h2) (-hm:)) λZ H Q hq1=>?_;let(N,G,er,h):=hq1;refine{N,G,er,Wk.mono (Wk.th (x:=iR L.k a' N) h) λx h v G1 H1 p1 r1=>{x.2,G1,p1.er,Wk.mono (Wk.th (x:=iR L.k b' x.2) h) λy h w G2 H2 p2 r2=>?_}};let(c,e,h):=Wk.of (Wk.th h);exact{y.2,Z,G2,H,H1,x.1,y.1,c,p2.er,r1.keep p2,r2,e,c,rfl,h G2 H2 (p1.trans p2)}
theorem qlo(A:All U K k X L m)(a b:Expr)(l:List Expr)(pos:Pos)(h:cE (m+1) L (.BoolOp .And (a::b::l) pos)=some x):PE X (.BoolOp .And (a::b::l) pos) (tR U K Gv Hv (iR L.k x)):=by
 let(a',b',h1,h2,rfl):=qk h;refine PE.imp (qkj (A.r Gv Hv _ _ h1) (A.r Gv Hv _ _ h2)) λZ H Q hq1=>?_;let(N,G,er,h):=hq1;refine{N,G,er,Wk.mono (Wk.th (x:=iR L.k a' N) h) λx h v G1 H1 p1 r1=>?_};let(rv,N1):=x
 cases rv with
 |val d=>
  cases d with
  |bl c=>
   refine{c,by simpa only[RvR,Rep] using r1,?_}
   cases c with
   |true=>rw[if_pos rfl];exact{N1,G1,p1.er,Wk.mono h λy h w G2 H2 p2 r2=>h w G2 H2 (p1.trans p2) (r2.back p1.hs)}
   |false=>rw[if_neg (λz=>by cases z)];exact h _ G1 H1 p1 (by simp![RvR,Rep])
  |_=>exact False.elim h
 |_=>exact False.elim h
theorem qlp(A:All U K k X L m)(c a b:Expr)(pos:Pos)(h:cE (m+1) L (.IfExp c a b pos)=some x):PE X (.IfExp c a b pos) (tR U K Gv Hv (iR L.k x)):=by
 let(c',q,h1,h2,rfl):=qk h;let(a',b',h3,h4,rfl):=qk h2;refine PE.imp (qfz (A.t Gv Hv _ _ h1) (A.r Gv Hv _ _ h3) (A.r Gv Hv _ _ h4)) λZ H Q hq1=>?_;let(N,G,er,h):=hq1;refine{N,G,er,Wk.mono (Wk.th (x:=iT L.k c' N) h) λx h G1 H1 p1=>?_};let(d,N1):=x
 cases d with
 |true=>rw[if_pos rfl];exact{N1,G1,p1.er,Wk.mono h λy h w G2 H2 p2 r2=>h w G2 H2 (p1.trans p2) (r2.back p1.hs)}
 |false=>rw[if_neg (λz=>by cases z)];exact{N1,G1,p1.er,Wk.mono h λy h w G2 H2 p2 r2=>h w G2 H2 (p1.trans p2) (r2.back p1.hs)}
def qcS{b:Expr}(h:∀lo hi st p,b≠.Slice lo hi st p):qdD b:=λo i=>by cases b<;>first|rfl|exact absurd rfl (h _ _ _ _)
theorem qo.reverse{G:Hp}:∀{l:List D} {xs:List V},qo U G l xs->qo U G l.reverse xs.reverse
 |[],xs,h=>by simp![qo]at h;subst h;exact .nil
 | d::l,xs,h=>by simp![qo]at h;let(v,r,rfl,h1,h2):=h;rw[List.reverse_cons,List.reverse_cons];exact(qo.reverse h2).snoc h1
def qiU{lo hi:Option Expr}{st:Expr}(h:qnq lo hi st=true):lo=none/\hi=none/\∃j p q,st=.UnaryOp .USub (.Constant (.int 1) j p) q:=by
 unfold qnq at h
 split at h
 ·exact{rfl,rfl,_,_,_,rfl}
 ·cases h
def qlq(gd:Gd U K k X L)(A:All U K k X L m){a:Expr}{lo hi:Option Expr}{st:Expr}(p pos:Pos)(h:oif (qnq lo hi st) ((cE m L a).map .rvs)=some x):PE X (.Subscript a (.Slice lo hi (some st) p) pos) (tR U K Gv Hv (iR L.k x)):=by let(hr,h):=qj h;let(a',h1,rfl):=ql h;let(rfl,rfl,j,p1,q1,rfl):=qiU hr;have hst:PE X (.UnaryOp .USub (.Constant (.int 1) j p1) q1) (tC (.int (-1))):=PE.imp (qkr qg5 Zo) λZ H Q h=>{1,rfl,h};refine PE.imp (qdR (A.r Gv Hv _ _ h1) qaO qaO hst) λZ H Q hq1=>?_;let(N,G,er,h):=hq1;refine{N,G,er,Wk.mono (Wk.th (x:=iR L.k a' N) h) λx h v G1 H1 p1 r1=>?_};let(l,e1,h):=Wk.of (Wk.th h);let(b,xs,rfl,q1,q2):=r1.list p1.er e1;refine{b,xs,-1,xs.reverse,rfl,by rw[gd.hK];exact q1,rfl,by decide,by simp,qfP,λp hp=>?_};let(z1,z2):=p1.er.newList hp q2.reverse;exact h _ _ _ (p1.trans z1) (z2.back p1.hs)
theorem qlr(gd:Gd U K k X L)(A:All U K k X L m)(a b:Expr)(pos:Pos)(h:cE (m+1) L (.Subscript a b pos)=some x):PE X (.Subscript a b pos) (tR U K Gv Hv (iR L.k x)):=by
 have gen:(∀lo hi st p,b≠.Slice lo hi st p)->o2 (cE m L a) (cE m L b) .idx=some x->PE X (.Subscript a b pos) (tR U K Gv Hv (iR L.k x)):=λhb h=>by let(a',b',h1,h2,rfl):=qk h;refine PE.imp (qnS (qld (Gv:=Gv) (Hv:=Hv) gd) (A.r Gv Hv _ _ h1) (A.r Gv Hv _ _ h2) (qcS hb)) λZ H Q hq1=>?_;let(N,G,er,h):=hq1;refine{N,G,er,Wk.mono (Wk.th (x:=iR L.k a' N) h) λx h v G1 H1 p1 r1=>{x.2,G1,p1.er,Wk.mono (Wk.th (x:=iR L.k b' x.2) h) λy h w G2 H2 p2 r2=>?_}};exact{y.2,Z,G2,H,H1,x.1,y.1,p2.er,r1.keep p2,r2,Wk.mono (Wk.th h) λz h u G3 H3 p3 r3=>h u G3 H3 (p1.trans (p2.trans p3)) (r3.back (p1.trans p2).hs)}
 cases b with
 |Slice lo hi st p=>
  cases st with
  |some st=>exact qlq gd A p pos h
  |none=>let(a',q,h1,h2,rfl):=qk h;let(l',u',h3,h4,rfl):=qk h2;refine PE.imp (qfJ (qle (Gv:=Gv) (Hv:=Hv) gd) (A.r Gv Hv _ _ h1) (A.o Gv Hv _ _ h3) (A.o Gv Hv _ _ h4)) λZ H Q hq1=>?_;let(N,G,er,h):=hq1;refine{N,G,er,Wk.mono (Wk.th (x:=iR L.k a' N) h) λx h v G1 H1 p1 r1=>{x.2,G1,p1.er,Wk.mono (Wk.th (x:=iO L.k l' x.2) h) λy h G2 H2 p2=>{y.2,G2,p2.er,Wk.mono (Wk.th (x:=iO L.k u' y.2) h) λz h G3 H3 p3=>?_}}};exact{z.2,Z,G3,H,x.1,p3.er,(r1.keep p2).keep p3,Wk.mono (Wk.th h) λu h w G4 H4 p4 r4=>h w G4 H4 (p1.trans (p2.trans (p3.trans p4))) (r4.back (p1.trans (p2.trans p3)).hs)}
 |_=>exact gen (λ_ _ _ _ z=>by cases z) h
def qls(A:All U K k X L m)(es:List Expr)(pos:Pos)(h:cE (m+1) L (.List es pos)=some x):PE X (.List es pos) (tR U K Gv Hv (iR L.k x)):=by let(l,h1,rfl):=ql h;refine PE.imp (qkB (A.es Gv Hv _ _ h1)) λZ H Q hq1=>?_;let(N,G,er,h):=hq1;refine{N,G,er,Wk.mono (Wk.th (x:=iEs L.k l N) h) λx h vs G1 H1 p1 r1=>?_};let(hz,h):=Wk.iff h;refine{by rw[<-r1.len];exact hz,λp hp=>?_};let(z1,z2):=p1.er.newList hp r1;exact h _ _ _ (p1.trans z1) (z2.back p1.hs)
def qlt(A:All U K k X L m)(es:List Expr)(j:Nat)(pos:Pos)(h:cE (m+1) L (.Tuple es j pos)=some x):PE X (.Tuple es j pos) (tR U K Gv Hv (iR L.k x)):=by let(l,h1,rfl):=ql h;refine PE.imp (qkA (A.es Gv Hv _ _ h1)) λZ H Q hq1=>?_;let(N,G,er,h):=hq1;refine{N,G,er,Wk.mono (Wk.th (x:=iEs L.k l N) h) λx h vs G1 H1 p1 r1=>?_};let(hz,h):=Wk.iff h;refine{by rw[<-r1.len];exact hz,λp hp=>?_};have z1:=Po.lay (o:=.tup vs) p1.er hp;refine h _ _ _ (p1.trans z1) ?_;simp![RvR,Rep];exact{p,vs,rfl,qg,r1.same z1.gs}
theorem qp3(gd:Gd U K k X L)(A:All U K k X L m)(e:Expr)(x:E)(h:cX (m+1) L e=some x):PE X e (tE U K Gv Hv (jZ x (iR L.k x))):=by
 have gen:(cE m L e).bind ZZ=some x->PE X e (tE U K Gv Hv (jZ x (iR L.k x))):=λh=>by
  let(y,h1,h2):=Option.bind_eq_some_iff.mp h;let(rfl,hv):=jd h2;refine PE.imp (A.r Gv Hv _ _ h1) λZ H Q hq1=>?_;let(N,G,er,h):=hq1;rw[qiK hv]at h;refine{N,G,er,Wk.mono (Wk.th h) λx h v G1 H1 p1 r1=>?_};let(rv,N1):=x
  cases rv with
  |val d=>exact h v G1 H1 p1 r1
  |tmp l=>let(a,xs,rfl,h1,h2,h3,h4,h5,h6):=r1;have p2:=p1.freeze h1 h2 h3 h4 h5;refine h _ _ H1 p2 ?_;simp![Rep];exact{a,xs,rfl,qg,h6.same (qp.upd h4)}
  |_=>exact False.elim h
 cases e with
 |Name x pos=>exact qbJ gd h pos
 |_=>exact gen h
theorem qn7(A:All U K k X L m):∀es x,cEs (m+1) L es=some x->PA X es (tEs U K Gv Hv (iEs L.k x))
 |[],_,h=>by cases h;exact PA.imp qC λZ H Q ⟨N,G,er,h⟩=>h [] G H (Po.refl er) .nil
 | e::l,_,h=>by let(hs,h):=qj h;let(a',l',h1,h2,rfl):=qk h;refine PA.imp (qm (A.e Gv Hv _ _ h1) (A.es Gv Hv _ _ h2) (qf (-hs:))) λZ H Q hq1=>?_;let(N,G,er,h):=hq1;refine{N,G,er,Wk.mono (Wk.th (x:=jZ a' (iR L.k a') N) h) λx h v G1 H1 p1 r1=>{x.2,G1,p1.er,Wk.mono (Wk.th (x:=iEs L.k l' x.2) h) λy h vs G2 H2 p2 r2=>?_}};exact h _ G2 H2 (p1.trans p2) (.cons (r1.same p2.gs) r2)
theorem qn8(A:All U K k X L m):∀es x,cAs (m+1) L es=some x->PA X es (tAs U K Gv Hv (iAs L.k x))
 |[],_,h=>by cases h;exact PA.imp qC λZ H Q ⟨N,G,er,h⟩=>h [] G H (Po.refl er) rfl
 | e::l,_,h=>by
  let(hs,h):=qj h;let(a',l',h1,h2,rfl):=qk h;refine PA.imp (qm (A.r Gv Hv _ _ h1) (A.as Gv Hv _ _ h2) (qf (-hs:))) λZ H Q hq1=>?_;let(N,G,er,h):=hq1;refine{N,G,er,Wk.mono (Wk.th (x:=iR L.k a' N) h) λx h v G1 H1 p1 r1=>?_};have h:=Wk.th (x:=iAs L.k l' x.2) h;let(rv,N1):=x
  cases rv with
  |val d=>exact{N1,G1,p1.er,Wk.mono h λy h vs G2 H2 p2 r2=>h _ G2 H2 (p1.trans p2) {v,vs,rfl,Rep.same p2.gs r1,r2}}
  |tmp ds=>let(a,xs,rfl,h1,h2,h3,h4,h5,h6):=r1;have p1':=p1.freeze h1 h2 h3 h4 h5;refine{N1,_,p1'.er,Wk.mono h λy h vs G2 H2 p2 r2=>h _ G2 H2 (p1'.trans p2) {_,vs,rfl,?_,r2}};show Rep U G2 (.lst ds) (.ref a);simp![Rep];exact{a,xs,rfl,p2.gs _ _ qg,(h6.same (qp.upd h4)).same p2.gs}
  |cell ds=>let(a,xs,rfl,h1,h6):=r1;exact{N1,G1,p1.er,Wk.mono h λy h vs G2 H2 p2 r2=>h _ G2 H2 (p1.trans p2) {_,vs,rfl,{a,xs,rfl,p2.hs _ _ h1,h6.same p2.gs},r2}}
  |scr ds=>let(a,xs,rfl,h1,h6):=r1;exact{N1,G1,p1.er,Wk.mono h λy h vs G2 H2 p2 r2=>h _ G2 H2 (p1.trans p2) {_,vs,rfl,{a,xs,rfl,p2.hs.seq h1,h6.same p2.gs},r2}}
theorem qp4(A:All U K k X L m):∀o x,cO (m+1) L o=some x->PO X o (tO U K Gv Hv (iO L.k x))
 |none,_,h=>by cases h;exact PO.imp qaO λZ H Q ⟨N,G,er,h⟩=>h G H (Po.refl er)
 |some e,_,h=>by
  let(a',h1,rfl):=ql h;refine PO.imp (qic (A.r Gv Hv _ _ h1)) λZ H Q hq1=>?_;let(N,G,er,h):=hq1;refine{N,G,er,Wk.mono (Wk.th (x:=iR L.k a' N) h) λx h v G1 H1 p1 r1=>?_};let(rv,N1):=x
  cases rv with
  |val d=>
   cases d with
   |int i=>exact{i,by simpa only[RvR,Rep] using r1,h G1 H1 p1}
   |_=>exact False.elim h
  |_=>exact False.elim h
theorem qp5(A:All U K k X L m):∀es x,cF (m+1) L es=some x->PIf X es (tT U K Gv Hv (iF L.k x))
 |[],_,h=>by cases h;exact PIf.imp qii λZ H Q ⟨N,G,er,h⟩=>h G H (Po.refl er)
 |[c],_,h=>by let(a',h1,rfl):=ql h;exact qij (A.t Gv Hv _ _ h1)
 | _::_::_,_,h=>by cases h
def qhn:Expr->Bool
 |.UnaryOp .Not _ _=>false
 |.BoolOp ..=>false
 |.IfExp ..=>false
 |.Compare ..=>false
 |_=>true
theorem qeh{e:Expr}(h:qhn e=true)(env:PySem.Env):∀whole,isTrue e env whole=(do let v<-whole;standAt e.pos;holding [v] (truthy v)):=by
 intro whole
 cases e with
 |UnaryOp op a pos=>cases op<;>first|rfl|cases h
 |BoolOp=>cases h
 |IfExp=>cases h
 |Compare=>cases h
 |_=>rfl
theorem qp6(gd:Gd U K k X L)(A:All U K k X L m)(e:Expr)(x:T)(h:cT (m+1) L e=some x):PT X e (tT U K Gv Hv (iT L.k x)):=by
 have gen:qhn e=true->(cE m L e).map .val=some x->PT X e (tT U K Gv Hv (iT L.k x)):=λhp h=>by let(a',h1,rfl):=ql h;refine PT.imp (qfD (A.r Gv Hv _ _ h1) (qeh hp X.env)) λZ H Q hq1=>?_;let(N,G,er,h):=hq1;refine{N,G,er,Wk.mono (Wk.th (x:=iR L.k a' N) h) λx h v G1 H1 p1 r1=>?_};let(b,e1,h):=Wk.of (Wk.th h);exact{b,qf9 gd p1.er r1 e1,h G1 H1 p1}
 cases e with
 |UnaryOp op a pos=>
  cases op with
  |Not=>let(a',h1,rfl):=ql h;refine PT.imp (Zp (A.t Gv Hv _ _ h1)) λZ H Q hq1=>?_;let(N,G,er,h):=hq1;exact{N,G,er,Wk.mono (Wk.th (x:=iT L.k a' N) h) λx h G1 H1 p1=>h G1 H1 p1}
  |_=>exact gen rfl h
 |BoolOp op vs pos=>
  cases vs with
  |nil=>cases op<;>cases h
  |cons a vs=>
   cases vs with
   |nil=>
    cases op with
    |And=>let(a',h1,rfl):=ql h;exact PT.imp (PW.pt (qhW (A.t Gv Hv _ _ h1))) λZ H Q h=>h
    |Or=>let(a',h1,rfl):=ql h;exact PT.imp (PW.pt (qkh (A.t Gv Hv _ _ h1))) λZ H Q h=>h
   |cons b l=>
    cases op with
    |And=>
     let(a',b',h1,h2,rfl):=qk h;intro pins s Z H Q I hw;let(N,G,er,h):=hw;refine isTrue_and (thn (A.t Gv Hv _ _ h1 pins s Z H (λc H1=>if c=true then tT U K Gv Hv (iT L.k b') Z H1 Q else Q false H1) I ?_) λc s1 ⟨H1,I1,q1⟩=>?_)
     ·refine{N,G,er,Wk.mono (Wk.th (x:=iT L.k a' N) h) λx h G1 H1 p1=>?_};let(d,N1):=x
      cases d with
      |true=>rw[if_pos rfl];exact{N1,G1,p1.er,Wk.mono h λy h G2 H2 p2=>h G2 H2 (p1.trans p2)}
      |false=>rw[if_neg (λz=>by cases z)];exact h G1 H1 p1
     ·cases c with
      |true=>exact A.t Gv Hv _ _ h2 pins s1 Z H1 Q I1 q1
      |false=>exact⟨H1,I1,q1⟩
    |Or=>
     let(a',b',h1,h2,rfl):=qk h;intro pins s Z H Q I hw;let(N,G,er,h):=hw;refine isTrue_or (thn (A.t Gv Hv _ _ h1 pins s Z H (λc H1=>if c=true then Q true H1 else tT U K Gv Hv (iT L.k b') Z H1 Q) I ?_) λc s1 ⟨H1,I1,q1⟩=>?_)
     ·refine{N,G,er,Wk.mono (Wk.th (x:=iT L.k a' N) h) λx h G1 H1 p1=>?_};let(d,N1):=x
      cases d with
      |false=>rw[if_neg (λz=>by cases z)];exact{N1,G1,p1.er,Wk.mono h λy h G2 H2 p2=>h G2 H2 (p1.trans p2)}
      |true=>rw[if_pos rfl];exact h G1 H1 p1
     ·cases c with
      |true=>exact⟨H1,I1,q1⟩
      |false=>exact A.t Gv Hv _ _ h2 pins s1 Z H1 Q I1 q1
 |IfExp c a b pos=>cases h
 |Compare a ops bs pos=>
  match ops,bs,h with
  |[op],[b],h=>exact qiT gd A a b op pos h
  |[_,_],[_,_],h=>cases h
  |[],[],h=>cases h
  | [],_::_,h=>cases h
  |[_],[],h=>cases h
  | [_],_::_::_,h=>cases h
  |[_,_],[],h=>cases h
  |[_,_],[_],h=>cases h
  | [_,_],_::_::_::_,h=>cases h
  | _::_::_::_,_,h=>cases h
 |_=>exact gen rfl h
end
section
variable{U:KC}{K:Frag}{Gv Hv:Hp}{k m:Nat}{X:Cx}{L:Ct}
def qlu{tg l:Expr}{tl:TE}(hl:PE X l tl):PI X tg l (λZ H R=>tl Z H λx H1=>(∃a,x=.ref a/\(((∃xs,SqL X.K H1 a xs)/\R (Itl X.K a) H1)\/((∃xs,SqT X.K H1 a xs)/\R (Itt X.K a) H1)))\/∃z,x=.str z/\R (Its z) H1):=by
 intro pins s Z H R I h;refine thn (hl pins s Z H _ I h) λv s1 hq1=>?_;let(x,H1,I1,r1,q1):=hq1;rcases q1 with ⟨a,e,q⟩|⟨x,rfl,q⟩
 ·subst e;cases r1;rcases q with ⟨⟨xs,hq⟩,q⟩|⟨⟨xs,hq⟩,q⟩
  ·let(its,rv,p,hz):=I1.list hq;refine wpAny_pyIter_list p.isList ?_;refine{s1.heap.objs.size,[s1.heap.objs.size],_,_,H1,rfl,I1.kept (t':=s1.toks) λb o e=>Heap.get?_push_of_some _ e,qds a _,{_,Heap.get?_push_size _ rfl,rfl,rfl},λb hb=>?_,q};have e:b=s1.heap.objs.size:=(-hb:)
   subst e;exact I1.fpOk (Nat.le_refl _) (I1.hok.fresh (Nat.le_refl _))
  ·let(its,rv,p,hz):=I1.tuple hq;refine wpAny_pyIter_tuple (show s1.heap.IsTuple a its.toArray from p) ?_;refine{s1.heap.objs.size,[s1.heap.objs.size],_,_,H1,rfl,I1.kept (t':=s1.toks) λb o e=>Heap.get?_push_of_some _ e,qcu a _,{_,Heap.get?_push_size _ rfl,rfl,rfl},λb hb=>?_,q};have e:b=s1.heap.objs.size:=(-hb:)
   subst e;exact I1.fpOk (Nat.le_refl _) (I1.hok.fresh (Nat.le_refl _))
 ·let(t,rfl):=r1
  have fin:∀(T:String) (o:Obj),(T = "str_ascii_iterator"\/T = "str_iterator")->(∀A':Around,A'.handled=none->Walks X.prog X.w A' s1.heap.objs.size [s1.heap.objs.size] [s1.heap.objs.size] x.cps.size (SignAt x) (λi h=>h.IsStrIter s1.heap.objs.size T x t i))->
    (s1.heap.push o).IsStrIter s1.heap.objs.size T x t 0->PIE X pins Z tg R (.ref s1.heap.objs.size) { s1 with heap:=s1.heap.push o }:=λT o hT W st=>by
   refine{s1.heap.objs.size,[s1.heap.objs.size],_,_,H1,rfl,I1.kept (t':=s1.toks) λb o e=>Heap.get?_push_of_some _ e,qfS hT W,st,λb hb=>?_,q};have e:b=s1.heap.objs.size:=(-hb:)
   subst e;exact I1.fpOk (Nat.le_refl _) (I1.hok.fresh (Nat.le_refl _))
  cases ha:x.cps.all (· < 128)
  ·exact wpAny_pyIter_wide ha (fin _ _ (.inr rfl) (λA' hA=>Walks.strWide hA _ x t) ⟨_,Heap.get?_push_size _ rfl,rfl,rfl⟩)
  ·exact wpAny_pyIter_ascii ha (fin _ _ (.inl rfl) (λA' hA=>Walks.strAscii hA _ x t) ⟨_,Heap.get?_push_size _ rfl,rfl,rfl⟩)
theorem qgb(gd:Gd U K k X L){x:Str}{i:Nat}(hi:qfu L x=some i)(pos:Pos):PE X (.Name x pos) (tL U K Gv Hv (y2 (.var i) (iR L.k (.var i)))):=by
 refine PE.imp (qbI gd hi pos) λZ H Q hq1=>?_;let(N,G,er,h):=hq1;have h:Wk (slL N i) _:=h;unfold slL at h
 cases q:N[i]? with
 |none=>rw[q]at h;exact False.elim h
 |some s=>
  rw[q]at h;have w:=er.sl i s q
  cases s with
  |no=>exact False.elim h
  |val d=>
   let(v,z,r):=w
   cases d with
   |lst l=>simp![Rep]at r;let(a,xs,rfl,r1,r2):=r;exact{_,z,h _ G H (Po.refl er) {a,xs,rfl,r2,.inl r1}}
   |str y=>simp![Rep]at r;subst r;exact{_,z,h _ G H (Po.refl er) ⟨y,rfl,rfl⟩}
   |tup l=>simp![Rep]at r;let(a,xs,rfl,r1,r2):=r;exact{_,z,h _ G H (Po.refl er) ⟨a,xs,rfl,r2,r1⟩}
   |_=>exact False.elim h
  |own l=>let(a,xs,z,p,r):=er.froze q;simp![Rep]at r;let(a',xs',e,r1,r2):=r;cases e;exact{_,z,h _ _ H p {a,xs',rfl,r2,.inl r1}}
  |bor l=>let(a,xs,z,r1,r4):=w;exact{_,z,h _ G H (Po.refl er) {a,xs,rfl,r4,.inr (SqL.of r1)}}
  |scr l=>let(a,xs,z,r1,r4):=w;exact{_,z,h _ G H (Po.refl er) {a,xs,rfl,r4,.inr r1}}
theorem qp7(gd:Gd U K k X L)(A:All U K k X L m)(e:Expr)(x:E)(h:cL (m+1) L e=some x):PE X e (tL U K Gv Hv (y2 x (iR L.k x))):=by
 have gen:(cE m L e).bind ZZ=some x->PE X e (tL U K Gv Hv (y2 x (iR L.k x))):=λh=>by
  let(y,h1,h2):=Option.bind_eq_some_iff.mp h;let(rfl,hv):=jd h2;refine PE.imp (A.r Gv Hv _ _ h1) λZ H Q hq1=>?_;let(N,G,er,h):=hq1;rw[qiL hv]at h;refine{N,G,er,Wk.mono (Wk.th h) λx h v G1 H1 p1 r1=>?_};let(rv,N1):=x
  cases rv with
  |val d=>
   cases d with
   |lst l=>simp![RvR,Rep]at r1;let(a,xs,rfl,q1,q2):=r1;exact h _ G1 H1 p1 ⟨a,xs,rfl,q2,.inl q1⟩
   |str y=>simp![RvR,Rep]at r1;subst r1;exact h _ G1 H1 p1 ⟨y,rfl,rfl⟩
   |tup l=>simp![RvR,Rep]at r1;let(a,xs,rfl,q1,q2):=r1;exact h _ G1 H1 p1 ⟨a,xs,rfl,q2,q1⟩
   |_=>exact False.elim h
  |tmp l=>let(a,xs,rfl,h1,h2,h3,h4,h5,h6):=r1;exact h _ _ H1 (p1.freeze h1 h2 h3 h4 h5) ⟨a,xs,rfl,h6.same (qp.upd h4),.inl qg⟩
  |_=>exact False.elim h
 cases e with
 |Name x pos=>let(i,h1,rfl):=ql h;exact qgb gd h1 pos
 |_=>exact gen h
def qlv{G:Hp}{a:Addr}{xs:List V}{l:List D}(h:G a=some (.lst xs)\/SqL K Hv a xs)(r:qo U G l xs):ItR U Hv G (Itl K a) l:=by
 intro i G1 H1 s1 s2 s3;have hq:SqL K H1 a xs:=h.elim (λz=>SqL.of (s3 _ _ (s1 _ _ z))) λz=>s2.seq z;refine{λd e=>?_,λe=>{xs,hq,by rw[<-r.len];omega}};let(v,e1,e2):=r.atD e;refine{⟨xs,v,hq,e1⟩,λx H' ⟨z1,z2⟩=>{G1,by rw[z1];exactλ_ _ q=>q,λ_ _ q=>q,by rw[z1];exact s3,λ_ o q=>.inl ⟨o,q⟩,?_}}
 have:=z2 xs hq
 rw[e1]at this;cases this;exact e2.same s1
def qlw{G:Hp}{a:Addr}{xs:List V}{l:List D}(h:G a=some (.lst xs)\/SqL K Hv a xs)(r:qo U G l xs):ItR U Hv G (Itv K a xs) l.reverse:=by
 intro i G1 H1 s1 s2 s3;have hq:SqL K H1 a xs:=h.elim (λz=>SqL.of (s3 _ _ (s1 _ _ z))) λz=>s2.seq z;have hl:=r.len;refine{λd e=>?_,λe=>{hq,by simp at e;omega}};have hi:i < l.length:=by simpa using (List.getElem?_eq_some_iff.mp e).1
 rw[List.getElem?_reverse hi]at e;let(v,e1,e2):=r.atD e;refine{{hq,by omega},λx H' ⟨z1,z2⟩=>{G1,by rw[z1];exactλ_ _ q=>q,λ_ _ q=>q,by rw[z1];exact s3,λ_ o q=>.inl ⟨o,q⟩,?_}};rw[<-hl,e1]at z2;cases z2;exact e2.same s1
def qlx{G:Hp}{a:Addr}{xs:List V}{l:List D}(h:G a=some (.tup xs))(r:qo U G l xs):ItR U Hv G (Itt K a) l:=by
 intro i G1 H1 s1 s2 s3;have hq:SqT K H1 a xs:=SqT.of (s3 _ _ (s1 _ _ h));refine{λd e=>?_,λe=>{xs,hq,by rw[<-r.len];omega}};let(v,e1,e2):=r.atD e;refine{⟨xs,v,hq,e1⟩,λx H' ⟨z1,z2⟩=>{G1,by rw[z1];exactλ_ _ q=>q,λ_ _ q=>q,by rw[z1];exact s3,λ_ o q=>.inl ⟨o,q⟩,?_}}
 have:=z2 xs hq
 rw[e1]at this;cases this;exact e2.same s1
def qly{G:Hp}{x:Str}:ItR U Hv G (Its x) (qdd x):=by
 intro i G1 H1 s1 s2 s3;have hl:(qdd x).length=x.cps.size:=by simp[qdd]
 refine{λd e=>?_,λe=>by rw[<-e,hl];rfl};unfold qdd at e;rw[List.getElem?_map]at e;let(c,e1,rfl):=Option.map_eq_some_iff.mp e;rw[Array.getElem?_toList]at e1;refine{(Array.getElem?_eq_some_iff.mp e1).1,λv H' ⟨z1,c',z2,z3⟩=>{G1,by rw[z1];exactλ_ _ q=>q,λ_ _ q=>q,by rw[z1];exact s3,λ_ o q=>.inl ⟨o,q⟩,?_}};rw[e1]at z2;cases z2;rw[z3];simp![Rep]
def qho{G:Hp}{lo hi:Int}:ItR U Hv G (Itr lo (hi - lo).toNat) (qS lo hi):=by
 intro i G1 H1 s1 s2 s3;refine{λd e=>?_,λe=>?_}
 ·unfold qS at e;rw[List.getElem?_map]at e;let(j,e1,rfl):=Option.map_eq_some_iff.mp e;let(h1,h2):=List.getElem?_eq_some_iff.mp e1;have hi':i < (hi - lo).toNat:=(-h1:)
  have hj:j=i:=by rw[<-h2];simp
  subst hj;refine{hi',λx H' ⟨z1,z2⟩=>{G1,by rw[z1];exactλ_ _ q=>q,λ_ _ q=>q,by rw[z1];exact s3,λ_ o q=>.inl ⟨o,q⟩,?_}};rw[z2];simp![Rep]
 ·have hl:(qS lo hi).length=(hi - lo).toNat:=by simp![qS,List.length_map,List.length_range]
  show(hi - lo).toNat<=i;omega
def qei{G H:Hp}{T:Addr}{x y:V}{d e:D}(sub:qp G H)(hT:H T=none)(hx:Rep U G d x)(hy:Rep U G e y) :
  ∃G',qp H (upd H T (.tup [x,y]))/\qp G G'/\qp G' (upd H T (.tup [x,y]))/\(∀a o,G' a=some o->(∃o',G a=some o')\/H a=none)/\Rep U G' (.tup [d,e]) (.ref T):=by
 have gT:G T=none:=qp.none sub hT;have gs:qp G (upd G T (.tup [x,y])):=qp.upd gT;refine{upd G T (.tup [x,y]),qp.upd hT,gs,λb u q=>?_,λb u q=>?_,?_}
 ·by_cases hb:b=T
  ·subst hb;rw[qg]at q ⊢;exact q
  ·rw[qe hb]at q ⊢;exact sub b u q
 ·by_cases hb:b=T
  ·subst hb;exact .inr hT
  ·rw[qe hb]at q;exact .inl ⟨u,q⟩
 ·simp![Rep];exact{T,_,rfl,qg,.cons (hx.same gs) %[hy.same gs|0]}
def qlz{G:Hp}{a:Addr}{xs:List V}{l:List D}(h:G a=some (.lst xs)\/SqL K Hv a xs)(r:qo U G l xs):ItR U Hv G (Ite K a) (Yi l):=by
 intro i G1 H1 s1 s2 s3;have hq:SqL K H1 a xs:=h.elim (λz=>SqL.of (s3 _ _ (s1 _ _ z))) λz=>s2.seq z;have hlen:(Yi l).length=l.length:=by simp[Yi]
 refine{λd e=>?_,λe=>{xs,hq,by rw[<-r.len];omega}};have hi:i < l.length:=by rw[<-hlen];exact(List.getElem?_eq_some_iff.mp e).1
 have e0:(Yi l)[i]?=some (.tup [.int i,l[i]]):=by unfold Yi;rw[List.getElem?_zipWith];simp[hi]
 rw[e0]at e;cases e;let(v,e1,e2):=r.atD (List.getElem?_eq_getElem hi);refine{⟨xs,v,hq,e1⟩,λx H' z=>?_};let(T,x',rfl,hT,rfl,z2):=z
 have:=z2 xs hq
 rw[e1]at this;cases this;exact qei s3 hT (by simp![Rep]) (e2.same s1)
def qlA{G:Hp}{a b:Addr}{xs ys:List V}{l n:List D}(h:G a=some (.lst xs)\/SqL K Hv a xs)(r:qo U G l xs)(h':G b=some (.lst ys)\/SqL K Hv b ys)(r':qo U G n ys):ItR U Hv G (Itz K a b) (qcM l n):=by
 intro i G1 H1 s1 s2 s3;have hq:SqL K H1 a xs:=h.elim (λz=>SqL.of (s3 _ _ (s1 _ _ z))) λz=>s2.seq z;have hq':SqL K H1 b ys:=h'.elim (λz=>SqL.of (s3 _ _ (s1 _ _ z))) λz=>s2.seq z;have hlen:(qcM l n).length=min l.length n.length:=by simp[qcM]
 have l1:=r.len;have l2:=r'.len;refine{λd e=>?_,λe=>{xs,ys,hq,hq',by omega}};have hi:i < min l.length n.length:=by rw[<-hlen];exact(List.getElem?_eq_some_iff.mp e).1
 have i1:i < l.length:=by omega
 have i2:i < n.length:=by omega
 have e0:(qcM l n)[i]?=some (.tup [l[i],n[i]]):=by unfold qcM;rw[List.getElem?_zipWith];simp[i1,i2]
 rw[e0]at e;cases e;let(v,e1,e2):=r.atD (List.getElem?_eq_getElem i1);let(w,e3,e4):=r'.atD (List.getElem?_eq_getElem i2);refine{⟨xs,ys,v,w,hq,hq',e1,e3⟩,λx H' z=>?_};let(T,x',y',rfl,hT,rfl,z2):=z;let(z3,z4):=z2 xs ys hq hq';rw[e1]at z3;rw[e3]at z4;cases z3;cases z4;exact qei s3 hT (e2.same s1) (e4.same s1)
def Yj{i:Int}(h:qN i=true):-(2 ^ 62)<=i/\i < 2 ^ 62:=by
 unfold qN at h
 simpa [Bool.and_eq_true] using h
theorem qgc(gd:Gd U K k X L)(A:All U K k X L m)(tg e:Expr)(x:I)(h:(cL m L e).map .seq=some x):PI X tg e (tI U K Gv Hv (iI L.k x)):=by
 let(a',h1,rfl):=ql h;refine PI.imp (qlu (A.l Gv Hv _ _ h1)) λZ H Q hq1=>?_;let(N,G,er,h):=hq1;refine{N,G,er,Wk.mono (Wk.th (x:=y2 a' (iR L.k a') N) h) λx h v G1 H1 p1 r1=>?_};let((b,l),N1):=x
 cases b with
 |str=>let(y,rfl,rfl):=r1;exact .inr ⟨y,rfl,h _ G1 H1 p1 qly⟩
 |tup=>let(a,xs,rfl,r2,r3):=r1;exact .inl ⟨a,rfl,.inr ⟨⟨xs,SqT.of (p1.er.sub _ _ r3)⟩,h _ G1 H1 p1 (by rw[gd.hK];exact qlx r3 r2)⟩⟩
 |lst=>let(a,xs,rfl,r2,r3):=r1;refine .inl ⟨a,rfl,.inl ⟨⟨xs,?_⟩,h _ G1 H1 p1 (by rw[gd.hK];exact qlv r3 r2)⟩⟩;rw[gd.hK];exact r3.elim (λz=>SqL.of (p1.er.sub _ _ z)) λz=>p1.er.base.seq z
def qbO{a b:Expr}{env:PySem.Env}(h1:qD a=false)(h2:qD b=false):starEach [a,b] env=[(false,eval a env),(false,eval b env)]:=by rw[qf h1,qf h2];rfl
def qej{G H:Hp}{N:Env}{Z:L2.St}{a:Addr}{xs:List V}(gd:Gd U K k X L)(er:ER U K Gv Hv G H N Z)(r:G a=some (.lst xs)\/SqL K Hv a xs):∃xs,SqL X.K H a xs:=by rw[gd.hK];exact{xs,r.elim (λz=>SqL.of (er.sub _ _ z)) λz=>er.base.seq z}
def qiV(gd:Gd U K k X L)(A:All U K k X L m)(tg a:Expr)(f:Str)(p q:Pos)(x:I)(hg:Gl X f)(h:oif (!qD a) (if f = "range" then (cE m L a).map .rng else if f = "enumerate" then oif (qf0 tg) ((cL m L a).map .enum) else if f = "reversed" then (cL m L a).map .rev else none)=some x) :
  PI X tg (.Call (.Name f p) [a] [] q) (tI U K Gv Hv (iI L.k x)):=by
 let(hs,h):=qj h;have hs:qD a=false:=(-hs:)
 by_cases h1:f = "range"
 ·subst h1;rw[if_pos rfl]at h;let(a',h1,rfl):=ql h;refine PI.imp (qdt hg (gd.blt _ (2:)) (qm (A.r Gv Hv _ _ h1) qC (qf hs)) (qf hs)) λZ H Q hq1=>?_;let(N,G,er,h):=hq1;refine{N,G,er,Wk.mono (Wk.th (x:=iR L.k a' N) h) λx h v G1 H1 p1 r1=>?_}
  cases e1:x.1.int? with
  |none=>rw[e1]at h;exact False.elim h
  |some n=>
   rw[e1]at h;let(hz,h):=Wk.iff h;let(z1,z2):=Yj hz;refine{n,by rw[r1.int e1],z1,z2,h _ G1 H1 p1 ?_}
   have:=qho (U:=U) (Hv:=Hv) (G:=G1) (lo:=0) (hi:=n)
   rw[Int.sub_zero]at this;exact this
 rw[if_neg h1]at h
 by_cases h2:f = "enumerate"
 ·subst h2;rw[if_pos rfl]at h;let(ht,h):=qj h;let(a',h1,rfl):=ql h
  cases tg with
  |Tuple es j tp=>
   refine PI.imp (qix hg (gd.blt _ (2:)) (qm (A.l Gv Hv _ _ h1) qC (qf hs)) (qf hs)) λZ H Q hq1=>?_;let(N,G,er,h):=hq1;refine{N,G,er,Wk.mono (Wk.th (x:=y2 a' (iR L.k a') N) h) λx h v G1 H1 p1 r1=>?_};let((b,l),N1):=x
   cases b with
   |lst=>let(c,xs,rfl,r2,r3):=r1;exact{c,rfl,qej gd p1.er r3,h _ G1 H1 p1 (by rw[gd.hK];exact qlz r3 r2)}
   |_=>exact False.elim h
  |_=>cases ht
 rw[if_neg h2]at h
 by_cases h3:f = "reversed"
 ·subst h3;rw[if_pos rfl]at h;let(a',h1,rfl):=ql h;refine PI.imp (qkX hg (gd.blt _ (2:)) (qm (A.l Gv Hv _ _ h1) qC (qf hs)) (qf hs)) λZ H Q hq1=>?_;let(N,G,er,h):=hq1;refine{N,G,er,Wk.mono (Wk.th (x:=y2 a' (iR L.k a') N) h) λx h v G1 H1 p1 r1=>?_};let((b,l),N1):=x
  cases b with
  |lst=>let(c,xs,rfl,r2,r3):=r1;refine{c,xs,rfl,?_,h _ G1 H1 p1 (by rw[gd.hK];exact qlw r3 r2)};rw[gd.hK];exact r3.elim (λz=>SqL.of (p1.er.sub _ _ z)) λz=>p1.er.base.seq z
  |_=>exact False.elim h
 rw[if_neg h3]at h;cases h
def qiW(gd:Gd U K k X L)(A:All U K k X L m)(tg a b:Expr)(f:Str)(p q:Pos)(x:I)(hg:Gl X f)(h:oif (!(qD a||qD b)) (if f = "range" then o2 (cE m L a) (cE m L b) .rng2 else if f = "zip" then oif (qf0 tg) (o2 (cL m L a) (cL m L b) .zip) else none)=some x) :
  PI X tg (.Call (.Name f p) [a,b] [] q) (tI U K Gv Hv (iI L.k x)):=by
 let(hs,h):=qj h;have hs:(qD a||qD b)=false:=(-hs:)
 rw[Bool.or_eq_false_iff]at hs;let(s1,s2):=hs
 by_cases h1:f = "range"
 ·subst h1;rw[if_pos rfl]at h;let(a',b',h1,h2,rfl):=qk h;refine PI.imp (qdu hg (gd.blt _ (2:)) (qm (A.r Gv Hv _ _ h1) (qm (A.r Gv Hv _ _ h2) qC (qf s2)) (qf s1)) (qbO s1 s2) (qf s2)) λZ H Q hq1=>?_;let(N,G,er,h):=hq1;refine{N,G,er,Wk.mono (Wk.th (x:=iR L.k a' N) h) λx h v G1 H1 p1 r1=>{x.2,G1,p1.er,Wk.mono (Wk.th (x:=iR L.k b' x.2) h) λy h w G2 H2 p2 r2=>?_}}
  cases e1:x.1.int? with
  |none=>rw[e1]at h;exact False.elim h
  |some i=>
   cases e2:y.1.int? with
   |none=>rw[e1,e2]at h;exact False.elim h
   |some j=>rw[e1,e2]at h;let(hz,h):=Wk.iff h;let(z1,z2):=Yj hz.1;let(z3,z4):=Yj hz.2;exact{i,j,by rw[r1.int e1,r2.int e2],⟨z1,z2,z3,z4⟩,h _ G2 H2 (p1.trans p2) qho}
 rw[if_neg h1]at h
 by_cases h2:f = "zip"
 ·subst h2;rw[if_pos rfl]at h;let(ht,h):=qj h;let(a',b',h1,h2,rfl):=qk h
  cases tg with
  |Tuple es j tp=>
   refine PI.imp (qkV hg (gd.blt _ (2:)) (qm (A.l Gv Hv _ _ h1) (qm (A.l Gv Hv _ _ h2) qC (qf s2)) (qf s1)) (qbO s1 s2) (qf s2)) λZ H Q hq1=>?_;let(N,G,er,h):=hq1;refine{N,G,er,Wk.mono (Wk.th (x:=y2 a' (iR L.k a') N) h) λx h v G1 H1 p1 r1=>{x.2,G1,p1.er,Wk.mono (Wk.th (x:=y2 b' (iR L.k b') x.2) h) λy h w G2 H2 p2 r2=>?_}};let((bx,l),N1):=x;let((by',n),N2):=y
   cases bx with
   |lst=>
    cases by' with
    |lst=>let(c,xs,rfl,r3,r4):=r1;let(d,ys,rfl,r5,r6):=r2;have r4':G2 c=some (.lst xs)\/SqL K Hv c xs:=r4.imp (λz=>p2.gs _ _ z) id;exact{c,d,rfl,qej gd p2.er r4',qej gd p2.er r6,h _ G2 H2 (p1.trans p2) (by rw[gd.hK];exact qlA r4' (r3.same p2.gs) r6 r5)}
    |_=>exact False.elim h
   |_=>exact False.elim h
  |_=>cases ht
 rw[if_neg h2]at h;cases h
theorem qp8(gd:Gd U K k X L)(A:All U K k X L m)(tg e:Expr)(x:I)(h:cI (m+1) L (qf0 tg) e=some x):PI X tg e (tI U K Gv Hv (iI L.k x)):=by
 cases e with
 |Call fn es kws q=>
  cases fn with
  |Name f p=>
   cases kws with
   |nil=>
    have h:(if (decide (f = "range")||decide (f = "enumerate")||decide (f = "zip")||decide (f = "reversed"))=true then _ else _)=some x:=h
    by_cases hf:(decide (f = "range")||decide (f = "enumerate")||decide (f = "zip")||decide (f = "reversed"))=true
    ·rw[if_pos hf]at h;let(hn,h):=qj h;simp![Bool.and_eq_true]at hn;have hg:=gd.glo _ hn.1.2
     match es,h with
     |[a],h=>exact qiV gd A tg a f p q x hg h
     |[a,b],h=>exact qiW gd A tg a b f p q x hg h
     |[_,_,_],h=>cases h
     |[],h=>cases h
     | _::_::_::_::_,h=>cases h
    ·rw[if_neg hf]at h;exact qgc gd A tg _ x h
   |cons kw kws=>exact qgc gd A tg _ x h
  |_=>exact qgc gd A tg _ x h
 |_=>exact qgc gd A tg _ x h
end
section
variable{U:KC}{K:Frag}{Gv Hv:Hp}{k m:Nat}{X:Cx}{L:Ct}{x:E}
theorem Yk:∀{m:Nat} {es:List Expr} {l:Es},cAs m L es=some l->es.any qD=false
 |0,_,_,h=>nomatch h
 | m+1,[],_,_=>rfl
 | m+1,e::es,_,h=>by
  let(hs,h):=qj h;let(a,b,_,h2,_):=qk h;rw[List.any_cons,Yk h2,Bool.or_false]
  simpa using hs
def QK{m:Nat}{l:Es}(h:cAs m L []=some l):l=.nil:=by
 cases m<;>cases h
 rfl
theorem qU{env:PySem.Env}{pos:Pos}:∀{es:List Expr},es.any qD=false->(backTo pos (starEach es env)).any (·.1)=false
 |[],_=>rfl
 | e::l,h=>by simp![List.any_cons,Bool.or_eq_false_iff]at h;rw[qf h.1];show(false||(backTo pos (starEach l env)).any (·.1))=false;rw[qU h.2];rfl
theorem ReR.rv{G H G1 H1 G2 H2:Hp}{N N1:Env}{Z:L2.St}{r:Rv}{v:V}(p:Po U K Gv Hv Z G H N G1 H1 N1)(hs:qp H1 H2)(gs:qp G1 G2)(sub:qp G2 H2)(new:∀a o,G2 a=some o->(∃o',G1 a=some o')\/H1 a=none)(h:ReR U G2 H2 H1 r v) :
  Po U K Gv Hv Z G H N G2 H2 N1/\RvR U K Hv H G2 H2 N1 Z r v:=by
 refine{p.trans (Po.more p.er hs gs sub new),?_}
 cases r with
 |val d=>exact h
 |tmp ds=>let(a,xs,rfl,h1,h2,h3,h4):=h;exact{a,xs,rfl,h1,qp.none p.hs h2,qp.none p.er.base h2,h3,p.er.notOwn h2,h4}
 |cell ds=>exact False.elim h
 |scr ds=>exact False.elim h
theorem qgd(gd:Gd U K k X L)(A:All U K k X L m)(f:Str)(es:List Expr)(p q:Pos)(hok:zg f=true)(hgl:glB L.sc f=true)(ht:L.tab.contains f=true)(h:(cAs m L es).map (.call f)=some x):PE X (.Call (.Name f p) es [] q) (tR U K Gv Hv (iR L.k x)):=by
 let(l',h1,rfl):=ql h;have hs:=Yk h1;let(fa,fd,ps,F,hm,hk,hb):=gd.fns f ht;let(n1,n2,n3):=qF hok
 have key:∀Z H Q,tR U K Gv Hv (iR L.k (.call f l')) Z H Q->qcC (spF U K L.cl f) [] E0 (tAs U K Gv Hv (iAs L.k l')) Z H Q:=λZ H Q ⟨N,G,er,h⟩=>by refine{N,G,er,Wk.mono (Wk.th (x:=iAs L.k l' N) h) λx h vs G1 H1 p1 r1=>?_};show spF U K L.cl f (vs++[]) H1 Q E0;rw[List.append_nil];refine{G1,x.1,p1.er.sub,r1,Wk.mono (Wk.th h) λr h v G2 H2 hs gs sub new rr=>?_};let(z1,z2):=ReR.rv p1 hs gs sub new rr;exact h v G2 H2 z1 z2
 cases es with
 |nil=>cases QK h1;refine PE.imp (Qu F gd.room (gd.glo f hgl) hm hk hb .nil j5 n1) λZ H Q h=>?_;let(N,G,er,h):=key Z H Q h;exact h [] G H (Po.refl er) rfl
 |cons e l=>simp![List.any_cons,Bool.or_eq_false_iff]at hs;exact PE.imp (jx F gd.room (gd.glo f hgl) hm hk hb .nil j5 (A.as Gv Hv _ _ h1) n1 (qf hs.1) (qU hs.2)) key
def qek:V->Bool
 |.ref _=>false
 |_=>true
def Gr(G:Hp):Hp:=λa=>match G a with
 |some (.lst xs)=>if xs.isEmpty=false/\xs.all qek=true then none else some (.lst xs)
 |o=>o
def qa0{G:Hp}{a:Addr}{o:HO}(h:Gr G a=some o):G a=some o/\∀xs,o=.lst xs->¬ (xs.isEmpty=false/\xs.all qek=true):=by
 unfold Gr at h
 split at h
 ·rename_i xs e
  split at h
  ·cases h
  ·rename_i hn;cases h;exact{e,λys q=>by cases q;exact hn}
 ·rename_i e;exact{h,λxs q=>by subst q;exact absurd h (e xs)}
def Js{G:Hp}{a:Addr}{o:HO}(h:G a=some o)(n:∀xs,o=.lst xs->¬ (xs.isEmpty=false/\xs.all qek=true)):Gr G a=some o:=by
 unfold Gr;split
 ·rename_i xs e;rw[h]at e;cases e;rw[if_neg (n xs rfl)]
 ·exact h
theorem qel{G:Hp}:∀{d:D} {v:V},Rep U G d v->qek v=jy d
 |.non,v,h=>by simp![Rep]at h;subst h;rfl
 |.bl _,v,h=>by simp![Rep]at h;subst h;rfl
 |.int _,v,h=>by simp![Rep]at h;subst h;rfl
 |.str _,v,h=>by simp![Rep]at h;subst h;rfl
 |.lst _,v,h=>by simp![Rep]at h;let(a,xs,rfl,_):=h;rfl
 |.tup _,v,h=>by simp![Rep]at h;let(a,xs,rfl,_):=h;rfl
 |.ins ..,v,h=>by simp![Rep]at h;let(a,dx,C,xs,_,rfl,_):=h;rfl
 |.exc ..,v,h=>by simp![Rep]at h;let(a,od,xs,rfl,_):=h;rfl
 |.dct ..,v,h=>by simp![Rep]at h;let(a,xs,rfl,_):=h;rfl
theorem Jt{G:Hp}:∀{ds:List D} {vs:List V},qo U G ds vs->vs.all qek=ds.all jy/\vs.isEmpty=ds.isEmpty
 |[],vs,h=>by simp![qo]at h;subst h;exact⟨rfl,rfl⟩
 | d::ds,vs,h=>by simp![qo]at h;let(x,r,rfl,h1,h2):=h;exact{by rw[List.all_cons,List.all_cons,qel h1,(Jt h2).1],rfl}
mutual
theorem qhp{G:Hp}:∀{d:D} {v:V},Rep U G d v->nfD d=true->Rep U (Gr G) d v
 |.non,v,h,_=>by simp![Rep]at h ⊢;exact h
 |.bl _,v,h,_=>by simp![Rep]at h ⊢;exact h
 |.int _,v,h,_=>by simp![Rep]at h ⊢;exact h
 |.str _,v,h,_=>by simp![Rep]at h ⊢;exact h
 |.lst ds,v,h,k=>by simp![Rep]at h ⊢;let(a,xs,rfl,h1,h2):=h;rw[nfD,Bool.and_eq_true]at k;let(f1,f2):=Jt h2;exact{a,xs,rfl,Js h1 (λys q=>by cases q;rw[f1,f2];intro ⟨q1,q2⟩;rw[q1,q2]at k;cases k.1),j6 h2 k.2}
 |.tup ds,v,h,k=>by simp![Rep]at h ⊢;let(a,xs,rfl,h1,h2):=h;exact{a,xs,rfl,Js h1 (λ_ q=>by cases q),j6 h2 k}
 |.ins c ns ds,v,h,k=>by simp![Rep]at h ⊢;let(p,dx,C,xs,hc,rfl,h1,hl,h2):=h;exact{p,dx,C,xs,hc,rfl,Js h1 (λ_ q=>by cases q),hl,j6 h2 k}
 |.exc C ns ds,v,h,k=>by
  simp![Rep]at h ⊢;let(p,od,xs,rfl,h1,h3,h2):=h;refine{p,od,xs,rfl,Js h1 (λ_ q=>by cases q),?_,j6 h2 k};rcases h3 with z|⟨dd,z1,z2⟩
  ·exact .inl z
  ·exact .inr ⟨dd,z1,Js z2 (λ_ q=>by cases q)⟩
 |.dct ks ds,v,h,k=>by simp![Rep]at h ⊢;let(p,xs,rfl,h1,hl,h2):=h;exact{p,xs,rfl,Js h1 (λ_ q=>by cases q),hl,j6 h2 k}
theorem j6{G:Hp}:∀{ds:List D} {vs:List V},qo U G ds vs->YY ds=true->qo U (Gr G) ds vs
 |[],vs,h,_=>by simp![qo]at h ⊢;exact h
 | d::ds,vs,h,k=>by simp![qo]at h ⊢;let(x,r,rfl,h1,h2):=h;rw[YY,Bool.and_eq_true]at k;exact{x,r,rfl,qhp h1 k.1,j6 h2 k.2}
end
theorem qhq{G H:Hp}:∀{as:List Ar} {vs:List V},Jn U K G H as vs->as.all nfA=true->Jn U K (Gr G) H as vs
 |[],vs,h,_=>h
 | a::as,vs,h,k=>by
  let(v,r,rfl,h1,h2):=h;rw[List.all_cons,Bool.and_eq_true]at k;refine{v,r,rfl,?_,qhq h2 k.2}
  cases a with
  |val d=>exact qhp h1 k.1
  |bor l=>let(b,xs,e,q1,q2):=h1;exact{b,xs,e,q1,j6 q2 k.1}
  |scr l=>let(b,xs,e,q1,q2):=h1;exact{b,xs,e,q1,j6 q2 k.1}
theorem qge{G:Hp}(G':Hp):∀{d:D} {v:V},Rep U G d v->jy d=true->Rep U G' d v
 |.non,v,h,_=>by simp![Rep]at h ⊢;exact h
 |.bl _,v,h,_=>by simp![Rep]at h ⊢;exact h
 |.int _,v,h,_=>by simp![Rep]at h ⊢;exact h
 |.str _,v,h,_=>by simp![Rep]at h ⊢;exact h
theorem Z1{G:Hp}(G':Hp):∀{ds:List D} {vs:List V},qo U G ds vs->ds.all jy=true->qo U G' ds vs
 |[],vs,h,_=>by simp![qo]at h ⊢;exact h
 | d::ds,vs,h,k=>by simp![qo]at h ⊢;let(x,r,rfl,h1,h2):=h;rw[List.all_cons,Bool.and_eq_true]at k;exact{x,r,rfl,qge G' h1 k.1,Z1 G' h2 k.2}
def gU(a:Option Addr)(G1 G2:Hp):Hp:=λb=>match G1 b with
 |some o=>some o
 |none=>if a=some b then none else G2 b
def qlB{G1 H1 G2 H2:Hp}{as:List Ar}{r:Rv}{v:V}(s1:qp G1 H1)(ok:as.all nfA=true)(hs:qp H1 H2)(gs:qp (Gr G1) G2)(sub:qp G2 H2)(new:∀a o,G2 a=some o->(∃o',Gr G1 a=some o')\/H1 a=none)(rr:ReR U G2 H2 H1 r v) :
  ∃G3,qp G1 G3/\qp G3 H2/\(∀a o,G3 a=some o->(∃o',G1 a=some o')\/H1 a=none)/\ReR U G3 H2 H1 (qcN as r) v:=by
 have key:∀a,qp G1 (gU a G1 G2)/\qp (gU a G1 G2) H2/\∀b o,gU a G1 G2 b=some o->(∃o',G1 b=some o')\/H1 b=none:=λa=>by
  refine{λb o e=>by unfold gU;rw[e],λb o e=>?_,λb o e=>?_}
  ·unfold gU at e
   cases q:G1 b with
   | some o'=>rw[q]at e;cases e;exact hs _ _ (s1 _ _ q)
   |none=>
    rw[q]at e;dsimp only at e
    split at e
    ·cases e
    ·exact sub _ _ e
  ·unfold gU at e
   cases q:G1 b with
   | some o'=>exact .inl ⟨o',rfl⟩
   |none=>
    rw[q]at e;dsimp only at e
    split at e
    ·cases e
    ·rcases new b o e with ⟨o',z⟩|z
     ·rw[(qa0 z).1]at q;cases q
     ·exact .inr z
 have big:qp G2 (gU none G1 G2):=λb o e=>by
  unfold gU
  cases q:G1 b with
  | some o'=>have:=hs _ _ (s1 _ _ q);rw[sub _ _ e]at this;exact this.symm
  |none=>rw[if_neg (λz=>by cases z)];exact e
 have old:∀r',ReR U G2 H2 H1 r' v->∃G3,qp G1 G3/\qp G3 H2/\(∀a o,G3 a=some o->(∃o',G1 a=some o')\/H1 a=none)/\ReR U G3 H2 H1 r' v:=λr' rr=>by
  refine{gU none G1 G2,(key none).1,(key none).2.1,(key none).2.2,?_}
  cases r' with
  |val d=>exact Rep.same big rr
  |tmp l=>let(a,xs,e,q1,q2,q3,q4):=rr;refine{a,xs,e,q1,q2,?_,q4.same big};unfold gU;rw[qp.none s1 q2];exact q3
  |cell l=>exact rr
  |scr l=>exact rr
 unfold qcN;split
 ·rename_i l;split
  ·rename_i hc;rw[Bool.and_eq_true,Bool.and_eq_true]at hc;have r2:=rr;simp![ReR,Rep]at r2;let(a,xs,rfl,q1,q2):=r2;let(f1,f2):=Jt q2
   have h1:H1 a=none:=by
    rcases new a _ q1 with ⟨o',z⟩|z
    ·have:=gs _ _ z
     rw[q1]at this;cases this;exact absurd ⟨by rw[f2];simpa using hc.1.2,by rw[f1];exact hc.2⟩ ((qa0 z).2 xs rfl)
    ·exact z
   refine{gU (some a) G1 G2,(key _).1,(key _).2.1,(key _).2.2,a,xs,rfl,sub _ _ q1,h1,?_,Z1 _ q2 hc.2};unfold gU;rw[qp.none s1 h1,if_pos rfl]
  ·exact old _ rr
 ·exact old _ rr
theorem qgf(gd:Gd U K k X L)(A:All U K k X L m)(f:Str)(es:List Expr)(p q:Pos)(hok:zg f=true)(hgl:glB L.sc f=true)(ht:L.tab.contains f=true)(h:(cAs m L es).map (.calN f)=some x):PE X (.Call (.Name f p) es [] q) (tR U K Gv Hv (iR L.k x)):=by
 let(l',h1,rfl):=ql h;have hs:=Yk h1;let(fa,fd,ps,F,hm,hk,hb):=gd.fns f ht;let(n1,n2,n3):=qF hok
 have key:∀Z H Q,tR U K Gv Hv (iR L.k (.calN f l')) Z H Q->qcC (spF U K L.cl f) [] E0 (tAs U K Gv Hv (iAs L.k l')) Z H Q:=λZ H Q ⟨N,G,er,h⟩=>by
  refine{N,G,er,Wk.mono (Wk.th (x:=iAs L.k l' N) h) λx h vs G1 H1 p1 r1=>?_};show spF U K L.cl f (vs++[]) H1 Q E0;rw[List.append_nil]
  by_cases ok:x.1.all nfA=true
  ·refine{Gr G1,x.1,λb o e=>p1.er.sub b o (qa0 e).1,qhq r1 ok,Wk.mono (Wk.th h) λr h v G2 H2 hs gs sub new rr=>?_};let(G3,q1,q2,q3,q4):=qlB p1.er.sub ok hs gs sub new rr;let(z1,z2):=ReR.rv p1 hs q1 q2 q3 q4;exact h v G3 H2 z1 z2
  ·refine{G1,x.1,p1.er.sub,r1,Wk.mono (Wk.th h) λr h v G2 H2 hs gs sub new rr=>?_}
   have e:qcN x.1 r=r:=by
    unfold qcN;split
    ·rw[if_neg (λz=>ok (by rw[Bool.and_eq_true,Bool.and_eq_true]at z;exact z.1.1))]
    ·rfl
   rw[<-e]at rr;let(z1,z2):=ReR.rv p1 hs gs sub new rr;exact h v G2 H2 z1 z2
 cases es with
 |nil=>cases QK h1;refine PE.imp (Qu F gd.room (gd.glo f hgl) hm hk hb .nil j5 n1) λZ H Q h=>?_;let(N,G,er,h):=key Z H Q h;exact h [] G H (Po.refl er) rfl
 |cons e l=>simp![List.any_cons,Bool.or_eq_false_iff]at hs;exact PE.imp (jx F gd.room (gd.glo f hgl) hm hk hb .nil j5 (A.as Gv Hv _ _ h1) n1 (qf hs.1) (qU hs.2)) key
theorem qa1:∀{m:Nat} {es:List Expr} {l:Es},cEs m L es=some l->es.any qD=false
 |0,_,_,h=>nomatch h
 | m+1,[],_,_=>rfl
 | m+1,e::es,_,h=>by
  let(hs,h):=qj h;let(a,b,_,h2,_):=qk h;rw[List.any_cons,qa1 h2,Bool.or_false]
  simpa using hs
theorem qem{G H:Hp}:∀{ds:List D} {vs:List V},qo U G ds vs->Jn U K G H (ds.map .val) vs
 |[],vs,h=>by
  show vs=[]
  simpa only[qo] using h
 | d::ds,vs,h=>by simp![qo]at h;let(v,r,rfl,h1,h2):=h;exact{v,r,rfl,h1,qem h2}
theorem qgg(gd:Gd U K k X L)(A:All U K k X L m)(f:Str)(es:List Expr)(p q:Pos)(hok:zg f=true)(hgl:glB L.sc f=true)(ht:L.tab.contains f=true)(h:(cEs m L es).map (.calF f)=some x):PE X (.Call (.Name f p) es [] q) (tR U K Gv Hv (iR L.k x)):=by
 let(l',h1,rfl):=ql h;have hs:=qa1 h1;let(fa,fd,ps,F,hm,hk,hb):=gd.fns f ht;let(n1,n2,n3):=qF hok
 have key:∀Z H Q,tR U K Gv Hv (iR L.k (.calF f l')) Z H Q->qcC (spF U K L.cl f) [] E0 (tEs U K Gv Hv (iEs L.k l')) Z H Q:=λZ H Q ⟨N,G,er,h⟩=>by refine{N,G,er,Wk.mono (Wk.th (x:=iEs L.k l' N) h) λx h vs G1 H1 p1 r1=>?_};show spF U K L.cl f (vs++[]) H1 Q E0;rw[List.append_nil];refine{G1,x.1.map .val,p1.er.sub,qem r1,Wk.mono (Wk.th h) λr h v G2 H2 hs gs sub new rr=>?_};let(z1,z2):=ReR.rv p1 hs gs sub new rr;exact h v G2 H2 z1 z2
 cases es with
 |nil=>
  have e:l'=.nil:=by cases m<;>cases h1;rfl
  subst e;refine PE.imp (Qu F gd.room (gd.glo f hgl) hm hk hb .nil j5 n1) λZ H Q h=>?_;let(N,G,er,h):=key Z H Q h;exact h [] G H (Po.refl er) .nil
 |cons e l=>simp![List.any_cons,Bool.or_eq_false_iff]at hs;exact PE.imp (jx F gd.room (gd.glo f hgl) hm hk hb .nil j5 (A.es Gv Hv _ _ h1) n1 (qf hs.1) (qU hs.2)) key
def qgh(gd:Gd U K k X L)(A:All U K k X L m)(f:Str)(a:Expr)(p q:Pos)(hgl:glB L.sc f=true)(h:oif (!qD a) (o2 (qn3 f) (cE m L a) E.b1)=some x):PE X (.Call (.Name f p) [a] [] q) (tR U K Gv Hv (iR L.k x)):=by
 let(hs,h):=qj h;have s1:qD a=false:=(-hs:)
 let(y,a',h1,h2,rfl):=qk h
 have key:∀Z H Q,tR U K Gv Hv (iR L.k (.b1 y a')) Z H Q->tCB (rC1 U K Gv Hv y.go) (qfG (tR U K Gv Hv (iR L.k a')) qj3) Z H Q:=λZ H Q ⟨N,G,er,h⟩=>{N,G,er,Wk.mono (Wk.th (x:=iR L.k a' N) h) λx h v G1 H1 p1 r1=>{x.2,Z,G1,H,x.1,v,rfl,p1.er,r1,Wk.mono (Wk.th h) λz h u G2 H2 p2 r2=>h u G2 H2 (p1.trans p2) (r2.back p1.hs)}}
 have pa:=qm (A.r Gv Hv _ _ h2) qC (qf s1);unfold qn3 at h1
 split at h1
 ·rename_i e;cases h1;subst e;exact PE.imp (qT (qlf (Gv:=Gv) (Hv:=Hv) gd) (gd.glo _ hgl) (gd.blt _ (2:)) PySem.boot_len pa (2:) (2:) (qf s1) rfl) key
 split at h1
 ·rename_i e;cases h1;subst e;exact PE.imp (zf (qiQ (Gv:=Gv) (Hv:=Hv) gd) (gd.glo _ hgl) (gd.blt _ (2:)) PyProof.Rows.boot_list pa (2:) (2:) (qf s1) rfl) key
 split at h1
 ·rename_i e;cases h1;subst e;exact PE.imp (zf (qlk (U:=U) (K:=K) (Gv:=Gv) (Hv:=Hv)) (gd.glo _ hgl) (gd.blt _ (2:)) PyProof.Rows.boot_int pa (2:) (2:) (qf s1) rfl) key
 split at h1
 ·rename_i e;cases h1;subst e;exact PE.imp (qT (qee (Gv:=Gv) (Hv:=Hv) gd) (gd.glo _ hgl) (gd.blt _ (2:)) PyProof.Rows.boot_sorted pa (2:) (2:) (qf s1) rfl) key
 split at h1
 ·rename_i e;cases h1;subst e;exact PE.imp (qT (qlg (Gv:=Gv) (Hv:=Hv) gd) (gd.glo _ hgl) (gd.blt _ (2:)) PyProof.Rows.boot_sum pa (2:) (2:) (qf s1) rfl) key
 split at h1
 ·rename_i e;cases h1;subst e;exact PE.imp (qT (qlh (Gv:=Gv) (Hv:=Hv) gd) (gd.glo _ hgl) (gd.blt _ (2:)) PyProof.Rows.boot_all pa (2:) (2:) (qf s1) rfl) key
 split at h1
 ·rename_i e;cases h1;subst e;exact PE.imp (zf (qlj (U:=U) (K:=K) (Gv:=Gv) (Hv:=Hv)) (gd.glo _ hgl) (gd.blt _ (2:)) PyProof.Rows.boot_str pa (2:) (2:) (qf s1) rfl) key
 split at h1
 ·rename_i e;cases h1;subst e;exact PE.imp (zf (qf7 (Gv:=Gv) (Hv:=Hv) gd) (gd.glo _ hgl) (gd.blt _ (2:)) PyProof.Rows.boot_tuple pa (2:) (2:) (qf s1) rfl) key
 split at h1
 ·rename_i e;cases h1;subst e;exact PE.imp (qT (qli (Gv:=Gv) (Hv:=Hv) gd) (gd.glo _ hgl) (gd.blt _ (2:)) PyProof.Rows.boot_any pa (2:) (2:) (qf s1) rfl) key
 cases h1
def qgi(gd:Gd U K k X L)(A:All U K k X L m)(f:Str)(a b:Expr)(p q:Pos)(hgl:glB L.sc f=true)(h:oif (!(qD a||qD b)) (o2 (qn4 f) (o2 (cE m L a) (cE m L b) Prod.mk) λf p=>E.b2 f p.1 p.2)=some x):PE X (.Call (.Name f p) [a,b] [] q) (tR U K Gv Hv (iR L.k x)):=by
 let(hs,h):=qj h;have hs:(qD a||qD b)=false:=(-hs:)
 rw[Bool.or_eq_false_iff]at hs;let(s1,s2):=hs;let(y,z,h1,h2,rfl):=qk h;let(a',b',h3,h4,rfl):=qk h2
 have key:∀Z H Q,tR U K Gv Hv (iR L.k (.b2 y a' b')) Z H Q->tCB (rC2 U K Gv Hv y.go) (qfG (tR U K Gv Hv (iR L.k a')) (qfG (tR U K Gv Hv (iR L.k b')) qj3)) Z H Q:=λZ H Q ⟨N,G,er,h⟩=>{N,G,er,Wk.mono (Wk.th (x:=iR L.k a' N) h) λx h v G1 H1 p1 r1=>{x.2,G1,p1.er,Wk.mono (Wk.th (x:=iR L.k b' x.2) h) λy h w G2 H2 p2 r2=>{y.2,Z,G2,H,H1,x.1,y.1,v,w,rfl,p2.er,r1.keep p2,r2,Wk.mono (Wk.th h) λz h u G3 H3 p3 r3=>h u G3 H3 (p1.trans (p2.trans p3)) (r3.back (p1.trans p2).hs)}}}
 have sa:(backTo q (starEach [b] X.env)).any (·.1)=false:=qU (by simp[s2]);have pa:=qm (A.r Gv Hv _ _ h3) (qm (A.r Gv Hv _ _ h4) qC (qf s2)) (qf s1);unfold qn4 at h1
 split at h1
 ·rename_i e;cases h1;subst e;exact PE.imp (qT (qll (Gv:=Gv) (Hv:=Hv) gd) (gd.glo _ hgl) (gd.blt _ (2:)) PyProof.Rows.boot_max pa (2:) (2:) (qf s1) sa) key
 split at h1
 ·rename_i e;cases h1;subst e;exact PE.imp (qT (qlm (Gv:=Gv) (Hv:=Hv) gd) (gd.glo _ hgl) (gd.blt _ (2:)) PyProof.Rows.boot_min pa (2:) (2:) (qf s1) sa) key
 cases h1
def qiX:bootBuiltins "ValueError" = some (.type "ValueError"):=(3:)
def tyN:D->String
 |.non=>"NoneType" |.bl _=>"bool" |.int _=>"int" |.str _=>"str" |.lst _=>"list" |.tup _=>"tuple" |.ins ..=>"object" |.exc ..=>"object" |.dct ..=>"object"
def Ty.nm:Ty->String
 |.int=>"int" |.bool=>"bool" |.str=>"str" |.list=>"list" |.tuple=>"tuple"
theorem qn9{G H Hb:Hp}{N:Env}{Z:L2.St}{r:Rv}{x:V}{t:Ty}{b:Bool}(er:ER U K Gv Hv G H N Z)(h:RvR U K Hv Hb G H N Z r x)(e:t.go r=some b):TyOf K H x (.type (tyN r.data)):=by
 cases r with
 |val d=>
  cases d<;>simp![RvR,Rep]at h
  ·subst h;exact .non
  ·subst h;exact .bl _
  ·subst h;exact .int _
  ·subst h;exact .str _
  ·let(a,xs,rfl,h1,_):=h;exact .lst (er.sub _ _ h1)
  ·let(a,xs,rfl,h1,_):=h;exact .tup (er.sub _ _ h1)
  ·cases t<;>cases e
  ·cases t<;>cases e
  ·cases t<;>cases e
 |tmp l=>let(a,xs,rfl,h1,_):=h;exact .lst h1
 |cell l=>let(a,xs,rfl,h1,_):=h;exact .lst h1
 |scr l=>cases e
theorem qlC{r:Rv}{t:Ty}{b:Bool}(e:t.go r=some b):PySem.W.kitOne K (.type (tyN r.data)) (.type t.nm)=some b:=by
 have main:∀d:D,t.of d=some b->PySem.W.kitOne K (.type (tyN d)) (.type t.nm)=some b:=λd e=>by cases t<;>cases d<;>cases e<;>rfl
 cases r with
 |val d=>exact main d e
 |tmp l=>exact main (.lst l) e
 |cell l=>exact main (.lst l) e
 |scr l=>cases e
def qen{X:Cx}:qW X (.builtin "isinstance") (λvs H Q=>∃x c t cv b,vs=[x,c]/\TyOf X.K H x t/\qH c cv/\(∀u,qH c u->u=cv)/\PySem.W.kitOne X.K t cv=some b/\Q (.bl b) H):=by intro pins s Z H xs us Q I r h;let(x,c,t,cv,b,rfl,ty,rc,uq,e,q):=h;let(u,v,rfl,ru,rv):=Zs r;obtain rfl:v=cv:=uq v rv;exact Zw I ru ty e λtk=>{.bl b,H,I.tok tk,rfl,q}
theorem qlD(gd:Gd U K k X L)(A:All U K k X L m)(a:Expr)(t:Str)(p tp q:Pos)(hgl:glB L.sc "isinstance" = true)
  (h:oif (zg t&&glB L.sc t&&(qdf L.N t).isNone&&!qD a) (match qnt t with |some y=>(cE m L a).map (E.isi y) |none=>(cE m L a).map (.isc t))=some x):PE X (.Call (.Name "isinstance" p) [a,.Name t tp] [] q) (tR U K Gv Hv (iR L.k x)):=by
 let(hc,h):=qj h;simp![Bool.and_eq_true,Bool.not_eq_true']at hc;let(((c1,c2),c3),s1):=hc
 cases hy:qnt t with
 |some y=>
  rw[hy]at h;let(a',h1,rfl):=ql h
  have hb:PE X (.Name t tp) (tC (.ty y.nm)):=by
   unfold qnt at hy
   split at hy
   ·rename_i e;cases hy;subst e;exact Jq (gd.glo _ c2) (gd.blt _ (2:)) PyProof.Rows.boot_int rfl
   split at hy
   ·rename_i e;cases hy;subst e;exact Jq (gd.glo _ c2) (gd.blt _ (2:)) PyProof.Rows.boot_bool rfl
   split at hy
   ·rename_i e;cases hy;subst e;exact Jq (gd.glo _ c2) (gd.blt _ (2:)) PyProof.Rows.boot_str rfl
   split at hy
   ·rename_i e;cases hy;subst e;exact Jq (gd.glo _ c2) (gd.blt _ (2:)) PyProof.Rows.boot_list rfl
   split at hy
   ·rename_i e;cases hy;subst e;exact Jq (gd.glo _ c2) (gd.blt _ (2:)) PyProof.Rows.boot_tuple rfl
   cases hy
  refine PE.imp (qT qfO (gd.glo _ hgl) (gd.blt _ (2:)) PyProof.Rows.boot_isinstance (qm (A.r Gv Hv _ _ h1) (qm hb qC rfl) (qf s1)) (2:) (2:) (qf s1) rfl) λZ H Q hq1=>?_;let(N,G,er,h):=hq1;refine{N,G,er,Wk.mono (Wk.th (x:=iR L.k a' N) h) λx h v G1 H1 p1 r1=>?_};let(b,e1,h):=Wk.of (Wk.th h);exact{v,y.nm,_,b,rfl,by rw[gd.hK];exact qn9 p1.er r1 e1,by rw[gd.hK];exact qlC e1,h _ G1 H1 p1 (by simp![RvR,Rep])}
 |none=>
  rw[hy]at h;let(a',h1,rfl):=ql h;rintro pins s Z H Q I ⟨N,G,er,h⟩;have h2:=Wk.th (x:=iR L.k a' N) h
  cases e1:iR L.k a' N with
  |exc c l=>rw[e1]at h2;exact h2.elim
  |no=>rw[e1]at h2;exact h2.elim
  |ok x=>
   rw[e1]at h2;let(b,e2,h3):=Wk.of (Wk.th (x:=R.of (qhf L.cs x.1 t)) h2)
   have e2:(∃c ns ds,x.1=.val (.ins c ns ds)/\L.cs.sub c t=some b)\/∃C ns ds,x.1=.val (.exc C ns ds)/\L.cs.xs C t=some b:=by
    let(r,env):=x
    cases r with
    |val d=>
     cases d with
     |ins c ns ds=>exact .inl ⟨c,ns,ds,rfl,e2⟩
     |exc c ns ds=>exact .inr ⟨c,ns,ds,rfl,e2⟩
     |_=>cases e2
    |_=>cases e2
   rcases e2 with ⟨c,ns,ds,ex,e2⟩|⟨C,ns,ds,ex,e2⟩
   case inr=>
    let(hC,hT):=gd.xsubs C t b e2
    have go:∀(c:V) (cv:Value),PE X (.Name t tp) (tC c)->qH c cv->(∀u,qH c u->u=cv)->PySem.W.kitOne X.K (.ref C) cv=some b->wpAny (model X.prog X.w) X.A (eval (.Call (.Name "isinstance" p) [a,.Name t tp] [] q) X.env) (EP X pins Z Q) X.xe s:=λc cv pc rc uq kt=>by
     refine(qT qdY (gd.glo _ hgl) (gd.blt _ (2:)) PyProof.Rows.boot_isinstance (qm (A.r Gv Hv _ _ h1) (qm pc qC rfl) (qf s1)) (2:) (2:) (qf s1) rfl) pins s Z H Q I ⟨N,G,er,?_⟩;rw[e1];intro v G1 H1 p1 r1;rw[ex]at r1;simp![RvR,Rep]at r1;let(p',od,xs,rfl,h4,h5,_):=r1;refine{p',C,od,c,cv,b,rfl,{p1.er.sub _ _ h4,λdd hdd=>?_},hC,rc,uq,kt,h3 _ G1 H1 p1 (by simp![RvR,Rep])};rcases h5 with ⟨z,_⟩|⟨d2,z,z2⟩
     ·rw[z]at hdd;cases hdd
     ·rw[z]at hdd;cases hdd;exact{_,p1.er.sub _ _ z2}
    rcases hT with ⟨T,hT,kt⟩|⟨hT,rfl,kt⟩
    ·exact go (.ref T) (.ref T) (J6 (v:=.ref T) (gd.glo _ c2) hT rfl (qF c1).1) rfl (λu hu=>hu) kt
    ·exact go (.ty "ValueError") (.type "ValueError") (Jq (gd.glo _ c2) hT qiX rfl) rfl (λu hu=>hu) kt
   let(C,T,hC,hty,hT,kt):=gd.subs c t b e2;refine(qT qen (gd.glo _ hgl) (gd.blt _ (2:)) PyProof.Rows.boot_isinstance (qm (A.r Gv Hv _ _ h1) (qm (J6 (v:=.ref T) (gd.glo _ c2) hT rfl (qF c1).1) qC rfl) (qf s1)) (2:) (2:) (qf s1) rfl) pins s Z H Q I ⟨N,G,er,?_⟩;rw[e1];intro v G1 H1 p1 r1;rw[ex]at r1;simp![RvR,Rep]at r1;let(p',dx,C',xs,hc',rfl,h4,hl,h5):=r1;rw[hC]at hc';cases hc';exact{.ref p',.ref T,.ref C,.ref T,b,rfl,hty _ _ _ _ (p1.er.sub _ _ h4),rfl,λu hu=>hu,kt,h3 _ G1 H1 p1 (by simp![RvR,Rep])}
def qa2{o:Expr}(h:y0 o=true)(x:Str)(env:PySem.Env):attributeBase o x env (eval o env)=eval o env:=by cases o<;>first|rfl|(simp[y0]at h)
theorem qiY{cs:Cs}{r:Rv}{x:Str}{d:D}(h:qdh cs r x=some d):(∃c ns ds,r=.val (.ins c ns ds)/\cs.fld c x=true/\(ns.zip ds).lookup x=some d)\/∃C ns ds,r=.val (.exc C ns ds)/\cs.xg C x=true/\(ns.zip ds).lookup x=some d:=by
 cases r with
 |val e=>
  cases e with
  |ins c ns ds=>
   have h:(if cs.fld c x=true then (ns.zip ds).lookup x else none)=some d:=h
   by_cases hf:cs.fld c x=true
   ·rw[if_pos hf]at h;exact .inl ⟨c,ns,ds,rfl,hf,h⟩
   ·rw[if_neg hf]at h;cases h
  |exc c ns ds=>
   have h:(if cs.xg c x=true then (ns.zip ds).lookup x else none)=some d:=h
   by_cases hf:cs.xg c x=true
   ·rw[if_pos hf]at h;exact .inr ⟨c,ns,ds,rfl,hf,h⟩
   ·rw[if_neg hf]at h;cases h
  |_=>cases h
 |_=>cases h
theorem qlE{cs:Cs}{r:Rv}{x f:Str}(h:mtD cs r x=some f):∃c ns ds,r=.val (.ins c ns ds)/\ns.contains x=false/\cs.mt c x=some f:=by
 cases r with
 |val e=>
  cases e with
  |ins c ns ds=>
   have h:(if ns.contains x=true then none else cs.mt c x)=some f:=h
   by_cases hf:ns.contains x=true
   ·rw[if_pos hf]at h;cases h
   ·rw[if_neg hf]at h;exact{c,ns,ds,rfl,(-hf:),h}
  |_=>cases h
 |_=>cases h
theorem qbP{x:Str}:∀{ns:List Str} {xs:List V},ns.contains x=false->(ns.zip xs).lookup x=none
 |[],_,_=>by simp
 | n::ns,[],_=>by simp
 | n::ns,v::xs,h=>by simp![List.contains_cons,Bool.or_eq_false_iff]at h;rw[List.zip_cons_cons,List.lookup_cons,h.1];exact qbP h.2
theorem qlF(gd:Gd U K k X L)(A:All U K k X L m)(o:Expr)(y:Str)(pos:Pos)(h:cE (m+1) L (.Attribute o y pos)=some x):PE X (.Attribute o y pos) (tR U K Gv Hv (iR L.k x)):=by
 let(ho,h):=qj h;let(a',h1,rfl):=ql h;rintro pins s Z H Q I ⟨N,G,er,h⟩;have h2:=Wk.th (x:=iR L.k a' N) h
 cases e0:iR L.k a' N with
 |exc c l=>rw[e0]at h2;exact h2.elim
 |no=>rw[e0]at h2;exact h2.elim
 |ok z=>
  rw[e0]at h2;let(d,e1,h):=Wk.of (Wk.th (x:=R.of (qdh L.cs z.1 y)) h2);rcases qiY e1 with ⟨c,ns,ds,e2,e3,e4⟩|⟨C,ns,ds,e2,e3,e4⟩
  ·refine qkz (A.r Gv Hv _ _ h1) (qa2 ho y X.env) pins s Z H Q I ⟨N,G,er,?_⟩;rw[e0];intro v G1 H1 p1 r1;rw[e2]at r1;simp![RvR,Rep]at r1;let(p,dx,C,xs,hc,rfl,h1,hl,h2):=r1;let(u,e5,ru):=QJ h2 e4;exact{p,C,dx,_,u,rfl,p1.er.sub _ _ h1,gd.cls c C hc,gd.flds c y C e3 hc,e5,h u G1 H1 p1 ru}
  ·refine qiE (A.r Gv Hv _ _ h1) (qa2 ho y X.env) pins s Z H Q I ⟨N,G,er,?_⟩;rw[e0];intro v G1 H1 p1 r1;rw[e2]at r1;simp![RvR,Rep]at r1;let(p,od,xs,rfl,h1,h3,h2):=r1;let(u,e5,ru):=QJ h2 e4;rcases h3 with ⟨_,z⟩|⟨dd,rfl,h3⟩
   ·rw[z]at e4;simp at e4
   ·exact{p,C,dd,_,u,rfl,p1.er.sub _ _ h1,p1.er.sub _ _ h3,gd.xgs C y e3,e5,h u G1 H1 p1 ru}
def Z2{o:Expr}{x:Str}{ap q:Pos}{es:List Expr}{env:PySem.Env}(ho:y0 o=true)(hs:es.any qD=false)(hl:es.length < 30)(hp:(ap.endLine == q.line)=true) :
  eval (.Call (.Attribute o x ap) es [] q) env=(do
   let ov<-eval o env
   standAt ap.atName
   let (f,first)<-holding [ov] (getMethod ov x (do return (<-importBound o env).getD true))
   callWith q f first (backTo q (starEach es env)) (backToKw q (keywordEach [] env))):=by
 have hm:methodCallForm (es.length+([]:List Keyword).length) (backTo q (starEach es env)) (backToKw q (keywordEach [] env))=true:=by
  have e:=qU (pos:=q) (env:=env) hs;unfold methodCallForm;simp![Bool.and_eq_true,decide_eq_true_eq];refine{{?_,rfl},?_}
  ·rw[List.all_eq_true];intro y hy
   have:=List.any_eq_false.mp e y hy
   simpa using this
  ·show es.length+0+0 < 30;omega
 show(do
  let ov<-attributeBase o x env (eval o env)
  standAt ap.atName
  methodCall o x ap q env ov (es.length+([]:List Keyword).length) (backTo q (starEach es env)) (backToKw q (keywordEach [] env)))=_
 rw[qa2 ho];unfold methodCall;simp![hm,calleeOf,methodCallPos,if_true,hp,Bool.not_true,Bool.false_or];rfl
theorem qgj{pins:PP}{s:Shared}{Z:L2.St}{H G:Hp}{Q:VK}{N:Env}{y:Rv×Env}{o:Expr}{ap q:Pos}{es:List Expr}{a':E}{l':Es}(A:All U K k X L m)(ho:y0 o=true)(hp:(ap.endLine == q.line)=true)(hl:es.length < 30)(h1:cE m L o=some a')(h2:cAs m L es=some l')
  (er:ER U K Gv Hv G H N Z) (e1:iR L.k a' N=.ok y) (h:Wk (iAs L.k l' y.2) (λz=>Wk ((ixM y.1 z.1).th λr=>R.ok (r,z.2)) (λx=>∀v G' H',Po U K Gv Hv Z G H N G' H' x.2->RvR U K Hv H G' H' x.2 Z x.1 v->Q v H'))) (I:Inv X pins Z H s) :
  wpAny (model X.prog X.w) X.A (eval (.Call (.Attribute o "index" ap) es [] q) X.env) (EP X pins Z Q) X.xe s:=by
 refine False.elim ?_
 cases e4:iAs L.k l' y.2 with
 |ok z=>rw[e4]at h;exact h
 |exc c l=>rw[e4]at h;exact h
 |no=>rw[e4]at h;exact h
theorem qiZ{pins:PP}{s:Shared}{Z:L2.St}{H G:Hp}{Q:VK}{N N1:Env}{a nm:Str}{o:Expr}{ap q:Pos}{es:List Expr}{a':E}{l':Es}(A:All U K k X L m)(gd:Gd U K k X L)(ho:y0 o=true)(hp:(ap.endLine == q.line)=true)(hl:es.length < 30)(h1:cE m L o=some a')(h2:cAs m L es=some l')
  (er:ER U K Gv Hv G H N Z) (e1:iR L.k a' N=.ok (.val (.str a),N1)) (h:Wk (iAs L.k l' N1) (λz=>Wk ((bmD nm (.val (.str a)) z.1).th λr=>R.ok (r,z.2)) (λx=>∀v G' H',Po U K Gv Hv Z G H N G' H' x.2->RvR U K Hv H G' H' x.2 Z x.1 v->Q v H'))) (I:Inv X pins Z H s) :
  wpAny (model X.prog X.w) X.A (eval (.Call (.Attribute o nm ap) es [] q) X.env) (EP X pins Z Q) X.xe s:=by
 have hs:=Yk h2
 cases e4:iAs L.k l' N1 with
 |exc c l=>rw[e4]at h;exact h.elim
 |no=>rw[e4]at h;exact h.elim
 |ok z=>
 rw[e4]at h;exact False.elim h
def qlG{o:Expr}{x:Str}{es:List Expr}{b:Bool}{t:Expr×Expr×Int}(h:dgE L o x es b=some t):∃p q i j,o=.Call (.Name "dict" p) [t.1] [] q/\x = "get"/\es=[t.2.1,.Constant (.int t.2.2) i j]/\b=true/\glB L.sc "dict" = true/\qD t.1=false/\qD t.2.1=false:=by
 unfold dgE at h
 split at h
 ·split at h
  ·rename_i hc;cases h;let(rfl,h1,h2,h3,h4,h5):=hc;exact{_,_,_,_,rfl,h1,rfl,h2,h3,h4,h5}
  ·cases h
 ·cases h
def qi0(gd:Gd U K k X L)(A:All U K k X L m)(o:Expr)(y:Str)(ap:Pos)(es:List Expr)(q:Pos){t:Expr×Expr×Int}(hd:dgE L o y es (ap.endLine == q.line)=some t)(h:o2 (cE m L t.1) (cE m L t.2.1) (.b2 (.get t.2.2))=some x):PE X (.Call (.Attribute o y ap) es [] q) (tR U K Gv Hv (iR L.k x)):=by
  let(a,e,n):=t;let(a',b',h1,h2,rfl):=qk h;let(p',q',i,j,rfl,rfl,rfl,hl,hg,s1,s2):=qlG hd;have hu:X.A.units+1 < cLine:=by have:=gd.room.un;omega
  have st:starEach [e,Expr.Constant (.int n) i j] X.env=[(false,eval e X.env),(false,eval (Expr.Constant (.int n) i j) X.env)]:=by rw[qf s2];rfl
  refine PE.imp (qd6 hu (zf (qcG gd.calm) (gd.glo _ hg) (gd.blt _ (2:)) PyProof.Rows.boot_dict (qm (A.r Gv Hv _ _ h1) qC (qf s1)) (2:) (2:) (qf s1) rfl) (A.r Gv Hv _ _ h2) (qbN (U:=U) (K:=K) (Gv:=Gv) (Hv:=Hv) (L:=L) (.int n) i j rfl) ⟨rfl,?_,hl,?_⟩) λZ H Q hq1=>?_
  ·rw[st];rfl
  ·rw[st];rfl
  let(N,G,er,h):=hq1;refine{N,G,er,Wk.mono (Wk.th (x:=iR L.k a' N) h) λy h v G1 H1 p1 r1=>?_};have h:=Wk.th (x:=iR L.k b' y.2) h
  cases e2:iR L.k b' y.2 with
  |exc c l=>rw[e2]at h;exact h.elim
  |no=>rw[e2]at h;exact h.elim
  |ok z=>
  rw[e2]at h;have h:=Wk.th (x:=qaX n y.1 z.1) h
  cases e3:qaX n y.1 z.1 with
  |exc c l=>rw[e3]at h;exact h.elim
  |no=>rw[e3]at h;exact h.elim
  |ok r=>
  rw[e3]at h;let(l,kvs,z1,z3,z4,z2):=qf8 e3;let(b,xs,rfl,q1,q2):=r1.list p1.er z1;refine{b,xs,kvs,rfl,by rw[gd.hK];exact q1,Paired.mapP (qbM q2 z3) λ_ _ ⟨c,w1,w2⟩=>{c,w1,p1.er.sub _ _ w2},z4,λd hd'=>?_};have p2:=Po.room p1.er (qp.upd (o:=HO.dK (kvs.map kvV)) hd');refine{d,rfl,.inl {_,.inl qg},y.2,G1,p2.er,?_};rw[e2];intro u G3 H3 p3 r3;refine{z.2,G3,p3.er,λw G4 H4 p4 r4=>?_};have hw:w=.int n:=by simpa only[RvR,Rep] using r4
  subst hw;rcases z2 with ⟨k',z2,rfl⟩|⟨z2,rfl⟩
  ·have hu':u=.str k':=r3.str z2;subst hu';refine{_,.inl (qkP.k (k:=.inr k') (p4.hs _ _ (p3.hs _ _ qg))),?_};rw[qeg];refine h _ G4 H4 (p1.trans (p2.trans (p3.trans p4))) ?_
   cases qiI kvs k'<;>simp![RvR,Rep,Option.map,Option.getD]
  ·have hu':u=.non:=of_decide_eq_true (r3.non.trans z2);subst hu';exact{none,.inr {_,p4.hs _ _ (p3.hs _ _ qg),rfl,rfl},h _ G4 H4 (p1.trans (p2.trans (p3.trans p4))) (by simp![RvR,Rep,Option.getD])}
theorem qi1(gd:Gd U K k X L)(A:All U K k X L m)(o:Expr)(y:Str)(ap:Pos)(es:List Expr)(q:Pos)(h:cE (m+1) L (.Call (.Attribute o y ap) es [] q)=some x):PE X (.Call (.Attribute o y ap) es [] q) (tR U K Gv Hv (iR L.k x)):=by
 have h:(if (y0 o&&(ap.endLine == q.line)&&decide (es.length < 30))=true then _ else match dgE L o y es (ap.endLine == q.line) with |some t=>_ |none=>none)=_:=h
 by_cases hc:(y0 o&&(ap.endLine == q.line)&&decide (es.length < 30))=true
 case neg=>
  rw[if_neg hc]at h
  cases hd:dgE L o y es (ap.endLine == q.line) with
  |none=>rw[hd]at h;cases h
  |some t=>rw[hd]at h;exact qi0 gd A o y ap es q hd h
 rw[if_pos hc]at h;let(a',l',h1,h2,rfl):=qk h;rintro pins s Z H Q I ⟨N,G,er,h⟩;have h:=Wk.th (x:=iR L.k a' N) h;simp![Bool.and_eq_true,decide_eq_true_eq]at hc;let((ho,hp),hl):=hc
 cases e1:iR L.k a' N with
 |exc c l=>rw[e1]at h;exact h.elim
 |no=>rw[e1]at h;exact h.elim
 |ok w=>
  rw[e1]at h
  have h:Wk (match mtD L.cs w.1 y with
   |some f=>(iAs L.k l' w.2).th λz=>(L.cl f (toAr w.1::z.1)).th λr=>R.ok (r,z.2)
   |none=>(iAs L.k l' w.2).th λz=>(bmD y w.1 z.1).th λr=>R.ok (r,z.2)) _:=h
  cases e2:mtD L.cs w.1 y with
  |none=>
   rw[e2]at h;have h:=Wk.th (x:=iAs L.k l' w.2) h;let(wr,wρ):=w
   by_cases hs:∃a,wr=.val (.str a)
   ·let(a,rfl):=hs;exact qiZ A gd ho hp hl h1 h2 er e1 h I
   ·have hb:∀as,bmD y wr as=if y = "index" then ixM wr as else .no:=by
     cases wr with
     |val d=>
      cases d with
      |str a=>exact absurd ⟨a,rfl⟩ hs
      |_=>intro as;rfl
     |_=>intro as;rfl
    by_cases hx:y = "index"
    ·subst hx;refine qgj A ho hp hl h1 h2 er e1 (Wk.mono h λz hz=>?_) I;rw[hb,if_pos rfl]at hz;exact hz
    ·refine False.elim ?_
     cases e4:iAs L.k l' wρ with
     |ok z=>rw[e4]at h;have h:Wk ((bmD y wr z.1).th _) _:=h;rw[hb,if_neg hx]at h;exact h
     |exc c l=>rw[e4]at h;exact h
     |no=>rw[e4]at h;exact h
  |some f=>
  rw[e2]at h;let(c,ns,ds,e3,e4,e5):=qlE e2;let(C,fa,fd,ps,hC,M,F,B):=gd.mts c y f e5;have h:=Wk.th (x:=iAs L.k l' w.2) h;have hs:=Yk h2;have hs0:=hs
  have all:qh7 C y (spF U K L.cl f) [] E0 (tR U K Gv Hv (iR L.k a')) (tAs U K Gv Hv (iAs L.k l')) Z H Q:=by
   refine{N,G,er,?_};rw[e1];intro v G1 H1 p1 r1;have r1':=r1;rw[e3]at r1';simp![RvR,Rep]at r1';let(p',dx,C',xs,hc',rfl,h4,hl,h5):=r1';rw[hC]at hc';cases hc';refine{p',dx,_,rfl,p1.er.sub _ _ h4,qbP e4,w.2,G1,p1.er,Wk.mono h λz h vs G2 H2 p2 r2=>?_};show spF U K L.cl f (V.ref p'::(vs++[])) H2 Q E0;rw[List.append_nil];refine{G2,toAr w.1::z.1,p2.er.sub,{_,_,rfl,?_,r2},Wk.mono (Wk.th h) λr h v G3 H3 hs gs sub new rr=>?_}
   ·rw[e3]at r1 ⊢;exact Rep.same p2.gs r1
   ·let(z1,z2):=ReR.rv (p1.trans p2) hs gs sub new rr;exact h v G3 H3 z1 z2
  cases es with
  |nil=>cases QK h2;refine qfH (A.r Gv Hv _ _ h1) (gd.cls c C hC) M F gd.room B .nil j5 (ht:=Z2 ho hs0 hl hp) pins s Z H Q I ?_;let(N',G',er',z):=all;refine{N',G',er',Wk.mono z λx z v G1 H1 p1 r1=>?_};let(a,dx,fs,z1,z2,z3,N2,G2,er2,z):=z v G1 H1 p1 r1;exact{a,dx,fs,z1,z2,z3,z [] G2 H1 (Po.refl er2) rfl}
  |cons e l=>simp![List.any_cons,Bool.or_eq_false_iff]at hs;exact qh9 (A.r Gv Hv _ _ h1) (gd.cls c C hC) M F gd.room B .nil j5 (A.as Gv Hv _ _ h2) (qf hs.1) (qU hs.2) (ht:=Z2 ho hs0 hl hp) pins s Z H Q I all
theorem qi2(gd:Gd U K k X L)(A:All U K k X L m)(f:Str)(es:List Expr)(p q:Pos)(hok:zg f=true)(hgl:glB L.sc f=true)(ht:L.cs.tab.contains f=true)(h:(cAs m L es).map (.new f)=some x):PE X (.Call (.Name f p) es [] q) (tR U K Gv Hv (iR L.k x)):=by
 let(l',h1,rfl):=ql h;have hs:=Yk h1;rcases gd.mks f ht with hno|⟨C,fa,fd,ps,sp,M,F,hm,hb,hk,hsp⟩
 ·rintro pins s Z H Q I ⟨N,G,er,h⟩;have h:=Wk.th (x:=iAs L.k l' N) h
  cases e1:iAs L.k l' N with
  |ok x=>rw[e1]at h;have h:Wk ((L.nw f x.1).th _) _:=h;rw[hno]at h;exact h.elim
  |exc c l=>rw[e1]at h;exact h.elim
  |no=>rw[e1]at h;exact h.elim
 let(n1,n2,n3):=qF hok
 have rm:Room (k - 1+1) X.A:=by rw[show k - 1+1=k by omega];exact gd.room
 have key:∀Z H Q,tR U K Gv Hv (iR L.k (.new f l')) Z H Q->qh8 C sp [] E0 (tAs U K Gv Hv (iAs L.k l')) Z H Q:=λZ H Q ⟨N,G,er,h⟩=>by refine{N,G,er,Wk.mono (Wk.th (x:=iAs L.k l' N) h) λx h vs G1 H1 p1 r1=>?_};show∀x dx,H1 x=none->H1 dx=none->dx≠x->sp (.ref x::(vs++[])) _ _ E0;rw[List.append_nil];refine hsp vs H1 Q ⟨G1,x.1,p1.er.sub,r1,Wk.mono (Wk.th h) λr h v G2 H2 hs gs sub new rr=>?_⟩;let(z1,z2):=ReR.rv p1 hs gs sub new rr;exact h v G2 H2 z1 z2
 cases es with
 |nil=>cases QK h1;refine PE.imp (qfI M F rm (gd.glo f hgl) hm hb .nil j5 n1) λZ H Q h=>?_;let(N,G,er,h):=key Z H Q h;exact h [] G H (Po.refl er) rfl
 |cons e l=>simp![List.any_cons,Bool.or_eq_false_iff]at hs;exact PE.imp (qia M F rm (gd.glo f hgl) hm hb .nil j5 (A.as Gv Hv _ _ h1) n1 (qf hs.1) (qU hs.2)) key
end
def gT(U:KC)(K:Frag)(t:Tg):TG:=λv Z H Q=>∃(Gv Hv:Hp) (N:Env) (G:Hp) (d:D),ER U K Gv Hv G H N Z/\Rep U G d v/\Wk (t.go d N) λN'=>∀Z',ER U K Gv Hv G H N' Z'->Q Z' H
def gNs(U:KC)(K:Frag)(l:List Nat):TGs:=λvs Z H Q=>∃(Gv Hv:Hp) (N:Env) (G:Hp) (ds:List D),ER U K Gv Hv G H N Z/\qo U G ds vs/\Wk (QE l ds N) λN'=>∀Z',ER U K Gv Hv G H N' Z'->Q Z' H
def PG.imp{X:Cx}{tg:Expr}{t t':TG}(h:PG X tg t')(i:∀v Z H Q,t v Z H Q->t' v Z H Q):PG X tg t:=λpins s Z H v u Q I r hw=>h pins s Z H v u Q I r (i v Z H Q hw)
def PGs.imp{X:Cx}{tg:List Expr}{t t':TGs}(h:PGs X tg t')(i:∀v Z H Q,t v Z H Q->t' v Z H Q):PGs X tg t:=λpins s Z H v u Q I r hw=>h pins s Z H v u Q I r (i v Z H Q hw)
section
variable{U:KC}{K:Frag}{Gv Hv:Hp}{k m:Nat}{X:Cx}{L:Ct}{x:E}
def Z3(gd:Gd U K k X L){y:Str}{i:Nat}(h:qdj L y=some i):L2.Loc X.env.scope y/\(X.fn y=true\/X.env.scope.names.lookup y=some .local)/\X.N.Nodup/\X.N[i]?=some y:=by unfold qdj at h;let(hc,h):=qj h;rw[Bool.and_eq_true]at hc;let(l1,l2):=gd.loc y hc.1;exact{l1,l2,by rw[gd.hN];exact gd.nd,by rw[gd.hN];exact QF h}
def qlH(gd:Gd U K k X L){y:Str}{i:Nat}(h:qdj L y=some i)(pos:Pos):PG X (.Name y pos) (gT U K (.one i)):=by let(l1,l2,l3,l4):=Z3 gd h;refine PG.imp (qhZ (i:=i) l3 l4 l1 l2) λv Z H Q hq1=>?_;let(Gv,Hv,N,G,d,er,r,h):=hq1;exact h _ (er.setVal r)
theorem qbQ{e:Expr}{es:List Expr}{j:Nat}{p:Pos}{xs:List Str}(h:zF (.Tuple (e::es) j p)=some xs):∃x pos r,e=.Name x pos/\xs=x::r/\zF (.Tuple es j p)=some r:=by
 have q0:zF (.Tuple es j p)=(es.foldr (λe r=>match e,r with |.Name x _,some l=>some (x::l) |_,_=>none) (some []):Option (List Str)):=rfl
 cases e with
 |Name x pos=>
  cases q:(es.foldr (λe r=>match e,r with |.Name x _,some l=>some (x::l) |_,_=>none) (some []):Option (List Str)) with
  |none=>have h':(match (Expr.Name x pos:Expr),(es.foldr (λe r=>match e,r with |.Name x _,some l=>some (x::l) |_,_=>none) (some []):Option (List Str)) with |.Name x _,some l=>some (x::l) |_,_=>none)=some xs:=h;rw[q]at h';cases h'
  |some l=>have h':(match (Expr.Name x pos:Expr),(es.foldr (λe r=>match e,r with |.Name x _,some l=>some (x::l) |_,_=>none) (some []):Option (List Str)) with |.Name x _,some l=>some (x::l) |_,_=>none)=some xs:=h;rw[q]at h';cases h';exact{x,pos,l,rfl,rfl,q0.trans q}
 |_=>cases h
theorem qhr(gd:Gd U K k X L){j:Nat}{p:Pos}:∀{es:List Expr} {xs:List Str} {l:List Nat},zF (.Tuple es j p)=some xs->qf2 L xs=some l->PGs X es (gNs U K l)
 | [],xs,l,h,h'=>by
  have e:xs=[]:=by unfold zF at h;cases h;rfl
  subst e;cases h';refine PGs.imp qh0 λvs Z H Q hq1=>?_;let(Gv,Hv,N,G,ds,er,r,h):=hq1
  cases ds with
  |nil=>simp![qo]at r;exact{r,h Z er}
  |cons d ds=>exact False.elim h
 | e::es,xs,l,h,h'=>by
  let(x,pos,r,rfl,rfl,h0):=qbQ h;let(i,l,h1,h2,rfl):=qk h';refine PGs.imp (qfB (qlH gd h1 pos) (qhr gd h0 h2)) λvs Z H Q hq1=>?_;let(Gv,Hv,N,G,ds,er,rr,h):=hq1
  cases ds with
  |nil=>exact False.elim h
  |cons d ds=>simp![qo]at rr;let(v,vr,rfl,r1,r2):=rr;exact{v,vr,rfl,Gv,Hv,N,G,d,er,r1,λZ1 er1=>{Gv,Hv,_,G,ds,er1,r2,h}}
theorem Z4{env:PySem.Env}{j:Nat}{p:Pos}:∀{es:List Expr} {xs:List Str} {l:List Nat},zF (.Tuple es j p)=some xs->qf2 L xs=some l->(assignEach es env).length=l.length/\(assignEach es env).findIdx? (·.1)=none
 | [],xs,l,h,h'=>by unfold zF at h;cases h;cases h';exact⟨rfl,rfl⟩
 | e::es,xs,l,h,h'=>by let(x,pos,r,rfl,rfl,h0):=qbQ h;let(i,l,h1,h2,rfl):=qk h';let(h1,h2):=Z4 (env:=env) h0 h2;have e:assignEach (.Name x pos::es) env=(false,assign (.Name x pos) env)::assignEach es env:=rfl;rw[e];refine{by simp[h1],?_};rw[List.findIdx?_cons];simp[h2]
theorem Z5:∀{l:List Nat} {ds:List D} {N:Env} {F:Env->Prop},Wk (QE l ds N) F->ds.length=l.length
 |[],[],_,_,_=>rfl
 | [],_::_,_,_,h=>False.elim h
 | _::_,[],_,_,h=>False.elim h
 | i::l,d::ds,N,F,h=>congrArg (· + 1) (Z5 (l:=l) (ds:=ds) (N:=N.set i (.val d)) h)
theorem qgk(gd:Gd U K k X L)(tg:Expr){t:Tg}(h:cTg L tg=some t):PG X tg (gT U K t):=by
 cases tg with
 |Name x pos=>let(i,h1,rfl):=ql h;exact qlH gd h1 pos
 |Tuple es j p=>
  let(hs,h):=qj h
  cases hx:zF (.Tuple es j p) with
  |none=>rw[hx]at h;cases h
  |some xs=>
   rw[hx]at h;let(l,h2,rfl):=ql h;let(t1,t2):=Z4 (env:=X.env) hx h2;refine PG.imp (qkn (n:=l.length) gd.calm (qhr gd hx h2) t1 t2) λv Z H Q hq1=>?_;let(Gv,Hv,N,G,d,er,r,h):=hq1
   cases d with
   |tup ds=>have h:Wk (QE l ds N) _:=h;simp![Rep]at r;let(a,ys,rfl,r1,r2):=r;exact{a,ys,rfl,SqT.of (er.sub _ _ r1),by rw[<-r2.len];exact Z5 h,Gv,Hv,N,G,ds,er,r2,h}
   |_=>exact False.elim h
 |_=>cases h
theorem qhs{env:PySem.Env}:∀{names:List (Str×NameKind)} {x:Str},names.lookup x=some .globalImplicit->
  (names.map λ(n,k)=>if (k == NameKind.free&&env.scope.kind == .function&&env.kindOf n == some .cell) then (n,NameKind.cell) else (n,k)).lookup x=some .globalImplicit
 |[],_,h=>by simp at h
 | (n,k)::r,x,h=>by
  simp![List.map_cons]
  by_cases hx:x=n
  ·subst hx;simp[List.lookup_cons]at h;subst h;rw[if_neg (5:)];simp[List.lookup_cons]
  ·have hb:(x == n)=false:=(-hx:)
   rw[List.lookup_cons,hb]at h;have ih:=qhs (env:=env) h
   by_cases hc:(k == NameKind.free&&env.scope.kind == .function&&env.kindOf n == some .cell)=true
   ·rw[if_pos hc];simp![List.lookup_cons,hb];exact ih
   ·rw[if_neg hc];simp![List.lookup_cons,hb];exact ih
def Z6(gd:Gd U K k X L){own:List Str}{fr:List Nat}{sc:Scope}(h:J0 L.sc L.N fr sc=true):BlkScope X own fr sc:=by
 unfold J0 at h;simp![Bool.and_eq_true,List.all_eq_true]at h;let((hk,hn),hf):=h;refine{by simpa using hk,λx hx=>by simpa using (hn x hx).1.1,λx hx e=>?_,λx hx e=>?_,λi hi=>?_}
 ·have:=(hn x hx).1.2
  simpa [e] using this
 ·have:=(hn x hx).2
  exact gd.cf x.1 (by simpa [e] using this)
 ·rw[gd.hN]
  simpa using hf i hi
def Y8(gd:Gd U K k X L){own:List Str}{fr:List Nat}{sc:Scope}(B:BlkScope X own fr sc)(hnd:(own++fr.map λi=>L.N.getD i "").Nodup)(cl:List (Str×Addr))(C:Addr)(fp:List Addr)(s2:Shared)(H2:Hp) :
  Gd U K k (blk X (JI X own fr) sc cl C fp s2 H2) { L with N:=own++fr.map λi=>L.N.getD i "",sc:=sc } where
 hN:=by show JI X own fr=_;unfold JI;rw[gd.hN]
 vis:=λx h=>by
  have h:=qhj h;rcases h with h|h|h
  ·exact .inl (lookup_relabel_local h)
  ·exact absurd rfl (B.nocell _ (PySem.mem_of_lookup h))
  ·rcases JZ (env:=X.env) h with z|z
   ·exact .inr (.inl z)
   ·exact .inr (.inr z)
 loc:=λx h=>by
  have h:=qec h;rcases h with h|h
  ·have z:(relabel sc X.env).names.lookup x=some .local:=lookup_relabel_local h;exact{.inl z,.inr z}
  ·exact absurd rfl (B.nocell _ (PySem.mem_of_lookup h))
 glo:=λx h=>by unfold glB at h;exact qhs (env:=X.env) (-h:)
 cf:=λx h=>by
  rcases h with h|h
  ·exact absurd rfl (B.nocell _ (PySem.mem_of_lookup h))
  ·exact JZ (env:=X.env) h
 nd:=hnd
 calm:=gd.calm
 hK:=gd.hK
 room:=gd.room
 fns:=gd.fns
 blt:=gd.blt
 gl:=gd.gl
 cls:=gd.cls
 flds:=gd.flds
 xsubs:=gd.xsubs
 xgs:=gd.xgs
 mts:=gd.mts
 mks:=gd.mks
 subs:=gd.subs
def qlI{G H:Hp}{N:Env}{Z:L2.St}(er:ER U K Gv Hv G H N Z)(own:List Str)(fr:List Nat):ER U K G H G H (JT own.length fr N) (YX own fr Z):=by
 refine{by simp[JT,YX],er.sub,λ_ _ e=>e,λ_ _ e=>e,λa o e=>.inl ⟨o,e⟩,λi s e=>?_,λi j a l n e1=>?_}
 ·unfold JT at e;unfold YX
  by_cases hi:i < own.length
  ·rw[List.getElem?_append_left (-hi:)]at e;obtain rfl:=List.eq_of_mem_replicate (List.mem_of_getElem? e);trivial
  ·rw[List.getElem?_append_right (-hi:)]at e ⊢;simp![List.length_map,List.length_replicate]at e ⊢;rw[List.getElem?_map]at e ⊢;let(j,e1,rfl):=Option.map_eq_some_iff.mp e;rw[e1];show SlR U K G H H (qd8 (N.getD j .no)) (some (Z[j]?).join)
   cases q:N[j]? with
   |none=>rw[List.getD_eq_getElem?_getD,q];trivial
   |some s=>
    rw[List.getD_eq_getElem?_getD,q];have w:=er.sl j s q
    cases s with
    |no=>trivial
    |val d=>let(v,z,r):=w;exact{v,by rw[z];rfl,r}
    |own l=>let(a,xs,z,r1,r2,r3,r4):=w;exact{a,xs,by rw[z];rfl,r1,r4}
    |bor l=>let(a,xs,z,r1,r4):=w;exact{a,xs,by rw[z];rfl,er.base _ _ r1,r4}
    |scr l=>let(a,xs,z,r1,r4):=w;exact{a,xs,by rw[z];rfl,er.base.seq r1,r4}
 ·exfalso;unfold JT at e1
  by_cases hi:i < own.length
  ·rw[List.getElem?_append_left (-hi:)]at e1
   cases List.eq_of_mem_replicate (List.mem_of_getElem? e1)
  ·rw[List.getElem?_append_right (-hi:),List.getElem?_map]at e1;let(j,_,z):=Option.map_eq_some_iff.mp e1
   cases q:N.getD j .no<;>rw[q]at z<;>cases z
def qa3{it:Expr}(h:ZX it=true)(env:PySem.Env):∀x,foldedSetIterable it env x=pure x:=by
 intro x
 cases it<;>first|rfl|(simp[ZX]at h)
def qlJ(A:All U K k X L m)(e:Expr){x:E}(hx:cX m L e=some x):PE X e (λZ H Q=>∃Gv Hv,tE U K Gv Hv (jZ x (iR L.k x)) Z H Q):=λpins s Z H Q I ⟨Gv,Hv,h⟩=>A.e Gv Hv e x hx pins s Z H Q I h
def qht(A:All U K k X L m)(es:List Expr){x:F}(hx:cF m L es=some x):PIf X es (λZ H Q=>∃Gv Hv,tT U K Gv Hv (iF L.k x) Z H Q):=λpins s Z H Q I ⟨Gv,Hv,h⟩=>A.f Gv Hv es x hx pins s Z H Q I h
structure CompS(L:Ct)(m:Nat)(elt tg it:Expr)(ifs:List Expr)(sc:Scope)(own:List Str)(el:E)(src:I)(t:Tg)(c:F):Prop where
 chk:J0 L.sc L.N (Y7 L.N sc) sc=true
 nd:(own++(Y7 L.N sc).map λi=>L.N.getD i "").Nodup
 fold:ZX it=true
 src:cC L it (cI m L (qf0 tg) it)=some src
 tg:cTg { L with N:=own++(Y7 L.N sc).map λi=>L.N.getD i "",sc:=sc } tg=some t
 c:cF m { L with N:=own++(Y7 L.N sc).map λi=>L.N.getD i "",sc:=sc } ifs=some c
 el:cX m { L with N:=own++(Y7 L.N sc).map λi=>L.N.getD i "",sc:=sc } elt=some el
theorem qlK{elt:Expr}{gs:List Comprehension}{sc:Scope}{pos:Pos}(h:cE (m+1) L (.ListComp elt gs sc pos)=some x):∃tg it ifs own el src t c,gs=[⟨tg,it,ifs,0⟩]/\CompS L m elt tg it ifs sc own el src t c/\x=.comp el src t c own.length (Y7 L.N sc):=by
 match gs,h with
 |[⟨tg,it,ifs,as⟩],h=>
  let(ha,h):=qj h;obtain rfl:as=0:=of_decide_eq_true ha;dsimp only at h
  cases hx:zF tg with
  |none=>rw[hx]at h;cases h
  |some own=>rw[hx]at h;let(hc,h):=qj h;let(p1,p2,h1,h2,rfl):=qk h;let(src,t,h3,h4,rfl):=qk h1;let(c,el,h5,h6,rfl):=qk h2;simp![Bool.and_eq_true]at hc;exact{tg,it,ifs,own,el,src,t,c,rfl,{hc.1.1,of_decide_eq_true hc.1.2,hc.2,h3,h4,h5,h6},rfl}
 |[],h=>cases h
 | _::_::_,h=>cases h
def tC(U:KC)(K:Frag)(Gv Hv:Hp)(f:Env->R (List D×Env)):TI:=λZ H Q=>∃N G,ER U K Gv Hv G H N Z/\Wk (f N) λx=>∀J G' H',Po U K Gv Hv Z G H N G' H' x.2->ItR U H' G' J x.1->Q J H'
def qoX(gd:Gd U K k X L)(A:All U K k X L m)(tg it:Expr){src:I}(hs:cC L it (cI m L (qf0 tg) it)=some src):PI X tg it (tC U K Gv Hv (iI L.k src)):=by rintro pins s Z H Q I ⟨N,G,er,h⟩;have hs:cI m L (qf0 tg) it=some src:=hs;exact A.i Gv Hv tg it src hs pins s Z H Q I ⟨N,G,er,Wk.mono h λx h J G' H' p it1=>h J G' H' p λi G2 H2 g hh sub=>it1 i G2 H2 g (λb o e=>hh b o (p.er.base b o e)) sub⟩
def qbR{elt tg it:Expr}{ifs:List Expr}{sc:Scope}{own:List Str}{el:E}{src:I}{t:Tg}{c:F}(S:CompS L m elt tg it ifs sc own el src t c):∀Z H Q,tR U K Gv Hv (iR L.k (.comp el src t c own.length (Y7 L.N sc))) Z H Q->
  qik own (Y7 L.N sc) (tC U K Gv Hv (iI L.k src)) (gT U K t) (λZ H Q=>∃Gv Hv,tT U K Gv Hv (iF L.k c) Z H Q) (λZ H Q=>∃Gv Hv,tE U K Gv Hv (jZ el (iR L.k el)) Z H Q) Z H Q:=λZ H Q ⟨N,G,er,h⟩=>by
 refine{N,G,er,Wk.mono (Wk.th (x:=iI L.k src N) h) λx h J G1 H1 p1 it1=>?_};let(hz,h):=Wk.iff h;have h:=Wk.th h
 refine{λi mm ys Z' H'=>mm=x.1.length - i/\i<=x.1.length/\∃Nb Gb ds,ER U K G1 H1 Gb H' Nb Z'/\qo U Gb ds ys/\ds.length<=i/\
   Wk (qd9 t.go (λN1=>iF L.k c N1) (jZ el (iR L.k el)) (x.1.drop i) Nb ds)
    (λl=>∀v G' H',Po U K Gv Hv Z G H N G' H' x.2->RvR U K Hv H G' H' x.2 Z (.tmp l) v->Q v H'),
  {x.1.length,by simp,Nat.zero_le _,JT own.length (Y7 L.N sc) x.2,G1,[],qlI p1.er own (Y7 L.N sc),.nil,Nat.le_refl _,?_},?_}
 ·rw[List.drop_zero];exact h
 rintro i mm ys Z' H' ⟨rfl,hi,Nb,Gb,ds,erb,rds,hdl,hw⟩;have it2:=it1 i Gb H' erb.g0 erb.base erb.sub
 by_cases hlt:i < x.1.length
 ·let(go,yl):=it2.1 x.1[i] (List.getElem?_eq_getElem hlt);have hyl:=rds.len;refine .inr ⟨go,by lia,_,λys' Z2 H2 w=>{x.1.length - (i+1),by lia,w},λv H2 hy=>?_⟩;let(G',hs,gs,sub,new,rep):=yl v H2 hy;have p2:=Po.more erb hs gs sub new;rw[List.drop_eq_getElem_cons hlt]at hw;refine{G1,H1,Nb,G',x.1[i],p2.er,rep,Wk.mono (Wk.th hw) λN1 hw Z1 er1=>{G1,H1,N1,G',er1,Wk.mono (Wk.th hw) λbt hw G2 H3 p3=>?_}};let(b,N2):=bt
  cases b with
  |true=>rw[if_pos rfl];refine{G1,H1,N2,G2,p3.er,Wk.mono (Wk.th hw) λy hw w G3 H4 p4 rep4=>{rfl,hlt,y.2,G3,ds++[y.1],p4.er,?_,by simp;lia,(Wk.iff hw).2}};exact(((rds.same gs).same p3.gs).same p4.gs).snoc rep4
  |false=>rw[if_neg (λz=>by cases z)];exact{rfl,hlt,N2,G2,ds,p3.er,(rds.same gs).same p3.gs,by lia,hw}
 ·have e:i=x.1.length:=by lia
  subst e;refine .inl ⟨it2.2 rfl,λp hp=>?_⟩;rw[List.drop_length]at hw;have p2:=p1.trans (Po.more p1.er erb.base erb.g0 erb.sub erb.fresh);let(z1,z2):=p2.er.newList hp rds;exact hw _ _ _ (p2.trans z1) (z2.back p2.hs)
def qi3(gd:Gd U K k X L)(A:All U K k X L m)(ih:∀X' L',Gd U K k X' L'->All U K k X' L' m)(elt:Expr)(gs:List Comprehension)(sc:Scope)(pos:Pos)(h:cE (m+1) L (.ListComp elt gs sc pos)=some x):PE X (.ListComp elt gs sc pos) (tR U K Gv Hv (iR L.k x)):=by
 let(tg,it,ifs,own,el,src,t,c,rfl,S,rfl):=qlK h;have B:BlkScope X own (Y7 L.N sc) sc:=Z6 gd S.chk
 exact PE.imp (qim own (Y7 L.N sc) gd.calm B (qoX (Gv:=Gv) (Hv:=Hv) gd A tg it S.src) (λcl C fp s2 H2=>qgk (Y8 gd B S.nd cl C fp s2 H2) tg S.tg) (λcl C fp s2 H2=>qht (ih _ _ (Y8 gd B S.nd cl C fp s2 H2)) ifs S.c)
  (λcl C fp s2 H2=>qlJ (ih _ _ (Y8 gd B S.nd cl C fp s2 H2)) elt S.el) (qa3 S.fold X.env)) (qbR S)
theorem qi4(gd:Gd U K k X L)(A:All U K k X L m)(f:Str)(es:List Expr)(p q:Pos)(h:cE (m+1) L (.Call (.Name f p) es [] q)=some x):PE X (.Call (.Name f p) es [] q) (tR U K Gv Hv (iR L.k x)):=by
 let(hn,h):=qj h;simp![Bool.and_eq_true]at hn;let((h1,h2),h3):=hn
 by_cases hi:f = "isinstance"
 ·subst hi;rw[if_pos rfl]at h
  match es,h with
  |[a,b],h=>
   cases b with
   |Name t tp=>exact qlD gd A a t p tp q h2 h
   |_=>cases h
  |[],h=>cases h
  |[_],h=>cases h
  | _::_::_::_,h=>cases h
 rw[if_neg hi]at h
 by_cases ht:L.tab.contains f=true
 ·rw[if_pos ht]at h
  by_cases hf:(f = "_law_let"/\es.length=2)\/f = "_law_day"\/f = "_law_alike"
  ·rw[if_pos hf]at h;exact qgg gd A f es p q h1 h2 ht h
  ·rw[if_neg hf]at h
   by_cases hn:f = "parted"/\L.tab.contains "_law_parted" = true
   ·rw[if_pos hn]at h;exact qgf gd A f es p q h1 h2 ht h
   rw[if_neg hn]at h;exact qgd gd A f es p q h1 h2 ht h
 rw[if_neg ht]at h
 by_cases hk:L.cs.tab.contains f=true
 ·rw[if_pos hk]at h;exact qi2 gd A f es p q h1 h2 hk h
 rw[if_neg hk]at h
 match es,h with
 |[a],h=>exact qgh gd A f a p q h2 h
 |[a,b],h=>exact qgi gd A f a b p q h2 h
 |[],h=>cases h
 | _::_::_::_,h=>cases h
theorem qp9(gd:Gd U K k X L)(A:All U K k X L m)(ih:∀X' L',Gd U K k X' L'->All U K k X' L' m)(e:Expr)(x:E)(h:cE (m+1) L e=some x):PE X e (tR U K Gv Hv (iR L.k x)):=by
 cases e with
 |Name x pos=>exact qf3 gd h pos
 |Constant c j pos=>exact qbN c j pos h
 |BinOp a op b pos=>exact qga A a b op pos h
 |UnaryOp op a pos=>
  cases op with
  |USub=>exact qln A a pos h
  |Not=>exact qiR A a pos h
  |_=>cases h
 |BoolOp op vs pos=>
  match vs,h with
  |[],h=>cases op<;>cases h
  |[a],h=>cases op<;>(let(a',h1,rfl):=ql h;exact PE.imp (qki (A.r Gv Hv _ _ h1)) λZ H Q h=>h)
  | a::b::l,h=>
   cases op with
   |And=>exact qlo A a b l pos h
   |Or=>cases h
 |Compare a ops bs pos=>
  match ops,bs,h with
  |[op],[b],h=>exact qiS gd A a b op pos h
  |[],_,h=>cases h
  |[_],[],h=>cases h
  | [_],_::_::_,h=>cases h
  | _::_::_,_,h=>cases h
 |IfExp c a b pos=>exact qlp A c a b pos h
 |Subscript a b pos=>exact qlr gd A a b pos h
 |List es pos=>exact qls A es pos h
 |Tuple es j pos=>exact qlt A es j pos h
 |Call fn es kws q=>
  cases fn with
  |Name f p=>
   cases kws with
   |nil=>exact qi4 gd A f es p q h
   |cons kw kws=>cases h
  |Attribute o x ap=>
   cases kws with
   |nil=>exact qi1 gd A o x ap es q h
   |cons kw kws=>cases h
  |_=>cases h
 |Attribute o x pos=>exact qlF gd A o x pos h
 |ListComp elt gens sc pos=>exact qi3 gd A ih elt gens sc pos h
 |_=>cases h
theorem all:∀(m:Nat) (X:Cx) (L:Ct),Gd U K k X L->All U K k X L m
 |0,_,_,_=>qp2
 | m+1,X,L,gd=>
  have A:=all m X L gd
  ⟨λGv Hv=>qp9 gd A (all m),λGv Hv=>qp3 gd A,λGv Hv=>qp6 gd A,λGv Hv=>qn7 A,λGv Hv=>qn8 A,λGv Hv=>qp4 A,λGv Hv=>qp5 A,λGv Hv=>qp7 gd A,λGv Hv=>qp8 gd A⟩
end
section
variable(U:KC)(K:Frag)(Gv Hv:Hp)
def FlP(G:Hp)(D:Ends):Fl->Prop
 | .next N'=>∀Z' G' H',ER U K Gv Hv G' H' N' Z'->qp G G'->D.nx Z' H'
 |.ret r=>∀v G' H',qp Hv H'->qp Gv G'->qp G' H'->(∀a o,G' a=some o->(∃o',Gv a=some o')\/Hv a=none)->ReR U G' H' Hv r v->D.rt v H'
def tS(f:Env->R Fl):TS:=λD Z H=>∃N G,ER U K Gv Hv G H N Z/\Wk (f N) (FlP U K Gv Hv G D)
end
structure Gs(U:KC)(K:Frag)(k:Nat)(X:Cx)(L:Ct):Prop extends Gd U K k X L where
 own:PassesOwn (model X.prog X.w) X.A X.env X.xe
 nx:∀e s,X.xe e s->False
 sceq:X.env.scope=L.sc
 fnk:L.sc.kind=.function
def PS.imp{X:Cx}{st:Stmt}{t t':TS}(h:PS X st t')(i:∀D Z H,t D Z H->t' D Z H):PS X st t:=λpins s Z H D I hw=>h pins s Z H D I (i D Z H hw)
def PSs.imp{X:Cx}{st:List Stmt}{t t':TS}(h:PSs X st t')(i:∀D Z H,t D Z H->t' D Z H):PSs X st t:=λpins s Z H D I hw=>h pins s Z H D I (i D Z H hw)
def Yl{e:Expr}(h:yK e=true)(t:Option Expr)(l:Nat)(env:PySem.Env):swapsWith e t l env=pure false:=by cases e<;>first|rfl|(simp[yK]at h)
section
variable{U:KC}{K:Frag}{Gv Hv:Hp}{k m w:Nat}{X:Cx}{L:Ct}
def jz{N:Env}{i:Nat}{l:List D}(h:zD N i=some l):N[i]?=some (.own l):=by
 unfold zD at h
 split at h
 ·rename_i e;cases h;exact e
 ·cases h
def ER.ownSlot{G H:Hp}{N:Env}{Z:L2.St}{i:Nat}{l:List D}(er:ER U K Gv Hv G H N Z)(e:N[i]?=some (.own l)):∃a xs,Z[i]?=some (some (.ref a))/\H a=some (.lst xs)/\qo U G l xs:=by let(a,xs,z,h1,h2,h3,h4):=er.sl i _ e;exact⟨a,xs,z,h1,h4⟩
theorem qeo(gd:Gd U K k X L)(A:All U K k X L m)(x:Str)(a:Expr)(xp ap cp p:Pos){i:Nat}{a':E}(hl:(ap.endLine == cp.line)=true)(s1:qD a=false)(hi:qfu L x=some i)(ha:cX m L a=some a') :
  PS X (.Expr (.Call (.Attribute (.Name x xp) "append" ap) [a] [] cp) p) (tS U K Gv Hv (iS L.k w (.app i a'))):=by
 have few:((backTo cp (starEach [a] X.env)).all (λx=>!x.1)&&(backToKw cp (keywordEach [] X.env)).all (λx=>x.1.isSome)&&decide (([a]:List Expr).length+([]:List Keyword).length+(if ([]:List Keyword).isEmpty then 0 else 1) < 30))=true:=by rw[qf s1];rfl
 refine PS.imp (yJ (qkH PySem.F.plainAttrs_list PySem.F.slot_list_append PySem.F.type_list_append qdF (qbI gd hi xp) (qm (A.e Gv Hv _ _ ha) qC (qf s1)) rfl few hl (qf s1) rfl) rfl) λD Z H hq1=>?_;let(N,G,er,h):=hq1;have h:Wk (α:=Fl) (match zD N i with |none=>R.no |some _=>(jZ a' (iR L.k a') N).th λy=>match zD y.2 i with |some l=>if l.length < sizeLine then .ok (.next (y.2.set i (.own (l++[y.1])))) else .no |none=>.no) _:=h
 cases e1:zD N i with
 |none=>rw[e1]at h;exact False.elim h
 |some l0=>
  rw[e1]at h;let(b,xs,z,h1,h2):=er.ownSlot (jz e1);refine{_,z,.inl {rfl,xs,SqL.of h1},N,G,er,Wk.mono (Wk.th h) λy h v G1 H1 p1 r1=>?_}
  cases e2:zD y.2 i with
  |none=>rw[e2]at h;exact False.elim h
  |some l=>rw[e2]at h;let(hz,h):=Wk.iff h;let(b',ys,z',h3,h4):=p1.er.ownSlot (jz e2);rw[z]at z';cases z';refine{b,ys,v,rfl,rfl,h3,by rw[<-h4.len];exact hz,?_};exact h Z G1 _ (p1.er.write (jz e2) z (h4.snoc r1)) p1.gs
theorem qep(gd:Gd U K k X L)(A:All U K k X L m)(x:Str)(a:Expr)(xp ap cp p:Pos){i:Nat}{a':E}(hl:(ap.endLine == cp.line)=true)(s1:qD a=false)(hi:qfu L x=some i)(ha:cE m L a=some a') :
  PS X (.Expr (.Call (.Attribute (.Name x xp) "extend" ap) [a] [] cp) p) (tS U K Gv Hv (iS L.k w (.ext i a'))):=by
 have few:((backTo cp (starEach [a] X.env)).all (λx=>!x.1)&&(backToKw cp (keywordEach [] X.env)).all (λx=>x.1.isSome)&&decide (([a]:List Expr).length+([]:List Keyword).length+(if ([]:List Keyword).isEmpty then 0 else 1) < 30))=true:=by rw[qf s1];rfl
 refine PS.imp (yJ (qkH PySem.F.plainAttrs_list PySem.F.slot_list_extend PySem.F.type_list_extend qdG (qbI gd hi xp) (qm (A.r Gv Hv _ _ ha) qC (qf s1)) rfl few hl (qf s1) rfl) rfl) λD Z H hq1=>?_;let(N,G,er,h):=hq1;have h:Wk (α:=Fl) (match zD N i with |none=>R.no |some _=>(iR L.k a' N).th λy=>match zD y.2 i,y.1.plain? with |some l,some n=>if l.length+n.length<=sizeLine then .ok (.next (y.2.set i (.own (l++n)))) else .no |_,_=>.no) _:=h
 cases e1:zD N i with
 |none=>rw[e1]at h;exact False.elim h
 |some l0=>
  rw[e1]at h;let(b,xs,z,h1,h2):=er.ownSlot (jz e1);refine{_,z,.inl {rfl,xs,SqL.of h1},N,G,er,Wk.mono (Wk.th h) λy h v G1 H1 p1 r1=>?_}
  cases e2:zD y.2 i with
  |none=>rw[e2]at h;exact False.elim h
  |some l=>
   cases e3:y.1.plain? with
   |none=>rw[e2,e3]at h;exact False.elim h
   |some n=>rw[e2,e3]at h;let(hz,h):=Wk.iff h;let(b',ys,z',h3,h4):=p1.er.ownSlot (jz e2);let(c,zs,rfl,h5,h6):=r1.plain p1.er e3;rw[z]at z';cases z';refine{b,c,ys,zs,rfl,rfl,h3,h5,by rw[<-h4.len,<-h6.len];exact hz,?_};exact h Z G1 _ (p1.er.write (jz e2) z (h4.app h6)) p1.gs
theorem qlL(gd:Gd U K k X L)(A:All U K k X L m)(e:Expr)(p:Pos){z:E}(h:cV m L e=some z):PS X (.Return (some e) p) (tS U K Gv Hv (iS L.k w (.ret z))):=by
 have gen:(cE m L e).bind ZZ=some z->PS X (.Return (some e) p) (tS U K Gv Hv (iS L.k w (.ret z))):=λh=>by
  let(y,h1,h2):=Option.bind_eq_some_iff.mp h;let(rfl,hv):=jd h2;refine PS.imp (qdq (A.r Gv Hv _ _ h1)) λD Z H hq1=>?_;let(N,G,er,h):=hq1;have h:=Wk.th (x:=qf1 y (iR L.k y) N) h;rw[qiM hv]at h;refine{N,G,er,Wk.mono (Wk.th h) λx h v G1 H1 p1 r1=>?_};let(rv,N1):=x
  cases rv with
  |val d=>exact h v G1 H1 p1.er.base p1.er.g0 p1.er.sub p1.er.fresh r1
  |tmp l=>let(a,xs,rfl,h1,h2,h3,h4,h5,h6):=r1;exact h _ G1 H1 p1.er.base p1.er.g0 p1.er.sub p1.er.fresh ⟨a,xs,rfl,h1,h3,h4,h6⟩
  |_=>exact False.elim h
 cases e with
 |Name x pos=>
  rcases QG gd h pos with ⟨i,rfl,P⟩|⟨d,v,rfl,e3,P⟩
  ·refine PS.imp (qdq P) λD Z H hq1=>?_;let(N,G,er,h):=hq1;have h:=Wk.th (x:=slX N i) h;unfold slX at h
   cases q:N[i]? with
   |none=>rw[q]at h;exact False.elim h
   |some s=>
    rw[q]at h;have w:=er.sl i s q
    cases s with
    |val d=>let(v,z,r):=w;exact{v,z,h v G H er.base er.g0 er.sub er.fresh r}
    |own l=>let(a,xs,z,r1,r2,r3,r4):=w;exact{_,z,h _ G H er.base er.g0 er.sub er.fresh ⟨a,xs,rfl,r1,r2,r3,r4⟩}
    |_=>exact False.elim h
  ·exact PS.imp (qdq P) λD Z H ⟨N,G,er,h⟩=>h v G H er.base er.g0 er.sub er.fresh (e3 G)
 |_=>exact gen h
def AsR(U:KC)(K:Frag)(Hv G H:Hp)(N:Env)(Z:L2.St):Sl->V->Prop
 |.val d,v=>Rep U G d v
 |.own l,v=>∃a xs,v=.ref a/\H a=some (.lst xs)/\Hv a=none/\G a=none/\¬ qcL N Z a/\qo U G l xs
 |_,_=>False
def tA(U:KC)(K:Frag)(Gv Hv:Hp)(f:Env->R (Sl×Env)):TE:=λZ H Q=>∃N G,ER U K Gv Hv G H N Z/\Wk (f N) λs=>∀v G' H',Po U K Gv Hv Z G H N G' H' s.2->AsR U K Hv G' H' s.2 Z s.1 v->Q v H'
theorem qa4{G H:Hp}{N:Env}{Z:L2.St}{s:Sl}{v:V}{i:Nat}(er:ER U K Gv Hv G H N Z)(h:AsR U K Hv G H N Z s v):ER U K Gv Hv G H (N.set i s) (Z.set i (some v)):=by
 cases s with
 |val d=>exact er.setVal h
 |own l=>let(a,xs,rfl,h1,h2,h3,h4,h5):=h;exact er.setOwn h1 h2 h3 h4 h5
 |_=>exact False.elim h
theorem qoY{z:E}(hv:∀i,z≠.var i)(Z:L2.St)(H:Hp)(Q:VK)(h:tA U K Gv Hv (qcO z (iR L.k z)) Z H Q):tR U K Gv Hv (iR L.k z) Z H Q:=by
 let(N,G,er,h):=h;rw[qiN hv]at h;refine{N,G,er,Wk.mono (Wk.th h) λx h v G1 H1 p1 r1=>?_};let(rv,N1):=x
 cases rv with
 |val d=>exact h v G1 H1 p1 r1
 |tmp l=>let(a,xs,rfl,h1,h2,h3,h4,h5,h6):=r1;exact h _ G1 H1 p1 ⟨a,xs,rfl,h1,h3,h4,h5,h6⟩
 |_=>exact False.elim h
theorem qoZ(gd:Gd U K k X L)(A:All U K k X L m)(e:Expr){z:E}(h:cV m L e=some z):PE X e (tA U K Gv Hv (qcO z (iR L.k z))):=by
 have gen:(cE m L e).bind ZZ=some z->PE X e (tA U K Gv Hv (qcO z (iR L.k z))):=λh=>by let(y,h1,h2):=Option.bind_eq_some_iff.mp h;let(rfl,hv):=jd h2;exact PE.imp (A.r Gv Hv _ _ h1) (qoY hv)
 cases e with
 |Name x pos=>
  have P:=qbJ (Gv:=Gv) (Hv:=Hv) gd h pos;rcases QG gd h pos with ⟨i,rfl,_⟩|⟨d,v,rfl,_,_⟩
  ·refine PE.imp P λZ H Q hq1=>?_;let(N,G,er,h):=hq1;exact{N,G,er,Wk.mono (Wk.th (x:=slE N i) h) λy h v G1 H1 p1 r1=>h v G1 H1 p1 r1}
  ·exact PE.imp P λZ H Q ⟨N,G,er,h⟩=>⟨N,G,er,h⟩
 |_=>exact gen h
theorem qlM(gs:Gs U K k X L)(A:All U K k X L m)(x:Str)(e:Expr)(xp p:Pos){i:Nat}{z:E}(hi:qdj L x=some i)(hz:cV m L e=some z):PS X (.Assign [.Name x xp] e p) (tS U K Gv Hv (iS L.k w (.set i z))):=by
 have gd:=gs.toGd;let(l1,l2,hN,hxi):=Z3 gd hi
 have fin:∀(D:Ends) (Z:L2.St) (H:Hp),tS U K Gv Hv (iS L.k w (.set i z)) D Z H->tA U K Gv Hv (qcO z (iR L.k z)) Z H (λy H1=>qfA i y Z H1 D.nx):=λD Z H ⟨N,G,er,h⟩=>{N,G,er,Wk.mono (Wk.th (x:=qcO z (iR L.k z) N) h) λs h v G1 H1 p1 r1=>h _ G1 H1 (qa4 p1.er r1) p1.gs}
 by_cases hn:yK e=true
 ·exact PS.imp (qbs (i:=i) hN hxi l1 (qoZ gd A e hz) (Yl hn _ _ _) l2) fin
 cases e with
 |ListComp elt gens sc cp=>
  have hsw:∀b:Bool,(X.env.blockKind == .function&&X.env.kindOf x == some .local&&xp.line == cp.line&&!(sc.names.any λ(n,k)=>n == x&&(k == .local||k == .cell)))=b->swapsWith (.ListComp elt gens sc cp) (some (.Name x xp)) p.line X.env=pure b:=λb hb=>by rw[<-hb];rfl
  cases hb:(X.env.blockKind == .function&&X.env.kindOf x == some .local&&xp.line == cp.line&&!(sc.names.any λ(n,k)=>n == x&&(k == .local||k == .cell))) with
  |false=>exact PS.imp (qbs (i:=i) hN hxi l1 (qoZ gd A _ hz) (hsw false hb) l2) fin
  |true=>
   have hloc:X.env.scope.names.lookup x=some .local:=by
    simp![Bool.and_eq_true]at hb
    have:=hb.1.1.2
    unfold PySem.Env.kindOf at this
    simpa using this
   let(y,h1,h2):=Option.bind_eq_some_iff.mp hz;let(rfl,hv):=jd h2
   cases m with
   |zero=>cases h1
   |succ m=>
    let(tg,it,ifs,own,el,src,t,c,rfl,S,rfl):=qlK h1;have B:BlkScope X own (Y7 L.N sc) sc:=Z6 gd S.chk
    exact PS.imp (qin (i:=i) own (Y7 L.N sc) hN hxi hloc gd.calm B (qoX (Gv:=Gv) (Hv:=Hv) gd (all m X L gd) tg it S.src) (λcl C fp s2 H2=>qgk (Y8 gd B S.nd cl C fp s2 H2) tg S.tg) (λcl C fp s2 H2=>qht (all m _ _ (Y8 gd B S.nd cl C fp s2 H2)) ifs S.c)
     (λcl C fp s2 H2=>qlJ (all m _ _ (Y8 gd B S.nd cl C fp s2 H2)) elt S.el) (hsw true hb) (qa3 S.fold X.env)) λD Z H h=>qbR S Z H _ (qoY hv Z H _ (fin D Z H h))
 |SetComp=>cases m<;>cases hz
 |DictComp=>cases m<;>cases hz
 |_=>exact absurd rfl hn
end
structure AllS(U:KC)(K:Frag)(X:Cx)(L:Ct)(m w:Nat):Prop where
 s:∀Gv Hv st x,cS m L st=some x->PS X st (tS U K Gv Hv (iS L.k w x))
 ss:∀Gv Hv l x,cSs m L l=some x->PSs X l (tS U K Gv Hv (iSs L.k w x))
section
variable{U:KC}{K:Frag}{Gv Hv:Hp}{k m w:Nat}{X:Cx}{L:Ct}
theorem FlP.back{G G1:Hp}{D:Ends}{f:Fl}(h:FlP U K Gv Hv G D f)(g:qp G G1):FlP U K Gv Hv G1 D f:=by
 cases f with
 |next N=>exactλZ' G' H' er g'=>h Z' G' H' er λb o e=>g' b o (g b o e)
 |ret r=>exact h
def qgl{e:Expr}(h:qea e=true)(es:List Expr)(j:Nat)(p:Pos)(env:PySem.Env):swappedStores [.Tuple es j p] e env=pure none:=by cases e<;>first|rfl|(simp[qea]at h)
def qeq(gd:Gd U K k X L)(A:All U K k X L m)(es:List Expr)(j:Nat)(tp:Pos)(e:Expr)(p:Pos){x:S}(h:cS (m+1) L (.Assign [.Tuple es j tp] e p)=some x):PS X (.Assign [.Tuple es j tp] e p) (tS U K Gv Hv (iS L.k w x)):=by let(hc,h):=qj h;let(t,a',h1,h2,rfl):=qk h;rw[Bool.and_eq_true]at hc;refine PS.imp (qg4 (A.e Gv Hv _ _ h2) (qgk gd (.Tuple es j tp) h1) (show swapsWithSole [.Tuple es j tp] e p.line X.env=pure false from Yl hc.1 (some (.Tuple es j tp)) p.line X.env) (qgl hc.2 es j tp _) rfl) λD Z H hq1=>?_;let(N,G,er,h):=hq1;refine{N,G,er,Wk.mono (Wk.th (x:=jZ a' (iR L.k a') N) h) λx h v G1 H1 p1 r1=>?_};exact{Gv,Hv,x.2,G1,x.1,p1.er,r1,Wk.mono (Wk.th h) λN1 h Z1 er1=>h Z1 G1 H1 er1 p1.gs}
def qoa(r:Env->R (Rv×Env))(i:Nat)(d:D)(N:Env):R Fl:=match zD N i with
 |none=>.no
 |some _=>(r N).th λz=>match zD z.2 i,z.1.int? with
  |some l,some n=>(match ixN l.length n with
   |some k=>.ok (.next (z.2.set i (.own (l.set k d))))
   |none=>.no)
  |_,_=>.no
def gS(U:KC)(K:Frag)(Gv Hv:Hp)(r:Env->R (Rv×Env))(i:Nat):TG:=λv Z H Q=>∃(N:Env) (G:Hp) (d:D) (D:Ends),ER U K Gv Hv G H N Z/\Rep U G d v/\Wk (qoa r i d N) (FlP U K Gv Hv G D)/\∀H',D.nx Z H'->Q Z H'
theorem qob(gd:Gd U K k X L)(A:All U K k X L m)(x:Str)(i:Expr)(xp p:Pos)(hs:QD i=true){j:Nat}{i':E}(hj:qfu L x=some j)(hi:cE m L i=some i'):PG X (.Subscript (.Name x xp) i p) (gS U K Gv Hv (iR L.k i') j):=by
 refine PG.imp (qko (qbI gd hj xp) (A.r Gv Hv _ _ hi) qfL (λv=>by cases i<;>first|rfl |(simp[QD]at hs))) λv Z H Q hq1=>?_;let(N,G,d,D,er,r,h,hQ):=hq1;unfold qoa at h
 cases e1:zD N j with
 |none=>rw[e1]at h;exact False.elim h
 |some l0=>
  rw[e1]at h;let(b,xs,z,h1,h2):=er.ownSlot (jz e1);refine{_,z,N,G,er,Wk.mono (Wk.th h) λy h u G1 H1 p1 r1=>?_}
  cases e2:zD y.2 j with
  |none=>rw[e2]at h;exact False.elim h
  |some l=>
   cases e3:y.1.int? with
   |none=>rw[e2,e3]at h;exact False.elim h
   |some n=>
    rw[e2,e3]at h;dsimp only at h
    cases e4:ixN l.length n with
    |none=>rw[e4]at h;exact False.elim h
    |some c=>rw[e4]at h;let(b',ys,z',h3,h4):=p1.er.ownSlot (jz e2);rw[z]at z';cases z';refine{b,ys,n,c,rfl,r1.int e3,h3,by rw[<-h4.len];exact e4,hQ _ ?_};exact h Z G1 _ (p1.er.write (jz e2) z (h4.set c (r.same p1.gs))) p1.gs
def qer(gd:Gd U K k X L)(A:All U K k X L m)(x:Str)(i e:Expr)(xp sp p:Pos){y:S}(h:cS (m+1) L (.Assign [.Subscript (.Name x xp) i sp] e p)=some y):PS X (.Assign [.Subscript (.Name x xp) i sp] e p) (tS U K Gv Hv (iS L.k w y)):=by let(hc,h):=qj h;let(j,q,h1,h2,rfl):=qk h;let(i',a',h3,h4,rfl):=qk h2;rw[Bool.and_eq_true]at hc;refine PS.imp (qg4 (A.e Gv Hv _ _ h4) (qob (Gv:=Gv) (Hv:=Hv) gd A x i xp sp hc.2 h1 h3) (show swapsWithSole [.Subscript (.Name x xp) i sp] e p.line X.env=pure false from Yl hc.1 (some (.Subscript (.Name x xp) i sp)) p.line X.env) rfl rfl) λD Z H hq1=>?_;let(N,G,er,h):=hq1;exact{N,G,er,Wk.mono (Wk.th (x:=jZ a' (iR L.k a') N) h) λy h v G1 H1 p1 r1=>{y.2,G1,y.1,D,p1.er,r1,Wk.mono (show Wk (qoa (iR L.k i') j y.1 y.2) _ from h) λf hf=>hf.back p1.gs,λ_ h=>h}}
theorem qoc(A:All U K k X L m)(S:AllS U K X L m w)(c:Expr)(a b:List Stmt)(p:Pos){x:DE.S}(h:cS (m+1) L (.If c a b p)=some x):PS X (.If c a b p) (tS U K Gv Hv (iS L.k w x)):=by
 let(c',q,h1,h2,rfl):=qk h;let(a',b',h3,h4,rfl):=qk h2;refine PS.imp (qcs (A.t Gv Hv _ _ h1) (S.ss Gv Hv _ _ h3) (S.ss Gv Hv _ _ h4)) λD Z H hq1=>?_;let(N,G,er,h):=hq1;refine{N,G,er,Wk.mono (Wk.th (x:=iT L.k c' N) h) λt h G1 H1 p1=>?_};let(d,N1):=t
 cases d with
 |true=>rw[if_pos rfl];exact{N1,G1,p1.er,Wk.mono h λf hf=>hf.back p1.gs}
 |false=>rw[if_neg (λz=>by cases z)];exact{N1,G1,p1.er,Wk.mono h λf hf=>hf.back p1.gs}
def qlN(gs:Gs U K k X L)(A:All U K k X L m)(S:AllS U K X L m w)(tg it:Expr)(body:List Stmt)(p:Pos){x:DE.S}(h:cS (m+1) L (.For tg it body [] p)=some x):PS X (.For tg it body [] p) (tS U K Gv Hv (iS L.k w x)):=by
 let(hf,h):=qj h;let(q,b',h1,h2,rfl):=qk h;let(t,src,h3,h4,rfl):=qk h1;refine PS.imp (qkq gs.own gs.calm (A.i Gv Hv _ _ _ h4) (qgk gs.toGd tg h3) (S.ss Gv Hv _ _ h2) (qa3 hf X.env)) λD Z H hq1=>?_;let(N,G,er,h):=hq1;refine{N,G,er,Wk.mono (Wk.th (x:=iI L.k src N) h) λx h J G1 H1 p1 it1=>?_}
 refine{λi mm Z' H'=>mm=x.1.length - i/\i<=x.1.length/\∃Nb Gb,ER U K Gv Hv Gb H' Nb Z'/\qp G1 Gb/\Wk (qk9 (λd N1=>(t.go d N1).th λN2=>iSs L.k w b' N2) (x.1.drop i) Nb) (FlP U K Gv Hv G D),
  {x.1.length,by simp,Nat.zero_le _,x.2,G1,p1.er,λ_ _ e=>e,by rw[List.drop_zero];exact h},?_}
 rintro i mm Z' H' ⟨rfl,hi,Nb,Gb,erb,g1,hw⟩;have it2:=it1 i Gb H' g1 erb.base erb.sub
 by_cases hlt:i < x.1.length
 ·let(go,yl):=it2.1 x.1[i] (List.getElem?_eq_getElem hlt);refine .inr ⟨go,_,λZ2 H2 w=>{x.1.length - (i+1),by omega,w},λv H2 hy=>?_⟩;let(G',hs,gss,sub,new,rep):=yl v H2 hy;have p2:=Po.more erb hs gss sub new;rw[List.drop_eq_getElem_cons hlt]at hw;refine{Gv,Hv,Nb,G',x.1[i],p2.er,rep,Wk.mono (Wk.th (Wk.th hw)) λN2 hw Z2 er2=>{N2,G',er2,Wk.mono hw λf hf=>?_}}
  cases f with
  |next N3=>exactλZ3 G3 H3 er3 g3=>{rfl,hlt,N3,G3,er3,λb o e=>g3 b o (gss b o (g1 b o e)),hf}
  |ret r=>exact hf
 ·have e:i=x.1.length:=by omega
  subst e;rw[List.drop_length]at hw;exact .inl ⟨it2.2 rfl,hw Z' Gb H' erb λb o e=>g1 b o (p1.gs b o e)⟩
theorem qgm(gs:Gs U K k X L)(A:All U K k X L m)(S:AllS U K X L m w)(c:Expr)(body:List Stmt)(p:Pos){x:DE.S}(h:cS (m+1) L (.While c body [] p)=some x):PS X (.While c body [] p) (tS U K Gv Hv (iS L.k w x)):=by
 let(c',b',h1,h2,rfl):=qk h;refine PS.imp (qfC gs.own (A.t Gv Hv _ _ h1) (S.ss Gv Hv _ _ h2)) λD Z H hq1=>?_;let(N,G,er,h):=hq1;refine{λn Z' H'=>∃Nb Gb,ER U K Gv Hv Gb H' Nb Z'/\qp G Gb/\Wk (whL (λN1=>iT L.k c' N1) (λN1=>iSs L.k w b' N1) n Nb) (FlP U K Gv Hv G D),{w,N,G,er,λ_ _ e=>e,h},?_};rintro n Z' H' ⟨Nb,Gb,erb,g1,hw⟩
 cases n with
 |zero=>exact False.elim hw
 |succ n=>
  refine{Nb,Gb,erb,Wk.mono (Wk.th (x:=iT L.k c' Nb) hw) λb hw G2 H2 p2=>?_};let(d,N2):=b
  cases d with
  |false=>rw[if_neg (λz=>by cases z)];exact hw Z' G2 H2 p2.er λb o e=>p2.gs b o (g1 b o e)
  |true=>
   rw[if_pos rfl];refine{_,λZ3 H3 w=>{n,Nat.lt_succ_self n,w},N2,G2,p2.er,Wk.mono (Wk.th hw) λf hf=>?_}
   cases f with
   |next N3=>exactλZ3 G3 H3 er3 g3=>{N3,G3,er3,λb o e=>g3 b o (p2.gs b o (g1 b o e)),hf}
   |ret r=>exact hf
theorem qi5(gd:Gd U K k X L)(A:All U K k X L m)(e:Expr)(p:Pos){x:S}(h:cS (m+1) L (.Expr e p)=some x):PS X (.Expr e p) (tS U K Gv Hv (iS L.k w x)):=by
 have gen:oif (yK e) ((cE m L e).map .expr)=some x->PS X (.Expr e p) (tS U K Gv Hv (iS L.k w x)):=λh=>by let(hn,h):=qj h;let(a',h1,rfl):=ql h;refine PS.imp (yJ (A.r Gv Hv _ _ h1) (Yl hn _ _ _)) λD Z H hq1=>?_;let(N,G,er,h):=hq1;exact{N,G,er,Wk.mono (Wk.th (x:=iR L.k a' N) h) λx h v G1 H1 p1 r1=>h Z G1 H1 p1.er p1.gs}
 cases e with
 |Call fn es kws cp=>
  cases fn with
  |Attribute o meth ap=>
   cases o with
   |Name y yp=>
    cases kws with
    |cons kw kws=>exact match es,h,gen with |[],h,gen=>gen h |[_],h,gen=>gen h|_::_::_,h,gen=>gen h
    |nil=>
     match es,h,gen with
     |[a],h,gen=>
      let(hc,h):=qj h;rw[Bool.and_eq_true]at hc;have hs:qD a=false:=(-hc.2:)
      by_cases h1:meth = "append"
      ·subst h1;rw[if_pos rfl]at h;let(i,a',h2,h3,rfl):=qk h;exact qeo gd A y a yp ap cp p hc.1 hs h2 h3
      rw[if_neg h1]at h
      by_cases h2:meth = "extend"
      ·subst h2;rw[if_pos rfl]at h;let(i,a',h2,h3,rfl):=qk h;exact qep gd A y a yp ap cp p hc.1 hs h2 h3
      rw[if_neg h2]at h;cases h
     |[],h,gen=>cases h
     | _::_::_,h,gen=>exact gen h
   |_=>exact gen h
  |_=>exact gen h
 |_=>exact gen h
theorem qqa(gs:Gs U K k X L)(A:All U K k X L m)(S:AllS U K X L m w)(st:Stmt)(x:DE.S)(h:cS (m+1) L st=some x):PS X st (tS U K Gv Hv (iS L.k w x)):=by
 cases st with
 |Pass p=>cases h;exact PS.imp qhX λD Z H ⟨N,G,er,h⟩=>h Z G H er λ_ _ e=>e
 |Raise a b c=>cases h;exactλpins s Z H D I ⟨N,G,er,h⟩=>h.elim
 |Expr e p=>exact qi5 gs.toGd A e p h
 |Return o p=>
  cases o with
  |some e=>let(y,h1,rfl):=ql h;exact qlL gs.toGd A e p h1
  |none=>cases h;exact PS.imp qhY λD Z H ⟨N,G,er,h⟩=>h .non G H er.base er.g0 er.sub er.fresh (by simp![ReR,Rep])
 |Assign tgs e p=>
  match tgs,h with
  |[],h=>cases h
  | _::_::_,h=>cases h
  |[tg],h=>
   cases tg with
   |Name x xp=>let(i,z,h1,h2,rfl):=qk h;exact qlM gs A x e xp p h1 h2
   |Tuple es j tp=>exact qeq gs.toGd A es j tp e p h
   |Subscript o i sp=>
    cases o with
    |Name x xp=>exact qer gs.toGd A x i e xp sp p h
    |_=>cases h
   |_=>cases h
 |If c a b p=>exact qoc A S c a b p h
 |Try body hs orelse fin p=>
  cases hs with
  |nil=>cases h
  |cons h0 hs=>
   cases orelse with
   |cons _ _=>cases h
   |nil=>
    cases fin with
    |cons _ _=>cases h
    |nil=>
     let(b,h1,rfl):=ql h;intro pins s Z H D I hq;refine wpAny_Try_except (wpAny_mono (S.ss Gv Hv _ _ h1 pins s Z H D I hq) (λf s1 q=>?_) λe s1 hq=>(gs.nx e s1 hq).elim)
     cases f with
     |next=>exact wpAny_execs_nil q
     |_=>exact q
 |For tg it body orelse p=>
  cases orelse with
  |nil=>exact qlN gs A S tg it body p h
  |cons s l=>cases h
 |While c body orelse p=>
  cases orelse with
  |nil=>exact qgm gs A S c body p h
  |cons s l=>cases h
 |_=>cases h
theorem qod(S:AllS U K X L m w):∀l x,cSs (m+1) L l=some x->PSs X l (tS U K Gv Hv (iSs L.k w x))
 |[],_,h=>by cases h;exact PSs.imp Jr λD Z H ⟨N,G,er,h⟩=>h Z G H er λ_ _ e=>e
 | st::l,_,h=>by
  let(s',l',h1,h2,rfl):=qk h;refine PSs.imp (zd (S.s Gv Hv _ _ h1) (S.ss Gv Hv _ _ h2)) λD Z H hq1=>?_;let(N,G,er,h):=hq1;refine{N,G,er,Wk.mono (Wk.th (x:=iS L.k w s' N) h) λf hf=>?_}
  cases f with
  |next N1=>exactλZ1 G1 H1 er1 g1=>{N1,G1,er1,Wk.mono hf λf hf=>hf.back g1}
  |ret r=>exact hf
theorem qoe(gs:Gs U K k X L):∀m,AllS U K X L m w
 |0=>{(λ_ _ _ _ h=>nomatch h),(λ_ _ _ _ h=>nomatch h)}
 | m+1=>
  have S:=qoe gs m
  ⟨λGv Hv=>qqa gs (all m X L gs.toGd) S,λGv Hv=>qod S⟩
end
mutual
inductive Y where
 | s (s:S)|rai (n:Str) (l:Es)|cal (o:Option Nat) (f:Str) (l:Es)|ite (c:T) (a b:Ys)|for_ (tg:Tg) (src:I) (b:Ys)|try_ (b:Ys) (hs:List (Str×Nat×Nat))
inductive Ys where
 | nil|cons (y:Y) (l:Ys)
end
def noX{α:Type}:R α->R α
 |.ok a=>.ok a
 |_=>.no
def qnv:D->Bool
 |.int i=>decide (i.natAbs.log2 < 1920)
 |.non=>true
 |_=>false
def mkX(cs:Cs)(n:Str)(ds:List D):R Fl:=match cs.xn n with
 |some []=>if ds.length<=sizeLine then .exc (cs.xa n) [] else .no
 |some ns=>if (decide (ds.length=ns.length)&&decide (ds.length<=sizeLine)&&ds.all qnv)=true then .exc (cs.xa n) (ns.zip ds) else .no
 |none=>.no
def qj7(o:Option Nat)(r:Rv)(N:Env):R Fl:=match o with
 |none=>.ok (.next N)
 |some i=>(match r with
  |.val d=>.ok (.next (N.set i (.val d)))
  |.tmp l=>.ok (.next (N.set i (.own l)))
  |_=>.no)
def Y9(cs:Cs)(n:Nat)(C:Addr)(l:List (Str×D)):List (Str×Nat×Nat)->R Fl
 |[]=>.no
 | h::hs=>match cs.xs C h.1 with
  |some true=>.ok (.next ((List.replicate n Sl.no).set h.2.2 (.val (.exc C (l.map (·.1)) (l.map (·.2))))))
  |some false=>Y9 cs n C l hs
  |none=>.no
mutual
def iY(cl:Cl)(cx:Str->List Ar->R Rv)(w:Nat):Y->Env->R Fl
 |.s s,N=>noX (iS cl w s N)
 |.rai n l,N=>(noX (iEs cl l N)).th λx=>mkX cl.cs n x.1
 |.cal o f l,N=>(noX (iAs cl l N)).th λx=>(cx f x.1).th λr=>qj7 o r x.2
 |.ite c a b,N=>(noX (iT cl c N)).th λt=>if t.1 then iYs cl cx w a t.2 else iYs cl cx w b t.2
 |.for_ tg src b,N=>(noX (iI cl src N)).th λx=>qk9 (λd N1=>(noX (tg.go d N1)).th λN2=>iYs cl cx w b N2) x.1 x.2
 |.try_ b hs,N=>match iYs cl cx w b N with
  |.exc C l=>Y9 cl.cs N.length C l hs
  |r=>r
def iYs(cl:Cl)(cx:Str->List Ar->R Rv)(w:Nat):Ys->Env->R Fl
 |.nil,N=>.ok (.next N)
 |.cons y l,N=>(iY cl cx w y N).th λf=>match f with
  |.next N1=>iYs cl cx w l N1
  |.ret r=>.ok (.ret r)
end
noncomputable abbrev VE:=(Str×Pos) ⊕ (Expr×List Expr×List Keyword×Pos) ⊕ (Expr×Str×Pos) ⊕ (List Expr×Pos) ⊕ (Expr×Int×Option Expr×Pos) ⊕ (Const×Nat×Pos)
def vE:Expr->Option VE
 |.Name x p=>some (.inl (x,p))
 |.Call f l k p=>some (.inr (.inl (f,l,k,p)))
 |.Attribute o a p=>some (.inr (.inr (.inl (o,a,p))))
 |.JoinedStr l p=>some (.inr (.inr (.inr (.inl (l,p)))))
 |.FormattedValue e i f p=>some (.inr (.inr (.inr (.inr (.inl (e,i,f,p))))))
 |.Constant c k p=>some (.inr (.inr (.inr (.inr (.inr (c,k,p))))))
 |_=>none
def bE:VE->Expr
 |.inl t=>.Name t.1 t.2
 |.inr (.inl t)=>.Call t.1 t.2.1 t.2.2.1 t.2.2.2
 |.inr (.inr (.inl t))=>.Attribute t.1 t.2.1 t.2.2
 |.inr (.inr (.inr (.inl t)))=>.JoinedStr t.1 t.2
 |.inr (.inr (.inr (.inr (.inl t))))=>.FormattedValue t.1 t.2.1 t.2.2.1 t.2.2.2
 |.inr (.inr (.inr (.inr (.inr t))))=>.Constant t.1 t.2.1 t.2.2
def vb(e:Expr):((vE e).elim True λt=>e=bE t):=by cases e<;>first|trivial|rfl
def qlO{e:Expr}{t:VE}(h:vE e=some t):e=bE t:=by
 have:=vb e
 rw[h]at this;exact this
def vS:Stmt->Option ((List Expr×Expr×Pos) ⊕ (Expr×Pos))
 |.Assign l x p=>some (.inl (l,x,p))
 |.Expr x p=>some (.inr (x,p))
 |_=>none
def vsb(s:Stmt):((vS s).elim True λt=>s=t.elim (λt=>.Assign t.1 t.2.1 t.2.2) λt=>.Expr t.1 t.2):=by cases s<;>first|trivial|rfl
theorem qw{α M:Type}{x:Option α}{f:α->Option M}{b:M}(h:x.bind f=some b):∃a,x=some a/\f a=some b:=by
 cases x with
 |none=>cases h
 |some a=>exact⟨a,rfl,h⟩
def nmE(e:Expr):Option Str:=(vE e).bind (·.elim (λt=>some t.1) λ_=>none)
theorem Z7{e:Expr}{x:Str}(h:nmE e=some x):∃p,e=.Name x p:=by
 let(t,h1,h2):=qw h
 have:=qlO h1
 cases t with
 |inl t=>cases h2;exact{_,this}
 |inr t=>cases h2
def caE(e:Expr):Option (Expr×List Expr×List Keyword×Pos):=(vE e).bind (·.elim (λ_=>none) (·.elim some λ_=>none))
theorem qlP{e:Expr}{t:Expr×List Expr×List Keyword×Pos}(h:caE e=some t):e=.Call t.1 t.2.1 t.2.2.1 t.2.2.2:=by
 let(u,h1,h2):=qw h
 have:=qlO h1
 match u,h2 with
 |.inr (.inl t),h2=>cases h2;exact this
 |.inl _,h2=>cases h2
 |.inr (.inr _),h2=>cases h2
def asS(s:Stmt):Option (List Expr×Expr×Pos):=(vS s).bind (·.elim some λ_=>none)
theorem qlQ{s:Stmt}{t:List Expr×Expr×Pos}(h:asS s=some t):s=.Assign t.1 t.2.1 t.2.2:=by
 let(u,h1,h2):=qw h
 have:=vsb s
 rw[h1]at this
 cases u with
 |inl u=>cases h2;exact this
 |inr u=>cases h2
def cN(x:Expr):Option (Str×Expr×List Expr):=(caE x).bind λt=>(nmE t.1).bind λn=>match t.2.1 with
 | e::es=>oif t.2.2.1.isEmpty (some (n,e,es))
 |[]=>none
theorem qi6{x:Expr}{t:Str×Expr×List Expr}(h:cN x=some t):∃np cp,x=.Call (.Name t.1 np) (t.2.1::t.2.2) [] cp:=by
 let((f,l,k,p),h1,h):=qw h;let(n,h2,h):=qw h;let(np,rfl):=Z7 h2;have h1:=qlP h1
 cases l with
 |nil=>cases h
 |cons e es=>
  let(hk,h):=qj h
  cases k with
  |nil=>cases h;exact⟨np,p,h1⟩
  |cons _ _=>cases hk
def aN(s:Stmt):Option (Expr×Expr):=(asS s).bind λt=>match t.1 with
 |[v]=>some (v,t.2.1)
 |_=>none
theorem qof{s:Stmt}{t:Expr×Expr}(h:aN s=some t):∃p,s=.Assign [t.1] t.2 p:=by
 let((l,x,p),h1,h):=qw h;have h1:=qlQ h1
 match l,h with
 |[v],h=>cases h;exact⟨p,h1⟩
 |[],h=>cases h
 | _::_::_,h=>cases h
def cH:ExceptHandler->Option (Str×Str×Str×Str)
 |.ExceptHandler ty nm b _=>ty.bind λte=>nm.bind λn=>match b with
  |[s]=>(nmE te).bind λt=>(aN s).bind λq=>(nmE q.1).bind λv=>(nmE q.2).bind λn2=>some (t,n,v,n2)
  |_=>none
theorem qog{hd:ExceptHandler}{q:Str×Str×Str×Str}(h:cH hd=some q):∃tp vp np ap hp,hd=.ExceptHandler (some (.Name q.1 tp)) (some q.2.1) [.Assign [.Name q.2.2.1 vp] (.Name q.2.2.2 np) ap] hp:=by
 let(ty,nm,b,hp):=hd;let(te,rfl,h):=qw h;let(n,rfl,h):=qw h
 match b,h with
 |[s],h=>let(t,h1,h):=qw h;let((v',x'),h2,h):=qw h;let(v,h3,h):=qw h;let(n2,h4,h):=qw h;let(tp,rfl):=Z7 h1;let(ap,rfl):=qof h2;let(vp,rfl):=Z7 h3;let(np,rfl):=Z7 h4;cases h;exact⟨tp,vp,np,ap,hp,rfl⟩
 |[],h=>cases h
 | _::_::_,h=>cases h
def cHs(L:Ct):List ExceptHandler->Option (List (Str×Nat×Nat))
 |[]=>some []
 | hd::hs=>(cH hd).bind λq=>oif (decide (q.2.2.2=q.2.1)&&decide (q.2.2.1≠q.2.1)&&decide (q.1≠"ValueError")&&zg q.1&&glB L.sc q.1&&zg q.2.1&&(L.sc.names.lookup q.2.1 == some .local)) (o2 (o2 (qdj L q.2.1) (qdj L q.2.2.1) Prod.mk) (cHs L hs) λp r=>(q.1,p.1,p.2)::r)
def xnB(L:Ct)(f:Str):Bool:=zg f&&glB L.sc f
def qj8(xt:List Str):Nat->Stmt->Bool
 |0,_=>true
 | m+1,st=>match st with
  |.Raise ..=>true
  |.Try ..=>true
  |.Expr x _=>((caE x).bind λt=>nmE t.1).elim false xt.contains
  |.Assign _ x _=>((caE x).bind λt=>nmE t.1).elim false xt.contains
  |.If _ a b _=>a.any (qj8 xt m)||b.any (qj8 xt m)
  |.For _ _ a _ _=>a.any (qj8 xt m)
  |_=>false
mutual
def cY:Nat->Ct->Bool->Stmt->Option Y
 |0,_,_,_=>none
 | m+1,L,z,st=>match st with
  |.Raise ex ca _=>(match ex.bind cN,ca with
   |some t,none=>oif (!z&&xnB L t.1) ((cEs m L (t.2.1::t.2.2)).map (.rai t.1))
   |_,_=>none)
  |.Expr x p=>(match cN x with
   |some t=>if L.cs.xt.contains t.1=true then oif (xnB L t.1) ((cAs m L (t.2.1::t.2.2)).map (.cal none t.1)) else (cS (m+1) L (.Expr x p)).map .s
   |none=>(cS (m+1) L (.Expr x p)).map .s)
  |.Assign l x p=>(match cN x with
   |some t=>if L.cs.xt.contains t.1=true then (match l with
    |[tg]=>(nmE tg).bind λy=>oif (xnB L t.1) (o2 (qdj L y) (cAs m L (t.2.1::t.2.2)) λi l=>.cal (some i) t.1 l)
    |_=>none) else (cS (m+1) L (.Assign l x p)).map .s
   |none=>(cS (m+1) L (.Assign l x p)).map .s)
  |.If c a b _=>o2 (cT m L c) (o2 (cYs m L z a) (cYs m L z b) Prod.mk) λc p=>.ite c p.1 p.2
  |.For tg it body oe p=>if oe.isEmpty=true/\body.any (qj8 L.cs.xt m)=true then none else (cS (m+1) L (.For tg it body oe p)).map .s
  |.Try body hs oe fi p=>if (oe.isEmpty&&fi.isEmpty&&!hs.isEmpty)=true then oif (!z) (o2 (cYs m L true body) (cHs L hs) .try_) else (cS (m+1) L (.Try body hs oe fi p)).map .s
  |st=>(cS (m+1) L st).map .s
def cYs:Nat->Ct->Bool->List Stmt->Option Ys
 |0,_,_,_=>none
 | m+1,L,z,l=>match l with
  |[]=>some .nil
  | st::l=>o2 (cY m L z st) (cYs m L z l) .cons
end
def Wx{α:Type}(Ξ:Addr->List (Str×D)->Prop)(x:R α)(f:α->Prop):Prop:=match x with
 |.ok a=>f a
 |.exc c l=>Ξ c l
 |.no=>False
section
variable{α M:Type}{Ξ:Addr->List (Str×D)->Prop}
def Wx.th{x:R α}{g:α->R M}{f:M->Prop}(h:Wx Ξ (x.th g) f):Wx Ξ x λa=>Wx Ξ (g a) f:=by cases x<;>exact h
theorem Wx.mono{x:R α}{f g:α->Prop}(h:Wx Ξ x f)(i:∀a,f a->g a):Wx Ξ x g:=by
 cases x with
 |ok a=>exact i a h
 |exc c l=>exact h
 |no=>exact h
theorem Wx.mono2{Ξ':Addr->List (Str×D)->Prop}{x:R α}{f g:α->Prop}(h:Wx Ξ x f)(j:∀c l,Ξ c l->Ξ' c l)(i:∀a,f a->g a):Wx Ξ' x g:=by
 cases x with
 |ok a=>exact i a h
 |exc c l=>exact j c l h
 |no=>exact h
theorem Wx.nox{x:R α}{f:α->Prop}(h:Wx Ξ (noX x) f):Wk x f:=by
 cases x with
 |ok a=>exact h
 |exc c l=>exact h
 |no=>exact h
end
section
variable(U:KC)(K:Frag)(Gv Hv:Hp)
def qoh(G:Hp)(od:Option Addr)(l:List (Str×D)):Prop:=(od=none/\l=[])\/∃dd xs,od=some dd/\G dd=some (xD dd ((l.map (·.1)).zip xs))/\qo U G (l.map (·.2)) xs
def XP(G:Hp)(E:XK)(C:Addr)(l:List (Str×D)):Prop:=∀od G' H',qp Hv H'->qp Gv G'->qp G G'->qp G' H'->(∀a o,G' a=some o->(∃o',Gv a=some o')\/Hv a=none)->qoh U G' od l->E (.ref C) od H'
def tY(E:XK)(f:Env->R Fl):TS:=λD Z H=>∃N G,ER U K Gv Hv G H N Z/\Wx (XP U Gv Hv G E) (f N) (FlP U K Gv Hv G D)
def spX(cx:Str->List Ar->R Rv)(f:Str):Sp:=λvs H Q E=>∃G args,qp G H/\Jn U K G H args vs/\
 Wx (XP U G H G E) (cx f args) λr=>∀v G' H',qp H H'->qp G G'->qp G' H'->(∀a o,G' a=some o->(∃o',G a=some o')\/H a=none)->ReR U G' H' H r v->Q v H'
end
def XP.up{U:KC}{Gv Hv G G1:Hp}{E:XK}{C:Addr}{l:List (Str×D)}(h:XP U Gv Hv G E C l)(g:qp G G1):XP U Gv Hv G1 E C l:=λod G' H' h1 h2 h3=>h od G' H' h1 h2 λb o q=>h3 b o (g b o q)
def qo0(C:Addr)(ns:List Str):Sp:=λvs H Q _=>∃x us,vs=.ref x::us/\H x=some (qhe x C none)/\us.length=ns.length/\(∀u∈us,qk1 u)/\∀dd,H dd=none->dd≠x->Q .non (upd (upd H dd (xD dd (ns.zip us))) x (qhe x C (some dd)))
structure Gb(U:KC)(K:Frag)(k:Nat)(X:Cx)(L:Ct)(cx:Str->List Ar->R Rv)(E:XK):Prop where
 gs:Gs U K k X.nox L
 ps:jK (CX1 X.prog X.w) X E
 xfn:∀f,L.cs.xt.contains f=true->∃fa fd ps,FnOk X.prog X.w X.K X.mg X.base (CX1 X.prog X.w) k fa fd ps (spX U K cx f)/\X.mg f=some (.ref fa)/\PySem.W.keepIn X.K (.ref fa)=true/\qX X.K fd ps []
structure Gx(U:KC)(K:Frag)(k:Nat)(X:Cx)(L:Ct)(cx:Str->List Ar->R Rv)(E:XK):Prop where
 ex:X.ex=[]
 stk:X.stack=X.env::X.outer/\X.env.frame=some X.env.locals
 rs:J2 X E
 own:PassesOwn (model X.prog X.w) X.A X.env X.xe
 xn0:∀n,L.cs.xn n=some []->X.mg n=some (.ref (L.cs.xa n))/\PySem.W.excIn X.K (L.cs.xa n) bV "ValueError.__new__" = true
 xn1:∀n ns,L.cs.xn n=some ns->ns≠[]->∃fI fd j,k=j+1/\X.mg n=some (.ref (L.cs.xa n))/\XcC X.K (L.cs.xa n) fI/\FnOk X.prog X.w X.K X.mg X.base CX0 j fI fd ("self" :: ns) (qo0 (L.cs.xa n) ns)/\qX X.K fd ("self" :: ns) []
 xhs:∀C (t:Str) b,t≠("ValueError" : Str)->L.cs.xs C t=some b->∃D,X.mg t=some (.ref D)/\PySem.W.exmOne X.K (.ref C) (.ref D)=some b
section
variable{U:KC}{K:Frag}{Gv Hv:Hp}{k m w:Nat}{X:Cx}{L:Ct}{cx:Str->List Ar->R Rv}{E:XK}{z:Bool}
def PS.nox{st:Stmt}{t:TS}(h:PS X.nox st t):PS X st t:=λpins s Z H D I hw=>wpAny_mono (h pins s Z H D (I.wish _) hw) (λ_ _ q=>q.unwish) λ_ _ z=>False.elim z
def qoi(gb:Gb U K k X L cx E)(st:Stmt)(x:S)(h:cS m L st=some x):PS X st (tY U K Gv Hv E (iY L.k cx w (.s x))):=by refine PS.imp (PS.nox ((qoe gb.gs (w:=w) m).s Gv Hv st x h)) λD Z H hq=>?_;let(N,G,er,h):=hq;exact{N,G,er,Wx.nox (x:=iS L.k w x N) h}
theorem qk1.of{G:Hp}{d:D}{v:V}(h:qnv d=true)(r:Rep U G d v):qk1 v:=by
 cases d with
 |int i=>simp![Rep]at r;subst r;exact of_decide_eq_true (p:=i.natAbs.log2 < 1920) h
 |non=>simp![Rep]at r;subst r;trivial
 |_=>cases h
theorem qes{G:Hp}:∀{ds:List D} {vs:List V},ds.all qnv=true->qo U G ds vs->∀u∈vs,qk1 u
 |[],vs,_,r=>by simp![qo]at r;subst r;simp
 | d::ds,vs,h,r=>by
  simp![qo]at r;let(v,us,rfl,r1,r2):=r;rw[List.all_cons,Bool.and_eq_true]at h;intro u hu;rcases List.mem_cons.mp hu with rfl|hu
  ·exact qk1.of h.1 r1
  ·exact qes h.2 r2 u hu
theorem qgn(gb:Gb U K k X L cx E)(gx:Gx U K k X L cx E)(n:Str)(e:Expr)(es:List Expr)(np cp p:Pos){y:Y}(h:oif (!z&&xnB L n) ((cEs m L (e::es)).map (.rai n))=some y) :
  PS X (.Raise (some (.Call (.Name n np) (e::es) [] cp)) none p) (tY U K Gv Hv E (iY L.k cx w y)):=by
 let(hc,h):=qj h;let(l,h1,rfl):=ql h;rw[Bool.and_eq_true,xnB,Bool.and_eq_true]at hc;let(n1,n2,n3):=qF hc.2.1;have gd:=gb.gs.toGd;have hg:Gl X n:=gd.glo n hc.2.2;have hs:=qa1 h1;simp![List.any_cons,Bool.or_eq_false_iff]at hs;have pa:PA X (e::es) (tEs U K Gv Hv (iEs L.k l)):=PA.nox ((all m X.nox L gd).es Gv Hv _ _ h1);intro pins s Z H D I hq;let(N,G,er,hw):=hq;have hw:=Wx.nox (x:=iEs L.k l N) (Wx.th hw)
 cases e0:L.cs.xn n with
 |none=>
  exfalso
  cases e1:iEs L.k l N with
  |ok v=>rw[e1]at hw;have hw:Wx (XP U Gv Hv G E) (mkX L.cs n v.1) _:=hw;unfold mkX at hw;rw[e0]at hw;exact hw
  |exc c l=>rw[e1]at hw;exact hw
  |no=>rw[e1]at hw;exact hw
 |some ns=>
  cases ns with
  |nil=>
   let(hm,hk):=gx.xn0 n e0;refine qfR (qfX gx.ex gx.rs) gd.calm hg hm hk PySem.F.excBase_ValueError pa (qf hs.1) (qU hs.2) n1 pins s Z H D I ⟨N,G,er,Wk.mono hw λv hv vs G1 H1 p1 r1=>?_⟩;have hv:Wx (XP U Gv Hv G E) (mkX L.cs n v.1) _:=hv;unfold mkX at hv;rw[e0]at hv;dsimp only at hv
   by_cases hl:v.1.length<=sizeLine
   ·rw[if_pos hl]at hv;exact{by rw[<-r1.len];exact hl,hv none G1 H1 p1.er.base p1.er.g0 p1.gs p1.er.sub p1.er.fresh (.inl ⟨rfl,rfl⟩)}
   ·rw[if_neg hl]at hv;exact hv.elim
  |cons a ns=>
   let(fI,fd,j,hj,hm,hk,F,hb):=gx.xn1 n _ e0 (5:);subst hj;refine qd5 gx.ex gx.rs gd.calm hg hm hk F gd.room hb pa (qf hs.1) (qU hs.2) n1 pins s Z H D I ⟨N,G,er,Wk.mono hw λv hv vs G1 H1 p1 r1=>?_⟩;have hv:Wx (XP U Gv Hv G E) (mkX L.cs n v.1) _:=hv;unfold mkX at hv;rw[e0]at hv;dsimp only at hv
   by_cases hl:(decide (v.1.length=(a::ns).length)&&decide (v.1.length<=sizeLine)&&v.1.all qnv)=true
   case neg=>rw[if_neg hl]at hv;exact hv.elim
   rw[if_pos hl]at hv;simp![Bool.and_eq_true,decide_eq_true_eq]at hl;let((l1,l2),l3):=hl;refine{by rw[<-r1.len];exact l2,λx hx=>{x,vs,rfl,qg,by rw[<-r1.len];exact l1,qes l3 r1,λdd hd ne=>{rfl,some dd,qg,?_}}};rw[qe ne]at hd;have gdd:G1 dd=none:=qp.none p1.er.sub hd;have gx1:G1 x=none:=qp.none p1.er.sub hx
   have old:∀{b:Addr} {o:HO},H1 b=some o->rem (upd (upd (upd H1 x (qhe x (L.cs.xa n) none)) dd (xD dd ((a::ns).zip vs))) x (qhe x (L.cs.xa n) (some dd))) x b=some o:=λ{b o} q=>by
    have b1:b≠x:=λz=>by rw[z,hx]at q;cases q
    have b2:b≠dd:=λz=>by rw[z,hd]at q;cases q
    rw[qbG b1,qe b1,qe b2,qe b1];exact q
   have fz:((a::ns).zip v.1).map (·.1)=a::ns:=by rw[List.map_fst_zip];lia
   have sz:((a::ns).zip v.1).map (·.2)=v.1:=by rw[List.map_snd_zip];lia
   have gs1:qp G1 (upd G1 dd (xD dd ((a::ns).zip vs))):=qp.upd gdd;refine hv (some dd) (upd G1 dd (xD dd ((a::ns).zip vs))) _ (λb o q=>old (p1.er.base b o q)) (λb o q=>gs1 b o (p1.er.g0 b o q)) (λb o q=>gs1 b o (p1.gs b o q)) (λb o q=>?_) (λb o q=>?_) (.inr ⟨dd,vs,rfl,by rw[fz];exact qg,by rw[sz];exact r1.same gs1⟩)
   ·by_cases hb:b=dd
    ·subst hb;rw[qg]at q;cases q;rw[qbG ne,qe ne,qg]
    ·rw[qe hb]at q;exact old (p1.er.sub b o q)
   ·by_cases hb:b=dd
    ·subst hb;exact .inr (qp.none p1.er.base hd)
    ·rw[qe hb]at q;exact p1.er.fresh b o q
def XP.back{G H:Hp}{N N':Env}{Z:L2.St}{G1 H1:Hp}{C:Addr}{l:List (Str×D)}(h:XP U Gv Hv G E C l)(p1:Po U K Gv Hv Z G H N G1 H1 N'):XP U G1 H1 G1 E C l:=λod G' H' hs gs _ sub fr xr=>
 h od G' H' (λb o q=>hs b o (p1.er.base b o q)) (λb o q=>gs b o (p1.er.g0 b o q)) (λb o q=>gs b o (p1.gs b o q)) sub (λb o q=>by
  rcases fr b o q with ⟨o',q'⟩|q'
  ·exact p1.er.fresh b o' q'
  ·exact .inr (qp.none p1.er.base q')) xr
theorem qet(gb:Gb U K k X L cx E)(f:Str)(e:Expr)(es:List Expr)(fp cp:Pos){l:Es}(ht:L.cs.xt.contains f=true)(hc:xnB L f=true)(h1:cAs m L (e::es)=some l)(g:Rv->Env->R Fl)(D':Env->Hp->Fl->Prop) :
  PE X (.Call (.Name f fp) (e::es) [] cp) (λZ H Q=>∃N G,ER U K Gv Hv G H N Z/\Wx (XP U Gv Hv G E) ((noX (iAs L.k l N)).th λx=>(cx f x.1).th λr=>.ok (r,x.2)) λy=>∀v G' H',Po U K Gv Hv Z G H N G' H' y.2->RvR U K Hv H G' H' y.2 Z y.1 v->Q v H'):=by
 rw[xnB,Bool.and_eq_true]at hc;let(n1,n2,n3):=qF hc.1;have gd:=gb.gs.toGd;have hs:=Yk h1;simp![List.any_cons,Bool.or_eq_false_iff]at hs;let(fa,fd,ps,F,hm,hk,hb):=gb.xfn f ht;have pa:PA X (e::es) (tAs U K Gv Hv (iAs L.k l)):=PA.nox ((all m X.nox L gd).as Gv Hv _ _ h1);refine PE.imp (jx F gd.room (gd.glo f hc.2) hm hk hb .nil gb.ps pa n1 (qf hs.1) (qU hs.2)) λZ H Q hq=>?_;let(N,G,er,h):=hq;refine{N,G,er,Wk.mono (Wx.nox (x:=iAs L.k l N) (Wx.th h)) λx h vs G1 H1 p1 r1=>?_};show spX U K cx f (vs++[]) H1 Q E;rw[List.append_nil];refine{G1,x.1,p1.er.sub,r1,?_}
 cases e1:cx f x.1 with
 |no=>rw[e1]at h;exact h
 |exc C l=>rw[e1]at h;exact XP.back h p1
 |ok r=>rw[e1]at h;intro v G2 H2 hs gs sub new rr;let(z1,z2):=ReR.rv p1 hs gs sub new rr;exact h v G2 H2 z1 z2
end
structure AllY(U:KC)(K:Frag)(k:Nat)(X:Cx)(L:Ct)(cx:Str->List Ar->R Rv)(E:XK)(z:Bool)(m w:Nat):Prop where
 y:∀Gv Hv st x,cY m L z st=some x->PS X st (tY U K Gv Hv E (iY L.k cx w x))
 ys:∀Gv Hv l x,cYs m L z l=some x->PSs X l (tY U K Gv Hv E (iYs L.k cx w x))
section
variable{U:KC}{K:Frag}{Gv Hv:Hp}{k m w:Nat}{X:Cx}{L:Ct}{cx:Str->List Ar->R Rv}{E:XK}{z:Bool}
theorem qgo(gb:Gb U K k X L cx E)(f:Str)(e:Expr)(es:List Expr)(fp cp p:Pos){l:Es}(ht:L.cs.xt.contains f=true)(hc:xnB L f=true)(h1:cAs m L (e::es)=some l) :
  PS X (.Expr (.Call (.Name f fp) (e::es) [] cp) p) (tY U K Gv Hv E (iY L.k cx w (.cal none f l))):=by
 refine PS.imp (yJ (qet (Gv:=Gv) (Hv:=Hv) gb f e es fp cp ht hc h1 (λ_ _=>.no) (λ_ _ _=>True)) (Yl rfl _ _ _)) λD Z H hq=>?_;let(N,G,er,h):=hq;refine{N,G,er,?_};have h:Wx (XP U Gv Hv G E) ((noX (iAs L.k l N)).th λx=>(cx f x.1).th λr=>qj7 none r x.2) (FlP U K Gv Hv G D):=h
 cases e1:iAs L.k l N with
 |exc c l=>rw[e1]at h;exact h
 |no=>rw[e1]at h;exact h
 |ok x=>
  rw[e1]at h;have h:Wx (XP U Gv Hv G E) ((cx f x.1).th λr=>qj7 none r x.2) (FlP U K Gv Hv G D):=h;show Wx (XP U Gv Hv G E) ((cx f x.1).th λr=>.ok (r,x.2)) _
  cases e2:cx f x.1 with
  |exc c l=>rw[e2]at h;exact h
  |no=>rw[e2]at h;exact h
  |ok r=>rw[e2]at h;exactλv G1 H1 p1 r1=>h Z G1 H1 p1.er p1.gs
theorem qi7(gb:Gb U K k X L cx E)(y f:Str)(e:Expr)(es:List Expr)(yp fp cp p:Pos){i:Nat}{l:Es}(hi:qdj L y=some i)(ht:L.cs.xt.contains f=true)(hc:xnB L f=true)(h1:cAs m L (e::es)=some l) :
  PS X (.Assign [.Name y yp] (.Call (.Name f fp) (e::es) [] cp) p) (tY U K Gv Hv E (iY L.k cx w (.cal (some i) f l))):=by
 let(l1,l2,hN,hxi):=Z3 gb.gs.toGd hi;refine PS.imp (qbs (i:=i) hN hxi l1 (qet (Gv:=Gv) (Hv:=Hv) gb f e es fp cp ht hc h1 (λ_ _=>.no) (λ_ _ _=>True)) (Yl rfl _ _ _) l2) λD Z H hq=>?_;let(N,G,er,h):=hq;refine{N,G,er,?_};have h:Wx (XP U Gv Hv G E) ((noX (iAs L.k l N)).th λx=>(cx f x.1).th λr=>qj7 (some i) r x.2) (FlP U K Gv Hv G D):=h
 cases e1:iAs L.k l N with
 |exc c l=>rw[e1]at h;exact h
 |no=>rw[e1]at h;exact h
 |ok x=>
  rw[e1]at h;have h:Wx (XP U Gv Hv G E) ((cx f x.1).th λr=>qj7 (some i) r x.2) (FlP U K Gv Hv G D):=h;show Wx (XP U Gv Hv G E) ((cx f x.1).th λr=>.ok (r,x.2)) _
  cases e2:cx f x.1 with
  |exc c l=>rw[e2]at h;exact h
  |no=>rw[e2]at h;exact h
  |ok r=>
   rw[e2]at h;have h:Wx (XP U Gv Hv G E) (qj7 (some i) r x.2) (FlP U K Gv Hv G D):=h;intro v G1 H1 p1 r1
   cases r with
   |val d=>exact h _ G1 H1 (qa4 (s:=.val d) p1.er r1) p1.gs
   |tmp l=>let(a,xs,rfl,q1,q2,q3,q4,q5,q6):=r1;exact h _ G1 H1 (qa4 (s:=.own l) p1.er ⟨a,xs,rfl,q1,q3,q4,q5,q6⟩) p1.gs
   |_=>exact h.elim
theorem qlR(gb:Gb U K k X L cx E)(S:AllY U K k X L cx E z m w)(c:Expr)(a b:List Stmt)(p:Pos){x:Y}(h:o2 (cT m L c) (o2 (cYs m L z a) (cYs m L z b) Prod.mk) (λc p=>Y.ite c p.1 p.2)=some x):PS X (.If c a b p) (tY U K Gv Hv E (iY L.k cx w x)):=by
 let(c',q,h1,h2,rfl):=qk h;let(a',b',h3,h4,rfl):=qk h2;refine PS.imp (qcs (PT.nox ((all m X.nox L gb.gs.toGd).t Gv Hv _ _ h1)) (S.ys Gv Hv _ _ h3) (S.ys Gv Hv _ _ h4)) λD Z H hq1=>?_;let(N,G,er,h):=hq1;refine{N,G,er,Wk.mono (Wx.nox (x:=iT L.k c' N) (Wx.th h)) λt h G1 H1 p1=>?_};let(d,N1):=t
 cases d with
 |true=>rw[if_pos rfl];exact{N1,G1,p1.er,Wx.mono2 h (λc l hx=>hx.up p1.gs) λf hf=>hf.back p1.gs}
 |false=>rw[if_neg (λz=>by cases z)];exact{N1,G1,p1.er,Wx.mono2 h (λc l hx=>hx.up p1.gs) λf hf=>hf.back p1.gs}
theorem qhu(S:AllY U K k X L cx E z m w):∀l x,cYs (m+1) L z l=some x->PSs X l (tY U K Gv Hv E (iYs L.k cx w x))
 |[],_,h=>by cases h;exact PSs.imp Jr λD Z H ⟨N,G,er,h⟩=>h Z G H er λ_ _ e=>e
 | st::l,_,h=>by
  let(s',l',h1,h2,rfl):=qk h;refine PSs.imp (zd (S.y Gv Hv _ _ h1) (S.ys Gv Hv _ _ h2)) λD Z H hq1=>?_;let(N,G,er,h):=hq1;refine{N,G,er,Wx.mono (Wx.th (x:=iY L.k cx w s' N) h) λf hf=>?_}
  cases f with
  |next N1=>exactλZ1 G1 H1 er1 g1=>{N1,G1,er1,Wx.mono2 hf (λc l hx=>hx.up g1) λf hf=>hf.back g1}
  |ret r=>exact hf
end
noncomputable abbrev atX(X:Cx)(pins:PP)(E1:PQ):Cx:={ X with pn:=X.pn++pins,xe:=E1 }
section
variable{U:KC}{K:Frag}{Gv Hv:Hp}{k m w:Nat}{X:Cx}{L:Ct}{cx:Str->List Ar->R Rv}{E:XK}{z:Bool}{pins pins':PP}{E1:PQ}{Z:L2.St}{H:Hp}{s:Shared}
def qlS(ok:X.Ok):(atX X pins E1).Ok:=⟨ok.mod,ok.kind,ok.glob,ok.blt,ok.above,ok.inj,ok.has,ok.cab,ok.hd,ok.frames,ok.stk,ok.exf,ok.bs,ok.bsz,ok.noex,ok.exfs,ok.funs,ok.frf⟩
def qlT(ok:(atX X pins E1).Ok):X.Ok:=⟨ok.mod,ok.kind,ok.glob,ok.blt,ok.above,ok.inj,ok.has,ok.cab,ok.hd,ok.frames,ok.stk,ok.exf,ok.bs,ok.bsz,ok.noex,ok.exfs,ok.funs,ok.frf⟩
def qlU(I:L2.Inv X pins Z H s):L2.Inv (atX X pins E1) [] Z H s:={qlS I.ok,I.os,I.bare,I.base,I.loc,I.cell,I.free,I.freeC,λp hp=>I.pin p (-hp:),I.hok,I.len}
def Z8(I:L2.Inv (atX X pins E1) pins' Z H s):L2.Inv X pins Z H s:={qlT I.ok,I.os,I.bare,I.base,I.loc,I.cell,I.free,I.freeC,λp hp=>I.pin p (List.mem_append_left _ hp),I.hok,I.len}
theorem qlV{D:Ends}{f:Flow}(h:SP (atX X pins E1) [] D f s):SP X pins D f s:=by
 cases f with
 |next=>let(Z',H',I,q):=h;exact{Z',H',Z8 I,q}
 |brk=>let(Z',H',I,q):=h;exact{Z',H',Z8 I,q}
 |cont=>let(Z',H',I,q):=h;exact{Z',H',Z8 I,q}
 |ret u=>let(v,Z',H',I,r,q):=h;exact{v,Z',H',Z8 I,r,q}
def qlW(gs:Gs U K k X.nox L):Gs U K k (atX X pins E1).nox L:=
 { nx:=gs.nx,hN:=gs.hN,vis:=gs.vis,loc:=gs.loc,glo:=gs.glo,cf:=gs.cf,nd:=gs.nd,calm:=gs.calm,hK:=gs.hK,room:=gs.room,fns:=gs.fns,blt:=gs.blt,gl:=gs.gl,cls:=gs.cls,flds:=gs.flds,mts:=gs.mts,mks:=gs.mks,xsubs:=gs.xsubs,xgs:=gs.xgs,subs:=gs.subs,own:=gs.own,sceq:=gs.sceq,fnk:=gs.fnk }
theorem qoj(gs:Gs U K k X.nox L)(gx:Gx U K k X L cx E){x T C:Addr}{od:Option Addr}{G2:Hp}{hh:Heap}{l:List (Str×D)}{D:Ends}{G:Hp}{n:Nat}{Ξ:Addr->List (Str×DE.D)->Prop}(hn:Z.length=n)(Hd:Held X pins Z H s x T C od hh)
  (h1:qp Hv H) (h2:qp Gv G2) (h3:qp G2 H) (h4:∀a o,G2 a=some o->(∃o',Gv a=some o')\/Hv a=none) (h5:qoh U G2 od l) (g:qp G G2) :
  ∀(hs:List ExceptHandler) (hs':List (Str×Nat×Nat)),cHs L hs=some hs'->Wx Ξ (Y9 L.cs n C l hs') (FlP U K Gv Hv G D)->wpAny (model X.prog X.w) X.A (handleBy (.ref x) X.env hs) (SP X pins D) X.xe { s with heap:=hh }:=by
 intro hs
 induction hs with
 |nil=>intro hs' hc hw;cases hc;exact hw.elim
 |cons hd hs ih=>
  intro hs' hc hw
  ·let((t,n,v,n2),hH,hc):=qw hc;let(tp,vp,np,ap,hp,rfl):=qog hH;let(hb,hc):=qj hc;let(q,r',h6,h7,rfl):=qk hc;let(i,j,h8,h9,rfl):=qk h6;simp![Bool.and_eq_true,decide_eq_true_eq,beq_iff_eq]at hb;let((((((b1,b2),b3),b4),b5),b6),b7):=hb;subst b1;have hg:Gl X t:=gs.glo t b5;let(n1,n2',n3):=qF b4;let(m1,m2,m3):=qF b6;have hw:Wx Ξ (match L.cs.xs C t with |some true=>R.ok (Fl.next ((List.replicate n Sl.no).set j (.val (.exc C (l.map (·.1)) (l.map (·.2)))))) |some false=>Y9 L.cs n C l r' |none=>.no) (FlP U K Gv Hv G D):=hw
   cases ex:L.cs.xs C t with
   |none=>rw[ex]at hw;exact hw.elim
   |some b=>
    let(Dc,hm,hq):=gx.xhs C t b b3 ex
    cases b with
    |false=>rw[ex]at hw;exact qaT Hd gx.ex hg hm hq (ih r' h7 hw) n1
    |true=>
     rw[ex]at hw;let(i1,i2,hN,hxi):=Z3 gs.toGd h8;let(j1,j2,_,hxj):=Z3 gs.toGd h9;have hN:X.N.Nodup:=hN;have hxi:X.N[i]?=some n2:=hxi;have hxj:X.N[j]?=some v:=hxj;have hl:X.env.scope.names.lookup n2=some .local:=by rw[show X.env.scope=L.sc from gs.sceq];exact b7
     have hij:i≠j:=λz=>by rw[z,hxj]at hxi;exact b2 (Option.some.inj hxi)
     have hlen:X.N.length=n:=by rw[<-hn];exact Hd.inv.len.symm
     have hi:i < n:=by rw[<-hlen];exact(List.getElem?_eq_some_iff.mp hxi).1
     have hj:j < n:=by rw[<-hlen];exact(List.getElem?_eq_some_iff.mp hxj).1
     refine qcE Hd gx.ex hg hm hq hN hxi hl (jw (qbs (X:=X.mark (.ref x)) (i:=j) hN hxj j1 (qbq (X:=X.mark (.ref x)) (i:=i) hxi (.inl hl) m1 m2) (Yl rfl _ _ _) j2)) ⟨.ref x,by rw[List.getElem?_set_self (by rw[hn];exact hi)],?_⟩ n1;have hHx:H x=none:=Hd.mine.hx;have gx2:G2 x=none:=qp.none h3 hHx;have gs2:qp G2 (upd G2 x (qft x C od)):=qp.upd gx2;refine hw _ (upd G2 x (qft x C od)) _ ⟨by simp[hn],λb o q=>?_,λb o q=>?_,λb o q=>gs2 b o (h2 b o q),λb o q=>?_,λi' sl q=>?_,λi1' j1' a l' m' q1=>?_⟩ λb o q=>gs2 b o (g b o q)
     ·by_cases hb:b=x
      ·subst hb;rw[qg]at q ⊢;exact q
      ·rw[qe hb]at q ⊢;exact h3 b o q
     ·rw[qe (λz=>by rw[z]at q;have:=h1 _ _ q;rw[hHx]at this;cases this)];exact h1 b o q
     ·by_cases hb:b=x
      ·subst hb;exact .inr (qp.none h1 hHx)
      ·rw[qe hb]at q;exact h4 b o q
     ·by_cases he:j=i'
      ·subst he;rw[List.getElem?_set_self (-hj:)]at q;cases q;refine{.ref x,?_,?_}
       ·rw[List.getElem?_set_ne hij,List.getElem?_set_self (by simp[hn];exact hj)]
       ·simp![Rep];rcases h5 with ⟨z1,z2⟩|⟨dd,xs,z1,z2,z3⟩
        ·exact{x,od,[],rfl,qg,.inl {z1,by rw[z2];rfl},by rw[z2];exact .nil}
        ·exact{x,od,xs,rfl,qg,.inr {dd,z1,gs2 _ _ z2},z3.same gs2}
      ·rw[List.getElem?_set_ne he]at q
       have:=List.eq_of_mem_replicate (List.mem_of_getElem? q)
       subst this;trivial
     ·exfalso
      by_cases he:j=i1'
      ·subst he;rw[List.getElem?_set_self (-hj:)]at q1;cases q1
      ·rw[List.getElem?_set_ne he]at q1
       have:=List.eq_of_mem_replicate (List.mem_of_getElem? q1)
       cases this
def qi8(gb:Gb U K k X L cx E)(gx:Gx U K k X L cx E)(S:∀X' E',Gb U K k X' L cx E'->AllY U K k X' L cx E' true m w)(body:List Stmt)(h0:ExceptHandler)(hs:List ExceptHandler)(p:Pos){y:Y}(h:o2 (cYs m L true body) (cHs L (h0::hs)) Y.try_=some y) :
  PS X (.Try body (h0::hs) [] [] p) (tY U K Gv Hv E (iY L.k cx w y)):=by
 let(b,hs',h1,h2,rfl):=qk h;intro pins s Z H D I hq;let(N,G,er,hw):=hq;have hw:Wx (XP U Gv Hv G E) (match iYs L.k cx w b N with |.exc C l=>Y9 L.cs N.length C l hs' |r=>r) (FlP U K Gv Hv G D):=hw
 let E':XK:=λcv od H2=>∃C l G2,cv=.ref C/\qp Hv H2/\qp Gv G2/\qp G G2/\qp G2 H2/\(∀a o,G2 a=some o->(∃o',Gv a=some o')\/Hv a=none)/\qoh U G2 od l/\Wx (XP U Gv Hv G E) (Y9 L.cs N.length C l hs') (FlP U K Gv Hv G D)
 let E1:Value->Shared->Prop:=λe s'=>∃pins' Z' H1 s1,L2.Inv (atX X pins (λ_ _=>True)) pins' Z' H1 s1/\CX1 X.prog X.w X.stack H1 s1 E' e s'
 have gb':Gb U K k (atX X pins E1) L cx E':={qlW gb.gs,λpins' Z' H1 s1 e s' I' c=>{pins',Z',H1,s1,{⟨I'.ok.mod,I'.ok.kind,I'.ok.glob,I'.ok.blt,I'.ok.above,I'.ok.inj,I'.ok.has,I'.ok.cab,I'.ok.hd,I'.ok.frames,I'.ok.stk,I'.ok.exf,I'.ok.bs,I'.ok.bsz,I'.ok.noex,I'.ok.exfs,I'.ok.funs,I'.ok.frf⟩,I'.os,I'.bare,I'.base,I'.loc,I'.cell,I'.free,I'.freeC,I'.pin,I'.hok,I'.len},c},gb.xfn}
 have B:=(S _ _ gb').ys Gv Hv body b h1 [] s Z H D (qlU I) ⟨N,G,er,by
  cases e1:iYs L.k cx w b N with
  |ok f=>rw[e1]at hw;exact hw
  |no=>rw[e1]at hw;exact hw
  |exc C l=>rw[e1]at hw;exactλod G' H' q1 q2 q3 q4 q5 q6=>⟨C,l,G',rfl,q1,q2,q3,q4,q5,q6,hw⟩⟩
 refine wpAny_Try_except (wpAny_mono B (λf s1 q=>?_) λe s1 hq=>?_)
 ·have q:=qlV q
  cases f with
  |next=>exact wpAny_execs_nil q
  |_=>exact q
 ·let(pins',Z',H1,s2,I2,c):=hq
  exact qpO (D:=D) gx.stk gx.ex (Z8 I2) c λx T C od H2 hh q Hd=>by let(C',l,G2,ec,q1,q2,q3,q4,q5,q6,q7):=q;cases ec;exact qoj gb.gs gx (by rw[er.len,I.len];exact Hd.inv.len) Hd q1 q2 q4 q5 q6 q3 (h0::hs) hs' h2 q7
end
section
variable{U:KC}{K:Frag}{Gv Hv:Hp}{k m w:Nat}{X:Cx}{L:Ct}{cx:Str->List Ar->R Rv}{E:XK}{z:Bool}
theorem qo1(gb:Gb U K k X L cx E)(gx:z=false->Gx U K k X L cx E)(A:AllY U K k X L cx E z m w)(S:∀X' E',Gb U K k X' L cx E'->AllY U K k X' L cx E' true m w)(st:Stmt)(x:Y)(h:cY (m+1) L z st=some x):PS X st (tY U K Gv Hv E (iY L.k cx w x)):=by
 have gen:(cS (m+1) L st).map Y.s=some x->PS X st (tY U K Gv Hv E (iY L.k cx w x)):=λh=>by let(y,h1,rfl):=ql h;exact qoi gb st y h1
 cases st with
 |Raise ex ca p=>
  replace h:(match (generalizing:=false) ex.bind cN,ca with
   |some t,none=>oif (!z&&xnB L t.1) ((cEs m L (t.2.1::t.2.2)).map (.rai t.1))
   |_,_=>none)=some x:=h
  cases e:ex.bind cN with
  |none=>rw[e]at h;cases h
  |some t=>
   rw[e]at h
   cases ca with
   |some _=>cases h
   |none=>
    let(y,rfl,e):=qw e;let(np,cp,rfl):=qi6 e
    have hz:z=false:=by
     let(hc,_):=qj h;rw[Bool.and_eq_true]at hc
     simpa using hc.1
    exact qgn gb (gx hz) t.1 t.2.1 t.2.2 np cp p h
 |Expr y p=>
  replace h:(match (generalizing:=false) cN y with
   |some t=>if L.cs.xt.contains t.1=true then oif (xnB L t.1) ((cAs m L (t.2.1::t.2.2)).map (.cal none t.1)) else (cS (m+1) L (.Expr y p)).map .s
   |none=>(cS (m+1) L (.Expr y p)).map .s)=some x:=h
  cases e:cN y with
  |none=>rw[e]at h;exact gen h
  |some t=>
   rw[e]at h
   by_cases ht:L.cs.xt.contains t.1=true
   ·replace h:=(if_pos ht).symm.trans h
    let(fp,cp,rfl):=qi6 e;let(hc,h):=qj h;let(l,h1,rfl):=ql h;exact qgo gb t.1 t.2.1 t.2.2 fp cp p ht hc h1
   ·exact gen ((if_neg ht).symm.trans h)
 |Assign l y p=>
  replace h:(match (generalizing:=false) cN y with
   |some t=>if L.cs.xt.contains t.1=true then (match (generalizing:=false) l with
    |[tg]=>(nmE tg).bind λy=>oif (xnB L t.1) (o2 (qdj L y) (cAs m L (t.2.1::t.2.2)) λi l=>.cal (some i) t.1 l)
    |_=>none) else (cS (m+1) L (.Assign l y p)).map .s
   |none=>(cS (m+1) L (.Assign l y p)).map .s)=some x:=h
  cases e:cN y with
  |none=>rw[e]at h;exact gen h
  |some t=>
   rw[e]at h
   by_cases ht:L.cs.xt.contains t.1=true
   ·replace h:=(if_pos ht).symm.trans h
    let(fp,cp,rfl):=qi6 e
    match l,h with
    |[],h=>cases h
    | _::_::_,h=>cases h
    |[tg],h=>let(v,hv,h):=qw h;let(vp,rfl):=Z7 hv;let(hc,h):=qj h;let(i,l,h1,h2,rfl):=qk h;exact qi7 gb v t.1 t.2.1 t.2.2 vp fp cp p h1 ht hc h2
   ·exact gen ((if_neg ht).symm.trans h)
 |If c a b p=>exact qlR gb A c a b p h
 |For tg it body oe p=>
  replace h:(if oe.isEmpty=true/\body.any (qj8 L.cs.xt m)=true then none else (cS (m+1) L (.For tg it body oe p)).map .s)=some x:=h
  by_cases ho:oe.isEmpty=true/\body.any (qj8 L.cs.xt m)=true
  ·rw[if_pos ho]at h;cases h
  ·rw[if_neg ho]at h;exact gen h
 |Try body hs oe fi p=>
  replace h:(if (oe.isEmpty&&fi.isEmpty&&!hs.isEmpty)=true then oif (!z) (o2 (cYs m L true body) (cHs L hs) .try_) else (cS (m+1) L (.Try body hs oe fi p)).map .s)=some x:=h
  by_cases ho:(oe.isEmpty&&fi.isEmpty&&!hs.isEmpty)=true
  ·rw[if_pos ho]at h;simp![Bool.and_eq_true,List.isEmpty_iff,Bool.not_eq_true']at ho;let((rfl,rfl),ho):=ho;let(hc,h):=qj h
   cases hs with
   |nil=>cases ho
   |cons h0 hs=>exact qi8 gb (gx (-hc:)) S body h0 hs p h
  ·rw[if_neg ho]at h;exact gen h
 |_=>exact gen h
theorem qi9:∀m X E,Gb U K k X L cx E->AllY U K k X L cx E true m w
 |0,_,_,_=>{(λ_ _ _ _ h=>nomatch h),(λ_ _ _ _ h=>nomatch h)}
 | m+1,X,E,gb=>
  have A:=qi9 m X E gb
  ⟨λGv Hv=>qo1 gb (λz=>by cases z) A λX' E' g=>qi9 m X' E' g,λGv Hv=>qhu A⟩
theorem qo2(gb:Gb U K k X L cx E)(gx:Gx U K k X L cx E):∀m,AllY U K k X L cx E false m w
 |0=>{(λ_ _ _ _ h=>nomatch h),(λ_ _ _ _ h=>nomatch h)}
 | m+1=>
  have A:=qo2 gb gx m
  ⟨λGv Hv=>qo1 gb (λ_=>gx) A λX' E' g=>qi9 m X' E' g,λGv Hv=>qhu A⟩
end
def Jo(st:Stmt):List Str:=(zj st).args.map (·.arg)
def fnN(st:Stmt):List Str:=Jo st++(qi st).names.filterMap λx=>if ((x.2 == .local||x.2 == .cell)&&!(Jo st).contains x.1)=true then some x.1 else none
def zk(st:Stmt):Bool:=(qi st).kind == .function&&!(qi st).isCoroutine&&!(qi st).isGenerator&&decide (fnN st).Nodup&&(Jo st).all (qk6 (qi st))&&(qi st).names.all λy=>y.2 != .free
def toSl:Ar->Sl
 |.val d=>.val d
 |.bor l=>.bor l
 |.scr l=>.scr l
def jA(N:List Str)(args:List Ar):Env:=args.map toSl++List.replicate (N.length - args.length) .no
structure Pg where
 defs:List (Str×Stmt)
 gl:Str->Option D
 m:Nat
 w:Nat
 meths:List (Str×Stmt):=[]
 cs:Cs:=Cs.non
 nw:Nat->Str->List Ar->R Rv:=λ_ _ _=>.no
 xl:List Str:=[]
 xx:Xs:={}
def Pg.ct(pg:Pg)(k:Nat)(cl:Str->List Ar->R Rv)(st:Stmt):Ct:={fnN st,qi st,pg.defs.map (·.1),pg.gl,cl,pg.cs,pg.nw k}
def flR:Fl->R Rv
 |.next _=>.ok (.val .non)
 |.ret r=>.ok r
def evF(pg:Pg)(k:Nat)(cl:Str->List Ar->R Rv)(st:Stmt)(args:List Ar):R Rv:=
 if (zk st&&args.length == (Jo st).length)=true then (match cSs pg.m (pg.ct k cl st) (qz st) with
  |some b=>(iSs (pg.ct k cl st).k pg.w b (jA (fnN st) args)).th flR
  |none=>.no) else .no
def evX(pg:Pg)(k:Nat)(cl cx:Str->List Ar->R Rv)(st:Stmt)(args:List Ar):R Rv:=
 if (zk st&&args.length == (Jo st).length&&decide (2<=k))=true then (match cYs pg.m (pg.ct k cl st) false (qz st) with
  |some b=>(iYs (pg.ct k cl st).k cx pg.w b (jA (fnN st) args)).th flR
  |none=>.no) else .no
def clB(pg:Pg):Nat->Bool->Str->List Ar->R Rv
 |0,_,_,_=>.no
 | k+1,x,f,args=>match (pg.defs++pg.meths).lookup f with
  |some st=>if x=true then evX pg k (clB pg k false) (clB pg k true) st args else if pg.xl.contains f=true then noX (evX pg k (clB pg k false) (clB pg k true) st args) else evF pg k (clB pg k false) st args
  |none=>.no
def clK(pg:Pg)(k:Nat)(f:Str)(args:List Ar):R Rv:=clB pg k false f args
def clX(pg:Pg)(k:Nat)(f:Str)(args:List Ar):R Rv:=clB pg k true f args
def FnF(K:Frag)(mg:PR)(f:Str)(st:Stmt):Prop:=∃fa fd,Fun K f f st fa fd/\mg f=some (.ref fa)/\qX K fd (Jo st) []
inductive AllF(K:Frag)(mg:PR):List (Str×Stmt)->Prop where
 | nil:AllF K mg []
 | cons {f:Str} {st:Stmt} {l:List (Str×Stmt)} (h:FnF K mg f st) (t:AllF K mg l):AllF K mg ((f,st)::l)
theorem AllF.mem{K:Frag}{mg:PR}:∀{l:List (Str×Stmt)} {f:Str} {st:Stmt},AllF K mg l->(f,st)∈l->FnF K mg f st
 |_,_,_,.nil,h=>by cases h
 |_,_,_,.cons h t,m=>by
  cases m with
  |head=>exact h
  |tail _ m=>exact t.mem m
def qdk(P:Program)(wd:World)(U:KC)(K:Frag)(mg:PR)(base:Heap)(pg:Pg)(k:Nat):Prop:=
 (∀(f:Str) (st:Stmt),pg.defs.lookup f=some st->∃fa fd,FnOk P wd K mg base CX0 k fa fd (Jo st) (spF U K (clK pg k) f)/\mg f=some (.ref fa)/\PySem.W.keepIn K (.ref fa)=true/\qX K fd (Jo st) [])/\
 (∀(f:Str) (st:Stmt),pg.meths.lookup f=some st->pg.defs.lookup f=none->∀nm fa fd,Fun K nm f st fa fd->FnOk P wd K mg base CX0 k fa fd (Jo st) (spF U K (clK pg k) f))/\
 ∀(f:Str) (st:Stmt),pg.defs.lookup f=some st->∃fa fd,FnOk P wd K mg base (CX1 P wd) k fa fd (Jo st) (spX U K (clX pg k) f)/\mg f=some (.ref fa)/\PySem.W.keepIn K (.ref fa)=true/\qX K fd (Jo st) []
structure PgOk(U:KC)(K:Frag)(mg:PR)(pg:Pg):Prop where
 fn:AllF K mg pg.defs
 blt:∀f∈qeb,mg f=none
 gl:∀x d,pg.gl x=some d->∃v u,mg x=some u/\qH v u/\∀G,Rep U G d v
 cls:∀c C,U c=some C->Cls K C
 flds:∀c x C,pg.cs.fld c x=true->U c=some C->ze K C x
 mts:∀c x f,pg.cs.mt c x=some f->∃C fa fd st nm,U c=some C/\Meth K C x fa/\pg.meths.lookup f=some st/\pg.defs.lookup f=none/\Fun K nm f st fa fd/\qX K fd (Jo st) []
 mks:∀P wd base k,(∀j,j < k->qdk P wd U K mg base pg j)->∀f,pg.cs.tab.contains f=true->(∀args,pg.nw k f args=.no)\/∃C fa fd ps sp,Mk K C fa/\FnOk P wd K mg base CX0 (k - 1) fa fd ps sp/\mg f=some (.ref C)/\qX K fd ps []/\0 < k/\
  ∀vs H Q,spF U K (pg.nw k) f vs H Q E0->∀x dx,H x=none->H dx=none->dx≠x->sp (.ref x::vs) (upd (upd H dx (.own x)) x (.ins C dx [])) (λv H2=>v=.non/\Q (.ref x) H2) E0
 xsubs:∀C t b,pg.cs.xs C t=some b->ExcIs K C/\((∃T,mg t=some (.ref T)/\PySem.W.kitOne K (.ref C) (.ref T)=some b)\/(mg t=none/\t = "ValueError"/\PySem.W.kitOne K (.ref C) (.type "ValueError")=some b)):=by exactλ_ _ _ h=>by cases h
 xgs:∀C x,pg.cs.xg C x=true->XcG K C x:=by exactλ_ _ h=>by cases h
 xn0:∀n,pg.cs.xn n=some []->mg n=some (.ref (pg.cs.xa n))/\PySem.W.excIn K (pg.cs.xa n) bV "ValueError.__new__" = true:=by exactλ_ h=>by cases h
 xn1:∀n ns,pg.cs.xn n=some ns->ns≠[]->∀P wd base j,∃fI fd,mg n=some (.ref (pg.cs.xa n))/\XcC K (pg.cs.xa n) fI/\FnOk P wd K mg base CX0 (j+1) fI fd ("self" :: ns) (qo0 (pg.cs.xa n) ns)/\qX K fd ("self" :: ns) []:=by exactλ_ _ h=>by cases h
 xhs:∀C (t:Str) b,t≠("ValueError" : Str)->pg.cs.xs C t=some b->∃D,mg t=some (.ref D)/\PySem.W.exmOne K (.ref C) (.ref D)=some b:=by exactλ_ _ _ _ h=>by cases h
 xtd:∀f,pg.cs.xt.contains f=true->(pg.defs.map (·.1)).contains f=true:=by exactλ_ h=>by cases h
 subs:∀c t b,pg.cs.sub c t=some b->∃C T,U c=some C/\(∀H p dx fs,H p=some (HO.ins C dx fs)->TyOf K H (.ref p) (.ref C))/\mg t=some (.ref T)/\PySem.W.kitOne K (.ref C) (.ref T)=some b
section
variable{P:Program}{wd:World}{U:KC}{K:Frag}{mg:PR}{base:Heap}{pg:Pg}
theorem Jn.len{G H:Hp}:∀{args:List Ar} {vs:List V},Jn U K G H args vs->args.length=vs.length
 |[],vs,h=>by simp![Jn]at h;subst h;rfl
 | a::l,vs,h=>by simp![Jn]at h;let(v,r,rfl,_,h2):=h;simp[Jn.len h2]
theorem Jn.at{G H:Hp}:∀{args:List Ar} {vs:List V} {i:Nat} {a:Ar},Jn U K G H args vs->args[i]?=some a->∃v,vs[i]?=some v/\ArR U K G H a v
 |[],vs,i,a,h,e=>by simp at e
 | b::l,vs,0,a,h,e=>by simp![Jn]at h;let(v,r,rfl,h1,h2):=h;simp at e;subst e;exact⟨v,rfl,h1⟩
 | b::l,vs,i+1,a,h,e=>by simp![Jn]at h;let(v,r,rfl,h1,h2):=h;let(v',e1,e2):=Jn.at (i:=i) h2 (-e:);exact{v',(-e1:),e2}
def qbS{G H:Hp}{args:List Ar}{vs:List V}{N:List Str}(sub:qp G H)(h:Jn U K G H args vs):ER U K G H G H (jA N args) (L2.JS N vs):=by
 have hl:=h.len;refine{by simp[jA,L2.JS,hl],sub,λ_ _ e=>e,λ_ _ e=>e,λa o e=>.inl ⟨o,e⟩,λi s e=>?_,λi j a l n e1=>?_}
 ·unfold jA at e;unfold L2.JS
  by_cases hi:i < args.length
  ·rw[List.getElem?_append_left (-hi:),List.getElem?_map]at e;let(b,e1,rfl):=Option.map_eq_some_iff.mp e;let(v,e2,e3):=h.at e1;rw[List.getElem?_append_left (by rw[List.length_map,<-hl];exact hi),List.getElem?_map,e2]
   cases b with
   |val d=>exact⟨v,rfl,e3⟩
   |bor l=>let(a,xs,rfl,h1,h2):=e3;exact⟨a,xs,rfl,h1,h2⟩
   |scr l=>let(a,xs,rfl,h1,h2):=e3;exact⟨a,xs,rfl,h1,h2⟩
  ·rw[List.getElem?_append_right (-hi:)]at e
   have:s=.no:=by
    have:=List.mem_of_getElem? e
    exact List.eq_of_mem_replicate this
   subst this;trivial
 ·exfalso;unfold jA at e1
  by_cases hi:i < args.length
  ·rw[List.getElem?_append_left (-hi:),List.getElem?_map]at e1;let(b,_,z):=Option.map_eq_some_iff.mp e1
   cases b<;>cases z
  ·rw[List.getElem?_append_right (-hi:)]at e1
   have:=List.eq_of_mem_replicate (List.mem_of_getElem? e1)
   cases this
def yq{st:Stmt}(h:zk st=true):FnScope (fnN st) (Jo st) (qi st):=by unfold zk at h;simp![Bool.and_eq_true,Bool.not_eq_true',List.all_eq_true]at h;let(((((h1,h2),h3),h4),h5),h6):=h;refine{by simpa using h1,h2,h3,of_decide_eq_true h4,by simp[fnN],λx hx=>qec (h5 x hx),λy hy=>by simpa using h6 y hy}
def J3{k:Nat}{x:Bool}{f:Str}{st:Stmt}{args:List Ar}(h:(pg.defs++pg.meths).lookup f=some st):clB pg (k+1) x f args=if x=true then evX pg k (clK pg k) (clX pg k) st args else if pg.xl.contains f=true then noX (evX pg k (clK pg k) (clX pg k) st args) else evF pg k (clK pg k) st args:=by show(match (pg.defs++pg.meths).lookup f with |some st=>_ |none=>R.no)=_;rw[h];rfl
def J4{k:Nat}{f:Str}{st:Stmt}{args:List Ar}(h:(pg.defs++pg.meths).lookup f=some st)(hx:pg.xl.contains f=false):clK pg (k+1) f args=evF pg k (clK pg k) st args:=by unfold clK;rw[J3 h,if_neg (λz=>by cases z),if_neg (by rw[hx];exactλz=>by cases z)];rfl
theorem qbT{f:Str}{st:Stmt}:∀{l m:List (Str×Stmt)},l.lookup f=some st->(l++m).lookup f=some st
 |[],m,h=>by cases h
 | (g,s)::l,m,h=>by
  rw[List.lookup_cons]at h;rw[List.cons_append,List.lookup_cons]
  cases e:(f == g) with
  |true=>rw[e]at h;exact h
  |false=>rw[e]at h;exact qbT h
theorem qhv{f:Str}:∀{l m:List (Str×Stmt)},l.lookup f=none->(l++m).lookup f=m.lookup f
 |[],m,h=>rfl
 | (g,s)::l,m,h=>by
  rw[List.lookup_cons]at h;rw[List.cons_append,List.lookup_cons]
  cases e:(f == g) with
  |true=>rw[e]at h;cases h
  |false=>rw[e]at h;exact qhv h
theorem Ym{f:Str}:∀{l:List (Str×Stmt)},(l.map (·.1)).contains f=true->∃st,l.lookup f=some st
 |[],h=>by simp at h
 | (g,st)::l,h=>by
  by_cases e:f=g
  ·subst e;exact{st,by simp[List.lookup_cons]}
  ·have hb:(f == g)=false:=(-e:)
   let(s,hs):=Ym (l:=l) (f:=f) (by simp![List.map_cons,List.contains_cons,hb,Bool.false_or]at h;exact h)
   exact{s,by rw[List.lookup_cons,hb];exact hs}
def qlX(ok:PgOk U K mg pg){k:Nat}(ih:∀j,j<=k->qdk P wd U K mg base pg j){f:Str}{st:Stmt}{fa:Addr}{CX:CXT}{cdv:Value}{A:Around}{outer:List PySem.Env}{s:Shared}{H:Hp}{E:XK}(S:FnScope (fnN st) (Jo st) (qi st))(hr:Room k (A.deeper (envOfC f (qi st) s.heap.objs.size fa cdv))) :
  Gs U K k (qbw CX P wd K mg base (fnN st) f (qi st) fa cdv A outer s H E).nox (pg.ct k (clK pg k) st):=
 {hN:=rfl
  vis:=λx h=>qhj h
  loc:=λx h=>{qec h,.inl rfl}
  glo:=λx h=>by have h:((qi st).names.lookup x == some NameKind.globalImplicit)=true:=h;exact(by simpa using h:(qi st).names.lookup x=some .globalImplicit)
  cf:=λx h=>h
  nd:=S.nd
  calm:=rfl
  hK:=rfl
  room:=hr
  fns:=λg hg=>by let(st',hl):=Ym (l:=pg.defs) hg;let(ga,gd,G1,G2,G3,G4):=(ih k (Nat.le_refl k)).1 g st' hl;exact{ga,gd,Jo st',G1,G2,G3,G4}
  blt:=ok.blt
  gl:=ok.gl
  cls:=ok.cls
  flds:=ok.flds
  mts:=λc x f h=>by let(C,fa,fd,st',nm,m1,m2,m3,m4,m5,m6):=ok.mts c x f h;exact{C,fa,fd,_,m1,m2,(ih k (Nat.le_refl k)).2.1 f st' m3 m4 nm fa fd m5,m6}
  mks:=ok.mks P wd base k λj hj=>ih j (Nat.le_of_lt hj)
  xsubs:=ok.xsubs
  xgs:=ok.xgs
  subs:=ok.subs
  own:=PassesOwn.never
  nx:=λ_ _ h=>h
  sceq:=rfl
  fnk:=S.kind }
def qbU{k:Nat}{st:Stmt}{args:List Ar}{cl cx:Str->List Ar->R Rv}{Ξ:Addr->List (Str×D)->Prop}{g:Rv->Prop}(z:Wx Ξ (evX pg k cl cx st args) g):(zk st=true/\args.length=(Jo st).length/\2<=k)/\
  Wx Ξ (match cYs pg.m (pg.ct k cl st) false (qz st) with |some b=>(iYs (pg.ct k cl st).k cx pg.w b (jA (fnN st) args)).th flR |none=>.no) g:=by
 unfold evX at z
 by_cases hc:(zk st&&args.length == (Jo st).length&&decide (2<=k))=true
 ·rw[if_pos hc]at z;simp![Bool.and_eq_true,decide_eq_true_eq,beq_iff_eq]at hc;exact{⟨hc.1.1,hc.1.2,hc.2⟩,z}
 ·rw[if_neg hc]at z;exact z.elim
def qbV(ok:PgOk U K mg pg){k:Nat}(ih:∀j,j<=k->qdk P wd U K mg base pg j){nm f:Str}{st:Stmt}{fa:Addr}{fd:FuncData}(F:Fun K nm f st fa fd)(h:(pg.defs++pg.meths).lookup f=some st):FnOk P wd K mg base (CX1 P wd) (k+1) fa fd (Jo st) (spX U K (clX pg (k+1)) f):=by
 have un:∀{args:List Ar},clX pg (k+1) f args=evX pg k (clK pg k) (clX pg k) st args:=λ{args}=>by unfold clX;rw[J3 h,if_pos rfl];rfl
 by_cases hc:zk st=true/\2<=k
 case neg=>
  have no:∀{vs:List V} {H:Hp} {Q:VK} {E:XK},spX U K (clX pg (k+1)) f vs H Q E->False:=λ{vs H Q E} ⟨G,args,_,_,z⟩=>by rw[un]at z;exact hc ⟨(qbU z).1.1,(qbU z).1.2.2⟩
  exact{λvs H Q E z=>(no z).elim,λA outer s H args us vs Q E _ _ _ _ z=>(no z).elim}
 let(hc,h2):=hc;refine F.okx (yq hc) (λvs H Q E z=>?_) (λcdv A outer s H vs Q E hr z=>?_)
 ·let(G,args,_,ha,z):=z;rw[un]at z;rw[<-ha.len];exact(qbU z).1.2.1
 ·let(G,args,sub,ha,z):=z;rw[un]at z;have z:=(qbU z).2;have S:=yq hc
  have gb:Gb U K k (qbw (CX1 P wd) P wd K mg base (fnN st) f (qi st) fa cdv A outer s H E) (pg.ct k (clK pg k) st) (clX pg k) E:=
   ⟨qlX ok ih S hr,qiu λ_ _ _ q=>q,λg hg=>by let(st',hl):=Ym (l:=pg.defs) (ok.xtd g hg);let(ga,gd,G1,G2,G3,G4):=(ih k (Nat.le_refl k)).2.2 g st' hl;exact{ga,gd,Jo st',G1,G2,G3,G4}⟩
  have gx:Gx U K k (qbw (CX1 P wd) P wd K mg base (fnN st) f (qi st) fa cdv A outer s H E) (pg.ct k (clK pg k) st) (clX pg k) E:=
   {ex:=rfl
    stk:=⟨rfl,rfl⟩
    rs:=qd4
    own:=PassesOwn.leaving
    xn0:=ok.xn0
    xn1:=λn ns e1 e2=>by let(j,rfl):∃j,k=j+2:={k - 2,by omega};let(fI,fd,q1,q2,q3,q4):=ok.xn1 n ns e1 e2 P wd base j;exact{fI,fd,j+1,rfl,q1,q2,q3,q4}
    xhs:=ok.xhs }
  cases hb:cYs pg.m (pg.ct k (clK pg k) st) false (qz st) with
  |none=>rw[hb]at z;exact z.elim
  |some b=>
   rw[hb]at z;refine{_,(qo2 gb gx (w:=pg.w) pg.m).ys G H (qz st) b hb,jA (fnN st) args,G,qbS sub ha,Wx.mono (Wx.th z) λfl hf=>?_}
   cases fl with
   |next N=>exactλZ' G' H' er g'=>hf .non G' H' er.base er.g0 er.sub er.fresh (by simp![ReR,Rep])
   |ret r=>exact hf
def qgp{k:Nat}{fa:Addr}{fd:FuncData}{ps:List Str}{sp sp':Sp}(F:FnOk P wd K mg base (CX1 P wd) k fa fd ps sp)(h:∀vs H Q E,sp' vs H Q E->sp vs H Q E0):FnOk P wd K mg base CX0 k fa fd ps sp':=
 ⟨λvs H Q E q=>F.len vs H Q E0 (h vs H Q E q),λA outer s H args us vs Q E hr he hb hv hs=>codeAny_mono (F.run A outer s H args us vs Q E0 hr he hb hv (h vs H Q E hs)) λr s' q=>by
  cases r with
  |error e=>let(x,T,C,od,H',_,_,_,_,_,_,_,_,_,_,z):=(show CX1 P wd outer H s E0 e s' from q);exact z.elim
  |ok fl=>cases fl<;>exact q⟩
theorem qa5(ok:PgOk U K mg pg){k:Nat}(ih:∀j,j<=k->qdk P wd U K mg base pg j){nm f:Str}{st:Stmt}{fa:Addr}{fd:FuncData}(F:Fun K nm f st fa fd)(h:(pg.defs++pg.meths).lookup f=some st):FnOk P wd K mg base CX0 (k+1) fa fd (Jo st) (spF U K (clK pg (k+1)) f):=by
 cases hx:pg.xl.contains f with
 |true=>
  refine qgp (qbV ok ih F h) λvs H Q E z=>?_;let(G,args,sub,ha,z):=z;refine{G,args,sub,ha,?_}
  have e1:clK pg (k+1) f args=noX (clX pg (k+1) f args):=by unfold clK clX;rw[J3 h,J3 h,if_neg (λz=>by cases z),if_pos hx,if_pos rfl]
  rw[e1]at z
  cases e2:clX pg (k+1) f args with
  |ok r=>rw[e2]at z;exact z
  |exc c l=>rw[e2]at z;exact z.elim
  |no=>rw[e2]at z;exact z.elim
 |false=>
  by_cases hc:zk st=true
  case neg=>
   have no:∀{vs:List V} {H:Hp} {Q:VK} {E:XK},spF U K (clK pg (k+1)) f vs H Q E->False:=λ{vs H Q E} ⟨G,args,_,_,z⟩=>by
    rw[J4 h hx]at z
    have:=(Wk.iff (show Wk (if (zk st&&args.length == (Jo st).length)=true then _ else R.no) _ from z)).1
    rw[Bool.and_eq_true]at this;exact hc this.1
   exact{λvs H Q E z=>(no z).elim,λA outer s H args us vs Q E _ _ _ _ z=>(no z).elim}
  refine F.ok (yq hc) (λvs H Q E z=>?_) (λcdv A outer s H vs Q E hr z=>?_)
  ·let(G,args,_,ha,z):=z;rw[J4 h hx]at z
   have:=(Wk.iff (show Wk (if (zk st&&args.length == (Jo st).length)=true then _ else R.no) _ from z)).1
   rw[Bool.and_eq_true]at this;rw[<-ha.len]
   simpa using this.2
  ·let(G,args,sub,ha,z):=z;rw[J4 h hx]at z;have z:=(Wk.iff (show Wk (if (zk st&&args.length == (Jo st).length)=true then _ else R.no) _ from z)).2;have gs:Gs U K k (qbw CX0 P wd K mg base (fnN st) f (qi st) fa cdv A outer s H E).nox (pg.ct k (clK pg k) st):=qlX ok ih (yq hc) hr
   cases hb:cSs pg.m (pg.ct k (clK pg k) st) (qz st) with
   |none=>rw[hb]at z;exact z.elim
   |some b=>
   rw[hb]at z;refine{_,(qoe gs (w:=pg.w) pg.m).ss G H (qz st) b hb,jA (fnN st) args,G,qbS sub ha,Wk.mono (Wk.th z) λfl hf=>?_}
   cases fl with
   |next N=>exactλZ' G' H' er g'=>hf .non G' H' er.base er.g0 er.sub er.fresh (by simp![ReR,Rep])
   |ret r=>exact hf
theorem qlY(ok:PgOk U K mg pg):∀k j:Nat,j<=k->qdk P wd U K mg base pg j:=by
 have zero:qdk P wd U K mg base pg 0:=by
  refine{λf st h=>?_,λf st h _ nm fa fd F=>{λvs H Q E ⟨G,args,_,_,z⟩=>False.elim z,λA outer s H args us vs Q E _ _ _ _ ⟨G,args',_,_,z⟩=>False.elim z},λf st h=>?_}
  ·let(fa,fd,F,hm,hb):=ok.fn.mem (PySem.mem_of_lookup h);exact{fa,fd,{λvs H Q E ⟨G,args,_,_,z⟩=>False.elim z,λA outer s H args us vs Q E _ _ _ _ ⟨G,args',_,_,z⟩=>False.elim z},hm,F.kp,hb}
  ·let(fa,fd,F,hm,hb):=ok.fn.mem (PySem.mem_of_lookup h);exact{fa,fd,{λvs H Q E ⟨G,args,_,_,z⟩=>False.elim z,λA outer s H args us vs Q E _ _ _ _ ⟨G,args',_,_,z⟩=>False.elim z},hm,F.kp,hb}
 intro k
 induction k with
 |zero=>intro j hj;rw[Nat.le_zero.mp hj];exact zero
 |succ k ih=>
  intro j hj;rcases Nat.lt_or_ge j (k+1) with h|h
  ·exact ih j (Nat.le_of_lt_succ h)
  ·obtain rfl:j=k+1:=Nat.le_antisymm hj h;refine{λf st h=>?_,λf st h h0 nm fa fd F=>?_,λf st h=>?_}
   ·let(fa,fd,F,hm,hb):=ok.fn.mem (PySem.mem_of_lookup h);exact{fa,fd,qa5 ok ih F (qbT h),hm,F.kp,hb}
   ·exact qa5 ok ih F ((qhv h0).trans h)
   ·let(fa,fd,F,hm,hb):=ok.fn.mem (PySem.mem_of_lookup h);exact{fa,fd,qbV ok ih F (qbT h),hm,F.kp,hb}
theorem Z9(G:Hp):∀ns:List Int,qo U G (ns.map D.int) (ns.map V.int)
 |[]=>.nil
 | n::ns=>.cons (by simp![Rep]) (Z9 G ns)
def qlZ{st:Stmt}{k:Nat}{fa:Addr}{fd:FuncData}(ok:PgOk U K mg pg)(F:Fun K "law" "law" st fa fd)(hl:pg.defs.lookup ("law" : Str)=some st)(hp:Jo st=(["_law_script"]:List Str)) :
  FnOk P wd K mg base CX0 (k+1) fa fd (["_law_script"]:List Str) (spF U K (clK pg (k+1)) "law"):=by
 have:=qa5 (P:=P) (wd:=wd) (base:=base) ok (qlY ok k) F (qbT hl)
 rw[hp]at this;exact this
def ql0{k:Nat}{H:Hp}{a:Addr}{ns:List Int}(hq:SqL K H a (ns.map V.int))(h:clK pg k "law" [.scr (ns.map D.int)]=.ok (.val (.bl true))):spF U K (clK pg k) "law" [.ref a] H (λv _=>v=.bl true) λ_ _ _=>False:=by
 refine{λ_=>none,[.scr (ns.map D.int)],λ_ _ e=>(by cases e),⟨_,_,rfl,⟨a,_,rfl,hq,Z9 _ ns⟩,rfl⟩,?_};rw[h];intro v G' H' _ _ _ _ r
 simpa only[ReR,Rep] using r
end
def qqb(pg:Pg)(k:Nat)(cl:Str->List Ar->R Rv)(st:Stmt):Option (Nat×Nat×Ss):=oif (zk st) ((cSs pg.m (pg.ct k cl st) (qz st)).map λb=>((Jo st).length,(fnN st).length,b))
def slN(n:Nat)(args:List Ar):Env:=args.map toSl++List.replicate (n - args.length) .no
def runD(cl:Cl)(w:Nat)(c:Nat×Nat×Ss)(args:List Ar):R Rv:=if args.length=c.1 then (iSs cl w c.2.2 (slN c.2.1 args)).th flR else .no
def Pg.kk(pg:Pg)(k:Nat):Cl:={clK pg k,pg.cs,pg.nw k}
def qq{pg:Pg}{f:Str}{st:Stmt}{c:Nat×Nat×Ss}(hl:(pg.defs++pg.meths).lookup f=some st)(hc:∀k cl,qqb pg k cl st=some c)(k:Nat)(args:List Ar)(hx:pg.xl.contains f=false:=by rfl):clK pg (k+1) f args=runD (pg.kk k) pg.w c args:=by
 let(h1,h2):=qj (hc k (clK pg k));let(b,h3,rfl):=ql h2;rw[J4 hl hx];unfold evF runD
 by_cases hn:args.length=(Jo st).length
 ·rw[if_pos (by rw[h1,hn];simp),if_pos hn];rw[h3];rfl
 ·rw[if_neg (by simp[hn]),if_neg hn]
variable{cl:Cl}{w:Nat}
def th_ok{α M:Type}(a:α)(f:α->R M):(R.ok a).th f=f a:=(rfl)
def of_some{α:Type}(a:α):R.of (some a)=.ok a:=(rfl)
def yr(cl:Cl)(w:Nat)(tg:Tg)(b:Ss)(l:List D)(N:Env):R Fl:=qk9 (λd N1=>(tg.go d N1).th λN2=>iSs cl w b N2) l N
def whD(cl:Cl)(w:Nat)(c:T)(b:Ss)(n:Nat)(N:Env):R Fl:=whL (λN1=>iT cl c N1) (λN1=>iSs cl w b N1) n N
def zA(cl:Cl)(e:E)(tg:Tg)(c:F)(l:List D)(N:Env)(acc:List D):R (List D):=qd9 tg.go (λN1=>iF cl c N1) (jZ e (iR cl e)) l N acc
def qcT(f:Fl)(g:Env->R Fl):R Fl:=match f with
 |.next N1=>g N1
 |.ret r=>.ok (.ret r)
section
variable(cl:Cl)(w:Nat)(N:Env)
def zB(tg:Tg)(b:Ss):yr cl w tg b [] N=.ok (.next N):=(rfl)
def qeu(tg:Tg)(b:Ss)(d:D)(l:List D):yr cl w tg b (d::l) N=((tg.go d N).th λN2=>iSs cl w b N2).th λf=>qcT f λN1=>yr cl w tg b l N1:=(rfl)
def qgq(c:T)(b:Ss)(n:Nat):whD cl w c b (n+1) N=(iT cl c N).th λt=>if t.1=true then (iSs cl w b t.2).th λf=>qcT f λN1=>whD cl w c b n N1 else .ok (.next t.2):=(rfl)
def qG(e:E)(tg:Tg)(c:F)(acc:List D):zA cl e tg c [] N acc=.ok acc:=(rfl)
def qcU(e:E)(tg:Tg)(c:F)(d:D)(l acc:List D):zA cl e tg c (d::l) N acc=(tg.go d N).th λN1=>(iF cl c N1).th λbt=>if bt.1=true then (jZ e (iR cl e) bt.2).th λx=>if acc.length < sizeLine then zA cl e tg c l x.2 (acc++[x.1]) else .no else zA cl e tg c l bt.2 acc:=(rfl)
def ql1(i:Nat)(e:E):iS cl w (.app i e) N=(match zD N i with
  |none=>.no
  |some _=>(jZ e (iR cl e) N).th λy=>(match zD y.2 i with
   |some l=>if l.length < sizeLine then .ok (.next (y.2.set i (.own (l++[y.1])))) else .no
   |none=>.no)):=(rfl)
def ql2(i:Nat)(e:E):iS cl w (.ext i e) N=(match zD N i with
  |none=>.no
  |some _=>(iR cl e N).th λy=>(match zD y.2 i,y.1.plain? with
   |some l,some n=>if l.length+n.length<=sizeLine then .ok (.next (y.2.set i (.own (l++n)))) else .no
   |_,_=>.no)):=(rfl)
def ql3(e:E):iS cl w (.ret e) N=(qf1 e (iR cl e) N).th λr=>.ok (.ret r):=(rfl)
def ql4(i:Nat)(e:E):iS cl w (.set i e) N=(qcO e (iR cl e) N).th λs=>.ok (.next (s.2.set i s.1)):=(rfl)
def qja(tg:Tg)(e:E):iS cl w (.setT tg e) N=(jZ e (iR cl e) N).th λx=>(tg.go x.1 x.2).th λN1=>.ok (.next N1):=(rfl)
def qjb(i:Nat)(x e:E):iS cl w (.setI i x e) N=(jZ e (iR cl e) N).th λy=>(match zD y.2 i with
  |none=>.no
  |some _=>(iR cl x y.2).th λz=>(match zD z.2 i,z.1.int? with
   |some l,some n=>(match ixN l.length n with
    |some k=>.ok (.next (z.2.set i (.own (l.set k y.1))))
    |none=>.no)
   |_,_=>.no)):=(rfl)
def ql5(c:T)(a b:Ss):iS cl w (.ite c a b) N=(iT cl c N).th λt=>if t.1=true then iSs cl w a t.2 else iSs cl w b t.2:=(rfl)
def ql6(tg:Tg)(src:I)(b:Ss):iS cl w (.for_ tg src b) N=(iI cl src N).th λx=>yr cl w tg b x.1 x.2:=(rfl)
def qgr(s:S)(l:Ss):iSs cl w (.cons s l) N=(iS cl w s N).th λf=>qcT f λN1=>iSs cl w l N1:=(rfl)
def ql7(op:Operator)(a b:E):iR cl (.bin op a b) N=(iR cl a N).th λx=>(iR cl b x.2).th λy=>(qaV op x.1 y.1).th λr=>.ok (r,y.2):=(rfl)
def ql8(a:E):iR cl (.neg a) N=(iR cl a N).th λx=>match x.1 with
  |.val (.int i)=>.ok (.val (.int (-i)),x.2)
  |_=>.no:=(rfl)
def ql9(a:E):iR cl (.not a) N=(iR cl a N).th λx=>match x.1 with
  |.val (.bl b)=>.ok (.val (.bl (!b)),x.2)
  |_=>.no:=(rfl)
def qma(a b:E):iR cl (.and a b) N=(iR cl a N).th λx=>match x.1 with
  |.val (.bl true)=>iR cl b x.2
  |.val (.bl false)=>.ok (.val (.bl false),x.2)
  |_=>.no:=(rfl)
def qmb(op:CmpOp)(a b:E):iR cl (.cmp op a b) N=(iR cl a N).th λx=>(iR cl b x.2).th λy=>(R.of (Yh op x.1 y.1)).th λr=>.ok (.val (.bl r),y.2):=(rfl)
def qmc(c:T)(a b:E):iR cl (.ite c a b) N=(iT cl c N).th λt=>if t.1=true then iR cl a t.2 else iR cl b t.2:=(rfl)
def qmd(a i:E):iR cl (.idx a i) N=(iR cl a N).th λx=>(iR cl i x.2).th λy=>(idxD x.1 y.1).th λr=>.ok (r,y.2):=(rfl)
def qme(a:E)(lo hi:O):iR cl (.sli a lo hi) N=(iR cl a N).th λx=>(iO cl lo x.2).th λl=>(iO cl hi l.2).th λh=>(sliceD x.1 l.1 h.1).th λr=>.ok (r,h.2):=(rfl)
def qmf(l:Es):iR cl (.lst l) N=(iEs cl l N).th λx=>if x.1.length<=sizeLine then .ok (.tmp x.1,x.2) else .no:=(rfl)
def qmg(l:Es):iR cl (.tup l) N=(iEs cl l N).th λx=>if x.1.length<=sizeLine then .ok (.val (.tup x.1),x.2) else .no:=(rfl)
def qmh(a:E):iR cl (.rvs a) N=(iR cl a N).th λx=>(R.of x.1.list?).th λl=>.ok (.tmp l.reverse,x.2):=(rfl)
def qjc(f:Str)(l:Es):iR cl (.calN f l) N=(iAs cl l N).th λx=>(cl f x.1).th λr=>.ok (qcN x.1 r,x.2):=(rfl)
def qjd(f:Str)(l:Es):iR cl (.call f l) N=(iAs cl l N).th λx=>(cl f x.1).th λr=>.ok (r,x.2):=(rfl)
def qok(f:B1)(a:E):iR cl (.b1 f a) N=(iR cl a N).th λx=>(f.go x.1).th λr=>.ok (r,x.2):=(rfl)
def qol(f:B2)(a b:E):iR cl (.b2 f a b) N=(iR cl a N).th λx=>(iR cl b x.2).th λy=>(f.go x.1 y.1).th λr=>.ok (r,y.2):=(rfl)
def qmi(t:Ty)(a:E):iR cl (.isi t a) N=(iR cl a N).th λx=>(R.of (t.go x.1)).th λb=>.ok (.val (.bl b),x.2):=(rfl)
def qmj(t:Str)(a:E):iR cl (.isc t a) N=(iR cl a N).th λx=>(R.of (qhf cl.cs x.1 t)).th λb=>.ok (.val (.bl b),x.2):=(rfl)
def qmk(a:E)(x:Str):iR cl (.fld a x) N=(iR cl a N).th λy=>(R.of (qdh cl.cs y.1 x)).th λd=>.ok (.val d,y.2):=(rfl)
def goM(cl:Cl)(x:Str)(l:Es)(v:Rv)(N:Env):Option Str->R (Rv×Env)
 |some f=>(iAs cl l N).th λz=>(cl f (toAr v::z.1)).th λr=>.ok (r,z.2)
 |none=>(iAs cl l N).th λz=>(bmD x v z.1).th λr=>.ok (r,z.2)
def qml(a:E)(x:Str)(l:Es):iR cl (.met a x l) N=(iR cl a N).th λy=>goM cl x l y.1 y.2 (mtD cl.cs y.1 x):=by
 show(iR cl a N).th _=_
 congr 1
def qmm(f:Str)(l:Es):iR cl (.new f l) N=(iAs cl l N).th λx=>(cl.nw f x.1).th λr=>.ok (r,x.2):=(rfl)
def qje(e:E)(src:I)(tg:Tg)(c:F)(n:Nat)(fr:List Nat):iR cl (.comp e src tg c n fr) N=(iI cl src N).th λx=>if x.1.length<=sizeLine then (zA cl e tg c x.1 (JT n fr x.2) []).th λl=>.ok (.tmp l,x.2) else .no:=(rfl)
def qmn(a:T):iT cl (.not a) N=(iT cl a N).th λt=>.ok (!t.1,t.2):=(rfl)
def qmo(a b:T):iT cl (.and a b) N=(iT cl a N).th λt=>if t.1=true then iT cl b t.2 else .ok (false,t.2):=(rfl)
def qom(a b:T):iT cl (.or a b) N=(iT cl a N).th λt=>if t.1=true then .ok (true,t.2) else iT cl b t.2:=(rfl)
def qmp(op:CmpOp)(a b:E):iT cl (.cmp op a b) N=(iR cl a N).th λx=>(iR cl b x.2).th λy=>(R.of (Yh op x.1 y.1)).th λr=>.ok (r,y.2):=(rfl)
def qmq(a:E):iT cl (.val a) N=(iR cl a N).th λx=>(R.of (truthD x.1)).th λb=>.ok (b,x.2):=(rfl)
def qgs(e:E)(l:Es):iEs cl (.cons e l) N=(jZ e (iR cl e) N).th λx=>(iEs cl l x.2).th λy=>.ok (x.1::y.1,y.2):=(rfl)
def qgt(e:E)(l:Es):iAs cl (.cons e l) N=(iR cl e N).th λx=>(iAs cl l x.2).th λy=>.ok (toAr x.1::y.1,y.2):=(rfl)
def qjf(e:E):iO cl (.some e) N=(iR cl e N).th λx=>match x.1 with
  |.val (.int i)=>.ok (some i,x.2)
  |_=>.no:=(rfl)
def qmr(a:E):iI cl (.seq a) N=(y2 a (iR cl a) N).th λx=>.ok (x.1.2,x.2):=(rfl)
def qms(a:E):iI cl (.rng a) N=(iR cl a N).th λx=>(match x.1.int? with
  |some n=>if qN n=true then .ok (qS 0 n,x.2) else .no
  |none=>.no):=(rfl)
def qjg(a:E):iI cl (.enum a) N=(y2 a (iR cl a) N).th λx=>match x.1.1 with |.lst=>.ok (Yi x.1.2,x.2) |_=>.no:=(rfl)
def qmt(a:E):iI cl (.rev a) N=(y2 a (iR cl a) N).th λx=>match x.1.1 with |.lst=>.ok (x.1.2.reverse,x.2) |_=>.no:=(rfl)
def qmu(a b:E):iI cl (.zip a b) N=(y2 a (iR cl a) N).th λx=>(y2 b (iR cl b) x.2).th λy=>match x.1.1,y.1.1 with |.lst,.lst=>.ok (qcM x.1.2 y.1.2,y.2) |_,_=>.no:=(rfl)
variable(s:Sl)(i:Nat)(d:D)(l:List D)
def slR_s:slR (s::N) (i+1)=slR N i:=(rfl)
def slR_v:slR (.val d::N) 0=.ok (.val d):=(rfl)
def slR_o:slR (.own l::N) 0=.ok (.cell l):=(rfl)
def slR_b:slR (.bor l::N) 0=.ok (.cell l):=(rfl)
def slR_c:slR (.scr l::N) 0=.ok (.scr l):=(rfl)
def slX_s:slX (s::N) (i+1)=slX N i:=(rfl)
def slX_v:slX (.val d::N) 0=.ok (.val d):=(rfl)
def slX_o:slX (.own l::N) 0=.ok (.tmp l):=(rfl)
theorem qon:slE (s::N) (i+1)=(slE N i).th λx=>.ok (x.1,s::x.2):=by
 show(match N[i]? with |some (.val d)=>_ |some (.own l)=>_ |_=>_)=R.th (match N[i]? with |some (.val d)=>_ |some (.own l)=>_ |_=>_) _
 cases N[i]? with
 |none=>rfl
 |some z=>cases z<;>rfl
theorem qoo:slL (s::N) (i+1)=(slL N i).th λx=>.ok (x.1,s::x.2):=by
 show(match N[i]? with |some (.val (.lst l))=>_ |some (.val (.tup l))=>_ |some (.val (.str z))=>_ |some (.own l)=>_ |some (.bor l)=>_ |some (.scr l)=>_ |_=>_)=R.th (match N[i]? with |some (.val (.lst l))=>_ |some (.val (.tup l))=>_ |some (.val (.str z))=>_ |some (.own l)=>_ |some (.bor l)=>_ |some (.scr l)=>_ |_=>_) _
 cases N[i]? with
 |none=>rfl
 |some z=>
  cases z with
  |val d=>cases d<;>rfl
  |_=>rfl
def ownI_s:zD (s::N) (i+1)=zD N i:=(rfl)
def ownI_o:zD (.own l::N) 0=some l:=(rfl)
end
mutual
def okD:D->Bool
 |.str s=>PyData.strOk s
 |.lst l=>qdl l
 |.tup l=>qdl l
 |.ins ..=>false
 |.exc ..=>false
 |.dct ..=>false
 |.non=>true
 |.bl _=>true
 |.int _=>true
def qdl:List D->Bool
 |[]=>true
 | d::l=>okD d&&qdl l
end
mutual
def dpD:D->Nat
 |.lst l=>qa6 l+1
 |.tup l=>qa6 l+1
 |.str _=>0
 |.ins ..=>0
 |.exc ..=>0
 |.dct ..=>0
 |.non=>0
 |.bl _=>0
 |.int _=>0
def qa6:List D->Nat
 |[]=>0
 | d::l=>max (dpD d) (qa6 l)
end
mutual
theorem qhw:∀d:D,okD d=true->∃p,toP d=some p/\p.canLay0=true/\p.depth=dpD d/\PyData.eqv p p=true
 |.non,_=>{_,by rw[toP],by rw[PyData.canLay0],by rw[PyData.depth,dpD],by rw[PyData.eqv]}
 |.bl b,_=>{_,by rw[toP],by rw[PyData.canLay0],by rw[PyData.depth,dpD],by rw[PyData.eqv];simp}
 |.int n,_=>{_,by rw[toP],by rw[PyData.canLay0],by rw[PyData.depth,dpD],by rw[PyData.eqv];simp}
 |.str s,h=>{_,by rw[toP],by rw[PyData.canLay0];rw[okD]at h;exact h,by rw[PyData.depth,dpD],by rw[PyData.eqv];simp}
 |.lst l,h=>by rw[okD]at h;let(p,h1,h2,h3,h4):=qa7 l h;exact{.list p,by rw[toP,h1];rfl,by rw[PyData.canLay0];exact h2,by rw[PyData.depth,dpD,h3],by rw[PyData.eqv];exact h4}
 |.tup l,h=>by rw[okD]at h;let(p,h1,h2,h3,h4):=qa7 l h;exact{.tuple p,by rw[toP,h1];rfl,by rw[PyData.canLay0];exact h2,by rw[PyData.depth,dpD,h3],by rw[PyData.eqv];exact h4}
 |.ins ..,h=>by rw[okD]at h;cases h
 |.exc ..,h=>by rw[okD]at h;cases h
 |.dct ..,h=>by rw[okD]at h;cases h
theorem qa7:∀l:List D,qdl l=true->∃p,qde l=some p/\PyData.canLayAll0 p=true/\PyData.depthAll p=qa6 l/\PyData.eqvAll p p=true
 |[],_=>{[],by rw[qde],by rw[PyData.canLayAll0],by rw[PyData.depthAll,qa6],by rw[PyData.eqvAll]}
 | d::l,h=>by rw[qdl,Bool.and_eq_true]at h;let(p,h1,h2,h3,h4):=qhw d h.1;let(q,h5,h6,h7,h8):=qa7 l h.2;exact{p::q,by rw[qde,h1,h5];rfl,by rw[PyData.canLayAll0,h2,h6];rfl,by rw[PyData.depthAll,qa6,h3,h7],by rw[PyData.eqvAll,h4,h8];rfl}
end
def qhx{d:D}(h:okD d=true)(hd:dpD d<=64):∃p,toP d=some p/\SeqAt.shaped p=true/\PyData.eqv p p=true:=by let(p,h1,h2,h3,h4):=qhw d h;exact{p,h1,by unfold SeqAt.shaped;rw[h2,h3];simpa using hd,h4}
def qbW{d:D}(h:okD d=true)(hd:dpD d<=64):eqD d d=some true:=by let(p,h1,h2,h3):=qhx h hd;unfold eqD;rw[h1];dsimp only;rw[h2,h3];rfl
def qjh{a b:Str}(ha:PyData.strOk a=true)(hb:PyData.strOk b=true):eqD (.str a) (.str b)=some (a == b):=by unfold eqD;simp![toP];rw[show SeqAt.shaped (.str a)=true by unfold SeqAt.shaped;simp[PyData.canLay0,PyData.depth,ha],show SeqAt.shaped (.str b)=true by unfold SeqAt.shaped;simp[PyData.canLay0,PyData.depth,hb]];simp[PyData.eqv]
def qhy:SeqAt.shaped .none=true:=by unfold SeqAt.shaped;simp[PyData.canLay0,PyData.depth]
def qmv(n:Int):SeqAt.shaped (.int n)=true:=by unfold SeqAt.shaped;simp[PyData.canLay0,PyData.depth]
def qmw{a:Str}(ha:PyData.strOk a=true):SeqAt.shaped (.str a)=true:=by unfold SeqAt.shaped;simp[PyData.canLay0,PyData.depth,ha]
def qP(a b:Int):eqD (.int a) (.int b)=some (a == b):=by unfold eqD;simp![toP,qmv,Bool.and_self,if_true,PyData.eqv]
def qmx:eqD .non .non=some true:=by unfold eqD;simp![toP,qhy,Bool.and_self,if_true,PyData.eqv]
def qmy{a:Str}(ha:PyData.strOk a=true):eqD (.str a) .non=some false:=by unfold eqD;simp![toP,qhy,qmw ha,Bool.and_self,if_true,PyData.eqv]
theorem qji{l:List D}(h:qdl l=true)(hd:qa6 l<=63):eqD (.lst l) (.lst [])=some l.isEmpty:=by
 let(p,h1,h2,h3):=qhx (d:=.lst l) (by rw[okD];exact h) (by rw[dpD];lia);unfold eqD;have e:toP (.lst [])=some (.list []):=by simp[toP,qde]
 rw[h1,e];dsimp only;rw[h2,show SeqAt.shaped (.list [])=true by unfold SeqAt.shaped;simp[PyData.canLay0,PyData.canLayAll0,PyData.depth,PyData.depthAll]];rw[toP]at h1;let(q,h4,rfl):=Option.map_eq_some_iff.mp h1
 cases l with
 |nil=>rw[qde]at h4;cases h4;simp[PyData.eqv,PyData.eqvAll]
 |cons d l=>rw[qde]at h4;let(x,h5,h6):=Option.bind_eq_some_iff.mp h4;let(y,h7,rfl):=Option.map_eq_some_iff.mp h6;simp[PyData.eqv,PyData.eqvAll]
theorem QL{l:List D}(h:∀d∈l,okD d=true):qdl l=true:=by
 induction l with
 |nil=>rw[qdl]
 |cons d l ih=>rw[qdl,h d (5:),ih λx hx=>h x (by simp[hx])];rfl
theorem QM{l:List D}{n:Nat}(h:∀d∈l,dpD d<=n):qa6 l<=n:=by
 induction l with
 |nil=>rw[qa6];lia
 |cons d l ih=>
  have:=h d (5:)
  have:=ih λx hx=>h x (by simp[hx])
  rw[qa6]
  lia
def QN{α:Type}{l:List α}{i:Int}{j:Nat}(h:i=(j:Int))(hj:j < l.length):atI l i=some l[j]:=by subst h;unfold atI ixN;rw[if_pos (1:),if_pos (1:)];simp[hj]
def qgu{n:Nat}:ixN (n+1) (-1)=some n:=by unfold ixN;rw[if_neg (1:),if_pos (1:),show((-1:Int)+((n+1:Nat):Int)).toNat=n by lia]
def kk_f(pg:Pg)(k:Nat)(f:Str)(args:List Ar):(pg.kk k).f f args=clK pg k f args:=(rfl)
def kk_cs(pg:Pg)(k:Nat):(pg.kk k).cs=pg.cs:=(rfl)
def kk_nw(pg:Pg)(k:Nat)(f:Str)(args:List Ar):(pg.kk k).nw f args=pg.nw k f args:=(rfl)
def at_0{α:Type}(a:α)(l:List α):atI (a::l) 0=some a:=by exact QN (i:=0) (j:=0) rfl (5:)
def at_1{α:Type}(a b:α)(l:List α):atI (a::b::l) 1=some b:=by exact QN (i:=1) (j:=1) rfl (5:)
def at_2{α:Type}(a b c:α)(l:List α):atI (a::b::c::l) 2=some c:=by exact QN (i:=2) (j:=2) rfl (5:)
def qj9{α:Type}{l:List α}{j:Nat}{x:α}(h:l[j]?=some x):atI l (j:Int)=some x:=by let(h1,h2):=List.getElem?_eq_some_iff.mp h;rw[QN rfl h1,h2]
def enF(i:Nat):List D->List D
 |[]=>[]
 | d::l=>.tup [.int i,d]::enF (i+1) l
theorem qhz:∀(l:List D) (i:Nat),(List.range' i l.length).zipWith (λ(i:Nat) d=>D.tup [.int i,d]) l=enF i l
 |[],i=>rfl
 | d::l,i=>by rw[List.length_cons,List.range'_succ,List.zipWith_cons_cons,qhz l (i+1)];rfl
def J5(l:List D):Yi l=enF 0 l:=by unfold Yi;rw[List.range_eq_range',qhz]
def rgF(i:Int):Nat->List D
 |0=>[]
 | n+1=>.int i::rgF (i+1) n
theorem qhA:∀(n:Nat) (lo:Int) (s:Nat),(List.range' s n).map (λi:Nat=>D.int (lo+i))=rgF (lo+s) n
 |0,_,_=>rfl
 | n+1,lo,s=>by rw[List.range'_succ,List.map_cons,qhA n lo (s+1)];show _=D.int (lo+s)::rgF (lo+s+1) n;rw[show lo+((s+1:Nat):Int)=lo+s+1 by lia]
def zh(lo hi:Int):qS lo hi=rgF lo (hi - lo).toNat:=by
 unfold qS;rw[List.range_eq_range',qhA]
 congr 1
 lia
def ixN_app{α:Type}(l:List α)(x:α):ixN (l++[x]).length (-1)=some l.length:=by rw[List.length_append];exact qgu
def set_app{α:Type}(l:List α)(x y:α):(l++[x]).set l.length y=l++[y]:=by simp
def emp_app{α:Type}(l:List α)(x:α):(l++[x]).isEmpty=false:=by cases l<;>rfl
def qc{α M γ:Type}(x:R α)(f:α->R M)(g:M->R γ):(x.th f).th g=x.th λa=>(f a).th g:=by cases x<;>rfl
def qh{α:Type}(x:R α):x.th R.ok=x:=by cases x<;>rfl
section
variable{M:Type}(cl:Cl)(w:Nat)
def QO(N:Env)(K:Rv×Env->R M)(r:Rv):R M:=K (r,N)
def kBl(N:Env)(K:Rv×Env->R M)(b:Bool):R M:=K (.val (.bl b),N)
def kBo(N:Env)(K:Bool×Env->R M)(b:Bool):R M:=K (b,N)
def qop(N:Env)(K:Rv×Env->R M)(l:List D):R M:=K (.tmp l,N)
def kB2(op:Operator)(u:Rv)(K:Rv×Env->R M)(y:Rv×Env):R M:=(qaV op u y.1).th (QO y.2 K)
def kB1(op:Operator)(b:E)(K:Rv×Env->R M)(x:Rv×Env):R M:=(iR cl b x.2).th (kB2 op x.1 K)
def qo3(K:Rv×Env->R M)(x:Rv×Env):R M:=R.th (match x.1 with
  |.val (.int i)=>.ok (.val (.int (-i)),x.2)
  |_=>.no) K
def qo4(K:Rv×Env->R M)(x:Rv×Env):R M:=R.th (match x.1 with
  |.val (.bl b)=>.ok (.val (.bl (!b)),x.2)
  |_=>.no) K
def qo5(b:E)(K:Rv×Env->R M)(x:Rv×Env):R M:=R.th (match x.1 with
  |.val (.bl true)=>iR cl b x.2
  |.val (.bl false)=>.ok (.val (.bl false),x.2)
  |_=>.no) K
def kC2(op:CmpOp)(u:Rv)(K:Rv×Env->R M)(y:Rv×Env):R M:=(R.of (Yh op u y.1)).th (kBl y.2 K)
def kC1(op:CmpOp)(b:E)(K:Rv×Env->R M)(x:Rv×Env):R M:=(iR cl b x.2).th (kC2 op x.1 K)
def kIf(a b:E)(K:Rv×Env->R M)(t:Bool×Env):R M:=if t.1=true then (iR cl a t.2).th K else (iR cl b t.2).th K
def kI2(u:Rv)(K:Rv×Env->R M)(y:Rv×Env):R M:=(idxD u y.1).th (QO y.2 K)
def kI1(b:E)(K:Rv×Env->R M)(x:Rv×Env):R M:=(iR cl b x.2).th (kI2 x.1 K)
def kS3(v:Rv)(l:Option Int)(K:Rv×Env->R M)(h:Option Int×Env):R M:=(sliceD v l h.1).th (QO h.2 K)
def kS2(v:Rv)(hi:O)(K:Rv×Env->R M)(l:Option Int×Env):R M:=(iO cl hi l.2).th (kS3 v l.1 K)
def kS1(lo hi:O)(K:Rv×Env->R M)(x:Rv×Env):R M:=(iO cl lo x.2).th (kS2 cl x.1 hi K)
def qo6(K:Rv×Env->R M)(x:List D×Env):R M:=if x.1.length<=sizeLine then K (.tmp x.1,x.2) else .no
def qo7(K:Rv×Env->R M)(x:List D×Env):R M:=if x.1.length<=sizeLine then K (.val (.tup x.1),x.2) else .no
def qo8(K:Rv×Env->R M)(x:Rv×Env):R M:=(R.of x.1.list?).th λl=>K (.tmp l.reverse,x.2)
def qoq(as:List Ar)(N:Env)(K:Rv×Env->R M)(r:Rv):R M:=K (qcN as r,N)
def qmz(f:Str)(K:Rv×Env->R M)(x:List Ar×Env):R M:=(cl f x.1).th (qoq x.1 x.2 K)
def qmA(f:Str)(K:Rv×Env->R M)(x:List Ar×Env):R M:=(cl f x.1).th (QO x.2 K)
def kF1(f:B1)(K:Rv×Env->R M)(x:Rv×Env):R M:=(f.go x.1).th (QO x.2 K)
def kG2(f:B2)(u:Rv)(K:Rv×Env->R M)(y:Rv×Env):R M:=(f.go u y.1).th (QO y.2 K)
def kG1(f:B2)(b:E)(K:Rv×Env->R M)(x:Rv×Env):R M:=(iR cl b x.2).th (kG2 f x.1 K)
def qo9(t:Str)(K:Rv×Env->R M)(x:Rv×Env):R M:=(R.of (qhf cl.cs x.1 t)).th (kBl x.2 K)
def qor(N:Env)(K:Rv×Env->R M)(d:D):R M:=K (.val d,N)
def qpa(x:Str)(K:Rv×Env->R M)(y:Rv×Env):R M:=(R.of (qdh cl.cs y.1 x)).th (qor y.2 K)
def qos(f:Str)(v:Rv)(K:Rv×Env->R M)(z:List Ar×Env):R M:=(cl f (toAr v::z.1)).th (QO z.2 K)
def qot(v:Rv)(l:Es)(N:Env)(K:Rv×Env->R M)(f:Str):R M:=(iAs cl l N).th (qos cl f v K)
def qqc(x:Str)(v:Rv)(K:Rv×Env->R M)(z:List Ar×Env):R M:=(bmD x v z.1).th (QO z.2 K)
def qou(x:Str)(v:Rv)(l:Es)(N:Env)(K:Rv×Env->R M)(o:Option Str):R M:=match o with
 |some f=>qot cl v l N K f
 |none=>(iAs cl l N).th (qqc x v K)
def qov(x:Str)(l:Es)(K:Rv×Env->R M)(y:Rv×Env):R M:=qou cl x y.1 l y.2 K (mtD cl.cs y.1 x)
def qpb(f:Str)(K:Rv×Env->R M)(x:List Ar×Env):R M:=(cl.nw f x.1).th (QO x.2 K)
def qpc(t:Ty)(K:Rv×Env->R M)(x:Rv×Env):R M:=(R.of (t.go x.1)).th (kBl x.2 K)
def qmB(e:E)(tg:Tg)(c:F)(n:Nat)(fr:List Nat)(K:Rv×Env->R M)(x:List D×Env):R M:=if x.1.length<=sizeLine then (zA cl e tg c x.1 (JT n fr x.2) []).th (qop x.2 K) else .no
def kTn(K:Bool×Env->R M)(t:Bool×Env):R M:=K (!t.1,t.2)
def kTa(b:T)(K:Bool×Env->R M)(t:Bool×Env):R M:=if t.1=true then (iT cl b t.2).th K else K (false,t.2)
def kTo(b:T)(K:Bool×Env->R M)(t:Bool×Env):R M:=if t.1=true then K (true,t.2) else (iT cl b t.2).th K
def kD2(op:CmpOp)(u:Rv)(K:Bool×Env->R M)(y:Rv×Env):R M:=(R.of (Yh op u y.1)).th (kBo y.2 K)
def kD1(op:CmpOp)(b:E)(K:Bool×Env->R M)(x:Rv×Env):R M:=(iR cl b x.2).th (kD2 op x.1 K)
def kTv(K:Bool×Env->R M)(x:Rv×Env):R M:=(R.of (truthD x.1)).th (kBo x.2 K)
def kE2(d:D)(K:List D×Env->R M)(y:List D×Env):R M:=K (d::y.1,y.2)
def kE1(l:Es)(K:List D×Env->R M)(x:D×Env):R M:=(iEs cl l x.2).th (kE2 x.1 K)
def kA2(v:Rv)(K:List Ar×Env->R M)(y:List Ar×Env):R M:=K (toAr v::y.1,y.2)
def kA1(l:Es)(K:List Ar×Env->R M)(x:Rv×Env):R M:=(iAs cl l x.2).th (kA2 x.1 K)
def kO(K:Option Int×Env->R M)(x:Rv×Env):R M:=R.th (match x.1 with
  |.val (.int i)=>.ok (some i,x.2)
  |_=>.no) K
def qpd(K:List D×Env->R M)(x:(Sk×List D)×Env):R M:=K (x.1.2,x.2)
def qpe(K:List D×Env->R M)(x:Rv×Env):R M:=R.th (match x.1.int? with
  |some n=>if qN n=true then .ok (qS 0 n,x.2) else .no
  |none=>.no) K
def kR2(u:Rv)(K:List D×Env->R M)(y:Rv×Env):R M:=R.th (match u.int?,y.1.int? with
  |some i,some j=>if qN i=true/\qN j=true then .ok (qS i j,y.2) else .no
  |_,_=>.no) K
def qmC(K:List D×Env->R M)(x:(Sk×List D)×Env):R M:=R.th (match x.1.1 with |.lst=>.ok (Yi x.1.2,x.2) |_=>.no) K
def qpf(K:List D×Env->R M)(x:(Sk×List D)×Env):R M:=R.th (match x.1.1 with |.lst=>.ok (x.1.2.reverse,x.2) |_=>.no) K
def kZ2(x:Sk×List D)(K:List D×Env->R M)(y:(Sk×List D)×Env):R M:=R.th (match x.1,y.1.1 with |.lst,.lst=>.ok (qcM x.2 y.1.2,y.2) |_,_=>.no) K
def kZ1(b:E)(K:List D×Env->R M)(x:(Sk×List D)×Env):R M:=(y2 b (iR cl b) x.2).th (kZ2 x.1 K)
def qow(K:D×Env->R M)(x:Rv×Env):R M:=(qnr x).th K
def qev(K:(Sk×List D)×Env->R M)(x:Rv×Env):R M:=(qns x).th K
def kX(K:Rv->R M)(x:Rv×Env):R M:=R.th (match x.1 with
  |.val d=>.ok (.val d)
  |.tmp l=>.ok (.tmp l)
  |_=>.no) K
def kAv(K:Sl×Env->R M)(x:D×Env):R M:=K (.val x.1,x.2)
def kAx(K:Sl×Env->R M)(x:Rv×Env):R M:=R.th (match x.1 with
  |.val d=>.ok (.val d,x.2)
  |.tmp l=>.ok (.own l,x.2)
  |_=>.no) K
def qjj{α:Type}(s:Sl)(K:α×Env->R M)(x:α×Env):R M:=K (x.1,s::x.2)
def oGo(o:Option (List D))(x:R M):R M:=match o with
 |none=>.no
 |some _=>x
def qjk(i:Nat)(d:D)(N:Env)(K:Fl->R M)(o:Option (List D)):R M:=R.th (match o with
   |some l=>if l.length < sizeLine then .ok (.next (N.set i (.own (l++[d])))) else .no
   |none=>.no) K
def qpg(i:Nat)(K:Fl->R M)(y:D×Env):R M:=qjk i y.1 y.2 K (zD y.2 i)
def qjl(i:Nat)(N:Env)(K:Fl->R M)(o p:Option (List D)):R M:=R.th (match o,p with
   |some l,some n=>if l.length+n.length<=sizeLine then .ok (.next (N.set i (.own (l++n)))) else .no
   |_,_=>.no) K
def qph(i:Nat)(K:Fl->R M)(y:Rv×Env):R M:=qjl i y.2 K (zD y.2 i) y.1.plain?
def kRt(K:Fl->R M)(r:Rv):R M:=K (.ret r)
def qpi(i:Nat)(K:Fl->R M)(s:Sl×Env):R M:=K (.next (s.2.set i s.1))
def kNx(K:Fl->R M)(N:Env):R M:=K (.next N)
def kST(tg:Tg)(K:Fl->R M)(x:D×Env):R M:=(tg.go x.1 x.2).th (kNx K)
def qox(i:Nat)(d:D)(N:Env)(K:Fl->R M)(l:List D)(o:Option Nat):R M:=R.th (match o with
    |some k=>.ok (.next (N.set i (.own (l.set k d))))
    |none=>.no) K
def qnw(i:Nat)(d:D)(N:Env)(K:Fl->R M)(o:Option (List D))(v:Option Int):R M:=match o,v with
 |some l,some n=>qox i d N K l (ixN l.length n)
 |_,_=>.no
def qoy(i:Nat)(d:D)(K:Fl->R M)(z:Rv×Env):R M:=qnw i d z.2 K (zD z.2 i) z.1.int?
def kSI(i:Nat)(x:E)(K:Fl->R M)(y:D×Env):R M:=oGo (zD y.2 i) ((iR cl x y.2).th (qoy i y.1 K))
def qpj(a b:Ss)(K:Fl->R M)(t:Bool×Env):R M:=if t.1=true then (iSs cl w a t.2).th K else (iSs cl w b t.2).th K
def qpk(tg:Tg)(b:Ss)(K:Fl->R M)(x:List D×Env):R M:=(yr cl w tg b x.1 x.2).th K
def qjm(l:Ss)(K:Fl->R M)(f:Fl):R M:=(qcT f λN1=>iSs cl w l N1).th K
def qnx(tg:Tg)(b:Ss)(l:List D)(K:Fl->R M)(f:Fl):R M:=(qcT f λN1=>yr cl w tg b l N1).th K
def qpl(tg:Tg)(b:Ss)(l:List D)(K:Fl->R M)(N:Env):R M:=(iSs cl w b N).th (qnx cl w tg b l K)
def qoz(c:T)(b:Ss)(n:Nat)(K:Fl->R M)(f:Fl):R M:=(qcT f λN1=>whD cl w c b n N1).th K
def qpm(c:T)(b:Ss)(n:Nat)(K:Fl->R M)(t:Bool×Env):R M:=if t.1=true then (iSs cl w b t.2).th (qoz cl w c b n K) else K (.next t.2)
def kP3(e:E)(tg:Tg)(c:F)(l acc:List D)(K:List D->R M)(x:D×Env):R M:=if acc.length < sizeLine then (zA cl e tg c l x.2 (acc++[x.1])).th K else .no
def kP2(e:E)(tg:Tg)(c:F)(l acc:List D)(K:List D->R M)(t:Bool×Env):R M:=if t.1=true then (jZ e (iR cl e) t.2).th (kP3 cl e tg c l acc K) else (zA cl e tg c l t.2 acc).th K
def kP1(e:E)(tg:Tg)(c:F)(l acc:List D)(K:List D->R M)(N:Env):R M:=(iF cl c N).th (kP2 cl e tg c l acc K)
def je{α:Type}{c:Prop}[Decidable c](x y:R α)(K:α->R M):(if c then x else y).th K=if c then x.th K else y.th K:=by split<;>rfl
def qA{α:Type}(x:R α){f g:α->R M}(h:∀a,f a=g a):x.th f=x.th g:=by cases x<;>first|rfl|exact h _
section
variable(N:Env)(K:Rv×Env->R M)
def xR_var(i:Nat):(iR cl (.var i) N).th K=(slR N i).th (QO N K):=(qc (slR N i) _ _)
def xR_con(d:D):(iR cl (.con d) N).th K=K (.val d,N):=(rfl)
def xR_bin(op:Operator)(a b:E):(iR cl (.bin op a b) N).th K=(iR cl a N).th (kB1 cl op b K):=by rw[ql7,qc];refine qA _ λx=>?_;rw[qc];refine qA _ λy=>?_;rw[qc];rfl
def xR_neg(a:E):(iR cl (.neg a) N).th K=(iR cl a N).th (qo3 K):=by rw[ql8,qc];rfl
def xR_not(a:E):(iR cl (.not a) N).th K=(iR cl a N).th (qo4 K):=by rw[ql9,qc];rfl
def xR_one(a:E):(iR cl (.one a) N).th K=(iR cl a N).th K:=(rfl)
def xR_and(a b:E):(iR cl (.and a b) N).th K=(iR cl a N).th (qo5 cl b K):=by rw[qma,qc];rfl
def xR_cmp(op:CmpOp)(a b:E):(iR cl (.cmp op a b) N).th K=(iR cl a N).th (kC1 cl op b K):=by rw[qmb,qc];refine qA _ λx=>?_;rw[qc];refine qA _ λy=>?_;rw[qc];rfl
def xR_ite(c:T)(a b:E):(iR cl (.ite c a b) N).th K=(iT cl c N).th (kIf cl a b K):=by rw[qmc,qc];refine qA _ λt=>?_;rw[je];rfl
def xR_idx(a b:E):(iR cl (.idx a b) N).th K=(iR cl a N).th (kI1 cl b K):=by rw[qmd,qc];refine qA _ λx=>?_;rw[qc];refine qA _ λy=>?_;rw[qc];rfl
def xR_sli(a:E)(lo hi:O):(iR cl (.sli a lo hi) N).th K=(iR cl a N).th (kS1 cl lo hi K):=by rw[qme,qc];refine qA _ λx=>?_;rw[qc];refine qA _ λy=>?_;rw[qc];refine qA _ λz=>?_;rw[qc];rfl
def xR_lst(l:Es):(iR cl (.lst l) N).th K=(iEs cl l N).th (qo6 K):=by rw[qmf,qc];refine qA _ λx=>?_;rw[je];rfl
def xR_tup(l:Es):(iR cl (.tup l) N).th K=(iEs cl l N).th (qo7 K):=by rw[qmg,qc];refine qA _ λx=>?_;rw[je];rfl
def xR_rvs(a:E):(iR cl (.rvs a) N).th K=(iR cl a N).th (qo8 K):=by rw[qmh,qc];refine qA _ λx=>?_;rw[qc];rfl
def xR_calN(f:Str)(l:Es):(iR cl (.calN f l) N).th K=(iAs cl l N).th (qmz cl f K):=by rw[qjc,qc];refine qA _ λx=>?_;rw[qc];rfl
def xR_call(f:Str)(l:Es):(iR cl (.call f l) N).th K=(iAs cl l N).th (qmA cl f K):=by rw[qjd,qc];refine qA _ λx=>?_;rw[qc];rfl
def xR_b1(f:B1)(a:E):(iR cl (.b1 f a) N).th K=(iR cl a N).th (kF1 f K):=by rw[qok,qc];refine qA _ λx=>?_;rw[qc];rfl
def xR_b2(f:B2)(a b:E):(iR cl (.b2 f a b) N).th K=(iR cl a N).th (kG1 cl f b K):=by rw[qol,qc];refine qA _ λx=>?_;rw[qc];refine qA _ λy=>?_;rw[qc];rfl
def xR_isc(t:Str)(a:E):(iR cl (.isc t a) N).th K=(iR cl a N).th (qo9 cl t K):=by rw[qmj,qc];refine qA _ λx=>?_;rw[qc];rfl
def xR_fld(a:E)(x:Str):(iR cl (.fld a x) N).th K=(iR cl a N).th (qpa cl x K):=by rw[qmk,qc];refine qA _ λy=>?_;rw[qc];rfl
theorem xR_met(a:E)(x:Str)(l:Es):(iR cl (.met a x l) N).th K=(iR cl a N).th (qov cl x l K):=by
 rw[qml,qc];refine qA _ λy=>?_;unfold qov
 cases mtD cl.cs y.1 x with
 |some f=>unfold goM;rw[qc];refine qA _ λz=>?_;rw[qc];rfl
 |none=>unfold goM;rw[qc];refine qA _ λz=>?_;rw[qc];rfl
def xR_new(f:Str)(l:Es):(iR cl (.new f l) N).th K=(iAs cl l N).th (qpb cl f K):=by rw[qmm,qc];refine qA _ λx=>?_;rw[qc];rfl
def xR_isi(t:Ty)(a:E):(iR cl (.isi t a) N).th K=(iR cl a N).th (qpc t K):=by rw[qmi,qc];refine qA _ λx=>?_;rw[qc];rfl
def xR_comp(e:E)(src:I)(tg:Tg)(c:F)(n:Nat)(fr:List Nat):(iR cl (.comp e src tg c n fr) N).th K=(iI cl src N).th (qmB cl e tg c n fr K):=by rw[qje,qc];refine qA _ λx=>?_;rw[je,qc];rfl
end
section
variable(N:Env)(K:Rv×Env->R M)(v u:Rv)
def yRet:QO N K v=K (v,N):=(rfl)
def yBl(b:Bool):kBl N K b=K (.val (.bl b),N):=(rfl)
def yTmp(l:List D):qop N K l=K (.tmp l,N):=(rfl)
def yB1(op:Operator)(b:E):kB1 cl op b K (v,N)=(iR cl b N).th (kB2 op v K):=(rfl)
def yB2(op:Operator):kB2 op u K (v,N)=(qaV op u v).th (QO N K):=(rfl)
def yNeg(i:Int):qo3 K (.val (.int i),N)=K (.val (.int (-i)),N):=(rfl)
def yNot(b:Bool):qo4 K (.val (.bl b),N)=K (.val (.bl (!b)),N):=(rfl)
def yAnd(b:E)(t:Bool):qo5 cl b K (.val (.bl t),N)=if t=true then (iR cl b N).th K else K (.val (.bl false),N):=by cases t<;>rfl
def yC1(op:CmpOp)(b:E):kC1 cl op b K (v,N)=(iR cl b N).th (kC2 op v K):=(rfl)
def yC2(op:CmpOp):kC2 op u K (v,N)=(R.of (Yh op u v)).th (kBl N K):=(rfl)
def yIf(a b:E)(t:Bool):kIf cl a b K (t,N)=if t=true then (iR cl a N).th K else (iR cl b N).th K:=(rfl)
def yI1(b:E):kI1 cl b K (v,N)=(iR cl b N).th (kI2 v K):=(rfl)
def yI2:kI2 u K (v,N)=(idxD u v).th (QO N K):=(rfl)
def yS1(lo hi:O):kS1 cl lo hi K (v,N)=(iO cl lo N).th (kS2 cl v hi K):=(rfl)
def yS2(hi:O)(l:Option Int):kS2 cl v hi K (l,N)=(iO cl hi N).th (kS3 v l K):=(rfl)
def yS3(l h:Option Int):kS3 v l K (h,N)=(sliceD v l h).th (QO N K):=(rfl)
def yLst(l:List D):qo6 K (l,N)=if l.length<=sizeLine then K (.tmp l,N) else .no:=(rfl)
def yTup(l:List D):qo7 K (l,N)=if l.length<=sizeLine then K (.val (.tup l),N) else .no:=(rfl)
def yRvs_v(l:List D):qo8 K (.val (.lst l),N)=K (.tmp l.reverse,N):=(rfl)
def yNwV(as:List Ar)(r:Rv):qoq as N K r=K (qcN as r,N):=(rfl)
def yCalN(f:Str)(l:List Ar):qmz cl f K (l,N)=(cl f l).th (qoq l N K):=(rfl)
def yCall(f:Str)(l:List Ar):qmA cl f K (l,N)=(cl f l).th (QO N K):=(rfl)
def yF1(f:B1):kF1 f K (v,N)=(f.go v).th (QO N K):=(rfl)
def yG1(f:B2)(b:E):kG1 cl f b K (v,N)=(iR cl b N).th (kG2 f v K):=(rfl)
def yG2(f:B2):kG2 f u K (v,N)=(f.go u v).th (QO N K):=(rfl)
def yIsc(t:Str):qo9 cl t K (v,N)=(R.of (qhf cl.cs v t)).th (kBl N K):=(rfl)
def yDat(d:D):qor N K d=K (.val d,N):=(rfl)
def yFld(x:Str):qpa cl x K (v,N)=(R.of (qdh cl.cs v x)).th (qor N K):=(rfl)
def yMt3(f:Str)(l:List Ar):qos cl f v K (l,N)=(cl f (toAr v::l)).th (QO N K):=(rfl)
def yMt2(f:Str)(l:Es):qot cl v l N K f=(iAs cl l N).th (qos cl f v K):=(rfl)
def yMt1(x:Str)(l:Es):qov cl x l K (v,N)=qou cl x v l N K (mtD cl.cs v x):=(rfl)
def yMtO(x:Str)(l:Es)(f:Str):qou cl x v l N K (some f)=qot cl v l N K f:=(rfl)
def yNew(f:Str)(l:List Ar):qpb cl f K (l,N)=(cl.nw f l).th (QO N K):=(rfl)
def yIsi(t:Ty):qpc t K (v,N)=(R.of (t.go v)).th (kBl N K):=(rfl)
def yComp(e:E)(tg:Tg)(c:F)(n:Nat)(fr:List Nat)(l:List D):qmB cl e tg c n fr K (l,N)=if l.length<=sizeLine then (zA cl e tg c l (JT n fr N) []).th (qop N K) else .no:=(rfl)
end
section
variable(N:Env)(K:Bool×Env->R M)(v u:Rv)(t:Bool)
def xT_not(a:T):(iT cl (.not a) N).th K=(iT cl a N).th (kTn K):=by rw[qmn,qc];rfl
def xT_one(a:T):(iT cl (.one a) N).th K=(iT cl a N).th K:=(rfl)
def xT_and(a b:T):(iT cl (.and a b) N).th K=(iT cl a N).th (kTa cl b K):=by rw[qmo,qc];refine qA _ λt=>?_;rw[je];rfl
def xT_or(a b:T):(iT cl (.or a b) N).th K=(iT cl a N).th (kTo cl b K):=by rw[qom,qc];refine qA _ λt=>?_;rw[je];rfl
def xT_cmp(op:CmpOp)(a b:E):(iT cl (.cmp op a b) N).th K=(iR cl a N).th (kD1 cl op b K):=by rw[qmp,qc];refine qA _ λx=>?_;rw[qc];refine qA _ λy=>?_;rw[qc];rfl
def xT_val(a:E):(iT cl (.val a) N).th K=(iR cl a N).th (kTv K):=by rw[qmq,qc];refine qA _ λx=>?_;rw[qc];rfl
def yBo:kBo N K t=K (t,N):=(rfl)
def yTn:kTn K (t,N)=K (!t,N):=(rfl)
def yTa(b:T):kTa cl b K (t,N)=if t=true then (iT cl b N).th K else K (false,N):=(rfl)
def yTo(b:T):kTo cl b K (t,N)=if t=true then K (true,N) else (iT cl b N).th K:=(rfl)
def yD1(op:CmpOp)(b:E):kD1 cl op b K (v,N)=(iR cl b N).th (kD2 op v K):=(rfl)
def yD2(op:CmpOp):kD2 op u K (v,N)=(R.of (Yh op u v)).th (kBo N K):=(rfl)
def yTv:kTv K (v,N)=(R.of (truthD v)).th (kBo N K):=(rfl)
def xF_yes:(iF cl .yes N).th K=K (true,N):=(rfl)
def xF_test(c:T):(iF cl (.test c) N).th K=(iT cl c N).th K:=(rfl)
end
section
variable(N:Env)
def xEs_nil(K:List D×Env->R M):(iEs cl .nil N).th K=K ([],N):=(rfl)
def xEs_cons(K:List D×Env->R M)(e:E)(l:Es):(iEs cl (.cons e l) N).th K=(jZ e (iR cl e) N).th (kE1 cl l K):=by rw[qgs,qc];refine qA _ λx=>?_;rw[qc];rfl
def yE1(K:List D×Env->R M)(l:Es)(d:D):kE1 cl l K (d,N)=(iEs cl l N).th (kE2 d K):=(rfl)
def yE2(K:List D×Env->R M)(d:D)(ds:List D):kE2 d K (ds,N)=K (d::ds,N):=(rfl)
def xAs_nil(K:List Ar×Env->R M):(iAs cl .nil N).th K=K ([],N):=(rfl)
def xAs_cons(K:List Ar×Env->R M)(e:E)(l:Es):(iAs cl (.cons e l) N).th K=(iR cl e N).th (kA1 cl l K):=by rw[qgt,qc];refine qA _ λx=>?_;rw[qc];rfl
def yA1(K:List Ar×Env->R M)(l:Es)(v:Rv):kA1 cl l K (v,N)=(iAs cl l N).th (kA2 v K):=(rfl)
def yA2(K:List Ar×Env->R M)(v:Rv)(l:List Ar):kA2 v K (l,N)=K (toAr v::l,N):=(rfl)
def xO_none(K:Option Int×Env->R M):(iO cl .none N).th K=K (none,N):=(rfl)
def xO_some(K:Option Int×Env->R M)(e:E):(iO cl (.some e) N).th K=(iR cl e N).th (kO K):=by rw[qjf,qc];rfl
def yO(K:Option Int×Env->R M)(i:Int):kO K (.val (.int i),N)=K (some i,N):=(rfl)
variable(K:List D×Env->R M)
def xI_seq(a:E):(iI cl (.seq a) N).th K=(y2 a (iR cl a) N).th (qpd K):=by rw[qmr,qc];rfl
def xI_rng(a:E):(iI cl (.rng a) N).th K=(iR cl a N).th (qpe K):=by rw[qms,qc];rfl
def xI_rev(a:E):(iI cl (.rev a) N).th K=(y2 a (iR cl a) N).th (qpf K):=by rw[qmt,qc];rfl
def xI_enum(a:E):(iI cl (.enum a) N).th K=(y2 a (iR cl a) N).th (qmC K):=by rw[qjg,qc];rfl
def xI_zip(a b:E):(iI cl (.zip a b) N).th K=(y2 a (iR cl a) N).th (kZ1 cl b K):=by rw[qmu,qc];refine qA _ λx=>?_;rw[qc];rfl
def ySeq(s:Sk)(l:List D):qpd K ((s,l),N)=K (l,N):=(rfl)
def yRng(n:Int):qpe K (.val (.int n),N)=if qN n=true then K (qS 0 n,N) else .no:=by show R.th (if qN n=true then _ else _) K=_;rw[je];rfl
def yRev(l:List D):qpf K ((.lst,l),N)=K (l.reverse,N):=(rfl)
def yEnum(l:List D):qmC K ((.lst,l),N)=K (Yi l,N):=(rfl)
def yZ1(b:E)(x:Sk×List D):kZ1 cl b K (x,N)=(y2 b (iR cl b) N).th (kZ2 x K):=(rfl)
def yZ2(l n:List D):kZ2 (.lst,l) K ((.lst,n),N)=K (qcM l n,N):=(rfl)
end
section
variable(N:Env)(s:Sl)(i:Nat)(d:D)(l:List D)
def yVal(K:D×Env->R M):qow K (.val d,N)=K (d,N):=(rfl)
def yValt(K:D×Env->R M):qow K (.tmp l,N)=K (.lst l,N):=(rfl)
def yValL(K:(Sk×List D)×Env->R M):qev K (.val (.lst l),N)=K ((.lst,l),N):=(rfl)
def yValLt(K:(Sk×List D)×Env->R M):qev K (.val (.tup l),N)=K ((.tup,l),N):=(rfl)
def yValLs(K:(Sk×List D)×Env->R M)(z:Str):qev K (.val (.str z),N)=K ((.str,qdd z),N):=(rfl)
def yValLm(K:(Sk×List D)×Env->R M):qev K (.tmp l,N)=K ((.lst,l),N):=(rfl)
def yX(K:Rv->R M):kX K (.val d,N)=K (.val d):=(rfl)
def yXt(K:Rv->R M):kX K (.tmp l,N)=K (.tmp l):=(rfl)
def yAv(K:Sl×Env->R M):kAv K (d,N)=K (.val d,N):=(rfl)
def yAx(K:Sl×Env->R M):kAx K (.val d,N)=K (.val d,N):=(rfl)
def yAxt(K:Sl×Env->R M):kAx K (.tmp l,N)=K (.own l,N):=(rfl)
def yCons{α:Type}(K:α×Env->R M)(x:α):qjj s K (x,N)=K (x,s::N):=(rfl)
def xE_s(K:D×Env->R M):(slE (s::N) (i+1)).th K=(slE N i).th (qjj s K):=by rw[qon,qc];rfl
def xE_v(K:D×Env->R M):(slE (.val d::N) 0).th K=K (d,.val d::N):=(rfl)
def xE_o(K:D×Env->R M):(slE (.own l::N) 0).th K=K (.lst l,.val (.lst l)::N):=(rfl)
variable(K:(Sk×List D)×Env->R M)
def xL_s:(slL (s::N) (i+1)).th K=(slL N i).th (qjj s K):=by rw[qoo,qc];rfl
def xL_l:(slL (.val (.lst l)::N) 0).th K=K ((.lst,l),.val (.lst l)::N):=(rfl)
def xL_z(z:Str):(slL (.val (.str z)::N) 0).th K=K ((.str,qdd z),.val (.str z)::N):=(rfl)
def xL_o:(slL (.own l::N) 0).th K=K ((.lst,l),.val (.lst l)::N):=(rfl)
def xL_b:(slL (.bor l::N) 0).th K=K ((.lst,l),.bor l::N):=(rfl)
end
section
variable(N:Env)(K:Fl->R M)(i:Nat)
def oGo_some(l:List D)(x:R M):oGo (some l) x=x:=(rfl)
theorem xS_app(e:E):(iS cl w (.app i e) N).th K=oGo (zD N i) ((jZ e (iR cl e) N).th (qpg i K)):=by
 rw[ql1]
 cases zD N i with
 |none=>rfl
 |some l=>show R.th (R.th (jZ e (iR cl e) N) _) K=_;rw[qc];rfl
def yApp(d:D):qpg i K (d,N)=qjk i d N K (zD N i):=(rfl)
def yApp2(d:D)(l:List D):qjk i d N K (some l)=if l.length < sizeLine then K (.next (N.set i (.own (l++[d])))) else .no:=by show R.th (if l.length < sizeLine then _ else _) K=_;rw[je];rfl
theorem xS_ext(e:E):(iS cl w (.ext i e) N).th K=oGo (zD N i) ((iR cl e N).th (qph i K)):=by
 rw[ql2]
 cases zD N i with
 |none=>rfl
 |some l=>show R.th (R.th (iR cl e N) _) K=_;rw[qc];rfl
def yExt(v:Rv):qph i K (v,N)=qjl i N K (zD N i) v.plain?:=(rfl)
def yExt2(l n:List D):qjl i N K (some l) (some n)=if l.length+n.length<=sizeLine then K (.next (N.set i (.own (l++n)))) else .no:=by show R.th (if l.length+n.length<=sizeLine then _ else _) K=_;rw[je];rfl
def xS_ret(e:E):(iS cl w (.ret e) N).th K=(qf1 e (iR cl e) N).th (kRt K):=by rw[ql3,qc];rfl
def yRt(r:Rv):kRt K r=K (.ret r):=(rfl)
def xS_set(e:E):(iS cl w (.set i e) N).th K=(qcO e (iR cl e) N).th (qpi i K):=by rw[ql4,qc];rfl
def ySet(s:Sl):qpi i K (s,N)=K (.next (N.set i s)):=(rfl)
def xS_setT(tg:Tg)(e:E):(iS cl w (.setT tg e) N).th K=(jZ e (iR cl e) N).th (kST tg K):=by rw[qja,qc];refine qA _ λx=>?_;rw[qc];rfl
def yST(tg:Tg)(d:D):kST tg K (d,N)=(tg.go d N).th (kNx K):=(rfl)
def yNx:kNx K N=K (.next N):=(rfl)
theorem xS_setI(x e:E):(iS cl w (.setI i x e) N).th K=(jZ e (iR cl e) N).th (kSI cl i x K):=by
 rw[qjb,qc];refine qA _ λy=>?_;show R.th (match zD y.2 i with |none=>_ |some _=>_) K=oGo (zD y.2 i) _
 cases zD y.2 i with
 |none=>rfl
 |some l=>
  show R.th (R.th (iR cl x y.2) _) K=R.th _ _;rw[qc];refine qA _ λz=>?_;show R.th (match zD z.2 i,z.1.int? with |some l,some n=>_ |_,_=>_) K=qnw i y.1 z.2 K (zD z.2 i) z.1.int?
  cases zD z.2 i with
  |none=>rfl
  |some l=>cases z.1.int?<;>rfl
def ySI(x:E)(d:D):kSI cl i x K (d,N)=oGo (zD N i) ((iR cl x N).th (qoy i d K)):=(rfl)
def ySI2(d:D)(v:Rv):qoy i d K (v,N)=qnw i d N K (zD N i) v.int?:=(rfl)
def ySI3(d:D)(l:List D)(n:Int):qnw i d N K (some l) (some n)=qox i d N K l (ixN l.length n):=(rfl)
def ySI4(d:D)(l:List D)(k:Nat):qox i d N K l (some k)=K (.next (N.set i (.own (l.set k d)))):=(rfl)
def xS_ite(c:T)(a b:Ss):(iS cl w (.ite c a b) N).th K=(iT cl c N).th (qpj cl w a b K):=by rw[ql5,qc];refine qA _ λt=>?_;rw[je];rfl
def yIte(a b:Ss)(t:Bool):qpj cl w a b K (t,N)=if t=true then (iSs cl w a N).th K else (iSs cl w b N).th K:=(rfl)
def xS_for(tg:Tg)(src:I)(b:Ss):(iS cl w (.for_ tg src b) N).th K=(iI cl src N).th (qpk cl w tg b K):=by rw[ql6,qc];rfl
def yFor(tg:Tg)(b:Ss)(l:List D):qpk cl w tg b K (l,N)=(yr cl w tg b l N).th K:=(rfl)
def xS_whl(c:T)(b:Ss):(iS cl w (.whl c b) N).th K=(whD cl w c b w N).th K:=(rfl)
def xSs_nil:(iSs cl w .nil N).th K=K (.next N):=(rfl)
def xSs_cons(s:S)(l:Ss):(iSs cl w (.cons s l) N).th K=(iS cl w s N).th (qjm cl w l K):=by rw[qgr,qc];rfl
def yNext(l:Ss):qjm cl w l K (.next N)=(iSs cl w l N).th K:=(rfl)
def yNextr(l:Ss)(r:Rv):qjm cl w l K (.ret r)=K (.ret r):=(rfl)
def xFo_cons(tg:Tg)(b:Ss)(d:D)(l:List D):(yr cl w tg b (d::l) N).th K=(tg.go d N).th (qpl cl w tg b l K):=by rw[qeu,qc,qc];refine qA _ λN2=>?_;rfl
def yFo1(tg:Tg)(b:Ss)(l:List D):qpl cl w tg b l K N=(iSs cl w b N).th (qnx cl w tg b l K):=(rfl)
def yFo2(tg:Tg)(b:Ss)(l:List D):qnx cl w tg b l K (.next N)=(yr cl w tg b l N).th K:=(rfl)
def yFo2r(tg:Tg)(b:Ss)(l:List D)(r:Rv):qnx cl w tg b l K (.ret r)=K (.ret r):=(rfl)
def xWh(c:T)(b:Ss)(n:Nat):(whD cl w c b (n+1) N).th K=(iT cl c N).th (qpm cl w c b n K):=by rw[qgq,qc];refine qA _ λt=>?_;rw[je,qc];rfl
def yWh1(c:T)(b:Ss)(n:Nat)(t:Bool):qpm cl w c b n K (t,N)=if t=true then (iSs cl w b N).th (qoz cl w c b n K) else K (.next N):=(rfl)
def yWh2(c:T)(b:Ss)(n:Nat):qoz cl w c b n K (.next N)=(whD cl w c b n N).th K:=(rfl)
end
section
variable(N:Env)(K:List D->R M)(e:E)(tg:Tg)(c:F)(l acc:List D)(d:D)
def xP_cons:(zA cl e tg c (d::l) N acc).th K=(tg.go d N).th (kP1 cl e tg c l acc K):=by
 rw[qcU,qc];refine qA _ λN1=>?_;rw[qc];refine qA _ λbt=>?_;rw[je,qc];show(if bt.1=true then _ else _)=(if bt.1=true then _ else _)
 by_cases h:bt.1=true
 ·rw[if_pos h,if_pos h];refine qA _ λx=>?_;rw[je];rfl
 ·rw[if_neg h,if_neg h]
def yP1:kP1 cl e tg c l acc K N=(iF cl c N).th (kP2 cl e tg c l acc K):=(rfl)
def yP2(t:Bool):kP2 cl e tg c l acc K (t,N)=if t=true then (jZ e (iR cl e) N).th (kP3 cl e tg c l acc K) else (zA cl e tg c l N acc).th K:=(rfl)
def yP3:kP3 cl e tg c l acc K (d,N)=if acc.length < sizeLine then (zA cl e tg c l N (acc++[d])).th K else .no:=(rfl)
end
end
def vc:E->Bool
 |.var _=>true
 |.con _=>true
 |_=>false
def vc_bin(op:Operator)(a b:E):vc (.bin op a b)=false:=(rfl)
def vc_rvs(a:E):vc (.rvs a)=false:=(rfl)
def vc_and(a b:E):vc (.and a b)=false:=(rfl)
def vc_cmp(op:CmpOp)(a b:E):vc (.cmp op a b)=false:=(rfl)
def vc_ite(c:T)(a b:E):vc (.ite c a b)=false:=(rfl)
def vc_idx(a b:E):vc (.idx a b)=false:=(rfl)
def vc_sli(a:E)(lo hi:O):vc (.sli a lo hi)=false:=(rfl)
def vc_lst(l:Es):vc (.lst l)=false:=(rfl)
def vc_tup(l:Es):vc (.tup l)=false:=(rfl)
def vc_call(f:Str)(l:Es):vc (.call f l)=false:=(rfl)
def vc_calN(f:Str)(l:Es):vc (.calN f l)=false:=(rfl)
def vc_b1(f:B1)(a:E):vc (.b1 f a)=false:=(rfl)
def vc_b2(f:B2)(a b:E):vc (.b2 f a b)=false:=(rfl)
def vc_fld(a:E)(x:Str):vc (.fld a x)=false:=(rfl)
def vc_met(a:E)(x:Str)(l:Es):vc (.met a x l)=false:=(rfl)
def vc_new(f:Str)(l:Es):vc (.new f l)=false:=(rfl)
def vc_comp(e:E)(src:I)(tg:Tg)(c:F)(n:Nat)(fr:List Nat):vc (.comp e src tg c n fr)=false:=(rfl)
section
variable{M:Type}(r:Env->R (Rv×Env))(N:Env)
def eE_g{e:E}(h:vc e=false)(K:D×Env->R M):(jZ e r N).th K=(r N).th (qow K):=by rw[show jZ e r N=(r N).th qnr from(by cases e<;>first|rfl|(cases h)),qc];rfl
def eL_g{e:E}(h:vc e=false)(K:(Sk×List D)×Env->R M):(y2 e r N).th K=(r N).th (qev K):=by rw[show y2 e r N=(r N).th qns from(by cases e<;>first|rfl|(cases h)),qc];rfl
def eX_g{e:E}(h:vc e=false)(K:Rv->R M):(qf1 e r N).th K=(r N).th (kX K):=by rw[show qf1 e r N=(r N).th λx=>match x.1 with |.val d=>R.ok (.val d) |.tmp l=>.ok (.tmp l) |_=>.no from(by cases e<;>first|rfl|(cases h)),qc];rfl
def eA_g{e:E}(h:vc e=false)(K:Sl×Env->R M):(qcO e r N).th K=(r N).th (kAx K):=by rw[show qcO e r N=(r N).th λx=>match x.1 with |.val d=>R.ok (.val d,x.2) |.tmp l=>.ok (.own l,x.2) |_=>.no from(by cases e<;>first|rfl|(cases h)),qc];rfl
def eE_var(K:D×Env->R M)(i:Nat):(jZ (.var i) r N).th K=(slE N i).th K:=(rfl)
def eE_con(K:D×Env->R M)(d:D):(jZ (.con d) r N).th K=K (d,N):=(rfl)
def eL_var(K:(Sk×List D)×Env->R M)(i:Nat):(y2 (.var i) r N).th K=(slL N i).th K:=(rfl)
def eX_var(K:Rv->R M)(i:Nat):(qf1 (.var i) r N).th K=(slX N i).th K:=(rfl)
def eX_con(K:Rv->R M)(d:D):(qf1 (.con d) r N).th K=K (.val d):=(rfl)
def eA_var(K:Sl×Env->R M)(i:Nat):(qcO (.var i) r N).th K=(slE N i).th (kAv K):=qc (slE N i) _ _
def eA_con(K:Sl×Env->R M)(d:D):(qcO (.con d) r N).th K=K (.val d,N):=(rfl)
end
def bAdd(a b:Int):qaV .Add (.val (.int a)) (.val (.int b))=.ok (.val (.int (a+b))):=(rfl)
def bAdds(a b:Str):qaV .Add (.val (.str a)) (.val (.str b))=if a.length+b.length<=sizeLine then .ok (.val (.str (a++b))) else .no:=(rfl)
def bAddtt(a b:List D):qaV .Add (.tmp a) (.tmp b)=if a.length+b.length<=sizeLine then .ok (.tmp (a++b)) else .no:=(rfl)
def bAddct(a b:List D):qaV .Add (.cell a) (.tmp b)=if a.length+b.length<=sizeLine then .ok (.tmp (a++b)) else .no:=(rfl)
def bAddvt(a b:List D):qaV .Add (.val (.lst a)) (.tmp b)=if a.length+b.length<=sizeLine then .ok (.tmp (a++b)) else .no:=(rfl)
def bSub(a b:Int):qaV .Sub (.val (.int a)) (.val (.int b))=.ok (.val (.int (a - b))):=(rfl)
def bMult(a b:Int):qaV .Mult (.val (.int a)) (.val (.int b))=if qd7 a b=true then .ok (.val (.int (a * b))) else .no:=(rfl)
def bDiv(a b:Int):qaV .FloorDiv (.val (.int a)) (.val (.int b))=if 0 < b/\b < 1073741824 then .ok (.val (.int (a / b))) else .no:=(rfl)
def bMod(a b:Int):qaV .Mod (.val (.int a)) (.val (.int b))=if 0 < b then .ok (.val (.int (a % b))) else .no:=(rfl)
def cEq(x y:Rv):Yh .Eq x y=eqD x.data y.data:=(rfl)
def cNe(x y:Rv):Yh .NotEq x y=(eqD x.data y.data).map (!·):=(rfl)
def cLt(a b:Int):Yh .Lt (.val (.int a)) (.val (.int b))=some (decide (a < b)):=(rfl)
def cLe(a b:Int):Yh .LtE (.val (.int a)) (.val (.int b))=some (decide (a<=b)):=(rfl)
def cGt(a b:Int):Yh .Gt (.val (.int a)) (.val (.int b))=some (decide (b < a)):=(rfl)
def cGe(a b:Int):Yh .GtE (.val (.int a)) (.val (.int b))=some (decide (b<=a)):=(rfl)
def cIs(x:Rv):Yh .Is x (.val .non)=some x.non?:=(rfl)
def cIsN(x:Rv):Yh .IsNot x (.val .non)=some (!x.non?):=(rfl)
def cIn(x y:Rv):Yh .In x y=qfv x y:=(rfl)
def cNi(x y:Rv):Yh .NotIn x y=(qfv x y).map (!·):=(rfl)
def mIn(a b:Str):qfv (.val (.str a)) (.val (.str b))=some (qj6 a b):=(rfl)
def rgoV(i:Nat)(d:D)(N:Env):Tg.go (.one i) d N=.ok (N.set i (.val d)):=(rfl)
def rgoT(l:List Nat)(ds:List D)(N:Env):Tg.go (.many l) (.tup ds) N=QE l ds N:=(rfl)
def setIs_nil(N:Env):QE [] [] N=.ok N:=(rfl)
def setIs_cons(i:Nat)(l:List Nat)(d:D)(ds:List D)(N:Env):QE (i::l) (d::ds) N=QE l ds (N.set i (.val d)):=(rfl)
section
variable{α M:Type}(f:α->M)(a b:α)(l m:List α)(n:Nat)
def g_mapc:List.map f (a::l)=f a::List.map f l:=(rfl)
def g_mapn:List.map f []=[]:=(rfl)
def g_lenc:(a::l).length=l.length+1:=(rfl)
def g_lenn:([]:List α).length=0:=(rfl)
def g_rep0:List.replicate 0 a=[]:=(rfl)
def g_reps:List.replicate (n+1) a=a::List.replicate n a:=(rfl)
def g_appc:(a::l)++m=a::(l++m):=(rfl)
def g_appn:[]++m=m:=(rfl)
def g_set0:(a::l).set 0 b=b::l:=(rfl)
def g_sets:(a::l).set (n+1) b=a::l.set n b:=(rfl)
def g_last(l:List α)(x:α):atI (l++[x]) (-1)=some x:=L2.qfK ..
def g_nott:(!true)=false:=(rfl)
def g_notf:(!false)=true:=(rfl)
def g_omap:Option.map f (some a)=some (f a):=(rfl)
def g_fe:(false=true)=False:=Bool.false_eq_true
def g_and(p:Prop):(p/\p)=p:=and_self p
def g_dt(h:Decidable True):@decide True h=true:=decide_true ..
def g_df(h:Decidable False):@decide False h=false:=decide_false ..
end
def aL(b:Bool)(l:List D):Ar:=match b with
 |true=>.bor l
 |false=>.val (.lst l)
def rA(b:Bool)(l:List D):Rv:=match b with
 |true=>.cell l
 |false=>.val (.lst l)
def pS(b:Bool)(l:List D):Sl:=match b with
 |true=>.bor l
 |false=>.val (.lst l)
def qny(b:Bool)(l:List D):Sl:=match b with
 |true=>.own l
 |false=>.val (.lst l)
section
variable{M:Type}(b:Bool)(l:List D)(N:DE.Env)
def lend_v(d:D):qd8 (.val d)=.val d:=(rfl)
def qoA:qny true l=.own l:=rfl
def qoB:qny false l=.val (.lst l):=rfl
def qbX:aL true l=.bor l:=rfl
def qbY:aL false l=.val (.lst l):=rfl
def sA_p:toSl (aL b l)=pS b l:=by cases b<;>rfl
def sA_R:slR (pS b l::N) 0=.ok (rA b l):=by cases b<;>rfl
def sA_L(K:(Sk×List D)×DE.Env->R M):(slL (pS b l::N) 0).th K=K ((.lst,l),pS b l::N):=by cases b<;>rfl
def sL_L(K:(Sk×List D)×DE.Env->R M):(slL (qny b l::N) 0).th K=K ((.lst,l),.val (.lst l)::N):=by cases b<;>rfl
def rA_a:toAr (rA b l)=aL b l:=by cases b<;>rfl
def rA_l:(rA b l).list?=some l:=by cases b<;>rfl
def rA_s:(rA b l).str?=none:=by cases b<;>rfl
def rA_t:(rA b l).tup?=none:=by cases b<;>rfl
def rA_y:Ty.list.go (rA b l)=some true:=by cases b<;>rfl
end
noncomputable abbrev RW(pg:Pg)(f:Str)(c:Nat×Nat×Ss):Prop:=∀(k:Nat) (args:List Ar),clK pg (k+1) f args=runD (pg.kk k) 1000 c args
noncomputable abbrev USs(b c:Ss):Prop:=∀{M:Type} (cl:Cl) (w:Nat) (N:DE.Env) (K:Fl->R M),(iSs cl w b N).th K=(iSs cl w c N).th K
noncomputable abbrev UT(b c:T):Prop:=∀{M:Type} (cl:Cl) (N:DE.Env) (K:Bool×DE.Env->R M),(iT cl b N).th K=(iT cl c N).th K
noncomputable abbrev UE(b c:E):Prop:=∀{M:Type} (cl:Cl) (N:DE.Env) (K:D×DE.Env->R M),(jZ b (iR cl b) N).th K=(jZ c (iR cl c) N).th K
end DE
namespace DG
open PySem L2 DE
def qjn:Stmt->List Stmt
 |.ClassDef _ _ _ b _ _ _ _ _ _ _=>b
 |_=>[]
def rk(c:Str):Bool:=c == "Within" || c == "Since" || c == "InRow"
def pcs(x:Xs:={}):Cs where
 toXs:=x
 tab:=["Within","Since","InRow","Book"]
 fld:=λc x=>(rk c&&(x == "lands" || x == "most" || (x == "span" && c == "Within")||(x == "leave" && c != "Within")))||(c == "Book" && (x == "kept_rules" || x == "kept_papers"))
 mt:=λc x=>if rk c&&x == "weight" then some "Rule.weight" else if c == "Book" && x == "rules" then some "Book.rules" else if c == "Book" && x == "lifted" then some "Book.lifted" else if c == "Book" && x == "papers" then some "Book.papers" else none
 sub:=λc t=>if rk c&&t == "Within" then some (c == "Within") else if rk c&&t == "Since" then some (c != "Within") else none
def qcV(s:Str):Bool:=decide (1<=s.length)&&decide (s.length<=8)&&s.cps.toList.all λc=>decide (97<=c)&&decide (c<=122)
def qew:D->Option (Str×Int)
 |.tup [.str s,.int w]=>if qcV s&&decide (1<=w)&&decide (w<=9) then some (s,w) else none
 |_=>none
def Qa:List Str->List D->Bool
 |_,[]=>true
 | acc,d::l=>match qew d with
  |some p=>!acc.contains p.1&&Qa (acc++[p.1]) l
  |none=>false
def qE(l:List D):Bool:=decide (1<=l.length)&&decide (l.length<=6)&&Qa [] l
def btw(n a b:Int):Bool:=decide (a<=n)&&decide (n<=b)
def qaa:D->Bool
 |.ins c _ _=>rk c
 |_=>false
def yA(many:Int):D->Bool
 |.tup [.int o,.int a,.int b]=>btw o 0 (many - 1)&&btw a 0 1000000000&&btw b 0 1000000000&&decide (a<=b)
 |_=>false
def arL:Ar->Option (List D)
 |.val (.lst l)=>some l
 |.bor l=>some l
 |_=>none
def arI:Ar->Option Int
 |.val (.int n)=>some n
 |_=>none
def qbZ:List Ar->Option (List (Str×D))
 |[a,b]=>match arL a,arI b with
  |some l,some m=>if (qE l&&btw m 0 1000000000)=true then some [("lands",.tup l),("most",.int m)] else none
  |_,_=>none
 |_=>none
def j7(x:Str):List Ar->Option (List (Str×D))
 |[a,b,c]=>match arL a,arI b,arI c with
  |some l,some m,some s=>if (qE l&&btw m 0 1000000000&&btw s 1 1000000000)=true then some [("lands",.tup l),("most",.int m),(x,.int s)] else none
  |_,_,_=>none
 |_=>none
def qcW:List Ar->Option (List (Str×D))
 |[a,b]=>match arL a,arI b with
  |some l,some m=>if (qE l&&btw m 0 1000000000)=true then some [("lands",.tup l),("most",.int m),("leave",.int 1)] else none
  |_,_=>none
 |_=>none
def Qb:List Ar->Option (List (Str×D))
 |[a,b]=>match arL a,arL b with
  |some l,some ps=>if ((decide (l.length<=8)&&l.all qaa)&&(decide (ps.length<=12)&&ps.all (yA l.length)))=true then some [("kept_rules",.lst l),("kept_papers",.lst ps)] else none
  |_,_=>none
 |_=>none
def qcX(c:Str):Option (List (Str×D))->R Rv
 |some fs=>.ok (.val (.ins c (fs.map (·.1)) (fs.map (·.2))))
 |none=>.no
def pnw(k:Nat)(f:Str)(args:List Ar):R Rv:=if k < 12 then .no else
 if f = "Within" then qcX "Within" (j7 "span" args) else if f = "Since" then qcX "Since" (j7 "leave" args) else if f = "InRow" then qcX "InRow" (qcW args) else if f = "Book" then qcX "Book" (Qb args) else .no
def Qc:Nat×Nat×Ss:=(1,1,%[.ret (.and (.isi Ty.int (.var 0)) (.one (.not (.isi Ty.bool (.var 0)))))|0])
def JJ:Nat×Nat×Ss:=(3,3,%[.ret (.and (.call "is_whole" %[0|0]) (.and (.cmp .LtE (.var 1) (.var 0)) (.one (.cmp .LtE (.var 0) (.var 2)))))|0])
def Qd:Nat×Nat×Ss:=(2,2,%[.ret (.and (.call "is_between" %[0,.con (.int 0),.con (.int 1000000000)|0]) (.and (.call "is_between" %[1,.con (.int 0),.con (.int 1000000000)|0]) (.one (.cmp .LtE (.var 0) (.var 1)))))|0])
noncomputable abbrev j8:Ss:=%[.ite (.cmp .NotIn (.var 2) (.var 1)) %[.ret (.con (.bl false))|0] .nil|0]
def z7:Ss:=j8
def JU:USs z7 j8:=λ_ _ _ _=>(rfl)
def JK:Nat×Nat×Ss:=(2,3,%[.for_ (.one 2) (.seq (.var 0)) z7,.ret (.con (.bl true))|0])
def qab:Nat×Nat×Ss:=(1,1,%[.ite (.not (.val (.isi Ty.str (.var 0)))) %[.ret (.con (.bl false))|0] .nil,.ret (.and (.cmp .LtE (.con (.int 1)) (.b1 .len (.var 0))) (.and (.cmp .LtE (.b1 .len (.var 0)) (.con (.int 8))) (.one (.call "is_made_of" %[0,.con (.str "abcdefghijklmnopqrstuvwxyz")|0]))))|0])
class CH(pg:Pg):Prop where
 r_is_whole:RW pg "is_whole" Qc
 r_is_between:RW pg "is_between" JJ
 r_are_days:RW pg "are_days" Qd
 r_is_made_of:RW pg "is_made_of" JK
 r_is_name:RW pg "is_name" qab
noncomputable abbrev Yn:Ss:=%[.ite (.and (.val (.var 1)) (.one (.cmp .LtE (.var 2) (.bin .Add (.idx (.idx (.var 1) (.neg (.con (.int 1)))) (.con (.int 1))) (.con (.int 1)))))) %[.setI 1 (.neg (.con (.int 1))) (.tup %[.idx (.idx (.var 1) (.neg (.con (.int 1)))) (.con (.int 0)),.b2 .max (.idx (.idx (.var 1) (.neg (.con (.int 1)))) (.con (.int 1))) (.var 3)|0])|0] %[.app 1 (.tup %[2,3|0])|0]|0]
def Ju:Ss:=Yn
def j9:USs Ju Yn:=λ_ _ _ _=>(rfl)
def qb0:Nat×Nat×Ss:=(1,4,%[.set 1 (.lst .nil),.for_ (.many [2,3]) (.seq (.b1 .srt (.var 0))) Ju,.ret (.var 1)|0])
class SP(pg:Pg):Prop where
 r_spread:RW pg "spread" qb0
def qac:Nat×Nat×Ss:=(1,1,%[.ite (.or (.not (.val (.isi Ty.tuple (.var 0)))) (.one (.cmp .NotEq (.b1 .len (.var 0)) (.con (.int 2))))) %[.ret (.con (.bl false))|0] .nil,.ret (.and (.call "is_name" %[.idx (.var 0) (.con (.int 0))|0]) (.one (.call "is_between" %[.idx (.var 0) (.con (.int 1)),.con (.int 1),.con (.int 9)|0])))|0])
noncomputable abbrev yB:Ss:=%[.ite (.or (.not (.val (.call "is_land" %[2|0]))) (.one (.cmp .In (.idx (.var 2) (.con (.int 0))) (.var 1)))) %[.ret (.con (.bl false))|0] .nil,.app 1 (.idx (.var 2) (.con (.int 0)))|0]
def jB:Ss:=yB
def Yo:USs jB yB:=λ_ _ _ _=>(rfl)
def Yp:Nat×Nat×Ss:=(1,3,%[.ite (.or (.not (.val (.isi Ty.list (.var 0)))) (.or (.cmp .Lt (.b1 .len (.var 0)) (.con (.int 1))) (.one (.cmp .Gt (.b1 .len (.var 0)) (.con (.int 6)))))) %[.ret (.con (.bl false))|0] .nil,.set 1 (.lst .nil),.for_ (.one 2) (.seq (.var 0)) jB,.ret (.con (.bl true))|0])
abbrev jL:Ss:=%[.ite (.cmp .Eq (.var 2) (.var 1)) %[.ret (.var 3)|0] .nil|0]
def zG:Ss:=jL
def jf:USs zG jL:=λ_ _ _ _=>(rfl)
def jC:Nat×Nat×Ss:=(2,4,%[.for_ (.many [2,3]) (.seq (.fld (.var 0) "lands")) zG,.ret (.con (.int 0))|0])
class RU(pg:Pg):Prop where
 cs:pg.cs=pcs pg.xx
 nw:pg.nw=pnw
 r_is_land:RW pg "is_land" qac
 r_are_lands:RW pg "are_lands" Yp
 r_Rule_weight:RW pg "Rule.weight" jC
noncomputable abbrev yC:Ss:=%[.ite (.and (.not (.val (.isc "Within" (.var 1)))) (.one (.not (.val (.isc "Since" (.var 1)))))) %[.ret (.con (.bl false))|0] .nil|0]
def jD:Ss:=yC
def ya:USs jD yC:=λ_ _ _ _=>(rfl)
def Yq:Nat×Nat×Ss:=(1,2,%[.ite (.or (.not (.val (.isi Ty.list (.var 0)))) (.one (.cmp .Gt (.b1 .len (.var 0)) (.con (.int 8))))) %[.ret (.con (.bl false))|0] .nil,.for_ (.one 1) (.seq (.var 0)) jD,.ret (.con (.bl true))|0])
def Qe:Nat×Nat×Ss:=(2,2,%[.ite (.or (.not (.val (.isi Ty.tuple (.var 0)))) (.one (.cmp .NotEq (.b1 .len (.var 0)) (.con (.int 3))))) %[.ret (.con (.bl false))|0] .nil,.ret (.and (.call "is_between" %[.idx (.var 0) (.con (.int 0)),.con (.int 0),.bin .Sub (.var 1) (.con (.int 1))|0]) (.one (.call "are_days" %[.idx (.var 0) (.con (.int 1)),.idx (.var 0) (.con (.int 2))|0])))|0])
noncomputable abbrev jg:Ss:=%[.ite (.not (.val (.call "is_paper" %[3,1|0]))) %[.stuck|0] .nil|0]
def zm:Ss:=jg
def y3:USs zm jg:=λ_ _ _ _=>(rfl)
def yD:Nat×Nat×Ss:=(2,4,%[.ite (.not (.val (.isi Ty.list (.var 0)))) %[.stuck|0] .nil,.for_ (.many [2,3]) (.enum (.var 0)) zm,.ite (.cmp .Gt (.b1 .len (.var 0)) (.con (.int 12))) %[.stuck|0] .nil|0])
def JL:Nat×Nat×Ss:=(1,1,%[.ret (.b1 .list (.fld (.var 0) "kept_rules"))|0])
def QP:Nat×Nat×Ss:=(1,1,%[.ret (.b1 .list (.fld (.var 0) "kept_papers"))|0])
abbrev jM:E:=(.tup %[1,2|0])
def zH:E:=jM
def jh:UE zH jM:=λ_ _ _=>(rfl)
def y4:Nat×Nat×Ss:=(2,2,%[.ret (.call "spread" %[.comp zH (.seq (.fld (.var 0) "kept_papers")) (.many [0,1,2]) (.test (.cmp .Eq (.var 0) (.var 3))) 3 [1]|0])|0])
class BO(pg:Pg):Prop where
 r_are_rules:RW pg "are_rules" Yq
 r_is_paper:RW pg "is_paper" Qe
 r_check_papers:RW pg "check_papers" yD
 r_Book_rules:RW pg "Book.rules" JL
 r_Book_papers:RW pg "Book.papers" QP
 r_Book_lifted:RW pg "Book.lifted" y4
noncomputable abbrev qad:T:=(.and (.cmp .Lt (.var 3) (.b1 .len (.var 0))) (.one (.cmp .Lt (.var 4) (.b1 .len (.var 1)))))
def QQ:T:=qad
def yt:UT QQ qad:=λ_ _ _=>(rfl)
noncomputable abbrev qae:Ss:=%[.set 5 (.b2 .max (.idx (.idx (.var 0) (.var 3)) (.con (.int 0))) (.idx (.idx (.var 1) (.var 4)) (.con (.int 0)))),.set 6 (.b2 .min (.idx (.idx (.var 0) (.var 3)) (.con (.int 1))) (.idx (.idx (.var 1) (.var 4)) (.con (.int 1)))),.ite (.cmp .LtE (.var 5) (.var 6)) %[.app 2 (.tup %[5,6|0])|0] .nil,.ite (.cmp .Lt (.idx (.idx (.var 0) (.var 3)) (.con (.int 1))) (.idx (.idx (.var 1) (.var 4)) (.con (.int 1)))) %[.set 3 (.bin .Add (.var 3) (.con (.int 1)))|0] %[.set 4 (.bin .Add (.var 4) (.con (.int 1)))|0]|0]
def QR:Ss:=qae
def Qf:USs QR qae:=λ_ _ _ _=>(rfl)
def qhB:Nat×Nat×Ss:=(2,7,%[.set 2 (.lst .nil),.set 3 (.con (.int 0)),.set 4 (.con (.int 0)),.whl QQ QR,.ret (.var 2)|0])
noncomputable abbrev JM:Ss:=%[.ite (.cmp .Lt (.var 4) (.idx (.var 5) (.con (.int 0)))) %[.app 3 (.tup %[4,.bin .Sub (.idx (.var 5) (.con (.int 0))) (.con (.int 1))|0])|0] .nil,.set 4 (.b2 .max (.var 4) (.bin .Add (.idx (.var 5) (.con (.int 1))) (.con (.int 1))))|0]
def yL:Ss:=JM
def y6:USs yL JM:=λ_ _ _ _=>(rfl)
def Yr:Nat×Nat×Ss:=(3,6,%[.set 3 (.lst .nil),.set 4 (.var 1),.for_ (.one 5) (.seq (.var 0)) yL,.ite (.cmp .LtE (.var 4) (.var 2)) %[.app 3 (.tup %[4,2|0])|0] .nil,.ret (.var 3)|0])
def qhC:Nat×Nat×Ss:=(2,2,%[.ite (.not (.val (.var 0))) %[.ret (.lst .nil)|0] .nil,.ret (.call "both" %[0,.call "outside" %[1,.idx (.idx (.var 0) (.con (.int 0))) (.con (.int 0)),.idx (.idx (.var 0) (.neg (.con (.int 1)))) (.con (.int 1))|0]|0])|0])
class BT(pg:Pg):Prop where
 r_both:RW pg "both" qhB
 r_outside:RW pg "outside" Yr
 r_less:RW pg "less" qhC
abbrev ji:E:=(.tup %[0,1,2|0])
def zn:E:=ji
def y7:UE zn ji:=λ_ _ _=>(rfl)
noncomputable abbrev jj:Ss:=%[.set 9 (.met (.var 3) "weight" %[6|0]),.ite (.cmp .Gt (.var 9) (.con (.int 0))) %[.ext 5 (.comp zn (.seq (.call "less" %[.lst %[.tup %[7,8|0]|0],4|0])) (.many [0,1]) .yes 2 [9])|0] .nil|0]
def zo:Ss:=jj
def zU:USs zo jj:=λ_ _ _ _=>(rfl)
def yE:Nat×Nat×Ss:=(3,10,%[.set 3 (.idx (.met (.var 0) "rules" .nil) (.var 1)),.set 4 (.met (.var 0) "lifted" %[1|0]),.set 5 (.lst .nil),.for_ (.many [6,7,8]) (.seq (.var 2)) zo,.ret (.var 5)|0])
class PC(pg:Pg):Prop where
 r_pieces_among:RW pg "pieces_among" yE
noncomputable abbrev Yt:Ss:=%[.set 7 (.bin .Add (.bin .Sub (.b2 .min (.var 5) (.var 2)) (.b2 .max (.var 4) (.var 1))) (.con (.int 1))),.ite (.cmp .Gt (.var 7) (.con (.int 0))) %[.set 3 (.bin .Add (.var 3) (.bin .Mult (.var 7) (.var 6)))|0] .nil|0]
def Jv:Ss:=Yt
def JN:USs Jv Yt:=λ_ _ _ _=>(rfl)
def qb1:Nat×Nat×Ss:=(3,8,%[.set 3 (.con (.int 0)),.for_ (.many [4,5,6]) (.seq (.var 0)) Jv,.ret (.var 3)|0])
noncomputable abbrev jN:Ss:=%[.ite (.cmp .LtE (.var 4) (.var 2)) %[.ite (.cmp .GtE (.bin .Sub (.bin .Sub (.var 3) (.con (.int 1))) (.b2 .min (.var 5) (.var 2))) (.var 1)) %[.ret (.var 3)|0] .nil,.set 3 (.var 4)|0] .nil|0]
def zI:Ss:=jN
def qZ:USs zI jN:=λ_ _ _ _=>(rfl)
def y8:Nat×Nat×Ss:=(3,7,%[.set 3 (.bin .Add (.var 2) (.con (.int 1))),.for_ (.many [4,5,6]) (.rev (.var 0)) zI,.ret (.var 3)|0])
def q9:Nat×Nat×Ss:=(3,3,%[.ite (.val (.isc "Within" (.var 0))) %[.ret (.bin .Add (.bin .Sub (.var 2) (.fld (.var 0) "span")) (.con (.int 1)))|0] .nil,.ret (.call "first_since" %[1,.fld (.var 0) "leave",2|0])|0])
def y9:Nat×Nat×Ss:=(3,3,%[.ret (.call "sum_of" %[1,.call "first_of_window" %[0,1,2|0],2|0])|0])
class SU(pg:Pg):Prop where
 r_sum_of:RW pg "sum_of" qb1
 r_first_since:RW pg "first_since" y8
 r_first_of_window:RW pg "first_of_window" q9
 r_count_among:RW pg "count_among" y9
noncomputable abbrev Ja:Ss:=%[.app 2 (.bin .Add (.var 3) (.fld (.var 0) "span")),.app 2 (.bin .Add (.bin .Add (.var 4) (.con (.int 1))) (.fld (.var 0) "span"))|0]
def yb:Ss:=Ja
def YZ:USs yb Ja:=λ_ _ _ _=>(rfl)
def Jw:Nat×Nat×Ss:=(2,6,%[.set 2 (.lst .nil),.ite (.val (.isc "Within" (.var 0))) %[.for_ (.many [3,4,5]) (.seq (.var 1)) yb|0] .nil,.ret (.var 2)|0])
def zC:Nat×Nat×Ss:=(4,7,%[.set 4 (.call "count_among" %[0,1,.bin .Sub (.var 2) (.con (.int 1))|0]),.set 5 (.bin .Sub (.call "count_among" %[0,1,2|0]) (.var 4)),.ite (.cmp .LtE (.var 5) (.con (.int 0))) %[.ret (.con .non)|0] .nil,.set 6 (.bin .Add (.var 2) (.bin .FloorDiv (.bin .Sub (.fld (.var 0) "most") (.var 4)) (.var 5))),.ret (.ite (.cmp .LtE (.var 6) (.var 3)) (.var 6) (.con .non))|0])
abbrev jk:E:=(.var 0)
def zq:E:=jk
def Jb:UE zq jk:=λ_ _ _=>(rfl)
abbrev jl:E:=(.bin .Sub (.var 0) (.con (.int 1)))
def zt:E:=jl
def Jc:UE zt jl:=λ_ _ _=>(rfl)
noncomputable abbrev jm:Ss:=%[.set 10 (.call "first_above" %[0,1,7,9|0]),.ite (.cmp .IsNot (.var 10) (.con .non)) %[.ret (.var 10)|0] .nil|0]
def zu:Ss:=jm
def zV:USs zu jm:=λ_ _ _ _=>(rfl)
noncomputable abbrev jn:Ss:=%[.set 6 (.bin .Add (.lst %[3|0]) (.comp zq (.seq (.var 2)) (.one 0) (.test (.and (.cmp .Lt (.var 1) (.var 0)) (.one (.cmp .LtE (.var 0) (.var 2))))) 1 [3,4])),.set 8 (.bin .Add (.comp zt (.seq (.sli (.var 6) (.some (.con (.int 1))) .none)) (.one 0) .yes 1 []) (.lst %[4|0])),.for_ (.many [7,9]) (.zip (.var 6) (.var 8)) zu|0]
def zv:Ss:=jn
def zW:USs zv jn:=λ_ _ _ _=>(rfl)
def z8:Nat×Nat×Ss:=(2,11,%[.set 2 (.call "turns_of" %[0,1|0]),.for_ (.many [3,4,5]) (.seq (.var 1)) zv,.ret (.con .non)|0])
class FK(pg:Pg):Prop where
 r_turns_of:RW pg "turns_of" Jw
 r_first_above:RW pg "first_above" zC
 r_first_broken:RW pg "first_broken" z8
noncomputable abbrev jO:Ss:=%[.set 5 (.call "pieces_among" %[0,3,1|0]),.set 6 (.call "first_broken" %[4,5|0]),.ite (.and (.cmp .IsNot (.var 6) (.con .non)) (.one (.or (.cmp .Is (.var 2) (.con .non)) (.one (.cmp .Lt (.var 6) (.idx (.var 2) (.con (.int 0)))))))) %[.set 2 (.tup %[6,3,.call "first_of_window" %[4,5,6|0]|0])|0] .nil|0]
def zJ:Ss:=jO
def Jx:USs zJ jO:=λ_ _ _ _=>(rfl)
def Jd:Nat×Nat×Ss:=(2,7,%[.set 2 (.con .non),.for_ (.many [3,4]) (.enum (.met (.var 0) "rules" .nil)) zJ,.ret (.var 2)|0])
class FM(pg:Pg):Prop where
 r_fault_among:RW pg "fault_among" Jd
end DG
namespace FZ
open PySem L2 DE DG
def Yu:Nat×Nat×Ss:=(2,2,%[.ite (.cmp .Lt (.var 1) (.b1 .len (.var 0))) %[.ret (.idx (.var 0) (.var 1))|0] .nil,.ret (.con (.int 0))|0])
class ZA(pg:Pg):Prop where
 r__law_at:RW pg "_law_at" Yu
noncomputable abbrev yF:Ss:=%[.set 3 (.bin .Add (.var 3) (.idx (.con (.str "abcdefghijklmnopqrstuvwxyz")) (.bin .Mod (.var 1) (.con (.int 26))))),.set 1 (.bin .FloorDiv (.var 1) (.con (.int 26)))|0]
def jE:Ss:=yF
def Yv:USs jE yF:=λ_ _ _ _=>(rfl)
def Yw:Nat×Nat×Ss:=(1,5,%[.set 1 (.bin .Mod (.bin .Mult (.var 0) (.con (.int 1099087573))) (.con (.int 10000000000037))),.set 2 (.bin .Add (.con (.int 1)) (.bin .Mod (.var 1) (.con (.int 7)))),.set 1 (.bin .FloorDiv (.var 1) (.con (.int 7))),.set 3 (.con (.str "")),.for_ (.one 4) (.rng (.var 2)) jE,.ret (.var 3)|0])
class ZW(pg:Pg):Prop where
 r__law_word:RW pg "_law_word" Yw
noncomputable abbrev yc:E:=(.bin .Add (.bin .Add (.sli (.var 1) .none (.some (.var 2))) (.var 0)) (.sli (.var 1) (.some (.var 2)) .none))
def z9:E:=yc
def JV:UE z9 yc:=λ_ _ _=>(rfl)
def JO:Nat×Nat×Ss:=(2,4,%[.set 2 (.call "_law_word" %[0|0]),.set 3 (.bin .Mod (.var 0) (.bin .Add (.b1 .len (.var 2)) (.con (.int 1)))),.ret (.comp z9 (.seq (.sli (.con (.str "kcxq")) .none (.some (.var 1)))) (.one 0) .yes 1 [2,3])|0])
class ZN(pg:Pg):Prop where
 r__law_names:RW pg "_law_names" JO
def jF:Nat×Nat×Ss:=(1,1,%[.ite (.cmp .Eq (.idx (.var 0) (.con (.int 0))) (.con (.int 0))) %[.ret (.new "Within" %[.b1 .list (.idx (.var 0) (.con (.int 1))),.idx (.var 0) (.con (.int 2)),.idx (.var 0) (.con (.int 3))|0])|0] .nil,.ite (.cmp .Eq (.idx (.var 0) (.con (.int 0))) (.con (.int 1))) %[.ret (.new "Since" %[.b1 .list (.idx (.var 0) (.con (.int 1))),.idx (.var 0) (.con (.int 2)),.idx (.var 0) (.con (.int 3))|0])|0] .nil,.ret (.new "InRow" %[.b1 .list (.idx (.var 0) (.con (.int 1))),.idx (.var 0) (.con (.int 2))|0])|0])
class ZR(pg:Pg):Prop where
 r__law_rule:RW pg "_law_rule" jF
end FZ
namespace DG
open PySem L2 DE
open CH SP RU BO
section
variable{pg:Pg}[CH pg]
def qgv(k:Nat)(n:Int):clK pg (k+1) "is_whole" [.val (.int n)]=.ok (.val (.bl true)):=by rw[r_is_whole];simp?![Qc]
def jo(k:Nat)(n a b:Int)(h1:a<=n)(h2:n<=b):clK pg (k+2) "is_between" [.val (.int n),.val (.int a),.val (.int b)]=.ok (.val (.bl true)):=by rw[r_is_between];simp?![JJ,qgv,h1,h2,decide_true]
def qjo(k:Nat)(a b:Int)(h0:0<=a)(h1:a<=b)(h2:b<=1000000000):clK pg (k+3) "are_days" [.val (.int a),.val (.int b)]=.ok (.val (.bl true)):=by
 have h3:a<=1000000000:=by lia
 have h4:0<=b:=by lia
 rw[r_are_days];simp?![Qd,jo k a 0 1000000000 h0 h3,jo k b 0 1000000000 h4 h2,h1,decide_true]
def yM(c:Nat):Prop:=97<=c/\c < 123
def qjp(c:Nat)(h:yM c):qj6 ⟨#[c]⟩ "abcdefghijklmnopqrstuvwxyz" = true:=by
 have key:∀j:Fin 26,qj6 ⟨#[97+j.val]⟩ "abcdefghijklmnopqrstuvwxyz" = true:=(3:)
 have:=key ⟨c - 97,by unfold yM at h;lia⟩
 rw[show 97+(c - 97)=c by unfold yM at h;lia]at this;exact this
theorem qaf(k:Nat)(z:Str):∀(l:List Nat) (s:Sl),(∀c∈l,yM c)->∃s',yr (pg.kk k) 1000 (.one 2) z7 (l.map λc=>D.str ⟨#[c]⟩) [.val (.str z),.val (.str "abcdefghijklmnopqrstuvwxyz"),s]=.ok (.next [.val (.str z),.val (.str "abcdefghijklmnopqrstuvwxyz"),s'])
 |[],s,_=>{s,by rw[List.map_nil,zB]}
 | c::l,s,h=>by let(s',e):=qaf k z l (.val (.str ⟨#[c]⟩)) λx hx=>h x (by simp[hx]);refine{s',?_};rw[List.map_cons];simp?[JU,qjp c (h c (5:)),e]
def qjq(k:Nat)(z:Str)(h:∀c∈z.cps.toList,yM c):clK pg (k+1) "is_made_of" [.val (.str z),.val (.str "abcdefghijklmnopqrstuvwxyz")]=.ok (.val (.bl true)):=by rw[r_is_made_of];let(s',e):=qaf (pg:=pg) k z z.cps.toList .no h;simp?![JK,Nat.reduceAdd,Nat.reduceSub,qdd,e]
structure NameOk(z:Str):Prop where
 one:1<=z.cps.size
 eight:z.cps.size<=8
 lets:∀c∈z.cps.toList,yM c
def qex(k:Nat)(z:Str)(h:NameOk z):clK pg (k+2) "is_name" [.val (.str z)]=.ok (.val (.bl true)):=by
 have hz:z.length<=sizeLine:=by
  have:=h.eight
  show z.cps.size<=2 ^ 24
  lia
 have h1:(1:Int)<=(z.length:Int):=by
  have:=h.one
  show(1:Int)<=(z.cps.size:Int)
  lia
 have h8:(z.length:Int)<=8:=by
  have:=h.eight
  show(z.cps.size:Int)<=8
  lia
 rw[r_is_name];simp?![qab,hz,h1,h8,decide_true,qjq k z h.lets]
def stD(s:Str×Int×Int):D:=.tup [.str s.1,.int s.2.1,.int s.2.2]
def qey(s:Str×Int×Int):stD s=.tup [.str s.1,.int s.2.1,.int s.2.2]:=rfl
structure StOk(e:Int)(s:Str×Int×Int):Prop where
 nm:NameOk s.1
 lo:e < s.2.1
 ab:s.2.1<=s.2.2
 hi:s.2.2<=1000000000
def Ch:Int->List (Str×Int×Int)->Prop
 |_,[]=>True
 | e,s::l=>StOk e s/\Ch s.2.2 l
end
def NameOk.of{z:Str}(h:qcV z=true):NameOk z:=by
 unfold qcV at h;simp![Bool.and_eq_true,decide_eq_true_eq,List.all_eq_true]at h;refine{h.1.1,h.1.2,λc hc=>?_}
 have:=h.2 c hc
 unfold yM
 lia
def qgw{d:D}{p:Str×Int}(h:qew d=some p):d=.tup [.str p.1,.int p.2]/\NameOk p.1/\1<=p.2/\p.2<=9:=by
 unfold qew at h
 split at h
 ·rename_i s w
  split at h
  ·rename_i hc;cases h;simp![Bool.and_eq_true,decide_eq_true_eq]at hc;exact{rfl,NameOk.of hc.1.1,hc.1.2,hc.2}
  ·cases h
 ·cases h
section
variable{pg:Pg}[CH pg][RU pg]
def qjr(k:Nat)(s:Str)(w:Int)(hs:NameOk s)(h1:1<=w)(h9:w<=9):clK pg (k+3) "is_land" [.val (.tup [.str s,.int w])]=.ok (.val (.bl true)):=by
 rw[r_is_land];have e0:atI [D.str s,D.int w] 0=some (.str s):=by rfl
 have e1:atI [D.str s,D.int w] 1=some (.int w):=by rfl
 simp?![qac,e0,e1,qP,qex k s hs,jo k w 1 9 h1 h9,show((((0+1+1:Nat):Int) == 2)=true) from rfl]
end
def qgx(s:Str)(acc:List Str):inD (.str s) (acc.map D.str)=some (acc.contains s):=by
 have e:∀acc:List Str,inV (V.str s) (acc.map V.str)=acc.contains s:=by
  intro acc
  induction acc with
  |nil=>rfl
  |cons z l ih=>
   rw[List.map_cons,List.contains_cons,<-ih];show(eqV (V.str z) (V.str s)||_)=_
   congr 1
   exact BEq.comm
 unfold inD;rw[if_pos (by simp[jy]),show(acc.map D.str).map flV=acc.map V.str by simp[flV]];exact congrArg some (e acc)
def qag(s:Str)(acc:List Str):qfv (.val (.str s)) (.cell (acc.map D.str))=some (acc.contains s):=qgx s acc
section
variable{pg:Pg}[CH pg][RU pg]
theorem Qg(k:Nat)(v:Sl):∀(l:List D) (acc:List Str) (s2:Sl),Qa acc l=true->acc.length+l.length < 1000->∃acc' s2',yr (pg.kk (k+3)) 1000 (.one 2) jB l [v,.own (acc.map D.str),s2]=.ok (.next [v,.own acc',s2'])
 |[],acc,s2,_,_=>{_,s2,rfl}
 | d::l,acc,s2,h,hl=>by
  unfold Qa at h
  cases e:qew d with
  |none=>rw[e]at h;cases h
  |some p=>
   rw[e]at h;simp![Bool.and_eq_true,Bool.not_eq_true']at h;let(rfl,hn,h1,h9):=qgw e;rw[List.length_cons]at hl;let(acc',s2',ih):=Qg k v l (acc++[p.1]) (.val (.tup [.str p.1,.int p.2])) h.2 (by simp;lia);refine{acc',s2',?_};rw[List.map_append,List.map_cons,List.map_nil]at ih;have e0:atI [D.str p.1,D.int p.2] 0=some (.str p.1):=by rfl
   have hs:(acc.map D.str).length < sizeLine:=by
    rw[List.length_map];show acc.length < 2 ^ 24
    lia
   simp?[Yo,e0,qjr k p.1 p.2 hn h1 h9,qag,h.1,hs,ih]
def qa8(k:Nat)(b:Bool)(l:List D)(h:qE l=true):clK pg (k+4) "are_lands" [aL b l]=.ok (.val (.bl true)):=by
 unfold qE at h;simp![Bool.and_eq_true,decide_eq_true_eq]at h;have h1:¬ (l.length:Int) < 1:=by have:=h.1.1;lia
 have h2:¬ (6:Int) < (l.length:Int):=by have:=h.1.2;lia
 rw[r_are_lands];let(acc',s2',ih):=Qg (pg:=pg) k (pS b l) l [] .no h.2 (by have:=h.1.2;simp;lia);rw[List.map_nil]at ih;simp?![Yp,h1,h2,show(0:Nat)<=sizeLine by decide+kernel,ih]
end
section
variable{pg:Pg}[CH pg]
def qmD(k:Nat)(n a b:Int)(h:btw n a b=true):clK pg (k+2) "is_between" [.val (.int n),.val (.int a),.val (.int b)]=.ok (.val (.bl true)):=by unfold btw at h;simp![Bool.and_eq_true,decide_eq_true_eq]at h;exact jo k n a b h.1 h.2
end
theorem Qh(cl:Cl){xx:Xs}(hc:cl.cs=pcs xx)(v:Sl):∀(l:List D) (s1:Sl),l.all qaa=true->∃s1',yr cl 1000 (.one 1) jD l [v,s1]=.ok (.next [v,s1'])
 |[],s1,_=>⟨s1,rfl⟩
 | d::l,s1,h=>by
  rw[List.all_cons,Bool.and_eq_true]at h
  cases d with
  |ins c ns ds=>
   let(s1',ih):=Qh cl hc v l (.val (.ins c ns ds)) h.2;refine{s1',?_};have hk:rk c=true:=h.1
   have i1:qhf (pcs xx) (.val (.ins c ns ds)) "Within" = some (c == "Within"):=by show(if (rk c&&_)=true then _ else _)=_;rw[hk];rfl
   have i2:qhf (pcs xx) (.val (.ins c ns ds)) "Since" = some (c != "Within"):=by show(if (rk c&&false)=true then _ else if (rk c&&true)=true then _ else _)=_;rw[hk];rfl
   refine(qh _).symm.trans ?_
   by_cases hw:(c == "Within")=true
   ·simp?![ya,hc,i1,hw,ih]
   ·have hw:(c == "Within")=false:=(-hw:)
    have hn:(c != "Within")=true:=by simp[bne,hw]
    simp?![ya,hc,i1,i2,hw,hn,ih]
  |_=>cases h.1
section
variable{pg:Pg}[CH pg][RU pg][BO pg]
def qa9(k:Nat)(b:Bool)(l:List D)(h:(decide (l.length<=8)&&l.all qaa)=true):clK pg (k+1) "are_rules" [aL b l]=.ok (.val (.bl true)):=by
 simp![Bool.and_eq_true,decide_eq_true_eq]at h;have h2:¬ (8:Int) < (l.length:Int):=by have:=h.1;lia
 rw[r_are_rules];let(s1',ih):=Qh (pg.kk k) RU.cs (pS b l) l .no h.2;simp?![Yq,h2,ih]
end
def qez{n:Int}{d:D}(h:yA n d=true):∃o a b,d=.tup [.int o,.int a,.int b]/\0<=o/\o<=n - 1/\0<=a/\a<=b/\b<=1000000000:=by
 unfold yA at h
 split at h
 ·rename_i o a b;simp![btw,Bool.and_eq_true,decide_eq_true_eq]at h;exact{o,a,b,rfl,by lia,by lia,by lia,by lia,by lia}
 ·cases h
section
variable{pg:Pg}[CH pg][BO pg]
def qgy(k:Nat)(n:Int)(d:D)(h:yA n d=true):clK pg (k+4) "is_paper" [.val d,.val (.int n)]=.ok (.val (.bl true)):=by
 let(o,a,b,rfl,h1,h2,h3,h4,h5):=qez h;have e0:atI [D.int o,D.int a,D.int b] 0=some (.int o):=by rfl
 have e1:atI [D.int o,D.int a,D.int b] 1=some (.int a):=by rfl
 have e2:atI [D.int o,D.int a,D.int b] 2=some (.int b):=by rfl
 rw[r_is_paper];simp?![Qe,e0,e1,e2,qP,jo (k+1) o 0 (n - 1) h1 h2,qjo k a b h3 h4 h5,show((((0+1+1+1:Nat):Int) == 3)=true) from rfl]
theorem Yx(k:Nat)(v:Sl)(n:Int):∀(l:List D) (i:Nat) (s2 s3:Sl),l.all (yA n)=true->∃s2' s3',yr (pg.kk (k+4)) 1000 (.many [2,3]) zm (enF i l) [v,.val (.int n),s2,s3]=.ok (.next [v,.val (.int n),s2',s3'])
 |[],i,s2,s3,_=>⟨s2,s3,rfl⟩
 | d::l,i,s2,s3,h=>by rw[List.all_cons,Bool.and_eq_true]at h;let(s2',s3',ih):=Yx k v n l (i+1) (.val (.int i)) (.val d) h.2;refine{s2',s3',?_};refine(qh _).symm.trans ?_;rw[enF];simp?![y3,qgy k n d h.1,ih]
def Y0(k:Nat)(b:Bool)(ps:List D)(n:Int)(h:(decide (ps.length<=12)&&ps.all (yA n))=true):clK pg (k+5) "check_papers" [aL b ps,.val (.int n)]=.ok (.val .non):=by
 simp![Bool.and_eq_true,decide_eq_true_eq]at h;have h2:¬ (12:Int) < (ps.length:Int):=by have:=h.1;lia
 rw[r_check_papers];let(s2',s3',ih):=Yx (pg:=pg) k (pS b ps) n ps 0 .no .no h.2;simp?![yD,J5,ih,h2]
end
end DG
namespace FA
open PySem L2 DE DG
def qah{i j:Int}(h1:-(2 ^ 64) < j)(h2:j < 2 ^ 64):qd7 i j=true:=by unfold qd7;rw[decide_eq_true h1,decide_eq_true h2];simp
def zi(ns:List Int)(i:Nat):Int:=ns.getD i 0
def qmE(i:Int)(h0:0<=i)(h1:i < 26):atI (Str.cps "abcdefghijklmnopqrstuvwxyz").toList i=some (97+i.toNat)/\yM (97+i.toNat):=by
 have key:∀j:Fin 26,atI (Str.cps "abcdefghijklmnopqrstuvwxyz").toList (j.val:Int)=some (97+j.val):=(3:)
 let(j,rfl):=Int.eq_ofNat_of_zero_le h0;exact{key {j,by lia},by unfold yM;simp;lia}
def QS(z:Str)(c:Nat):(z++(⟨#[c]⟩:Str)).cps.size=z.cps.size+1:=by show(z.cps ++ #[c]).size=_;simp
def qgz(z:Str)(c:Nat):(z++(⟨#[c]⟩:Str)).cps.toList=z.cps.toList++[c]:=by show(z.cps ++ #[c]).toList=_;simp
structure NamesOk(zs:List Str):Prop where
 two:2<=zs.length
 four:zs.length<=4
 ok:∀z∈zs,NameOk z
 once:∀(i j:Nat) (z:Str),zs[i]?=some z->zs[j]?=some z->i=j
def lnD(p:Str×Int):D:=.tup [.str p.1,.int p.2]
def qai(p:Str×Int):lnD p=.tup [.str p.1,.int p.2]:=rfl
def qgA{z:Str}(h:NameOk z):qcV z=true:=by
 unfold qcV;simp![Bool.and_eq_true,decide_eq_true_eq,List.all_eq_true];refine{⟨h.one,h.eight⟩,λc hc=>?_}
 have:=h.lets c hc
 unfold yM at this
 lia
structure LnOk(p:Str×Int):Prop where
 nm:NameOk p.1
 one:1<=p.2
 nine:p.2<=9
def qgB{p:Str×Int}(h:LnOk p):qew (lnD p)=some p:=by show(if (qcV p.1&&decide (1<=p.2)&&decide (p.2<=9))=true then some (p.1,p.2) else none)=_;rw[if_pos (by rw[qgA h.nm,decide_eq_true h.one,decide_eq_true h.nine];rfl)]
theorem qaj:∀(l:List (Str×Int)) (acc:List Str),(∀p∈l,LnOk p)->(acc++l.map (·.1)).Nodup->Qa acc (l.map lnD)=true
 |[],acc,_,_=>rfl
 | p::l,acc,h,nd=>by
  rw[List.map_cons];unfold Qa;rw[qgB (h p (5:))];have e:acc++(p::l).map (·.1)=(acc++[p.1])++l.map (·.1):=by simp
  rw[e]at nd
  have n1:p.1∉acc:=by
   have:=(List.nodup_append.mp nd).1
   have:=(List.nodup_append.mp this).2.2
   intro hm;exact this p.1 hm p.1 (5:) rfl
  simp![Bool.and_eq_true,Bool.not_eq_true'];exact{by simpa using n1,qaj l (acc++[p.1]) (λq hq=>h q (by simp[hq])) nd}
def qcY{l:List (Str×Int)}(h:∀p∈l,LnOk p)(nd:(l.map (·.1)).Nodup)(h1:1<=l.length)(h6:l.length<=6):qE (l.map lnD)=true:=by unfold qE;rw[List.length_map,decide_eq_true h1,decide_eq_true h6,qaj l [] h (-nd:)];rfl
inductive Kd where
 | wi|si|ro
structure Ru where
 kd:Kd
 lands:List (Str×Int)
 most:Int
 days:Int
end FA
namespace Dy
abbrev P:=Int×Int
def Day(fs:List P)(d:Int):Prop:=∃p∈fs,p.1<=d/\d<=p.2
structure Spr(fs:List P):Prop where
 ok:∀p∈fs,p.1<=p.2
 gap:fs.Pairwise λp q=>p.2+2<=q.1
def lex(p q:P):Prop:=p.1 < q.1\/(p.1=q.1/\p.2<=q.2)
def stp(acc:List P)(p:P):List P:=match acc.getLast? with
 |some l=>if p.1<=l.2+1 then acc.dropLast++[(l.1,if p.2 > l.2 then p.2 else l.2)] else acc++[p]
 |none=>[p]
def qba(p:P):stp [] p=[p]:=rfl
def QT(a:List P)(l p:P):stp (a++[l]) p=if p.1<=l.2+1 then a++[(l.1,if p.2 > l.2 then p.2 else l.2)] else (a++[l])++[p]:=by unfold stp;rw[List.getLast?_append];simp
theorem qbb{α:Type}(l:List α):l=[]\/∃a x,l=a++[x]:=by
 cases l with
 |nil=>exact .inl rfl
 |cons a r=>exact .inr ⟨(a::r).dropLast,(a::r).getLast (5:),(List.dropLast_concat_getLast (5:)).symm⟩
def Jy{a b:List P}{d:Int}:Day (a++b) d↔Day a d\/Day b d:=by
 unfold Day;constructor
 ·rintro⟨p,hp,h⟩;rcases List.mem_append.mp hp with q|q
  ·exact .inl ⟨p,q,h⟩
  ·exact .inr ⟨p,q,h⟩
 ·rintro (⟨p,hp,h⟩|⟨p,hp,h⟩)
  ·exact{p,List.mem_append_left _ hp,h}
  ·exact{p,List.mem_append_right _ hp,h}
def QU{p:P}{d:Int}:Day [p] d↔p.1<=d/\d<=p.2:=by
 unfold Day;constructor
 ·rintro⟨q,hq,h⟩;rw[List.mem_singleton.mp hq]at h;exact h
 ·intro h;exact{p,List.mem_singleton.mpr rfl,h}
def qgC{a b:List P}(h:a.Perm b)(d:Int):Day a d↔Day b d:=by
 unfold Day;constructor
 ·rintro⟨p,hp,q⟩;exact{p,h.mem_iff.mp hp,q}
 ·rintro⟨p,hp,q⟩;exact{p,h.mem_iff.mpr hp,q}
structure Run(done acc:List P):Prop where
 spr:Spr acc
 day:∀d,Day acc d↔Day done d
 low:∀a l,acc=a++[l]->∃q∈done,q.1=l.1
 len:acc.length<=done.length
 emp:acc=[]->done=[]
def qjs:Run [] []:={{(λ_ h=>nomatch h),List.Pairwise.nil},λ_=>Iff.rfl,λa l e=>by simp at e,Nat.le_refl _,λ_=>rfl}
def qgD{done acc:List P}{p:P}(R:Run done acc)(hp:p.1<=p.2)(hs:∀q∈done,q.1<=p.1):Run (done++[p]) (stp acc p):=by
 rcases qbb acc with rfl|⟨a,l,rfl⟩
 ·have hd:=R.emp rfl;subst hd;rw[qba];refine{{λq hq=>by rw[List.mem_singleton.mp hq];exact hp,by simp},λd=>by simp,λa l e=>?_,by simp,λe=>by simp at e};refine{p,by simp,?_}
  have:a=[]/\p=l:=by
   cases a with
   |nil=>simpa using e
   |cons x r=>simp at e
  rw[this.2]
 ·rw[QT];let(q0,hq0,e0):=R.low a l rfl;have hl:l.1<=p.1:=by rw[<-e0];exact hs q0 hq0
  have hlo:=R.spr.ok l (5:);have hg:=List.pairwise_append.mp R.spr.gap
  by_cases hc:p.1<=l.2+1
  ·rw[if_pos hc];refine{{λq hq=>?_,?_},λd=>?_,λa' l' e=>?_,?_,λe=>by simp at e}
   ·rcases List.mem_append.mp hq with h|h
    ·exact R.spr.ok q (List.mem_append_left _ h)
    ·rw[List.mem_singleton.mp h];dsimp only
     split<;>lia
   ·refine List.pairwise_append.mpr ⟨hg.1,by simp,λx hx y hy=>?_⟩;rw[List.mem_singleton.mp hy];exact hg.2.2 x hx l (5:)
   ·rw[Jy,QU,Jy,QU,<-R.day d,Jy,QU];dsimp only;constructor
    ·rintro (h|h)
     ·exact .inl (.inl h)
     ·by_cases h2:d<=l.2
      ·exact .inl (.inr ⟨h.1,h2⟩)
      ·right
       have:=h.2
       split at this<;>lia
    ·rintro ((h|h)|h)
     ·exact .inl h
     ·right;refine{h.1,?_}
      split<;>lia
     ·right;refine{by lia,?_}
      split<;>lia
   ·have:l'.1=l.1:=by
     have:=(List.append_inj' e rfl).2
     simp at this;rw[<-this]
    exact{q0,List.mem_append_left _ hq0,by rw[this];exact e0}
   ·have:=R.len
    simp at this ⊢
    lia
  ·rw[if_neg hc];refine{{λq hq=>?_,?_},λd=>?_,λa' l' e=>?_,?_,λe=>by simp at e}
   ·rcases List.mem_append.mp hq with h|h
    ·exact R.spr.ok q h
    ·rw[List.mem_singleton.mp h];exact hp
   ·refine List.pairwise_append.mpr ⟨R.spr.gap,by simp,λx hx y hy=>?_⟩;rw[List.mem_singleton.mp hy];rcases List.mem_append.mp hx with h|h
    ·have:=hg.2.2 x h l (5:)
     lia
    ·rw[List.mem_singleton.mp h];lia
   ·rw[Jy (a:=a++[l]),Jy (a:=done),R.day d]
   ·have:=(List.append_inj' e rfl).2
    simp at this;exact{p,by simp,by rw[this]}
   ·have:=R.len
    simp at this ⊢
    lia
theorem qjt{qs:List P}(hs:qs.Pairwise lex)(hq:∀p∈qs,p.1<=p.2):∀n,n<=qs.length->Run (qs.take n) ((qs.take n).foldl stp []):=by
 intro n
 induction n with
 |zero=>intro _;simpa using qjs
 |succ n ih=>
  intro hn;have e:qs.take (n+1)=qs.take n++[qs[n]]:=by rw[List.take_succ_eq_append_getElem (1:)]
  rw[e,List.foldl_append];refine qgD (ih (1:)) (hq _ (List.getElem_mem _)) λq hq'=>?_;let(i,hi,rfl):=List.mem_take_iff_getElem.mp hq'
  have:=List.pairwise_iff_getElem.mp hs i n (1:) (1:) (1:)
  rcases this with h|h
  ·lia
  ·lia
def qhD(A:List P)(d:Int):Bool:=A.any λp=>decide (p.1<=d)&&decide (d<=p.2)
def Je{A:List P}{d:Int}:qhD A d=true↔Day A d:=by unfold qhD Day;simp[List.any_eq_true]
end Dy
namespace DG
open PySem L2 DE FA Dy
open CH SP RU BO
theorem qeA:∀ps:List (Int×Int),qhg (ps.map pD)=some ps
 |[]=>rfl
 | p::ps=>by rw[List.map_cons,qhg,qeA ps];rfl
def yy(p:Int×Int):pD p=.tup [.int p.1,.int p.2]:=rfl
def spr(ps:List (Int×Int)):List (Int×Int):=(y1 ps).foldl stp []
def qju(acc:List (Int×Int))(p:Int×Int):(stp acc p).length<=acc.length+1:=by
 rcases qbb acc with rfl|⟨a,l,rfl⟩
 ·simp[qba]
 ·rw[QT]
  split<;>simp
def qv{n:Nat}(h:n < 100000):n < sizeLine:=Nat.lt_trans h (3:)
def qx{n:Nat}(h:n < 100000):n<=sizeLine:=Nat.le_of_lt (qv h)
theorem Yy(cl:Cl)(v:Sl):∀(ps acc:List (Int×Int)) (s2 s3:Sl),acc.length+ps.length < 10000->∃s2' s3',yr cl 1000 (.many [2,3]) Ju (ps.map pD) [v,.own (acc.map pD),s2,s3]=.ok (.next [v,.own ((ps.foldl stp acc).map pD),s2',s3'])
 |[],acc,s2,s3,_=>⟨s2,s3,rfl⟩
 | p::ps,acc,s2,s3,hl=>by
  rw[List.length_cons]at hl
  have:=qju acc p
  let(s2',s3',ih):=Yy cl v ps (stp acc p) (.val (.int p.1)) (.val (.int p.2)) (1:);refine{s2',s3',?_};have hs:acc.length < sizeLine:=qv (1:);have two:0+1+1<=sizeLine:=(3:)
  rw[List.foldl_cons];rcases qbb acc with rfl|⟨a,l,rfl⟩
  ·rw[qba]at ih ⊢;simp![List.map_cons,List.map_nil,yy]at ih;simp?[j9,yy,List.isEmpty_nil,two,show(0:Nat) < sizeLine by decide+kernel,ih]
  ·rw[QT]at ih ⊢
   by_cases hc:p.1<=l.2+1
   ·rw[if_pos hc]at ih ⊢;simp![List.map_append,List.map_cons,List.map_nil,yy]at ih;simp?[j9,yy,List.map_append,hc,two,ih]
   ·rw[if_neg hc]at ih ⊢;simp![List.map_append,List.map_cons,List.map_nil,yy]at ih;have hs':(a.map pD++[D.tup [.int l.1,.int l.2]]).length < sizeLine:=(-hs:)
    simp?[j9,yy,List.map_append,hc,two,hs',ih]
def qeB{pg:Pg}[SP pg](k:Nat)(b:Bool)(ps:List (Int×Int))(hl:ps.length < 5):clK pg (k+1) "spread" [aL b (ps.map pD)]=.ok (.tmp ((spr ps).map pD)):=by
 have hl':(y1 ps).length < 10000:=by unfold y1;rw[List.length_mergeSort];lia
 rw[r_spread];let(s2,s3,e):=Yy (pg.kk k) (pS b (ps.map pD)) (y1 ps) [] .no .no (-hl':);rw[List.map_nil]at e;simp?![qb0,QC,qeA,hl,show(0:Nat)<=sizeLine by decide+kernel,e,spr]
def QV(p q:Int×Int):Zm p q=true↔lex p q:=by unfold Zm lex;simp
def QW(ps:List (Int×Int))(h:∀p∈ps,p.1<=p.2):Run (y1 ps) (spr ps):=by
 have hs:(y1 ps).Pairwise lex:=by
  have:=List.pairwise_mergeSort (le:=Zm) (λa b c h1 h2=>by rw[QV]at h1 h2 ⊢;unfold lex at *;lia) (λa b=>by simp![Bool.or_eq_true,QV];unfold lex;lia) ps
  exact this.imp λ{a b} h=>(QV a b).mp h
 have hq:∀p∈y1 ps,p.1<=p.2:=λp hp=>h p ((List.mergeSort_perm ps Zm).mem_iff.mp hp)
 have:=qjt hs hq (y1 ps).length (Nat.le_refl _)
 rwa[List.take_length]at this
def qjv{ps:List (Int×Int)}(h:∀p∈ps,p.1<=p.2)(d:Int):qhD (spr ps) d=qhD ps d:=by rw[Bool.eq_iff_iff,Je,Je,(QW ps h).day d];exact qgC (List.mergeSort_perm ps Zm) d
def qjw{ps:List (Int×Int)}(h:∀p∈ps,p.1<=p.2):Spr (spr ps):=(QW ps h).spr
def qjx{ps:List (Int×Int)}(h:∀p∈ps,p.1<=p.2):(spr ps).length<=ps.length:=by
 have:=(QW ps h).len
 unfold y1 at this
 rwa[List.length_mergeSort]at this
def _root_.FA.Kd.cls:Kd->Str
 |.wi=>"Within"
 |.si=>"Since"
 |.ro=>"InRow"
def _root_.FA.Kd.fld:Kd->Str
 |.wi=>"span"
 |.si=>"leave"
 |.ro=>"leave"
def _root_.FA.Kd.isW:Kd->Bool
 |.wi=>true
 |.si=>false
 |.ro=>false
def ruI(r:Ru):D:=.ins r.kd.cls ["lands","most",r.kd.fld] [.tup (r.lands.map lnD),.int r.most,.int r.days]
def qb2{xx:Xs}(r:Ru):qdh (pcs xx) (.val (ruI r)) "lands" = some (.tup (r.lands.map lnD)):=by let(kd,l,m,d):=r;cases kd<;>rfl
def qeC{xx:Xs}(r:Ru):qdh (pcs xx) (.val (ruI r)) "most" = some (.int r.most):=by let(kd,l,m,d):=r;cases kd<;>rfl
def qeD{xx:Xs}(r:Ru)(h:r.kd.isW=true):qdh (pcs xx) (.val (ruI r)) "span" = some (.int r.days):=by
 let(kd,l,m,d):=r
 cases kd<;>first|rfl|cases h
def qgE{xx:Xs}(r:Ru)(h:r.kd.isW=false):qdh (pcs xx) (.val (ruI r)) "leave" = some (.int r.days):=by
 let(kd,l,m,d):=r
 cases kd<;>first|rfl|cases h
def qak{xx:Xs}(r:Ru):mtD (pcs xx) (.val (ruI r)) "weight" = some ("Rule.weight" : Str):=by let(kd,l,m,d):=r;cases kd<;>rfl
def qal{xx:Xs}(r:Ru):qhf (pcs xx) (.val (ruI r)) "Within" = some r.kd.isW:=by let(kd,l,m,d):=r;cases kd<;>rfl
abbrev St:=Str×Int×Int
abbrev Pa:=Int×Int×Int
def paD(p:Pa):D:=.tup [.int p.1,.int p.2.1,.int p.2.2]
def jp(p:Pa):paD p=.tup [.int p.1,.int p.2.1,.int p.2.2]:=rfl
def bkI(rs:List Ru)(ps:List Pa):D:=.ins "Book" ["kept_rules","kept_papers"] [.lst (rs.map ruI),.lst (ps.map paD)]
def qgF{xx:Xs}(rs:List Ru)(ps:List Pa):qdh (pcs xx) (.val (bkI rs ps)) "kept_rules" = some (.lst (rs.map ruI)):=rfl
def qeE{xx:Xs}(rs:List Ru)(ps:List Pa):qdh (pcs xx) (.val (bkI rs ps)) "kept_papers" = some (.lst (ps.map paD)):=rfl
def qb3{xx:Xs}(rs:List Ru)(ps:List Pa):mtD (pcs xx) (.val (bkI rs ps)) "rules" = some ("Book.rules" : Str):=rfl
def qeF{xx:Xs}(rs:List Ru)(ps:List Pa):mtD (pcs xx) (.val (bkI rs ps)) "lifted" = some ("Book.lifted" : Str):=rfl
def zX:List St->Int->Option Str
 |[],_=>none
 | s::l,d=>if s.2.1<=d/\d<=s.2.2 then some s.1 else zX l d
def qjy:Option Str->D
 |some z=>.str z
 |none=>.non
def wt:List (Str×Int)->Option Str->Int
 |[],_=>0
 | p::l,o=>if o=some p.1 then p.2 else wt l o
def yu{z:Str}(h:NameOk z):PyData.strOk z=true:=by
 unfold PyData.strOk;rw[<-Array.all_toList,List.all_eq_true];intro c hc
 have:=h.lets c hc
 unfold yM at this;rw[decide_eq_true_eq]
 lia
theorem qjz{p:Str}(hp:NameOk p){o:Option Str}(ho:∀z,o=some z->NameOk z):eqD (.str p) (qjy o)=some (decide (o=some p)):=by
 cases o with
 |none=>show eqD (.str p) .non=_;rw[qmy (yu hp)];simp
 |some z=>
  show eqD (.str p) (.str z)=_;rw[qjh (yu hp) (yu (ho z rfl))]
  congr 1
  rw[Bool.eq_iff_iff,beq_iff_eq,decide_eq_true_eq];constructor
  ·rintro rfl;rfl
  ·intro e;cases e;rfl
theorem Yz(cl:Cl)(v:Sl)(o:Option Str)(ho:∀z,o=some z->NameOk z):∀(l:List (Str×Int)) (s2 s3:Sl),(∀p∈l,LnOk p)->∃F,yr cl 1000 (.many [2,3]) zG (l.map lnD) [v,.val (qjy o),s2,s3]=.ok F/\(F=.ret (.val (.int (wt l o)))\/(wt l o=0/\∃N',F=.next N'))
 |[],s2,s3,_=>{_,rfl,.inr {rfl,_,rfl}}
 | p::l,s2,s3,h=>by
  let(F,i,a):=Yz cl v o ho l (.val (.str p.1)) (.val (.int p.2)) λq hq=>h q (by simp[hq]);have e:=qjz (h p (5:)).nm ho;unfold wt
  by_cases hc:o=some p.1
  ·rw[if_pos hc];rw[decide_eq_true hc]at e;refine{_,?_,.inl rfl};rw[List.map_cons];simp?[jf,qai,e]
  ·rw[if_neg hc];rw[decide_eq_false hc]at e;refine{F,?_,a};rw[List.map_cons];simp?[jf,qai,e,i]
def qeG{pg:Pg}[RU pg](k:Nat)(r:Ru)(h:∀p∈r.lands,LnOk p)(o:Option Str)(ho:∀z,o=some z->NameOk z):clK pg (k+1) "Rule.weight" [.val (ruI r),.val (qjy o)]=.ok (.val (.int (wt r.lands o))):=by
 rw[r_Rule_weight];let(F,i,a):=Yz (pg.kk k) (.val (ruI r)) o ho r.lands .no .no h;rcases a with rfl|⟨i0,N',rfl⟩
 ·simp?![jC,RU.cs,qb2,i]
 ·simp?![jC,RU.cs,qb2,i,i0]
def qb4{pg:Pg}[RU pg][BO pg](k:Nat)(rs:List Ru)(ps:List Pa):clK pg (k+1) "Book.rules" [.val (bkI rs ps)]=.ok (.tmp (rs.map ruI)):=by rw[r_Book_rules];simp?![JL,RU.cs,qgF]
def ofN(n:Int)(ps:List Pa):List (Int×Int):=(ps.filter λp=>p.1 == n).map λp=>(p.2.1,p.2.2)
def QX(n:Int)(ps:List Pa):List (Int×Int):=spr (ofN n ps)
theorem yN(cl:Cl)(n:Int):∀(ps:List Pa) (acc:List (Int×Int)) (s0 s1 s2:Sl),acc.length+ps.length < 10000->zA cl zH (.many [0,1,2]) (.test (.cmp .Eq (.var 0) (.var 3))) (ps.map paD) [s0,s1,s2,.val (.int n)] (acc.map pD)=.ok ((acc++ofN n ps).map pD)
 |[],acc,s0,s1,s2,_=>by simp[ofN,qG]
 | p::ps,acc,s0,s1,s2,hl=>by
  rw[List.length_cons]at hl;have two:0+1+1<=sizeLine:=(3:)
  have hs:(acc.map pD).length < sizeLine:=by rw[List.length_map];exact qv (1:)
  cases hc:(p.1 == n) with
  |true=>
   have ih:=yN cl n ps (acc++[(p.2.1,p.2.2)]) (.val (.int p.1)) (.val (.int p.2.1)) (.val (.int p.2.2)) (by simp;lia);have e:ofN n (p::ps)=(p.2.1,p.2.2)::ofN n ps:=by simp[ofN,hc]
   rw[e];simp![List.map_append,List.map_cons,List.map_nil,yy,List.append_assoc,List.cons_append,List.nil_append]at ih ⊢;simp?[jh,jp,qP,hc,two,hs,ih]
  |false=>
   have ih:=yN cl n ps acc (.val (.int p.1)) (.val (.int p.2.1)) (.val (.int p.2.2)) (1:);have e:ofN n (p::ps)=ofN n ps:=by simp[ofN,hc]
   rw[e];rw[List.map_cons];simp?[jh,jp,qP,hc,two,hs,ih]
def qeH(n:Int)(ps:List Pa):(ofN n ps).length<=ps.length:=by unfold ofN;rw[List.length_map];exact List.length_filter_le ..
def qeI{pg:Pg}[RU pg][BO pg][SP pg](k:Nat)(rs:List Ru)(ps:List Pa)(n:Int)(hl:ps.length < 5):clK pg (k+2) "Book.lifted" [.val (bkI rs ps),.val (.int n)]=.ok (.tmp ((QX n ps).map pD)):=by
 have i:=yN (pg.kk (k+1)) n ps [] .no .no .no (by simp;lia);have s:=qeB (pg:=pg) k false (ofN n ps) (Nat.lt_of_le_of_lt (qeH n ps) hl);have hs:(ps.map paD).length<=sizeLine:=by rw[List.length_map];exact qx (1:)
 simp![qbX,qbY]at s;rw[List.map_nil,List.nil_append]at i;rw[r_Book_lifted];simp?![y4,RU.cs,qeE,JT,List.getD_cons_succ,List.getD_cons_zero,hs,i,s,QX]
def wgt(r:Ru)(lf:List (Int×Int))(st:List St)(d:Int):Int:=if qhD lf d=true then 0 else wt r.lands (zX st d)
def ws(f:Int->Int)(lo:Int):Nat->List Int
 |0=>[]
 | n+1=>f lo::ws f (lo+1) n
theorem qbc:∀(n:Nat) (lo:Int),(rgF lo n).length=n
 |0,_=>rfl
 | n+1,lo=>by rw[rgF,List.length_cons,qbc n]
def zK{i:Int}(h1:-1000000000000<=i)(h2:i<=1000000000000):qN i=true:=by
 unfold qN;simp
 lia
section
variable{pg:Pg}[RU pg]
def Qi(f:Int->Int)(leave:Int):Nat->Int->Int->Int->Int->Int×Int
 |0,fi,to,_,_=>(fi,to)
 | n+1,fi,to,em,ba=>if em < leave then (if f ba=0 then Qi f leave n fi to (em+1) (ba - 1) else Qi f leave n ba (to+f ba) 0 (ba - 1)) else (fi,to)
end
def win(r:Ru)(f:Int->Int)(d:Int):Int×Int:=if r.kd.isW=true then (d - r.days+1,(ws f (d - r.days+1) r.days.toNat).sum) else Qi f r.days 1000 (d+1) 0 0 d
def qjA{rs:List Ru}{n:Nat}{r:Ru}(h:rs[n]?=some r):atI (rs.map ruI) (n:Int)=some (ruI r):=qj9 (by rw[List.getElem?_map,h];rfl)
abbrev Rl:=Ru×List (Int×Int)
def qhE(st:List St)(d:Int):Nat->List Rl->Option (Int×Int×Int)
 |_,[]=>none
 | i,x::l=>if x.1.most < (win x.1 (wgt x.1 x.2 st) d).2 then some (d,(i:Int),(win x.1 (wgt x.1 x.2 st) d).1) else qhE st d (i+1) l
def flt(st:List St)(rs:List Rl)(lo:Int):Nat->Option (Int×Int×Int)
 |0=>none
 | n+1=>match qhE st lo 0 rs with
  |some x=>some x
  |none=>flt st rs (lo+1) n
def f3D(x:Int×Int×Int):D:=.tup [.int x.1,.int x.2.1,.int x.2.2]
def qdm:Option (Int×Int×Int)->D
 |none=>.non
 |some x=>f3D x
def rlF(ps:List Pa):Nat->List Ru->List Rl
 |_,[]=>[]
 | i,r::l=>(r,QX i ps)::rlF ps (i+1) l
theorem qhF(ps:List Pa):∀(i:Nat) (rs:List Ru),(rlF ps i rs).map (λx=>ruI x.1)=rs.map ruI
 |_,[]=>rfl
 | i,r::l=>by rw[rlF,List.map_cons,List.map_cons,qhF ps (i+1) l]
theorem qbd(ps:List Pa):∀(i:Nat) (rs:List Ru) (j:Nat),(rlF ps i rs)[j]?=(rs[j]?).map λr=>(r,QX ((i+j:Nat):Int) ps)
 |_,[],j=>by simp[rlF]
 | i,r::l,0=>by simp[rlF]
 | i,r::l,j+1=>by rw[rlF,List.getElem?_cons_succ,qbd ps (i+1) l j,List.getElem?_cons_succ,show i+1+j=i+(j+1) by lia]
def qjB{ps:List Pa}{i:Nat}{rs:List Ru}{x:Rl}(h:x∈rlF ps i rs):∃j:Nat,rs[j]?=some x.1/\x.2=QX ((i+j:Nat):Int) ps:=by let(j,hj):=List.getElem?_of_mem h;rw[qbd]at hj;let(r,e1,e2):=Option.map_eq_some_iff.mp hj;exact{j,by rw[e1,<-e2],by rw[<-e2]}
end DG
namespace FA
open PySem DE DG Dy
open L2 hiding St
open RU
def QY{k:Nat}:¬ (k+12 < 12):=by lia
end FA
namespace DG
open PySem DE FA Dy
open L2 hiding St
theorem qbe:∀l:List (Str×Int),wt l none=0
 |[]=>rfl
 | p::l=>by unfold wt;rw[if_neg (5:)];exact qbe l
theorem qmF{l:List (Str×Int)}(h:∀p∈l,LnOk p)(o:Option Str):0<=wt l o:=by
 induction l with
 |nil=>exact Int.le_refl _
 |cons p l ih=>
  unfold wt;split
  ·have:=(h p (5:)).one;lia
  ·exact ih λq hq=>h q (by simp[hq])
def qmG{r:Ru}(h:∀p∈r.lands,LnOk p)(lf:List (Int×Int))(st:List St)(d:Int):0<=wgt r lf st d:=by
 unfold wgt;split
 ·exact Int.le_refl _
 ·exact qmF h _
def qbf{r:Ru}{lf:List (Int×Int)}{st:List St}{d:Int}(h:zX st d=none):wgt r lf st d=0:=by unfold wgt;rw[h,qbe];simp
def qgG{r:Ru}{lf:List (Int×Int)}{st st':List St}{d:Int}(h:zX st d=zX st' d):wgt r lf st d=wgt r lf st' d:=by unfold wgt;rw[h]
theorem qeJ{f g:Int->Int}:∀(n:Nat) (lo:Int),(∀x,lo<=x->x < lo+n->f x=g x)->ws f lo n=ws g lo n
 |0,_,_=>rfl
 | n+1,lo,h=>by rw[ws,ws,h lo (1:) (1:),qeJ n (lo+1) λx h1 h2=>h x (1:) (1:)]
theorem qbg{f:Int->Int}:∀(n:Nat) (lo:Int),(ws f lo (n+1)).sum=(ws f lo n).sum+f (lo+n)
 |0,lo=>by simp[ws]
 | n+1,lo=>by
  rw[ws,List.sum_cons,qbg n (lo+1),ws,List.sum_cons,show lo+1+(n:Int)=lo+((n+1:Nat):Int) by lia]
  lia
theorem qmH{f:Int->Int}(hf:∀x,0<=f x):∀(n:Nat) (lo:Int),0<=(ws f lo n).sum
 |0,_=>by simp[ws]
 | n+1,lo=>by
  rw[ws,List.sum_cons]
  have:=hf lo
  have:=qmH hf n (lo+1)
  lia
theorem QZ{f:Int->Int}:∀(n:Nat) (lo:Int),(∀x,lo<=x->x < lo+n->f x=0)->(ws f lo n).sum=0
 |0,_,_=>by simp[ws]
 | n+1,lo,h=>by rw[ws,List.sum_cons,h lo (1:) (1:),QZ n (lo+1) λx h1 h2=>h x (1:) (1:)];rfl
theorem Jz{f g:Int->Int}{leave:Int}:∀(n:Nat) (fi to em ba:Int),(∀x,x<=ba->f x=g x)->Qi f leave n fi to em ba=Qi g leave n fi to em ba
 |0,_,_,_,_,_=>rfl
 | n+1,fi,to,em,ba,h=>by unfold Qi;rw[h ba (Int.le_refl _),Jz n fi to (em+1) (ba - 1) λx hx=>h x (1:),Jz n ba (to+g ba) 0 (ba - 1) λx hx=>h x (1:)]
section
variable{r:Ru}{f g:Int->Int}{d:Int}
def qgH(hd:1<=r.days)(h:∀x,x<=d->f x=g x):win r f d=win r g d:=by unfold win;rw[qeJ r.days.toNat (d - r.days+1) λx _ h2=>h x (1:),Jz 1000 (d+1) 0 0 d h]
end
def qgI(r:Ru):qaa (ruI r)=true:=by let(kd,l,m,d):=r;cases kd<;>rfl
def qjC{pg:Pg}[RU pg](k:Nat)(b c:Bool)(rs:List Ru)(ps:List Pa)(hr:rs.length<=8)(hp:ps.length<=12)(h:∀p∈ps,0<=p.1/\p.1 < rs.length/\0<=p.2.1/\p.2.1<=p.2.2/\p.2.2<=1000000000) :
  pg.nw (k+12) "Book" [aL b (rs.map ruI),aL c (ps.map paD)]=.ok (.val (bkI rs ps)):=by
 have e:∀(b:Bool) (l:List D),arL (aL b l)=some l:=λb l=>by cases b<;>rfl
 have h1:((decide ((rs.map ruI).length<=8)&&(rs.map ruI).all qaa)&&(decide ((ps.map paD).length<=12)&&(ps.map paD).all (yA (rs.map ruI).length)))=true:=by
  simp![List.length_map,Bool.and_eq_true,decide_eq_true_eq,List.all_eq_true,List.mem_map];refine{{hr,λx ⟨r,_,hx⟩=>by rw[<-hx];exact qgI r},hp,λx ⟨p,hm,hx⟩=>?_};let(q1,q2,q3,q4,q5):=h p hm;rw[<-hx];show(btw p.1 0 ((rs.length:Int) - 1)&&btw p.2.1 0 1000000000&&btw p.2.2 0 1000000000&&decide (p.2.1<=p.2.2))=true;unfold btw;simp![Bool.and_eq_true,decide_eq_true_eq]
  lia
 rw[RU.nw]
 show(if k+12 < 12 then R.no else qcX "Book" (match arL (aL b (rs.map ruI)),arL (aL c (ps.map paD)) with
  |some l,some ps=>if ((decide (l.length<=8)&&l.all qaa)&&(decide (ps.length<=12)&&ps.all (yA l.length)))=true then some [("kept_rules",D.lst l),("kept_papers",D.lst ps)] else none
  |_,_=>none))=_
 rw[if_neg (1:),e,e];dsimp only;rw[if_pos h1];rfl
open CH SP RU BO BT PC SU FK FM
abbrev Pr:=Int×Int
def mx(a b:Int):Int:=if b > a then b else a
def mn(a b:Int):Int:=if b < a then b else a
def mxF(a b:Int):(if b > a then b else a)=mx a b:=(rfl)
def mnF(a b:Int):(if b < a then b else a)=mn a b:=(rfl)
def qgJ(a b:Int):(a<=b->mx a b=b)/\(b<=a->mx a b=a):=by unfold mx;split<;>lia
def qam(a b:Int):(a<=b->mn a b=a)/\(b<=a->mn a b=b):=by unfold mn;split<;>lia
def jq:Nat->List Pr->List Pr->List Pr
 |0,_,_=>[]
 | _+1,[],_=>[]
 | _+1,_,[]=>[]
 | n+1,p::a,q::b=>(if mx p.1 q.1<=mn p.2 q.2 then [(mx p.1 q.1,mn p.2 q.2)] else [])++(if p.2 < q.2 then jq n a (q::b) else jq n (p::a) b)
def qeK(l:List Pr)(i:Nat)(p:Pr)(h:l[i]?=some p):atI (l.map pD) (i:Int)=some (.tup [.int p.1,.int p.2]):=qj9 (by rw[List.getElem?_map,h];rfl)
theorem YA(cl:Cl)(A B:List Pr):∀(n i j:Nat) (acc:List Pr) (s5 s6:Sl),(A.length - i)+(B.length - j) < n->acc.length+n < 10000->
  ∃N',whD cl 1000 QQ QR n [.val (.lst (A.map pD)),.val (.lst (B.map pD)),.own (acc.map pD),.val (.int (i:Int)),.val (.int (j:Int)),s5,s6]=.ok (.next (.val (.lst (A.map pD))::.val (.lst (B.map pD))::.own ((acc++jq n (A.drop i) (B.drop j)).map pD)::N'))
 |0,i,j,acc,s5,s6,h,_=>by lia
 | n+1,i,j,acc,s5,s6,h,hl=>by
  have two:0+1+1<=sizeLine:=(3:)
  have hs:(acc.map pD).length < sizeLine:=by rw[List.length_map];exact qv (1:)
  by_cases hi:i < A.length
  ·by_cases hj:j < B.length
   ·let(p,hp):∃p,A[i]?=some p:={A[i],List.getElem?_eq_getElem hi};let(q,hq):∃q,B[j]?=some q:={B[j],List.getElem?_eq_getElem hj};have ap:=qeK A i p hp;have aq:=qeK B j q hq;have c1:(i:Int) < ((A.map pD).length:Int):=by rw[List.length_map];lia
    have c2:(j:Int) < ((B.map pD).length:Int):=by rw[List.length_map];lia
    have dA:A.drop i=p::A.drop (i+1):=by rw[List.drop_eq_getElem_cons hi];congr 1;rw[List.getElem?_eq_getElem hi]at hp;exact Option.some.inj hp
    have dB:B.drop j=q::B.drop (j+1):=by rw[List.drop_eq_getElem_cons hj];congr 1;rw[List.getElem?_eq_getElem hj]at hq;exact Option.some.inj hq
    have X:∀{M:Type} (K:Fl->R M) (a b c d:Sl),(iS cl 1000 (.ite (.cmp .LtE (.var 5) (.var 6)) %[.app 2 (.tup %[5,6|0])|0] .nil) [a,b,.own (acc.map pD),c,d,.val (.int (mx p.1 q.1)),.val (.int (mn p.2 q.2))]).th K=K (.next [a,b,.own ((acc++if mx p.1 q.1<=mn p.2 q.2 then [(mx p.1 q.1,mn p.2 q.2)] else []).map pD),c,d,.val (.int (mx p.1 q.1)),.val (.int (mn p.2 q.2))]):=by
     intro M K a b c d
     by_cases hc:mx p.1 q.1<=mn p.2 q.2
     ·rw[if_pos hc,List.map_append];simp?![hc,two,hs,yy]
     ·rw[if_neg hc,List.append_nil];simp?![hc]
    have hl':(acc++if mx p.1 q.1<=mn p.2 q.2 then [(mx p.1 q.1,mn p.2 q.2)] else []).length<=acc.length+1:=by
     rw[List.length_append]
     split<;>simp
    rw[dA,dB,jq,<-List.append_assoc];generalize acc++(if mx p.1 q.1<=mn p.2 q.2 then [(mx p.1 q.1,mn p.2 q.2)] else [])=acc' at *
    by_cases hd:p.2 < q.2
    ·let(N',e):=YA cl A B n (i+1) j acc' (.val (.int (mx p.1 q.1))) (.val (.int (mn p.2 q.2))) (1:) (1:);refine{N',?_};rw[dB]at e;rw[if_pos hd];simp![show((i+1:Nat):Int)=(i:Int)+1 by lia]at e;simp?[↓X,yt,Qf,c1,c2,ap,aq,mxF,mnF,hd,e]
    ·let(N',e):=YA cl A B n i (j+1) acc' (.val (.int (mx p.1 q.1))) (.val (.int (mn p.2 q.2))) (1:) (1:);refine{N',?_};rw[dA]at e;rw[if_neg hd];simp![show((j+1:Nat):Int)=(j:Int)+1 by lia]at e;simp?[↓X,yt,Qf,c1,c2,ap,aq,mxF,mnF,hd,e]
   ·have c1:(i:Int) < ((A.map pD).length:Int):=by rw[List.length_map];lia
    have c2:¬ (j:Int) < ((B.map pD).length:Int):=by rw[List.length_map];lia
    have e:jq (n+1) (A.drop i) (B.drop j)=[]:=by
     rw[show B.drop j=[] from List.drop_eq_nil_of_le (1:)]
     cases A.drop i<;>rfl
    rw[e,List.append_nil];refine{[.val (.int (i:Int)),.val (.int (j:Int)),s5,s6],?_};simp?[yt,c1,c2]
  ·have c1:¬ (i:Int) < ((A.map pD).length:Int):=by rw[List.length_map];lia
   have e:jq (n+1) (A.drop i) (B.drop j)=[]:=by rw[show A.drop i=[] from List.drop_eq_nil_of_le (1:)];rfl
   rw[e,List.append_nil];refine{[.val (.int (i:Int)),.val (.int (j:Int)),s5,s6],?_};simp?[yt,c1]
def qjD{pg:Pg}[BT pg](k:Nat)(A B:List Pr)(hl:A.length+B.length < 999):clK pg (k+1) "both" [.val (.lst (A.map pD)),.val (.lst (B.map pD))]=.ok (.tmp ((jq 1000 A B).map pD)):=by let(N',e):=YA (pg.kk k) A B 1000 0 0 [] .no .no (1:) (5:);rw[List.map_nil,List.nil_append,List.drop_zero,List.drop_zero,show((0:Nat):Int)=0 from rfl]at e;rw[r_both];simp?![qhB,show(0:Nat)<=sizeLine by decide+kernel,e]
def JW:Int->List Pr->List Pr×Int
 |b,[]=>([],b)
 | b,t::l=>((if b < t.1 then [(b,t.1 - 1)] else [])++(JW (mx b (t.2+1)) l).1,(JW (mx b (t.2+1)) l).2)
def qR(l:List Pr)(first last:Int):List Pr:=(JW first l).1++(if (JW first l).2<=last then [((JW first l).2,last)] else [])
theorem yv(cl:Cl)(v0 v1 v2:Sl):∀(l:List Pr) (b:Int) (acc:List Pr) (s5:Sl),acc.length+l.length < 10000->∃s5',yr cl 1000 (.one 5) yL (l.map pD) [v0,v1,v2,.own (acc.map pD),.val (.int b),s5]=.ok (.next [v0,v1,v2,.own ((acc++(JW b l).1).map pD),.val (.int (JW b l).2),s5'])
 |[],b,acc,s5,_=>{s5,by simp[JW,zB]}
 | t::l,b,acc,s5,hl=>by
  rw[List.length_cons]at hl;have two:0+1+1<=sizeLine:=(3:)
  have hs:(acc.map pD).length < sizeLine:=by rw[List.length_map];exact qv (1:)
  rw[JW]
  by_cases hc:b < t.1
  ·let(s5',ih):=yv cl v0 v1 v2 l (mx b (t.2+1)) (acc++[(b,t.1 - 1)]) (.val (pD t)) (by simp;lia);refine{s5',?_};rw[if_pos hc];simp![List.map_append,List.map_cons,List.map_nil,yy,List.append_assoc,List.cons_append,List.nil_append]at ih ⊢;simp?[y6,hc,two,hs,mxF,ih]
  ·let(s5',ih):=yv cl v0 v1 v2 l (mx b (t.2+1)) acc (.val (pD t)) (1:);refine{s5',?_};rw[if_neg hc,List.nil_append];simp![yy]at ih;rw[List.map_cons];simp?[y6,yy,hc,mxF,ih]
def qcZ{pg:Pg}[BT pg](k:Nat)(b:Bool)(l:List Pr)(hl:l.length < 5000)(first last:Int):clK pg (k+1) "outside" [aL b (l.map pD),.val (.int first),.val (.int last)]=.ok (.tmp ((qR l first last).map pD)):=by
 have two:0+1+1<=sizeLine:=(3:)
 have len:∀(l:List Pr) (b:Int),(JW b l).1.length<=l.length:=by
  intro l
  induction l with
  |nil=>intro b;simp[JW]
  |cons t l ih=>
   intro b;rw[JW]
   have:=ih (mx b (t.2+1))
   dsimp only;rw[List.length_append,List.length_cons]
   split<;>simp<;>lia
 have hs:((JW first l).1.map pD).length < sizeLine:=by rw[List.length_map];have:=len l first;exact qv (1:)
 rw[r_outside];unfold qR;let(s5,e):=yv (pg.kk k) (pS b (l.map pD)) (.val (.int first)) (.val (.int last)) l first [] .no (by simp;lia);rw[List.map_nil,List.nil_append]at e
 by_cases hc:(JW first l).2<=last
 ·rw[if_pos hc,List.map_append,List.map_cons,List.map_nil];simp?![Yr,show(0:Nat)<=sizeLine by decide+kernel,e,hc,two,hs,yy]
 ·rw[if_neg hc,List.append_nil];simp?![Yr,show(0:Nat)<=sizeLine by decide+kernel,e,hc]
def Jf(p:Pr)(l:List Pr):List Pr:=jq 1000 [p] (qR l p.1 p.2)
def yP(l:List Pr)(f t:Int):(qR l f t).length<=l.length+1:=by
 have len:∀(l:List Pr) (b:Int),(JW b l).1.length<=l.length:=by
  intro l
  induction l with
  |nil=>intro b;simp[JW]
  |cons t l ih=>
   intro b;rw[JW]
   have:=ih (mx b (t.2+1))
   dsimp only;rw[List.length_append,List.length_cons]
   split<;>simp<;>lia
 unfold qR;rw[List.length_append]
 have:=len l f
 split<;>simp<;>lia
def qjE{pg:Pg}[BT pg](k:Nat)(b:Bool)(p:Pr)(l:List Pr)(hl:l.length < 900):clK pg (k+2) "less" [.val (.lst [.tup [.int p.1,.int p.2]]),aL b (l.map pD)]=.ok (.tmp ((Jf p l).map pD)):=by
 have o:=qcZ (pg:=pg) k b l (1:) p.1 p.2;have t:=qjD (pg:=pg) k [p] (qR l p.1 p.2) (by have:=yP l p.1 p.2;simp;lia);simp![qbX,qbY,List.map_cons,List.map_nil,yy]at t;have g:atI [D.tup [.int p.1,.int p.2]] (-1)=some (.tup [.int p.1,.int p.2]):=g_last [] _;rw[r_less]
 try simp![qbX,qbY]at o ⊢
 simp?![qhC,List.isEmpty_cons,g,o,t,Jf]
theorem YB:∀(n:Nat) (A B:List Pr),(jq n A B).length<=A.length+B.length
 |0,_,_=>by simp[jq]
 | n+1,[],B=>by simp[jq]
 | n+1,p::A,[]=>by simp[jq]
 | n+1,p::A,q::B=>by
  have h1:=YB n A (q::B);have h2:=YB n (p::A) B;simp![List.length_cons]at h1 h2;rw[jq,List.length_append,List.length_cons,List.length_cons]
  split<;>split<;>simp<;>lia
def YC(p:Pr)(l:List Pr):(Jf p l).length<=l.length+2:=by
 have h1:=YB 1000 [p] (qR l p.1 p.2);have h2:=yP l p.1 p.2;unfold Jf;simp at h1
 lia
def Q0(w:Int)(p:Pr):Pa:=(p.1,p.2,w)
def qQ(r:Ru)(lf:List Pr)(s:St):List Pa:=if 0 < wt r.lands (some s.1) then (Jf (s.2.1,s.2.2) lf).map (Q0 (wt r.lands (some s.1))) else []
def qJ(r:Ru)(lf:List Pr):List St->List Pa
 |[]=>[]
 | s::l=>qQ r lf s++qJ r lf l
theorem qmI(cl:Cl)(w:Int):∀(l:List Pr) (acc:List Pa) (s0 s1:Sl),acc.length+l.length < 10000->zA cl zn (.many [0,1]) .yes (l.map pD) [s0,s1,.val (.int w)] (acc.map paD)=.ok ((acc++l.map (Q0 w)).map paD)
 |[],acc,s0,s1,_=>by simp[qG]
 | p::l,acc,s0,s1,hl=>by
  rw[List.length_cons]at hl;have ih:=qmI cl w l (acc++[Q0 w p]) (.val (.int p.1)) (.val (.int p.2)) (by simp;lia);have three:0+1+1+1<=sizeLine:=(3:)
  have hs:(acc.map paD).length < sizeLine:=by rw[List.length_map];exact qv (1:)
  simp![List.map_append,List.map_cons,List.map_nil,List.append_assoc,List.cons_append,List.nil_append,jp,Q0]at ih ⊢;simp?[y7,yy,three,hs,ih]
def YD(r:Ru)(lf:List Pr)(s:St):(qQ r lf s).length<=lf.length+2:=by
 unfold qQ;split
 ·rw[List.length_map];exact YC _ _
 ·simp
theorem YE(r:Ru)(lf:List Pr):∀st:List St,(qJ r lf st).length<=st.length * (lf.length+2)
 |[]=>by simp[qJ]
 | s::l=>by
  rw[qJ,List.length_append,List.length_cons,Nat.succ_mul]
  have:=YD r lf s
  have:=YE r lf l
  lia
section
variable{pg:Pg}[RU pg][BT pg]
theorem yQ(k:Nat)(v0 v1 v2:Sl)(r:Ru)(hr:∀p∈r.lands,LnOk p)(lf:List Pr)(hf:lf.length<=20):∀(st:List St) (acc:List Pa) (s6 s7 s8 s9:Sl),(∀s∈st,NameOk s.1)->acc.length+st.length * 22 < 9000->
  ∃N',yr (pg.kk (k+2)) 1000 (.many [6,7,8]) zo (st.map stD) [v0,v1,v2,.val (ruI r),.own (lf.map pD),.own (acc.map paD),s6,s7,s8,s9]=.ok (.next (v0::v1::v2::.val (ruI r)::.own (lf.map pD)::.own ((acc++qJ r lf st).map paD)::N'))
 |[],acc,s6,s7,s8,s9,_,_=>{[s6,s7,s8,s9],by simp[qJ,zB]}
 | s::st,acc,s6,s7,s8,s9,hn,hl=>by
  rw[List.length_cons,Nat.succ_mul]at hl;have w:clK pg (k+2) "Rule.weight" [.val (ruI r),.val (.str s.1)]=.ok (.val (.int (wt r.lands (some s.1)))):=qeG (pg:=pg) (k+1) r hr (some s.1) (λz hz=>by cases hz;exact hn s (5:));have l1:=YD r lf s;have two:0+1+1<=sizeLine:=(3:)
  have one:0+1<=sizeLine:=(3:)
  by_cases hc:0 < wt r.lands (some s.1)
  ·have e1:qQ r lf s=(Jf (s.2.1,s.2.2) lf).map (Q0 (wt r.lands (some s.1))):=by unfold qQ;rw[if_pos hc]
   let(N',ih):=yQ k v0 v1 v2 r hr lf hf st (acc++qQ r lf s) (.val (.str s.1)) (.val (.int s.2.1)) (.val (.int s.2.2)) (.val (.int (wt r.lands (some s.1)))) (λx hx=>hn x (by simp[hx])) (by rw[List.length_append];lia);refine{N',?_};have le:clK pg (k+2) "less" [.val (.lst [.tup [.int s.2.1,.int s.2.2]]),.bor (lf.map pD)]=.ok (.tmp ((Jf (s.2.1,s.2.2) lf).map pD)):=qjE (pg:=pg) k true (s.2.1,s.2.2) lf (1:);have c:=qmI (pg.kk (k+2)) (wt r.lands (some s.1)) (Jf (s.2.1,s.2.2) lf) [] .no .no (by have:=YC (s.2.1,s.2.2) lf;simp;lia);rw[List.map_nil,List.nil_append,<-e1]at c;have z1:((Jf (s.2.1,s.2.2) lf).map pD).length<=sizeLine:=by rw[List.length_map];have:=YC (s.2.1,s.2.2) lf;exact qx (1:)
   have z2:(acc.map paD).length+((qQ r lf s).map paD).length<=sizeLine:=by rw[List.length_map,List.length_map];exact qx (1:)
   rw[qJ,<-List.append_assoc];rw[List.map_append (l₁:=acc)]at ih;rw[List.map_cons];simp?[zU,qey,RU.cs,qak,w,hc,one,two,le,z1,JT,List.getD_cons_succ,List.getD_cons_zero,c,z2,ih]
  ·have e1:qQ r lf s=[]:=by unfold qQ;rw[if_neg hc]
   let(N',ih):=yQ k v0 v1 v2 r hr lf hf st acc (.val (.str s.1)) (.val (.int s.2.1)) (.val (.int s.2.2)) (.val (.int (wt r.lands (some s.1)))) (λx hx=>hn x (by simp[hx])) (1:);refine{N',?_};rw[qJ,e1,List.nil_append];rw[List.map_cons];simp?[zU,qey,RU.cs,qak,w,hc,ih]
end
section
variable{pg:Pg}[RU pg][BO pg][SP pg][BT pg][PC pg]
def qeL(k:Nat)(b:Bool)(rs:List Ru)(ps:List Pa)(hp:ps.length<=4)(n:Nat)(r:Ru)(hn:rs[n]?=some r)(hr:∀p∈r.lands,LnOk p)(hlf:(QX n ps).length<=20)(st:List St)(hs:∀s∈st,NameOk s.1)(hl:st.length<=170) :
  clK pg (k+3) "pieces_among" [.val (bkI rs ps),.val (.int (n:Int)),aL b (st.map stD)]=.ok (.tmp ((qJ r (QX n ps) st).map paD)):=by
 have a:=qb4 (pg:=pg) (k+1) rs ps;have l:=qeI (pg:=pg) k rs ps (n:Int) (1:);have e:=qjA hn;rw[r_pieces_among];let(N',i):=yQ (pg:=pg) k (.val (bkI rs ps)) (.val (.int (n:Int))) (pS b (st.map stD)) r hr (QX n ps) hlf st [] .no .no .no .no hs (by simp;lia);rw[List.map_nil,List.nil_append]at i;simp?![yE,RU.cs,qb3,qeF,a,l,e,show(0:Nat)<=sizeLine by decide+kernel,i]
end
def qhG(f t:Int):List Pa->Int->Int
 |[],a=>a
 | p::l,a=>qhG f t l (if 0 < mn p.2.1 t - mx p.1 f+1 then a+(mn p.2.1 t - mx p.1 f+1) * p.2.2 else a)
def WOk(l:List Pa):Prop:=∀p∈l,1<=p.2.2/\p.2.2<=9
theorem Q1(cl:Cl)(v0:Sl)(f t:Int):∀(l:List Pa) (a:Int) (s4 s5 s6 s7:Sl),WOk l->∃N',yr cl 1000 (.many [4,5,6]) Jv (l.map paD) [v0,.val (.int f),.val (.int t),.val (.int a),s4,s5,s6,s7]=.ok (.next (v0::.val (.int f)::.val (.int t)::.val (.int (qhG f t l a))::N'))
 |[],a,s4,s5,s6,s7,_=>{[s4,s5,s6,s7],rfl}
 | p::l,a,s4,s5,s6,s7,h=>by
  have hw:=h p (5:);have mul:qd7 (mn p.2.1 t - mx p.1 f+1) p.2.2=true:=qah (1:) (1:);rw[qhG]
  by_cases hc:0 < mn p.2.1 t - mx p.1 f+1
  ·let(N',ih):=Q1 cl v0 f t l (a+(mn p.2.1 t - mx p.1 f+1) * p.2.2) (.val (.int p.1)) (.val (.int p.2.1)) (.val (.int p.2.2)) (.val (.int (mn p.2.1 t - mx p.1 f+1))) (λq hq=>h q (by simp[hq]));refine{N',?_};rw[if_pos hc];rw[List.map_cons];simp?[JN,jp,mxF,mnF,hc,mul,ih]
  ·let(N',ih):=Q1 cl v0 f t l a (.val (.int p.1)) (.val (.int p.2.1)) (.val (.int p.2.2)) (.val (.int (mn p.2.1 t - mx p.1 f+1))) (λq hq=>h q (by simp[hq]));refine{N',?_};rw[if_neg hc];rw[List.map_cons];simp?[JN,jp,mxF,mnF,hc,ih]
def fsF(leave day:Int):List Pa->Int->Int
 |[],f=>f
 | p::l,f=>if p.1<=day then (if leave<=f - 1 - mn p.2.1 day then f else fsF leave day l p.1) else fsF leave day l f
theorem qbh(cl:Cl)(v0:Sl)(leave day:Int):∀(l:List Pa) (f:Int) (s4 s5 s6:Sl),∃F,yr cl 1000 (.many [4,5,6]) zI (l.map paD) [v0,.val (.int leave),.val (.int day),.val (.int f),s4,s5,s6]=.ok F/\(F=.ret (.val (.int (fsF leave day l f)))\/∃N',F=.next (v0::.val (.int leave)::.val (.int day)::.val (.int (fsF leave day l f))::N'))
 |[],f,s4,s5,s6=>{_,rfl,.inr {[s4,s5,s6],rfl}}
 | p::l,f,s4,s5,s6=>by
  rw[fsF]
  by_cases h1:p.1<=day
  ·rw[if_pos h1]
   by_cases h2:leave<=f - 1 - mn p.2.1 day
   ·rw[if_pos h2];refine{_,?_,.inl rfl};rw[List.map_cons];simp?[qZ,jp,h1,mnF,h2]
   ·rw[if_neg h2];let(F,i,a):=qbh cl v0 leave day l p.1 (.val (.int p.1)) (.val (.int p.2.1)) (.val (.int p.2.2));refine{F,?_,a};rw[List.map_cons];simp?[qZ,jp,h1,mnF,h2,i]
  ·rw[if_neg h1];let(F,i,a):=qbh cl v0 leave day l f (.val (.int p.1)) (.val (.int p.2.1)) (.val (.int p.2.2));refine{F,?_,a};rw[List.map_cons];simp?[qZ,jp,h1,i]
section
variable{pg:Pg}[RU pg][SU pg]
def qgK(k:Nat)(b:Bool)(l:List Pa)(h:WOk l)(f t:Int):clK pg (k+1) "sum_of" [aL b (l.map paD),.val (.int f),.val (.int t)]=.ok (.val (.int (qhG f t l 0))):=by rw[r_sum_of];let(N',i):=Q1 (pg.kk k) (pS b (l.map paD)) f t l 0 .no .no .no .no h;simp?![qb1,i]
def Q2(k:Nat)(b:Bool)(l:List Pa)(leave day:Int):clK pg (k+1) "first_since" [aL b (l.map paD),.val (.int leave),.val (.int day)]=.ok (.val (.int (fsF leave day l.reverse (day+1)))):=by rw[r_first_since];let(F,i,a):=qbh (pg.kk k) (pS b (l.map paD)) leave day l.reverse (day+1) .no .no .no;rw[List.map_reverse]at i;rcases a with rfl|⟨N',rfl⟩<;>simp?![y8,i]
def qfw(r:Ru)(l:List Pa)(d:Int):Int:=if r.kd.isW=true then d - r.days+1 else fsF r.days d l.reverse (d+1)
def qK(r:Ru)(l:List Pa)(d:Int):Int:=qhG (qfw r l d) d l 0
theorem qhH(k:Nat)(b:Bool)(r:Ru)(l:List Pa)(d:Int):clK pg (k+2) "first_of_window" [.val (ruI r),aL b (l.map paD),.val (.int d)]=.ok (.val (.int (qfw r l d))):=by
 have s:=Q2 (pg:=pg) k b l r.days d;have iw:=qal (xx:=pg.xx) r;rw[r_first_of_window];unfold qfw
 cases hk:r.kd.isW with
 |true=>rw[hk]at iw;simp?![q9,RU.cs,iw,qeD r hk]
 |false=>
  rw[hk]at iw
  try simp![qbX,qbY]at s
  simp?![q9,RU.cs,iw,qgE r hk,s]
def Jg(k:Nat)(b:Bool)(r:Ru)(l:List Pa)(h:WOk l)(d:Int):clK pg (k+3) "count_among" [.val (ruI r),aL b (l.map paD),.val (.int d)]=.ok (.val (.int (qK r l d))):=by
 have s:=qgK (pg:=pg) (k+1) b l h (qfw r l d) d;have f:=qhH (pg:=pg) k b r l d;rw[r_count_among];unfold qK
 try simp![qbX,qbY]at s f
 simp?![y9,f,s]
end
def zL(span:Int):List Pa->List Int
 |[]=>[]
 | p::l=>(p.1+span)::(p.2.1+1+span)::zL span l
def zY(r:Ru)(l:List Pa):List Int:=if r.kd.isW=true then zL r.days l else []
theorem Qj(cl:Cl){xx:Xs}(hcs:cl.cs=pcs xx)(v1:Sl)(r:Ru)(hk:r.kd.isW=true):∀(l:List Pa) (acc:List Int) (s3 s4 s5:Sl),acc.length+2 * l.length < 10000->∃N',yr cl 1000 (.many [3,4,5]) yb (l.map paD) [.val (ruI r),v1,.own (acc.map D.int),s3,s4,s5]=.ok (.next (.val (ruI r)::v1::.own ((acc++zL r.days l).map D.int)::N'))
 |[],acc,s3,s4,s5,_=>{[s3,s4,s5],by simp[zL,zB]}
 | p::l,acc,s3,s4,s5,hl=>by
  rw[List.length_cons]at hl;let(N',ih):=Qj cl hcs v1 r hk l (acc++[p.1+r.days]++[p.2.1+1+r.days]) (.val (.int p.1)) (.val (.int p.2.1)) (.val (.int p.2.2)) (by simp;lia);refine{N',?_};have hs:(acc.map D.int).length < sizeLine:=by rw[List.length_map];exact qv (1:)
  have hs2:(acc.map D.int++[D.int (p.1+r.days)]).length < sizeLine:=by simp;exact qv (1:)
  rw[zL,show acc++(p.1+r.days)::(p.2.1+1+r.days)::zL r.days l=acc++[p.1+r.days]++[p.2.1+1+r.days]++zL r.days l by simp];rw[List.map_append (l₁:=acc++[p.1+r.days]),List.map_append (l₁:=acc),List.map_cons,List.map_nil,List.map_cons,List.map_nil]at ih;rw[List.map_cons];simp?[YZ,jp,hcs,qeD r hk,hs,hs2,ih]
theorem Qk(s:Int):∀l:List Pa,(zL s l).length=2 * l.length
 |[]=>rfl
 | p::l=>by rw[zL,List.length_cons,List.length_cons,Qk s l,List.length_cons];lia
def JP(r:Ru)(l:List Pa)(b e:Int):Option Int:=if qK r l b - qK r l (b - 1)<=0 then none else if b+(r.most - qK r l (b - 1)) / (qK r l b - qK r l (b - 1))<=e then some (b+(r.most - qK r l (b - 1)) / (qK r l b - qK r l (b - 1))) else none
def qaK:Option Int->D
 |none=>.non
 |some d=>.int d
def JA(r:Ru)(l:List Pa):List Pr->Option Int
 |[]=>none
 | p::s=>match JP r l p.1 p.2 with
  |some d=>some d
  |none=>JA r l s
def inB(f t x:Int):Bool:=decide (f < x)&&decide (x<=t)
def qhI(f t:Int)(ts:List Int):List Pr:=(f::ts).zip (ts.map (· - 1)++[t])
def yd(r:Ru)(L:List Pa)(ts:List Int):List Pa->Option Int
 |[]=>none
 | p::l=>match JA r L (qhI p.1 p.2.1 (ts.filter (inB p.1 p.2.1))) with
  |some d=>some d
  |none=>yd r L ts l
theorem qhJ:∀(a b:List Int),qcM (a.map D.int) (b.map D.int)=(a.zip b).map pD
 |[],b=>by simp[qcM]
 | x::a,[]=>by simp[qcM]
 | x::a,y::b=>by
  have:=qhJ a b
  unfold qcM at this ⊢;rw[List.map_cons,List.map_cons,List.zipWith_cons_cons,this];rfl
def qeM(d:D)(l:List D):qdg (d::l) (some 1) none=l:=by unfold qdg;rw[show(some (1:Int))=some ((1:Nat):Int) from rfl,HT.Qv,HT.qby];simp
theorem qgL(cl:Cl)(f t:Int):∀(ts acc:List Int) (s0:Sl),acc.length+ts.length < 10000->zA cl zq (.one 0) (.test (.and (.cmp .Lt (.var 1) (.var 0)) (.one (.cmp .LtE (.var 0) (.var 2))))) (ts.map D.int) [s0,.val (.int f),.val (.int t)] (acc.map D.int)=.ok ((acc++ts.filter (inB f t)).map D.int)
 |[],acc,s0,_=>by simp[qG]
 | x::ts,acc,s0,hl=>by
  rw[List.length_cons]at hl;have hs:(acc.map D.int).length < sizeLine:=by rw[List.length_map];exact qv (1:)
  by_cases h1:f < x
  ·by_cases h2:x<=t
   ·have ih:=qgL cl f t ts (acc++[x]) (.val (.int x)) (by simp;lia);have e:(x::ts).filter (inB f t)=x::ts.filter (inB f t):=by simp[inB,h1,h2]
    rw[e];simp![List.map_append,List.map_cons,List.map_nil,List.append_assoc,List.cons_append,List.nil_append]at ih ⊢;simp?[Jb,h1,h2,hs,ih]
   ·have ih:=qgL cl f t ts acc (.val (.int x)) (1:);have e:(x::ts).filter (inB f t)=ts.filter (inB f t):=by simp[inB,h2]
    rw[e];rw[List.map_cons];simp?[h1,h2,ih]
  ·have ih:=qgL cl f t ts acc (.val (.int x)) (1:);have e:(x::ts).filter (inB f t)=ts.filter (inB f t):=by simp[inB,h1]
   rw[e];rw[List.map_cons];simp?[h1,ih]
theorem qmJ(cl:Cl):∀(ts acc:List Int) (s0:Sl),acc.length+ts.length < 10000->zA cl zt (.one 0) .yes (ts.map D.int) [s0] (acc.map D.int)=.ok ((acc++ts.map (· - 1)).map D.int)
 |[],acc,s0,_=>by simp[qG]
 | x::ts,acc,s0,hl=>by
  rw[List.length_cons]at hl;have hs:(acc.map D.int).length < sizeLine:=by rw[List.length_map];exact qv (1:)
  have ih:=qmJ cl ts (acc++[x - 1]) (.val (.int x)) (by simp;lia);simp![List.map_append,List.map_cons,List.map_nil,List.append_assoc,List.cons_append,List.nil_append]at ih ⊢;simp?[Jc,hs,ih]
def qka(r:Ru)(l:List Pa):Prop:=∀d,qK r l d - qK r l (d - 1) < 1073741824
section
variable{pg:Pg}[RU pg][SU pg][FK pg]
theorem qc0(k:Nat)(b:Bool)(r:Ru)(l:List Pa)(hl:l.length < 4000):clK pg (k+1) "turns_of" [.val (ruI r),aL b (l.map paD)]=.ok (.tmp ((zY r l).map D.int)):=by
 have iw:=qal (xx:=pg.xx) r;rw[r_turns_of];unfold zY
 cases hk:r.kd.isW with
 |true=>rw[hk]at iw;let(N',i):=Qj (pg.kk k) RU.cs (pS b (l.map paD)) r hk l [] .no .no .no (by simp;lia);rw[List.map_nil,List.nil_append]at i;simp?![Jw,RU.cs,iw,show(0:Nat)<=sizeLine by decide+kernel,i]
 |false=>rw[hk]at iw;simp?![Jw,RU.cs,iw,show(0:Nat)<=sizeLine by decide+kernel]
def qgM(k:Nat)(b:Bool)(r:Ru)(l:List Pa)(h:WOk l)(hs:qka r l)(f t:Int):clK pg (k+4) "first_above" [.val (ruI r),aL b (l.map paD),.val (.int f),.val (.int t)]=.ok (.val (qaK (JP r l f t))):=by
 have c1:=Jg (pg:=pg) k b r l h (f - 1);have c2:=Jg (pg:=pg) k b r l h f;have hg:=hs f;rw[r_first_above];unfold JP
 by_cases h1:qK r l f - qK r l (f - 1)<=0
 ·rw[if_pos h1]
  try simp![qbX,qbY]at c1 c2
  simp?![zC,c1,c2,h1,qaK]
 ·rw[if_neg h1];have hd:(0:Int) < qK r l f - qK r l (f - 1)/\qK r l f - qK r l (f - 1) < 1073741824:={by lia,hg}
  by_cases h2:f+(r.most - qK r l (f - 1)) / (qK r l f - qK r l (f - 1))<=t
  ·rw[if_pos h2]
   try simp![qbX,qbY]at c1 c2
   simp?![zC,c1,c2,h1,RU.cs,qeC,hd,h2,qaK]
  ·rw[if_neg h2]
   try simp![qbX,qbY]at c1 c2
   simp?![zC,c1,c2,h1,RU.cs,qeC,hd,h2,qaK]
theorem qb5(k:Nat)(b:Bool)(r:Ru)(l:List Pa)(h:WOk l)(hs:qka r l)(v2 v3 v4 v5 v6 v8:Sl):∀(ss:List Pr) (s7 s9 s10:Sl),
  ∃F,yr (pg.kk (k+4)) 1000 (.many [7,9]) zu (ss.map pD) [.val (ruI r),pS b (l.map paD),v2,v3,v4,v5,v6,s7,v8,s9,s10]=.ok F/\(∀d,JA r l ss=some d->F=.ret (.val (.int d)))/\(JA r l ss=none->∃s7' s9' s10',F=.next [.val (ruI r),pS b (l.map paD),v2,v3,v4,v5,v6,s7',v8,s9',s10'])
 |[],s7,s9,s10=>{_,rfl,λd e=>(by cases e),λ_=>⟨s7,s9,s10,rfl⟩}
 | p::ss,s7,s9,s10=>by
  have a:=qgM (pg:=pg) k b r l h hs p.1 p.2;rw[JA]
  cases e:JP r l p.1 p.2 with
  |some d0=>rw[e]at a;dsimp only;refine{_,?_,λd ed=>(by cases ed;rfl),λq=>(by cases q)};rw[List.map_cons];simp?[zV,yy,a,qaK]
  |none=>rw[e]at a;dsimp only;let(F,i,c):=qb5 k b r l h hs v2 v3 v4 v5 v6 v8 ss (.val (.int p.1)) (.val (.int p.2)) (.val .non);refine{F,?_,c};rw[List.map_cons];simp?[zV,yy,a,qaK,i]
theorem YF(k:Nat)(b:Bool)(r:Ru)(L:List Pa)(h:WOk L)(hs:qka r L)(ts:List Int)(ht:ts.length < 8000):∀(l:List Pa) (c:Bool) (s3 s4 s5 s6 s7 s8 s9 s10:Sl),
  ∃F,yr (pg.kk (k+4)) 1000 (.many [3,4,5]) zv (l.map paD) [.val (ruI r),pS b (L.map paD),qny c (ts.map D.int),s3,s4,s5,s6,s7,s8,s9,s10]=.ok F/\(∀d,yd r L ts l=some d->F=.ret (.val (.int d)))/\(yd r L ts l=none->∃N',F=.next N')
 |[],c,s3,s4,s5,s6,s7,s8,s9,s10=>{_,rfl,λd e=>(by cases e),λ_=>{_,rfl}}
 | p::l,c,s3,s4,s5,s6,s7,s8,s9,s10=>by
  have fl:=List.length_filter_le (inB p.1 p.2.1) ts;have t1:=qgL (pg.kk (k+4)) p.1 p.2.1 ts [] .no (by simp;lia);have t2:=qmJ (pg.kk (k+4)) (ts.filter (inB p.1 p.2.1)) [] .no (by simp;lia);rw[List.map_nil,List.nil_append]at t1 t2;have z:=qhJ (p.1::ts.filter (inB p.1 p.2.1)) ((ts.filter (inB p.1 p.2.1)).map (· - 1)++[p.2.1]);rw[List.map_cons,List.map_append,List.map_cons,List.map_nil]at z;have z0:ts.length<=sizeLine:=qx (1:);have z1:0+1<=sizeLine:=(3:)
  have z2:1+(ts.filter (inB p.1 p.2.1)).length<=sizeLine:=qx (1:);have z3:(ts.filter (inB p.1 p.2.1)).length<=sizeLine:=qx (1:);have z4:(ts.filter (inB p.1 p.2.1)).length+1<=sizeLine:=qx (1:);let(G,i,seg):=qb5 (pg:=pg) k b r L h hs (.val (.lst (ts.map D.int))) (.val (.int p.1)) (.val (.int p.2.1)) (.val (.int p.2.2)) (.val (.lst (D.int p.1::(ts.filter (inB p.1 p.2.1)).map D.int))) (.val (.lst (((ts.filter (inB p.1 p.2.1)).map (· - 1)).map D.int++[D.int p.2.1]))) (qhI p.1 p.2.1 (ts.filter (inB p.1 p.2.1))) s7 s9 s10;rw[show qhI p.1 p.2.1 (ts.filter (inB p.1 p.2.1))=(p.1::ts.filter (inB p.1 p.2.1)).zip ((ts.filter (inB p.1 p.2.1)).map (· - 1)++[p.2.1]) from rfl]at i seg;rw[yd,show qhI p.1 p.2.1 (ts.filter (inB p.1 p.2.1))=(p.1::ts.filter (inB p.1 p.2.1)).zip ((ts.filter (inB p.1 p.2.1)).map (· - 1)++[p.2.1]) from rfl]
  cases e:JA r L ((p.1::ts.filter (inB p.1 p.2.1)).zip ((ts.filter (inB p.1 p.2.1)).map (· - 1)++[p.2.1])) with
  |some d0=>rw[seg.1 d0 e]at i;dsimp only;refine{_,?_,λd ed=>(by cases ed;rfl),λq=>(by cases q)};rw[List.map_cons];simp?[zW,jp,List.length_map,z0,z1,z2,z3,z4,JT,List.getD_cons_succ,List.getD_cons_zero,t1,qeM,t2,z,i]
  |none=>let(s7',s9',s10',eG):=seg.2 e;rw[eG]at i;dsimp only;let(F,i2,c2):=YF k b r L h hs ts ht l false (.val (.int p.1)) (.val (.int p.2.1)) (.val (.int p.2.2)) (.val (.lst (D.int p.1::(ts.filter (inB p.1 p.2.1)).map D.int))) s7' (.val (.lst (((ts.filter (inB p.1 p.2.1)).map (· - 1)).map D.int++[D.int p.2.1]))) s9' s10';refine{F,?_,c2};simp![qoA,qoB]at i2;rw[List.map_cons];simp?[zW,jp,List.length_map,z0,z1,z2,z3,z4,JT,List.getD_cons_succ,List.getD_cons_zero,t1,qeM,t2,z,i,i2]
def qt(r:Ru)(l:List Pa):Option Int:=yd r l (zY r l) l
def qc1(r:Ru)(l:List Pa):(zY r l).length<=2 * l.length:=by
 unfold zY;split
 ·rw[Qk];lia
 ·simp
theorem qeN(k:Nat)(b:Bool)(r:Ru)(l:List Pa)(h:WOk l)(hs:qka r l)(hl:l.length < 3900):clK pg (k+5) "first_broken" [.val (ruI r),aL b (l.map paD)]=.ok (.val (qaK (qt r l))):=by
 have t:=qc0 (pg:=pg) (k+3) b r l (1:);let(F,i,lp):=YF (pg:=pg) k b r l h hs (zY r l) (by have:=qc1 r l;lia) l true .no .no .no .no .no .no .no .no;rw[r_first_broken];unfold qt
 cases e:yd r l (zY r l) l with
 |some d=>
  rw[lp.1 d e]at i
  try simp![qbX,qbY,qoA,qoB]at t i ⊢
  simp?![z8,t,i,qaK]
 |none=>
  let(N',eF):=lp.2 e;rw[eF]at i
  try simp![qbX,qbY,qoA,qoB]at t i ⊢
  simp?![z8,t,i,qaK]
end
def Jp(st:List St)(x:Rl):List Pa:=qJ x.1 x.2 st
def qb6(d:Int):Option (Int×Int×Int)->Bool
 |none=>true
 |some z=>decide (d < z.1)
def ye(st:List St):List Rl->Nat->Option (Int×Int×Int)->Option (Int×Int×Int)
 |[],_,f=>f
 | x::l,i,f=>match qt x.1 (Jp st x) with
  |none=>ye st l (i+1) f
  |some d=>if qb6 d f=true then ye st l (i+1) (some (d,(i:Int),qfw x.1 (Jp st x) d)) else ye st l (i+1) f
structure RlOk(st:List St)(x:Rl):Prop where
 ln:∀p∈x.1.lands,LnOk p
 w:WOk (Jp st x)
 slow:qka x.1 (Jp st x)
 lf:x.2.length<=20
section
variable{pg:Pg}[RU pg][BO pg][SP pg][BT pg][PC pg][SU pg][FK pg]
theorem Ql(k:Nat)(b:Bool)(rs:List Ru)(ps:List Pa)(hp:ps.length<=4)(st:List St)(hs:∀s∈st,NameOk s.1)(hl:st.length<=70):∀(rest:List Rl) (i:Nat) (f:Option (Int×Int×Int)) (s3 s4 s5 s6:Sl),(∀(j:Nat) x,rest[j]?=some x->rs[i+j]?=some x.1/\x.2=QX ((i+j:Nat):Int) ps/\RlOk st x)->
  ∃N',yr (pg.kk (k+6)) 1000 (.many [3,4]) zJ (enF i (rest.map λx=>ruI x.1)) [.val (bkI rs ps),pS b (st.map stD),.val (qdm f),s3,s4,s5,s6]=.ok (.next (.val (bkI rs ps)::pS b (st.map stD)::.val (qdm (ye st rest i f))::N'))
 |[],i,f,s3,s4,s5,s6,_=>{[s3,s4,s5,s6],rfl}
 | x::rest,i,f,s3,s4,s5,s6,h=>by
  let(e1,e2,ok):=h 0 x rfl;rw[Nat.add_zero]at e1 e2
  have nxt:∀(j:Nat) y,rest[j]?=some y->rs[i+1+j]?=some y.1/\y.2=QX ((i+1+j:Nat):Int) ps/\RlOk st y:=λj y hy=>by
   have:=h (j+1) y hy
   rwa[show i+(j+1)=i+1+j by lia]at this
  have pl:(Jp st x).length < 3900:=by
   have:=YE x.1 x.2 st
   have h1:=ok.lf
   have:st.length * (x.2.length+2)<=70 * 22:=Nat.mul_le_mul hl (1:)
   unfold Jp
   lia
  have p:=qeL (pg:=pg) (k+3) b rs ps hp i x.1 e1 ok.ln (by rw[<-e2];exact ok.lf) st hs (1:);rw[<-e2]at p;rw[show qJ x.1 x.2 st=Jp st x from rfl]at p;have br:=qeN (pg:=pg) (k+1) true x.1 (Jp st x) ok.w ok.slow pl;have three:0+1+1+1<=sizeLine:=(3:)
  simp![qbX,qbY]at br;have fw:∀d,clK pg (k+6) "first_of_window" [.val (ruI x.1),.bor ((Jp st x).map paD),.val (.int d)]=.ok (.val (.int (qfw x.1 (Jp st x) d))):=λd=>qhH (pg:=pg) (k+4) true x.1 (Jp st x) d
  let(f',ef,X):∃f',ye st (x::rest) i f=ye st rest (i+1) f'/\∀{M:Type} (K:Fl->R M) (a b:Sl),(iS (pg.kk (k+6)) 1000 (.ite (.and (.cmp .IsNot (.var 6) (.con D.non)) (.one (.or (.cmp .Is (.var 2) (.con D.non)) (.one (.cmp .Lt (.var 6) (.idx (.var 2) (.con (D.int 0)))))))) %[.set 2 (.tup %[6,3,.call "first_of_window" %[4,5,6|0]|0])|0] .nil) [a,b,.val (qdm f),.val (.int i),.val (ruI x.1),.own ((Jp st x).map paD),.val (qaK (qt x.1 (Jp st x)))]).th K=K (.next [a,b,.val (qdm f'),.val (.int i),.val (ruI x.1),.own ((Jp st x).map paD),.val (qaK (qt x.1 (Jp st x)))]):=by
   rw[ye]
   cases e:qt x.1 (Jp st x) with
   |none=>exact{f,rfl,λK a b=>by simp?![qaK]}
   |some d=>
    dsimp only
    cases f with
    |none=>exact{some (d,(i:Int),qfw x.1 (Jp st x) d),by rw[show qb6 d none=true from rfl,if_pos rfl],λK a b=>by simp?![qaK,qdm,f3D,fw,three]}
    |some z=>
     by_cases hc:d < z.1
     ·exact{some (d,(i:Int),qfw x.1 (Jp st x) d),by rw[if_pos (by simp[qb6,hc])],λK a b=>by simp?![qaK,qdm,f3D,hc,fw,three]}
     ·exact{some z,by rw[if_neg (by simp[qb6,hc])],λK a b=>by simp?![qaK,qdm,f3D,hc]}
  rw[ef];let(N',ih):=Ql k b rs ps hp st hs hl rest (i+1) f' (.val (.int i)) (.val (ruI x.1)) (.own ((Jp st x).map paD)) (.val (qaK (qt x.1 (Jp st x)))) nxt;refine{N',?_};refine(qh _).symm.trans ?_;rw[List.map_cons,enF];simp?![↓X,Jx,p,br,ih]
end
def Qm(rs:List Ru)(ps:List Pa)(st:List St):Option (Int×Int×Int):=ye st (rlF ps 0 rs) 0 none
section
variable{pg:Pg}[RU pg][BO pg][SP pg][BT pg][PC pg][SU pg][FK pg][FM pg]
def Q3(k:Nat)(b:Bool)(rs:List Ru)(ps:List Pa)(hp:ps.length<=4)(st:List St)(hs:∀s∈st,NameOk s.1)(hl:st.length<=70)(hr:∀x∈rlF ps 0 rs,RlOk st x) :
  clK pg (k+7) "fault_among" [.val (bkI rs ps),aL b (st.map stD)]=.ok (.val (qdm (Qm rs ps st))):=by
 have a:=qb4 (pg:=pg) (k+5) rs ps
 let(N',i):=Ql (pg:=pg) k b rs ps hp st hs hl (rlF ps 0 rs) 0 none .no .no .no .no (λj x hx=>by have hm:=List.mem_of_getElem? hx;rw[qbd]at hx;let(r,e1,e2):=Option.map_eq_some_iff.mp hx;rw[Nat.zero_add];rw[Nat.zero_add]at e2;exact{by rw[e1,<-e2],by rw[<-e2],hr x hm})
 rw[qhF]at i;rw[r_fault_among]
 try simp![qbX,qbY,qdm]at i ⊢
 simp?![Jd,RU.cs,qb3,a,J5,i,Qm]
end
end DG
namespace FZ
open PySem DE DG Dy FA
open L2 hiding St
open ZA ZW ZN ZR RU
def qb7(z:Str)(i:Nat)(h:i<=z.length):(Txt.slice z none (some (i:Int))).cps.toList=z.cps.toList.take i:=by
 have e:Builtin.Str.strSliceIndices none (some (i:Int)) 1 z.length=(List.range i).map (0 + ·):=by
  have:=sliceRange_one 0 i
  rw[Nat.sub_zero]at this;rw[<-this];unfold Builtin.Str.strSliceIndices;simp![show(1:Int) > 0 by decide,if_true]
  congr 1
  rw[if_neg (by omega)];omega
 unfold Txt.slice;rw[e];split
 ·rename_i hc;simp at hc;rw[hc,List.take_of_length_le (by simp[Str.length])]
 ·show(List.toArray _).toList=_;rw[pick_run];simp
def qgN(z:Str)(i:Nat)(h:i<=z.length):(Txt.slice z (some (i:Int)) none).cps.toList=z.cps.toList.drop i:=by
 have e:Builtin.Str.strSliceIndices (some (i:Int)) none 1 z.length=(List.range (z.length - i)).map (i + ·):=by
  rw[<-sliceRange_one i z.length];unfold Builtin.Str.strSliceIndices;simp![show(1:Int) > 0 by decide,if_true]
  congr 1
  rw[if_neg (by omega)];omega
 unfold Txt.slice;rw[e];split
 ·rename_i hc;simp at hc
  have:i=0\/z.length=0:=by omega
  rcases this with q|q
  ·rw[q];simp
  ·have:z.cps.toList=[]:=by simpa [Str.length] using q
   rw[this];simp
 ·show(List.toArray _).toList=_;rw[pick_run,List.take_of_length_le (by simp[Str.length])]
section
variable{pg:Pg}[ZA pg]
def qc2(k:Nat)(ns:List Int)(i:Nat):clK pg (k+1) "_law_at" [.scr (ns.map D.int),.val (.int (i:Int))]=.ok (.val (.int (zi ns i))):=by
 rw[r__law_at]
 by_cases h:i < ns.length
 ·have h1:(i:Int) < ((ns.map D.int).length:Int):=by rw[List.length_map];omega
  have h2:atI (ns.map D.int) (i:Int)=some (.int (zi ns i)):=qj9 (by simp[h,zi]);simp?![Yu,Nat.reduceAdd,Nat.reduceSub,h1,h2,decide_true]
 ·have h1:¬ (i:Int) < ((ns.map D.int).length:Int):=by rw[List.length_map];omega
  have h2:zi ns i=0:=by simp[zi,h]
  simp?![Yu,Nat.reduceAdd,Nat.reduceSub,h1,h2,decide_false]
end
def qnz(z:Str):Prop:=∀c∈z.cps.toList,yM c
theorem qan(cl:Cl)(v0 v2:Sl):∀(n:Nat) (j:Int) (m:Int) (z:Str) (s4:Sl),z.cps.size+n<=8->qnz z->∃(z':Str) (m':Int) (s4':Sl),yr cl 1000 (.one 4) jE (rgF j n) [v0,.val (.int m),v2,.val (.str z),s4]=.ok (.next [v0,.val (.int m'),v2,.val (.str z'),s4'])/\z'.cps.size=z.cps.size+n/\qnz z'
 |0,j,m,z,s4,_,h=>⟨z,m,s4,rfl,rfl,h⟩
 | n+1,j,m,z,s4,hn,h=>by
  let(h1,hl):=qmE (m % 26) (Int.emod_nonneg _ (2:)) (Int.emod_lt_of_pos _ (2:));generalize 97+(m % 26).toNat=c at h1 hl
  let(z',m',s4',ih,i1,i2):=qan cl v0 v2 n (j+1) (m / 26) (z++(⟨#[c]⟩:Str)) (.val (.int j)) (by rw[QS];omega) (λx hx=>by
   rw[qgz]at hx;rcases List.mem_append.mp hx with q|q
   ·exact h x q
   ·rw[List.mem_singleton.mp q];exact hl)
  refine{z',m',s4',?_,by rw[i1,QS];omega,i2}
  have hs:z.length+(⟨#[c]⟩:Str).length<=sizeLine:=by show z.cps.size+1<=2 ^ 24;omega
  have h26:("abcdefghijklmnopqrstuvwxyz" : Str).length<=sizeLine:=(3:)
  refine(qh _).symm.trans ?_;rw[rgF];simp?![Yv,h1,hs,h26,ih]
def qjF{pg:Pg}[ZW pg](k:Nat)(c:Int):∃z:Str,clK pg (k+1) "_law_word" [.val (.int c)]=.ok (.val (.str z))/\1<=z.cps.size/\z.cps.size<=7/\qnz z:=by
 have mul:qd7 c 1099087573=true:=qah (2:) (2:);generalize hN:c * 1099087573 % 10000000000037=n;have a0:0<=n % 7:=Int.emod_nonneg _ (2:);have a1:n % 7 < 7:=Int.emod_lt_of_pos _ (2:);let(m,em):∃m:Nat,1+n % 7=(m:Int):={(1+n % 7).toNat,by omega};have e0:("" : Str).cps.size=0:=(3:)
 let(z,m',s4,e,e1,e2):=qan (pg.kk k) (.val (.int c)) (.val (.int (m:Int))) m 0 (n / 7) "" .no (by omega) (λx hx=>by rw[show("" : Str).cps.toList=[] by decide+kernel]at hx;cases hx)
 refine{z,?_,by omega,by omega,e2}
 have sm:qN (m:Int)=true:=by unfold qN;simp;omega
 rw[r__law_word];simp?![Yw,mul,hN,em,sm,zh,Int.sub_zero,Int.toNat_natCast,e]
def Y1(z:Str)(a c:Nat):Str:=Txt.slice z none (some (a:Int))++(⟨#[c]⟩:Str)++Txt.slice z (some (a:Int)) none
def qeO(x y:Str):(x++y).cps.toList=x.cps.toList++y.cps.toList:=by show(x.cps++y.cps).toList=_;simp
def jr{z:Str}{a:Nat}(h:a<=z.length)(c:Nat):(Y1 z a c).cps.toList=z.cps.toList.take a++c::z.cps.toList.drop a:=by unfold Y1;rw[qeO,qeO,qb7 z a h,qgN z a h];simp
def Qn{z:Str}{a:Nat}(h:a<=z.length)(c:Nat):(Y1 z a c).cps.size=z.cps.size+1:=by have h':a<=z.cps.size:=h;rw[<-Array.length_toList,jr h];simp;omega
def qgO{z:Str}{a:Nat}(h:a<=z.length)(h7:z.cps.size<=7)(hl:qnz z){c:Nat}(hc:yM c):NameOk (Y1 z a c):=by
 refine{by rw[Qn h];omega,by rw[Qn h];omega,λx hx=>?_};rw[jr h]at hx;rcases List.mem_append.mp hx with q|q
 ·exact hl x (List.mem_of_mem_take q)
 ·rcases List.mem_cons.mp q with q|q
  ·rw[q];exact hc
  ·exact hl x (List.mem_of_mem_drop q)
def qeP{z:Str}{a:Nat}(h:a<=z.length){c c':Nat}(e:Y1 z a c=Y1 z a c'):c=c':=by
 have e1:=congrArg (λx:Str=>x.cps.toList) e;rw[jr h,jr h]at e1
 have:=List.append_cancel_left e1
 exact(List.cons.inj this).1
theorem Qo(cl:Cl)(z:Str)(a:Nat)(ha:a<=z.length)(h7:z.cps.size<=7):∀(cs:List Nat) (acc:List Str) (s0:Sl),acc.length+cs.length < 10000->zA cl z9 (.one 0) .yes (cs.map λc=>D.str ⟨#[c]⟩) [s0,.val (.str z),.val (.int (a:Int))] (acc.map D.str)=.ok ((acc++cs.map (Y1 z a)).map D.str)
 |[],acc,s0,_=>by simp[qG]
 | c::cs,acc,s0,hl=>by
  rw[List.length_cons]at hl;have hs:(acc.map D.str).length < sizeLine:=by rw[List.length_map];exact qv (by omega)
  have hz:z.length<=sizeLine:=by show z.cps.size<=2 ^ 24;omega
  have l1:(Txt.slice z none (some (a:Int))).length<=z.length:=Txt.slice_le _ _ _;have l2:(Txt.slice z (some (a:Int)) none).length<=z.length:=Txt.slice_le _ _ _;have h7':z.length<=7:=h7
  have s1:(Txt.slice z none (some (a:Int))).length+(⟨#[c]⟩:Str).length<=sizeLine:=by
   have:(⟨#[c]⟩:Str).length=1:=rfl
   show _<=2 ^ 24;omega
  have s2:(Txt.slice z none (some (a:Int))++(⟨#[c]⟩:Str)).length+(Txt.slice z (some (a:Int)) none).length<=sizeLine:=by
   have:(Txt.slice z none (some (a:Int))++(⟨#[c]⟩:Str)).length=(Txt.slice z none (some (a:Int))).length+1:=QS _ _
   show _<=2 ^ 24;omega
  have ih:=Qo cl z a ha h7 cs (acc++[Y1 z a c]) (.val (.str ⟨#[c]⟩)) (by simp;omega);simp![List.map_append,List.map_cons,List.map_nil,List.append_assoc,List.cons_append,List.nil_append,Y1]at ih ⊢;simp?[JV,hs,hz,s1,s2,ih]
def qgP(n:Nat)(h:n<=4):qdd (Txt.slice "kcxq" none (some (n:Int)))=(([107,99,120,113]:List Nat).take n).map λc=>D.str ⟨#[c]⟩:=by unfold qdd;rw[qb7 _ _ (by show n<=("kcxq" : Str).length;rw[show("kcxq" : Str).length=4 by decide+kernel];exact h),show("kcxq" : Str).cps.toList=[107,99,120,113] by decide+kernel]
def qgQ{pg:Pg}[ZW pg][ZN pg](k:Nat)(c:Int)(n:Nat)(hn:2<=n/\n<=4):∃zs:List Str,clK pg (k+2) "_law_names" [.val (.int c),.val (.int (n:Int))]=.ok (.tmp (zs.map D.str))/\zs.length=n/\NamesOk zs/\∀y∈zs,∃c∈([107,99,120,113]:List Nat),c∈y.cps.toList:=by
 let(z,hw,h1,h7,hl):=qjF (pg:=pg) k c;have hp:(0:Int) < (z.length:Int)+1:=by omega
 let(a,ea):∃a:Nat,c % ((z.length:Int)+1)=(a:Int):={(c % ((z.length:Int)+1)).toNat,by have:=Int.emod_nonneg c (show(z.length:Int)+1≠0 by omega);omega};have ha:a<=z.length:=by have:=Int.emod_lt_of_pos c hp;omega
 have hz:z.length<=sizeLine:=by show z.cps.size<=2 ^ 24;omega
 have cs:=Qo (pg.kk (k+1)) z a ha h7 (([107,99,120,113]:List Nat).take n) [] .no (by simp;omega);rw[List.map_nil,List.nil_append]at cs;have hk:("kcxq" : Str).length<=sizeLine:=(3:)
 have let4:∀x∈([107,99,120,113]:List Nat).take n,yM x:=λx hx=>by
  have:=List.mem_of_mem_take hx
  unfold yM;simp at this;omega
 refine{(([107,99,120,113]:List Nat).take n).map (Y1 z a),?_,by simp;omega,{by simp;omega,by simp;omega,λy hy=>?_,λi j y hi hj=>?_},λy hy=>?_}
 ·have sig:=qgP n hn.2;rw[r__law_names];have hs4:((([107,99,120,113]:List Nat).take n).map λc=>D.str ⟨#[c]⟩).length<=sizeLine:=qx (by simp;omega);simp?![JO,hw,hz,hp,ea,hk,sig,hs4,JT,List.getD_cons_succ,List.getD_cons_zero,cs]
 ·let(x,hx,rfl):=List.mem_map.mp hy;exact qgO ha h7 hl (let4 x hx)
 ·rw[List.getElem?_map]at hi hj;let(x,hx,ex):=Option.map_eq_some_iff.mp hi;let(x',hx',ex'):=Option.map_eq_some_iff.mp hj;have e:=qeP ha (ex.trans ex'.symm);subst e;have nd:(([107,99,120,113]:List Nat).take n).Nodup:=(List.take_sublist n _).nodup (2:);exact(List.getElem?_inj (List.getElem?_eq_some_iff.mp hx).1 nd).mp (hx.trans hx'.symm)
 ·let(x,hx,rfl):=List.mem_map.mp hy;exact{x,List.mem_of_mem_take hx,by rw[jr ha];simp}
def kw:Kd->Int
 |.wi=>0
 |.si=>1
 |.ro=>2
def spD(r:Ru):D:=.tup [.int (kw r.kd),.lst (r.lands.map lnD),.int r.most,.int r.days]
def YG(r:Ru):spD r=.tup [.int (kw r.kd),.lst (r.lands.map lnD),.int r.most,.int r.days]:=rfl
def mkR(r:Ru):Ru:=match r.kd with
 |.ro=>{ r with days:=1 }
 |_=>r
structure SpOk(r:Ru):Prop where
 nd:(r.lands.map (·.1)).Nodup
 l1:1<=r.lands.length
 l6:r.lands.length<=6
 ok:∀p∈r.lands,LnOk p
 m0:0<=r.most
 m1:r.most<=1000000000
 d0:1<=r.days
 d1:r.days<=1000000000
def SpOk.lands{r:Ru}(h:SpOk r):qE (r.lands.map lnD)=true:=qcY h.ok h.nd h.l1 h.l6
def qhK(r:Ru):(mkR r).lands=r.lands:=by let(kd,_,_,_):=r;cases kd<;>rfl
def qb8(r:Ru):(mkR r).most=r.most:=by let(kd,_,_,_):=r;cases kd<;>rfl
def qhL(r:Ru):(mkR r).kd=r.kd:=by let(kd,_,_,_):=r;cases kd<;>rfl
def Q4(r:Ru):(mkR r).days=match r.kd with |.ro=>1 |_=>r.days:=by let(kd,_,_,_):=r;cases kd<;>rfl
def Qp{r:Ru}(h:SpOk r):(∀p∈(mkR r).lands,LnOk p)/\1<=(mkR r).days/\0<=(mkR r).most:=by
 have h1:=h.d0;refine{by rw[qhK];exact h.ok,?_,by rw[qb8];exact h.m0};rw[Q4]
 split<;>omega
def qmK(n:Int):∃kd:Kd,n % 3=kw kd:=by
 have h0:0<=n % 3:=Int.emod_nonneg _ (2:);have h1:n % 3 < 3:=Int.emod_lt_of_pos _ (2:)
 by_cases a:n % 3=0
 ·exact{.wi,a}
 ·by_cases b:n % 3=1
  ·exact{.si,b}
  ·exact{.ro,by show n % 3=2;omega}
def at3(a b c d:D):atI [a,b,c,d] (3:Int)=some d:=(rfl)
theorem qjG{pg:Pg}[RU pg][ZR pg](k:Nat)(r:Ru)(h:SpOk r):clK pg (k+13) "_law_rule" [.val (spD r)]=.ok (.val (ruI (mkR r))):=by
 have hl:=h.lands;have h0:=h.m0;have h1:=h.m1;have h2:=h.d0;have h3:=h.d1;have hm:btw r.most 0 1000000000=true:=by unfold btw;simp;omega
 have hd:btw r.days 1 1000000000=true:=by unfold btw;simp;omega
 let(kd,lands,most,days):=r;dsimp only at hl hm hd;rw[r__law_rule]
 cases kd with
 |wi=>
  have e:pg.nw (k+12) "Within" [.val (.lst (lands.map lnD)),.val (.int most),.val (.int days)]=.ok (.val (ruI ⟨.wi,lands,most,days⟩)):=by rw[RU.nw];show(if k+12 < 12 then R.no else qcX "Within" (if (qE (lands.map lnD)&&btw most 0 1000000000&&btw days 1 1000000000)=true then _ else none))=_;rw[if_neg QY,if_pos (by rw[hl,hm,hd];rfl)];rfl
  simp?![jF,spD,kw,mkR,qP,show((0:Int) == 0)=true by decide,at3,e]
 |si=>
  have e:pg.nw (k+12) "Since" [.val (.lst (lands.map lnD)),.val (.int most),.val (.int days)]=.ok (.val (ruI ⟨.si,lands,most,days⟩)):=by rw[RU.nw];show(if k+12 < 12 then R.no else qcX "Since" (if (qE (lands.map lnD)&&btw most 0 1000000000&&btw days 1 1000000000)=true then _ else none))=_;rw[if_neg QY,if_pos (by rw[hl,hm,hd];rfl)];rfl
  simp?![jF,spD,kw,mkR,qP,show((1:Int) == 0)=false by decide,show((1:Int) == 1)=true by decide,at3,e]
 |ro=>
  have e:pg.nw (k+12) "InRow" [.val (.lst (lands.map lnD)),.val (.int most)]=.ok (.val (ruI ⟨.ro,lands,most,1⟩)):=by rw[RU.nw];show(if k+12 < 12 then R.no else qcX "InRow" (if (qE (lands.map lnD)&&btw most 0 1000000000)=true then _ else none))=_;rw[if_neg QY,if_pos (by rw[hl,hm];rfl)];rfl
  simp?![jF,spD,kw,mkR,qP,show((2:Int) == 0)=false by decide,show((2:Int) == 1)=false by decide,e]
def wd(g:Bool):Int:=if g=true then 4000030 else 21
end FZ
namespace DG
open PySem DE FA Dy
open L2 hiding St
def Spr.tail{p:Pr}{l:List Pr}(h:Spr (p::l)):Spr l:={λq hq=>h.ok q (by simp[hq]),(List.pairwise_cons.mp h.gap).2}
def qV{p:Pr}{l:List Pr}{d:Int}:Day (p::l) d↔(p.1<=d/\d<=p.2)\/Day l d:=by
 unfold Day;constructor
 ·rintro⟨q,hq,h⟩;rcases List.mem_cons.mp hq with rfl|hq
  ·exact .inl h
  ·exact .inr ⟨q,hq,h⟩
 ·rintro (h|⟨q,hq,h⟩)
  ·exact{p,by simp,h}
  ·exact{q,by simp[hq],h}
def YH{d:Int}:¬ Day [] d:=λ⟨_,h,_⟩=>by cases h
structure Apart(l:List Pr):Prop where
 ok:∀p∈l,p.1<=p.2
 ap:l.Pairwise λp q=>p.2+1 < q.1
structure OutOk(b:Int)(l:List Pr)(F:List Pr)(b':Int):Prop where
 apart:Apart F
 lo:∀x∈F,b<=x.1
 hi:∀x∈F,x.2+1 < b'
 le:b<=b'
 day:∀d,b<=d->d < b'->(Day F d↔¬ Day l d)
 end_:∀d,b'<=d->¬ Day l d
theorem qhM:∀(l:List Pr) (b:Int),Spr l->OutOk b l (JW b l).1 (JW b l).2
 |[],b,_=>{{λ_ h=>(by cases h),List.Pairwise.nil},λ_ h=>(by cases h),λ_ h=>(by cases h),Int.le_refl _,λd h1 h2=>by dsimp only[JW]at h2;lia,λd _=>YH}
 | t::l,b,hS=>by
  have hS':=Spr.tail hS;have ht:=hS.ok t (5:);have hg:=(List.pairwise_cons.mp hS.gap).1;have hlow:∀d,Day l d->t.2+2<=d:=λd ⟨q,hq,h1,_⟩=>by have:=hg q hq;lia
  have ih:=qhM l (mx b (t.2+1)) hS';have hm:=qgJ b (t.2+1);rw[JW];generalize hb1:mx b (t.2+1)=b1 at *;have hle:=ih.le
  have hb:b<=b1/\t.2+1<=b1/\(b1=b\/b1=t.2+1):=by
   rcases Int.le_total b (t.2+1) with q|q
   ·have:=hm.1 q;lia
   ·have:=hm.2 q;lia
  generalize (JW b1 l).1=F at *;generalize (JW b1 l).2=b' at *;dsimp only
  by_cases hc:b < t.1
  ·rw[if_pos hc];refine{{λx hx=>?_,?_},λx hx=>?_,λx hx=>?_,by lia,λd h1 h2=>?_,λd h1=>?_}
   ·rcases List.mem_cons.mp hx with rfl|hx
    ·dsimp only;lia
    ·exact ih.apart.ok x hx
   ·refine List.pairwise_cons.mpr ⟨λx hx=>?_,ih.apart.ap⟩
    have:=ih.lo x hx
    dsimp only
    lia
   ·rcases List.mem_cons.mp hx with rfl|hx
    ·dsimp only;lia
    ·have:=ih.lo x hx;lia
   ·rcases List.mem_cons.mp hx with rfl|hx
    ·dsimp only;lia
    ·exact ih.hi x hx
   ·show Day ((b,t.1 - 1)::F) d↔_;rw[qV,qV]
    by_cases q:d < b1
    ·have n1:¬ Day F d:=λ⟨x,hx,h3,_⟩=>by have:=ih.lo x hx;lia
     have n2:¬ Day l d:=λz=>by have:=hlow d z;lia
     dsimp only;constructor
     ·rintro (z|z)
      ·rintro (y|y)
       ·lia
       ·exact n2 y
      ·exact absurd z n1
     ·intro z;left;refine{h1,?_}
      by_cases y:t.1<=d
      ·exact absurd (.inl ⟨y,by lia⟩) z
      ·lia
    ·have:=ih.day d (1:) h2
     rw[this];dsimp only;constructor
     ·rintro (z|z)
      ·lia
      ·rintro (y|y)
       ·lia
       ·exact z y
     ·intro z;exact .inr λy=>z (.inr y)
   ·rw[qV];rintro (z|z)
    ·lia
    ·exact ih.end_ d h1 z
  ·rw[if_neg hc,List.nil_append];refine{ih.apart,λx hx=>by have:=ih.lo x hx;lia,ih.hi,by lia,λd h1 h2=>?_,λd h1=>?_}
   ·rw[qV]
    by_cases q:d < b1
    ·have n1:¬ Day F d:=λ⟨x,hx,h3,_⟩=>by have:=ih.lo x hx;lia
     constructor
     ·intro z;exact absurd z n1
     ·intro z;exact absurd (.inl ⟨by lia,by lia⟩) z
    ·rw[ih.day d (1:) h2];constructor
     ·intro z;rintro (y|y)
      ·lia
      ·exact z y
     ·intro z y;exact z (.inr y)
   ·rw[qV];rintro (z|z)
    ·lia
    ·exact ih.end_ d h1 z
def qc3{l:List Pr}(h:Spr l)(f t:Int):Apart (qR l f t)/\(∀x∈qR l f t,f<=x.1)/\∀d,f<=d->d<=t->(Day (qR l f t) d↔¬ Day l d):=by
 have o:=qhM l f h;have hle:=o.le;unfold qR;generalize (JW f l).1=F at *;generalize (JW f l).2=b at *
 by_cases hc:b<=t
 ·rw[if_pos hc];refine{{λx hx=>?_,?_},λx hx=>?_,λd h1 h2=>?_}
  ·rcases List.mem_append.mp hx with q|q
   ·exact o.apart.ok x q
   ·rw[List.mem_singleton.mp q];exact hc
  ·refine List.pairwise_append.mpr ⟨o.apart.ap,by simp,λx hx y hy=>?_⟩;rw[List.mem_singleton.mp hy];exact o.hi x hx
  ·rcases List.mem_append.mp hx with q|q
   ·exact o.lo x q
   ·rw[List.mem_singleton.mp q];exact hle
  ·rw[Jy,QU]
   by_cases q:d < b
   ·rw[<-o.day d h1 q];dsimp only;constructor
    ·rintro (z|z)
     ·exact z
     ·lia
    ·exact .inl
   ·have n:=o.end_ d (1:);constructor
    ·intro _;exact n
    ·intro _;exact .inr ⟨by dsimp only;lia,h2⟩
 ·rw[if_neg hc,List.append_nil];exact{o.apart,o.lo,λd h1 h2=>o.day d h1 (1:)}
theorem qmL(p:Pr)(hp:p.1<=p.2):∀(n:Nat) (B:List Pr),B.length < n->Apart B->Apart (jq n [p] B)/\(∀x∈jq n [p] B,p.1<=x.1/\x.2<=p.2/\∃q∈B,q.1<=x.1/\x.2<=q.2)/\∀d,Day (jq n [p] B) d↔(p.1<=d/\d<=p.2)/\Day B d
 |0,B,h,_=>by lia
 | n+1,[],_,_=>{{λ_ h=>(by cases h),List.Pairwise.nil},λ_ h=>(by cases h),λd=>{λz=>absurd z YH,λz=>absurd z.2 YH}}
 | n+1,q::B,h,hA=>by
  rw[List.length_cons]at h;have hq:=hA.ok q (5:);have hg:=(List.pairwise_cons.mp hA.ap);have hlow:∀d,Day B d->q.2 < d:=λd ⟨x,hx,h1,_⟩=>by have:=hg.1 x hx;lia
  have m1:=qgJ p.1 q.1;have m2:=qam p.2 q.2;rw[jq]
  have hm1:p.1<=mx p.1 q.1/\q.1<=mx p.1 q.1/\(mx p.1 q.1=p.1\/mx p.1 q.1=q.1):=by
   rcases Int.le_total p.1 q.1 with z|z
   ·have:=m1.1 z;lia
   ·have:=m1.2 z;lia
  have hm2:mn p.2 q.2<=p.2/\mn p.2 q.2<=q.2/\(mn p.2 q.2=p.2\/mn p.2 q.2=q.2):=by
   rcases Int.le_total p.2 q.2 with z|z
   ·have:=m2.1 z;lia
   ·have:=m2.2 z;lia
  generalize mx p.1 q.1=a at *;generalize mn p.2 q.2=b at *
  let(R,hR,r1,r2,r3):∃R,(if p.2 < q.2 then jq n [] (q::B) else jq n [p] B)=R/\Apart R/\(∀x∈R,p.1<=x.1/\x.2<=p.2/\(∃y∈q::B,y.1<=x.1/\x.2<=y.2)/\b+1 < x.1)/\∀d,Day R d↔(p.1<=d/\d<=p.2)/\Day B d:=by
   by_cases hd:p.2 < q.2
   ·rw[if_pos hd];have e:jq n [] (q::B)=[]:=by cases n<;>rfl
    rw[e];exact{[],rfl,{λ_ h=>(by cases h),List.Pairwise.nil},λ_ h=>(by cases h),λd=>{λz=>absurd z YH,λz=>by have:=hlow d z.2;lia}}
   ·rw[if_neg hd];let(i1,i2,i3):=qmL p hp n B (1:) ⟨λx hx=>hA.ok x (by simp[hx]),hg.2⟩;refine{_,rfl,i1,λx hx=>?_,i3};let(j1,j2,y,hy,j3,j4):=i2 x hx
    have:=hg.1 y hy
    exact{j1,j2,{y,by simp[hy],j3,j4},by lia}
  rw[hR]
  by_cases hc:a<=b
  ·rw[if_pos hc];refine{{λx hx=>?_,?_},λx hx=>?_,λd=>?_}
   ·rcases List.mem_cons.mp hx with rfl|hx
    ·exact hc
    ·exact r1.ok x hx
   ·exact List.pairwise_cons.mpr ⟨λx hx=>(r2 x hx).2.2.2,r1.ap⟩
   ·rcases List.mem_cons.mp hx with rfl|hx
    ·exact{by dsimp only;lia,by dsimp only;lia,q,by simp,by dsimp only;lia,by dsimp only;lia}
    ·exact{(r2 x hx).1,(r2 x hx).2.1,(r2 x hx).2.2.1}
   ·show Day ((a,b)::R) d↔_;rw[qV,qV,r3];dsimp only;constructor
    ·rintro (z|z)
     ·exact{by lia,.inl (1:)}
     ·exact{z.1,.inr z.2}
    ·rintro⟨z,y|y⟩
     ·left;lia
     ·exact .inr ⟨z,y⟩
  ·rw[if_neg hc,List.nil_append];refine{r1,λx hx=>{(r2 x hx).1,(r2 x hx).2.1,(r2 x hx).2.2.1},λd=>?_};rw[qV,r3];constructor
   ·intro z;exact{z.1,.inr z.2}
   ·rintro⟨z,y|y⟩
    ·lia
    ·exact⟨z,y⟩
def qjH{l:List Pr}(h:Spr l)(hl:l.length < 900){p:Pr}(hp:p.1<=p.2):Apart (Jf p l)/\(∀x∈Jf p l,p.1<=x.1/\x.2<=p.2)/\∀d,Day (Jf p l) d↔(p.1<=d/\d<=p.2)/\¬ Day l d:=by
 let(o1,o2,o3):=qc3 h p.1 p.2;let(b1,b2,b3):=qmL p hp 1000 (qR l p.1 p.2) (by have:=yP l p.1 p.2;lia) o1;refine{b1,λx hx=>{(b2 x hx).1,(b2 x hx).2.1},λd=>?_};unfold Jf;rw[b3];constructor
 ·rintro⟨z,y⟩;exact{z,(o3 d z.1 z.2).mp y}
 ·rintro⟨z,y⟩;exact{z,(o3 d z.1 z.2).mpr y}
def inP(p:Pa)(d:Int):Prop:=p.1<=d/\d<=p.2.1
instance (p:Pa)(d:Int):Decidable (inP p d):=by unfold inP;infer_instance
def ind(p:Pa)(d:Int):Int:=if inP p d then p.2.2 else 0
def pf:List Pa->Int->Int
 |[],_=>0
 | p::l,d=>if inP p d then p.2.2 else pf l d
structure PcOk(L:List Pa):Prop where
 ok:∀p∈L,p.1<=p.2.1/\1<=p.2.2/\p.2.2<=9
 ap:L.Pairwise λp q=>p.2.1 < q.1
def PcOk.tail{p:Pa}{l:List Pa}(h:PcOk (p::l)):PcOk l:={λq hq=>h.ok q (by simp[hq]),(List.pairwise_cons.mp h.ap).2}
def PcOk.w{L:List Pa}(h:PcOk L):WOk L:=λp hp=>(h.ok p hp).2
theorem zw{L:List Pa}{d:Int}(h:∀p∈L,¬ inP p d):pf L d=0:=by
 induction L with
 |nil=>rfl
 |cons p l ih=>rw[pf,if_neg (h p (5:))];exact ih λq hq=>h q (by simp[hq])
theorem qmM{a b:List Pa}{d:Int}:pf (a++b) d=if ∃p∈a,inP p d then pf a d else pf b d:=by
 induction a with
 |nil=>simp
 |cons p l ih=>
  rw[List.cons_append,pf]
  by_cases h:inP p d
  ·rw[if_pos h,if_pos ⟨p,by simp,h⟩,pf,if_pos h]
  ·rw[if_neg h,ih]
   by_cases g:∃q∈l,inP q d
   ·rw[if_pos g,if_pos (by let(q,hq,hh):=g;exact{q,by simp[hq],hh}),pf,if_neg h]
   ·rw[if_neg g,if_neg];rintro⟨q,hq,hh⟩;rcases List.mem_cons.mp hq with rfl|hq
    ·exact h hh
    ·exact g ⟨q,hq,hh⟩
theorem yf{L:List Pa}(hL:PcOk L){p:Pa}(hp:p∈L){d:Int}(h:inP p d):pf L d=p.2.2:=by
 induction L with
 |nil=>cases hp
 |cons q l ih=>
  rw[pf];rcases List.mem_cons.mp hp with rfl|hp
  ·rw[if_pos h]
  ·have:=(List.pairwise_cons.mp hL.ap).1 p hp
   rw[if_neg (λz=>by unfold inP at *;lia)];exact ih hL.tail hp
def qoC{L:List Pa}(hL:PcOk L)(d:Int):0<=pf L d:=by
 by_cases h:∃p∈L,inP p d
 ·let(p,hp,hd):=h;rw[yf hL hp hd]
  have:=(hL.ok p hp).2.1
  lia
 ·rw[zw λp hp hd=>h ⟨p,hp,hd⟩];exact Int.le_refl _
def qoD{L:List Pa}{d:Int}(h:pf L d≠0):∃p∈L,inP p d:=by
 by_cases q:∃p∈L,inP p d
 ·exact q
 ·exact absurd (zw λp hp hd=>q ⟨p,hp,hd⟩) h
theorem qoE{l:List (Str×Int)}(h:∀p∈l,LnOk p)(o:Option Str):wt l o<=9:=by
 induction l with
 |nil=>show(0:Int)<=9;decide
 |cons p l ih=>
  unfold wt;split
  ·exact(h p (5:)).nine
  ·exact ih λq hq=>h q (by simp[hq])
instance dayDec(F:List Pr)(d:Int):Decidable (Day F d):=decidable_of_iff _ Je
theorem qmN(w:Int)(F:List Pr)(d:Int):pf (F.map (Q0 w)) d=if Day F d then w else 0:=by
 induction F with
 |nil=>rw[if_neg YH];rfl
 |cons p l ih=>
  rw[List.map_cons,pf,ih]
  by_cases h:p.1<=d/\d<=p.2
  ·rw[if_pos (show inP (Q0 w p) d from h),if_pos (qV.mpr (.inl h))];rfl
  ·rw[if_neg (show ¬ inP (Q0 w p) d from h)]
   by_cases g:Day l d
   ·rw[if_pos g,if_pos (qV.mpr (.inr g))]
   ·rw[if_neg g,if_neg (λz=>(qV.mp z).elim h g)]
def Chw:Int->List St->Prop
 |_,[]=>True
 | e,s::l=>(e < s.2.1/\s.2.1<=s.2.2)/\Chw s.2.2 l
theorem Ch.w:∀{l:List St} {e:Int},Ch e l->Chw e l
 |[],_,_=>trivial
 | _::_,_,h=>{⟨h.1.lo,h.1.ab⟩,Ch.w h.2}
theorem YI{r:Ru}(hr:∀p∈r.lands,LnOk p){lf:List Pr}(hS:Spr lf)(hl:lf.length < 900):∀(st:List St) (e:Int),Chw e st->PcOk (qJ r lf st)/\(∀p∈qJ r lf st,e < p.1)/\∀d,pf (qJ r lf st) d=wgt r lf st d
 |[],e,_=>{{λ_ h=>(by cases h),List.Pairwise.nil},λ_ h=>(by cases h),λd=>(qbf rfl).symm}
 | s::st,e,hc=>by
  let(i1,i2,i3):=YI hr hS hl st s.2.2 hc.2;have h1:=hc.1.1;have h2:=hc.1.2;let(l1,l2,l3):=qjH hS hl (p:=(s.2.1,s.2.2)) h2;have w9:=qoE hr (some s.1)
  have one:PcOk (qQ r lf s)/\(∀p∈qQ r lf s,s.2.1<=p.1/\p.2.1<=s.2.2)/\∀d,pf (qQ r lf s) d=if (s.2.1<=d/\d<=s.2.2)/\¬ Day lf d then wt r.lands (some s.1) else 0:=by
   unfold qQ
   by_cases hw:0 < wt r.lands (some s.1)
   ·rw[if_pos hw];refine{{λp hp=>?_,?_},λp hp=>?_,λd=>?_}
    ·let(x,hx,rfl):=List.mem_map.mp hp;exact{l1.ok x hx,hw,w9}
    ·exact List.pairwise_map.mpr (l1.ap.imp λq=>by dsimp only[Q0];lia)
    ·let(x,hx,rfl):=List.mem_map.mp hp;exact l2 x hx
    ·rw[qmN]
     by_cases g:Day (Jf (s.2.1,s.2.2) lf) d
     ·rw[if_pos g,if_pos ((l3 d).mp g)]
     ·rw[if_neg g,if_neg (λz=>g ((l3 d).mpr z))]
   ·rw[if_neg hw];refine{{λ_ h=>(by cases h),List.Pairwise.nil},λ_ h=>(by cases h),λd=>?_}
    have:wt r.lands (some s.1)=0:=by have:=qmF hr (some s.1);lia
    rw[this];simp[pf]
  let(o1,o2,o3):=one;rw[qJ];refine{{λp hp=>?_,?_},λp hp=>?_,λd=>?_}
  ·rcases List.mem_append.mp hp with q|q
   ·exact o1.ok p q
   ·exact i1.ok p q
  ·refine List.pairwise_append.mpr ⟨o1.ap,i1.ap,λx hx y hy=>?_⟩
   have:=(o2 x hx).2
   have:=i2 y hy
   lia
  ·rcases List.mem_append.mp hp with q|q
   ·have:=(o2 p q).1;lia
   ·have:=i2 p q;lia
  ·rw[qmM]
   by_cases hd:s.2.1<=d/\d<=s.2.2
   ·have n:pf (qJ r lf st) d=0:=zw λp hp z=>by have:=i2 p hp;unfold inP at z;lia
    have e1:(if ∃p∈qQ r lf s,inP p d then pf (qQ r lf s) d else pf (qJ r lf st) d)=pf (qQ r lf s) d:=by
     split
     ·rfl
     ·rename_i g;rw[n,zw λp hp hz=>g ⟨p,hp,hz⟩]
    rw[e1,o3];unfold wgt zX;rw[if_pos hd]
    by_cases g:Day lf d
    ·rw[if_neg (λz=>z.2 g),if_pos (Je.mpr g)]
    ·rw[if_pos ⟨hd,g⟩,if_neg (λz=>g (Je.mp z))]
   ·rw[if_neg (λ⟨p,hp,z⟩=>by have:=o2 p hp;unfold inP at z;lia),i3];unfold wgt;rw[show zX (s::st) d=zX st d by conv=>lhs;unfold zX;rw[if_neg hd]]
def qgR(f t:Int)(p:Pa):Int:=if 0 < mn p.2.1 t - mx p.1 f+1 then (mn p.2.1 t - mx p.1 f+1) * p.2.2 else 0
def YV(f t:Int):List Pa->Int
 |[]=>0
 | p::l=>qgR f t p+YV f t l
theorem YJ(f t:Int):∀(l:List Pa) (a:Int),qhG f t l a=a+YV f t l
 |[],a=>by simp[qhG,YV]
 | p::l,a=>by
  rw[qhG,YJ f t l,YV];unfold qgR
  split<;>lia
theorem qb9(f t:Int):∀a b:List Pa,YV f t (a++b)=YV f t a+YV f t b
 |[],b=>by simp[YV]
 | p::a,b=>by rw[List.cons_append,YV,YV,qb9 f t a b];lia
theorem qca(f t:Int):∀l:List Pa,YV f t l.reverse=YV f t l
 |[]=>rfl
 | p::l=>by rw[List.reverse_cons,qb9,qca f t l,YV,YV,YV];lia
theorem qhN(p:Pa)(hp:p.1<=p.2.1)(f:Int):∀n:Nat,(ws (ind p) f n).sum=qgR f (f+n - 1) p
 |0=>by
  have m1:=qgJ p.1 f;have m2:=qam p.2.1 (f+(0:Nat) - 1);unfold qgR;rw[if_neg]
  ·simp[ws]
  ·rcases Int.le_total p.1 f with z|z<;>rcases Int.le_total p.2.1 (f+(0:Nat) - 1) with y|y
   ·have:=m1.1 z;have:=m2.1 y;lia
   ·have:=m1.1 z;have:=m2.2 y;lia
   ·have:=m1.2 z;have:=m2.1 y;lia
   ·have:=m1.2 z;have:=m2.2 y;lia
 | n+1=>by
  rw[qbg,qhN p hp f n];have m1:=qgJ p.1 f;have m2:=qam p.2.1 (f+(n:Int) - 1);have m3:=qam p.2.1 (f+((n+1:Nat):Int) - 1);have e:f+((n+1:Nat):Int) - 1=f+n:=by lia
  rw[e]at m3 ⊢;unfold qgR ind
  have hm1:p.1<=mx p.1 f/\f<=mx p.1 f/\(mx p.1 f=p.1\/mx p.1 f=f):=by
   rcases Int.le_total p.1 f with z|z
   ·have:=m1.1 z;lia
   ·have:=m1.2 z;lia
  generalize mx p.1 f=a at *
  by_cases h1:f+(n:Int) < p.1
  ·rw[if_neg (c:=inP p (f+(n:Int))) (λz=>by unfold inP at z;lia)]
   have:=m2.2 (1:)
   have:=m3.2 (1:)
   rw[if_neg (1:),if_neg (1:)];rfl
  ·by_cases h2:p.2.1 < f+(n:Int)
   ·rw[if_neg (c:=inP p (f+(n:Int))) (λz=>by unfold inP at z;lia)];have a1:=m2.1 (1:);have a2:=m3.1 (1:);rw[a1,a2]
    lia
   ·rw[if_pos (c:=inP p (f+(n:Int))) ⟨by lia,by lia⟩];have a1:=m2.2 (1:);have a2:=m3.2 (1:);rw[a1,a2];have hpos:0 < f+(n:Int) - a+1:=by lia
    rw[if_pos hpos]
    by_cases h3:0 < f+(n:Int) - 1 - a+1
    ·rw[if_pos h3,show f+(n:Int) - a+1=(f+(n:Int) - 1 - a+1)+1 by lia];generalize f+(n:Int) - 1 - a+1=k;rw[Int.add_mul,Int.one_mul]
    ·rw[if_neg h3,show f+(n:Int) - a+1=1 by lia,Int.one_mul]
     lia
theorem qhO{f g h:Int->Int}:∀(n:Nat) (lo:Int),(∀x,f x=g x+h x)->(ws f lo n).sum=(ws g lo n).sum+(ws h lo n).sum
 |0,_,_=>by simp[ws]
 | n+1,lo,e=>by
  rw[ws,ws,ws,List.sum_cons,List.sum_cons,List.sum_cons,qhO n (lo+1) e,e lo]
  lia
theorem qoF{L:List Pa}(hL:PcOk L)(f:Int)(n:Nat):(ws (pf L) f n).sum=YV f (f+n - 1) L:=by
 induction L with
 |nil=>rw[YV];exact QZ n f λx _ _=>rfl
 |cons p l ih=>
  have hp:=(hL.ok p (5:)).1;rw[YV,<-qhN p hp,<-ih hL.tail];refine qhO n f λx=>?_;rw[pf];unfold ind
  by_cases h:inP p x
  ·rw[if_pos h,if_pos h,zw λq hq z=>by have:=(List.pairwise_cons.mp hL.ap).1 q hq;unfold inP at *;lia]
   lia
  ·rw[if_neg h,if_neg h]
   lia
def chn(leave d:Int):List Pa->Int->Int
 |[],_=>0
 | p::R,f=>if p.1<=d then (if leave<=f - 1 - mn p.2.1 d then 0 else (mn p.2.1 d - p.1+1) * p.2.2+chn leave d R p.1) else chn leave d R f
structure RvOk(R:List Pa):Prop where
 ok:∀p∈R,p.1<=p.2.1
 ap:R.Pairwise λp q=>q.2.1 < p.1
def RvOk.of{L:List Pa}(h:PcOk L):RvOk L.reverse:={λp hp=>(h.ok p (-hp:)).1,List.pairwise_reverse.mpr h.ap}
def RvOk.tail{p:Pa}{R:List Pa}(h:RvOk (p::R)):RvOk R:={λq hq=>h.ok q (by simp[hq]),(List.pairwise_cons.mp h.ap).2}
def qmO(a b:Int):mn a b<=a/\mn a b<=b/\(mn a b=a\/mn a b=b):=by
 unfold mn
 split<;>lia
def qgS(a b:Int):a<=mx a b/\b<=mx a b/\(mx a b=a\/mx a b=b):=by
 unfold mx
 split<;>lia
theorem qao{f t:Int}:∀{R:List Pa},(∀p∈R,p.2.1 < f)->YV f t R=0
 |[],_=>rfl
 | p::R,h=>by rw[YV,qao λq hq=>h q (by simp[hq])];have h0:=h p (5:);have h1:=qmO p.2.1 t;have h2:=qgS p.1 f;unfold qgR;rw[if_neg (1:)];rfl
theorem qeQ{leave d:Int}(hl:1<=leave):∀(R:List Pa) (f:Int),RvOk R->(d < f\/∀p∈R,p.2.1 < f)->fsF leave d R f<=f/\YV (fsF leave d R f) d R=chn leave d R f
 |[],f,_,_=>{Int.le_refl _,rfl}
 | p::R,f,hR,hf=>by
  have hp:=hR.ok p (5:);have hg:=(List.pairwise_cons.mp hR.ap).1;have hm:=qmO p.2.1 d;rw[fsF,chn,YV]
  by_cases h1:p.1<=d
  ·rw[if_pos h1,if_pos h1]
   by_cases h2:leave<=f - 1 - mn p.2.1 d
   ·rw[if_pos h2,if_pos h2];refine{Int.le_refl _,?_};rw[qao λq hq=>by have:=hg q hq;lia]
    have:=qgS p.1 f
    unfold qgR;rw[if_neg (1:)];rfl
   ·rw[if_neg h2,if_neg h2];let(i1,i2):=qeQ (d:=d) hl R p.1 hR.tail (.inr hg)
    have hlt:p.1<=f:=by
     rcases hf with q|q
     ·lia
     ·have:=q p (5:);lia
    refine{by lia,?_};rw[i2]
    have:=qgS p.1 (fsF leave d R p.1)
    have e:mx p.1 (fsF leave d R p.1)=p.1:=by lia
    unfold qgR;rw[e,if_pos (1:)]
  ·rw[if_neg h1,if_neg h1];let(i1,i2):=qeQ hl R f hR.tail (hf.imp id λq x hx=>q x (by simp[hx]));refine{i1,?_};rw[i2]
   have:=qgS p.1 (fsF leave d R f)
   unfold qgR;rw[if_neg (1:)]
   lia
theorem Q5{leave d:Int}:∀(B R:List Pa) (f:Int),(∀p∈B,d < p.1)->chn leave d (B++R) f=chn leave d R f
 |[],R,f,_=>rfl
 | p::B,R,f,h=>by have h0:=h p (5:);rw[List.cons_append,chn,if_neg (1:)];exact Q5 B R f λq hq=>h q (by simp[hq])
theorem Q6{leave d d':Int}:∀(R:List Pa) (f:Int),(∀p∈R,p.1<=p.2.1/\p.2.1<=d/\p.2.1<=d')->chn leave d R f=chn leave d' R f
 |[],_,_=>rfl
 | p::R,f,h=>by have h0:=h p (5:);have e1:mn p.2.1 d=p.2.1:=(qam p.2.1 d).1 h0.2.1;have e2:mn p.2.1 d'=p.2.1:=(qam p.2.1 d').1 h0.2.2;rw[chn,chn,if_pos (c:=p.1<=d) (1:),if_pos (c:=p.1<=d') (1:),e1,e2,Q6 R p.1 λq hq=>h q (by simp[hq])]
def qeR{r:Ru}(hk:r.kd.isW=true)(h1:1<=r.days){L:List Pa}(hL:PcOk L)(d:Int):qK r L d=(ws (pf L) (d - r.days+1) r.days.toNat).sum:=by
 unfold qK qfw;rw[if_pos hk,YJ,qoF hL,show d - r.days+1+(r.days.toNat:Int) - 1=d by lia]
 lia
def qeS{r:Ru}(hk:r.kd.isW=false)(h1:1<=r.days){L:List Pa}(hL:PcOk L)(d:Int):qK r L d=chn r.days d L.reverse (d+1):=by
 unfold qK qfw;rw[if_neg (by rw[hk];decide),YJ,<-qca,(qeQ h1 L.reverse (d+1) (RvOk.of hL) (.inl (1:))).2]
 lia
theorem qcb{d:Int}:∀{R:List Pa},RvOk R->∃B A,R=B++A/\(∀p∈B,d < p.1)/\∀p∈A,p.1<=d
 |[],_=>{[],[],rfl,λ_ h=>(by cases h),λ_ h=>(by cases h)}
 | p::R,h=>by
  by_cases hd:d < p.1
  ·let(B,A,e,h1,h2):=qcb (d:=d) h.tail;refine{p::B,A,by rw[e];rfl,λq hq=>?_,h2};rcases List.mem_cons.mp hq with rfl|hq
   ·exact hd
   ·exact h1 q hq
  ·refine{[],p::R,rfl,λ_ h=>(by cases h),λq hq=>?_};rcases List.mem_cons.mp hq with rfl|hq
   ·lia
   ·have:=(List.pairwise_cons.mp h.ap).1 q hq
    have:=h.ok q (by simp[hq])
    lia
def qc4(f:Int->Int)(n d:Int):Prop:=∀x,d - n < x->x<=d->f x=0
theorem qc5{leave:Int}(h1:1<=leave){L:List Pa}(hL:PcOk L)(d:Int) :
  (qc4 (pf L) leave d->chn leave d L.reverse (d+1)=0)/\(¬ qc4 (pf L) leave d->chn leave d L.reverse (d+1)=chn leave (d - 1) L.reverse d+pf L d):=by
 have hR:=RvOk.of hL;let(B,A,e,hB,hA):=qcb (d:=d) hR;have mem:∀p,p∈L↔p∈B\/p∈A:=λp=>by rw[<-List.mem_reverse,e,List.mem_append]
 rw[e,Q5 B A _ hB,Q5 B A _ (λp hp=>by have:=hB p hp;lia)]
 cases A with
 |nil=>
  refine{λ_=>rfl,λh=>absurd (λx _ hx=>?_) h}
  exact zw λp hp z=>by
   rcases (mem p).mp hp with q|q
   ·have:=hB p q;unfold inP at z;lia
   ·cases q
 |cons q A=>
  have hq:q∈L:=(mem q).mpr (.inr (5:));have hqo:=hL.ok q hq;have hq1:=hA q (5:)
  have hap:∀p∈A,p.2.1 < q.1:=by
   have:=hR.ap
   rw[e]at this;exact(List.pairwise_cons.mp (List.pairwise_append.mp this).2.1).1
  have hAo:∀p∈A,p.1<=p.2.1:=λp hp=>(hL.ok p ((mem p).mpr (.inr (by simp[hp])))).1;have hm:=qam q.2.1 d;have hm':=qam q.2.1 (d - 1)
  by_cases hd:d<=q.2.1
  ·have hpf:pf L d=q.2.2:=yf hL hq ⟨hq1,hd⟩;refine{λh=>?_,λ_=>?_}
   ·have:=h d (1:) (Int.le_refl _)
    lia
   ·rw[hpf,chn,if_pos hq1,hm.2 hd,if_neg (1:)]
    by_cases hb:q.1<=d - 1
    ·rw[chn,if_pos hb,hm'.2 (1:),if_neg (1:),Q6 (d:=d) (d':=d - 1) A q.1 λp hp=>by have:=hap p hp;have:=hAo p hp;lia];rw[show d - q.1+1=(d - 1 - q.1+1)+1 by lia];generalize d - 1 - q.1+1=k;rw[Int.add_mul,Int.one_mul]
     lia
    ·rw[chn,if_neg hb,Q6 (d:=d) (d':=d - 1) A q.1 λp hp=>by have:=hap p hp;have:=hAo p hp;lia];rw[show q.1=d by lia,show d - d+1=1 by lia,Int.one_mul]
     lia
  ·have hz:∀x,q.2.1 < x->x<=d->pf L x=0:=λx h2 h3=>zw λp hp z=>by
    rcases (mem p).mp hp with y|y
    ·have:=hB p y;unfold inP at z;lia
    ·rcases List.mem_cons.mp y with rfl|y
     ·unfold inP at z;lia
     ·have:=hap p y;unfold inP at z;lia
   have hpf:pf L q.2.1=q.2.2:=yf hL hq ⟨hqo.1,Int.le_refl _⟩;rw[chn,if_pos hq1,hm.1 (1:),chn,if_pos (c:=q.1<=d - 1) (1:),hm'.1 (1:),hz d (1:) (Int.le_refl _)];refine{λh=>?_,λh=>?_}
   ·rw[if_pos]
    by_cases y:leave<=d+1 - 1 - q.2.1
    ·exact y
    ·have:=h q.2.1 (1:) (1:)
     lia
   ·have y:¬ leave<=d+1 - 1 - q.2.1:=λy=>h λx h2 h3=>hz x (1:) h3;rw[if_neg y,if_neg (1:),Q6 (d:=d) (d':=d - 1) A q.1 λp hp=>by have:=hap p hp;have:=hAo p hp;lia]
    lia
structure Cnt(w:Bool)(n:Int)(f C:Int->Int):Prop where
 nn:∀d,0<=f d
 low:∃b,∀d,d < b->C d=0/\f d=0
 win:w=true->∀d,C d=(ws f (d - n+1) n.toNat).sum
 idle:w=false->∀d,qc4 f n d->C d=0
 busy:w=false->∀d,¬ qc4 f n d->C d=C (d - 1)+f d
theorem qmP{L:List Pa}(hL:PcOk L):∃b,∀d,d < b->pf L d=0:=by
 induction L with
 |nil=>exact{0,λ_ _=>rfl}
 |cons p l _=>
  refine{p.1,λd hd=>zw λq hq z=>?_};have h0:=(hL.ok p (5:)).1;rcases List.mem_cons.mp hq with rfl|hq
  ·unfold inP at z;lia
  ·have:=(List.pairwise_cons.mp hL.ap).1 q hq
   unfold inP at z;lia
theorem qap{r:Ru}(h1:1<=r.days){L:List Pa}(hL:PcOk L):Cnt r.kd.isW r.days (pf L) (qK r L):=by
 let(b,hb):=qmP hL
 have sn:r.kd.isW=false->∀d,(qc4 (pf L) r.days d->qK r L d=0)/\(¬ qc4 (pf L) r.days d->qK r L d=qK r L (d - 1)+pf L d):=λhk d=>by rw[qeS hk h1 hL,qeS hk h1 hL,show d - 1+1=d by lia];exact qc5 h1 hL d
 refine{qoC hL,{b,λd hd=>{?_,hb d hd}},λhk=>qeR hk h1 hL,λhk d=>(sn hk d).1,λhk d=>(sn hk d).2}
 cases hk:r.kd.isW with
 |true=>rw[qeR hk h1 hL];exact QZ _ _ λx h2 h3=>hb x (1:)
 |false=>exact(sn hk d).1 λx _ hx=>hb x (1:)
namespace Cnt
variable{w:Bool}{n:Int}{f C:Int->Int}
def step(h:Cnt w n f C)(hw:w=true)(hn:1<=n)(d:Int):C d=C (d - 1)+f d - f (d - n):=by
 rw[h.win hw d,h.win hw (d - 1)];let(m,rfl):∃m:Nat,n=((m+1:Nat):Int):={(n - 1).toNat,by lia};rw[Int.toNat_natCast,qbg,show d - 1 - ((m+1:Nat):Int)+1=d - ((m+1:Nat):Int) by lia,ws,List.sum_cons,show d - ((m+1:Nat):Int)+1+(m:Int)=d by lia]
 lia
theorem pos(h:Cnt w n f C)(d:Int):0<=C d:=by
 cases hw:w with
 |true=>rw[h.win hw];exact qmH h.nn _ _
 |false=>
  let(b,hb):=h.low
  have:∀m:Nat,∀d,d < b+m->0<=C d:=by
   intro m
   induction m with
   |zero=>intro d hd;rw[(hb d (1:)).1];exact Int.le_refl _
   |succ m ih=>
    intro d hd
    by_cases hi:qc4 f n d
    ·rw[h.idle hw d hi];exact Int.le_refl _
    ·rw[h.busy hw d hi]
     have:=ih (d - 1) (1:)
     have:=h.nn d
     lia
  exact this (d - b+1).toNat d (1:)
theorem grow(h:Cnt w n f C)(hn:1<=n)(d:Int):C d<=C (d - 1)+f d:=by
 cases hw:w with
 |true=>rw[h.step hw hn d];have:=h.nn (d - n);lia
 |false=>
  by_cases hi:qc4 f n d
  ·rw[h.idle hw d hi]
   have:=h.pos (d - 1)
   have:=h.nn d
   lia
  ·rw[h.busy hw d hi];exact Int.le_refl _
def busy'(h:Cnt w n f C)(hw:w=false)(hn:1<=n){d:Int}(hd:f d≠0):C d=C (d - 1)+f d:=
 h.busy hw d λz=>hd (z d (1:) (Int.le_refl _))
def keeps(h:Cnt w n f C)(hn:1<=n){m a b:Int}(ha:C a<=m)(hz:∀x,a < x->x < b->f x=0):∀x,a<=x->x < b->C x<=m:=by
 have:∀k:Nat,∀x,a<=x->x < b->x < a+k+1->C x<=m:=by
  intro k
  induction k with
  |zero=>intro x h1 h2 h3;rw[show x=a by lia];exact ha
  |succ k ih=>
   intro x h1 h2 h3
   by_cases y:x=a
   ·rw[y];exact ha
   ·have:=h.grow hn x
    rw[hz x (1:) h2]at this
    have:=ih (x - 1) (1:) (1:) (1:)
    lia
 exactλx h1 h2=>this (x - a).toNat x h1 h2 (1:)
end Cnt
theorem qeT{f g:Int->Int}(h:∀x,f x<=g x):∀(n:Nat) (lo:Int),(ws f lo n).sum<=(ws g lo n).sum
 |0,_=>by simp[ws]
 | n+1,lo=>by
  have:=qeT h n (lo+1)
  have:=h lo
  rw[ws,ws,List.sum_cons,List.sum_cons]
  lia
theorem qeU{f:Int->Int}(h:∀x,0<=f x)(k:Nat):∀(m:Nat) (lo:Int),(ws f (lo+m) k).sum<=(ws f lo (m+k)).sum
 |0,lo=>by rw[Nat.zero_add,show lo+((0:Nat):Int)=lo by lia];exact Int.le_refl _
 | m+1,lo=>by
  have i:=qeU h k m (lo+1)
  have:=h lo
  rw[show m+1+k=(m+k)+1 by lia,ws,List.sum_cons];rw[show lo+((m+1:Nat):Int)=lo+1+(m:Int) by lia]
  lia
theorem Cnt.mono{w:Bool}{n n':Int}{f f' C C':Int->Int}(h:Cnt w n f C)(h':Cnt w n' f' C')(h1:1<=n')(h2:n'<=n)(hf:∀x,f' x<=f x)(d:Int):C' d<=C d:=by
 cases hw:w with
 |true=>
  rw[h.win hw,h'.win hw];have a:=qeU h.nn n'.toNat (n - n').toNat (d - n+1);rw[show(n - n').toNat+n'.toNat=n.toNat by lia,show d - n+1+((n - n').toNat:Int)=d - n'+1 by lia]at a;have b:=qeT hf n'.toNat (d - n'+1)
  lia
 |false=>
  let(b,hb):=h'.low
  have:∀m:Nat,∀d,d < b+m->C' d<=C d:=by
   intro m
   induction m with
   |zero=>intro d hd;rw[(hb d (1:)).1];exact h.pos d
   |succ m ih=>
    intro d hd
    by_cases hi:qc4 f' n' d
    ·rw[h'.idle hw d hi];exact h.pos d
    ·have hi':¬ qc4 f n d:=λz=>hi λx h3 h4=>by
      have:=z x (1:) h4
      have:=hf x
      have:=h'.nn x
      lia
     rw[h'.busy hw d hi,h.busy hw d hi']
     have:=ih (d - 1) (1:)
     have:=hf d
     lia
  exact this (d - b+1).toNat d (1:)
def qjI{r:Ru}(h1:1<=r.days){L:List Pa}(hL:PcOk L):qka r L:=λd=>by
 have g:=(qap h1 hL).grow h1 d
 have:pf L d<=9:=by
  by_cases h:∃p∈L,inP p d
  ·let(p,hp,hd):=h;rw[yf hL hp hd];exact(hL.ok p hp).2.2
  ·rw[zw λp hp hd=>h ⟨p,hp,hd⟩];decide
 lia
def qjJ{L:List Pa}(hL:PcOk L){y:Int}(h:pf L y≠pf L (y - 1)):∃p∈L,y=p.1\/y=p.2.1+1:=by
 by_cases h1:∃p∈L,inP p y
 ·let(p,hp,hd):=h1;refine{p,hp,?_}
  by_cases h2:inP p (y - 1)
  ·rw[yf hL hp hd,yf hL hp h2]at h;exact absurd rfl h
  ·unfold inP at *;lia
 ·rw[zw λp hp hd=>h1 ⟨p,hp,hd⟩]at h;let(p,hp,hd):=qoD (Ne.symm h);refine{p,hp,?_};have nz:¬ inP p y:=λz=>h1 ⟨p,hp,z⟩;unfold inP at *
  lia
theorem YK{s x:Int}:∀{L:List Pa},x∈zL s L↔∃p∈L,x=p.1+s\/x=p.2.1+1+s
 |[]=>by simp[zL]
 | p::L=>by
  rw[zL,List.mem_cons,List.mem_cons,YK];constructor
  ·rintro (h|h|⟨q,hq,h⟩)
   ·exact{p,by simp,.inl h}
   ·exact{p,by simp,.inr h}
   ·exact{q,by simp[hq],h}
  ·rintro⟨q,hq,h⟩;rcases List.mem_cons.mp hq with rfl|hq
   ·exact h.elim .inl λz=>.inr (.inl z)
   ·exact .inr (.inr ⟨q,hq,h⟩)
theorem qcc(s:Int):∀{L:List Pa},PcOk L->(zL s L).Pairwise (·<=·)
 |[],_=>List.Pairwise.nil
 | p::L,h=>by
  have h0:=(h.ok p (5:)).1;have hg:=(List.pairwise_cons.mp h.ap).1
  have lo:∀x∈zL s L,p.2.1+1+s<=x:=λx hx=>by
   let(q,hq,z):=YK.mp hx
   have:=hg q hq
   have:=(h.ok q (by simp[hq])).1
   lia
  rw[zL];refine List.pairwise_cons.mpr ⟨λx hx=>?_,List.pairwise_cons.mpr ⟨lo,qcc s h.tail⟩⟩;rcases List.mem_cons.mp hx with rfl|hx
  ·lia
  ·have:=lo x hx;lia
def Fst(r:Ru)(L:List Pa)(f t:Int):Option Int->Prop
 |none=>∀x,f<=x->x<=t->qK r L x<=r.most
 |some d=>f<=d/\d<=t/\r.most < qK r L d/\∀x,f<=x->x < d->qK r L x<=r.most
def qcd{r:Ru}{L:List Pa}{b e:Int}(h0:qK r L (b - 1)<=r.most)(hg:∀x,b < x->x<=e->qK r L x - qK r L (x - 1)=qK r L (x - 1) - qK r L (x - 2)):Fst r L b e (JP r L b e):=by
 have lin:∀k:Nat,b+k<=e->qK r L (b+k)=qK r L (b - 1)+((k:Int)+1) * (qK r L b - qK r L (b - 1))/\qK r L (b+k) - qK r L (b+k - 1)=qK r L b - qK r L (b - 1):=by
  intro k
  induction k with
  |zero=>intro _;rw[show b+((0:Nat):Int)=b by lia,show(((0:Nat):Int)+1)=1 by rfl,Int.one_mul];lia
  |succ k ih=>
   intro hk;let(i1,i2):=ih (1:);have g:=hg (b+((k+1:Nat):Int)) (1:) hk;rw[show b+((k+1:Nat):Int) - 1=b+k by lia,show b+((k+1:Nat):Int) - 2=b+k - 1 by lia]at g;rw[show b+((k+1:Nat):Int) - 1=b+k by lia,show(((k+1:Nat):Int)+1)=((k:Int)+1)+1 by lia,Int.add_mul _ 1,Int.one_mul]
   lia
 have lin':∀x,b<=x->x<=e->qK r L x=qK r L (b - 1)+(x - b+1) * (qK r L b - qK r L (b - 1)):=λx h1 h2=>by
  have:=(lin (x - b).toNat (1:)).1
  rw[show b+((x - b).toNat:Int)=x by lia,show((x - b).toNat:Int)=x - b by lia]at this;exact this
 unfold JP;generalize qK r L b - qK r L (b - 1)=g at *;generalize hc:qK r L (b - 1)=c at *
 by_cases h1:g<=0
 ·rw[if_pos h1];intro x h2 h3;rw[lin' x h2 h3]
  have:=Int.mul_nonpos_of_nonneg_of_nonpos (show 0<=x - b+1 by lia) h1
  lia
 ·rw[if_neg h1];have q:∀x,x - b+1<=(r.most - c) / g↔(x - b+1) * g<=r.most - c:=λx=>Int.le_ediv_iff_mul_le (1:);have q0:0<=(r.most - c) / g:=Int.ediv_nonneg (1:) (1:);generalize (r.most - c) / g=k at *
  by_cases h2:b+k<=e
  ·rw[if_pos h2];refine{by lia,h2,?_,λx h3 h4=>?_}
   ·rw[lin' _ (1:) h2]
    have:=mt (q (b+k)).mpr (1:)
    lia
   ·rw[lin' x h3 (1:)]
    have:=(q x).mp (1:)
    lia
  ·rw[if_neg h2];intro x h3 h4;rw[lin' x h3 h4]
   have:=(q x).mp (1:)
   lia
theorem qhP{r:Ru}{L:List Pa}{t:Int}:∀(ts:List Int) (f:Int),qK r L (f - 1)<=r.most->(∀x,f < x->x<=t->x∉ts->qK r L x - qK r L (x - 1)=qK r L (x - 1) - qK r L (x - 2))->(f::ts).Pairwise (·<=·)->(∀b∈ts,b<=t)->Fst r L f t (JA r L (qhI f t ts))
 |[],f,h0,hg,_,_=>by
  have a:=qcd (r:=r) (L:=L) (b:=f) (e:=t) h0 λx h1 h2=>hg x h1 h2 (5:);show Fst r L f t (JA r L [(f,t)]);rw[JA]
  cases e:JP r L f t with
  |none=>rw[e]at a;exact a
  |some d=>rw[e]at a;exact a
 | b::ts,f,h0,hg,hp,ht=>by
  let(hp1,hp2):=List.pairwise_cons.mp hp;have hfb:=hp1 b (5:);have hbt:=ht b (5:);have hpb:=(List.pairwise_cons.mp hp2).1
  have a:=qcd (r:=r) (L:=L) (b:=f) (e:=b - 1) h0 λx h1 h2=>hg x h1 (1:) (λz=>by
   rcases List.mem_cons.mp z with rfl|z
   ·lia
   ·have:=hpb x z;lia)
  show Fst r L f t (JA r L ((f,b - 1)::qhI b t ts));rw[JA]
  cases e:JP r L f (b - 1) with
  |some d=>rw[e]at a;exact{a.1,by have:=a.2.1;lia,a.2.2.1,a.2.2.2}
  |none=>
   rw[e]at a;have low:∀x,f<=x->x<=b - 1->qK r L x<=r.most:=a
   have i:=qhP ts b (by
    by_cases z:f<=b - 1
    ·exact low _ z (Int.le_refl _)
    ·rw[show b - 1=f - 1 by lia];exact h0) (λx h1 h2 h3=>hg x (1:) h2 λz=>by
     rcases List.mem_cons.mp z with rfl|z
     ·lia
     ·exact h3 z) hp2 λx hx=>ht x (by simp[hx])
   dsimp only;generalize JA r L (qhI b t ts)=o at i
   cases o with
   |none=>
    intro x h1 h2
    by_cases z:x<=b - 1
    ·exact low x h1 z
    ·exact i x (1:) h2
   |some d=>
    refine{by have:=i.1;lia,i.2.1,i.2.2.1,λx h1 h2=>?_}
    by_cases z:x<=b - 1
    ·exact low x h1 z
    ·exact i.2.2.2 x (1:) h2
def qpn(r:Ru)(L:List Pa):Option Int->Prop
 |none=>∀x,qK r L x<=r.most
 |some d=>r.most < qK r L d/\∀x,x < d->qK r L x<=r.most
theorem qeV{r:Ru}(h1:1<=r.days){L:List Pa}(hL:PcOk L){p:Pa}(hp:p∈L){x:Int}(hx:p.1 < x)(hx':x<=p.2.1)(ht:x∉zY r L):qK r L x - qK r L (x - 1)=qK r L (x - 1) - qK r L (x - 2):=by
 have c:=qap h1 hL;have e1:pf L x=p.2.2:=yf hL hp ⟨by lia,hx'⟩;have e2:pf L (x - 1)=p.2.2:=yf hL hp ⟨by lia,by lia⟩;have hw:=(hL.ok p hp).2.1
 cases hk:r.kd.isW with
 |true=>
  have s1:=c.step hk h1 x;have s2:=c.step hk h1 (x - 1);unfold zY at ht;rw[if_pos hk]at ht
  have:pf L (x - r.days)=pf L (x - r.days - 1):=by
   by_cases z:pf L (x - r.days)=pf L (x - r.days - 1)
   ·exact z
   ·let(q,hq,y):=qjJ hL z;exact absurd (YK.mpr ⟨q,hq,by lia⟩) ht
  rw[show x - 1 - r.days=x - r.days - 1 by lia,show x - 1 - 1=x - 2 by lia]at s2
  lia
 |false=>
  have s1:=c.busy' hk h1 (d:=x) (1:);have s2:=c.busy' hk h1 (d:=x - 1) (1:);rw[show x - 1 - 1=x - 2 by lia]at s2
  lia
theorem qaq{r:Ru}(h1:1<=r.days)(h0:0<=r.most){L:List Pa}(hL:PcOk L):∀(l A:List Pa),L=A++l->(∀x,(∀p∈l,x < p.1)->qK r L x<=r.most)->qpn r L (yd r L (zY r L) l)
 |[],A,_,h=>λx=>h x λ_ z=>(by cases z)
 | p::l,A,e,h=>by
  have hp:p∈L:=by rw[e];simp
  have hpo:=hL.ok p hp;have hsp:=hL.ap;rw[e]at hsp;have hlo:=(List.pairwise_cons.mp (List.pairwise_append.mp hsp).2.1).1;have hA:=(List.pairwise_append.mp hsp).2.2;have hl:∀q∈l,q.1<=q.2.1:=λq hq=>(hL.ok q (by rw[e];simp[hq])).1
  have before:∀x,x < p.1->qK r L x<=r.most:=λx hx=>h x λq hq=>by
   rcases List.mem_cons.mp hq with rfl|hq
   ·exact hx
   ·have:=hlo q hq;lia
  have tu:(zY r L).Pairwise (·<=·):=by
   unfold zY;split
   ·exact qcc _ hL
   ·exact List.Pairwise.nil
  have i:=qhP (r:=r) (L:=L) (t:=p.2.1) ((zY r L).filter (inB p.1 p.2.1)) p.1 (before _ (1:)) (λx h2 h3 h4=>qeV h1 hL hp h2 h3 λz=>h4 (List.mem_filter.mpr ⟨z,by unfold inB;simp;lia⟩)) (List.pairwise_cons.mpr ⟨λb hb=>by
    have:=(List.mem_filter.mp hb).2
    unfold inB at this;simp at this
    lia,tu.filter _⟩) (λb hb=>by
    have:=(List.mem_filter.mp hb).2
    unfold inB at this;simp at this
    lia)
  rw[yd]
  cases o:JA r L (qhI p.1 p.2.1 ((zY r L).filter (inB p.1 p.2.1))) with
  |some d=>
   rw[o]at i;refine{i.2.2.1,λx hx=>?_}
   by_cases z:x < p.1
   ·exact before x z
   ·exact i.2.2.2 x (1:) hx
  |none=>
   rw[o]at i;have within:∀x,p.1<=x->x<=p.2.1->qK r L x<=r.most:=i;refine qaq h1 h0 hL l (A++[p]) (by rw[e];simp) λx hx=>?_
   by_cases z:x < p.1
   ·exact before x z
   ·by_cases y:x<=p.2.1
    ·exact within x (1:) y
    ·refine(qap h1 hL).keeps h1 (a:=p.2.1) (b:=x+1) (within _ hpo.1 (Int.le_refl _)) (λu h2 h3=>zw λq hq hz=>?_) x (1:) (1:);rw[e]at hq;unfold inP at hz;rcases List.mem_append.mp hq with g|g
     ·have:=hA q g p (5:);lia
     ·rcases List.mem_cons.mp g with rfl|g
      ·lia
      ·have:=hx q g;lia
def qce{r:Ru}(h1:1<=r.days)(h0:0<=r.most){L:List Pa}(hL:PcOk L):qpn r L (qt r L):=by
 refine qaq h1 h0 hL L [] rfl λx hx=>?_;have z:∀y,y<=x->pf L y=0:=λy hy=>zw λp hp hz=>by have:=hx p hp;unfold inP at hz;lia
 have c:=qap h1 hL
 have:qK r L x=0:=by
  cases hk:r.kd.isW with
  |true=>rw[c.win hk];exact QZ _ _ λy _ h3=>z y (1:)
  |false=>exact c.idle hk x λy _ hy=>z y hy
 lia
def cb(st:List St)(x:Rl)(d:Int):Int:=qK x.1 (Jp st x) d
structure Rlw(x:Rl):Prop where
 ln:∀p∈x.1.lands,LnOk p
 days:1<=x.1.days
 most:0<=x.1.most
 spr:Spr x.2
 len:x.2.length<=20
section
variable{st:List St}{x:Rl}(h:Rlw x){e:Int}(hc:Chw e st)
include h hc
theorem qar:PcOk (Jp st x):=(YI h.ln h.spr (by have:=h.len;lia) st e hc).1
theorem qmQ:pf (Jp st x)=wgt x.1 x.2 st:=funext (YI h.ln h.spr (by have:=h.len;lia) st e hc).2.2
theorem qoG:Cnt x.1.kd.isW x.1.days (wgt x.1 x.2 st) (cb st x):=by rw[<-qmQ h hc];exact qap h.days (qar h hc)
theorem qoH:RlOk st x:={h.ln,(qar h hc).w,qjI h.days (qar h hc),h.len}
theorem qjK(hn:qt x.1 (Jp st x)=none)(d:Int):cb st x d<=x.1.most:=by
 have:=qce h.days h.most (qar h hc)
 rw[hn]at this;exact this d
theorem qjL{d:Int}(hn:qt x.1 (Jp st x)=some d):x.1.most < cb st x d/\∀y,y < d->cb st x y<=x.1.most:=by
 have:=qce h.days h.most (qar h hc)
 rw[hn]at this;exact this
end
def qmR{rs:List Ru}{ps:List Pa}(hr:∀r∈rs,(∀p∈r.lands,LnOk p)/\1<=r.days/\0<=r.most)(hp:∀p∈ps,p.2.1<=p.2.2)(hl:ps.length<=4):∀x∈rlF ps 0 rs,Rlw x:=λx hx=>by
 let(j,e1,e2):=qjB hx;let(a,b,c):=hr x.1 (List.mem_of_getElem? e1)
 have ok:∀n:Int,∀p∈ofN n ps,p.1<=p.2:=λn p h=>by unfold ofN at h;let(q,hq,rfl):=List.mem_map.mp h;exact hp q (List.mem_filter.mp hq).1
 refine{a,b,c,?_,?_}
 ·rw[e2];exact qjw (ok _)
 ·rw[e2];have h1:=qjx (ok ((0+j:Nat):Int));have h2:=qeH ((0+j:Nat):Int) ps;unfold QX
  lia
structure WF(f:Int->Int)(n d a:Int):Prop where
 le:a<=d
 ne:f a≠0
 ahead:qc4 f n (a - 1)
 busy:∀x,a<=x->x<=d->¬ qc4 f n x
def Cnt.eq{w:Bool}{n:Int}{f C C':Int->Int}(h:Cnt w n f C)(h':Cnt w n f C')(hn:1<=n)(d:Int):C' d=C d:=by
 have a:=Cnt.mono h h' hn (Int.le_refl _) (λ_=>Int.le_refl _) d;have b:=Cnt.mono h' h hn (Int.le_refl _) (λ_=>Int.le_refl _) d
 lia
open L2
noncomputable abbrev yG:Ss:=%[.ite (.or (.not (.val (.call "is_name" %[3|0]))) (.one (.cmp .In (.var 3) (.var 2)))) %[.ret (.con (.bl false))|0] .nil,.app 2 (.var 3)|0]
def jG:Ss:=yG
def YL:USs jG yG:=λ_ _ _ _=>(rfl)
def yR:Nat×Nat×Ss:=(2,4,%[.ite (.or (.not (.val (.isi Ty.list (.var 0)))) (.or (.cmp .Lt (.b1 .len (.var 0)) (.con (.int 1))) (.one (.cmp .Gt (.b1 .len (.var 0)) (.var 1))))) %[.ret (.con (.bl false))|0] .nil,.set 2 (.lst .nil),.for_ (.one 3) (.seq (.var 0)) jG,.ret (.con (.bl true))|0])
class PN(pg:Pg):Prop where
 r_are_names:RW pg "are_names" yR
end DG
namespace K71
open PySem L2 DE DG FZ
def top(i:Nat):Stmt:=PySem.Challenge.pw_daysgate_k71_whole_books_parted.main.body.getD i (.Pass ⟨0,0,0,0⟩)
def mem(i j:Nat):Stmt:=(qjn (top i)).getD j (.Pass ⟨0,0,0,0⟩)
def pg:Pg:={ defs:=[(("is_whole" : Str),top 5),(("is_between" : Str),top 6),(("are_days" : Str),top 7),(("is_made_of" : Str),top 8),(("is_name" : Str),top 9),(("are_names" : Str),top 10),(("spread" : Str),top 17),(("both" : Str),top 18),(("outside" : Str),top 19),(("less" : Str),top 20),(("is_land" : Str),top 24),(("are_lands" : Str),top 25),(("pieces_among" : Str),top 31),(("sum_of" : Str),top 32),(("first_since" : Str),top 33),(("first_of_window" : Str),top 34),(("count_among" : Str),top 35),(("turns_of" : Str),top 36),(("first_above" : Str),top 37),(("first_broken" : Str),top 38),(("fault_among" : Str),top 39),(("lets" : Str),top 42),(("longer_rows" : Str),top 43),(("parted" : Str),top 44),(("are_rules" : Str),top 48),(("is_paper" : Str),top 49),(("check_papers" : Str),top 50),(("_law_at" : Str),top 53),(("_law_word" : Str),top 54),(("_law_names" : Str),top 55),(("_law_small" : Str),top 56),(("_law_rule" : Str),top 57),(("_law_counts" : Str),top 58),(("_law_keeps" : Str),top 59),(("_law_lets" : Str),top 60),(("_law_longer" : Str),top 61),(("_law_parted" : Str),top 62),(("_law_world" : Str),top 63),(("_law_book" : Str),top 64),(("law" : Str),top 65)],gl:=λx=>if x = "GREATEST" then some (.int 1000000000) else if x = "LETTERS" then some (.str "abcdefghijklmnopqrstuvwxyz") else if x = "LONGEST_NAME" then some (.int 8) else if x = "MOST_LANDS" then some (.int 6) else if x = "GREATEST_WEIGHT" then some (.int 9) else if x = "MOST_NAMES" then some (.int 2) else if x = "MOST_RULES" then some (.int 8) else if x = "MOST_PAPERS" then some (.int 12) else none,m:=40,w:=1000,meths:=[("Rule.weight",mem 26 1),("Book.rules",mem 51 1),("Book.papers",mem 51 2),("Book.lifted",mem 51 3)],cs:=pcs,nw:=pnw }
instance:DG.CH pg:={%[5|1],%[6|1],%[7|1],%[8|1],%[9|1]}
instance:DG.SP pg:={%[17|1]}
instance:DG.RU pg:={rfl,rfl,%[24|1],%[25|1],qq (pg:=pg) (st:=mem 26 1) (4:) (λk cl=>(4:))}
instance:DG.BO pg:={%[48|1],%[49|1],%[50|1],qq (pg:=pg) (st:=mem 51 1) (4:) (λk cl=>(4:)),qq (pg:=pg) (st:=mem 51 2) (4:) (λk cl=>(4:)),qq (pg:=pg) (st:=mem 51 3) (4:) (λk cl=>(4:))}
instance:DG.BT pg:={%[18|1],%[19|1],%[20|1]}
instance:DG.PC pg:={%[31|1]}
instance:DG.SU pg:={%[32|1],%[33|1],%[34|1],%[35|1]}
instance:DG.FK pg:={%[36|1],%[37|1],%[38|1]}
instance:DG.FM pg:={%[39|1]}
instance:FZ.ZA pg:={%[53|1]}
instance:FZ.ZW pg:={%[54|1]}
instance:FZ.ZN pg:={%[55|1]}
instance:FZ.ZR pg:={%[57|1]}
instance:DG.PN pg:={%[10|1]}
abbrev qas:E:=(.tup %[1,0,0|0])
def Q7:E:=qas
def qc6:UE Q7 qas:=λ_ _ _=>(rfl)
def qeW:Nat×Nat×Ss:=(2,2,%[.ret (.cmp .Is (.call "fault_among" %[0,.comp Q7 (.enum (.var 1)) (.many [0,1]) (.test (.cmp .IsNot (.var 1) (.con .non))) 2 []|0]) (.con .non))|0])
def qmS:RW pg "lets" qeW:=%[42|1]
abbrev jP:E:=(.bin .Add (.var 1) (.lst %[0|0]))
def zM:E:=jP
def JB:UE zM jP:=λ_ _ _=>(rfl)
noncomputable abbrev jQ:Ss:=%[.ext 2 (.comp zM (.seq (.bin .Add (.var 1) (.lst %[.con .non|0]))) (.one 0) .yes 1 [3])|0]
def zN:Ss:=jQ
def js:USs zN jQ:=λ_ _ _ _=>(rfl)
def Jh:Nat×Nat×Ss:=(2,4,%[.set 2 (.lst .nil),.for_ (.one 3) (.seq (.var 0)) zN,.ret (.var 2)|0])
def Q8:RW pg "longer_rows" Jh:=%[43|1]
noncomputable abbrev YM:Ss:=%[.set 8 (.call "lets" %[0,7|0]),.ite (.cmp .NotEq (.var 8) (.call "lets" %[1,7|0])) %[.ret (.var 7)|0] .nil,.ite (.val (.var 8)) %[.app 4 (.var 7)|0] .nil|0]
def JC:Ss:=YM
def yg:USs JC YM:=λ_ _ _ _=>(rfl)
noncomputable abbrev YN:Ss:=%[.set 6 (.call "longer_rows" %[4,2|0]),.set 4 (.lst .nil),.for_ (.one 7) (.seq (.var 6)) JC|0]
def JD:Ss:=YN
def JQ:USs JD YN:=λ_ _ _ _=>(rfl)
def Q9:Nat×Nat×Ss:=(4,9,%[.ite (.not (.val (.call "are_names" %[2,.con (.int 2)|0]))) %[.stuck|0] .nil,.set 4 (.lst %[.lst .nil|0]),.for_ (.one 5) (.rng (.var 3)) JD,.ret (.con .non)|0])
def qgT:RW pg "parted" Q9:=%[44|1]
def JR:Nat×Nat×Ss:=(2,4,%[.set 2 (.bin .Mod (.bin .Mult (.var 0) (.con (.int 48271))) (.con (.int 2147483647))),.set 3 (.lst %[.tup %[.idx (.var 1) (.bin .Mod (.var 2) (.con (.int 2))),.bin .Add (.con (.int 1)) (.bin .Mod (.bin .FloorDiv (.var 2) (.con (.int 2))) (.con (.int 3)))|0]|0]),.ite (.cmp .Eq (.bin .Mod (.bin .FloorDiv (.var 2) (.con (.int 6))) (.con (.int 2))) (.con (.int 1))) %[.app 3 (.tup %[.idx (.var 1) (.bin .Sub (.con (.int 1)) (.bin .Mod (.var 2) (.con (.int 2)))),.bin .Add (.con (.int 1)) (.bin .Mod (.bin .FloorDiv (.var 2) (.con (.int 12))) (.con (.int 3)))|0])|0] .nil,.ret (.tup %[.bin .Mod (.bin .FloorDiv (.var 2) (.con (.int 36))) (.con (.int 3)),3,.bin .Mod (.bin .FloorDiv (.var 2) (.con (.int 108))) (.con (.int 7)),.bin .Add (.con (.int 1)) (.bin .Mod (.bin .FloorDiv (.var 2) (.con (.int 756))) (.con (.int 5)))|0])|0])
def qat:RW pg "_law_small" JR:=%[56|1]
noncomputable abbrev jR:E:=(.and (.cmp .Eq (.var 0) (.var 3)) (.and (.cmp .LtE (.var 1) (.var 4)) (.one (.cmp .LtE (.var 4) (.var 2)))))
def zO:E:=jR
def qL:UE zO jR:=λ_ _ _=>(rfl)
noncomputable abbrev jS:Ss:=%[.set 6 (.b2 (.get 0) (.idx (.var 0) (.con (.int 1))) (.idx (.var 3) (.var 5))),.ite (.val (.b1 .any (.comp zO (.seq (.var 1)) (.many [0,1,2]) .yes 3 [2,5]))) %[.set 6 (.con (.int 0))|0] .nil,.app 4 (.var 6)|0]
def zP:Ss:=jS
def jt:USs zP jS:=λ_ _ _ _=>(rfl)
def Ji:Nat×Nat×Ss:=(4,7,%[.set 4 (.lst .nil),.for_ (.one 5) (.rng (.b1 .len (.var 3))) zP,.ret (.var 4)|0])
def Za:RW pg "_law_counts" Ji:=%[58|1]
noncomputable abbrev yh:Ss:=%[.ite (.cmp .Eq (.idx (.var 0) (.con (.int 0))) (.con (.int 0))) %[.set 2 (.b1 .sum (.sli (.var 1) (.some (.b2 .max (.con (.int 0)) (.bin .Add (.bin .Sub (.var 4) (.idx (.var 0) (.con (.int 3)))) (.con (.int 1))))) (.some (.bin .Add (.var 4) (.con (.int 1))))))|0] %[.set 3 (.bin .Mult (.bin .Add (.var 3) (.con (.int 1))) (.b1 .int (.cmp .Eq (.idx (.var 1) (.var 4)) (.con (.int 0))))),.set 2 (.bin .Mult (.bin .Add (.var 2) (.idx (.var 1) (.var 4))) (.b1 .int (.cmp .Lt (.var 3) (.idx (.lst %[.con (.int 1),.idx (.var 0) (.con (.int 3)),.con (.int 1)|0]) (.idx (.var 0) (.con (.int 0)))))))|0],.ite (.cmp .Gt (.var 2) (.idx (.var 0) (.con (.int 2)))) %[.ret (.con (.bl false))|0] .nil|0]
def ja:Ss:=yh
def jT:USs ja yh:=λ_ _ _ _=>(rfl)
def yi:Nat×Nat×Ss:=(2,5,%[.set 2 (.con (.int 0)),.set 3 (.con (.int 0)),.for_ (.one 4) (.rng (.b1 .len (.var 1))) ja,.ret (.con (.bl true))|0])
def qau:RW pg "_law_keeps" yi:=%[59|1]
noncomputable abbrev yH:E:=(.call "_law_keeps" %[.idx (.var 2) (.var 0),.call "_law_counts" %[.idx (.var 2) (.var 0),3,0,1|0]|0])
def jH:E:=yH
def YO:UE jH yH:=λ_ _ _=>(rfl)
def YQ:Nat×Nat×Ss:=(2,4,%[.setT (.many [2,3]) (.var 0),.ret (.b1 .all (.comp jH (.rng (.b1 .len (.var 2))) (.one 0) .yes 1 [1,2,3]))|0])
def qbi:RW pg "_law_lets" YQ:=%[60|1]
abbrev jU:E:=(.bin .Add (.var 1) (.lst %[0|0]))
def zQ:E:=jU
def JE:UE zQ jU:=λ_ _ _=>(rfl)
noncomputable abbrev jV:Ss:=%[.set 2 (.bin .Add (.var 2) (.comp zQ (.seq (.bin .Add (.var 1) (.lst %[.con .non|0]))) (.one 0) .yes 1 [3]))|0]
def zR:Ss:=jV
def JF:USs zR jV:=λ_ _ _ _=>(rfl)
def Jj:Nat×Nat×Ss:=(2,4,%[.set 2 (.lst .nil),.for_ (.one 3) (.seq (.var 0)) zR,.ret (.var 2)|0])
def Zb:RW pg "_law_longer" Jj:=%[61|1]
noncomputable abbrev jW:Ss:=%[.ite (.cmp .NotEq (.call "_law_lets" %[0,6|0]) (.call "_law_lets" %[1,6|0])) %[.ret (.var 6)|0] .nil|0]
def zS:Ss:=jW
def ju:USs zS jW:=λ_ _ _ _=>(rfl)
noncomputable abbrev jX:Ss:=%[.set 4 (.call "_law_longer" %[4,2|0]),.for_ (.one 6) (.seq (.var 4)) zS|0]
def zT:Ss:=jX
def qM:USs zT jX:=λ_ _ _ _=>(rfl)
def jI:Nat×Nat×Ss:=(4,7,%[.set 4 (.lst %[.lst .nil|0]),.for_ (.one 5) (.rng (.var 3)) zT,.ret (.con .non)|0])
def Zc:RW pg "_law_parted" jI:=%[62|1]
noncomputable abbrev yj:E:=(.call "_law_small" %[.call "_law_at" %[1,.bin .Add (.var 3) (.var 0)|0],2|0])
def jb:E:=yj
def JX:UE jb yj:=λ_ _ _=>(rfl)
noncomputable abbrev yk:Ss:=%[.set 7 (.bin .Mod (.bin .Mult (.call "_law_at" %[0,.bin .Add (.bin .Add (.var 2) (.con (.int 4))) (.var 4)|0]) (.con (.int 16807))) (.con (.int 2147483629))),.ite (.cmp .NotEq (.var 5) (.lst .nil)) %[.app 6 (.tup %[.bin .Mod (.var 7) (.b1 .len (.var 5)),.bin .Mod (.bin .FloorDiv (.var 7) (.con (.int 8))) (.con (.int 3)),.bin .Add (.bin .Mod (.bin .FloorDiv (.var 7) (.con (.int 8))) (.con (.int 3))) (.bin .Mod (.bin .FloorDiv (.var 7) (.con (.int 64))) (.con (.int 2)))|0])|0] .nil|0]
def jc:Ss:=yk
def jY:USs jc yk:=λ_ _ _ _=>(rfl)
def ym:Nat×Nat×Ss:=(4,8,%[.set 5 (.comp jb (.rng (.bin .Mod (.call "_law_at" %[0,.bin .Add (.var 2) (.con (.int 3))|0]) (.con (.int 4)))) (.one 0) .yes 1 [0,1,2]),.ite (.val (.var 3)) %[.set 5 (.bin .Add (.lst %[.call "_law_small" %[.call "_law_at" %[0,.con (.int 2)|0],1|0]|0]) (.sli (.var 5) .none (.some (.con (.int 2)))))|0] .nil,.set 6 (.lst .nil),.for_ (.one 4) (.rng (.bin .Mod (.call "_law_at" %[0,.bin .Add (.var 2) (.con (.int 4))|0]) (.con (.int 3)))) jc,.ret (.tup %[5,6|0])|0])
def qav:RW pg "_law_world" ym:=%[63|1]
abbrev yI:E:=(.call "_law_rule" %[0|0])
def jJ:E:=yI
def YR:UE jJ yI:=λ_ _ _=>(rfl)
def YS:Nat×Nat×Ss:=(1,1,%[.ret (.new "Book" %[.comp jJ (.seq (.idx (.var 0) (.con (.int 0)))) (.one 0) .yes 1 [],.b1 .list (.idx (.var 0) (.con (.int 1)))|0])|0])
def qbj:RW pg "_law_book" YS:=%[64|1]
def qjM:Nat×Nat×Ss:=(1,10,%[.set 1 (.call "_law_names" %[.call "_law_at" %[0,.con (.int 0)|0],.con (.int 2)|0]),.set 2 (.cmp .Eq (.bin .Mod (.call "_law_at" %[0,.con (.int 1)|0]) (.con (.int 2))) (.con (.int 1))),.set 3 (.call "_law_world" %[0,1,.con (.int 3),2|0]),.set 4 (.call "_law_world" %[0,1,.con (.int 9),2|0]),.set 5 (.idx (.lst %[1,.rvs (.var 1),.sli (.var 1) .none (.some (.con (.int 1))),.sli (.var 1) (.some (.con (.int 1))) .none|0]) (.bin .Mod (.bin .FloorDiv (.call "_law_at" %[0,.con (.int 1)|0]) (.con (.int 2))) (.con (.int 4)))),.set 6 (.bin .Mod (.bin .FloorDiv (.call "_law_at" %[0,.con (.int 1)|0]) (.con (.int 8))) (.con (.int 5))),.set 7 (.b1 .list (.var 5)),.set 8 (.call "_law_parted" %[3,4,5,6|0]),.set 9 (.calN "parted" %[.call "_law_book" %[3|0],.call "_law_book" %[4|0],7,6|0]),.ite (.or (.cmp .NotEq (.var 9) (.var 8)) (.one (.cmp .NotEq (.var 7) (.var 5)))) %[.ret (.con (.bl false))|0] .nil,.ite (.cmp .IsNot (.var 8) (.con .non)) %[.ite (.not (.val (.isi Ty.list (.var 9)))) %[.ret (.con (.bl false))|0] .nil,.app 9 (.con (.str "z"))|0] .nil,.ite (.cmp .NotEq (.calN "parted" %[.call "_law_book" %[4|0],.call "_law_book" %[3|0],7,6|0]) (.var 8)) %[.ret (.con (.bl false))|0] .nil,.ret (.cmp .Is (.calN "parted" %[.call "_law_book" %[3|0],.call "_law_book" %[3|0],7,6|0]) (.con .non))|0])
def qoI:RW pg "law" qjM:=%[65|1]
end K71
namespace DG
open PySem DE FA
open L2 hiding St
open CH PN
section
variable{pg:Pg}[CH pg]
theorem Qq(k:Nat)(v0 v1:Sl):∀(zs acc:List Str) (s3:Sl),(∀z∈zs,NameOk z)->(acc++zs).Nodup->acc.length+zs.length < 1000->
  ∃s3',yr (pg.kk (k+2)) 1000 (.one 3) jG (zs.map D.str) [v0,v1,.own (acc.map D.str),s3]=.ok (.next [v0,v1,.own ((acc++zs).map D.str),s3'])
 |[],acc,s3,_,_,_=>{s3,by simp[zB]}
 | z::zs,acc,s3,hz,hn,ha=>by
  rw[List.length_cons]at ha;have nm:=qex (pg:=pg) k z (hz z (5:));have mm:=qag z acc
  have nc:acc.contains z=false:=by
   rw[List.contains_eq_any_beq,List.any_eq_false];intro y hy q;have q:z=y:=(-q:)
   subst q;exact(List.nodup_append.mp hn).2.2 z hy z (5:) rfl
  rw[nc]at mm;let(s3',ih):=Qq k v0 v1 zs (acc++[z]) (.val (.str z)) (λy hy=>hz y (by simp[hy])) (-hn:) (by simp;lia);refine{s3',?_};have za:acc.length < sizeLine:=qv (1:);simp![List.map_append,List.map_cons,List.map_nil,List.append_assoc,List.cons_append,List.nil_append]at ih ⊢;simp?[YL,nm,mm,List.length_map,za,ih]
end
open Dy
theorem qcf{f:Int->Int}:∀(m k:Nat) (lo:Int),(ws f lo (m+k)).sum=(ws f lo m).sum+(ws f (lo+m) k).sum
 |0,k,lo=>by simp[ws]
 | m+1,k,lo=>by
  rw[show m+1+k=(m+k)+1 by lia,ws,ws,List.sum_cons,List.sum_cons,qcf m k (lo+1),show lo+1+(m:Int)=lo+((m+1:Nat):Int) by lia]
  lia
theorem qeX:∀l:List (Str×Int),qdi (l.map lnD)=some l
 |[]=>rfl
 | p::l=>by rw[List.map_cons,qdi,qeX l];rfl
theorem qeY(z:Str):∀l:List (Str×Int),(qiI l z).getD 0=wt l (some z)
 |[]=>rfl
 | p::l=>by
  have ih:=qeY z l;unfold qiI at ih ⊢;unfold wt
  by_cases e:p.1=z
  ·rw[List.find?_cons,show decide (p.1=z)=true from decide_eq_true e,if_pos (by rw[e])];rfl
  ·rw[List.find?_cons,show decide (p.1=z)=false from decide_eq_false e,if_neg (λq=>e (by cases q;rfl))];exact ih
def qjN{l:List (Str×Int)}(nd:(l.map (·.1)).Nodup)(z:Str):qaX 0 (.val (.lst (l.map lnD))) (.val (.str z))=.ok (.val (.int (wt l (some z)))):=by show(match qdi (l.map lnD) with |some kvs=>_ |none=>_)=_;rw[qeX];dsimp only;rw[if_pos nd,qeY]
def fwS(n:Int)(s:Int×Int×Int)(i w:Int):Int×Int×Int:=(if n<=(if 0 < w then 0 else s.2.1+1) then 0 else s.1+w,if 0 < w then 0 else s.2.1+1,if 0 < w/\s.1=0 then i else s.2.2)
def fw(f:Int->Int)(n lo:Int):Nat->Int×Int×Int
 |0=>(0,0,0)
 | i+1=>fwS n (fw f n lo i) i (f (lo+i))
structure FwI(f:Int->Int)(n lo:Int)(i:Nat)(s:Int×Int×Int):Prop where
 e0:0<=s.2.1
 e1:s.2.1<=i
 z:∀x,lo+i - s.2.1<=x->x < lo+i->f x=0
 p:s.2.1 < i->f (lo+i - s.2.1 - 1)≠0
 c0:s.2.1=i->s.1=0
 c1:n<=s.2.1->s.1=0
 c2:s.2.1 < i->s.2.1 < n->0 < s.1
 c3:0<=s.1
 b:0 < s.1->WF f n (lo+i - 1) (lo+s.2.2)
section
variable{f:Int->Int}{n lo:Int}(hf:∀x,0<=f x)(hn:1<=n)(hlo:∀x,x < lo->f x=0)
include hf hn hlo
theorem qmT{i:Nat}{s:Int×Int×Int}(h:FwI f n lo i s):FwI f n lo (i+1) (fwS n s i (f (lo+i))):=by
 have e0:=h.e0;have e1:=h.e1;have c3:=h.c3;have hd:lo+((i+1:Nat):Int) - 1=lo+i:=by omega
 by_cases hw:0 < f (lo+i)
 ·have es:fwS n s i (f (lo+i))=(s.1+f (lo+i),0,if s.1=0 then (i:Int) else s.2.2):=by
   unfold fwS;rw[if_pos hw,if_neg (by omega)];simp![hw,true_and]
  have here:¬ qc4 f n (lo+i):=λq=>by have:=q (lo+i) (by omega) (Int.le_refl _);omega
  rw[es];refine{Int.le_refl _,by dsimp only;omega,λx h1 h2=>by dsimp only at h1;omega,λ_=>?_,λq=>by dsimp only at q;omega,λq=>by dsimp only at q;omega,λ_ _=>by dsimp only;omega,by dsimp only;omega,λ_=>?_}
  ·dsimp only;rw[show lo+((i+1:Nat):Int) - 0 - 1=lo+i by omega];omega
  ·rw[hd];dsimp only
   by_cases q:s.1=0
   ·rw[if_pos q];refine{Int.le_refl _,by omega,λx h1 h2=>?_,λx h1 h2=>by rw[show x=lo+i by omega];exact here}
    by_cases hx:lo+i - s.2.1<=x
    ·exact h.z x hx (by omega)
    ·by_cases hi:s.2.1=i
     ·exact hlo x (by omega)
     ·by_cases hs:s.2.1 < n
      ·have:=h.c2 (by omega) hs
       omega
      ·omega
   ·rw[if_neg q];have w:=h.b (by omega)
    have:=w.le
    refine{by omega,w.ne,w.ahead,λx h1 h2=>?_}
    by_cases hx:x=lo+i
    ·rw[hx];exact here
    ·exact w.busy x h1 (by omega)
 ·have h0:f (lo+i)=0:=by have:=hf (lo+i);omega
  have es:fwS n s i (f (lo+i))=(if n<=s.2.1+1 then 0 else s.1,s.2.1+1,s.2.2):=by unfold fwS;rw[if_neg hw,h0,Int.add_zero,if_neg (c:=(0:Int) < 0/\s.1=0) (λq=>absurd q.1 (by omega))]
  rw[es]
  have zz:∀x,lo+((i+1:Nat):Int) - (s.2.1+1)<=x->x < lo+((i+1:Nat):Int)->f x=0:=λx h1 h2=>by
   by_cases hx:x=lo+i
   ·rw[hx];exact h0
   ·exact h.z x (by omega) (by omega)
  refine{by dsimp only;omega,by dsimp only;omega,zz,λq=>?_,λq=>?_,λq=>?_,λq q'=>?_,?_,λq=>?_}
  ·dsimp only at q ⊢;rw[show lo+((i+1:Nat):Int) - (s.2.1+1) - 1=lo+i - s.2.1 - 1 by omega];exact h.p (by omega)
  ·dsimp only at q ⊢
   have:=h.c0 (by omega)
   split<;>omega
  ·dsimp only at q ⊢;rw[if_pos q]
  ·dsimp only at q q' ⊢;rw[if_neg (by omega)];exact h.c2 (by omega) (by omega)
  ·dsimp only
   split<;>omega
  ·dsimp only at q ⊢
   split at q
   ·omega
   ·have w:=h.b q;rw[hd]
    have:=w.le
    refine{by omega,w.ne,w.ahead,λx h1 h2=>?_}
    by_cases hx:x=lo+i
    ·rw[hx];intro id
     by_cases hi:s.2.1 < i
     ·exact h.p hi (id _ (by omega) (by omega))
     ·have:=h.c0 (by omega)
      omega
    ·exact w.busy x h1 (by omega)
theorem qjO:∀i:Nat,FwI f n lo i (fw f n lo i)
 |0=>{Int.le_refl _,Int.le_refl _,λx h1 h2=>hlo x (-h2:),λq=>absurd q (Int.lt_irrefl 0),λ_=>rfl,λ_=>rfl,λq=>absurd q (Int.lt_irrefl 0),Int.le_refl _,λq=>absurd q (Int.lt_irrefl 0)}
 | i+1=>qmT hf hn hlo (qjO i)
def cF(f:Int->Int)(n lo d:Int):Int:=if d < lo then 0 else (fw f n lo (d+1 - lo).toNat).1
theorem qoJ:Cnt false n f (cF f n lo):=by
 refine{hf,{lo,λd hd=>{if_pos hd,hlo d hd}},λh=>(by cases h),λ_ d hi=>?_,λ_ d hb=>?_}
 ·unfold cF;split
  ·rfl
  ·rename_i hd;let(k,ek):∃k:Nat,d=lo+k:={(d - lo).toNat,by omega};have I:=qjO hf hn hlo (k+1);rw[show(d+1 - lo).toNat=k+1 by omega]
   by_cases q:(fw f n lo (k+1)).2.1 < ((k+1:Nat):Int)
   ·by_cases q':(fw f n lo (k+1)).2.1 < n
    ·exact absurd (hi _ (by have:=I.e0;omega) (by have:=I.e0;omega)) (I.p q)
    ·exact I.c1 (by omega)
   ·exact I.c0 (by have:=I.e1;omega)
 ·have hd:¬ d < lo:=λq=>hb λx _ h2=>hlo x (by omega);let(k,ek):∃k:Nat,d=lo+k:={(d - lo).toNat,by omega};have I:=qjO hf hn hlo (k+1)
  have prev:cF f n lo (d - 1)=(fw f n lo k).1:=by
   unfold cF;split
   ·rw[show k=0 by omega];rfl
   ·rw[show(d - 1+1 - lo).toNat=k by omega]
  rw[prev];unfold cF;rw[if_neg hd,show(d+1 - lo).toNat=k+1 by omega]
  have hq:¬ n<=(if 0 < f (lo+k) then 0 else (fw f n lo k).2.1+1):=λq=>hb λx h1 h2=>I.z x (by
   show lo+((k+1:Nat):Int) - (if 0 < f (lo+k) then 0 else (fw f n lo k).2.1+1)<=x
   omega) (by omega)
  show(if n<=(if 0 < f (lo+k) then 0 else (fw f n lo k).2.1+1) then 0 else (fw f n lo k).1+f (lo+k))=_;rw[if_neg hq,ek]
end
theorem qeZ(f:Int->Int):∀(a m:Nat) (lo:Int),(ws f lo m).drop a=ws f (lo+a) (m - a)
 |0,m,lo=>by simp
 | a+1,0,lo=>by simp[ws]
 | a+1,m+1,lo=>by rw[ws,List.drop_succ_cons,qeZ f a m (lo+1),show lo+1+(a:Int)=lo+((a+1:Nat):Int) by omega,show m+1 - (a+1)=m - a by omega]
theorem qe0(f:Int->Int):∀(b m:Nat) (lo:Int),b<=m->(ws f lo m).take b=ws f lo b
 |0,m,lo,_=>by simp[ws]
 | b+1,0,lo,h=>by omega
 | b+1,m+1,lo,h=>by rw[ws,List.take_succ_cons,qe0 f b m (lo+1) (by omega)];rfl
theorem qe1(f:Int->Int):∀(m:Nat) (lo:Int),(ws f lo m).length=m
 |0,_=>rfl
 | m+1,lo=>by rw[ws,List.length_cons,qe1 f m]
def qjP{r:Ru}{f:Int->Int}{lo:Int}(hk:r.kd.isW=true)(hd:1<=r.days)(hlo:∀x,x < lo->f x=0){m i:Nat}(hi:i < m) :
  ∃l:List Int,qdg ((ws f lo m).map D.int) (some (if i - r.days+1 > 0 then i - r.days+1 else 0)) (some (i+1))=l.map D.int/\l.sum=(win r f (lo+i)).2:=by
 let(a,ea):∃a:Nat,(if (i:Int) - r.days+1 > 0 then (i:Int) - r.days+1 else 0)=a:={(if (i:Int) - r.days+1 > 0 then (i:Int) - r.days+1 else 0).toNat,by split<;>omega};have ha:a<=i:=by split at ea<;>omega
 refine{ws f (lo+a) (i+1 - a),?_,?_}
 ·rw[ea,show(i:Int)+1=((i+1:Nat):Int) by omega];unfold qdg;rw[List.length_map,qe1,HT.Qv,HT.Qv,Nat.min_eq_left (by omega),Nat.min_eq_left (by omega),<-List.map_drop,<-List.map_take,qeZ,qe0 _ _ _ _ (by omega)]
 ·unfold win;rw[if_pos hk]
  split at ea
  ·rw[show lo+(i:Int) - r.days+1=lo+a by omega,show r.days.toNat=i+1 - a by omega]
  ·have:a=0:=by omega
   subst this;have e:r.days.toNat=(r.days.toNat - (i+1))+(i+1):=by omega
   rw[e,qcf,show lo+(i:Int) - r.days+1+((r.days.toNat - (i+1):Nat):Int)=lo by omega]
   have z:∀(m:Nat) (a:Int),a+m<=lo->(ws f a m).sum=0:=λm=>by
    induction m with
    |zero=>intro a _;rfl
    |succ m ih=>intro a ha;rw[ws,List.sum_cons,ih (a+1) (by omega),hlo a (by omega)];rfl
   dsimp only;rw[z (r.days.toNat - (i+1)) _ (by omega),Int.zero_add,show lo+((0:Nat):Int)=lo by omega,Nat.sub_zero]
end DG
namespace K71
open PySem DE DG FZ FA Dy
open L2 hiding St
abbrev NB(st:List St)(x:Rl):Prop:=qt x.1 (Jp st x)=none
theorem Zd(st:List St):∀(l:List Rl) (i:Nat) (f:Option (Int×Int×Int)),ye st l i f=none↔(f=none/\∀x∈l,NB st x)
 |[],i,f=>by simp[ye]
 | x::l,i,f=>by
  rw[ye]
  cases e:qt x.1 (Jp st x) with
  |none=>
   dsimp only;rw[Zd st l];constructor
   ·rintro⟨h1,h2⟩;refine{h1,λy hy=>?_};rcases List.mem_cons.mp hy with rfl|hy
    ·exact e
    ·exact h2 y hy
   ·exactλh=>{h.1,λy hy=>h.2 y (List.mem_cons_of_mem _ hy)}
  |some d=>
   dsimp only;have no:¬ NB st x:=λq=>by rw[NB,e]at q;cases q
   constructor
   ·intro h
    split at h
    ·exact absurd ((Zd st l _ _).mp h).1 (λq=>by cases q)
    ·rename_i hb
     have:=((Zd st l _ _).mp h).1
     rw[this]at hb;exact absurd rfl hb
   ·exactλh=>absurd (h.2 x (5:)) no
abbrev Row:=List (Option Str)
def opD:Option Str->D
 |none=>.non
 |some z=>.str z
def qy(r:Row):D:=.lst (r.map opD)
def stR:Nat->Row->List St
 |_,[]=>[]
 | i,none::l=>stR (i+1) l
 | i,some z::l=>(z,(i:Int),(i:Int))::stR (i+1) l
def yS(r:Row):Prop:=r.length<=20/\∀z,some z∈r->NameOk z
theorem qcg:∀(r:Row) (i:Nat) (e:Int),e < (i:Int)->i+r.length<=100->(∀z,some z∈r->NameOk z)->Ch e (stR i r)
 |[],_,_,_,_,_=>trivial
 | none::l,i,e,he,hl,h=>by rw[stR];exact qcg l (i+1) e (by omega) (by simp at hl;omega) λz hz=>h z (by simp[hz])
 | some z::l,i,e,he,hl,h=>by rw[stR];rw[List.length_cons]at hl;exact{{h z (5:),he,Int.le_refl _,by show(i:Int)<=1000000000;omega},qcg l (i+1) _ (by show(i:Int) < _;omega) (by omega) λz hz=>h z (by simp[hz])}
theorem qbk:∀(r:Row) (i:Nat),(stR i r).length<=r.length
 |[],_=>Nat.le_refl _
 | none::l,i=>by
  rw[stR,List.length_cons]
  have:=qbk l (i+1)
  omega
 | some z::l,i=>by
  rw[stR,List.length_cons,List.length_cons]
  have:=qbk l (i+1)
  omega
theorem qe2:∀(r:Row) (i:Nat),(∀z,some z∈r->NameOk z)->∀s∈stR i r,NameOk s.1
 |[],_,_,s,h=>by cases h
 | none::l,i,h,s,hs=>qe2 l (i+1) (λz hz=>h z (by simp[hz])) s hs
 | some z::l,i,h,s,hs=>by
  rw[stR]at hs;rcases List.mem_cons.mp hs with rfl|hs
  ·exact h z (5:)
  ·exact qe2 l (i+1) (λz hz=>h z (by simp[hz])) s hs
theorem qbl(cl:Cl):∀(r:Row) (i:Nat) (acc:List D) (s0 s1:Sl),acc.length+r.length < 1000->zA cl Q7 (.many [0,1]) (.test (T.cmp CmpOp.IsNot (E.var 1) (E.con D.non))) (enF i (r.map opD)) [s0,s1] acc=.ok (acc++(stR i r).map stD)
 |[],i,acc,s0,s1,_=>by simp[enF,stR,qG]
 | none::l,i,acc,s0,s1,h=>by rw[List.length_cons]at h;have ih:=qbl cl l (i+1) acc (.val (.int (i:Int))) (.val .non) (by omega);rw[List.map_cons,enF,stR];simp?[opD,ih]
 | some z::l,i,acc,s0,s1,h=>by
  rw[List.length_cons]at h;have ih:=qbl cl l (i+1) (acc++[.tup [.str z,.int (i:Int),.int (i:Int)]]) (.val (.int (i:Int))) (.val (.str z)) (by simp;omega);rw[List.append_assoc,List.cons_append,List.nil_append]at ih;have za:acc.length < sizeLine:=qv (by omega);have three:0+1+1+1<=sizeLine:=(3:)
  rw[List.map_cons,enF,stR,List.map_cons,qey];dsimp only;simp?[opD,qc6,three,za,ih]
theorem qe3:∀(l:List D) (i:Nat),(enF i l).length=l.length
 |[],i=>rfl
 | d::l,i=>by rw[enF,List.length_cons,List.length_cons,qe3 l]
structure BkW(rs:List Ru)(ps:List Pa):Prop where
 w:∀x∈rlF ps 0 rs,Rlw x
 p18:ps.length<=4
def qI(rs:List Ru)(ps:List Pa)(r:Row):Bool:=(Qm rs ps (stR 0 r)).isNone
theorem qe4(k:Nat){rs:List Ru}{ps:List Pa}(h:BkW rs ps){r:Row}(hr:yS r):clK pg (k+8) "lets" [.val (bkI rs ps),.val (qy r)]=.ok (.val (.bl (qI rs ps r))):=by
 have hc:Ch (-1) (stR 0 r):=qcg r 0 (-1) (2:) (by have:=hr.1;omega) hr.2;have hl:=qbk r 0;have h20:=hr.1;have f:clK pg (k+7) "fault_among" [.val (bkI rs ps),.val (.lst ((stR 0 r).map stD))]=.ok (.val (qdm (Qm rs ps (stR 0 r)))):=Q3 (pg:=pg) k false rs ps h.p18 (stR 0 r) (qe2 r 0 hr.2) (by omega) λx hx=>qoH (h.w x hx) hc.w;have cp:=qbl (pg.kk (k+7)) r 0 [] .no .no (by simp;omega);rw[List.nil_append]at cp;have zl:(enF 0 (r.map opD)).length<=sizeLine:=qx (by rw[qe3,List.length_map];omega);rw[qmS];unfold qI qy
 cases q:Qm rs ps (stR 0 r) with
 |none=>rw[q]at f;dsimp only[qdm]at f;simp?![qeW,J5,JT,List.map_nil,zl,cp,f,Option.isNone]
 |some z=>rw[q]at f;dsimp only[qdm,f3D]at f;simp?![qeW,J5,JT,List.map_nil,zl,cp,f,Option.isNone]
def lgF(zs:List Str)(rows:List Row):List Row:=rows.flatMap λr=>(zs.map some++[none]).map λz=>r++[z]
theorem qe5(cl:Cl)(r:Row)(hr:r.length<=1000):∀(zs:List (Option Str)) (acc:List Row) (s0:Sl),acc.length+zs.length < 1000->zA cl zM (.one 0) .yes (zs.map opD) [s0,.val (qy r)] (acc.map qy)=.ok ((acc++zs.map λz=>r++[z]).map qy)
 |[],acc,s0,_=>by simp[qG]
 | z::zs,acc,s0,h=>by
  rw[List.length_cons]at h;have ih:=qe5 cl r hr zs (acc++[r++[z]]) (.val (opD z)) (by simp;omega);have za:acc.length < sizeLine:=qv (by omega);have one:0+1<=sizeLine:=(3:)
  have zr:r.length+(0+1)<=sizeLine:=qx (by omega);rw[List.map_cons,List.map_cons];rw[List.append_assoc,List.cons_append,List.nil_append,List.map_append (l₁:=acc) (l₂:=[r++[z]]),List.map_cons,List.map_nil,show qy (r++[z])=.lst (r.map opD++[opD z]) by simp[qy]]at ih;unfold qy at ih ⊢;simp?[JB,one,List.length_map,zr,za,ih]
theorem qe6(k:Nat)(v0:Sl)(b:Bool)(zs:List Str)(hz:zs.length<=2):∀(rows acc:List Row) (s3:Sl),(∀r∈rows,r.length<=1000)->acc.length+3 * rows.length < 1000->
  ∃s3',yr (pg.kk k) 1000 (.one 3) zN (rows.map qy) [v0,pS b (zs.map D.str),.own (acc.map qy),s3]=.ok (.next [v0,pS b (zs.map D.str),.own ((acc++lgF zs rows).map qy),s3'])
 |[],acc,s3,_,_=>{s3,by simp[zB,lgF]}
 | r::rows,acc,s3,hr,h=>by
  rw[List.length_cons]at h;have lz:(zs.map some++[none]).length=zs.length+1:=by simp
  have cp:=qe5 (pg.kk k) r (hr r (5:)) (zs.map some++[none]) [] .no (by rw[lz];simp;omega);let(s3',ih):=qe6 k v0 b zs hz rows (acc++(zs.map some++[none]).map λz=>r++[z]) (.val (qy r)) (λx hx=>hr x (by simp[hx])) (by simp;omega);refine{s3',?_};rw[show lgF zs (r::rows)=((zs.map some++[none]).map λz=>r++[z])++lgF zs rows from rfl];rw[List.append_assoc]at ih;have e1:(zs.map some++[none]).map opD=zs.map D.str++[.non]:=by simp[opD,Function.comp_def]
  rw[e1,List.map_nil,List.nil_append]at cp;have zc:(zs.map D.str++[D.non]).length<=sizeLine:=qx (by simp;omega);have za:zs.length+(0+1)<=sizeLine:=qx (by omega);have zx:acc.length+(zs.length+1)<=sizeLine:=qx (by omega);have one:0+1<=sizeLine:=(3:)
  rw[List.map_append (l₁:=acc)]at ih;generalize hL:((zs.map some++[none]).map λz=>r++[z]).map qy=L at cp ih;have ll:L.length=zs.length+1:=by rw[<-hL,List.length_map,List.length_map,lz]
  rw[List.map_cons]
  cases b with
  |true=>rw[show pS true (zs.map D.str)=.bor (zs.map D.str) from rfl]at ih ⊢;simp?[js,one,List.length_map,za,zc,JT,qd8,List.map_cons,List.map_nil,List.getD_cons_succ,List.getD_cons_zero,cp,ll,zx,ih]
  |false=>rw[show pS false (zs.map D.str)=.val (.lst (zs.map D.str)) from rfl]at ih ⊢;simp?[js,one,List.length_map,za,zc,JT,qd8,List.map_cons,List.map_nil,List.getD_cons_succ,List.getD_cons_zero,cp,ll,zx,ih]
def qe7(k:Nat)(b:Bool)(zs:List Str)(hz:zs.length<=2)(rows:List Row)(hr:∀r∈rows,r.length<=1000)(h:rows.length<=300):clK pg (k+1) "longer_rows" [.bor (rows.map qy),aL b (zs.map D.str)]=.ok (.tmp ((lgF zs rows).map qy)):=by
 let(s3,lp):=qe6 k (.bor (rows.map qy)) b zs hz rows [] .no hr (by simp;omega);rw[List.map_nil,List.nil_append]at lp;have z0:(0:Nat)<=sizeLine:=(3:)
 rw[Q8];simp?![Jh,z0,lp]
section
open CH PN
theorem qmU(k:Nat)(b:Bool)(zs:List Str)(hz:∀z∈zs,NameOk z)(hn:zs.Nodup)(h1:1<=zs.length)(h2:zs.length<=2):clK pg (k+3) "are_names" [aL b (zs.map D.str),.val (.int 2)]=.ok (.val (.bl true)):=by
 let(s3,lp):=Qq (pg:=pg) k (pS b (zs.map D.str)) (.val (.int 2)) zs [] .no hz (-hn:) (by simp;omega);rw[List.map_nil,List.nil_append]at lp;have z0:(0:Nat)<=sizeLine:=(3:)
 have c1:¬ (zs.length:Int) < 1:=by omega
 have c6:¬ (2:Int) < (zs.length:Int):=by omega
 rw[r_are_names]
 cases b with
 |true=>rw[show pS true (zs.map D.str)=.bor (zs.map D.str) from rfl]at lp;simp![qbX];simp?![yR,List.length_map,c1,c6,z0,lp]
 |false=>rw[show pS false (zs.map D.str)=.val (.lst (zs.map D.str)) from rfl]at lp;simp![qbY];simp?![yR,List.length_map,c1,c6,z0,lp]
end
structure RI(t:Nat)(rows:List Row):Prop where
 len:rows.length<=3 ^ t
 ok:∀r∈rows,r.length=t/\∀z,some z∈r->NameOk z
def RI.next{zs:List Str}(hz:∀z∈zs,NameOk z)(h2:zs.length<=2){t:Nat}{rows:List Row}(h:RI t rows):RI (t+1) (lgF zs rows):=by
 refine{?_,λr hr=>?_}
 ·have e:(lgF zs rows).length<=3 * rows.length:=by
   unfold lgF;clear h
   induction rows with
   |nil=>simp
   |cons r l ih=>
    rw[List.flatMap_cons,List.length_append,List.length_cons]
    have:((zs.map some++[none]).map λz=>r++[z]).length=zs.length+1:=by simp
    omega
  have:=h.len
  rw[Nat.pow_succ];omega
 ·unfold lgF at hr;let(q,hq,hr):=List.mem_flatMap.mp hr;let(z,hzz,rfl):=List.mem_map.mp hr;let(a,b):=h.ok q hq;refine{by simp[a],λy hy=>?_};rcases List.mem_append.mp hy with hy|hy
  ·exact b y hy
  ·have e:=List.mem_singleton.mp hy;subst e;rcases List.mem_append.mp hzz with hzz|hzz
   ·let(x,hx,e):=List.mem_map.mp hzz;cases e;exact hz y hx
   ·exact absurd (List.mem_singleton.mp hzz) (5:)
theorem yw:∀(r:Row) (k:Nat) (d:Int),d < k->zX (stR k r) d=none
 |[],_,_,_=>rfl
 | none::l,k,d,h=>yw l (k+1) d (by omega)
 | some z::l,k,d,h=>by rw[stR,zX,if_neg (by dsimp only;omega)];exact yw l (k+1) d (by omega)
theorem yx:∀(r:Row) (k d:Nat),zX (stR k r) ((k+d:Nat):Int)=(r[d]?).getD none
 |[],_,_=>rfl
 | none::l,k,0=>by rw[stR];exact yw l (k+1) _ (by omega)
 | some z::l,k,0=>by rw[stR,zX,if_pos (by dsimp only;omega)];rfl
 | none::l,k,d+1=>by rw[stR,show((k+(d+1):Nat):Int)=((k+1+d:Nat):Int) by omega,yx l (k+1) d];rfl
 | some z::l,k,d+1=>by rw[stR,zX,if_neg (by dsimp only;omega),show((k+(d+1):Nat):Int)=((k+1+d:Nat):Int) by omega,yx l (k+1) d];rfl
theorem qe8:∀bs:List Bool,qfZ (bs.map D.bl)=some bs
 |[]=>rfl
 | b::l=>by rw[List.map_cons,qfZ,qe8 l];rfl
def qmV(bs:List Bool):qk8 (.tmp (bs.map D.bl))=.ok (.val (.bl (bs.any id))):=by unfold qk8;simp![Rv.list?,qe8]
def qmW(bs:List Bool):qk7 (.tmp (bs.map D.bl))=.ok (.val (.bl (bs.all id))):=by unfold qk7;simp![Rv.list?,qe8]
theorem qmX{l:List (Str×Int)}(nd:(l.map (·.1)).Nodup)(o:Option Str):qaX 0 (.val (.lst (l.map lnD))) (.val (opD o))=.ok (.val (.int (wt l o))):=by
 cases o with
 |some z=>exact qjN nd z
 |none=>show(match qdi (l.map lnD) with |some kvs=>_ |none=>_)=_;rw[qeX];dsimp only;rw[if_pos ⟨rfl,nd⟩,qbe]
def onP(n d:Int)(p:Pa):Bool:=p.1 == n&&(decide (p.2.1<=d)&&decide (d<=p.2.2))
theorem qhQ(n d:Int):∀ps:List Pa,(ps.map (onP n d)).any id=qhD (ofN n ps) d
 |[]=>rfl
 | p::ps=>by
  have ih:=qhQ n d ps;unfold ofN at ih ⊢;rw[List.map_cons,List.any_cons,ih,List.filter_cons];unfold onP
  cases q:(p.1 == n) with
  |true=>rw[if_pos rfl];simp[qhD]
  |false=>rw[if_neg (2:)];simp[qhD]
theorem qe9(cl:Cl)(n d:Int):∀(ps:List Pa) (acc:List Bool) (s0 s1 s2:Sl),acc.length+ps.length < 1000->zA cl zO (.many [0,1,2]) .yes (ps.map paD) [s0,s1,s2,.val (.int n),.val (.int d)] (acc.map D.bl)=.ok ((acc++ps.map (onP n d)).map D.bl)
 |[],acc,s0,s1,s2,_=>by simp[qG]
 | p::ps,acc,s0,s1,s2,h=>by
  rw[List.length_cons]at h;have ih:=qe9 cl n d ps (acc++[onP n d p]) (.val (.int p.1)) (.val (.int p.2.1)) (.val (.int p.2.2)) (by simp;omega);rw[List.append_assoc,List.cons_append,List.nil_append,List.map_append (l₁:=acc) (l₂:=[onP n d p]),List.map_cons,List.map_nil]at ih;have za:acc.length < sizeLine:=qv (by omega);rw[List.map_cons (f:=onP n d),List.map_cons (f:=paD),jp];generalize ((acc++onP n d p::ps.map (onP n d)).map D.bl)=T at *;unfold onP at ih
  by_cases q:(p.1 == n)=true
  ·by_cases q1:p.2.1<=d
   ·by_cases q2:d<=p.2.2
    ·rw[q,decide_eq_true q1,decide_eq_true q2]at ih;simp![Bool.and_self,Bool.and_true,Bool.true_and]at ih;simp?[qL,qP,q,q1,q2,List.length_map,za,ih]
    ·rw[q,decide_eq_true q1,decide_eq_false q2]at ih;simp![Bool.and_self,Bool.and_true,Bool.true_and,Bool.and_false]at ih;simp?[qL,qP,q,q1,q2,List.length_map,za,ih]
   ·rw[q,decide_eq_false q1]at ih;simp![Bool.and_self,Bool.and_true,Bool.true_and,Bool.and_false,Bool.false_and]at ih;simp?[qL,qP,q,q1,List.length_map,za,ih]
  ·have q:(p.1 == n)=false:=(-q:)
   rw[q]at ih;simp![Bool.false_and]at ih;simp?[qL,qP,q,List.length_map,za,ih]
abbrev fR(s:Ru)(ps:List Pa)(n:Int)(row:Row):Int->Int:=wgt (mkR s) (QX n ps) (stR 0 row)
def qoK{s:Ru}{ps:List Pa}(hp:∀p∈ps,p.2.1<=p.2.2)(n:Int)(row:Row)(i:Nat):fR s ps n row i=if (ps.map (onP n i)).any id=true then 0 else wt s.lands ((row[i]?).getD none):=by
 have e:=yx row 0 i;rw[Nat.zero_add]at e;unfold fR wgt;rw[e,qhK,qhQ];unfold QX
 rw[qjv λp hq=>by unfold ofN at hq;let(x,hx,rfl):=List.mem_map.mp hq;exact hp x (List.mem_filter.mp hx).1]
theorem qch(k:Nat){s:Ru}(nd:(s.lands.map (·.1)).Nodup){ps:List Pa}(hl:ps.length<=4)(hp:∀p∈ps,p.2.1<=p.2.2)(n:Int)(row:Row):∀(m i:Nat) (acc:List Int) (s5 s6:Sl),i+m=row.length->acc.length+m < 1000->
  ∃s5' s6',yr (pg.kk k) 1000 (.one 5) zP (rgF (i:Int) m) [.val (spD s),.val (.lst (ps.map paD)),.val (.int n),.val (qy row),.own (acc.map D.int),s5,s6]=.ok (.next [.val (spD s),.val (.lst (ps.map paD)),.val (.int n),.val (qy row),.own ((acc++ws (fR s ps n row) i m).map D.int),s5',s6'])
 |0,i,acc,s5,s6,_,_=>{s5,s6,by simp[rgF,zB,ws]}
 | m+1,i,acc,s5,s6,hm,ha=>by
  let(o,ho):∃o,row[i]?=some o:={row[i],List.getElem?_eq_getElem (by omega)};let(s5',s6',ih):=qch k nd hl hp n row m (i+1) (acc++[fR s ps n row i]) (.val (.int i)) (.val (.int (fR s ps n row i))) (by omega) (by simp;omega);refine{s5',s6',?_};have cp:=qe9 (pg.kk k) n i ps [] .no .no .no (by simp;omega);rw[List.map_nil,List.nil_append]at cp;have an:=qmV (ps.map (onP n i));have ef:=qoK (s:=s) hp n row i;rw[ho]at ef;have g:=qmX nd o;have a1:∀a b c d:D,atI [a,b,c,d] 1=some b:=λ_ _ _ _=>rfl;have ai:atI (row.map opD) (i:Int)=some (opD o):=qj9 (by rw[List.getElem?_map,ho];rfl);have za:acc.length < sizeLine:=qv (by omega);have zp:ps.length<=sizeLine:=qx (by omega);rw[show((i+1:Nat):Int)=(i:Int)+1 by omega]at ih;rw[ws,rgF];rw[List.append_assoc,List.cons_append,List.nil_append,List.map_append (l₁:=acc) (l₂:=[fR s ps n row i]),List.map_cons,List.map_nil]at ih;generalize ((acc++fR s ps n row i::ws (fR s ps n row) (i+1) m).map D.int)=T at *;generalize fR s ps n row i=x at *;generalize (ps.map (onP n i))=bs at *
  cases hb:bs.any id with
  |true=>rw[hb,if_pos rfl]at ef;rw[hb]at an;subst ef;unfold qy at ih ⊢;rw[YG]at ih ⊢;simp?[jt,a1,ai,g,List.length_map,zp,JT,qd8,List.map_cons,List.map_nil,List.getD_cons_succ,List.getD_cons_zero,cp,an,za,ih]
  |false=>rw[hb,if_neg (2:)]at ef;rw[hb]at an;rw[show(some o).getD none=o from rfl]at ef;rw[<-ef]at g;unfold qy at ih ⊢;rw[YG]at ih ⊢;simp?[jt,a1,ai,g,List.length_map,zp,JT,qd8,List.map_cons,List.map_nil,List.getD_cons_succ,List.getD_cons_zero,cp,an,za,ih]
def qfa(k:Nat){s:Ru}(nd:(s.lands.map (·.1)).Nodup){ps:List Pa}(hl:ps.length<=4)(hp:∀p∈ps,p.2.1<=p.2.2)(n:Int){row:Row}(hr:row.length<=20):clK pg (k+1) "_law_counts" [.val (spD s),.val (.lst (ps.map paD)),.val (.int n),.val (qy row)]=.ok (.tmp ((ws (fR s ps n row) 0 row.length).map D.int)):=by
 let(s5,s6,lp):=qch k nd hl hp n row row.length 0 [] .no .no (by omega) (by simp;omega);rw[List.map_nil,List.nil_append,show((0:Nat):Int)=0 from rfl]at lp;have z0:(0:Nat)<=sizeLine:=(3:)
 have sm:qN (row.length:Int)=true:=zK (by omega) (by omega);have rg:qS 0 (row.length:Int)=rgF 0 row.length:=by rw[zh];congr 1
 generalize (ws (fR s ps n row) 0 row.length).map D.int=T at *;rw[Za];unfold qy at lp ⊢;simp?![Ji,List.length_map,sm,rg,z0,lp]
def CL(s:Ru)(f:Int->Int)(d:Nat):Int:=if s.kd.isW=true then (win (mkR s) f d).2 else (fw f (mkR s).days 0 (d+1)).1
theorem qaw:∀l:List Int,qaW (l.map D.int)=some l
 |[]=>rfl
 | n::l=>by rw[List.map_cons,qaW,qaw l];rfl
theorem qmY(f:Int->Int)(lo:Int):∀(m i:Nat),i < m->(ws f lo m)[i]?=some (f (lo+i))
 |0,_,h=>by omega
 | m+1,0,_=>by rw[ws];simp
 | m+1,i+1,h=>by rw[ws,List.getElem?_cons_succ,qmY f (lo+1) m i (by omega),show lo+1+(i:Int)=lo+((i+1:Nat):Int) by omega]
def qoL(x:Int)(b:Bool):x * (if b=true then 1 else 0)=if b=true then x else 0:=by cases b<;>simp
def qhR(x:Int)(b:Bool):qd7 x (if b=true then 1 else 0)=true:=by cases b<;>exact qah (2:) (2:)
def qmZ{f:Int->Int}{n:Int}(hf:∀x,0<=f x)(i:Nat):(fw f n 0 (i+1)).2.1=if (f i == 0)=true then (fw f n 0 i).2.1+1 else 0:=by
 rw[fw,Int.zero_add];show(if 0 < f i then (0:Int) else _)=_
 have:=hf i
 by_cases q:f i=0
 ·rw[q,if_neg (2:),if_pos (2:)]
 ·rw[if_pos (by omega),if_neg (-q:)]
def qm0{f:Int->Int}{n:Int}(i:Nat):(fw f n 0 (i+1)).1=if decide ((fw f n 0 (i+1)).2.1 < n)=true then (fw f n 0 i).1+f i else 0:=by
 rw[fw,Int.zero_add];show(if n<=(if 0 < f i then (0:Int) else (fw f n 0 i).2.1+1) then (0:Int) else _)=if decide ((if 0 < f i then (0:Int) else (fw f n 0 i).2.1+1) < n)=true then _ else 0;generalize (if 0 < f i then (0:Int) else (fw f n 0 i).2.1+1)=g
 by_cases q:g < n
 ·rw[if_neg (by omega),if_pos (decide_eq_true q)]
 ·rw[if_pos (by omega),if_neg (-q:)]
noncomputable abbrev sD:S:=(S.ite (T.cmp CmpOp.Eq (E.idx (E.var 0) (E.con (D.int 0))) (E.con (D.int 0))) (Ss.cons (S.set 2 (E.b1 B1.sum (E.sli (E.var 1) (O.some (E.b2 B2.max (E.con (D.int 0)) (E.bin Operator.Add (E.bin Operator.Sub (E.var 4) (E.idx (E.var 0) (E.con (D.int 3)))) (E.con (D.int 1))))) (O.some (E.bin Operator.Add (E.var 4) (E.con (D.int 1))))))) Ss.nil) (Ss.cons (S.set 3 (E.bin Operator.Mult (E.bin Operator.Add (E.var 3) (E.con (D.int 1))) (E.b1 B1.int (E.cmp CmpOp.Eq (E.idx (E.var 1) (E.var 4)) (E.con (D.int 0)))))) (Ss.cons (S.set 2 (E.bin Operator.Mult (E.bin Operator.Add (E.var 2) (E.idx (E.var 1) (E.var 4))) (E.b1 B1.int (E.cmp CmpOp.Lt (E.var 3) (E.idx (E.lst (Es.cons (E.con (D.int 1)) (Es.cons (E.idx (E.var 0) (E.con (D.int 3))) (Es.cons (E.con (D.int 1)) Es.nil)))) (E.idx (E.var 0) (E.con (D.int 0)))))))) Ss.nil)))
section
variable{s:Ru}(hs:SpOk s){f:Int->Int}(hf:∀x,0<=f x)(hlo:∀x,x < 0->f x=0)
include hs hf hlo
theorem qoM(cl:Cl)(hk:s.kd=.wi)(L i:Nat)(hi:i < L)(x g:Int)(s4:Sl):∀{M:Type} (K:Fl->R M),(iS cl 1000 sD [.val (spD s),.val (.lst ((ws f 0 L).map D.int)),.val (.int x),.val (.int g),.val (.int (i:Int))]).th K=K (.next [.val (spD s),.val (.lst ((ws f 0 L).map D.int)),.val (.int (CL s f i)),.val (.int g),.val (.int (i:Int))]):=by
 intro M K;have hw:(mkR s).kd.isW=true:=by rw[qhL,hk];rfl
 have hd:(mkR s).days=s.days:=by rw[Q4,hk]
 let(l,e1,e2):=qjP (f:=f) (lo:=0) hw (Qp hs).2.1 hlo hi;rw[hd]at e1
 have ec:CL s f i=l.sum:=by unfold CL;rw[if_pos (by rw[hk];rfl),e2,Int.zero_add]
 have b0:((0:Int) == 0)=true:=rfl;have a0:∀a b c d:D,atI [a,b,c,d] 0=some a:=λ_ _ _ _=>rfl;have a3:∀a b c d:D,atI [a,b,c,d] 3=some d:=λ_ _ _ _=>rfl;have kk:kw s.kd=0:=by rw[hk];rfl
 rw[ec,YG,kk];simp?![a0,a3,qP,b0,e1,qnp,qaw]
theorem qoN(cl:Cl)(hk:s.kd≠.wi)(L i:Nat)(hi:i < L)(s4:Sl):∀{M:Type} (K:Fl->R M),(iS cl 1000 sD [.val (spD s),.val (.lst ((ws f 0 L).map D.int)),.val (.int (fw f (mkR s).days 0 i).1),.val (.int (fw f (mkR s).days 0 i).2.1),.val (.int (i:Int))]).th K=K (.next [.val (spD s),.val (.lst ((ws f 0 L).map D.int)),.val (.int (fw f (mkR s).days 0 (i+1)).1),.val (.int (fw f (mkR s).days 0 (i+1)).2.1),.val (.int (i:Int))]):=by
 intro M K;have eg:=qmZ (n:=(mkR s).days) hf i;have es:=qm0 (f:=f) (n:=(mkR s).days) i;have ai:atI ((ws f 0 L).map D.int) (i:Int)=some (.int (f i)):=qj9 (by rw[List.getElem?_map,qmY f 0 L i hi,Int.zero_add];rfl);have a0:∀a b c d:D,atI [a,b,c,d] 0=some a:=λ_ _ _ _=>rfl;have a3:∀a b c d:D,atI [a,b,c,d] 3=some d:=λ_ _ _ _=>rfl
 have ak:atI [D.int 1,.int s.days,.int 1] (kw s.kd)=some (.int (mkR s).days):=by
  rw[Q4]
  cases q:s.kd with
  |wi=>exact absurd q hk
  |si=>rfl
  |ro=>rfl
 have b0:(kw s.kd == 0)=false:=by
  cases q:s.kd with
  |wi=>exact absurd q hk
  |si=>rfl
  |ro=>rfl
 have three:0+1+1+1<=sizeLine:=(3:)
 rw[es,eg];generalize (fw f (mkR s).days 0 i).1=x;generalize (fw f (mkR s).days 0 i).2.1=g;generalize (ws f 0 L).map D.int=W at *;generalize f i=c at *;have m1:=qhR (g+1) (c == 0);have m2:=qhR (x+c) (decide ((if (c == 0)=true then g+1 else 0) < (mkR s).days));rw[YG];simp?![a0,a3,qP,b0,ai,m1,qoL,three,ak,m2]
theorem qax(cl:Cl)(L:Nat):∀(m i:Nat) (x g:Int) (s4:Sl),i+m=L->(s.kd≠.wi->x=(fw f (mkR s).days 0 i).1/\g=(fw f (mkR s).days 0 i).2.1)->
  ∃F,yr cl 1000 (.one 4) ja (rgF (i:Int) m) [.val (spD s),.val (.lst ((ws f 0 L).map D.int)),.val (.int x),.val (.int g),s4]=.ok F/\((∀d:Nat,i<=d->d < L->CL s f d<=s.most)->∃N',F=.next N')/\∀d:Nat,i<=d->d < L->s.most < CL s f d->F=.ret (.val (.bl false))
 |0,i,x,g,s4,hm,_=>{_,rfl,λ_=>{_,rfl},λd h1 h2=>by omega}
 | m+1,i,x,g,s4,hm,hx=>by
  let(g',hg,X):∃g',(s.kd≠.wi->CL s f i=(fw f (mkR s).days 0 (i+1)).1/\g'=(fw f (mkR s).days 0 (i+1)).2.1)/\∀{M:Type} (K:Fl->R M),(iS cl 1000 sD [.val (spD s),.val (.lst ((ws f 0 L).map D.int)),.val (.int x),.val (.int g),.val (.int (i:Int))]).th K=K (.next [.val (spD s),.val (.lst ((ws f 0 L).map D.int)),.val (.int (CL s f i)),.val (.int g'),.val (.int (i:Int))]):=by
   by_cases hk:s.kd=.wi
   ·exact{g,λq=>absurd hk q,λ{M} K=>qoM hs hf hlo cl hk L i (by omega) x g .no K}
   ·let(e1,e2):=hx hk
    have ec:CL s f i=(fw f (mkR s).days 0 (i+1)).1:=by unfold CL;rw[if_neg (by cases q:s.kd with |wi=>exact absurd q hk |si=>decide |ro=>decide)]
    refine{_,λ_=>⟨ec,rfl⟩,λ{M} K=>?_};rw[ec,e1,e2];exact qoN hs hf hlo cl hk L i (by omega) .no K
  let(F,ih,i1,i2):=qax cl L m (i+1) (CL s f i) g' (.val (.int (i:Int))) (by omega) hg;rw[show((i+1:Nat):Int)=(i:Int)+1 by omega]at ih;have a2:∀a b c d:D,atI [a,b,c,d] 2=some c:=λ_ _ _ _=>rfl;rw[YG]at X ih ⊢;generalize (ws f 0 L).map D.int=W at *;rw[rgF]
  by_cases q:s.most < CL s f i
  ·refine{.ret (.val (.bl false)),?_,λz=>absurd (z i (Nat.le_refl _) (by omega)) (by omega),λ_ _ _ _=>rfl};generalize CL s f i=c at *;simp?[jT,↓X,a2,q]
  ·refine{F,?_,λz=>i1 λd h1 h2=>z d (by omega) h2,λd h1 h2 h3=>i2 d (by rcases Nat.lt_or_ge i d with w|w;exact w;rw[show d=i by omega]at h3;exact absurd h3 q) h2 h3};generalize CL s f i=c at *;simp?[jT,↓X,a2,q,ih]
def Ze(s:Ru)(f:Int->Int)(L:Nat):Bool:=(List.range L).all λd=>decide (CL s f d<=s.most)
theorem yn(L:Nat):Ze s f L=true↔∀d:Nat,d < L->CL s f d<=s.most:=by unfold Ze;rw[List.all_eq_true];simp
theorem qgU(k L:Nat)(hL:L<=20):clK pg (k+1) "_law_keeps" [.val (spD s),.val (.lst ((ws f 0 L).map D.int))]=.ok (.val (.bl (Ze s f L))):=by
 let(F,lp,i1,i2):=qax hs hf hlo (pg.kk k) L L 0 0 0 .no (by omega) λ_=>⟨rfl,rfl⟩;rw[show((0:Nat):Int)=0 from rfl]at lp;have sm:qN (L:Int)=true:=zK (by omega) (by omega);have rg:qS 0 (L:Int)=rgF 0 L:=by rw[zh];congr 1
 have wl:=qe1 f L 0;rw[qau]
 cases q:Ze s f L with
 |true=>let(N',rfl):=i1 λd _ h=>(yn hs hf hlo L).mp q d h;generalize spD s=S at *;simp?![yi,List.length_map,wl,sm,rg,lp]
 |false=>
  let(d,h1,h2):∃d:Nat,d < L/\s.most < CL s f d:=by
   refine Classical.byContradiction λz=>?_
   have:=(yn (s:=s) hs hf hlo L).mpr λd h=>by
    rcases Int.lt_or_le s.most (CL s f d) with w|w
    ·exact absurd ⟨d,h,w⟩ z
    ·exact w
   rw[q]at this;cases this
  obtain rfl:=i2 d (Nat.zero_le _) h1 h2;generalize spD s=S at *;simp?![yi,List.length_map,wl,sm,rg,lp]
end
structure WOk'(ss:List Ru)(ps:List Pa):Prop where
 sp:∀s∈ss,SpOk s
 l3:ss.length<=8
 p18:ps.length<=4
 pp:∀p∈ps,p.2.1<=p.2.2
 nd:∀s∈ss,(s.lands.map (·.1)).Nodup
def qoO{ss:List Ru}{ps:List Pa}(h:WOk' ss ps):BkW (ss.map mkR) ps:={qmR (λr hr=>by let(s,hs,rfl):=List.mem_map.mp hr;exact Qp (h.sp s hs)) h.pp (by have:=h.p18;omega),by have:=h.p18;omega}
section
variable{s:Ru}(hs:SpOk s)(ps:List Pa)(n:Int)(row:Row)
include hs
theorem qgV(x:Int):0<=fR s ps n row x:=qmG (Qp hs).1 _ _ x
omit hs in
theorem qgW(x:Int)(h:x < 0):fR s ps n row x=0:=qbf (yw row 0 x (by omega))
end
def qoP{s:Ru}{ps:List Pa}{n:Int}{row:Row}{x:Int}(h:(row.length:Int)<=x):fR s ps n row x=0:=by
 refine qbf ?_;let(k,rfl):∃k:Nat,x=(k:Int):={x.toNat,by omega}
 have:=yx row 0 k
 rw[Nat.zero_add,List.getElem?_eq_none (by omega)]at this;exact this
def qjQ{s:Ru}(hs:SpOk s){ps:List Pa}{n:Int}{row:Row}(hr:yS row)(hx:Rlw (mkR s,QX n ps)):NB (stR 0 row) (mkR s,QX n ps)↔Ze s (fR s ps n row) row.length=true:=by
 have hc:Chw (-1) (stR 0 row):=(qcg row 0 (-1) (2:) (by have:=hr.1;omega) hr.2).w;have hf:=qgV hs ps n row;have hlo:=qgW (s:=s) ps n row;have hd:1<=(mkR s).days:=(Qp hs).2.1;have C:Cnt (mkR s).kd.isW (mkR s).days (fR s ps n row) (cb (stR 0 row) (mkR s,QX n ps)):=qoG hx hc;have hm:(mkR s).most=s.most:=qb8 s
 have eq:∀d:Nat,CL s (fR s ps n row) d=cb (stR 0 row) (mkR s,QX n ps) d:=λd=>by
  unfold CL;rw[<-qhL s]
  cases hw:(mkR s).kd.isW with
  |true=>rw[if_pos rfl,C.win hw];unfold win;rw[if_pos hw]
  |false=>
   rw[if_neg (2:)];rw[hw]at C
   have:=Cnt.eq (qoJ hf hd hlo) C hd d
   rw[this];unfold DG.cF;rw[if_neg (by omega),show((d:Int)+1 - 0).toNat=d+1 by omega]
 rw[yn hs hf hlo];constructor
 ·intro h d _
  have:=qjK hx hc h d
  rw[eq d];rw[hm]at this;exact this
 ·intro h
  cases q:qt (mkR s) (Jp (stR 0 row) (mkR s,QX n ps)) with
  |none=>exact q
  |some d=>
   have b:=(qjL hx hc q).1;dsimp only at b;rw[hm]at b;have m0:=(Qp hs).2.2;rw[hm]at m0;exfalso
   have neg:∀x:Int,x < 0->cb (stR 0 row) (mkR s,QX n ps) x<=0:=λx hx0=>by
    let(B,hB):=C.low
    by_cases hxB:x < B
    ·rw[(hB x hxB).1];exact Int.le_refl _
    ·exact Cnt.keeps C hd (m:=0) (a:=B - 1) (b:=0) (by rw[(hB (B - 1) (by omega)).1];exact Int.le_refl _) (λy _ h2=>hlo y h2) x (by omega) hx0
   by_cases h0:d < 0
   ·have:=neg d h0;omega
   ·let(k,rfl):∃k:Nat,d=(k:Int):={d.toNat,by omega}
    by_cases hk:k < row.length
    ·have:=h k hk
     rw[eq k]at this;omega
    ·have:=Cnt.keeps C hd (m:=s.most) (a:=(row.length:Int) - 1) (b:=(k:Int)+1) (by
      cases hl:row.length with
      |zero=>have:=neg (((0:Nat):Int) - 1) (by omega);omega
      |succ j=>
       have:=h j (by omega)
       rw[eq j]at this;rw[show((j+1:Nat):Int) - 1=(j:Int) by omega];exact this) (λy h1 _=>qoP (by omega)) k (by omega) (by omega)
     omega
def kbs(ps:List Pa)(row:Row):Nat->List Ru->List Bool
 |_,[]=>[]
 | i,s::l=>Ze s (fR s ps (i:Int) row) row.length::kbs ps row (i+1) l
theorem qfb{ps:List Pa}{row:Row}(hr:yS row):∀(l:List Ru) (i:Nat),(∀s∈l,SpOk s)->(∀x∈rlF ps i (l.map mkR),Rlw x)->((kbs ps row i l).all id=true↔∀x∈rlF ps i (l.map mkR),NB (stR 0 row) x)
 |[],i,_,_=>by simp[kbs,rlF]
 | s::l,i,h,hx=>by rw[kbs,List.map_cons,rlF];rw[List.map_cons,rlF]at hx;rw[List.all_cons,Bool.and_eq_true,qfb hr l (i+1) (λy hy=>h y (by simp[hy])) λx hy=>hx x (by simp[hy])];rw[List.forall_mem_cons,qjQ (h s (5:)) hr (hx _ (5:))];rfl
def Zf{ss:List Ru}{ps:List Pa}(w:WOk' ss ps){row:Row}(hr:yS row):qI (ss.map mkR) ps row=(kbs ps row 0 ss).all id:=by rw[Bool.eq_iff_iff,qfb hr ss 0 w.sp (qoO w).w];unfold qI;rw[Option.isNone_iff_eq_none];unfold Qm;rw[Zd];simp
theorem qay(k:Nat){ss:List Ru}{ps:List Pa}(w:WOk' ss ps){row:Row}(hr:row.length<=20):∀(l:List Ru) (i:Nat) (acc:List Bool) (s0:Sl),(∀j:Nat,l[j]?=ss[i+j]?)->acc.length+l.length < 1000->zA (pg.kk (k+1)) jH (.one 0) .yes (rgF (i:Int) l.length) [s0,.val (qy row),.val (.lst (ss.map spD)),.val (.lst (ps.map paD))] (acc.map D.bl)=.ok ((acc++kbs ps row i l).map D.bl)
 |[],i,acc,s0,_,_=>by simp[rgF,qG,kbs]
 | s::l,i,acc,s0,hj,h=>by
  rw[List.length_cons]at h;have h0:ss[i]?=some s:=by have:=hj 0;rw[Nat.add_zero]at this;rw[<-this];rfl
  have hm:s∈ss:=List.mem_of_getElem? h0;have ih:=qay k w hr l (i+1) (acc++[Ze s (fR s ps (i:Int) row) row.length]) (.val (.int (i:Int))) (λj=>by have:=hj (j+1);rw[List.getElem?_cons_succ]at this;rw[this];congr 1;omega) (by simp;omega);rw[List.append_assoc,List.cons_append,List.nil_append,List.map_append (l₁:=acc) (l₂:=[_]),List.map_cons,List.map_nil]at ih;have e1:=qfa k (w.nd s hm) (by have:=w.p18;omega) w.pp (i:Int) hr;have e2:=qgU (w.sp s hm) (qgV (w.sp s hm) ps (i:Int) row) (qgW (s:=s) ps (i:Int) row) k row.length hr;have ai:atI (ss.map spD) (i:Int)=some (spD s):=qj9 (by rw[List.getElem?_map,h0];rfl);have za:acc.length < sizeLine:=qv (by omega);rw[show((i+1:Nat):Int)=(i:Int)+1 by omega]at ih;rw[List.length_cons,rgF,kbs];generalize ((acc++Ze s (fR s ps (i:Int) row) row.length::kbs ps row (i+1) l).map D.bl)=T at *;generalize Ze s (fR s ps (i:Int) row) row.length=b at *;generalize (ws (fR s ps (i:Int) row) 0 row.length).map D.int=W at *;generalize qy row=RR at *;generalize spD s=S at *;simp?[YO,ai,e1,e2,List.length_map,za,ih]
def wD(ss:List Ru)(ps:List Pa):D:=.tup [.lst (ss.map spD),.lst (ps.map paD)]
def Qr(k:Nat){ss:List Ru}{ps:List Pa}(w:WOk' ss ps){row:Row}(hr:yS row):clK pg (k+2) "_law_lets" [.val (wD ss ps),.val (qy row)]=.ok (.val (.bl (qI (ss.map mkR) ps row))):=by
 have hl:=w.l3;have cp:=qay k w hr.1 ss 0 [] .no (λj=>by rw[Nat.zero_add]) (by simp;omega);rw[List.map_nil,List.nil_append,show((0:Nat):Int)=0 from rfl]at cp;have al:=qmW (kbs ps row 0 ss);rw[<-Zf w hr]at al;have sm:qN (ss.length:Int)=true:=zK (by omega) (by omega);have rg:qS 0 (ss.length:Int)=rgF 0 ss.length:=by rw[zh];congr 1
 have zr:(rgF 0 ss.length).length<=sizeLine:=qx (by rw[qbc];omega);generalize qI (ss.map mkR) ps row=b at *;generalize qy row=RR at *;unfold wD;rw[qbi];simp?![YQ,List.length_map,sm,rg,zr,JT,qd8,List.map_cons,List.map_nil,List.getD_cons_succ,List.getD_cons_zero,cp,al]
theorem qfc{f g:Int->Int}{n:Int}:∀i:Nat,(∀x:Int,x < i->f x=g x)->fw f n 0 i=fw g n 0 i
 |0,_=>rfl
 | i+1,h=>by rw[fw,fw,qfc i λx hx=>h x (by omega),Int.zero_add,h i (by omega)]
def qjR{s:Ru}(hs:SpOk s){f g:Int->Int}{d:Nat}(h:∀x:Int,x<=d->f x=g x):CL s f d=CL s g d:=by unfold CL;rw[qgH (Qp hs).2.1 h,qfc (d+1) λx hx=>h x (by omega)]
def qfd{ss:List Ru}{ps:List Pa}(w:WOk' ss ps){row:Row}{z:Option Str}(hr:yS (row++[z]))(h:qI (ss.map mkR) ps (row++[z])=true):qI (ss.map mkR) ps row=true:=by
 have hr':yS row:={by have:=hr.1;simp at this;omega,λy hy=>hr.2 y (by simp[hy])};rw[Zf w hr]at h;rw[Zf w hr']
 have go:∀(l:List Ru) (i:Nat),(∀s∈l,SpOk s)->(kbs ps (row++[z]) i l).all id=true->(kbs ps row i l).all id=true:=λl=>by
  induction l with
  |nil=>intro i _ _;rfl
  |cons s l ih=>
   intro i hs q;rw[kbs,List.all_cons,Bool.and_eq_true]at q ⊢;have hs0:=hs s (5:);refine{?_,ih (i+1) (λy hy=>hs y (by simp[hy])) q.2};refine(yn hs0 (qgV hs0 ps (i:Int) row) (qgW ps (i:Int) row) _).mpr λd hd=>?_
   have:=(yn hs0 (qgV hs0 ps (i:Int) (row++[z])) (qgW ps (i:Int) (row++[z])) _).mp q.1 d (by simp;omega)
   rw[qjR hs0 (g:=fR s ps (i:Int) (row++[z])) λx hx=>?_]
   ·exact this
   ·refine qgG ?_
    by_cases h0:x < 0
    ·rw[yw row 0 x (by omega),yw (row++[z]) 0 x (by omega)]
    ·let(j,rfl):∃j:Nat,x=(j:Int):={x.toNat,by omega};have e1:=yx row 0 j;have e2:=yx (row++[z]) 0 j;rw[Nat.zero_add]at e1 e2;rw[e1,e2,List.getElem?_append_left (by omega)]
 exact go ss 0 w.sp h
def ptF(L1 L2:Row->Bool)(zs:List Str):Nat->List Row->Option Row
 |0,_=>none
 | n+1,rows=>match (lgF zs rows).find? λr=>L1 r != L2 r with
  |some r=>some r
  |none=>ptF L1 L2 zs n (lgF zs rows)
def pgF(L1 L2:Row->Bool)(zs:List Str):Nat->List Row->Option Row
 |0,_=>none
 | n+1,rows=>match (lgF zs rows).find? λr=>L1 r != L2 r with
  |some r=>some r
  |none=>pgF L1 L2 zs n ((lgF zs rows).filter L1)
theorem qci(L1 L2:Row->Bool)(zs:List Str):∀(n:Nat) (rows:List Row),ptF L1 L2 zs n rows=ptF L2 L1 zs n rows
 |0,_=>rfl
 | n+1,rows=>by
  have e:(λr=>L1 r != L2 r)=λr=>L2 r != L1 r:=by funext r;cases L1 r<;>cases L2 r<;>rfl
  rw[ptF,ptF,e,qci L1 L2 zs n]
theorem qcj(L:Row->Bool)(zs:List Str):∀(n:Nat) (rows:List Row),ptF L L zs n rows=none
 |0,_=>rfl
 | n+1,rows=>by rw[ptF,List.find?_eq_none.mpr λr _=>by simp];exact qcj L zs n _
def ext(zs:List Str)(r:Row):List Row:=(zs.map some++[none]).map λz=>r++[z]
def qck(zs:List Str)(r:Row)(rows:List Row):lgF zs (r::rows)=ext zs r++lgF zs rows:=rfl
section
variable{L1 L2:Row->Bool}{zs:List Str}
theorem qaz:∀A:List Row,(∀r∈A,L1 r=L2 r/\∀q∈ext zs r,(L1 q=true->L1 r=true)/\(L2 q=true->L2 r=true))->
  (lgF zs (A.filter L1)).find? (λr=>L1 r != L2 r)=(lgF zs A).find? (λr=>L1 r != L2 r)/\(lgF zs (A.filter L1)).filter L1=(lgF zs A).filter L1
 |[],_=>⟨rfl,rfl⟩
 | r::A,h=>by
  let(i1,i2):=qaz A λx hx=>h x (by simp[hx]);let(e,c):=h r (5:);rw[List.filter_cons,qck]
  cases q:L1 r with
  |true=>rw[if_pos rfl,qck,List.find?_append,List.find?_append,List.filter_append,List.filter_append,i1,i2];exact⟨rfl,rfl⟩
  |false=>
   rw[if_neg (2:),List.find?_append,List.filter_append]
   have no:∀y∈ext zs r,L1 y=false/\L2 y=false:=λy hy=>by
    let(c1,c2):=c y hy;constructor
    ·cases z:L1 y with
     |false=>rfl
     |true=>have:=c1 z;rw[q]at this;cases this
    ·cases z:L2 y with
     |false=>rfl
     |true=>have:=c2 z;rw[<-e,q]at this;cases this
   have n1:(ext zs r).find? (λr=>L1 r != L2 r)=none:=List.find?_eq_none.mpr λy hy=>by rw[(no y hy).1,(no y hy).2];decide
   have n2:(ext zs r).filter L1=[]:=List.filter_eq_nil_iff.mpr λy hy=>by rw[(no y hy).1];decide
   rw[n1,n2];exact{by simpa using i1,(-i2:)}
theorem qm1(hz:∀z∈zs,NameOk z)(h2:zs.length<=2)(c1:∀r z,yS (r++[z])->L1 (r++[z])=true->L1 r=true)(c2:∀r z,yS (r++[z])->L2 (r++[z])=true->L2 r=true):∀(n t:Nat) (A:List Row),RI t A->t+n<=4->(∀r∈A,L1 r=L2 r)->pgF L1 L2 zs n (A.filter L1)=ptF L1 L2 zs n A
 |0,_,_,_,_,_=>rfl
 | n+1,t,A,ri,ht,he=>by
  have nx:=ri.next hz h2
  have ok:∀r∈A,∀q∈ext zs r,∃z,q=r++[z]/\yS q:=λr hr q hq=>by let(z,hzz,rfl):=List.mem_map.mp hq;have m:r++[z]∈lgF zs A:=List.mem_flatMap.mpr ⟨r,hr,List.mem_map.mpr ⟨z,hzz,rfl⟩⟩;let(a,b):=nx.ok _ m;exact{z,rfl,by omega,b}
  let(i1,i2):=qaz (L1:=L1) (L2:=L2) (zs:=zs) A λr hr=>{he r hr,λq hq=>by let(z,rfl,w):=ok r hr q hq;exact{c1 r z w,c2 r z w}}
  rw[pgF,ptF,i1,i2]
  cases q:(lgF zs A).find? (λr=>L1 r != L2 r) with
  |some r=>rfl
  |none=>exact qm1 hz h2 c1 c2 n (t+1) (lgF zs A) nx (by omega) λr hr=>by have:=List.find?_eq_none.mp q r hr;simpa using this
end
def qhS:Option Row->D
 |none=>.non
 |some r=>qy r
def qm2(a b:Bool):(eqD (.bl a) (.bl b))=some (a == b):=by cases a<;>cases b<;>decide+kernel
section
variable{R1 R2:List Ru}{P1 P2:List Pa}(w1:BkW R1 P1)(w2:BkW R2 P2)
include w1 w2
theorem qbm(k:Nat)(v2 v3 v5 v6:Sl):∀(L acc:List Row) (s7 s8:Sl),(∀r∈L,yS r)->acc.length+L.length < 1000->
  ∃F,yr (pg.kk (k+8)) 1000 (.one 7) JC (L.map qy) [.val (bkI R1 P1),.val (bkI R2 P2),v2,v3,.own (acc.map qy),v5,v6,s7,s8]=.ok F/\(∀r,L.find? (λr=>qI R1 P1 r != qI R2 P2 r)=some r->F=.ret (.val (qy r)))/\(L.find? (λr=>qI R1 P1 r != qI R2 P2 r)=none->∃s7' s8',F=.next [.val (bkI R1 P1),.val (bkI R2 P2),v2,v3,.own ((acc++L.filter (qI R1 P1)).map qy),v5,v6,s7',s8'])
 |[],acc,s7,s8,_,_=>{_,rfl,(λr h=>by simp at h),λ_=>{s7,s8,by simp}}
 | r::L,acc,s7,s8,hr,h=>by
  rw[List.length_cons]at h;have ok:=hr r (5:);have e1:=qe4 k w1 ok;have e2:=qe4 k w2 ok;have eb:=qm2 (qI R1 P1 r) (qI R2 P2 r);have za:acc.length < sizeLine:=qv (by omega);rw[List.find?_cons,List.filter_cons]
  cases q:(qI R1 P1 r != qI R2 P2 r) with
  |true=>
   refine{.ret (.val (qy r)),?_,λx hx=>by cases hx;rfl,λhx=>by cases hx};have q':(qI R1 P1 r == qI R2 P2 r)=false:=by rw[bne]at q;simpa using q
   rw[q']at eb;rw[List.map_cons];generalize qy r=X at *;generalize qI R1 P1 r=a at *;generalize qI R2 P2 r=b at *;simp?[yg,e1,e2,eb]
  |false=>
   have q':(qI R1 P1 r == qI R2 P2 r)=true:=by rw[bne]at q;simpa using q
   rw[q']at eb
   cases q1:qI R1 P1 r with
   |true=>
    let(F,ih,i1,i2):=qbm k v2 v3 v5 v6 L (acc++[r]) (.val (qy r)) (.val (.bl true)) (λx hx=>hr x (by simp[hx])) (by simp;omega);refine{F,?_,i1,λhx=>?_}
    ·rw[List.map_append (l₁:=acc) (l₂:=[r]),List.map_cons,List.map_nil]at ih;rw[q1]at e1 eb;rw[List.map_cons];generalize qy r=X at *;generalize qI R2 P2 r=b at *;simp?[yg,e1,e2,eb,List.length_map,za,ih]
    ·let(s7',s8',e):=i2 hx;exact{s7',s8',by rw[e,if_pos rfl,List.append_assoc];rfl}
   |false=>
    let(F,ih,i1,i2):=qbm k v2 v3 v5 v6 L acc (.val (qy r)) (.val (.bl false)) (λx hx=>hr x (by simp[hx])) (by omega);refine{F,?_,i1,λhx=>?_}
    ·rw[q1]at e1 eb;rw[List.map_cons];generalize qy r=X at *;generalize qI R2 P2 r=b at *;simp?[yg,e1,e2,eb,ih]
    ·let(s7',s8',e):=i2 hx;exact{s7',s8',by rw[e,if_neg (2:)]}
theorem yv(k:Nat)(b:Bool)(v3:Sl)(zs:List Str)(hz:∀z∈zs,NameOk z)(h2:zs.length<=2):∀(n t:Nat) (rows:List Row) (s5 s6 s7 s8:Sl),RI t rows->t+n<=4->
  ∃F,yr (pg.kk (k+8)) 1000 (.one 5) JD (rgF (t:Int) n) [.val (bkI R1 P1),.val (bkI R2 P2),pS b (zs.map D.str),v3,.own (rows.map qy),s5,s6,s7,s8]=.ok F/\(∀r,pgF (qI R1 P1) (qI R2 P2) zs n rows=some r->F=.ret (.val (qy r)))/\(pgF (qI R1 P1) (qI R2 P2) zs n rows=none->∃N',F=.next N')
 |0,t,rows,s5,s6,s7,s8,_,_=>{_,rfl,(λr h=>by cases h),λ_=>{_,rfl}}
 | n+1,t,rows,s5,s6,s7,s8,h,hn=>by
  have h27:3 ^ t<=27:=by
   have:(3:Nat) ^ t<=3 ^ 3:=Nat.pow_le_pow_right (2:) (by omega)
   omega
  have hlen:=h.len;have nx:=h.next hz h2
  have h81:(lgF zs rows).length<=81:=by
   have:=nx.len
   rw[Nat.pow_succ]at this;omega
  have lo:clK pg (k+8) "longer_rows" [.bor (rows.map qy),aL b (zs.map D.str)]=.ok (.tmp ((lgF zs rows).map qy)):=qe7 (k+7) b zs h2 rows (λr hr=>by have:=(h.ok r hr).1;omega) (by omega);let(F,il,j1,j2):=qbm w1 w2 k (pS b (zs.map D.str)) v3 (.val (.int (t:Int))) (.val (.lst ((lgF zs rows).map qy))) (lgF zs rows) [] s7 s8 (λr hr=>{by have:=(nx.ok r hr).1;omega,(nx.ok r hr).2}) (by simp;omega);rw[List.map_nil]at il;have z0:(0:Nat)<=sizeLine:=(3:)
  rw[pgF]
  cases q:(lgF zs rows).find? λr=>qI R1 P1 r != qI R2 P2 r with
  |some r=>refine{.ret (.val (qy r)),?_,λx hx=>by cases hx;rfl,λhx=>by cases hx};rw[j1 r q]at il;generalize (lgF zs rows).map qy=LL at *;generalize rows.map qy=RR at *;generalize qy r=X at *;rw[rgF];simp?[JQ,lo,z0,il]
  |none=>let(s7',s8',e):=j2 q;rw[e,List.nil_append]at il;have nx2:RI (t+1) ((lgF zs rows).filter (qI R1 P1)):={Nat.le_trans (List.length_filter_le _ _) nx.len,λr hr=>nx.ok r (List.mem_filter.mp hr).1};let(F',ih,i1,i2):=yv k b v3 zs hz h2 n (t+1) _ (.val (.int (t:Int))) (.val (.lst ((lgF zs rows).map qy))) s7' s8' nx2 (by omega);refine{F',?_,i1,i2};rw[show((t+1:Nat):Int)=(t:Int)+1 by omega]at ih;generalize (lgF zs rows).map qy=LL at *;generalize ((lgF zs rows).filter (qI R1 P1)).map qy=FF at *;generalize rows.map qy=RR at *;rw[rgF];simp?[JQ,lo,z0,il,ih]
theorem qfe(k:Nat)(b:Bool)(zs:List Str)(hz:∀z∈zs,NameOk z)(hn:zs.Nodup)(h1:1<=zs.length)(h2:zs.length<=2)(n:Nat)(h4:n<=4):clK pg (k+9) "parted" [.val (bkI R1 P1),.val (bkI R2 P2),aL b (zs.map D.str),.val (.int (n:Int))]=.ok (.val (qhS (pgF (qI R1 P1) (qI R2 P2) zs n [[]]))):=by
 have e:clK pg (k+8) "are_names" [aL b (zs.map D.str),.val (.int 2)]=.ok (.val (.bl true)):=qmU (k+5) b zs hz hn h1 h2;let(F,lp,i1,i2):=yv w1 w2 k b (.val (.int (n:Int))) zs hz h2 n 0 [[]] .no .no .no .no ⟨by decide,λr hr=>by rw[List.mem_singleton.mp hr];exact{rfl,λz hz=>by cases hz}⟩ (by omega);rw[show((0:Nat):Int)=0 from rfl,show(([[]]:List Row).map qy)=[.lst []] from rfl]at lp;have z0:(0:Nat)<=sizeLine:=(3:)
 have z1:0+1<=sizeLine:=(3:)
 have s1:qN (n:Int)=true:=zK (by omega) (by omega);have rg:qS 0 (n:Int)=rgF 0 n:=by rw[zh];congr 1
 rw[qgT]
 cases q:pgF (qI R1 P1) (qI R2 P2) zs n [[]] with
 |none=>let(N',rfl):=i2 q;simp?![Q9,e,z0,z1,s1,rg,lp,qhS]
 |some r=>obtain rfl:=i1 r q;rw[show qhS (some r)=qy r from rfl];generalize qy r=X at *;simp?![Q9,e,z0,z1,s1,rg,lp]
end
theorem qff(cl:Cl)(r:Row)(hr:r.length<=1000):∀(zs:List (Option Str)) (acc:List Row) (s0:Sl),acc.length+zs.length < 1000->zA cl zQ (.one 0) .yes (zs.map opD) [s0,.val (qy r)] (acc.map qy)=.ok ((acc++zs.map λz=>r++[z]).map qy)
 |[],acc,s0,_=>by simp[qG]
 | z::zs,acc,s0,h=>by
  rw[List.length_cons]at h;have ih:=qff cl r hr zs (acc++[r++[z]]) (.val (opD z)) (by simp;omega);have za:acc.length < sizeLine:=qv (by omega);have one:0+1<=sizeLine:=(3:)
  have zr:r.length+(0+1)<=sizeLine:=qx (by omega);rw[List.map_cons,List.map_cons];rw[List.append_assoc,List.cons_append,List.nil_append,List.map_append (l₁:=acc) (l₂:=[r++[z]]),List.map_cons,List.map_nil,show qy (r++[z])=.lst (r.map opD++[opD z]) by simp[qy]]at ih;unfold qy at ih ⊢;simp?[JE,one,List.length_map,zr,za,ih]
theorem qfg(k:Nat)(v0:Sl)(zs:List Str)(hz:zs.length<=2):∀(rows acc:List Row) (s3:Sl),(∀r∈rows,r.length<=1000)->acc.length+3 * rows.length < 1000->
  ∃s3',yr (pg.kk k) 1000 (.one 3) zR (rows.map qy) [v0,.val (.lst (zs.map D.str)),.own (acc.map qy),s3]=.ok (.next [v0,.val (.lst (zs.map D.str)),.own ((acc++lgF zs rows).map qy),s3'])
 |[],acc,s3,_,_=>{s3,by simp[zB,lgF]}
 | r::rows,acc,s3,hr,h=>by
  rw[List.length_cons]at h;have lz:(zs.map some++[none]).length=zs.length+1:=by simp
  have cp:=qff (pg.kk k) r (hr r (5:)) (zs.map some++[none]) [] .no (by rw[lz];simp;omega);let(s3',ih):=qfg k v0 zs hz rows (acc++(zs.map some++[none]).map λz=>r++[z]) (.val (qy r)) (λx hx=>hr x (by simp[hx])) (by simp;omega);refine{s3',?_};rw[show lgF zs (r::rows)=((zs.map some++[none]).map λz=>r++[z])++lgF zs rows from rfl];rw[List.append_assoc]at ih;have e1:(zs.map some++[none]).map opD=zs.map D.str++[.non]:=by simp[opD,Function.comp_def]
  rw[e1,List.map_nil,List.nil_append]at cp;have zc:(zs.map D.str++[D.non]).length<=sizeLine:=qx (by simp;omega);have za:zs.length+(0+1)<=sizeLine:=qx (by omega);have zx:acc.length+(zs.length+1)<=sizeLine:=qx (by omega);have one:0+1<=sizeLine:=(3:)
  rw[List.map_append (l₁:=acc)]at ih;generalize hL:((zs.map some++[none]).map λz=>r++[z]).map qy=L at cp ih;have ll:L.length=zs.length+1:=by rw[<-hL,List.length_map,List.length_map,lz]
  rw[List.map_cons];simp?[JF,one,List.length_map,za,zc,JT,qd8,List.map_cons,List.map_nil,List.getD_cons_succ,List.getD_cons_zero,cp,ll,zx,ih]
def qc7(k:Nat)(zs:List Str)(hz:zs.length<=2)(b:Bool)(rows:List Row)(hr:∀r∈rows,r.length<=1000)(h:rows.length<=300):clK pg (k+1) "_law_longer" [aL b (rows.map qy),.val (.lst (zs.map D.str))]=.ok (.tmp ((lgF zs rows).map qy)):=by
 let(s3,lp):=qfg k (pS b (rows.map qy)) zs hz rows [] .no hr (by simp;omega);rw[List.map_nil,List.nil_append]at lp;have z0:(0:Nat)<=sizeLine:=(3:)
 rw[Zb];simp?![Jj,z0,lp]
section
variable{S1 S2:List Ru}{P1 P2:List Pa}(w1:WOk' S1 P1)(w2:WOk' S2 P2)
include w1 w2
theorem qcl(k:Nat)(v2 v3 v4 v5:Sl):∀(L:List Row) (s6:Sl),(∀r∈L,yS r)->
  ∃F,yr (pg.kk (k+2)) 1000 (.one 6) zS (L.map qy) [.val (wD S1 P1),.val (wD S2 P2),v2,v3,v4,v5,s6]=.ok F/\(∀r,L.find? (λr=>qI (S1.map mkR) P1 r != qI (S2.map mkR) P2 r)=some r->F=.ret (.val (qy r)))/\(L.find? (λr=>qI (S1.map mkR) P1 r != qI (S2.map mkR) P2 r)=none->∃s6',F=.next [.val (wD S1 P1),.val (wD S2 P2),v2,v3,v4,v5,s6'])
 |[],s6,_=>{_,rfl,(λr h=>by simp at h),λ_=>⟨s6,rfl⟩}
 | r::L,s6,hr=>by
  have ok:=hr r (5:);have e1:=Qr k w1 ok;have e2:=Qr k w2 ok;have eb:=qm2 (qI (S1.map mkR) P1 r) (qI (S2.map mkR) P2 r);rw[List.find?_cons]
  cases q:(qI (S1.map mkR) P1 r != qI (S2.map mkR) P2 r) with
  |true=>
   refine{.ret (.val (qy r)),?_,(λx hx=>by cases hx;rfl),λhx=>by cases hx};have q':(qI (S1.map mkR) P1 r == qI (S2.map mkR) P2 r)=false:=by rw[bne]at q;simpa using q
   rw[q']at eb;rw[List.map_cons];generalize qy r=X at *;generalize qI (S1.map mkR) P1 r=a at *;generalize qI (S2.map mkR) P2 r=b at *;generalize wD S1 P1=W1 at *;generalize wD S2 P2=W2 at *;simp?[ju,e1,e2,eb]
  |false=>
   have q':(qI (S1.map mkR) P1 r == qI (S2.map mkR) P2 r)=true:=by rw[bne]at q;simpa using q
   rw[q']at eb;let(F,ih,i1,i2):=qcl k v2 v3 v4 v5 L (.val (qy r)) (λx hx=>hr x (by simp[hx]));refine{F,?_,i1,i2};rw[List.map_cons];clear i1 i2;generalize qy r=X at *;generalize qI (S1.map mkR) P1 r=a at *;generalize qI (S2.map mkR) P2 r=b at *;generalize wD S1 P1=W1 at *;generalize wD S2 P2=W2 at *;simp?[ju,e1,e2,eb,ih]
theorem qaA(k:Nat)(v3:Sl)(zs:List Str)(hz:∀z∈zs,NameOk z)(h2:zs.length<=2):∀(n t:Nat) (c:Bool) (rows:List Row) (s5 s6:Sl),RI t rows->t+n<=4->
  ∃F,yr (pg.kk (k+2)) 1000 (.one 5) zT (rgF (t:Int) n) [.val (wD S1 P1),.val (wD S2 P2),.val (.lst (zs.map D.str)),v3,(if c=true then .own (rows.map qy) else .val (.lst (rows.map qy))),s5,s6]=.ok F/\(∀r,ptF (qI (S1.map mkR) P1) (qI (S2.map mkR) P2) zs n rows=some r->F=.ret (.val (qy r)))/\(ptF (qI (S1.map mkR) P1) (qI (S2.map mkR) P2) zs n rows=none->∃N',F=.next N')
 |0,t,c,rows,s5,s6,_,_=>{_,rfl,(λr h=>by cases h),λ_=>{_,rfl}}
 | n+1,t,c,rows,s5,s6,h,hn=>by
  have h27:3 ^ t<=27:=by
   have:(3:Nat) ^ t<=3 ^ 3:=Nat.pow_le_pow_right (2:) (by omega)
   omega
  have hlen:=h.len;have nx:=h.next hz h2;have lo:∀b:Bool,clK pg (k+2) "_law_longer" [aL b (rows.map qy),.val (.lst (zs.map D.str))]=.ok (.tmp ((lgF zs rows).map qy)):=λb=>qc7 (k+1) zs h2 b rows (λr hr=>by have:=(h.ok r hr).1;omega) (by omega);have lo1:=lo true;have lo2:=lo false;simp![qbX,qbY]at lo1 lo2;let(F,il,j1,j2):=qcl w1 w2 k (.val (.lst (zs.map D.str))) v3 (.val (.lst ((lgF zs rows).map qy))) (.val (.int (t:Int))) (lgF zs rows) s6 λr hr=>{by have:=(nx.ok r hr).1;omega,(nx.ok r hr).2};rw[ptF]
  cases q:(lgF zs rows).find? λr=>qI (S1.map mkR) P1 r != qI (S2.map mkR) P2 r with
  |some r=>
   refine{.ret (.val (qy r)),?_,(λx hx=>by cases hx;rfl),λhx=>by cases hx};rw[j1 r q]at il;clear j1 j2;generalize (lgF zs rows).map qy=LL at *;generalize rows.map qy=RR at *;generalize qy r=X at *;generalize wD S1 P1=W1 at *;generalize wD S2 P2=W2 at *;rw[rgF]
   cases c with
   |true=>rw[if_pos rfl];simp?[qM,lo1,il]
   |false=>rw[if_neg (2:)];simp?[qM,lo2,il]
  |none=>
   let(s6',e):=j2 q;rw[e]at il;let(F',ih,i1,i2):=qaA k v3 zs hz h2 n (t+1) false (lgF zs rows) (.val (.int (t:Int))) s6' nx (by omega);refine{F',?_,i1,i2};rw[show((t+1:Nat):Int)=(t:Int)+1 by omega,if_neg (2:)]at ih;clear j1 j2 i1 i2 e;generalize (lgF zs rows).map qy=LL at *;generalize rows.map qy=RR at *;generalize wD S1 P1=W1 at *;generalize wD S2 P2=W2 at *;rw[rgF]
   cases c with
   |true=>rw[if_pos rfl];simp?[qM,lo1,il,ih]
   |false=>rw[if_neg (2:)];simp?[qM,lo2,il,ih]
theorem qc8(k:Nat)(zs:List Str)(hz:∀z∈zs,NameOk z)(h2:zs.length<=2)(n:Nat)(h4:n<=4):clK pg (k+3) "_law_parted" [.val (wD S1 P1),.val (wD S2 P2),.val (.lst (zs.map D.str)),.val (.int (n:Int))]=.ok (.val (qhS (ptF (qI (S1.map mkR) P1) (qI (S2.map mkR) P2) zs n [[]]))):=by
 let(F,lp,i1,i2):=qaA w1 w2 k (.val (.int (n:Int))) zs hz h2 n 0 true [[]] .no .no ⟨by decide,λr hr=>by rw[List.mem_singleton.mp hr];exact{rfl,λz hz=>by cases hz}⟩ (by omega);rw[if_pos rfl,show((0:Nat):Int)=0 from rfl,show(([[]]:List Row).map qy)=[.lst []] from rfl]at lp;have z0:(0:Nat)<=sizeLine:=(3:)
 have z1:0+1<=sizeLine:=(3:)
 have s1:qN (n:Int)=true:=zK (by omega) (by omega);have rg:qS 0 (n:Int)=rgF 0 n:=by rw[zh];congr 1
 rw[Zc]
 cases q:ptF (qI (S1.map mkR) P1) (qI (S2.map mkR) P2) zs n [[]] with
 |none=>let(N',rfl):=i2 q;generalize wD S1 P1=W1 at *;generalize wD S2 P2=W2 at *;simp?![jI,z0,z1,s1,rg,lp,qhS]
 |some r=>obtain rfl:=i1 r q;rw[show qhS (some r)=qy r from rfl];generalize qy r=X at *;generalize wD S1 P1=W1 at *;generalize wD S2 P2=W2 at *;simp?![jI,z0,z1,s1,rg,lp]
end
structure Two(zs:List Str)(a b:Str):Prop where
 e:zs=[a,b]
 na:NameOk a
 nb:NameOk b
 ne:a≠b
theorem qm3{zs:List Str}(h:zs.length=2)(hz:NamesOk zs):∃a b,Two zs a b:=by
 match zs,h with
 |[a,b],_=>exact{a,b,rfl,hz.ok a (5:),hz.ok b (5:),λq=>absurd (hz.once 0 1 a rfl (by rw[q];rfl)) (2:)}
def qcm(k:Nat)(c:Int){zs:List Str}{a b:Str}(t:Two zs a b):∃r:Ru,SpOk r/\clK pg (k+1) "_law_small" [.val (.int c),.bor (zs.map D.str)]=.ok (.val (spD r)):=by
 let(rfl,na,nb,ne):=t;have mul:qd7 c 48271=true:=qah (2:) (2:);generalize hN:c * 48271 % 2147483647=n;have hn:0<=n:=by rw[<-hN];exact Int.emod_nonneg _ (2:)
 let(z1,z2,e1,e2,n1,n2,n12):∃z1 z2,atI [D.str a,.str b] (n % 2)=some (.str z1)/\atI [D.str a,.str b] (1 - n % 2)=some (.str z2)/\NameOk z1/\NameOk z2/\z1≠z2:=by
  rcases (by omega:n % 2=0\/n % 2=1) with q|q<;>rw[q]
  ·exact⟨a,b,rfl,rfl,na,nb,ne⟩
  ·exact⟨b,a,rfl,rfl,nb,na,ne.symm⟩
 let(kd,ek):=qmK (n / 36);have w1:LnOk (z1,1+n / 2 % 3):={n1,by dsimp only;omega,by dsimp only;omega};have w2:LnOk (z2,1+n / 12 % 3):={n2,by dsimp only;omega,by dsimp only;omega}
 let(l,lok,lnd,hl):∃l:List (Str×Int),(∀p∈l,LnOk p)/\((l.map (·.1)).Nodup/\1<=l.length/\l.length<=6)/\(((n / 6 % 2 == 1)=true/\l=[(z1,1+n / 2 % 3),(z2,1+n / 12 % 3)])\/((n / 6 % 2 == 1)=false/\l=[(z1,1+n / 2 % 3)])):=by
  cases q:(n / 6 % 2 == 1) with
  |true=>
   refine{_,λp hp=>?_,{by simpa using n12,by simp,by simp},.inl ⟨rfl,rfl⟩};rcases List.mem_cons.mp hp with rfl|hp
   ·exact w1
   ·rw[List.mem_singleton.mp hp];exact w2
  |false=>exact{_,λp hp=>by rw[List.mem_singleton.mp hp];exact w1,{by simp,by simp,by simp},.inr ⟨rfl,rfl⟩}
 have s1:0+1+1<=sizeLine:=(3:)
 have s0:0+1<=sizeLine:=(3:)
 have s4:0+1+1+1+1<=sizeLine:=(3:)
 have sa:0+1 < sizeLine:=(3:)
 refine{{kd,l,n / 108 % 7,1+n / 756 % 5},{lnd.1,lnd.2.1,lnd.2.2,lok,by dsimp only;omega,by dsimp only;omega,by dsimp only;omega,by dsimp only;omega},?_};rw[qat,List.map_cons,List.map_cons,List.map_nil];rcases hl with ⟨q,rfl⟩|⟨q,rfl⟩<;>simp?![JR,mul,hN,e1,e2,qP,q,s0,s1,s4,sa,YG,qai,ek,List.map_cons,List.map_nil]
structure PpR(n:Nat)(p:Pa):Prop where
 o0:0<=p.1
 o1:p.1 < n
 a0:0<=p.2.1
 ab:p.2.1<=p.2.2
 b1:p.2.2<=1000000000
theorem qaB(k:Nat)(ns:List Int){zs:List Str}{a b:Str}(t:Two zs a b)(w:Nat):∀(n i:Nat) (acc:List Ru) (s0:Sl),acc.length+n < 1000->
  ∃rs:List Ru,(∀r∈rs,SpOk r)/\rs.length=n/\zA (pg.kk (k+1)) jb (.one 0) .yes (rgF (i:Int) n) [s0,.scr (ns.map D.int),.bor (zs.map D.str),.val (.int (w:Int))] (acc.map spD)=.ok ((acc++rs).map spD)
 |0,i,acc,s0,_=>{[],λ_ h=>(by cases h),rfl,by simp[rgF,qG]}
 | n+1,i,acc,s0,hl=>by
  have c1:=qc2 (pg:=pg) k ns (w+i);rw[show((w+i:Nat):Int)=(w:Int)+(i:Int) by omega]at c1;let(r,h1,e):=qcm k (zi ns (w+i)) t;let(rs,g1,g2,ih):=qaB k ns t w n (i+1) (acc++[r]) (.val (.int (i:Int))) (by simp;omega);refine{r::rs,λx hx=>?_,by simp[g2],?_}
  ·rcases List.mem_cons.mp hx with rfl|hx
   ·exact h1
   ·exact g1 x hx
  ·have hs:(acc.map spD).length < sizeLine:=by rw[List.length_map];exact qv (by omega)
   rw[show((i+1:Nat):Int)=(i:Int)+1 by omega]at ih;rw[show acc++r::rs=acc++[r]++rs by simp];rw[List.map_append (l₁:=acc),List.map_cons,List.map_nil]at ih;generalize spD r=S at *;refine(qh _).symm.trans ?_;rw[rgF];simp?![JX,c1,e,hs,ih]
def qm4{r:Ru}(h:SpOk r):okD (spD r)=true/\dpD (spD r)<=10:=by
 have o:qdl (r.lands.map lnD)=true:=QL λd hd=>by let(p,hp,rfl):=List.mem_map.mp hd;rw[qai];simp[okD,qdl,yu (h.ok p hp).nm]
 have q:qa6 (r.lands.map lnD)<=1:=QM λd hd=>by let(p,hp,rfl):=List.mem_map.mp hd;rw[qai];simp[dpD,qa6]
 rw[YG];refine{by simp[okD,qdl,o],?_};simp![dpD,qa6];omega
def qm5{rs:List Ru}(h:∀r∈rs,SpOk r):eqD (.lst (rs.map spD)) (.lst [])=some rs.isEmpty:=by
 rw[qji (QL λd hd=>by
  let(r,hr,rfl):=List.mem_map.mp hd;exact(qm4 (h r hr)).1) (Nat.le_trans (QM (n:=10) λd hd=>by
  let(r,hr,rfl):=List.mem_map.mp hd;exact(qm4 (h r hr)).2) (2:))]
 cases rs<;>rfl
theorem Zg(k:Nat)(ns:List Int)(v1 v3:Sl)(w:Nat){rs:List Ru}(h:∀r∈rs,SpOk r)(h3:rs.length<=4):∀(n i:Nat) (acc:List Pa) (s4 s7:Sl),acc.length+n < 1000->
  ∃ps:List Pa,(∀p∈ps,PpR rs.length p)/\ps.length<=n/\∃s4' s7',yr (pg.kk (k+1)) 1000 (.one 4) jc (rgF (i:Int) n) [.scr (ns.map D.int),v1,.val (.int (w:Int)),v3,s4,.own (rs.map spD),.own (acc.map paD),s7]=.ok (.next [.scr (ns.map D.int),v1,.val (.int (w:Int)),v3,s4',.own (rs.map spD),.own ((acc++ps).map paD),s7'])
 |0,i,acc,s4,s7,_=>{[],λ_ h=>(by cases h),Nat.le_refl _,s4,s7,by simp[rgF,zB]}
 | n+1,i,acc,s4,s7,hl=>by
  have c1:=qc2 (pg:=pg) k ns (w+4+i);rw[show((w+4+i:Nat):Int)=(w:Int)+4+(i:Int) by omega]at c1;have mul:qd7 (zi ns (w+4+i)) 16807=true:=qah (2:) (2:);generalize zi ns (w+4+i)=c at *;generalize hN:c * 16807 % 2147483629=m;have hm:0<=m:=by rw[<-hN];exact Int.emod_nonneg _ (2:)
  have en:=qm5 h;have za:acc.length < sizeLine:=qv (by omega);have three:0+1+1+1<=sizeLine:=(3:)
  have z0:(0:Nat)<=sizeLine:=(3:)
  cases hb:rs.isEmpty with
  |true=>let(ps,g1,g2,s4',s7',ih):=Zg k ns v1 v3 w h h3 n (i+1) acc (.val (.int (i:Int))) (.val (.int m)) (by omega);refine{ps,g1,by omega,s4',s7',?_};rw[hb]at en;rw[show((i+1:Nat):Int)=(i:Int)+1 by omega]at ih;generalize rs.map spD=RR at *;refine(qh _).symm.trans ?_;rw[rgF];simp?![jY,c1,mul,hN,en,z0,ih]
  |false=>
   have hr:0 < (rs.length:Int):=by
    cases rs with
    |nil=>cases hb
    |cons r l=>simp![List.length_cons];omega
   let(ps,g1,g2,s4',s7',ih):=Zg k ns v1 v3 w h h3 n (i+1) (acc++[(m % (rs.length:Int),m / 8 % 3,m / 8 % 3+m / 64 % 2)]) (.val (.int (i:Int))) (.val (.int m)) (by simp;omega);refine{(m % (rs.length:Int),m / 8 % 3,m / 8 % 3+m / 64 % 2)::ps,λp hp=>?_,by simp;omega,s4',s7',?_}
   ·rcases List.mem_cons.mp hp with rfl|hp
    ·exact{Int.emod_nonneg _ (by omega),Int.emod_lt_of_pos _ hr,by dsimp only;omega,by dsimp only;omega,by dsimp only;omega}
    ·exact g1 p hp
   ·rw[hb]at en;rw[show((i+1:Nat):Int)=(i:Int)+1 by omega]at ih;rw[List.append_assoc,List.cons_append,List.nil_append]at ih;generalize ((acc++(m % (rs.length:Int),m / 8 % 3,m / 8 % 3+m / 64 % 2)::ps).map paD)=T at *;rw[List.map_append,List.map_cons,List.map_nil,jp]at ih;dsimp only at ih;have hlr:(rs.map spD).length=rs.length:=List.length_map ..;generalize rs.map spD=RR at *;refine(qh _).symm.trans ?_;rw[rgF];simp?![jY,c1,mul,hN,en,z0,hlr,hr,three,List.length_map,za,ih]
def qjS(rs:List Ru):qdg (rs.map spD) none (some 2)=(rs.take 2).map spD:=by
 have e:HT.sIx (rs.map spD).length (rs.map spD).length (some (2:Int))=min 2 (rs.map spD).length:=HT.Qv _ _ 2;unfold qdg;rw[e,HT.qby,List.drop_zero,Nat.sub_zero,<-List.map_take,List.length_map]
 congr 1
 rcases Nat.le_total 2 rs.length with q|q
 ·rw[Nat.min_eq_left q]
 ·rw[Nat.min_eq_right q,List.take_of_length_le (Nat.le_refl _),List.take_of_length_le q]
theorem qcn(k:Nat)(ns:List Int){zs:List Str}{a b:Str}(t:Two zs a b)(w:Nat)(sh:Bool):∃(rs:List Ru) (ps:List Pa),(∀r∈rs,SpOk r)/\rs.length<=3/\ps.length<=2/\(∀p∈ps,PpR rs.length p)/\clK pg (k+2) "_law_world" [.scr (ns.map D.int),.bor (zs.map D.str),.val (.int (w:Int)),.val (.bl sh)]=.ok (.val (wD rs ps)):=by
 have c3:=qc2 (pg:=pg) k ns (w+3);rw[show((w+3:Nat):Int)=(w:Int)+3 by omega]at c3;have c4:=qc2 (pg:=pg) k ns (w+4);rw[show((w+4:Nat):Int)=(w:Int)+4 by omega]at c4;have c2:clK pg (k+1) "_law_at" [.scr (ns.map D.int),.val (.int 2)]=.ok (.val (.int (zi ns 2))):=qc2 (pg:=pg) k ns 2;generalize zi ns (w+3)=x3 at *;generalize zi ns (w+4)=x4 at *;have b3:0<=x3 % 4:=Int.emod_nonneg _ (2:);have b3':x3 % 4 < 4:=Int.emod_lt_of_pos _ (2:);have b4:0<=x4 % 3:=Int.emod_nonneg _ (2:);have b4':x4 % 3 < 3:=Int.emod_lt_of_pos _ (2:);let(n3,e3):∃n:Nat,x3 % 4=(n:Int):={(x3 % 4).toNat,by omega};let(n4,e4):∃n:Nat,x4 % 3=(n:Int):={(x4 % 3).toNat,by omega};let(rs0,r1,r2,er):=qaB k ns t w n3 0 [] .no (by simp;omega);rw[List.map_nil,List.nil_append,show((0:Nat):Int)=0 from rfl]at er;let(r0,q1,q2):=qcm k (zi ns 2) t;have sm3:qN (n3:Int)=true:=zK (by omega) (by omega);have rg3:qS 0 (n3:Int)=rgF 0 n3:=by rw[zh];congr 1
 have sm4:qN (n4:Int)=true:=zK (by omega) (by omega);have rg4:qS 0 (n4:Int)=rgF 0 n4:=by rw[zh];congr 1
 have zr:(rgF 0 n3).length<=sizeLine:=qx (by rw[qbc];omega);have z0:(0:Nat)<=sizeLine:=(3:)
 have z1:0+1<=sizeLine:=(3:)
 have z2:0+1+1<=sizeLine:=(3:)
 have ct:qdg (rs0.map spD) none (some 2)=(rs0.take 2).map spD:=qjS rs0
 let(rs,hrs,hlen,hrs2):∃rs:List Ru,(∀r∈rs,SpOk r)/\rs.length<=3/\rs=if sh=true then r0::rs0.take 2 else rs0:=by
  refine{_,?_,?_,rfl}
  ·cases sh with
   |true=>
    intro r hr;rw[if_pos rfl]at hr;rcases List.mem_cons.mp hr with rfl|hr
    ·exact q1
    ·exact r1 r (List.mem_of_mem_take hr)
   |false=>rw[if_neg (2:)];exact r1
  ·cases sh with
   |true=>rw[if_pos rfl,List.length_cons,List.length_take];omega
   |false=>rw[if_neg (2:)];omega
 let(ps,p1,p2,s4',s7',lp):=Zg k ns (.bor (zs.map D.str)) (.val (.bl sh)) w hrs (by omega) n4 0 [] .no .no (by simp;omega);rw[List.map_nil,List.nil_append,show((0:Nat):Int)=0 from rfl]at lp;refine{rs,ps,hrs,hlen,by omega,p1,?_};unfold wD;rw[qav]
 cases sh with
 |true=>rw[if_pos rfl]at hrs2;have zz:0+1+(rs0.take 2).length<=sizeLine:=qx (by rw[List.length_take];omega);rw[hrs2,List.map_cons]at lp ⊢;simp?![ym,c3,c4,c2,e3,e4,sm3,rg3,sm4,rg4,zr,JT,qd8,List.map_cons,List.map_nil,List.getD_cons_succ,List.getD_cons_zero,er,q2,ct,z0,z1,z2,List.length_map,zz,lp]
 |false=>rw[if_neg (2:)]at hrs2;rw[hrs2]at lp ⊢;simp?![ym,c3,c4,e3,e4,sm3,rg3,sm4,rg4,zr,JT,qd8,List.map_cons,List.map_nil,List.getD_cons_succ,List.getD_cons_zero,er,z0,z2,lp]
theorem qaC(k:Nat):∀(rs acc:List Ru) (s0:Sl),acc.length+rs.length < 1000->(∀r∈rs,SpOk r)->zA (pg.kk (k+13)) jJ (.one 0) .yes (rs.map spD) [s0] (acc.map ruI)=.ok ((acc++rs.map mkR).map ruI)
 |[],acc,s0,_,_=>by simp[qG]
 | r::rs,acc,s0,hl,h=>by
  rw[List.length_cons]at hl;have e1:clK pg (k+13) "_law_rule" [.val (spD r)]=.ok (.val (ruI (mkR r))):=FZ.qjG (pg:=pg) k r (h r (5:));have ih:=qaC k rs (acc++[mkR r]) (.val (spD r)) (by simp;omega) λx hx=>h x (by simp[hx]);have hs:(acc.map ruI).length < sizeLine:=by rw[List.length_map];exact qv (by omega)
  simp![List.map_append,List.map_cons,List.map_nil,List.append_assoc,List.cons_append,List.nil_append]at ih ⊢;simp?[YR,e1,hs,ih]
def qfh(k:Nat){rs:List Ru}{ps:List Pa}(h:∀r∈rs,SpOk r)(h3:rs.length<=3)(p2:ps.length<=2)(hp:∀p∈ps,PpR rs.length p):clK pg (k+14) "_law_book" [.val (wD rs ps)]=.ok (.val (bkI (rs.map mkR) ps)):=by
 have cp:=qaC k rs [] .no (by simp;omega) h;rw[List.map_nil,List.nil_append]at cp
 have bk:pg.nw (k+13) "Book" [.val (.lst ((rs.map mkR).map ruI)),.val (.lst (ps.map paD))]=.ok (.val (bkI (rs.map mkR) ps)):=qjC (pg:=pg) (k+1) false false (rs.map mkR) ps (by rw[List.length_map];omega) (by omega) λx hx=>by
  have z:=hp x hx
  have:=z.o0;have:=z.o1;have:=z.a0;have:=z.ab;have:=z.b1
  rw[List.length_map];omega
 have a0:∀x y:D,atI [x,y] 0=some x:=λ_ _=>rfl;have a1:∀x y:D,atI [x,y] 1=some y:=λ_ _=>rfl;have zr:rs.length<=sizeLine:=qx (by omega);unfold wD;rw[qbj];generalize bkI (rs.map mkR) ps=B at *;simp?![YS,a0,a1,List.length_map,zr,JT,List.map_nil,cp,bk]
theorem qco:∀l:List (Str×Int),YY (l.map lnD)=true
 |[]=>rfl
 | p::l=>by rw[List.map_cons,YY,qco l];rfl
theorem qcp:∀rs:List Ru,YY (rs.map ruI)=true
 |[]=>rfl
 | r::rs=>by rw[List.map_cons,YY,qcp rs];show(YY (r.lands.map lnD)&&_)&&true=true;rw[qco];rfl
theorem qaD:∀ps:List Pa,YY (ps.map paD)=true
 |[]=>rfl
 | p::ps=>by rw[List.map_cons,YY,qaD ps];rfl
theorem qm6(rs:List Ru)(ps:List Pa):nfA (.val (bkI rs ps))=true:=by
 show(((((rs.map ruI).isEmpty||!((rs.map ruI).all jy))&&YY (rs.map ruI))&&(((ps.map paD).isEmpty||!((ps.map paD).all jy))&&YY (ps.map paD)&&true)):Bool)=true;rw[qcp,qaD]
 cases rs with
 |nil=>cases ps<;>rfl
 |cons r rs=>cases ps<;>rfl
theorem qm7:∀zs:List Str,YY (zs.map D.str)=true
 |[]=>rfl
 | z::zs=>by rw[List.map_cons,YY,qm7 zs];rfl
theorem Zh:∀r:Row,(r.map opD).all jy=true
 |[]=>rfl
 | none::r=>by rw[List.map_cons,List.all_cons,Zh r];rfl
 | some z::r=>by rw[List.map_cons,List.all_cons,Zh r];rfl
theorem qfi(R1 R2:List Ru)(P1 P2:List Pa)(zs:List Str)(n:Int){r:Row}(h:r≠[]):qcN [.val (bkI R1 P1),.val (bkI R2 P2),.bor (zs.map D.str),.val (.int n)] (.val (.lst (r.map opD)))=.tmp (r.map opD):=by
 unfold qcN;dsimp only;rw[if_pos];rw[List.all_cons,List.all_cons,List.all_cons,qm6,qm6,show nfA (.bor (zs.map D.str))=true from qm7 zs,Zh]
 cases r with
 |nil=>exact absurd rfl h
 |cons a l=>rfl
theorem qhT{L1 L2:Row->Bool}{zs:List Str}(hz:∀z∈zs,NameOk z)(h2:zs.length<=2):∀(n t:Nat) (A:List Row) (r:Row),RI t A->t+n<=4->ptF L1 L2 zs n A=some r->yS r/\r≠[]
 |0,_,_,_,_,_,h=>by cases h
 | n+1,t,A,r,ri,ht,h=>by
  have nx:=ri.next hz h2;rw[ptF]at h
  cases q:(lgF zs A).find? (λr=>L1 r != L2 r) with
  |none=>rw[q]at h;exact qhT hz h2 n (t+1) _ r nx (by omega) h
  |some x=>rw[q]at h;cases h;let(a,b):=nx.ok r (List.mem_of_find?_eq_some q);exact{{by omega,b},λz=>by rw[z]at a;simp at a}
theorem qgX{r:Row}(h:yS r):eqD (.lst (r.map opD)) (.lst (r.map opD))=some true:=by
 have q:qa6 (r.map opD)<=0:=QM λd hd=>by
  let(o,ho,rfl):=List.mem_map.mp hd
  cases o<;>exact Nat.le_refl _
 refine qbW (QL λd hd=>?_) (by rw[dpD];omega);let(o,ho,rfl):=List.mem_map.mp hd
 cases o with
 |none=>rfl
 |some z=>exact yu (h.2 z ho)
def qjT{zs:List Str}(h:∀z∈zs,NameOk z):eqD (.lst (zs.map D.str)) (.lst (zs.map D.str))=some true:=by
 have q:qa6 (zs.map D.str)<=0:=QM λd hd=>by let(z,hz,rfl):=List.mem_map.mp hd;exact Nat.le_refl _
 refine qbW (QL λd hd=>?_) (by rw[dpD];omega);let(z,hz,rfl):=List.mem_map.mp hd;exact yu (h z hz)
theorem qgY(ns:List Int)(hl:ns.length<=63):clK pg 20 "law" [.scr (ns.map D.int)]=.ok (.val (.bl true)):=by
 have cell:∀i:Nat,clK pg 19 "_law_at" [.scr (ns.map D.int),.val (.int (i:Int))]=.ok (.val (.int (zi ns i))):=λi=>qc2 (pg:=pg) 18 ns i;have c0:clK pg 19 "_law_at" [.scr (ns.map D.int),.val (.int 0)]=.ok (.val (.int (zi ns 0))):=cell 0;have c1:clK pg 19 "_law_at" [.scr (ns.map D.int),.val (.int 1)]=.ok (.val (.int (zi ns 1))):=cell 1;generalize zi ns 0=n0 at c0;generalize zi ns 1=n1 at c1;let(zs,ez,lz,hz,_):=qgQ (pg:=pg) 17 n0 2 (by omega);have ez:clK pg 19 "_law_names" [.val (.int n0),.val (.int 2)]=.ok (.tmp (zs.map D.str)):=ez;let(a,b,t):=qm3 lz hz;let(S1,P1,h1,l1,p1,q1,e1):=qcn 17 ns t 3 (n1 % 2 == 1);let(S2,P2,h2,l2,p2,q2,e2):=qcn 17 ns t 9 (n1 % 2 == 1);have e1:clK pg 19 "_law_world" [.scr (ns.map D.int),.bor (zs.map D.str),.val (.int 3),.val (.bl (n1 % 2 == 1))]=.ok (.val (wD S1 P1)):=e1;have e2:clK pg 19 "_law_world" [.scr (ns.map D.int),.bor (zs.map D.str),.val (.int 9),.val (.bl (n1 % 2 == 1))]=.ok (.val (wD S2 P2)):=e2;have k1:clK pg 19 "_law_book" [.val (wD S1 P1)]=.ok (.val (bkI (S1.map mkR) P1)):=qfh 5 h1 l1 p1 q1;have k2:clK pg 19 "_law_book" [.val (wD S2 P2)]=.ok (.val (bkI (S2.map mkR) P2)):=qfh 5 h2 l2 p2 q2;have w1:WOk' S1 P1:={h1,by omega,by omega,λp hp=>(q1 p hp).ab,λs hs=>(h1 s hs).nd};have w2:WOk' S2 P2:={h2,by omega,by omega,λp hp=>(q2 p hp).ab,λs hs=>(h2 s hs).nd};let(rfl,na,nb,ne):=t;rw[List.map_cons,List.map_cons,List.map_nil]at ez e1 e2;have ct1:qdg [D.str a,.str b] none (some 1)=[.str a]:=rfl;have ct2:qdg [D.str a,.str b] (some 1) none=[.str b]:=rfl;have rv:([D.str a,.str b]:List D).reverse=[.str b,.str a]:=rfl
 let(ls,g1,g2,g3,g4,g5):∃ls:List Str,(∀z∈ls,NameOk z)/\ls.Nodup/\1<=ls.length/\ls.length<=2/\atI [D.lst [.str a,.str b],.lst [.str b,.str a],.lst [.str a],.lst [.str b]] (n1 / 2 % 4)=some (.lst (ls.map D.str)):=by
  have x:=Int.emod_nonneg (n1 / 2) (show(4:Int)≠0 by decide);have y:=Int.emod_lt_of_pos (n1 / 2) (show(0:Int) < 4 by decide);rcases (by omega:n1 / 2 % 4=0\/n1 / 2 % 4=1\/n1 / 2 % 4=2\/n1 / 2 % 4=3) with e|e|e|e<;>rw[e]
  ·exact{[a,b],by simp[na,nb],(-ne:),by simp,by simp,rfl}
  ·exact{[b,a],by simp[na,nb],(-ne.symm:),by simp,by simp,rfl}
  ·exact{[a],by simp[na],by simp,by simp,by simp,rfl}
  ·exact{[b],by simp[nb],by simp,by simp,by simp,rfl}
 let(n,hn4,en):∃n:Nat,n<=4/\n1 / 8 % 5=(n:Int):=by have x:=Int.emod_nonneg (n1 / 8) (show(5:Int)≠0 by decide);have y:=Int.emod_lt_of_pos (n1 / 8) (show(0:Int) < 5 by decide);exact{(n1 / 8 % 5).toNat,by omega,by omega}
 have ri0:RI 0 [[]]:={by decide,λr hr=>by rw[List.mem_singleton.mp hr];exact{rfl,λz hz=>by cases hz}};have ok0:yS []:={by decide,λz hz=>by cases hz}
 have nil1:∀{S:List Ru} {P:List Pa},WOk' S P->qI (S.map mkR) P []=true:=λ{S P} w=>by
  rw[Zf w ok0]
  have go:∀(l:List Ru) (i:Nat),(kbs P [] i l).all id=true:=λl=>by
   induction l with
   |nil=>intro i;rfl
   |cons s l ih=>intro i;rw[kbs,List.all_cons,ih];rfl
  exact go S 0
 have pr:∀{S S':List Ru} {P P':List Pa},WOk' S P->WOk' S' P'->clK pg 19 "parted" [.val (bkI (S.map mkR) P),.val (bkI (S'.map mkR) P'),.bor (ls.map D.str),.val (.int (n:Int))]=.ok (.val (qhS (ptF (qI (S.map mkR) P) (qI (S'.map mkR) P') ls n [[]]))):=λ{S S' P P'} w w'=>by
  have e:=qfe (qoO w) (qoO w') 10 true ls g1 g2 g3 g4 n hn4;have f:([[]]:List Row).filter (qI (S.map mkR) P)=[[]]:=by rw[List.filter_cons,nil1 w];rfl
  have s:=qm1 (L1:=qI (S.map mkR) P) (L2:=qI (S'.map mkR) P') g1 g4 (λr z hr hh=>qfd w hr hh) (λr z hr hh=>qfd w' hr hh) n 0 [[]] ri0 (by omega) λr hr=>by rw[List.mem_singleton.mp hr,nil1 w,nil1 w']
  rw[f]at s;rw[s]at e;exact e
 have d12:=pr w1 w2;have d21:=pr w2 w1;have d11:=pr w1 w1;rw[qcj]at d11;rw[<-qci]at d21;have du:clK pg 19 "_law_parted" [.val (wD S1 P1),.val (wD S2 P2),.val (.lst (ls.map D.str)),.val (.int (n:Int))]=.ok (.val (qhS (ptF (qI (S1.map mkR) P1) (qI (S2.map mkR) P2) ls n [[]]))):=qc8 w1 w2 16 ls g1 g4 n hn4;have zz:=qjT g1;have z4:0+1+1+1+1<=sizeLine:=(3:)
 have d11:clK pg 19 "parted" [.val (bkI (S1.map mkR) P1),.val (bkI (S1.map mkR) P1),.bor (ls.map D.str),.val (.int (n:Int))]=.ok (.val .non):=d11;have v11:qcN [.val (bkI (S1.map mkR) P1),.val (bkI (S1.map mkR) P1),.bor (ls.map D.str),.val (.int (n:Int))] (.val .non)=.val .non:=rfl;rw[show(20:Nat)=19+1 from rfl,qoI]
 cases q:ptF (qI (S1.map mkR) P1) (qI (S2.map mkR) P2) ls n [[]] with
 |none=>rw[q]at d12 d21 du;have d12:clK pg 19 "parted" [.val (bkI (S1.map mkR) P1),.val (bkI (S2.map mkR) P2),.bor (ls.map D.str),.val (.int (n:Int))]=.ok (.val .non):=d12;have d21:clK pg 19 "parted" [.val (bkI (S2.map mkR) P2),.val (bkI (S1.map mkR) P1),.bor (ls.map D.str),.val (.int (n:Int))]=.ok (.val .non):=d21;have du:clK pg 19 "_law_parted" [.val (wD S1 P1),.val (wD S2 P2),.val (.lst (ls.map D.str)),.val (.int (n:Int))]=.ok (.val .non):=du;have v12:qcN [.val (bkI (S1.map mkR) P1),.val (bkI (S2.map mkR) P2),.bor (ls.map D.str),.val (.int (n:Int))] (.val .non)=.val .non:=rfl;have v21:qcN [.val (bkI (S2.map mkR) P2),.val (bkI (S1.map mkR) P1),.bor (ls.map D.str),.val (.int (n:Int))] (.val .non)=.val .non:=rfl;clear pr nil1;generalize bkI (S1.map mkR) P1=B1 at *;generalize bkI (S2.map mkR) P2=B2 at *;generalize wD S1 P1=W1 at *;generalize wD S2 P2=W2 at *;generalize ls.map D.str=LL at *;simp?![qjM,c0,c1,ez,qP,e1,e2,rv,ct1,ct2,z4,g5,en,du,k1,k2,d12,v12,qmx,zz,d21,v21,d11,v11]
 |some r=>let(ro,rn):=qhT g1 g4 n 0 [[]] r ri0 (by omega) q;rw[q]at d12 d21 du;have v12:=qfi (S1.map mkR) (S2.map mkR) P1 P2 ls (n:Int) rn;have v21:=qfi (S2.map mkR) (S1.map mkR) P2 P1 ls (n:Int) rn;have sf:=qgX ro;have zr:r.length < sizeLine:=qv (by have:=ro.1;omega);have hlr:(r.map opD).length=r.length:=List.length_map ..;have d12:clK pg 19 "parted" [.val (bkI (S1.map mkR) P1),.val (bkI (S2.map mkR) P2),.bor (ls.map D.str),.val (.int (n:Int))]=.ok (.val (.lst (r.map opD))):=d12;have d21:clK pg 19 "parted" [.val (bkI (S2.map mkR) P2),.val (bkI (S1.map mkR) P1),.bor (ls.map D.str),.val (.int (n:Int))]=.ok (.val (.lst (r.map opD))):=d21;have du:clK pg 19 "_law_parted" [.val (wD S1 P1),.val (wD S2 P2),.val (.lst (ls.map D.str)),.val (.int (n:Int))]=.ok (.val (.lst (r.map opD))):=du;clear pr nil1;generalize bkI (S1.map mkR) P1=B1 at *;generalize bkI (S2.map mkR) P2=B2 at *;generalize wD S1 P1=W1 at *;generalize wD S2 P2=W2 at *;generalize ls.map D.str=LL at *;generalize r.map opD=RR at *;simp?![qjM,c0,c1,ez,qP,e1,e2,rv,ct1,ct2,z4,g5,en,du,k1,k2,d12,v12,sf,zz,hlr,zr,d21,v21,d11,v11]
end K71
namespace DE
open PySem PySem.Spec PyProof.Rows L2
def Jk(G G' H:Hp):Prop:=∀a o,G' a=some o->(∃o',G a=some o')\/H a=none
def But(p:Addr)(H H':Hp):Prop:=∀a o,a≠p->H a=some o->H' a=some o
def qc9(U:KC)(K:Frag)(ok:Str->Bool)(go:List Ar->Option (List (Str×D))):Sp:=λvs H Q _=>∃(G:Hp) (c:Str) (C p dx:Addr) (us:List V) (args:List Ar) (fs:List (Str×D)),vs=.ref p::us/\ok c=true/\U c=some C/\
 H p=some (.ins C dx [])/\G p=none/\qp G H/\Jn U K G H args us/\go args=some fs/\
 ∀G' H' xs,qp G G'->qp G' H'->G' p=none->But p H H'->Jk G G' H->H' p=some (.ins C dx ((fs.map (·.1)).zip xs))->xs.length=fs.length->qo U G' (fs.map (·.2)) xs->Q .non H'
section
variable{U:KC}{K:Frag}{G H G' H':Hp}
def qaE{cl:Str->List Ar->R Rv}{f:Str}{args:List Ar}{vs:List V}{r:Rv}{Q:VK}{E:XK}(sub:qp G H)(ha:Jn U K G H args vs)(e:cl f args=.ok r)
  (h:∀v G' H',qp H H'->qp G G'->qp G' H'->Jk G G' H->ReR U G' H' H r v->Q v H'):spF U K cl f vs H Q E:={G,args,sub,ha,by rw[e];exact h}
theorem ArR.low{a:Ar}{v:V}(h:ArR U K G H a v)(gs:qp G G')(hs:∀b o,H b=some o->(∀C dx fs,o≠.ins C dx fs)->H' b=some o):(∀l,a≠.scr l)->ArR U K G' H' a v:=λhn=>by
 cases a with
 |val d=>exact Rep.same gs h
 |bor l=>let(b,xs,e,h1,h2):=h;exact{b,xs,e,hs _ _ h1 (by intros;intro z;cases z),h2.same gs}
 |scr l=>exact absurd rfl (hn l)
theorem Zi{nw:Str->List Ar->R Rv}{f c:Str}{C:Addr}{ok:Str->Bool}{go:List Ar->Option (List (Str×D))}(hC:U c=some C)(hok:ok c=true)
  (hgo:∀args r,nw f args=.ok r->(∀a∈args,∀l,a≠.scr l)/\∃fs,go args=some fs/\r=.val (.ins c (fs.map (·.1)) (fs.map (·.2)))) :
  ∀vs H Q,spF U K nw f vs H Q E0->∀x dx,H x=none->H dx=none->dx≠x->qc9 U K ok go (.ref x::vs) (upd (upd H dx (.own x)) x (.ins C dx [])) (λv H2=>v=.non/\Q (.ref x) H2) E0:=by
 rintro vs H Q ⟨G,args,sub,ha,hw⟩ x dx hx hdx ne
 cases e:nw f args with
 |no=>rw[e]at hw;exact hw.elim
 |exc c l=>rw[e]at hw;exact hw.elim
 |ok r=>
  rw[e]at hw;let(hs,fs,hg,rfl):=hgo args r e;have gx:G x=none:=qp.none sub hx;have gd:G dx=none:=qp.none sub hdx
  have up:qp H (upd (upd H dx (.own x)) x (.ins C dx [])):=λb o hb=>by
   have nb:b≠x:=λz=>by rw[z,hx]at hb;cases hb
   have nd:b≠dx:=λz=>by rw[z,hdx]at hb;cases hb
   rw[qe nb,qe nd];exact hb
  have ha':∀{args:List Ar} {vs:List V},(∀a∈args,∀l,a≠.scr l)->Jn U K G H args vs->Jn U K G (upd (upd H dx (.own x)) x (.ins C dx [])) args vs:=by
   intro args
   induction args with
   |nil=>intro vs _ h;simp![Jn]at h ⊢;exact h
   |cons a l ih=>intro vs hn h;simp![Jn]at h ⊢;let(v,r,e,h1,h2):=h;exact{v,r,e,h1.low (λ_ _ z=>z) (λb o hb _=>up b o hb) (hn a (List.mem_cons_self ..)),ih (λb hb=>hn b (List.mem_cons_of_mem _ hb)) h2}
  refine{G,c,C,x,dx,vs,args,fs,rfl,hok,hC,qg,gx,λb o hb=>up b o (sub b o hb),ha' hs ha,hg,λG' H' xs gs sub' gx' but fr hp hl rp=>{rfl,?_}};refine hw (.ref x) (upd G' x (.ins C dx ((fs.map (·.1)).zip xs))) H' (λb o hb=>?_) (λb o hb=>?_) (λb o hb=>?_) (λb o hb=>?_) ?_
  ·exact but b o (λz=>by rw[z,hx]at hb;cases hb) (up b o hb)
  ·exact qp.upd gx' b o (gs b o hb)
  ·by_cases z:b=x
   ·subst z;rw[qg]at hb;cases hb;exact hp
   ·rw[qe z]at hb;exact sub' b o hb
  ·by_cases z:b=x
   ·subst z;exact .inr hx
   ·rw[qe z]at hb;rcases fr b o hb with q|q
    ·exact .inl q
    ·refine .inr ?_
     cases w:H b with
     |none=>rfl
     | some o'=>rw[up b o' w]at q;cases q
  ·simp![ReR,Rep];exact{x,dx,C,xs,hC,rfl,qg,by rw[hl,List.length_map],rp.same (qp.upd gx')}
end
end DE
namespace DG
open PySem PySem.Spec PyProof.Rows L2 DE
theorem jv{G G' H:Hp}{p:Addr}{o:L2.HO}(fr:Jk G G' H)(g:G p=none)(h:H p=some o):G' p=none:=by
 cases e:G' p with
 |none=>rfl
 | some o'=>
  rcases fr p o' e with ⟨o'',z⟩|z
  ·rw[g]at z;cases z
  ·rw[h]at z;cases z
def Jk.trans{G G1 G2 H H1:Hp}(a:Jk G G1 H)(s:qp H H1)(b:Jk G1 G2 H1):Jk G G2 H:=λx o h=>by
 rcases b x o h with ⟨o',z⟩|z
 ·exact a x o' z
 ·exact .inr (qp.none s z)
def Jk.transB{G G1 G2 H H1:Hp}{p:Addr}{o:L2.HO}(a:Jk G G1 H)(s:But p H H1)(hp:H1 p=some o)(b:Jk G1 G2 H1):Jk G G2 H:=λx o h=>by
 rcases b x o h with ⟨o',z⟩|z
 ·exact a x o' z
 ·refine .inr ?_;have nx:x≠p:=λq=>by rw[q,hp]at z;cases z
  cases w:H x with
  |none=>rfl
  | some o'=>rw[s x o' nx w]at z;cases z
def aA(b:Bool)(l:List D):Ar:=match b with
 |true=>.bor l
 |false=>.val (.lst l)
def qaF{a:Ar}{l:List D}(e:arL a=some l):∃b,a=aA b l:=by
 unfold arL at e
 split at e
 ·cases e;exact⟨false,rfl⟩
 ·cases e;exact⟨true,rfl⟩
 ·cases e
def qcq{a:Ar}{n:Int}(e:arI a=some n):a=.val (.int n):=by
 unfold arI at e
 split at e
 ·cases e;rfl
 ·cases e
theorem qbn{U:KC}{K:Frag}{G H:Hp}{b:Bool}{l:List D}{v:V}(sub:qp G H)(h:ArR U K G H (aA b l) v):∃p xs,v=.ref p/\H p=some (.lst xs)/\qo U G l xs:=by
 cases b with
 |false=>simp![aA,ArR,Rep]at h;let(a,xs,e,h1,h2):=h;exact{a,xs,e,sub _ _ h1,h2}
 |true=>exact h
def qm8{U:KC}{K:Frag}{G H G' H':Hp}{b:Bool}{l:List D}{v:V}(h:ArR U K G H (aA b l) v)(gs:qp G G')(hs:qp H H'):ArR U K G' H' (aA b l) v:=h.low gs (λb o e _=>hs b o e) (λl'=>by cases b<;>(intro z;cases z))
def qaG{args:List Ar}{fs:List (Str×D)}(h:qbZ args=some fs):∃b l m,args=[aA b l,.val (.int m)]/\qE l=true/\btw m 0 1000000000=true/\fs=([("lands",.tup l),("most",.int m)]:List (Str×D)):=by
 unfold qbZ at h
 split at h
 ·split at h
  ·rename_i e1 e2
   split at h
   ·rename_i hc;cases h;rw[Bool.and_eq_true]at hc;let(b,rfl):=qaF e1;cases qcq e2;exact{b,_,_,rfl,hc.1,hc.2,rfl}
   ·cases h
  ·cases h
 ·cases h
def Jl{x:Str}{args:List Ar}{fs:List (Str×D)}(h:j7 x args=some fs):∃b l m s,args=[aA b l,.val (.int m),.val (.int s)]/\qE l=true/\btw m 0 1000000000=true/\btw s 1 1000000000=true/\fs=([("lands",.tup l),("most",.int m),(x,.int s)]:List (Str×D)):=by
 unfold j7 at h
 split at h
 ·split at h
  ·rename_i e1 e2 e3
   split at h
   ·rename_i hc;cases h;rw[Bool.and_eq_true,Bool.and_eq_true]at hc;let(b,rfl):=qaF e1;cases qcq e2;cases qcq e3;exact{b,_,_,_,rfl,hc.1.1,hc.1.2,hc.2,rfl}
   ·cases h
  ·cases h
 ·cases h
def Zj{args:List Ar}{fs:List (Str×D)}(h:qcW args=some fs):∃b l m,args=[aA b l,.val (.int m)]/\qE l=true/\btw m 0 1000000000=true/\fs=([("lands",.tup l),("most",.int m),("leave",.int 1)]:List (Str×D)):=by
 unfold qcW at h
 split at h
 ·split at h
  ·rename_i e1 e2
   split at h
   ·rename_i hc;cases h;rw[Bool.and_eq_true]at hc;let(b,rfl):=qaF e1;cases qcq e2;exact{b,_,_,rfl,hc.1,hc.2,rfl}
   ·cases h
  ·cases h
 ·cases h
def YT{args:List Ar}{fs:List (Str×D)}(h:Qb args=some fs):∃b c l ps,args=[aA b l,aA c ps]/\(decide (l.length<=8)&&l.all qaa)=true/\(decide (ps.length<=12)&&ps.all (yA l.length))=true/\fs=([("kept_rules",.lst l),("kept_papers",.lst ps)]:List (Str×D)):=by
 unfold Qb at h
 split at h
 ·split at h
  ·rename_i e1 e2
   split at h
   ·rename_i hc;cases h;rw[Bool.and_eq_true]at hc;let(b,rfl):=qaF e1;let(c,rfl):=qaF e2;exact{b,c,_,_,rfl,hc.1,hc.2,rfl}
   ·cases h
  ·cases h
 ·cases h
def qfj{b:Bool}{l:List D}{m:Int}(ol:qE l=true)(om:btw m 0 1000000000=true):qbZ [aA b l,.val (.int m)]=some ([("lands",.tup l),("most",.int m)]:List (Str×D)):=by cases b<;>(show(if (qE l&&btw m 0 1000000000)=true then _ else none)=_;rw[if_pos (by rw[ol,om];rfl)])
def qfk{x:Str}{b:Bool}{l:List D}{m s:Int}(ol:qE l=true)(om:btw m 0 1000000000=true)(os:btw s 1 1000000000=true):j7 x [aA b l,.val (.int m),.val (.int s)]=some ([("lands",.tup l),("most",.int m),(x,.int s)]:List (Str×D)):=by cases b<;>(show(if (qE l&&btw m 0 1000000000&&btw s 1 1000000000)=true then _ else none)=_;rw[if_pos (by rw[ol,om,os];rfl)])
structure Tx(U:KC)(K:Frag)(mg:PR):Prop where
 tup:mg "tuple" = none
 lst:mg "list" = none
 len:mg "len" = none
 gG:∃t,mg "GREATEST" = some (.int 1000000000 t)
 cls:∀c C,U c=some C->Cls K C
 nA:∀c x C,(pcs {}).fld c x=true->U c=some C->ze K C x
structure Ck(pg:Pg)(j:Nat):Prop where
 lands:∀b l,qE l=true->clK pg j "are_lands" [aA b l]=.ok (.val (.bl true))
 rules:∀b l,(decide (l.length<=8)&&l.all qaa)=true->clK pg j "are_rules" [aA b l]=.ok (.val (.bl true))
 papers:∀b (ps:List D) (n:Int),(decide (ps.length<=12)&&ps.all (yA n))=true->clK pg j "check_papers" [aA b ps,.val (.int n)]=.ok (.val .non)
 btw:∀n a b,btw n a b=true->clK pg j "is_between" [.val (.int n),.val (.int a),.val (.int b)]=.ok (.val (.bl true))
def qcr{c:Str}(h:rk c=true):(pcs {}).fld c "lands" = true/\(pcs {}).fld c "most" = true:=by
 constructor
 ·show((rk c&&(true||_||_||_))||_)=true;rw[h];rfl
 ·show((rk c&&(false||true||_||_))||_)=true;rw[h];rfl
def okW(c:Str):Bool:=c == "Within"
def okS(c:Str):Bool:=c == "Since" || c == "InRow"
def okI(c:Str):Bool:=c == "InRow"
def okB(c:Str):Bool:=c == "Book"
def qm9{c:Str}(h:okW c=true):rk c=true:=by unfold okW at h;unfold rk;rw[h];rfl
def qna{c:Str}(h:okS c=true):rk c=true:=by unfold okS at h;unfold rk;rw[Bool.or_assoc,h,Bool.or_true]
def qjU{c:Str}(h:okI c=true):okS c=true:=by unfold okI at h;unfold okS;rw[h,Bool.or_true]
def qjV{c:Str}(h:okW c=true):(pcs {}).fld c "span" = true:=by
 have e:c = "Within":=by simpa [okW] using h
 subst e;decide
def qgZ{c:Str}(h:okS c=true):(pcs {}).fld c "leave" = true:=by
 have e:c = "Since"\/c = "InRow":=by simpa [okS] using h
 rcases e with e|e<;>subst e<;>decide
def qfl{c:Str}(h:okB c=true):(pcs {}).fld c "kept_rules" = true/\(pcs {}).fld c "kept_papers" = true:=by
 have e:c = "Book":=by simpa [okB] using h
 subst e;decide
end DG
namespace K71
open PySem PySem.Spec PyProof.Rows L2 DE DG
section
variable{P:Program}{wd:World}{U:KC}{K:Frag}{mg:PR}{base:Heap}{j:Nat}{f:Addr}{fd:FuncData}
def qjW:FnScope ["self","lands","most"] ["self","lands","most"] (qi (mem 26 0)):={rfl,rfl,rfl,(3:),rfl,(3:),(3:)}
def qg0(tx:Tx U K mg)(F:Fun K "__init__" "Rule.__init__" (mem 26 0) f fd)(at_:qdk P wd U K mg base pg j)(ck:Ck pg j):FnOk P wd K mg base CX0 (j+1) f fd ["self","lands","most"] (qc9 U K rk qbZ):=by
 let(fA,dA,FA,mA,kA,bA):=at_.1 "are_lands" (top 25) (4:);let(fB,dB,FB,mB,kB,bB):=at_.1 "is_between" (top 6) (4:);let(t1,g1):=tx.gG;refine F.ok qjW (λvs H Q E h=>?_) (λcdv A outer s H vs Q E hr h=>?_)
 ·let(G,c,C,p,dx,us,args,fs,rfl,_,_,_,_,_,ha,hg,_):=h;let(b,l,m,rfl,_):=qaG hg
  have:=ha.len
  simp at this;simp[<-this]
 ·let(G,c,C,p,dx,us,args,fs,rfl,hrk,hC,hp,gp,sub,ha,hg,k1):=h;let(b,l,m,rfl,ol,om,rfl):=qaG hg;simp![Jn]at ha;let(v1,us1,rfl,r1,v2,us2,rfl,r2,rfl):=ha;simp![ArR,Rep]at r2;subst r2;let(a,xs,rfl,hxa,rl):=qbn sub r1
  refine{_,zd (qcs (Zp (qbr (jx FA hr (by rfl) mA kA bA .nil j5 (qm (pv 1) qC)))) (jw JY) Jr)
   (zd (qcs (Zp (qbr (jx FB hr (by rfl) mB kB bB .nil j5 (qm (pv 2) (qm Zo (qm (J6 (v:=.int 1000000000) (by rfl) g1 {_,rfl}) qC)))))) (jw JY) Jr)
   (zd (Zv (pv 0) (zf yW (by rfl) tx.tup PyProof.Rows.boot_tuple (qm (pv 1) qC)) rfl)
   (jw (Zv (pv 0) (pv 2) rfl)))),?_}
  refine{_,rfl,qaE (E:=E0) (G:=G) (args:=[aA b l]) sub {_,_,rfl,r1,rfl} (ck.lands b l ol) λv G1 H1 hs1 gs1 sub1 fr1 rr=>?_};simp![ReR,Rep]at rr;subst rr;refine{_,rfl,?_};refine{_,rfl,qaE (E:=E0) (G:=G1) (args:=[.val (.int m),.val (.int 0),.val (.int 1000000000)]) sub1 {_,_,rfl,by simp![ArR,Rep],_,_,rfl,by simp![ArR,Rep],_,_,rfl,by simp![ArR,Rep],rfl} (ck.btw m 0 1000000000 om) λv G2 H2 hs2 gs2 sub2 fr2 rr=>?_};simp![ReR,Rep]at rr;subst rr;refine{_,rfl,?_};have hp2:H2 p=some (.ins C dx []):=hs2 _ _ (hs1 _ _ hp);have ga2:H2 a=some (.lst xs):=hs2 _ _ (hs1 _ _ hxa);have gp1:G1 p=none:=jv fr1 gp hp;have gp2:G2 p=none:=jv fr2 gp1 (hs1 _ _ hp);refine{_,rfl,a,xs,rfl,.inl {SqL.of ga2,λt ht=>?_}};have ntp:t≠p:=λz=>by rw[z,hp2]at ht;cases ht
  have gt:G2 t=none:=qp.none sub2 ht;refine{_,rfl,p,C,dx,_,rfl,by rw[qe ntp.symm];exact hp2,tx.cls c C hC,tx.nA c _ C (qcr hrk).1 hC,by decide,?_};refine{_,rfl,_,rfl,p,C,dx,_,rfl,qg,tx.cls c C hC,tx.nA c _ C (qcr hrk).2 hC,(by show 1 < 1000;decide),?_};refine k1 (upd G2 t (.tup xs)) _ [.ref t,.int m] ?_ ?_ ?_ ?_ ?_ ?_ rfl ?_
  ·exactλb o e=>qp.upd gt b o (gs2 b o (gs1 b o e))
  ·intro b o e
   by_cases z:b=t
   ·subst z;rw[qg]at e;cases e;rw[qe ntp,qe ntp,qg]
   ·rw[qe z]at e;have nb:b≠p:=λq=>by rw[q,gp2]at e;cases e
    rw[qe nb,qe nb,qe z];exact sub2 b o e
  ·rw[qe ntp.symm];exact gp2
  ·intro b o nb e;have e2:=hs2 b o (hs1 b o e);have nt:b≠t:=λq=>by rw[q,ht]at e2;cases e2
   rw[qe nb,qe nb,qe nt];exact e2
  ·intro b o e
   by_cases z:b=t
   ·subst z;exact .inr (qp.none hs1 (qp.none hs2 ht))
   ·rw[qe z]at e;exact(Jk.trans fr1 hs1 fr2) b o e
  ·rw[qg];rfl
  ·simp![List.map_cons,List.map_nil,qo,Rep];exact{_,_,rfl,{t,xs,rfl,qg,(rl.same gs1 |>.same gs2).same (qp.upd gt)},_,_,rfl,rfl,rfl}
def qfm:FnScope ["self","lands","most","span"] ["self","lands","most","span"] (qi (mem 27 0)):={rfl,rfl,rfl,(3:),rfl,(3:),(3:)}
def qg1:FnScope ["self","lands","most","leave"] ["self","lands","most","leave"] (qi (mem 28 0)):={rfl,rfl,rfl,(3:),rfl,(3:),(3:)}
def Zk{fR cR:Addr}{dR:FuncData}(tx:Tx U K mg)(FR:Fun K "__init__" "Rule.__init__" (mem 26 0) fR dR)(bR:qX K dR ["self","lands","most"] [])(mR:mg "Rule" = some (.ref cR))(cf:ClsFn K cR "__init__" fR)
  (at0:qdk P wd U K mg base pg j) (at1:qdk P wd U K mg base pg (j+1)) (ck0:Ck pg j) (ck1:Ck pg (j+1)):(Fun K "__init__" "Within.__init__" (mem 27 0) f fd->FnOk P wd K mg base CX0 (j+2) f fd ["self","lands","most","span"] (qc9 U K okW (j7 "span")))/\(Fun K "__init__" "Since.__init__" (mem 28 0) f fd->FnOk P wd K mg base CX0 (j+2) f fd ["self","lands","most","leave"] (qc9 U K okS (j7 "leave"))):=by
 constructor<;>(
  intro F;let(fB,dB,FB,mB,kB,bB):=at1.1 "is_between" (top 6) (4:);let(t1,g1):=tx.gG;refine F.ok (by first|exact qfm |exact qg1) (λvs H Q E h=>?_) (λcdv A outer s H vs Q E hr h=>?_)
  ·let(G,c,C,p,dx,us,args,fs,rfl,_,_,_,_,_,ha,hg,_):=h;let(b,l,m,z,rfl,_):=Jl hg
   have:=ha.len
   simp at this;simp[<-this]
  ·let(G,c,C,p,dx,us,args,fs,rfl,hrk,hC,hp,gp,sub,ha,hg,k1):=h;let(b,l,m,z,rfl,ol,om,oz,rfl):=Jl hg;simp![Jn]at ha;let(v1,us1,rfl,r1,v2,us2,rfl,r2,v3,us3,rfl,r3,rfl):=ha;simp![ArR,Rep]at r2 r3;subst r2 r3
   refine{_,zd (yJ (qbC cf (qg0 tx FR at0 ck0) hr (by rfl) mR bR .nil j5 (qm (pv 0) (qm (pv 1) (qm (pv 2) qC)))))
    (zd (qcs (Zp (qbr (jx FB hr (by rfl) mB kB bB .nil j5 (qm (pv 3) (qm Zo (qm (J6 (v:=.int 1000000000) (by rfl) g1 {_,rfl}) qC)))))) (jw JY) Jr)
    (jw (Zv (pv 0) (pv 3) rfl))),?_}
   refine{_,rfl,_,rfl,_,rfl,G,c,C,p,dx,[v1,.int m],[aA b l,.val (.int m)],_,rfl,(by first|exact qm9 hrk|exact qna hrk),hC,hp,gp,sub,{_,_,rfl,r1,_,_,rfl,by simp![ArR,Rep],rfl},qfj ol om,λG1 H1 xs gs1 sub1 gp1 but1 fr1 hp1 hl1 rp1=>?_};simp![List.map_cons,List.map_nil,qo]at rp1;let(x1,w1,rfl,q1,x2,w2,rfl,q2,rfl):=rp1;refine{_,rfl,qaE (E:=E0) (G:=G1) (args:=[.val (.int z),.val (.int 1),.val (.int 1000000000)]) sub1 {_,_,rfl,by simp![ArR,Rep],_,_,rfl,by simp![ArR,Rep],_,_,rfl,by simp![ArR,Rep],rfl} (ck1.btw z 1 1000000000 oz) λv G2 H2 hs2 gs2 sub2 fr2 rr=>?_};simp![ReR,Rep]at rr;subst rr;refine{_,rfl,?_};have hp2:=hs2 _ _ hp1;have gp2:G2 p=none:=jv fr2 gp1 hp1;refine{_,rfl,_,rfl,p,C,dx,_,rfl,hp2,tx.cls c C hC,tx.nA c _ C (by first|exact qjV hrk|exact qgZ hrk) hC,(by show 2 < 1000;decide),?_};refine k1 G2 _ [x1,x2,.int z] (λb o e=>gs2 b o (gs1 b o e)) (λb o e=>?_) gp2 (λb o nb e=>?_) (λb o e=>?_) ?_ rfl ?_
   ·rw[qe (λq=>by rw[q,gp2]at e;cases e)];exact sub2 b o e
   ·rw[qe nb];exact hs2 b o (but1 b o nb e)
   ·exact(Jk.transB fr1 but1 hp1 fr2) b o e
   ·rw[qg];rfl
   ·simp![List.map_cons,List.map_nil,qo];exact{_,_,rfl,q1.same gs2,_,_,rfl,q2.same gs2,_,_,rfl,by simp![Rep],rfl})
def qg2:FnScope ["self","lands","most"] ["self","lands","most"] (qi (mem 29 0)):={rfl,rfl,rfl,(3:),rfl,(3:),(3:)}
def qfn{fR cR fS cS:Addr}{dR dS:FuncData}(tx:Tx U K mg)(F:Fun K "__init__" "InRow.__init__" (mem 29 0) f fd)(FS:Fun K "__init__" "Since.__init__" (mem 28 0) fS dS)(bS:qX K dS ["self","lands","most","leave"] [])(mS:mg "Since" = some (.ref cS))(cfS:ClsFn K cS "__init__" fS)
  (FR:Fun K "__init__" "Rule.__init__" (mem 26 0) fR dR) (bR:qX K dR ["self","lands","most"] []) (mR:mg "Rule" = some (.ref cR)) (cf:ClsFn K cR "__init__" fR)
  (at0:qdk P wd U K mg base pg j) (at1:qdk P wd U K mg base pg (j+1)) (ck0:Ck pg j) (ck1:Ck pg (j+1)):FnOk P wd K mg base CX0 (j+3) f fd ["self","lands","most"] (qc9 U K okI qcW):=by
 refine F.ok qg2 (λvs H Q E h=>?_) (λcdv A outer s H vs Q E hr h=>?_)
 ·let(G,c,C,p,dx,us,args,fs,rfl,_,_,_,_,_,ha,hg,_):=h;let(b,l,m,rfl,_):=Zj hg
  have:=ha.len
  simp at this;simp[<-this]
 ·let(G,c,C,p,dx,us,args,fs,rfl,hrk,hC,hp,gp,sub,ha,hg,k1):=h;let(b,l,m,rfl,ol,om,rfl):=Zj hg;simp![Jn]at ha;let(v1,us1,rfl,r1,v2,us2,rfl,r2,rfl):=ha;simp![ArR,Rep]at r2;subst r2;refine{_,jw (yJ (qbC cfS ((Zk tx FR bR mR cf at0 at1 ck0 ck1).2 FS) hr (by rfl) mS bS .nil j5 (qm (pv 0) (qm (pv 1) (qm (pv 2) (qm Zo qC)))))),?_}
  exact{_,rfl,_,rfl,_,rfl,G,c,C,p,dx,[v1,.int m,.int 1],[aA b l,.val (.int m),.val (.int 1)],_,rfl,qjU hrk,hC,hp,gp,sub,{_,_,rfl,r1,_,_,rfl,by simp![ArR,Rep],_,_,rfl,by simp![ArR,Rep],rfl},
   qfk ol om (2:),λG1 H1 xs gs1 sub1 gp1 but1 fr1 hp1 hl1 rp1=>k1 G1 H1 xs gs1 sub1 gp1 but1 fr1 hp1 hl1 rp1}
def qjX:FnScope ["self","rules","papers"] ["self","rules","papers"] (qi (mem 51 0)):={rfl,rfl,rfl,(3:),rfl,(3:),(3:)}
def qg3(tx:Tx U K mg)(F:Fun K "__init__" "Book.__init__" (mem 51 0) f fd)(at_:qdk P wd U K mg base pg j)(ck:Ck pg j):FnOk P wd K mg base CX0 (j+1) f fd ["self","rules","papers"] (qc9 U K okB Qb):=by
 let(fA,dA,FA,mA,kA,bA):=at_.1 "are_rules" (top 48) (4:);let(fB,dB,FB,mB,kB,bB):=at_.1 "check_papers" (top 50) (4:);refine F.ok qjX (λvs H Q E h=>?_) (λcdv A outer s H vs Q E hr h=>?_)
 ·let(G,c,C,p,dx,us,args,fs,rfl,_,_,_,_,_,ha,hg,_):=h;let(b0,c0,l,ps,rfl,_):=YT hg
  have:=ha.len
  simp at this;simp[<-this]
 ·let(G,c,C,p,dx,us,args,fs,rfl,hrk,hC,hp,gp,sub,ha,hg,k1):=h;let(b0,c0,l,ps,rfl,ol,op,rfl):=YT hg;simp![Jn]at ha;let(v1,us1,rfl,r1,v2,us2,rfl,r2,rfl):=ha;let(a,xs,rfl,hxa,rl):=qbn sub r1;let(b,ys,rfl,hb,rp):=qbn sub r2
  refine{_,zd (qcs (Zp (qbr (jx FA hr (by rfl) mA kA bA .nil j5 (qm (pv 1) qC)))) (jw JY) Jr)
   (zd (yJ (jx FB hr (by rfl) mB kB bB .nil j5 (qm (pv 2) (qm (qT JH (by rfl) tx.len PySem.boot_len (qm (pv 1) qC)) qC))))
   (zd (Zv (pv 0) (zf j0 (by rfl) tx.lst PyProof.Rows.boot_list (qm (pv 1) qC)) rfl)
   (jw (Zv (pv 0) (zf j0 (by rfl) tx.lst PyProof.Rows.boot_list (qm (pv 2) qC)) rfl)))),?_}
  refine{_,rfl,qaE (E:=E0) (G:=G) (args:=[aA b0 l]) sub {_,_,rfl,r1,rfl} (ck.rules b0 l ol) λv G1 H1 hs1 gs1 sub1 fr1 rr=>?_};simp![ReR,Rep]at rr;subst rr;refine{_,rfl,?_};have ga1:H1 a=some (.lst xs):=hs1 _ _ hxa;refine{_,rfl,_,rfl,a,xs,rfl,.inl (SqL.of ga1),?_};refine qaE (E:=E0) (G:=G1) (args:=[aA c0 ps,.val (.int l.length)]) sub1 ⟨_,_,rfl,qm8 r2 gs1 hs1,_,_,rfl,by simp![ArR,Rep];rw[rl.len],rfl⟩ (ck.papers c0 ps l.length op) λv G2 H2 hs2 gs2 sub2 fr2 rr=>?_;have hp2:H2 p=some (.ins C dx []):=hs2 _ _ (hs1 _ _ hp);have gp1:G1 p=none:=jv fr1 gp hp;have gp2:G2 p=none:=jv fr2 gp1 (hs1 _ _ hp);have ga2:H2 a=some (.lst xs):=hs2 _ _ ga1;have hb2:H2 b=some (.lst ys):=hs2 _ _ (hs1 _ _ hb);refine{_,rfl,a,xs,rfl,.inl (SqL.of ga2),λt ht=>?_};have ntp:t≠p:=λz=>by rw[z,hp2]at ht;cases ht
  have gt:G2 t=none:=qp.none sub2 ht;refine{_,rfl,p,C,dx,_,rfl,by rw[qe ntp.symm];exact hp2,tx.cls c C hC,tx.nA c _ C (qfl hrk).1 hC,by decide,?_};have nbt:b≠t:=λz=>by rw[z,ht]at hb2;cases hb2
  have nbp:b≠p:=λz=>by rw[z,hp2]at hb2;cases hb2
  refine{_,rfl,b,ys,rfl,.inl (SqL.of (by rw[qe nbp,qe nbt];exact hb2)),λu hu=>?_};have nup:u≠p:=λz=>by rw[z,qg]at hu;cases hu
  have nut:u≠t:=λz=>by rw[z,qe ntp,qg]at hu;cases hu
  have hu2:H2 u=none:=by rw[qe nup,qe nut]at hu;exact hu
  have gu:G2 u=none:=qp.none sub2 hu2;refine{_,rfl,p,C,dx,_,rfl,by rw[qe nup.symm,qg],tx.cls c C hC,tx.nA c _ C (qfl hrk).2 hC,(by show 1 < 1000;decide),?_};have gut:upd G2 t (.lst xs) u=none:=by rw[qe nut];exact gu
  refine k1 (upd (upd G2 t (.lst xs)) u (.lst ys)) _ [.ref t,.ref u] ?_ ?_ ?_ ?_ ?_ ?_ rfl ?_
  ·exactλb o e=>qp.upd gut b o (qp.upd gt b o (gs2 b o (gs1 b o e)))
  ·intro q o e
   by_cases z:q=u
   ·subst z;rw[qg]at e;cases e;rw[qe nup,qg]
   ·rw[qe z]at e
    by_cases z2:q=t
    ·subst z2;rw[qg]at e;cases e;rw[qe ntp,qe z,qe ntp,qg]
    ·rw[qe z2]at e;have nq:q≠p:=λw=>by rw[w,gp2]at e;cases e
     rw[qe nq,qe z,qe nq,qe z2];exact sub2 q o e
  ·rw[qe nup.symm,qe ntp.symm];exact gp2
  ·intro q o nq e;have e2:=hs2 q o (hs1 q o e);have n1:q≠t:=λw=>by rw[w,ht]at e2;cases e2
   have n2:q≠u:=λw=>by rw[w,hu2]at e2;cases e2
   rw[qe nq,qe n2,qe nq,qe n1];exact e2
  ·intro q o e
   by_cases z:q=u
   ·subst z;exact .inr (qp.none hs1 (qp.none hs2 hu2))
   ·rw[qe z]at e
    by_cases z2:q=t
    ·subst z2;exact .inr (qp.none hs1 (qp.none hs2 ht))
    ·rw[qe z2]at e;exact(Jk.trans fr1 hs1 fr2) q o e
  ·rw[qg];rfl
  ·simp![List.map_cons,List.map_nil,qo,Rep];exact{_,_,rfl,{t,xs,rfl,by rw[qe nut.symm];exact qg,((rl.same gs1 |>.same gs2).same (qp.upd gt)).same (qp.upd gut)},_,_,rfl,{u,ys,rfl,qg,((rp.same gs1 |>.same gs2).same (qp.upd gt)).same (qp.upd gut)},rfl}
end
end K71
namespace HD
open PySem PySem.W
def YU(tb:String->Option Builtin)(p:Program)(w:World)(n₀:Nat)(ann:Option Value):Nat->SharedT->Thread->Option SharedT
 |0,_,_=>none
 | n+1,s,t=>match through t with
  |true=>some s
  |false=>match stepOk n₀ ann t with
   |false=>none
   |true=>match stepT (denote tb) p w s t with
    | some (s',t')=>YU tb p w n₀ ann n s' t'
    |none=>none
theorem qaH{tb:String->Option Builtin}{p:Program}{w:World}{n₀:Nat}{ann:Option Value}:∀{n:Nat} {s s':SharedT} {t:Thread},YU tb p w n₀ ann n s t=some s'->topRun tb p w n₀ ann n s.abs t=some s'.abs
 |0,_,_,_,h=>by cases h
 | n+1,s,s',t,h=>by
  unfold YU at h;unfold topRun
  cases ht:through t with
  |true=>rw[ht]at h;cases h;rfl
  |false=>
   rw[ht]at h
   cases hk:stepOk n₀ ann t with
   |false=>rw[hk]at h;cases h
   |true=>
    rw[hk]at h
    cases hs:stepT (denote tb) p w s t with
    |none=>rw[hs]at h;cases h
    |some r=>let(s₂,t₂):=r;rw[hs]at h;dsimp only;rw[stepT_spec hs];exact qaH h
def ofL:List Obj->Nat->BT->BT
 |[],_,t=>t
 | o::r,n,t=>ofL r (n+1) (t.ins n o)
def qjY(P:Params)(os:OsState):SharedT:={ofL (boot_heap P).objs.toList 0 .nil,(boot_heap P).objs.toList.length,(boot_heap P).life,Array.mk [],boot_drawn,boot_toks,os}
def qfo(P:Params)(os:OsState):(qjY P os).abs=⟨boot_heap P,Array.mk [],boot_drawn,boot_toks,os⟩:=(4:)
def qjZ{α:Type}(p q:Program)(loose:List Str)(Xt:Shared->Bool)(Yf:Shared->α)(g0:Bool)(Hv:Heap)(s:Shared):=
 (staticsOk (importedModules p.main.body) Hv s.heap&&namesBound p s.heap&&gensDone s&&laidKept Hv s.heap,openSeen q loose (importedModules p.main.body) Xt g0 s,Yf s)
def qj0{p q:Program}{loose:List Str}{Xt:Shared->Bool}{α:Type}{Yf:Shared->α}{Ya:World->α}{N:Nat}{g0:Bool}{m₀:Nat}{ann:Option Value}
  (open_:∀w:World,(fencedOpening treeTable p w N).map (λs=>(s.heap,s.gens,s.drawn,s.toks))=some (boot_heap w.params,Array.mk [],boot_drawn,boot_toks))
  (size:∀w:World,((boot_heap w.params).isNs mainGlobals&&(Array.mk []:Array GenState).size == 0,(boot_heap w.params).objs.size,(boot_heap w.params).nsMap mainGlobals "__annotations__")=(true,m₀,ann))
  (h:∀w os,(YU treeTable p w m₀ ann N (qjY w.params os) (topStub p)).map (λs=>qjZ p q loose Xt Yf g0 (boot_heap w.params) s.abs)=some (true,openGood q loose,Ya w)):LeftO p q loose Xt Yf Ya N g0:=λw=>by
 let((h0,gs,d,k,os),e,e'):=Option.map_eq_some_iff.mp (open_ w);let(rfl,rfl,rfl,rfl):h0=boot_heap w.params/\gs=Array.mk []/\d=boot_drawn/\k=boot_toks:=(-e':)
 let(z1,z2,z3):_/\_/\_:=by simpa only[Prod.mk.injEq] using size w
 let(s₁,r,l):=Option.map_eq_some_iff.mp (h w os);have r':=qaH r;rw[qfo]at r';let(l1,l2,l3):_/\_/\_:=by simpa only[qjZ,Prod.mk.injEq] using l
 have t:topFrom treeTable p w N ⟨boot_heap w.params,Array.mk [],boot_drawn,boot_toks,os⟩=some s₁.abs:=by unfold topFrom;dsimp only;rw[z1,z2,z3,r'];show(match staticsOk (importedModules p.main.body) (boot_heap w.params) s₁.abs.heap&&namesBound p s₁.abs.heap&&gensDone s₁.abs&&laidKept (boot_heap w.params) s₁.abs.heap with |true=>_ |false=>_)=_;rw[l1]
 unfold openEnds;rw[e];show(topFrom treeTable p w N _).map _=_;rw[t];exact congrArg some (Prod.ext l2 l3)
def dE(P:Params)(k:Str)(t:Tok)(v:Value):DictEntry:={PyData.keyHash P k,.str k t,v}
def oFn(d:Option Addr)(st:Stmt)(name qual:Str)(dV kV doc pm:Value)(an:Option Addr)(cd ct:Value):Obj:={.type "function",d,.func (fnOf name qual (L2.zj st) (L2.qz st) (L2.qi st) dV kV doc pm an cd ct),#[]}
def oC(n:Str)(t1:Tok)(q:Str)(t2 t3:Tok)(l ar:Int)(a b:Addr)(x y:Value)(c:Addr)(u:Int)(v:Tok):Obj:={.type "code",none,.fields #[.str n t1,.str q t2,.str "/claim/cut.py" t3,.int l 0,.int ar 0,.int 0 0,.int 0 0,.int 3 0,.ref a,.bool true,.int 181 0,.ref b,.none,x,y,.ref c,.int u 0,.int l 0,.str "/claim/cut.py" v],#[]}
def oG(st:Stmt)(n m:Str)(t:Tok)(a:Addr):Obj:=oFn none st n n .none .none .none (.str m t) none (.ref a) .none
def oB(n:Str)(t:Tok)(l ar:Int)(a:Addr)(v:Nat):Obj:=oC n t n (t+1) (t+2) l ar a (a+1) (.ref (a+2)) (.ref (a+3)) (a+4) v (v+1)
def qfp(w:World):((boot_heap w.params).isNs mainGlobals&&(Array.mk []:Array GenState).size == 0,(boot_heap w.params).objs.size,(boot_heap w.params).nsMap mainGlobals "__annotations__")=(true,11,some (.ref 6)):=(4:)
end HD
namespace K71
open PySem PySem.W HD DG
abbrev HP:Program:=PySem.Challenge.rw_daysgate_k71_whole_books_parted.row.toRowW.prog
def Hq:Program:=view HP [0,2,3,4,5,6,7,8,9,10,12,13,14,15,17,18,19,20,22,23,24,25,26,27,28,29,31,32,33,34,35,36,37,38,39,41,42,43,44,46,47,48,49,50,51,53,54,55,56,57,58,59,60,61,62,63,64,65]
def Hx(s:Shared):Bool:=xlAt Hq [] s&&recOk (RowW.records PySem.Challenge.rw_daysgate_k71_whole_books_parted.row.toRowW) s
def Has:List Addr:=[2,3,27,28,34,35,41,42,48,49,55,56,62,63,74,125,126,132,133,139,140,146,147,153,154,160,161,174,175,181,182,184,185,186,187,202,203,209,210,212,213,228,229,235,236,238,239,254,255,261,262,264,265,271,272,278,279,285,286,292,293,299,300,306,307,313,314,318,319,325,326,330,331,335,336,342,343,349,350,356,357,363,364,377,378,384,385,391,392,396,397,399,400,401,402,410,411,417,418,422,423,429,430,436,437,441,442,448,449,453,454,458,459,465,466,470,471,475,476,482,483]
def HK(P:Params):Frag:=(nat_lit 2,⟨.none,none,.dict #[] 0,#[]⟩)::(nat_lit 3,⟨(.type "dict"),none,.dict #[dE P "__name__" 165 (.str "law_daysgate_k71_whole_books_parted" 748),dE P "__doc__" 166 .none,dE P "__package__" 167 .none,dE P "__loader__" 168 (.builtin "__main__.__loader__#opaque"),dE P "__spec__" 169 .none,dE P "__annotations__" 170 (.ref 6),dE P "__builtins__" 171 (.ref 4),dE P "__file__" 173 (.str "/claim/cut.py" 172),dE P "__cached__" 174 .none,dE P "_wall" 193 (.ref 21),dE P "GREATEST" 197 (.int (1000000000) 196),dE P "LETTERS" 199 (.str "abcdefghijklmnopqrstuvwxyz" 198),dE P "LONGEST_NAME" 201 (.int (8) 200),dE P "is_whole" 208 (.ref 28),dE P "is_between" 217 (.ref 35),dE P "are_days" 225 (.ref 42),dE P "is_made_of" 234 (.ref 49),dE P "is_name" 241 (.ref 56),dE P "are_names" 251 (.ref 63),dE P "DayError" 271 (.ref 73),dE P "NoRule" 287 (.ref 86),dE P "NoPaper" 312 (.ref 105),dE P "NoWish" 328 (.ref 117),dE P "spread" 340 (.ref 126),dE P "both" 353 (.ref 133),dE P "outside" 365 (.ref 140),dE P "less" 373 (.ref 147),dE P "MOST_LANDS" 377 (.int (6) 376),dE P "GREATEST_WEIGHT" 379 (.int (9) 378),dE P "is_land" 386 (.ref 154),dE P "are_lands" 395 (.ref 161),dE P "Rule" 436 (.ref 185),dE P "Within" 470 (.ref 213),dE P "Since" 504 (.ref 239),dE P "InRow" 536 (.ref 265),dE P "pieces_among" 544 (.ref 272),dE P "sum_of" 558 (.ref 279),dE P "first_since" 571 (.ref 286),dE P "first_of_window" 580 (.ref 293),dE P "count_among" 589 (.ref 300),dE P "turns_of" 601 (.ref 307),dE P "first_above" 614 (.ref 314),dE P "first_broken" 620 (.ref 319),dE P "fault_among" 633 (.ref 326),dE P "MOST_NAMES" 637 (.int (2) 636),dE P "lets" 643 (.ref 331),dE P "longer_rows" 649 (.ref 336),dE P "parted" 664 (.ref 343),dE P "MOST_RULES" 668 (.int (8) 667),dE P "MOST_PAPERS" 670 (.int (12) 669),dE P "are_rules" 678 (.ref 350),dE P "is_paper" 686 (.ref 357),dE P "check_papers" 696 (.ref 364),dE P "Book" 747 (.ref 400),dE P "_law_at" 757 (.ref 411),dE P "_law_word" 768 (.ref 418),dE P "_law_names" 774 (.ref 423),dE P "_law_small" 784 (.ref 430),dE P "_law_rule" 791 (.ref 437),dE P "_law_counts" 797 (.ref 442),dE P "_law_keeps" 808 (.ref 449),dE P "_law_lets" 814 (.ref 454),dE P "_law_longer" 820 (.ref 459),dE P "_law_parted" 833 (.ref 466),dE P "_law_world" 839 (.ref 471),dE P "_law_book" 845 (.ref 476),dE P "law" 861 (.ref 483)] 67,#[]⟩)::(nat_lit 27,oB "is_whole" 202 8 1 22 206)::(nat_lit 28,oG (top 5) "is_whole" "daysgate.checks" 194 27)::(nat_lit 34,oB "is_between" 209 10 3 29 215)::(nat_lit 35,oG (top 6) "is_between" "daysgate.checks" 194 34)::(nat_lit 41,oB "are_days" 218 12 2 36 223)::(nat_lit 42,oG (top 7) "are_days" "daysgate.checks" 194 41)::(nat_lit 48,oB "is_made_of" 226 14 2 43 232)::(nat_lit 49,oG (top 8) "is_made_of" "daysgate.checks" 194 48)::(nat_lit 55,oB "is_name" 235 19 1 50 239)::(nat_lit 56,oG (top 9) "is_name" "daysgate.checks" 194 55)::(nat_lit 62,oB "are_names" 242 23 2 57 249)::(nat_lit 63,oG (top 10) "are_names" "daysgate.checks" 194 62)::(nat_lit 74,⟨(.type "getset_descriptor"),none,.fields #[(.str "__weakref__" 267),(.ref 73),(.builtin "ExceptionGroup.__weakref__"),.none],#[]⟩)::(nat_lit 125,oB "spread" 331 45 1 120 338)::(nat_lit 126,oG (top 17) "spread" "daysgate.days" 329 125)::(nat_lit 132,oB "both" 341 53 2 127 351)::(nat_lit 133,oG (top 18) "both" "daysgate.days" 329 132)::(nat_lit 139,oB "outside" 354 67 3 134 363)::(nat_lit 140,oG (top 19) "outside" "daysgate.days" 329 139)::(nat_lit 146,oB "less" 366 77 2 141 371)::(nat_lit 147,oG (top 20) "less" "daysgate.days" 329 146)::(nat_lit 153,oB "is_land" 380 84 1 148 384)::(nat_lit 154,oG (top 24) "is_land" "daysgate.rules" 374 153)::(nat_lit 160,oB "are_lands" 387 88 1 155 393)::(nat_lit 161,oG (top 25) "are_lands" "daysgate.rules" 374 160)::(nat_lit 174,oC "__init__" 408 "Rule.__init__" 409 410 99 3 169 170 (.ref 171) (.ref 172) 173 414 415)::(nat_lit 175,oFn none (mem 26 0) "__init__" "Rule.__init__" .none .none .none (.str "daysgate.rules" 374) none (.ref 174) .none)::(nat_lit 181,oC "weight" 417 "Rule.weight" 418 419 107 2 176 177 (.ref 178) (.ref 179) 180 424 425)::(nat_lit 182,oFn none (mem 26 1) "weight" "Rule.weight" .none .none .none (.str "daysgate.rules" 374) none (.ref 181) .none)::(nat_lit 184,⟨(.type "dict"),none,.dict #[dE P "__module__" 403 (.str "daysgate.rules" 374),dE P "__firstlineno__" 407 (.int (97) 406),dE P "__init__" 416 (.ref 175),dE P "weight" 426 (.ref 182),dE P "__static_attributes__" 429 (.ref 183),dE P "__dict__" 431 (.ref 186),dE P "__weakref__" 433 (.ref 187),dE P "__doc__" 434 .none] 4,#[]⟩)::(nat_lit 185,⟨(.type "type"),none,.cls ⟨"Rule",[(.type "object")],[(.ref 185),(.type "object")],184,"Rule",true,[],[(.ref 213),(.ref 239)],false,none,false⟩,#[none,none,some (.str "Rule" 396),some (.str "Rule" 404),some (.builtin "object.__new__"),some (.bool true)]⟩)::(nat_lit 186,⟨(.type "getset_descriptor"),none,.fields #[(.str "__dict__" 430),(.ref 185),(.builtin "function.__dict__"),(.builtin "function.__dict__#set")],#[]⟩)::(nat_lit 187,⟨(.type "getset_descriptor"),none,.fields #[(.str "__weakref__" 432),(.ref 185),(.builtin "ExceptionGroup.__weakref__"),.none],#[]⟩)::(nat_lit 202,oC "__init__" 449 "Within.__init__" 450 451 114 4 197 198 (.ref 199) (.ref 200) 201 456 457)::(nat_lit 203,oFn none (mem 27 0) "__init__" "Within.__init__" .none .none .none (.str "daysgate.rules" 374) none (.ref 202) .none)::(nat_lit 209,oC "line" 459 "Within.line" 460 461 120 1 204 205 (.ref 206) (.ref 207) 208 463 464)::(nat_lit 210,oFn none (mem 27 1) "line" "Within.line" .none .none .none (.str "daysgate.rules" 374) none (.ref 209) .none)::(nat_lit 212,⟨(.type "dict"),none,.dict #[dE P "__module__" 444 (.str "daysgate.rules" 374),dE P "__firstlineno__" 448 (.int (112) 447),dE P "__init__" 458 (.ref 203),dE P "line" 465 (.ref 210),dE P "__static_attributes__" 467 (.ref 211),dE P "__doc__" 468 .none] 2,#[]⟩)::(nat_lit 213,⟨(.type "type"),none,.cls ⟨"Within",[(.ref 185)],[(.ref 213),(.ref 185),(.type "object")],212,"Within",true,[],[],false,none,false⟩,#[some (.ref 190),none,some (.str "Within" 437),some (.str "Within" 445),some (.builtin "object.__new__"),some (.bool true)]⟩)::(nat_lit 228,oC "__init__" 483 "Since.__init__" 484 485 124 4 223 224 (.ref 225) (.ref 226) 227 490 491)::(nat_lit 229,oFn none (mem 28 0) "__init__" "Since.__init__" .none .none .none (.str "daysgate.rules" 374) none (.ref 228) .none)::(nat_lit 235,oC "line" 493 "Since.line" 494 495 130 1 230 231 (.ref 232) (.ref 233) 234 497 498)::(nat_lit 236,oFn none (mem 28 1) "line" "Since.line" .none .none .none (.str "daysgate.rules" 374) none (.ref 235) .none)::(nat_lit 238,⟨(.type "dict"),none,.dict #[dE P "__module__" 478 (.str "daysgate.rules" 374),dE P "__firstlineno__" 482 (.int (122) 481),dE P "__init__" 492 (.ref 229),dE P "line" 499 (.ref 236),dE P "__static_attributes__" 501 (.ref 237),dE P "__doc__" 502 .none] 2,#[]⟩)::(nat_lit 239,⟨(.type "type"),none,.cls ⟨"Since",[(.ref 185)],[(.ref 239),(.ref 185),(.type "object")],238,"Since",true,[],[(.ref 265)],false,none,false⟩,#[some (.ref 216),none,some (.str "Since" 471),some (.str "Since" 479),some (.builtin "object.__new__"),some (.bool true)]⟩)::(nat_lit 254,oC "__init__" 517 "InRow.__init__" 518 519 134 3 249 250 (.ref 251) (.ref 252) 253 523 524)::(nat_lit 255,oFn none (mem 29 0) "__init__" "InRow.__init__" .none .none .none (.str "daysgate.rules" 374) none (.ref 254) .none)::(nat_lit 261,oC "line" 526 "InRow.line" 527 528 137 1 256 257 (.ref 258) (.ref 259) 260 530 531)::(nat_lit 262,oFn none (mem 29 1) "line" "InRow.line" .none .none .none (.str "daysgate.rules" 374) none (.ref 261) .none)::(nat_lit 264,⟨(.type "dict"),none,.dict #[dE P "__module__" 512 (.str "daysgate.rules" 374),dE P "__firstlineno__" 516 (.int (132) 515),dE P "__init__" 525 (.ref 255),dE P "line" 532 (.ref 262),dE P "__static_attributes__" 533 (.ref 263),dE P "__doc__" 534 .none] 2,#[]⟩)::(nat_lit 265,⟨(.type "type"),none,.cls ⟨"InRow",[(.ref 239)],[(.ref 265),(.ref 239),(.ref 185),(.type "object")],264,"InRow",true,[],[],false,none,false⟩,#[some (.ref 242),none,some (.str "InRow" 505),some (.str "InRow" 513),some (.builtin "object.__new__"),some (.bool true)]⟩)::(nat_lit 271,oC "pieces_among" 539 "pieces_among" 540 541 140 3 268 269 .none .none 270 542 543)::(nat_lit 272,oG (top 31) "pieces_among" "daysgate.sums" 537 271)::(nat_lit 278,oB "sum_of" 545 149 3 273 556)::(nat_lit 279,oG (top 32) "sum_of" "daysgate.sums" 537 278)::(nat_lit 285,oB "first_since" 559 156 3 280 569)::(nat_lit 286,oG (top 33) "first_since" "daysgate.sums" 537 285)::(nat_lit 292,oB "first_of_window" 572 164 3 287 578)::(nat_lit 293,oG (top 34) "first_of_window" "daysgate.sums" 537 292)::(nat_lit 299,oB "count_among" 581 168 3 294 587)::(nat_lit 300,oG (top 35) "count_among" "daysgate.sums" 537 299)::(nat_lit 306,oB "turns_of" 590 170 2 301 599)::(nat_lit 307,oG (top 36) "turns_of" "daysgate.sums" 537 306)::(nat_lit 313,oB "first_above" 602 177 4 308 612)::(nat_lit 314,oG (top 37) "first_above" "daysgate.sums" 537 313)::(nat_lit 318,oC "first_broken" 615 "first_broken" 616 617 184 2 315 316 .none .none 317 618 619)::(nat_lit 319,oG (top 38) "first_broken" "daysgate.sums" 537 318)::(nat_lit 325,oB "fault_among" 621 194 2 320 631)::(nat_lit 326,oG (top 39) "fault_among" "daysgate.sums" 537 325)::(nat_lit 330,oC "lets" 638 "lets" 639 640 204 2 327 328 .none .none 329 641 642)::(nat_lit 331,oG (top 42) "lets" "daysgate.compare" 634 330)::(nat_lit 335,oC "longer_rows" 644 "longer_rows" 645 646 206 2 332 333 .none .none 334 647 648)::(nat_lit 336,oG (top 43) "longer_rows" "daysgate.compare" 634 335)::(nat_lit 342,oB "parted" 650 211 4 337 662)::(nat_lit 343,oG (top 44) "parted" "daysgate.compare" 634 342)::(nat_lit 349,oB "are_rules" 671 228 1 344 676)::(nat_lit 350,oG (top 48) "are_rules" "daysgate.books" 665 349)::(nat_lit 356,oB "is_paper" 679 235 2 351 684)::(nat_lit 357,oG (top 49) "is_paper" "daysgate.books" 665 356)::(nat_lit 363,oB "check_papers" 687 239 2 358 694)::(nat_lit 364,oG (top 50) "check_papers" "daysgate.books" 665 363)::(nat_lit 377,oC "__init__" 709 "Book.__init__" 710 711 249 3 372 373 (.ref 374) (.ref 375) 376 715 716)::(nat_lit 378,oFn none (mem 51 0) "__init__" "Book.__init__" .none .none .none (.str "daysgate.books" 665) none (.ref 377) .none)::(nat_lit 384,oC "rules" 718 "Book.rules" 719 720 256 1 379 380 (.ref 381) (.ref 382) 383 722 723)::(nat_lit 385,oFn none (mem 51 1) "rules" "Book.rules" .none .none .none (.str "daysgate.books" 665) none (.ref 384) .none)::(nat_lit 391,oC "papers" 725 "Book.papers" 726 727 259 1 386 387 (.ref 388) (.ref 389) 390 729 730)::(nat_lit 392,oFn none (mem 51 2) "papers" "Book.papers" .none .none .none (.str "daysgate.books" 665) none (.ref 391) .none)::(nat_lit 396,oC "lifted" 732 "Book.lifted" 733 734 262 2 393 394 .none .none 395 735 736)::(nat_lit 397,oFn none (mem 51 3) "lifted" "Book.lifted" .none .none .none (.str "daysgate.books" 665) none (.ref 396) .none)::(nat_lit 399,⟨(.type "dict"),none,.dict #[dE P "__module__" 704 (.str "daysgate.books" 665),dE P "__firstlineno__" 708 (.int (247) 707),dE P "__init__" 717 (.ref 378),dE P "rules" 724 (.ref 385),dE P "papers" 731 (.ref 392),dE P "lifted" 737 (.ref 397),dE P "__static_attributes__" 740 (.ref 398),dE P "__dict__" 742 (.ref 401),dE P "__weakref__" 744 (.ref 402),dE P "__doc__" 745 .none] 4,#[]⟩)::(nat_lit 400,⟨(.type "type"),none,.cls ⟨"Book",[(.type "object")],[(.ref 400),(.type "object")],399,"Book",true,[],[],false,none,false⟩,#[none,none,some (.str "Book" 697),some (.str "Book" 705),some (.builtin "object.__new__"),some (.bool true)]⟩)::(nat_lit 401,⟨(.type "getset_descriptor"),none,.fields #[(.str "__dict__" 741),(.ref 400),(.builtin "function.__dict__"),(.builtin "function.__dict__#set")],#[]⟩)::(nat_lit 402,⟨(.type "getset_descriptor"),none,.fields #[(.str "__weakref__" 743),(.ref 400),(.builtin "ExceptionGroup.__weakref__"),.none],#[]⟩)::(nat_lit 410,oB "_law_at" 750 265 2 405 755)::(nat_lit 411,oG (top 53) "_law_at" "law_daysgate_k71_whole_books_parted" 748 410)::(nat_lit 417,oB "_law_word" 758 269 1 412 766)::(nat_lit 418,oG (top 54) "_law_word" "law_daysgate_k71_whole_books_parted" 748 417)::(nat_lit 422,oC "_law_names" 769 "_law_names" 770 771 278 2 419 420 .none .none 421 772 773)::(nat_lit 423,oG (top 55) "_law_names" "law_daysgate_k71_whole_books_parted" 748 422)::(nat_lit 429,oB "_law_small" 775 282 2 424 782)::(nat_lit 430,oG (top 56) "_law_small" "law_daysgate_k71_whole_books_parted" 748 429)::(nat_lit 436,oB "_law_rule" 785 288 1 431 789)::(nat_lit 437,oG (top 57) "_law_rule" "law_daysgate_k71_whole_books_parted" 748 436)::(nat_lit 441,oC "_law_counts" 792 "_law_counts" 793 794 294 4 438 439 .none .none 440 795 796)::(nat_lit 442,oG (top 58) "_law_counts" "law_daysgate_k71_whole_books_parted" 748 441)::(nat_lit 448,oB "_law_keeps" 798 302 2 443 806)::(nat_lit 449,oG (top 59) "_law_keeps" "law_daysgate_k71_whole_books_parted" 748 448)::(nat_lit 453,oC "_law_lets" 809 "_law_lets" 810 811 314 2 450 451 .none .none 452 812 813)::(nat_lit 454,oG (top 60) "_law_lets" "law_daysgate_k71_whole_books_parted" 748 453)::(nat_lit 458,oC "_law_longer" 815 "_law_longer" 816 817 317 2 455 456 .none .none 457 818 819)::(nat_lit 459,oG (top 61) "_law_longer" "law_daysgate_k71_whole_books_parted" 748 458)::(nat_lit 465,oB "_law_parted" 821 322 4 460 831)::(nat_lit 466,oG (top 62) "_law_parted" "law_daysgate_k71_whole_books_parted" 748 465)::(nat_lit 470,oC "_law_world" 834 "_law_world" 835 836 330 4 467 468 .none .none 469 837 838)::(nat_lit 471,oG (top 63) "_law_world" "law_daysgate_k71_whole_books_parted" 748 470)::(nat_lit 475,oC "_law_book" 840 "_law_book" 841 842 340 1 472 473 .none .none 474 843 844)::(nat_lit 476,oG (top 64) "_law_book" "law_daysgate_k71_whole_books_parted" 748 475)::(nat_lit 482,oB "law" 846 342 1 477 859)::(nat_lit 483,oG (top 65) "law" "law_daysgate_k71_whole_books_parted" 748 482)::[]
def HKe(P:Params):Has=(HK P).map (·.1):=(4:)
def qnb(p q:Program)(rc:Shared->Bool)(w:World)(H0:Heap)(s0:SharedT):=(YU treeTable p w 11 (some (.ref 6)) 8080 s0 (topStub p)).map (λs=>qjZ p q [] (λs=>xlAt q [] s&&rc s) (λs=>Has.map s.heap.get?) true H0 s.abs)
def Hlk(w:World)(H0:Heap)(s0:SharedT):=qnb HP Hq (recOk (RowW.records PySem.Challenge.rw_daysgate_k71_whole_books_parted.row.toRowW)) w H0 s0
def qnc(q:Program):=openGood q []
def Hgd:=qnc Hq
def qfq:qnb=qnb:=rfl
def qfr:qnc=qnc:=rfl
end K71
lay_quick K71.qnb K71.qnc
name_quick hlkQ for K71.qnb by K71.qfq
name_quick hgdQ for K71.qnc by K71.qfr
namespace K71
open PySem PySem.W HD DG
def qnd(w:World)(os:OsState):Hlk w (boot_heap w.params) (qjY w.params os)=some (true,Hgd,(HK w.params).map λp=>some p.2):=by
 unfold Hlk Hgd;rw[PySem.W.Fast.hlkQ_eq,PySem.W.Fast.hgdQ_eq]
 kernel_rfl
def qoQ:LeftO HP Hq [] Hx (λs=>Has.map s.heap.get?) (λw=>(HK w.params).map λp=>some p.2) 8080 true:=
 qj0 (boot_open (4:) (2:) (λ_=>(4:))) qfp qnd
end K71
namespace DG
open PySem PySem.Spec PyProof.Rows L2 DE
def qj1(b:Bool)(l:List D):aA b l=aL b l:=by cases b<;>rfl
def qbo{pg:Pg}[CH pg][RU pg][BO pg](j:Nat):Ck pg (j+5) where
 lands:=λb l h=>by rw[qj1];exact qa8 (j+1) b l h
 rules:=λb l h=>by rw[qj1];exact qa9 (j+4) b l h
 papers:=λb ps n h=>by rw[qj1];exact Y0 j b ps n h
 btw:=λn a b h=>qmD (j+3) n a b h
def kap(cW cS cI cB:Addr):KC:=λc=>if c = "Within" then some cW else if c = "Since" then some cS else if c = "InRow" then some cI else if c = "Book" then some cB else none
def qne{cW cS cI cB C:Addr}{c:Str}(h:kap cW cS cI cB c=some C):(c = "Within"/\C=cW)\/(c = "Since"/\C=cS)\/(c = "InRow"/\C=cI)\/(c = "Book"/\C=cB):=by
 unfold kap at h
 split at h
 ·cases h;exact .inl ⟨‹_›,rfl⟩
 split at h
 ·cases h;exact .inr (.inl ⟨‹_›,rfl⟩)
 split at h
 ·cases h;exact .inr (.inr (.inl ⟨‹_›,rfl⟩))
 split at h
 ·cases h;exact .inr (.inr (.inr ⟨‹_›,rfl⟩))
 cases h
def qda{c:Str}(h:rk c=true):c = "Within"\/c = "Since"\/c = "InRow":=by
 unfold rk at h
 simpa [or_assoc] using h
def qnf{c x:Str}(h:(pcs {}).fld c x=true):(rk c=true/\(x = "lands"\/x = "most"))\/(c = "Within"/\x = "span")\/((c = "Since"\/c = "InRow")/\x = "leave")\/(c = "Book"/\(x = "kept_rules"\/x = "kept_papers")):=by
 have h:((rk c&&(x == "lands" || x == "most" || (x == "span" && c == "Within")||(x == "leave" && c != "Within")))||(c == "Book" && (x == "kept_rules" || x == "kept_papers")))=true:=h;simp![Bool.or_eq_true,Bool.and_eq_true,beq_iff_eq,bne_iff_ne]at h;rcases h with ⟨h1,((h2|h2)|h2)|h2⟩|h2
 ·exact .inl ⟨h1,.inl h2⟩
 ·exact .inl ⟨h1,.inr h2⟩
 ·exact .inr (.inl ⟨h2.2,h2.1⟩)
 ·refine .inr (.inr (.inl ⟨?_,h2.1⟩));rcases qda h1 with q|q
  ·exact absurd q h2.2
  ·exact q
 ·exact .inr (.inr (.inr h2))
def qoR{c x f:Str}(h:(pcs {}).mt c x=some f):(rk c=true/\x = "weight"/\f = "Rule.weight")\/(c = "Book"/\x = "rules"/\f = "Book.rules")\/(c = "Book"/\x = "lifted"/\f = "Book.lifted")\/(c = "Book"/\x = "papers"/\f = "Book.papers"):=by
 have h:(if (rk c&&x == "weight")=true then some ("Rule.weight" : Str) else if (c == "Book" && x == "rules")=true then some ("Book.rules" : Str) else if (c == "Book" && x == "lifted")=true then some ("Book.lifted" : Str) else if (c == "Book" && x == "papers")=true then some ("Book.papers" : Str) else none)=some f:=h
 split at h
 ·rename_i q;simp![Bool.and_eq_true,beq_iff_eq]at q;cases h;exact .inl ⟨q.1,q.2,rfl⟩
 split at h
 ·rename_i q;simp![Bool.and_eq_true,beq_iff_eq]at q;cases h;exact .inr (.inl ⟨q.1,q.2,rfl⟩)
 split at h
 ·rename_i q;simp![Bool.and_eq_true,beq_iff_eq]at q;cases h;exact .inr (.inr (.inl ⟨q.1,q.2,rfl⟩))
 split at h
 ·rename_i q;simp![Bool.and_eq_true,beq_iff_eq]at q;cases h;exact .inr (.inr (.inr ⟨q.1,q.2,rfl⟩))
 cases h
def qng{c t:Str}{b:Bool}(h:(pcs {}).sub c t=some b):rk c=true/\((t = "Within"/\b=(c == "Within"))\/(t = "Since"/\b=(c != "Within"))):=by
 have h:(if (rk c&&t == "Within")=true then some (c == "Within") else if (rk c&&t == "Since")=true then some (c != "Within") else none)=some b:=h
 split at h
 ·rename_i q;simp![Bool.and_eq_true,beq_iff_eq]at q;cases h;exact{q.1,.inl ⟨q.2,rfl⟩}
 split at h
 ·rename_i q;simp![Bool.and_eq_true,beq_iff_eq]at q;cases h;exact{q.1,.inr ⟨q.2,rfl⟩}
 cases h
theorem Zl{c:Str}{o:Option (List (Str×D))}{r:Rv}(h:qcX c o=.ok r):∃fs,o=some fs/\r=.val (.ins c (fs.map (·.1)) (fs.map (·.2))):=by
 cases o with
 |none=>cases h
 |some fs=>cases h;exact⟨fs,rfl,rfl⟩
def qaI(b:Bool)(l l':List D):aA b l≠.scr l':=by cases b<;>(intro z;cases z)
def qqd{j:Nat}{args:List Ar}{r:Rv}(h:pnw (j+12) "Within" args=.ok r):(∀a∈args,∀l,a≠.scr l)/\∃fs,j7 "span" args=some fs/\r=.val (.ins "Within" (fs.map (·.1)) (fs.map (·.2))):=by
 have h:(if j+12 < 12 then R.no else qcX "Within" (j7 "span" args))=.ok r:=h;rw[if_neg (1:)]at h;let(fs,e,er):=Zl h;let(b,l,m,s,rfl,_):=Jl e;refine{λa ha=>?_,fs,e,er};simp![List.mem_cons,List.not_mem_nil,or_false]at ha;rcases ha with rfl|rfl|rfl
 ·exactλl'=>qaI b l l'
 ·exactλl' z=>by cases z
 ·exactλl' z=>by cases z
def qqe{j:Nat}{args:List Ar}{r:Rv}(h:pnw (j+12) "Since" args=.ok r):(∀a∈args,∀l,a≠.scr l)/\∃fs,j7 "leave" args=some fs/\r=.val (.ins "Since" (fs.map (·.1)) (fs.map (·.2))):=by
 have h:(if j+12 < 12 then R.no else qcX "Since" (j7 "leave" args))=.ok r:=h;rw[if_neg (1:)]at h;let(fs,e,er):=Zl h;let(b,l,m,s,rfl,_):=Jl e;refine{λa ha=>?_,fs,e,er};simp![List.mem_cons,List.not_mem_nil,or_false]at ha;rcases ha with rfl|rfl|rfl
 ·exactλl'=>qaI b l l'
 ·exactλl' z=>by cases z
 ·exactλl' z=>by cases z
def qqf{j:Nat}{args:List Ar}{r:Rv}(h:pnw (j+12) "InRow" args=.ok r):(∀a∈args,∀l,a≠.scr l)/\∃fs,qcW args=some fs/\r=.val (.ins "InRow" (fs.map (·.1)) (fs.map (·.2))):=by
 have h:(if j+12 < 12 then R.no else qcX "InRow" (qcW args))=.ok r:=h;rw[if_neg (1:)]at h;let(fs,e,er):=Zl h;let(b,l,m,rfl,_):=Zj e;refine{λa ha=>?_,fs,e,er};simp![List.mem_cons,List.not_mem_nil,or_false]at ha;rcases ha with rfl|rfl
 ·exactλl'=>qaI b l l'
 ·exactλl' z=>by cases z
def qqg{j:Nat}{args:List Ar}{r:Rv}(h:pnw (j+12) "Book" args=.ok r):(∀a∈args,∀l,a≠.scr l)/\∃fs,Qb args=some fs/\r=.val (.ins "Book" (fs.map (·.1)) (fs.map (·.2))):=by
 have h:(if j+12 < 12 then R.no else qcX "Book" (Qb args))=.ok r:=h;rw[if_neg (1:)]at h;let(fs,e,er):=Zl h;let(b,c,l,ps,rfl,_):=YT e;refine{λa ha=>?_,fs,e,er};simp![List.mem_cons,List.not_mem_nil,or_false]at ha;rcases ha with rfl|rfl
 ·exactλl'=>qaI b l l'
 ·exactλl'=>qaI c ps l'
structure Kl(K:Frag)(C:Addr):Prop where
 cls:Cls K C
 tc:PySem.W.findIn K (.ref C) "__class__" = some (some (.builtin "object.__class__"))
 mo:PySem.W.mroIn K C (.type "object")=some true
structure Kr(K:Frag)(fw C cW cS:Addr)(x:Str)(b:Bool):Prop where
 kl:Kl K C
 la:ze K C "lands"
 mo:ze K C "most"
 fx:ze K C x
 wt:Meth K C "weight" fw
 iw:PySem.W.kitOne K (.ref C) (.ref cW)=some b
 is:PySem.W.kitOne K (.ref C) (.ref cS)=some (!b)
structure Kb(K:Frag)(fr fl fp C:Addr):Prop where
 kl:Kl K C
 a1:ze K C "kept_rules"
 a2:ze K C "kept_papers"
 m1:Meth K C "rules" fr
 m2:Meth K C "lifted" fl
 m3:Meth K C "papers" fp
section
variable{K:Frag}{mg:PR}{cW cS cI cB fw fr fl fp:Addr}(W:Kr K fw cW cW cS "span" true)(S:Kr K fw cS cW cS "leave" false)(I:Kr K fw cI cW cS "leave" false)(B:Kb K fr fl fp cB)
include W S I B
theorem qhU(c:Str)(C:Addr)(h:kap cW cS cI cB c=some C):Cls K C:=by
 rcases qne h with ⟨_,rfl⟩|⟨_,rfl⟩|⟨_,rfl⟩|⟨_,rfl⟩
 ·exact W.kl.cls
 ·exact S.kl.cls
 ·exact I.kl.cls
 ·exact B.kl.cls
theorem qfs(c x:Str)(C:Addr)(hf:(pcs {}).fld c x=true)(h:kap cW cS cI cB c=some C):ze K C x:=by
 rcases qnf hf with ⟨hr,rfl|rfl⟩|⟨rfl,rfl⟩|⟨rfl|rfl,rfl⟩|⟨rfl,rfl|rfl⟩
 ·rcases qda hr with rfl|rfl|rfl
  ·cases h;exact W.la
  ·cases h;exact S.la
  ·cases h;exact I.la
 ·rcases qda hr with rfl|rfl|rfl
  ·cases h;exact W.mo
  ·cases h;exact S.mo
  ·cases h;exact I.mo
 ·cases h;exact W.fx
 ·cases h;exact S.fx
 ·cases h;exact I.fx
 ·cases h;exact B.a1
 ·cases h;exact B.a2
theorem qdb{C:Addr}(k:Kl K C)(n:PySem.W.specialIn K (.builtin "object.__class__") "__get__" = some (some (.builtin "getset_descriptor.__get__")))(tk:PySem.W.takesIn K (.builtin "object.__class__")=some true) :
  ∀(H:Hp) (p dx:Addr) (fs:List (Str×V)),H p=some (L2.HO.ins C dx fs)->TyOf K H (.ref p) (.ref C):=λH p dx fs hp=>.ins hp k.cls k.tc n tk k.mo
theorem qj2(n:PySem.W.specialIn K (.builtin "object.__class__") "__get__" = some (some (.builtin "getset_descriptor.__get__")))(tk:PySem.W.takesIn K (.builtin "object.__class__")=some true)(mW:mg "Within" = some (.ref cW))(mS:mg "Since" = some (.ref cS))
  (c t:Str) (b:Bool) (h:(pcs {}).sub c t=some b):∃C T,kap cW cS cI cB c=some C/\(∀H p dx fs,H p=some (L2.HO.ins C dx fs)->TyOf K H (.ref p) (.ref C))/\mg t=some (.ref T)/\PySem.W.kitOne K (.ref C) (.ref T)=some b:=by
 obtain⟨hr,⟨rfl,rfl⟩|⟨rfl,rfl⟩⟩:=qng h
 ·rcases qda hr with rfl|rfl|rfl
  ·exact{cW,cW,rfl,qdb W S I B W.kl n tk,mW,W.iw}
  ·exact{cS,cW,rfl,qdb W S I B S.kl n tk,mW,S.iw}
  ·exact{cI,cW,rfl,qdb W S I B I.kl n tk,mW,I.iw}
 ·rcases qda hr with rfl|rfl|rfl
  ·exact{cW,cS,rfl,qdb W S I B W.kl n tk,mS,W.is}
  ·exact{cS,cS,rfl,qdb W S I B S.kl n tk,mS,S.is}
  ·exact{cI,cS,rfl,qdb W S I B I.kl n tk,mS,I.is}
end
def Zn(K:Frag)(f:Addr)(n q:Str)(st:Stmt):Prop:=∃oc od kV dc pm an cd ct sl,K.lookup f=some ⟨oc,od,.func (PySem.W.fnOf n q (zj st) (qz st) (qi st) .none kV dc pm an cd ct),sl⟩/\PySem.W.codeIn K cd q=true/\PySem.W.keepIn K (.ref f)=true
noncomputable abbrev FG(K:Frag)(f:Addr)(n:Str)(st:Stmt):Prop:=PySem.W.nsIn K mainGlobals n=some (some (.ref f))/\Zn K f n n st
section
variable{K:Frag}{f:Addr}{n q:Str}{st:Stmt}{mg:PR}{h:Heap}
def Zn.fn(i:Zn K f n q st):∃fd,Fun K n q st f fd:=by let(oc,od,kV,dc,pm,an,cd,ct,sl,l,c,k):=i;exact{_,qg7 l c k}
def Bd(n q:Str)(st:Stmt)(ps:List Str):Prop:=∀(kV doc pm:Value) (an:Option Addr) (cdv ct:Value) (us:List Value),us.length=ps.length->bindArgs (PySem.W.fnOf n q (zj st) (qz st) (qi st) .none kV doc pm an cdv ct) ⟨us,[]⟩=pure (ps.zip us)
def qnh(X:K.In h)(G:h.Ns mainGlobals mg)(a:PySem.W.nsIn K mainGlobals n=some (some (.ref f)))(i:Zn K f n n st){ps:List Str}(hp:Jo st=ps)(hb:Bd n n st ps):FnF K mg n st:=by let(fd,F):=i.fn;exact{f,fd,F,PySem.W.mg_of X G a,hp▸F.binds hb}
def Jm(i:Zn K f n q st){ps:List Str}(hb:Bd n q st ps):∃fd,Fun K n q st f fd/\qX K fd ps []:=by let(fd,F):=i.fn;exact{fd,F,F.binds hb}
def qni(i:Zn K f n n st)(hb:Bd n n st ["_law_script"]):∃fd,Fun K n n st f fd/\∀(s:Shared) (v:Value),BindsTo s fd ⟨[v],[]⟩ [("_law_script",v)]:=by let(oc,od,kV,dc,pm,an,cd,ct,sl,l,c,k):=i;exact{_,qg7 l c k,λs v=>.of_eq (hb _ _ _ _ _ _ [v] rfl)}
end
section
variable{n q:Str}{st:Stmt}{a b c d e:Str}
def bd1(h:∀(kV doc pm:Value) (an:Option Addr) (cdv ct x:Value),bindArgs (PySem.W.fnOf n q (zj st) (qz st) (qi st) .none kV doc pm an cdv ct) ⟨[x],[]⟩=pure [(a,x)]):Bd n q st [a]:=λ_ _ _ _ _ _ us hl=>match us,hl with |[_],_=>h ..
def bd2(h:∀(kV doc pm:Value) (an:Option Addr) (cdv ct x y:Value),bindArgs (PySem.W.fnOf n q (zj st) (qz st) (qi st) .none kV doc pm an cdv ct) ⟨[x,y],[]⟩=pure [(a,x),(b,y)]):Bd n q st [a,b]:=λ_ _ _ _ _ _ us hl=>match us,hl with |[_,_],_=>h ..
def bd3(h:∀(kV doc pm:Value) (an:Option Addr) (cdv ct x y z:Value),bindArgs (PySem.W.fnOf n q (zj st) (qz st) (qi st) .none kV doc pm an cdv ct) ⟨[x,y,z],[]⟩=pure [(a,x),(b,y),(c,z)]):Bd n q st [a,b,c]:=λ_ _ _ _ _ _ us hl=>match us,hl with |[_,_,_],_=>h ..
def bd4(h:∀(kV doc pm:Value) (an:Option Addr) (cdv ct x y z u:Value),bindArgs (PySem.W.fnOf n q (zj st) (qz st) (qi st) .none kV doc pm an cdv ct) ⟨[x,y,z,u],[]⟩=pure [(a,x),(b,y),(c,z),(d,u)]):Bd n q st [a,b,c,d]:=λ_ _ _ _ _ _ us hl=>match us,hl with |[_,_,_,_],_=>h ..
end
inductive BDs:List (Str×Stmt)->Prop
 | nil:BDs []
 | cons {n st l ps}:Jo st=ps->Bd n n st ps->BDs l->BDs ((n,st)::l)
inductive FGs(K:Frag):List (Str×Stmt)->Prop
 | nil:FGs K []
 | cons {f n st l}:FG K f n st->FGs K l->FGs K ((n,st)::l)
inductive ZNs(K:Frag):List Str->Prop
 | nil:ZNs K []
 | cons {n l}:PySem.W.nsIn K mainGlobals n=some none->ZNs K l->ZNs K (n::l)
section
variable{K:Frag}{mg:PR}{h:Heap}
theorem FGs.all(X:K.In h)(G:h.Ns mainGlobals mg){l:List (Str×Stmt)}(a:FGs K l)(p:BDs l):AllF K mg l:=by
 induction a with
 |nil=>exact .nil
 |cons i _ ih=>
  cases p with
  |cons e b p=>exact .cons (qnh X G i.1 i.2 e b) (ih p)
theorem ZNs.all(X:K.In h)(G:h.Ns mainGlobals mg){l:List Str}(a:ZNs K l):∀f∈l,mg f=none:=by
 induction a with
 |nil=>exact nofun
 |cons i _ ih=>
  intro f hf;rcases List.mem_cons.mp hf with rfl|hf
  ·exact PySem.W.mg_none_of X G i
  ·exact ih f hf
end
end DG
namespace K71
open PySem PySem.W L2 DE DG
def qnj{l:OpenLaw}{w:World}{K:Frag}{h:Heap}{mg:PR}{fa cR cW cS cI cB f39 fiR fiW fiS fiI fiB fmw fmr fmp fml:Addr}{t0 t1 t2 t3 t4 t5 t6 t7:Tok}(X:K.In h)(G:h.Ns mainGlobals mg)(hfa:mg "law" = some (.ref fa))
  (aL:FG K f39 "law" (top 65))
  (a:FGs K pg.defs)
  (z:ZNs K qeb)
  (v0:nsIn K mainGlobals "GREATEST" = some (some (.int 1000000000 t0)))
  (v1:nsIn K mainGlobals "LETTERS" = some (some (.str "abcdefghijklmnopqrstuvwxyz" t1)))
  (v2:nsIn K mainGlobals "LONGEST_NAME" = some (some (.int 8 t2)))
  (v3:nsIn K mainGlobals "MOST_LANDS" = some (some (.int 6 t3)))
  (v4:nsIn K mainGlobals "GREATEST_WEIGHT" = some (some (.int 9 t4)))
  (v5:nsIn K mainGlobals "MOST_NAMES" = some (some (.int 2 t5)))
  (v6:nsIn K mainGlobals "MOST_RULES" = some (some (.int 8 t6)))
  (v7:nsIn K mainGlobals "MOST_PAPERS" = some (some (.int 12 t7)))
  (ncR:nsIn K mainGlobals "Rule" = some (some (.ref cR)))
  (ncW:nsIn K mainGlobals "Within" = some (some (.ref cW)))
  (ncS:nsIn K mainGlobals "Since" = some (some (.ref cS)))
  (ncI:nsIn K mainGlobals "InRow" = some (some (.ref cI)))
  (ncB:nsIn K mainGlobals "Book" = some (some (.ref cB)))
  (inR:findIn K (.ref cR) "__init__" = some (some (.ref fiR)))
  (inW:findIn K (.ref cW) "__init__" = some (some (.ref fiW)))
  (inS:findIn K (.ref cS) "__init__" = some (some (.ref fiS)))
  (inI:findIn K (.ref cI) "__init__" = some (some (.ref fiI)))
  (inB:findIn K (.ref cB) "__init__" = some (some (.ref fiB)))
  (tmr:findIn K (.ref cB) "rules" = some (some (.ref fmr)))
  (tml:findIn K (.ref cB) "lifted" = some (some (.ref fml)))
  (tmp:findIn K (.ref cB) "papers" = some (some (.ref fmp)))
  (tw:findIn K (.ref cW) "weight" = some (some (.ref fmw)))
  (rW:Kr K fmw cW cW cS "span" true)
  (rS:Kr K fmw cS cW cS "leave" false)
  (rI:Kr K fmw cI cW cS "leave" false)
  (rB:Kb K fmr fml fmp cB)
  (hiR:Zn K fiR "__init__" "Rule.__init__" (mem 26 0))
  (hiW:Zn K fiW "__init__" "Within.__init__" (mem 27 0))
  (niW:isFn K (.ref fiW)=true)
  (hiS:Zn K fiS "__init__" "Since.__init__" (mem 28 0))
  (niS:isFn K (.ref fiS)=true)
  (hiI:Zn K fiI "__init__" "InRow.__init__" (mem 29 0))
  (niI:isFn K (.ref fiI)=true)
  (hiB:Zn K fiB "__init__" "Book.__init__" (mem 51 0))
  (niB:isFn K (.ref fiB)=true)
  (hmw:Zn K fmw "weight" "Rule.weight" (mem 26 1))
  (hmr:Zn K fmr "rules" "Book.rules" (mem 51 1))
  (hmp:Zn K fmp "papers" "Book.papers" (mem 51 2))
  (hml:Zn K fml "lifted" "Book.lifted" (mem 51 3))
  (mkW:makesIn K cW=true)
  (kcW:keepIn K (.ref cW)=true)
  (mkS:makesIn K cS=true)
  (kcS:keepIn K (.ref cS)=true)
  (mkI:makesIn K cI=true)
  (kcI:keepIn K (.ref cI)=true)
  (mkB:makesIn K cB=true)
  (kcB:keepIn K (.ref cB)=true)
  (cfR:ClsFn K cR "__init__" fiR)
  (cfS:ClsFn K cS "__init__" fiS)
  (og:specialIn K (.builtin "object.__class__") "__get__" = some (some (.builtin "getset_descriptor.__get__")))
  (ot:takesIn K (.builtin "object.__class__")=some true)
  :
  ∃fd:FuncData,(∀(s:Shared) (v:Value),BindsTo s fd ⟨[v],[]⟩ [("_law_script",v)])/\∀base:Heap,K.In base->base.Ns mainGlobals mg->FnOk l.prog w K mg base CX0 20 fa fd ["_law_script"] (spF (kap cW cS cI cB) K (clK pg 20) "law"):=by
 have e:=hfa.symm.trans (mg_of X G aL.1);cases e;let(dL,FL,bL):=qni aL.2 ((bd1 λ_ _ _ _ _ _ _ =>rfl));have z:=z.all X G;let(diR,FiR,biR):=Jm hiR (ps:=["self","lands","most"]) ((bd3 λ_ _ _ _ _ _ _ _ _ =>rfl));let(diW,FiW,biW):=Jm hiW (ps:=["self","lands","most","span"]) ((bd4 λ_ _ _ _ _ _ _ _ _ _ =>rfl));let(diS,FiS,biS):=Jm hiS (ps:=["self","lands","most","leave"]) ((bd4 λ_ _ _ _ _ _ _ _ _ _ =>rfl));let(diI,FiI,biI):=Jm hiI (ps:=["self","lands","most"]) ((bd3 λ_ _ _ _ _ _ _ _ _ =>rfl));let(diB,FiB,biB):=Jm hiB (ps:=["self","rules","papers"]) ((bd3 λ_ _ _ _ _ _ _ _ _ =>rfl));let(dmw,Fmw,bmw):=Jm hmw (ps:=["self","land"]) ((bd2 λ_ _ _ _ _ _ _ _ =>rfl));let(dmr,Fmr,bmr):=Jm hmr (ps:=["self"]) ((bd1 λ_ _ _ _ _ _ _ =>rfl));let(dmp,Fmp,bmp):=Jm hmp (ps:=["self"]) ((bd1 λ_ _ _ _ _ _ _ =>rfl));let(dml,Fml,bml):=Jm hml (ps:=["self","number"]) ((bd2 λ_ _ _ _ _ _ _ _ =>rfl));have mcR:=mg_of X G ncR;have mcW:=mg_of X G ncW;have mcS:=mg_of X G ncS;have mcI:=mg_of X G ncI;have mcB:=mg_of X G ncB;have tx:Tx (kap cW cS cI cB) K mg:={z "tuple" (3:),z "list" (3:),z "len" (3:),{_,mg_of X G v0},qhU rW rS rI rB,qfs rW rS rI rB};refine{dL,bL,λbase _ _=>qlZ (k:=19) (st:=top 65) ?ok FL (4:) (4:)}
 case ok=>
 refine { fn:=a.all X G ?q,blt:=z,gl:=?g,cls:=qhU rW rS rI rB,flds:=qfs rW rS rI rB,mts:=?m,mks:=?k,subs:=qj2 rW rS rI rB og ot mcW mcS }
 case q=>repeat first|exact .nil |refine .cons (4:) (bd2 λ_ _ _ _ _ _ _ _ =>rfl) ?_ |refine .cons (4:) (bd3 λ_ _ _ _ _ _ _ _ _ =>rfl) ?_ |refine .cons (4:) (bd1 λ_ _ _ _ _ _ _ =>rfl) ?_ |refine .cons (4:) (bd4 λ_ _ _ _ _ _ _ _ _ _ =>rfl) ?_ |refine .cons (4:) (bd5 λ_ _ _ _ _ _ _ _ _ _ _ =>rfl) ?_ |refine .cons (4:) (bd6 λ_ _ _ _ _ _ _ _ _ _ _ _ =>rfl) ?_
 case g=>
  intro x d hd;unfold pg at hd;dsimp only at hd
  repeat (split at hd;· rename_i hx;cases hd;rw[hx];first |exact{.int _,_,mg_of X G (by assumption),{_,rfl},λ_=>by simp![Rep]} |exact{.str _,_,mg_of X G (by assumption),{_,rfl},λ_=>by simp![Rep]})
  cases hd
 case m=>
  intro c x f hm;rcases qoR hm with ⟨hr,rfl,rfl⟩|⟨rfl,rfl,rfl⟩|⟨rfl,rfl,rfl⟩|⟨rfl,rfl,rfl⟩
  ·rcases qda hr with rfl|rfl|rfl
   ·exact{cW,fmw,_,mem 26 1,"weight",rfl,rW.wt,(4:),(4:),Fmw,bmw}
   ·exact{cS,fmw,_,mem 26 1,"weight",rfl,rS.wt,(4:),(4:),Fmw,bmw}
   ·exact{cI,fmw,_,mem 26 1,"weight",rfl,rI.wt,(4:),(4:),Fmw,bmw}
  ·exact{cB,fmr,_,mem 51 1,"rules",rfl,rB.m1,(4:),(4:),Fmr,bmr}
  ·exact{cB,fml,_,mem 51 3,"lifted",rfl,rB.m2,(4:),(4:),Fml,bml}
  ·exact{cB,fmp,_,mem 51 2,"papers",rfl,rB.m3,(4:),(4:),Fmp,bmp}
 case k=>
  intro P wd base k ih f hf
  by_cases hk:k < 12
  ·exact .inl λargs=>if_pos hk
  let(j,rfl):∃j,k=j+12:={k - 12,by omega};right
  have hf:f = "Within"\/f = "Since"\/f = "InRow"\/f = "Book":=by
   have hf:((["Within","Since","InRow","Book"]:List Str).contains f)=true:=hf
   simpa using hf
  rcases hf with rfl|rfl|rfl|rfl
  ·exact{cW,fiW,_,_,_,⟨mkW,inW,niW,kcW⟩,(Zk (j:=j+9) tx FiR biR mcR cfR (ih (j+9) (by omega)) (ih (j+10) (by omega)) (qbo (j+4)) (qbo (j+5))).1 FiW,mcW,biW,by omega,Zi (c:="Within") rfl rfl λargs r=>qqd (j:=j)}
  ·exact{cS,fiS,_,_,_,⟨mkS,inS,niS,kcS⟩,(Zk (j:=j+9) tx FiR biR mcR cfR (ih (j+9) (by omega)) (ih (j+10) (by omega)) (qbo (j+4)) (qbo (j+5))).2 FiS,mcS,biS,by omega,Zi (c:="Since") rfl rfl λargs r=>qqe (j:=j)}
  ·exact{cI,fiI,_,_,_,⟨mkI,inI,niI,kcI⟩,qfn (j:=j+8) tx FiI FiS biS mcS cfS FiR biR mcR cfR (ih (j+8) (by omega)) (ih (j+9) (by omega)) (qbo (j+3)) (qbo (j+4)),mcI,biI,by omega,Zi (c:="InRow") rfl rfl λargs r=>qqf (j:=j)}
  ·exact{cB,fiB,_,_,_,⟨mkB,inB,niB,kcB⟩,qg3 (j:=j+10) tx FiB (ih (j+10) (by omega)) (qbo (j+5)),mcB,biB,by omega,Zi (c:="Book") rfl rfl λargs r=>qqg (j:=j)}
def qqh{l:PySem.W.OpenLaw}{q:Program}{loose:List Str}{XP:(Str->Option Value)->Heap->Prop}{YP:World->Heap->Prop}{d:DefRec}{K:Params->Frag}{U:KC}(hn:l.most=some 63)(hdf:d.params.defaults=[])
  (hY:∀(w:World) (h:Heap),YP w h->(K w.params).In h)
  (F:∀(w:World) (mg:PR) (fa:Addr) (h:Heap),(K w.params).In h->h.Ns mainGlobals mg->mg d.name=some (.ref fa)->
   ∃fd:FuncData,(∀(s:Shared) (u:Value),BindsTo s fd ⟨[u],[]⟩ [("_law_script",u)])/\∀base:Heap,(K w.params).In base->base.Ns mainGlobals mg->FnOk l.prog w (K w.params) mg base CX0 20 fa fd ["_law_script"] (spF U (K w.params) (clK pg 20) "law")) :
  PySem.W.WalkO q loose XP YP l.row.toRowW d [] (λf vs=>PySem.call f vs):=
 L2.qih (n:=63) (k:=20) (x:="_law_script") (CX:=λ_=>CX0) (sp:=λw=>spF U (K w.params) (clK pg 20) "law") hn (2:) hdf ⟨rfl,by decide,by decide⟩ hY F (λ_ _ a ns hl _ hS=>ql0 hS (qgY ns hl)) λ_ _ _ _ _ z=>z
end K71
open PySem PySem.W PyProof.Rows
set_option maxHeartbeats 0 in
theorem PySem.Challenge.cw_daysgate_k71_whole_books_parted_holds : PySem.Challenge.rw_daysgate_k71_whole_books_parted.Holds := by
 w_on;refine holds_law saidX λsaid=>?_
 refine holds_open (q:=K71.Hq) (loose:=[]) (Xt:=K71.Hx) (XP:=XL K71.Hq []) (Yf:=λs=>K71.Has.map s.heap.get?) (Ya:=λw=>(K71.HK w.params).map λp=>some p.2) (YP:=InK K71.HK) (N:=8080) K71.qoQ (InK.of K71.HKe) InK.keeps (λs e=>xl_of s (Bool.and_eq_true_iff.mp e).1) XL.keeps (by rfl) (by rfl) (by rfl) (λs e=>recFacts_of (Bool.and_eq_true_iff.mp e).2) (by rfl) (by first|assumption|decide+kernel) (3:) ⟨rfl,rfl,rfl,rfl,rfl,(3:)⟩ ?hw ?hc
 (case hw=>w_witness2)
 k_fill
 refine K71.qqh (l:=PySem.Challenge.rw_daysgate_k71_whole_books_parted) (U:=(DG.kap (213:) (239:) (265:) (400:))) rfl rfl (λw h Y=>Y) ?F
 case F=>
  intro w mg fa h KX G hmg
  refine' K71.qnj KX G hmg ?_ ?_ ?_ ?_ ?_ ?_ ?_ ?_ ?_ ?_ ?_ ?_ ?_ ?_ ?_ ?_ ?_ ?_ ?_ ?_ ?_ ?_ ?_ ?_ ?_ ?_ ?_ ?_ ?_ ?_ ?_ ?_ ?_ ?_ ?_ ?_ ?_ ?_ ?_ ?_ ?_ ?_ ?_ ?_ ?_ ?_ ?_ ?_ ?_ ?_ ?_ ?_ ?_ ?_
  all_goals try first|k_is|exact{by k_is,by unfold DG.Zn;exact{_,_,_,_,_,_,_,_,_,by k_is,by k_is,by k_is}}|(unfold DG.Zn;exact{_,_,_,_,_,_,_,_,_,by k_is,by k_is,by k_is})|(refine{{{?_,?_,?_,?_},?_,?_},?_,?_,?_,{?_,?_,?_},?_,?_}<;>first|k_is|kit_is|(unfold L2.ze;k_is))|(refine{{{?_,?_,?_,?_},?_,?_},?_,?_,{?_,?_,?_},{?_,?_,?_},?_,?_,?_}<;>first|k_is|(unfold L2.ze;k_is))|(refine{?_,?_,?_,?_}<;>k_is)|kit_is|(repeat first|exact .nil|refine .cons ⟨by k_is,by unfold DG.Zn;exact{_,_,_,_,_,_,_,_,_,by k_is,by k_is,by k_is}⟩ ?_|refine .cons (by k_is) ?_)
