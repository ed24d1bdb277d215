import PyProof.Rows.All
import Wide.All
import OpenK.AllK
import PySem.Challenge.RW_daysgate_k62_whole_changed_by_great_numb
set_option Elab.async false
set_option linter.all false
set_option maxRecDepth 100000
set_option compiler.extract_closed false
set_option bootstrap.genMatcherCode false
set_option genSizeOf false
set_option genInjectivity false
set_option backward.eqns.nonrecursive false
noncomputable section
abbrev PP:=List (PySem.Addr×PySem.Obj)
abbrev PQ:=PySem.Value->PySem.Shared->Prop
abbrev PR:=PySem.Str->Option PySem.Value
open PySem.W (Frag)
set_option hygiene false
local macro_rules
| `(%[$n:num|0])=>`(.cons (.var $n) .nil)
| `(%[$a|0])=>`(.cons $a .nil)
| `(%[$n:num,$b,*|0])=>`(.cons (.var $n) %[$b,*|0])
| `(%[$a,$b,*|0])=>`(.cons $a %[$b,*|0])
| `(%[$n:num|1])=>`(qo (pg:=pg) (st:=top $n) (4:) λk cl=>(4:))
def saidX:PySem.Challenge.rw_daysgate_k62_whole_changed_by_great_numb.wellSaid=true:=by kernel_rfl
local macro_rules|`(($n:num :))=>`(nat_lit $n)
local macro_rules|`((1:))=>`(by lia)|`((5:))=>`(by simp)|`((-$e :))=>`(by simpa using $e)|`((3:))=>`(by decide+kernel)|`((4:))=>`(by kernel_rfl)|`((2:))=>`(by decide)
local macro_rules|`(tactic| simp?![$ls,*])=>do
  let f (s:String) (k:Lean.Name):=(s.splitOn " ").toArray.map λn=>Lean.mkIdent (k++n.toName)
  let b<-(f "Rv.list? Rv.plain? Rv.data Rv.int? Rv.str? Rv.bl? Rv.tup? int2 seqD Rv.non? idxD sliceD truthD lenD listD intD strD tupD maxD minD B1.go B2.go Ty.of Ty.go toAr toSl flR slN runD th_ok of_some slR_s slR_v slR_o slR_b slR_c slX_s slX_v slX_o ownI_s ownI_o kk_f kk_cs kk_nw at_0 at_1 at_2 ixN_app set_app emp_app xR_var xR_con xR_bin xR_neg xR_not xR_one xR_and xR_cmp xR_ite xR_idx xR_sli xR_lst xR_tup xR_stp xR_call xR_b1 xR_b2 xR_isc xR_fld xR_met xR_new xR_isi xR_comp n_ok n_R n_As yRet yBl yTmp yB1 yB2 yNeg yNot yAnd yC1 yC2 yIf yI1 yI2 yS1 yS2 yS3 yLst yTup yQs1 yQs2 yQs3 yCall yF1 yG1 yG2 yIsc yDat yFld yMt3 yMt2 yMt1 yMtO yNew yIsi yComp xT_not xT_one xT_and xT_or xT_cmp xT_chn xT_val yBo yTn yTa yTo yD1 yD2 yN0 yN1 yN2 yTv xF_yes xF_test xEs_nil xEs_cons yE1 yE2 xAs_nil xAs_cons yA1 yA2 xO_none xO_some yO xI_seq xI_rng xI_rev xI_enum xI_zip ySeq yRng yRev yEnum yZ1 yZ2 yVal yValL yValLt yValLm yX yXt yAv yAx yAxt yCons xE_s xE_v xL_s xL_l xL_z xL_o xL_b oGo_some xS_app yApp yApp2 xS_ext yExt yExt2 xS_ret yRt xS_set ySet xS_setI ySI ySI2 ySI3 ySI4 xS_ite yIte xS_for yFor xS_whl xSs_nil xSs_cons yNext yNextr xFo_cons yFo1 yFo2 yFo2r xWh yWh1 yWh2 xP_cons yP1 yP2 yP3 vc_bin vc_neg vc_and vc_cmp vc_ite vc_idx vc_sli vc_lst vc_tup vc_call vc_b1 vc_b2 vc_fld vc_met vc_new vc_comp eE_g eL_g eX_g eA_g eE_var eE_con eL_var eX_var eX_con eA_var eA_con bAdd bAdds bAddtt bSub bMult bDiv bMod bPow cEq cNe cLt cLe cGt cGe cIn cNi mIn rgoV rgoT setIs_nil setIs_cons g_mapc g_mapn g_lenc g_lenn g_rep0 g_reps g_appc g_appn g_set0 g_sets g_last g_nott g_notf g_omap g_fe g_and g_dt g_df lend_v" `DE++f "Int.reduceLT Int.reduceLE Nat.reduceAdd Nat.reduceSub" .anonymous).mapM λn=>`(Lean.Parser.Tactic.simpLemma| $n:ident)
  let d<-(f "n_var sA_p sA_R sA_L rA_a rA_l rA_s rA_t rA_y" `DE++f "reduceIte" .anonymous).mapM λn=>`(Lean.Parser.Tactic.simpLemma| ↓ $n:ident)
  let c:Array (Lean.TSyntax [`Lean.Parser.Tactic.simpStar, `Lean.Parser.Tactic.simpErase, `Lean.Parser.Tactic.simpLemma]):=(b++d).map (⟨·.raw⟩)++ls.getElems
  `(tactic| simp only[$c,*])
local macro_rules|`({$xs:term,*})=>`(⟨$xs,*⟩)
local macro_rules|`(tactic|simp?[$ls,*])=>`(tactic|(refine(qm _).symm.trans ?_;simp?![$ls,*]))
local macro_rules|`(tactic|simp![$ls,*]$[$l:location]?)=>`(tactic|simp only[$ls,*]$[$l]?)
open Lean Parser.Tactic in
local macro_rules|`(tactic|let$d:letDecl)=>do
 let s:=d.raw[0]
 unless s[0].isOfKind ``Parser.Term.tuple do Macro.throwUnsupported
 let N k (a:Array Syntax):Syntax:=.node .none k a
 let M x:=N ``rcasesPatMed #[mkNullNode #[x]]
 let q:=s[0].rewriteBottomUp λs=>if s.isIdent then N ``rcasesPat.one #[s] else if s.isOfKind ``Parser.Term.hole then N ``rcasesPat.ignore #[mkAtom "_"] else if s.isOfKind ``Parser.Term.tuple then N ``rcasesPat.tuple #[mkAtom "⟨",mkSepArray ((#[s[1][0]]++s[1][2].getSepArgs).map λx=>N ``rcasesPatLo #[M x,mkNullNode]) (mkAtom ",")|>mkNullNode,mkAtom "⟩"] else s
 return N ``obtain #[mkAtom "obtain",mkNullNode #[M q],mkNullNode s[2][0].getArgs,mkNullNode #[mkAtom ":=",mkNullNode #[s[4]]]]
local macro_rules|`(command|$d:definition)=>`(command|noncomputable $d:definition)
namespace L2
open PySem PySem.Spec PyProof.Rows
abbrev Key:=Sum Int Str
def qip:Key->Value->Bool
 |.inl k,v=>Value.isInt k v
 |.inr x,v=>Value.isStrOf x v
def qno(w:World):Key->Int
 |.inl k=>hashInt k
 |.inr x=>hashStr w x
theorem qz:∀{k:Key} {v:Value},qip k v=true->(∃i t,k=Sum.inl i/\v=Value.int i t)\/(∃x t,k=Sum.inr x/\v=Value.str x t)
 |.inl i,v,h=>by let(t,e):=Value.isInt_shape (k:=i) (v:=v) h;exact .inl ⟨i,t,rfl,e⟩
 |.inr x,v,h=>by let(t,e):=Value.isStrOf_shape (x:=x) (v:=v) h;exact .inr ⟨x,t,rfl,e⟩
def qiq(a b:Int):decide ((Sum.inl a:Key)=Sum.inl b)=(a == b):=by
 by_cases e:a=b
 ·subst e;simp
 ·have h:¬ (Sum.inl a:Key)=Sum.inl b:=λq=>e (Sum.inl.inj q);rw[decide_eq_false h];exact(beq_eq_false_iff_ne.mpr e).symm
def qir(a b:Str):decide ((Sum.inr a:Key)=Sum.inr b)=decide (a=b):=by
 by_cases e:a=b
 ·subst e;simp
 ·have h:¬ (Sum.inr a:Key)=Sum.inr b:=λq=>e (Sum.inr.inj q);rw[decide_eq_false h,decide_eq_false e]
def qis(a:Int)(b:Str):decide ((Sum.inl a:Key)=Sum.inr b)=false:=decide_eq_false (λq=>nomatch q)
def qit(a:Str)(b:Int):decide ((Sum.inr a:Key)=Sum.inl b)=false:=decide_eq_false (λq=>nomatch q)
def ZK(prog:Program)(w:World):PySem.KeyKind prog w Key where
 is:=qip
 hash:=qno w
 inj:=λv a b ha hb=>by
  rcases qz ha with ⟨i,t,rfl,rfl⟩|⟨x,t,rfl,rfl⟩
  ·rcases qz hb with ⟨j,u,rfl,e⟩|⟨y,u,rfl,e⟩
   ·injection e with e1 _;rw[e1]
   ·exact nomatch e
  ·rcases qz hb with ⟨j,u,rfl,e⟩|⟨y,u,rfl,e⟩
   ·exact nomatch e
   ·injection e with e1 _;rw[e1]
 byValue:=λk v h=>by rcases qz h with ⟨i,t,rfl,rfl⟩|⟨x,t,rfl,rfl⟩<;>rfl
 pyHash:=λhv h=>by
  rcases qz hv with ⟨i,t,rfl,rfl⟩|⟨x,t,rfl,rfl⟩
  ·exact wpAny_pyHash_int h
  ·exact wpAny_pyHash_str h
 eqBool:=λhu hv h=>by
  rcases qz hu with ⟨i,t,rfl,rfl⟩|⟨x,t,rfl,rfl⟩
  ·rcases qz hv with ⟨j,u,rfl,rfl⟩|⟨y,u,rfl,rfl⟩
   ·rw[qiq]at h;exact wpAny_eqBool_int h
   ·rw[qis]at h;exact SeqAt.EqAt.int_str i t y u _ _ _ _ h
  ·rcases qz hv with ⟨j,u,rfl,rfl⟩|⟨y,u,rfl,rfl⟩
   ·rw[qit]at h;exact SeqAt.EqAt.str_int x t j u _ _ _ _ h
   ·rw[qir]at h;exact wpAny_eqBool_str h
 «strs»:=λk x t v h=>by
  rcases qz h with ⟨i,u,rfl,e⟩|⟨y,u,rfl,e⟩
  ·exact nomatch e
  ·injection e with e1 _;subst e1;cases v<;>rfl
inductive V where
 | non|bl (b:Bool)|int (i:Int)|str (x:Str)|byt (b:Array UInt8)|flt (b:UInt64)|ref (a:Addr)|ty (n:String)
 deriving DecidableEq
def qF:V->Value->Prop
 |.non,u=>u=Value.none
 |.bl b,u=>u=Value.bool b
 |.int i,u=>∃t,u=Value.int i t
 |.str x,u=>∃t,u=Value.str x t
 |.byt b,u=>∃t,u=Value.bytes b t
 |.flt b,u=>∃t,u=Value.float b t
 |.ref a,u=>u=Value.ref a
 |.ty n,u=>u=Value.type n
abbrev qu:List V->List Value->Prop:=Paired qF
def qu.length{xs:List V}{us:List Value}(r:qu xs us):xs.length=us.length:=Paired.length r
theorem qu.get:∀{xs:List V} {us:List Value} {i:Nat} {x:V},qu xs us->xs[i]?=some x->∃u,us[i]?=some u/\qF x u
 |_,_,_,_,.nil,e=>by simp at e
 |_,_,0,_,.cons r _,e=>by simp at e;subst e;exact{_,rfl,r}
 | _,_,i+1,x,.cons _ t,e=>by let(u,h1,h2):=qu.get (i:=i) (x:=x) t (-e:);exact{u,(-h1:),h2}
theorem qu.set{x:V}{u:Value}(r:qF x u):∀{xs:List V} {us:List Value} (i:Nat),qu xs us->qu (xs.set i x) (us.set i u)
 |_,_,_,.nil=>.nil
 |_,_,0,.cons _ t=>.cons r t
 | _,_,i+1,.cons q t=>.cons q (qu.set r i t)
theorem qu.append:∀{xs ys:List V} {us ws:List Value},qu xs us->qu ys ws->qu (xs++ys) (us++ws)
 |_,_,_,_,.nil,s=>s
 |_,_,_,_,.cons r t,s=>.cons r (qu.append t s)
theorem qu.take:∀{xs:List V} {us:List Value} (n:Nat),qu xs us->qu (xs.take n) (us.take n)
 |_,_,0,_=>.nil
 | _,_,_+1,.nil=>.nil
 | _,_,n+1,.cons r t=>.cons r (qu.take n t)
theorem qu.drop:∀{xs:List V} {us:List Value} (n:Nat),qu xs us->qu (xs.drop n) (us.drop n)
 |_,_,0,r=>r
 | _,_,_+1,.nil=>.nil
 | _,_,n+1,.cons _ t=>qu.drop n t
def qu.none_of:∀{xs:List V} {us:List Value} {i:Nat},qu xs us->xs[i]?=none->us[i]?=none:=λ{xs us i} r e=>by have h1:=r.length;have h2:xs.length<=i:=List.getElem?_eq_none_iff.mp e;exact List.getElem?_eq_none_iff.mpr (1:)
def qb2:Option V->Option Value->Prop
 |some v,some u=>qF v u
 |none,none=>True
 |_,_=>False
def KV{U:Type}:List (U×V)->List (U×Value)->Prop:=Paired λ(p:U×V) (q:U×Value)=>p.1=q.1/\qF p.2 q.2
def kV:Key->V
 |.inl i=>.int i
 |.inr x=>.str x
inductive HO where
 | lst (xs:List V)
 | tup (xs:List V)
 | dK (kvs:List (Key×V))|dT (kvs:List (List Key×V))
 | set (S:Int->Bool) (n:Nat)
 | ins (C dx:Addr) (fs:List (Str×V))
 | own (x:Addr)
 | xd (fs:List (Str×V))
 | met (f x:Addr)
 | rng (lo hi:Int)
 | frz (o:Obj) (u:HO)
 | tbl (ps:Array Value)
 | ext (φ:Heap->Prop)
abbrev Hp:=Addr->Option HO
def upd(H:Hp)(a:Addr)(o:HO):Hp:=λb=>if b=a then some o else H b
def qg{H:Hp}{a:Addr}{o:HO}:upd H a o a=some o:=by unfold upd;rw[if_pos rfl]
def qe{H:Hp}{a b:Addr}{o:HO}(h:b≠a):upd H a o b=H b:=by unfold upd;rw[if_neg h]
def qP{H:Hp}{a b:Addr}{o:HO}(h:H a=some o)(h':H b=none):a≠b:=by intro e;subst e;rw[h]at h';cases h'
section
variable(P:Program)(w:World)
def qQ(H:Hp)(h:Heap)(a:Addr):HO->Prop
 |.lst xs=>xs.length<=sizeLine/\∃(its:List Value) (n:Nat),qu xs its/\h.get? a=some { cls:=.type "list",data:=.seq its.toArray n }
 |.tup xs=>xs.length<=sizeLine/\∃its:List Value,qu xs its/\IsTup h a its.toArray
 |.dK kvs=>kvs.length<=sizeLine/\(a == sysModules)=false/\∃vs,KV kvs vs/\h.DictOf (ZK P w) a vs
 |.dT kvs=>kvs.length<=sizeLine/\(a == sysModules)=false/\∃xs:List (List Key×Addr×Value),
   Paired (λ(p:List Key×V) (q:List Key×Addr×Value)=>p.1=q.1/\H q.2.1=some (.tup (p.1.map kV))/\qF p.2 q.2.2) kvs xs/\
   ∃o es ep,h.get? a=some o/\o.ExactDict/\o.data=.dict es ep/\es.toList=xs.map (entryOfKey (tupleKind (ZK P w)))/\(xs.map (·.1)).Nodup
 |.set S n=>h.SetOf (intKind P w) a S n
 |.ins C dx fs=>H dx=some (.own a)/\fs.length<=1000/\dx≠a/\h.get? a=some (PySem.W.instObj C dx)/\
   ∃mA,h.Ns1 dx mA/\(∀f,qb2 (fs.lookup f) (mA f))/\PySem.Within mA (fs.map (·.1))
 |.own _=>∃o,h.get? a=some o
 |.xd fs=>∃mA,h.Ns1 a mA/\∀f,qb2 (fs.lookup f) (mA f)
 |.rng lo hi=>∃t u v,h.get? a=some { cls:=.type "range",data:=.fields #[.int lo t,.int hi u,.int 1 v] }
 |.frz o u=>h.get? a=some o/\qQ H h a u
 |.tbl ps=>h.get? a=some { cls:=.none,data:=.fields ps }
 |.met f x=>h.get? a=some (PySem.W.methodObj (.ref f) (.ref x))
 |.ext φ=>φ h/\(∃o,h.get? a=some o)/\∀h1 h2:Heap,φ h1->(∀o,h1.get? a=some o->h2.get? a=some o)->φ h2
def HOk(H:Hp)(h:Heap):Prop:=∀a o,H a=some o->qQ P w H h a o
end
section
variable{P:Program}{w:World}{H H':Hp}{h h':Heap}{a:Addr}{o:HO}
theorem qQ.lt(x:qQ P w H h a o):a < h.objs.size:=by
 cases o with
 |lst xs=>let(_,_,_,_,e):=x;exact Heap.lt_size e
 |tup xs=>let(_,_,_,p):=x;exact p.lt
 |dK kvs=>let(_,_,_,_,o,_,_,e,_):=x;exact Heap.lt_size e
 |dT kvs=>let(_,_,_,_,o,_,_,e,_):=x;exact Heap.lt_size e
 |set S n=>let(o,_,_,_,e,_):=x;exact Heap.lt_size e
 |ins C dx fs=>let(_,_,_,e,_):=x;exact Heap.lt_size e
 |own y=>let(_,e):=x;exact Heap.lt_size e
 |xd fs=>let(_,(_,_,_,e,_),_):=x;exact Heap.lt_size e
 |rng lo hi=>let(_,_,_,e):=x;exact Heap.lt_size e
 |frz ob u=>let(e,_):=x;exact Heap.lt_size e
 |tbl ps=>exact Heap.lt_size (show h.get? a=some _ from x)
 |met f y=>exact Heap.lt_size (show h.get? a=some _ from x)
 |ext φ=>let(_,(_,e),_):=x;exact Heap.lt_size e
theorem Paired.mapP{α M:Type}{F G:α->M->Prop}:∀{l₁:List α} {l₂:List M},Paired F l₁ l₂->(∀a b,F a b->G a b)->Paired G l₁ l₂
 |_,_,.nil,_=>.nil
 |_,_,.cons r t,f=>.cons (f _ _ r) (Paired.mapP t f)
theorem qQ.stay(x:qQ P w H h a o)(k:∀b u,(b=a\/H b=some (.own a))->h.get? b=some u->h'.get? b=some u)
  (ho:∀b,H b=some (.own a)->H' b=some (.own a)) (ht:∀b xs,H b=some (.tup xs)->H' b=some (.tup xs)):qQ P w H' h' a o:=by
 induction o with
 |lst xs=>let(z,its,n,r,e):=x;exact{z,its,n,r,k _ _ (.inl rfl) e}
 |tup xs=>let(z,its,r,ob,e,c):=x;exact{z,its,r,ob,k _ _ (.inl rfl) e,c}
 |dK kvs=>let(z,y,vs,r,ob,es,ep,e,c):=x;exact{z,y,vs,r,ob,es,ep,k _ _ (.inl rfl) e,c}
 |dT kvs=>let(z,y,xs,r,ob,es,ep,e,c):=x;exact{z,y,xs,Paired.mapP r λp q z=>{z.1,ht _ _ z.2.1,z.2.2},ob,es,ep,k _ _ (.inl rfl) e,c}
 |set S n=>let(ob,es,ep,t,e,c):=x;exact{ob,es,ep,t,k _ _ (.inl rfl) e,c}
 |ins C dx fs=>let(d,z,ne,e,mA,(od,es,ep,e2,c),r):=x;exact{ho _ d,z,ne,k _ _ (.inl rfl) e,mA,{od,es,ep,k _ _ (.inr d) e2,c},r}
 |own y=>let(ob,e):=x;exact{ob,k _ _ (.inl rfl) e}
 |xd fs=>let(mA,(od,es,ep,e,c),r):=x;exact{mA,{od,es,ep,k _ _ (.inl rfl) e,c},r}
 |rng lo hi=>let(t,u,v,e):=x;exact{t,u,v,k _ _ (.inl rfl) e}
 |frz ob u ih=>let(e,q):=x;exact{k _ _ (.inl rfl) e,ih q}
 |tbl ps=>have e:h.get? a=some { cls:=.none,data:=.fields ps }:=x;show h'.get? a=some { cls:=.none,data:=.fields ps };exact k a _ (.inl rfl) e
 |met f y=>have e:h.get? a=some (PySem.W.methodObj (.ref f) (.ref y)):=x;show h'.get? a=some (PySem.W.methodObj (.ref f) (.ref y));exact k a _ (.inl rfl) e
 |ext φ=>let(p,(o,e),st):=x;exact{st _ _ p λo q=>k _ _ (.inl rfl) q,{o,k _ _ (.inl rfl) e},st}
def HOk.lt(x:HOk P w H h)(e:H a=some o):a < h.objs.size:=(x a o e).lt
theorem HOk.fresh(x:HOk P w H h)(e:h.objs.size<=a):H a=none:=by
 cases q:H a with
 |none=>rfl
 |some u=>exact absurd (Nat.lt_of_lt_of_le (x.lt q) e) (Nat.lt_irrefl _)
def HOk.kept(x:HOk P w H h)(k:∀b u,h.get? b=some u->h'.get? b=some u):HOk P w H h':=λa o e=>(x a o e).stay (λb u _ q=>k b u q) (λ_ q=>q) λ_ _ q=>q
def HOk.laid(x:HOk P w H h)(k:∀b u,h.get? b=some u->h'.get? b=some u)(hp:h.objs.size<=a)(new:qQ P w (upd H a o) h' a o):HOk P w (upd H a o) h':=λb u e=>by
 have hn:=x.fresh hp
 by_cases hb:b=a
 ·subst hb;rw[qg]at e;cases e;exact new
 ·rw[qe hb]at e;exact(x b u e).stay (λc v _ q=>k c v q) (λc q=>by rw[qe (qP q hn)];exact q) λc xs q=>by rw[qe (qP q hn)];exact q
end
def Rd(H:Hp)(a:Addr)(u:HO):Prop:=H a=some u\/∃o,H a=some (.frz o u)
def Rd.ok{P:Program}{w:World}{H:Hp}{h:Heap}{a:Addr}{u:HO}(r:Rd H a u)(x:HOk P w H h):qQ P w H h a u:=by
 rcases r with r|⟨o,r⟩
 ·exact x a u r
 ·let(_,q):=x a _ r;exact q
def Mut:Option HO->Prop
 |some (.lst _)=>True
 |some (.dK _)=>True
 |some (.dT _)=>True
 |some (.set _ _)=>True
 |some (.ins _ _ _)=>True
 |some (.ext _)=>True
 |_=>False
section
variable{P:Program}{w:World}{H:Hp}{h h':Heap}{x e:Addr}{o':HO}
def HOk.write(ok:HOk P w H h)(mu:Mut (H x))(he:e=x\/H e=some (.own x))(k:∀b u,b≠e->h.get? b=some u->h'.get? b=some u)(heo:∃u,h'.get? e=some u)
  (new:qQ P w (upd H x o') h' x o'):HOk P w (upd H x o') h':=λb u q=>by
 have nown:∀c y,H c=some (.own y)->c≠x:=λc y r z=>by subst z;rw[r]at mu;exact mu
 have ntup:∀c xs,H c=some (.tup xs)->c≠x:=λc xs r z=>by subst z;rw[r]at mu;exact mu
 by_cases hb:b=x
 ·subst hb;rw[qg]at q;cases q;exact new
 ·rw[qe hb]at q
  by_cases hbe:b=e
  ·have q':H b=some (.own x):=by
    rcases he with z|z
    ·exact absurd (hbe.trans z) hb
    ·rw[hbe];exact z
   rw[q]at q';cases q';let(v,hv):=heo;exact{v,by rw[hbe];exact hv}
  ·refine(ok b u q).stay (λc v hc r=>k c v ?_ r) (λc r=>by rw[qe (nown c b r)];exact r) λc xs r=>by rw[qe (ntup c xs r)];exact r
   rcases hc with rfl|hc
   ·exact hbe
   ·rintro rfl;rcases he with z|z
    ·exact nown c b hc z
    ·rw[hc]at z;cases z;exact hb rfl
end
structure Un(fs ex:List Addr)(H H':Hp)(h h':Heap):Prop where
 keep:∀b o,h.get? b=some o->H b=none->b∉fs->b∉ex->h'.get? b=some o
 slot:∀b o,h.get? b=some o->H b=none->b∈fs->b∉ex->∃sl,h'.get? b=some { o with slots:=sl }
 free:∀b o,h.get? b=some o->H b=none->b∉ex->H' b=none
 there:∀b o,h.get? b=some o->b∉ex->∃o',h'.get? b=some o'
 tups:∀b xs,H b=some (.tup xs)->H' b=some (.tup xs)
 frzs:∀b o u,H b=some (.frz o u)->H' b=some (.frz o u)
 tbls:∀b ps,H b=some (.tbl ps)->∃more,H' b=some (.tbl (ps++more))
section
variable{fs fs' ex ex':List Addr}{H H1 H2:Hp}{h h1 h2 h':Heap}{a x e:Addr}{o:HO}
def Un.any(u:Un fs ex H H1 h h1){b:Addr}{ob:Obj}(q:h.get? b=some ob)(n:H b=none)(hx:b∉ex):∃sl,h1.get? b=some { ob with slots:=sl }:=by
 by_cases hb:b∈fs
 ·exact u.slot b ob q n hb hx
 ·exact{ob.slots,u.keep b ob q n hb hx}
def Un.kept(k:∀b u,h.get? b=some u->h'.get? b=some u):Un fs ex H H h h':=
 ⟨λb ob q _ _ _=>k b ob q,λb ob q _ _ _=>{ob.slots,k b ob q},λ_ _ _ n _=>n,λb ob q _=>{ob,k b ob q},λ_ _ q=>q,λ_ _ _ q=>q,λ_ ps q=>{#[],by rw[q];simp}⟩
def Un.refl:Un fs ex H H h h:=Un.kept λ_ _ q=>q
def Un.laid(k:∀b u,h.get? b=some u->h'.get? b=some u)(hp:h.objs.size<=a)(hn:H a=none):Un fs ex H (upd H a o) h h' where
 keep:=λb u q _ _ _=>k b u q
 slot:=λb u q _ _ _=>{u.slots,k b u q}
 free:=λb u q n _=>by rw[qe (Nat.ne_of_lt (Nat.lt_of_lt_of_le (Heap.lt_size q) hp))];exact n
 there:=λb u q _=>{u,k b u q}
 tups:=λb xs q=>by rw[qe (qP q hn)];exact q
 frzs:=λb u xs q=>by rw[qe (qP q hn)];exact q
 tbls:=λb ps q=>{#[],by rw[qe (qP q hn),q];simp}
def Un.write(mu:Mut (H x))(he:e=x\/H e=some (.own x))(k:∀b u,b≠e->h.get? b=some u->h'.get? b=some u)(heo:∃u,h'.get? e=some u):Un fs ex H (upd H x o) h h':=by
 have hx:∀b,H b=none->b≠x:=λb n z=>by subst z;rw[n]at mu;exact mu
 have hb:∀b,H b=none->b≠e:=λb n z=>by
  subst z;rcases he with r|r
  ·exact hx b n r
  ·rw[n]at r;cases r
 have hm:∀b u,H b=some u->¬ Mut (some u)->b≠x:=λb u q nm z=>by subst z;rw[q]at mu;exact nm mu
 refine{λb u q n _ _=>k b u (hb b n) q,λb u q n _ _=>{u.slots,k b u (hb b n) q},λb u q n _=>by rw[qe (hx b n)];exact n,λb u q _=>?_,
  λb xs q=>by rw[qe (hm b _ q λz=>z)];exact q,λb u xs q=>by rw[qe (hm b _ q λz=>z)];exact q,λb ps q=>{#[],by rw[qe (hm b _ q λz=>z),q];simp}}
 by_cases hbe:b=e
 ·subst hbe;exact heo
 ·exact{u,k b u hbe q}
end
def trk(h:Heap)(H:Hp):List Addr:=(List.range h.objs.size).filter λa=>(H a).isSome
def qd3(h:Heap)(H:Hp):Heap:=PySem.W.hideAll h (trk h H)
def qb3(h:Heap)(H:Hp):(qd3 h H).objs.size=h.objs.size:=PySem.W.hideAll_size _ _
def qd4{h:Heap}{H:Hp}{b:Addr}{o:Obj}(e:h.get? b=some o)(n:H b=none):(qd3 h H).get? b=some o:=
 PySem.W.hideAll_get _ e λhm=>by have q:(H b).isSome=true:=(List.mem_filter.mp hm).2;rw[n]at q;simp at q
theorem qgl{h:Heap}{H:Hp}{b:Addr}{o:Obj}(e:(qd3 h H).get? b=some o):h.get? b=some o/\H b=none:=by
 have e':h.get? b=some o:=PySem.W.of_hideAll (trk h H) e;refine{e',?_}
 cases q:H b with
 |none=>rfl
 |some x=>have hm:b∈trk h H:=List.mem_filter.mpr ⟨List.mem_range.mpr (Heap.lt_size e'),by simp[q]⟩;have z:(qd3 h H).get? b=none:=PySem.W.hideAll_none (trk h H) hm;rw[z]at e;cases e
structure Mod(K:Frag)(mg:PR)(base:Heap):Prop where
 kin:K.In base
 glob:base.Ns mainGlobals mg
 blt:∃mb,base.Ns builtinsNs mb/\∀x:Str,x≠"__name__"->mb x=bootBuiltins x
 nolimit:base.NoLimit
structure Cx where
 prog:Program
 w:World
 K:Frag
 mg:PR
 base:Heap
 A:Around
 N:List Str
 s₀:Shared
 Hv:Hp
 env:Env
 outer:List Env
 stack:List Env
 ex:List Addr
 fn:Str->Bool
 calm:Bool
 pn:PP
 xe:PQ
def frs(l:List Env):List Addr:=l.filterMap (·.frame)
abbrev Cx.fs(X:Cx):List Addr:=frs X.outer
def Vis(sc:Scope)(x:Str):Prop:=sc.names.lookup x=some .local\/sc.names.lookup x=some .cell\/sc.names.lookup x=some .free
def Loc(sc:Scope)(x:Str):Prop:=sc.names.lookup x=some .local\/sc.names.lookup x=some .cell
def qnp(env:Env)(h:Heap)(m:PR)(x:Str)(u:Value):Prop:=
 (env.kindOf x=some .local/\m x=some u)\/((env.kindOf x=some .cell\/env.kindOf x=some .free)/\∃c,env.cells.lookup x=some c/\h.IsCell c (some u))
structure Cx.Ok(X:Cx):Prop where
 mod:Mod X.K X.mg X.base
 kind:X.env.scope.kind=.function
 glob:X.env.globals=mainGlobals
 blt:X.env.builtins=builtinsNs
 above:X.s₀.heap.objs.size<=X.env.locals
 inj:∀x y c,X.env.cells.lookup x=some c->X.env.cells.lookup y=some c->x=y
 has:∀x,(X.env.kindOf x=some .cell\/X.env.kindOf x=some .free)->∃c,X.env.cells.lookup x=some c
 cab:∀x c,X.fn x=true->X.env.cells.lookup x=some c->X.s₀.heap.objs.size<=c
 hd:X.calm=true->X.A.handled=none
 frames:X.A.frames=some X.stack
 stk:X.stack=X.outer\/(X.stack=X.env::X.outer/\X.env.frame=some X.env.locals)
 exf:∀b∈X.ex,b≠X.env.locals/\∀x c,X.env.cells.lookup x=some c->c≠b
 bs:∀b o,X.base.get? b=some o->X.s₀.heap.get? b=some o/\X.Hv b=none
 bsz:X.base.objs.size<=X.s₀.heap.objs.size
 noex:∀b o,X.base.get? b=some o->b∉X.ex
 exfs:∀b∈X.ex,b∉X.fs
 funs:X.s₀.heap.FunFrames X.base X.outer
 frf:∀b∈X.fs,X.Hv b=none
structure Inv(X:Cx)(pins:PP)(Z:List (Option V))(H:Hp)(s:Shared):Prop where
 ok:X.Ok
 os:s.os=X.s₀.os
 bare:AllBare s.gens
 base:Un X.fs X.ex X.Hv H X.s₀.heap s.heap
 loc:∃m,s.heap.Ns X.env.locals m/\∀(i:Nat) (x:Str) (v:V),X.N[i]?=some x->Z[i]?=some (some v)->Vis X.env.scope x->∃u,qF v u/\qnp X.env s.heap m x u
 cell:∀x c,X.env.cells.lookup x=some c->∃v,s.heap.IsCell c v
 free:H X.env.locals=none
 freeC:∀x c,X.env.cells.lookup x=some c->H c=none
 pin:∀p∈X.pn++pins,s.heap.get? p.1=some p.2/\H p.1=none/\p.1≠X.env.locals/\p.1∉X.fs/\∀v,p.2.data≠.cell v
 hok:HOk X.prog X.w H s.heap
 len:Z.length=X.N.length
section
variable{X:Cx}{pins:PP}{Z:List (Option V)}{H H':Hp}{s:Shared}{h':Heap}
def Cx.Ok.nofr(ok:X.Ok){b:Addr}{o:Obj}(e:X.base.get? b=some o):b∉X.fs:=λhb=>by
 have:=(ok.funs.mem hb).1
 rw[e]at this;cases this
def Inv.bs(I:Inv X pins Z H s):∀b o,X.base.get? b=some o->s.heap.get? b=some o/\H b=none:=λb o e=>{I.base.keep b o (I.ok.bs b o e).1 (I.ok.bs b o e).2 (I.ok.nofr e) (I.ok.noex b o e),I.base.free b o (I.ok.bs b o e).1 (I.ok.bs b o e).2 (I.ok.noex b o e)}
def Inv.bk(I:Inv X pins Z H s):∀b o,X.base.get? b=some o->s.heap.get? b=some o:=λb o e=>(I.bs b o e).1
def Inv.mod(I:Inv X pins Z H s):Mod X.K X.mg X.base:=I.ok.mod
def Inv.kIn(I:Inv X pins Z H s):X.K.In s.heap:=I.ok.mod.kin.keeps I.bk
def Inv.lt(I:Inv X pins Z H s):X.env.locals < s.heap.objs.size:=let ⟨_,hn,_⟩:=I.loc;hn.lt
def Inv.sz(I:Inv X pins Z H s):X.s₀.heap.objs.size<=s.heap.objs.size:=Nat.le_trans I.ok.above (Nat.le_of_lt I.lt)
def Inv.nofs(I:Inv X pins Z H s){a:Addr}(h:s.heap.objs.size<=a):a∉X.fs:=λhb=>by let(_,o,ho,_):=I.ok.funs.mem hb;exact absurd (Nat.lt_of_lt_of_le (Heap.lt_size ho) (Nat.le_trans I.sz h)) (Nat.lt_irrefl _)
def Inv.cne(I:Inv X pins Z H s):∀x c,X.env.cells.lookup x=some c->c≠X.env.locals:=λx c e z=>by let(v,o,ho,hd):=I.cell x c e;let(m,(o',es,ep,ho',hd',_),_):=I.loc;rw[z,ho']at ho;cases ho;rw[hd']at hd;cases hd
def Inv.funs(I:Inv X pins Z H s):s.heap.FunFrames X.base X.outer:=by
 have all:∀(l:List Env),(∀b∈frs l,b∈X.fs)->X.s₀.heap.FunFrames X.base l->s.heap.FunFrames X.base l:=by
  intro l
  induction l with
  |nil=>intro _ _;trivial
  |cons env r ih=>intro hs hl;let(hk,(L,o,hf,hn,ho,hd),hr):=hl;have hL:L∈X.fs:=hs L (by unfold frs;rw[List.filterMap_cons,hf];exact List.mem_cons_self);let(sl,e):=I.base.slot L o ho (I.ok.frf L hL) hL λz=>I.ok.exfs L z hL;exact{hk,{L,_,hf,hn,e,hd},ih (λb hb=>hs b (by unfold frs;rw[List.filterMap_cons,hf];exact List.mem_cons_of_mem _ hb)) hr}
 exact all X.outer (λ_ hb=>hb) I.ok.funs
def Inv.stack(I:Inv X pins Z H s):s.heap.FunFrames X.base X.stack:=by
 rcases I.ok.stk with e|⟨e,hf⟩
 ·rw[e];exact I.funs
 ·rw[e];let(m,hn,_):=I.loc;refine .cons (by rw[I.ok.kind];decide) hf hn ?_ I.funs;exact Heap.get?_none_of_le (Nat.le_trans I.ok.bsz I.ok.above)
def Inv.stkSub(I:Inv X pins Z H s):∀b∈frs X.stack,b∈X.env.locals::X.fs:=λb hb=>by
 rcases I.ok.stk with e|⟨e,hf⟩
 ·rw[e]at hb;exact List.mem_cons_of_mem _ hb
 ·rw[e]at hb;unfold frs at hb;rw[List.filterMap_cons,hf]at hb;exact hb
def Inv.stkFree(I:Inv X pins Z H s):∀b∈frs X.stack,H b=none:=λb hb=>by
 rcases List.mem_cons.mp (I.stkSub b hb) with e|hb
 ·rw[e];exact I.free
 ·let(_,o,ho,_):=I.ok.funs.mem hb;exact I.base.free b o ho (I.ok.frf b hb) λz=>I.ok.exfs b z hb
def Inv.step{g':Array GenState}{t':Nat}{d':Drawn}{ch:List Addr}(I:Inv X pins Z H s)
  (hch:∀b∈ch,(b∈X.ex\/X.s₀.heap.objs.size<=b)/\b≠X.env.locals/\(∀x c,X.env.cells.lookup x=some c->c≠b)/\∀p∈X.pn++pins,p.1≠b)
  (keep:∀b o,b≠X.env.locals->b∉X.fs->b∉ch->s.heap.get? b=some o->H b=none->h'.get? b=some o)
  (slot:∀b o,b≠X.env.locals->b∈X.fs->b∉ch->s.heap.get? b=some o->H b=none->∃sl,h'.get? b=some { o with slots:=sl }) (free:∀b o,b∉ch->s.heap.get? b=some o->H b=none->H' b=none)
  (there:∀b o,b∉ch->s.heap.get? b=some o->∃o',h'.get? b=some o')
  (tups:∀b xs,H b=some (.tup xs)->H' b=some (.tup xs)) (frzs:∀b o u,H b=some (.frz o u)->H' b=some (.frz o u)) (tbls:∀b ps,H b=some (.tbl ps)->∃more,H' b=some (.tbl (ps++more)))
  (ns:∀m,s.heap.Ns X.env.locals m->h'.Ns X.env.locals m) (hok:HOk X.prog X.w H' h') (hg:AllBare g') :
  Inv X pins Z H' { s with heap:=h',gens:=g',drawn:=d',toks:=t' }:=by
 have neL:∀b o,X.s₀.heap.get? b=some o->b≠X.env.locals:=λb o e=>Nat.ne_of_lt (Nat.lt_of_lt_of_le (Heap.lt_size e) I.ok.above)
 have neC:∀b o,X.s₀.heap.get? b=some o->b∉X.ex->b∉ch:=λb o e hx hb=>by
  rcases (hch b hb).1 with z|z
  ·exact hx z
  ·exact absurd (Nat.lt_of_lt_of_le (Heap.lt_size e) z) (Nat.lt_irrefl _)
 have cellK:∀x c,X.env.cells.lookup x=some c->∀v,s.heap.IsCell c v->h'.IsCell c v:=λx c e v ⟨o,ho,hd⟩=>by
  have nch:c∉ch:=λz=>(hch c z).2.2.1 x c e rfl
  by_cases hc:c∈X.fs
  ·let(sl,q):=slot c o (I.cne x c e) hc nch ho (I.freeC x c e);exact{_,q,hd}
  ·exact{o,keep c o (I.cne x c e) hc nch ho (I.freeC x c e),hd}
 refine{I.ok,I.os,hg,{λb o e n hb hx=>?_,λb o e n hb hx=>?_,λb o e n hx=>?_,λb o e hx=>?_,λb xs e=>tups b xs (I.base.tups b xs e),λb o xs e=>frzs b o xs (I.base.frzs b o xs e),λb ps e=>?_},?_,λx c e=>?_,?_,λx c e=>?_,λp hp=>?_,hok,I.len}
 ·exact keep b o (neL b o e) hb (neC b o e hx) (I.base.keep b o e n hb hx) (I.base.free b o e n hx)
 ·let(sl,e1):=I.base.slot b o e n hb hx;let(sl',e2):=slot b _ (neL b o e) hb (neC b o e hx) e1 (I.base.free b o e n hx);exact⟨sl',e2⟩
 ·let(o',e1):=I.base.there b o e hx;exact free b o' (neC b o e hx) e1 (I.base.free b o e n hx)
 ·let(o',e1):=I.base.there b o e hx;exact there b o' (neC b o e hx) e1
 ·let(m1,e1):=I.base.tbls b ps e;let(m2,e2):=tbls b _ e1;exact{m1++m2,by rw[e2,Array.append_assoc]}
 ·let(m,hn,hl):=I.loc;refine{m,ns m hn,λi x v e1 e2 e3=>?_};let(u,r,l):=hl i x v e1 e2 e3;refine{u,r,?_};rcases l with l|⟨k,c,e,z⟩
  ·exact .inl l
  ·exact .inr ⟨k,c,e,cellK x c e _ z⟩
 ·let(v,z):=I.cell x c e;exact{v,cellK x c e v z}
 ·let(m,(o,_,_,ho,_),_):=I.loc;exact free _ o (λz=>(hch _ z).2.1 rfl) ho I.free
 ·let(v,o,ho,hd):=I.cell x c e;exact free c o (λz=>(hch c z).2.2.1 x c e rfl) ho (I.freeC x c e)
 ·let(e,n,ne,nf,d):=I.pin p hp;have nch:p.1∉ch:=λz=>(hch p.1 z).2.2.2 p hp rfl;exact{keep p.1 p.2 ne nf nch e n,free p.1 p.2 nch e n,ne,nf,d}
def Inv.un{t':Nat}(I:Inv X pins Z H s)(u:Un X.fs [] H H' s.heap h')(hok:HOk X.prog X.w H' h'):Inv X pins Z H' { s with heap:=h',toks:=t' }:=by
 let(m,(o,es,ep,ho,r),_):=id I.loc;let(sl,hL):=u.any ho I.free (5:)
 exact I.step (g':=s.gens) (d':=s.drawn) (ch:=[]) (λ_ z=>nomatch z) (λb o _ hb _ e n=>u.keep b o e n hb (5:)) (λb o _ hb _ e n=>u.slot b o e n hb (5:)) (λb o _ e n=>u.free b o e n (5:)) (λb o _ e=>u.there b o e (5:)) u.tups u.frzs u.tbls (λm' hm=>by let(o',es',ep',ho',r'):=hm;rw[ho]at ho';cases ho';exact{_,es',ep',hL,r'}) hok I.bare
def Inv.call{g':Array GenState}{t':Nat}{d':Drawn}{ch:List Addr}(I:Inv X pins Z H s)(u:Un (frs X.stack) ch H H' s.heap h')(hok:HOk X.prog X.w H' h')(hg:AllBare g')
  (hch:∀b∈ch,(b∈X.ex\/X.s₀.heap.objs.size<=b)/\b≠X.env.locals/\(∀x c,X.env.cells.lookup x=some c->c≠b)/\∀p∈X.pn++pins,p.1≠b) :
  Inv X pins Z H' { s with heap:=h',gens:=g',drawn:=d',toks:=t' }:=by
 let(m,(o,es,ep,ho,r),_):=id I.loc;let(sl,hL):=u.any ho I.free λz=>(hch _ z).2.1 rfl
 exact I.step (ch:=ch) hch (λb o hL hb hc e n=>u.keep b o e n (λz=>(List.mem_cons.mp (I.stkSub b z)).elim hL hb) hc) (λb o _ _ hc e n=>u.any e n hc) (λb o hc e n=>u.free b o e n hc) (λb o hc e=>u.there b o e hc) u.tups u.frzs u.tbls (λm' hm=>by let(o',es',ep',ho',r'):=hm;rw[ho]at ho';cases ho';exact{_,es',ep',hL,r'}) hok hg
def Inv.turned{t':Nat}{it:Addr}(I:Inv X pins Z H s)(k:∀b o,b≠it->s.heap.get? b=some o->h'.get? b=some o)(hn:H it=none)(hL:it≠X.env.locals)
  (h1:it∈X.ex\/X.s₀.heap.objs.size<=it) (h2:∀x c,X.env.cells.lookup x=some c->c≠it) (h3:∀p∈X.pn++pins,p.1≠it):Inv X pins Z H { s with heap:=h',toks:=t' }:=by
 have nit:∀b u,H b=some u->b≠it:=λb u e z=>by rw[z,hn]at e;cases e
 refine I.step (g':=s.gens) (d':=s.drawn) (ch:=[it]) (λb hb=>?_) (λb o _ _ hc e _=>k b o (λz=>hc (by simp[z])) e) (λb o _ _ hc e _=>{o.slots,k b o (λz=>hc (by simp[z])) e}) (λ_ _ _ _ n=>n)
  (λb o hc e=>{o,k b o (λz=>hc (by simp[z])) e}) (λ_ _ e=>e) (λ_ _ _ e=>e) (λb ps e=>{#[],by rw[e];simp}) (λm hm=>?_) (λb u e=>?_) I.bare
 ·have e:b=it:=(-hb:)
  subst e;exact⟨h1,hL,h2,h3⟩
 ·let(o,es,ep,ho,r):=hm;exact{o,es,ep,k _ o (Ne.symm hL) ho,r}
 ·refine(I.hok b u e).stay (λc v hc q=>k c v ?_ q) (λ_ q=>q) λ_ _ q=>q;rcases hc with z|z
  ·rw[z];exact nit b u e
  ·exact nit c _ z
def Inv.tok(I:Inv X pins Z H s)(t:Nat):Inv X pins Z H { s with toks:=t }:=I.un (h':=s.heap) (t':=t) Un.refl I.hok
def Inv.kept{t':Nat}(I:Inv X pins Z H s)(k:∀b u,s.heap.get? b=some u->h'.get? b=some u):Inv X pins Z H { s with heap:=h',toks:=t' }:=I.un (Un.kept k) (I.hok.kept k)
def Inv.laid{a:Addr}{o:HO}{t':Nat}(I:Inv X pins Z H s)(k:∀b u,s.heap.get? b=some u->h'.get? b=some u)(hp:s.heap.objs.size<=a)(new:qQ X.prog X.w (upd H a o) h' a o) :
  Inv X pins Z (upd H a o) { s with heap:=h',toks:=t' }:=I.un (Un.laid k hp (I.hok.fresh hp)) (I.hok.laid k hp new)
def Inv.write{x e:Addr}{o:HO}{t':Nat}(I:Inv X pins Z H s)(mu:Mut (H x))(he:e=x\/H e=some (.own x))(k:∀b u,b≠e->s.heap.get? b=some u->h'.get? b=some u)(heo:∃u,h'.get? e=some u)
  (new:qQ X.prog X.w (upd H x o) h' x o):Inv X pins Z (upd H x o) { s with heap:=h',toks:=t' }:=I.un (Un.write mu he k heo) (I.hok.write mu he k heo new)
def Inv.pins_of{pins':PP}(I:Inv X pins Z H s)(h:∀p∈pins',s.heap.get? p.1=some p.2/\H p.1=none/\p.1≠X.env.locals/\p.1∉X.fs/\∀v,p.2.data≠.cell v):Inv X pins' Z H s:=
 ⟨I.ok,I.os,I.bare,I.base,I.loc,I.cell,I.free,I.freeC,λp hp=>(List.mem_append.mp hp).elim (λz=>I.pin p (List.mem_append_left _ z)) (h p),I.hok,I.len⟩
def qaq{N:List Str}(hN:N.Nodup){i j:Nat}{x:Str}(a:N[i]?=some x)(b:N[j]?=some x):i=j:=by let(h1,e1):=List.getElem?_eq_some_iff.mp a;let(h2,e2):=List.getElem?_eq_some_iff.mp b;exact(List.getElem_inj hN).mp (e1.trans e2.symm)
def Qu{M:Model}{A:Around}{E:PQ}{i:Nat}{x:Str}{v:V}{u:Value}{Q:Unit->Shared->Prop}(I:Inv X pins Z H s)(hN:X.N.Nodup)(hi:X.N[i]?=some x)(hx:Loc X.env.scope x)(r:qF v u)
  (h:∀s',Inv X pins (Z.set i (some v)) H s'->(∃a,Heap.SameBut a s.heap s'.heap/\(a=X.env.locals\/X.env.cells.lookup x=some a))->Q () s') (hf:X.fn x=true\/X.env.scope.names.lookup x=some .local:=by first|exact .inl rfl|exact .inr rfl|assumption):wpAny M A (storeName X.env x u) Q E s:=by
 let(m,hn,hl):=id I.loc;have hcls:(X.env.scope.kind == .class||(X.env.scope.kind == .module&&X.env.locals != X.env.globals))=false:=by rw[I.ok.kind];rfl
 have hiσ:i < Z.length:=by rw[I.len];exact(List.getElem?_eq_some_iff.mp hi).1
 have cne:=I.cne
 have tracked:∀{a:Addr} {h':Heap},(∃o,s.heap.get? a=some o/\H a=none)->Heap.SameBut a s.heap h'->HOk X.prog X.w H h':=λ{a h'} ha hs b ob e=>by
  let(_,_,hfree):=ha;refine(I.hok b ob e).stay (λc w' hc q=>(hs.2 c ?_).trans q) (λ_ q=>q) λ_ _ q=>q;rintro rfl;rcases hc with rfl|hc
  ·rw[hfree]at e;cases e
  ·rw[hfree]at hc;cases hc
 rcases hx with hk|hk
 ·refine wpAny_storeName_local hk hn (λh' hn' hs=>?_) hcls;let(oL,_,_,hoL,_):=id hn;refine h _ ⟨I.ok,I.os,I.bare,⟨λb o e n hb hx=>?_,λb o e n hb hx=>?_,I.base.free,λb o e hx=>?_,I.base.tups,I.base.frzs,I.base.tbls⟩,⟨_,hn',λj y v' e1 e2 e3=>?_⟩,λy c e=>?_,I.free,I.freeC,λp hp=>?_,tracked ⟨oL,hoL,I.free⟩ hs,(-I.len:)⟩ ⟨_,hs,.inl rfl⟩
  ·exact(hs.2 b (Nat.ne_of_lt (Nat.lt_of_lt_of_le (Heap.lt_size e) I.ok.above))).trans (I.base.keep b o e n hb hx)
  ·let(sl,e1):=I.base.slot b o e n hb hx;exact{sl,(hs.2 b (Nat.ne_of_lt (Nat.lt_of_lt_of_le (Heap.lt_size e) I.ok.above))).trans e1}
  ·let(o',e1):=I.base.there b o e hx;exact{o',(hs.2 b (Nat.ne_of_lt (Nat.lt_of_lt_of_le (Heap.lt_size e) I.ok.above))).trans e1}
  ·by_cases hj:j=i
   ·subst hj;rw[hi]at e1;cases e1;rw[List.getElem?_set_self hiσ]at e2;cases e2;exact{u,r,.inl {hk,by simp}}
   ·rw[List.getElem?_set_ne (Ne.symm hj)]at e2;let(u',r',q):=hl j y v' e1 e2 e3;refine{u',r',?_};rcases q with ⟨k,e⟩|⟨k,c,e,z⟩
    ·refine .inl ⟨k,?_⟩
     have:y≠x:=λe=>hj (qaq hN e1 (e▸hi))
     simp[this,e]
    ·exact .inr ⟨k,c,e,z.sameBut hs (cne y c e)⟩
  ·let(w',z):=I.cell y c e;exact{w',z.sameBut hs (cne y c e)}
  ·let(e,n,ne,nf,d):=I.pin p hp;exact{(hs.2 p.1 ne).trans e,n,ne,nf,d}
 ·have hfn:X.fn x=true:=by
   rcases hf with z|z
   ·exact z
   ·rw[z]at hk;cases hk
  let(c,hc):=I.ok.has x (.inl hk);let(w',z):=I.cell x c hc;refine wpAny_storeName_cell I.ok.kind hk hc z (λh' hc' hs=>?_);let(oc,hoc,hocd):=id z;refine h { s with heap:=h' } ⟨I.ok,I.os,I.bare,⟨λb o e n hb hx=>?_,λb o e n hb hx=>?_,I.base.free,λb o e hx=>?_,I.base.tups,I.base.frzs,I.base.tbls⟩,⟨m,hn.sameBut hs (Ne.symm (cne x c hc)),λj y v' e1 e2 e3=>?_⟩,λy c' e=>?_,I.free,I.freeC,λp hp=>?_,tracked ⟨oc,hoc,I.freeC x c hc⟩ hs,(-I.len:)⟩ ⟨c,hs,.inr hc⟩
  ·exact(hs.2 b (Nat.ne_of_lt (Nat.lt_of_lt_of_le (Heap.lt_size e) (I.ok.cab x c hfn hc)))).trans (I.base.keep b o e n hb hx)
  ·let(sl,e1):=I.base.slot b o e n hb hx;exact{sl,(hs.2 b (Nat.ne_of_lt (Nat.lt_of_lt_of_le (Heap.lt_size e) (I.ok.cab x c hfn hc)))).trans e1}
  ·let(o',e1):=I.base.there b o e hx;exact{o',(hs.2 b (Nat.ne_of_lt (Nat.lt_of_lt_of_le (Heap.lt_size e) (I.ok.cab x c hfn hc)))).trans e1}
  ·by_cases hj:j=i
   ·subst hj;rw[hi]at e1;cases e1;rw[List.getElem?_set_self hiσ]at e2;cases e2;exact{u,r,.inr {.inl hk,c,hc,hc'}}
   ·rw[List.getElem?_set_ne (Ne.symm hj)]at e2;let(u',r',q):=hl j y v' e1 e2 e3;refine{u',r',?_};rcases q with q|⟨k,c',e,z'⟩
    ·exact .inl q
    ·refine .inr ⟨k,c',e,z'.sameBut hs ?_⟩;rintro rfl;exact hj (qaq hN e1 (I.ok.inj _ _ _ e hc▸hi))
  ·by_cases hcc:c'=c
   ·subst hcc;exact{_,hc'}
   ·let(w2,z2):=I.cell y c' e;exact{w2,z2.sameBut hs hcc}
  ·let(e,n,ne,nf,d):=I.pin p hp;refine{(hs.2 p.1 ?_).trans e,n,ne,nf,d};intro q;rw[q,hoc]at e;have q':oc=p.2:=Option.some.inj e;exact d w' (by rw[<-q'];exact hocd)
def qar{M:Model}{A:Around}{E:PQ}{i:Nat}{x:Str}{v:V}{u:Value}{Q:Unit->Shared->Prop}(I:Inv X pins Z H s)(hN:X.N.Nodup)(hi:X.N[i]?=some x)(hx:Loc X.env.scope x)(r:qF v u)
  (h:∀s',Inv X pins (Z.set i (some v)) H s'->Q () s') (hf:X.fn x=true\/X.env.scope.names.lookup x=some .local:=by first|exact .inl rfl|exact .inr rfl|assumption):wpAny M A (storeName X.env x u) Q E s:=
 Qu I hN hi hx r (λs' I' _=>h s' I') hf
def Inv.call'{s':Shared}{ch:List Addr}(I:Inv X pins Z H s)(ho:s'.os=s.os)(u:Un (frs X.stack) ch H H' s.heap s'.heap)(hok:HOk X.prog X.w H' s'.heap)(hg:AllBare s'.gens)
  (hch:∀b∈ch,(b∈X.ex\/X.s₀.heap.objs.size<=b)/\b≠X.env.locals/\(∀x c,X.env.cells.lookup x=some c->c≠b)/\∀p∈X.pn++pins,p.1≠b):Inv X pins Z H' s':=by
 let(h',g',d',t',o'):=s';have e:o'=s.os:=ho;subst e;exact I.call (g':=g') (t':=t') (d':=d') u hok hg hch
end
abbrev XK:=Value->Option Addr->Hp->Prop
abbrev St:=List (Option V)
abbrev VK:=V->Hp->Prop
abbrev TE:=St->Hp->VK->Prop
abbrev TT:=St->Hp->(Bool->Hp->Prop)->Prop
abbrev TA:=St->Hp->(List V->Hp->Prop)->Prop
structure Ends where
 nx:St->Hp->Prop
 rt:VK
 bk:St->Hp->Prop:=λ_ _=>False
 ct:St->Hp->Prop:=λ_ _=>False
abbrev TS:=Ends->St->Hp->Prop
def EP(X:Cx)(pins:PP)(Z:St)(Q:VK)(u:Value)(s':Shared):Prop:=∃v H',Inv X pins Z H' s'/\qF v u/\Q v H'
def TP(X:Cx)(pins:PP)(Z:St)(Q:Bool->Hp->Prop)(b:Bool)(s':Shared):Prop:=∃H',Inv X pins Z H' s'/\Q b H'
def AP(X:Cx)(pins:PP)(Z:St)(Q:List V->Hp->Prop)(us:List Value)(s':Shared):Prop:=∃vs H',Inv X pins Z H' s'/\qu vs us/\Q vs H'
def SP(X:Cx)(pins:PP)(D:Ends)(f:Flow)(s':Shared):Prop:=
 match f with
 |.next=>∃Z' H',Inv X pins Z' H' s'/\D.nx Z' H'
 |.brk=>∃Z' H',Inv X pins Z' H' s'/\D.bk Z' H'
 |.cont=>∃Z' H',Inv X pins Z' H' s'/\D.ct Z' H'
 |.ret u=>∃v Z' H',Inv X pins Z' H' s'/\qF v u/\D.rt v H'
def PE(X:Cx)(e:Expr)(t:TE):Prop:=
 ∀(pins:PP) (s:Shared) (Z:St) (H:Hp) (Q:VK),Inv X pins Z H s->t Z H Q->wpAny (model X.prog X.w) X.A (eval e X.env) (EP X pins Z Q) X.xe s
def PT(X:Cx)(e:Expr)(t:TT):Prop:=
 ∀(pins:PP) (s:Shared) (Z:St) (H:Hp) (Q:Bool->Hp->Prop),Inv X pins Z H s->t Z H Q->wpAny (model X.prog X.w) X.A (isTrue e X.env (eval e X.env)) (TP X pins Z Q) X.xe s
def PW(X:Cx)(e:Expr)(t:TT):Prop:=
 ∀(whole:Sem Value) (pins:PP) (s:Shared) (Z:St) (H:Hp) (Q:Bool->Hp->Prop),Inv X pins Z H s->t Z H Q->wpAny (model X.prog X.w) X.A (isTrue e X.env whole) (TP X pins Z Q) X.xe s
def PW.pt{X:Cx}{e:Expr}{t:TT}(h:PW X e t):PT X e t:=h _
def PA(X:Cx)(es:List Expr)(t:TA):Prop:=
 ∀(pos:Pos) (pins:PP) (s:Shared) (Z:St) (H:Hp) (Q:List V->Hp->Prop),Inv X pins Z H s->t Z H Q->wpAny (model X.prog X.w) X.A (spliced (backTo pos (starEach es X.env))) (AP X pins Z Q) X.xe s
def PS(X:Cx)(st:Stmt)(t:TS):Prop:=
 ∀(pins:PP) (s:Shared) (Z:St) (H:Hp) (D:Ends),Inv X pins Z H s->t D Z H->wpAny (model X.prog X.w) X.A (exec st X.env) (SP X pins D) X.xe s
def PSs(X:Cx)(st:List Stmt)(t:TS):Prop:=
 ∀(pins:PP) (s:Shared) (Z:St) (H:Hp) (D:Ends),Inv X pins Z H s->t D Z H->wpAny (model X.prog X.w) X.A (execs st X.env) (SP X pins D) X.xe s
def thn{α:Type}{t:Sem α}{Q Q':α->Shared->Prop}{M:Model}{A:Around}{E:PQ}{s:Shared}(h:wpAny M A t Q E s)(hQ:∀a s,Q a s->Q' a s):wpAny M A t Q' E s:=wpAny_mono h hQ λ_ _ x=>x
section
variable{X:Cx}
def bin{a b:Expr}{ta tb:TE}(ha:PE X a ta)(hb:PE X b tb){pins:PP}{s:Shared}{Z:St}{H:Hp}{R:V->V->Hp->Prop}(I:Inv X pins Z H s)(h:ta Z H λx H1=>tb Z H1 λy H2=>R x y H2)
  {α:Type} {Q:α->Shared->Prop} {f:Value->Value->Sem α}
  (hf:∀v u s2 x y H2,Inv X pins Z H2 s2->qF x v->qF y u->R x y H2->wpAny (model X.prog X.w) X.A (f v u) Q X.xe s2) :
  wpAny (model X.prog X.w) X.A (eval a X.env) (λv s₁=>wpAny (model X.prog X.w) X.A (eval b X.env) (λu s₂=>wpAny (model X.prog X.w) X.A (f v u) Q X.xe s₂) X.xe s₁) X.xe s:=by
 refine thn (ha pins s Z H _ I h) λv s1 hq1=>?_;let(x,H1,I1,r1,q1):=hq1;refine thn (hb pins s1 Z H1 _ I1 q1) λu s2 hq1=>?_;let(y,H2,I2,r2,q2):=hq1;exact hf v u s2 x y H2 I2 r1 r2 q2
def qlr(i:Nat):TE:=λZ H Q=>∃v,Z[i]?=some (some v)/\Q v H
def tC(v:V):TE:=λ_ H Q=>Q v H
def qb4{i:Nat}{x:Str}{pos:Pos}(hN:X.N[i]?=some x)(hv:Vis X.env.scope x)(hd:(x == ("__debug__" : Str))=false:=by decide)(hcd:(x == ("__classdict__" : Str))=false:=by decide):PE X (.Name x pos) (qlr i):=by
 intro pins s Z H Q I h;let(v,e,h):=h;let(m,hn,hl):=I.loc;let(u,r,l):=hl i x v hN e hv;have fin:EP X pins Z Q u s:=⟨v,H,I,r,h⟩;rcases l with ⟨hk,hm⟩|⟨hk,c,hc,hcell⟩
 ·exact wpAny_Name (wpAny_loadName_local I.ok.kind hk hn hm fin) hd
 ·rcases hk with hk|hk
  ·exact wpAny_Name (wpAny_loadName_cell I.ok.kind hk hc hcell fin) hd
  ·exact wpAny_Name (wpAny_loadName_free I.ok.kind hk hc hcell fin hcd) hd
def Qv{i j pos}:PE X (.Constant (.int i) j pos) (tC (.int i)):=λ_ _ _ H _ I h=>wpAny_Constant_int ⟨.int i,H,I.tok _,⟨_,rfl⟩,h⟩
def qlG{b j pos}:PE X (.Constant (.bool b) j pos) (tC (.bl b)):=λ_ _ _ H _ I h=>Constant_bool ⟨.bl b,H,I,rfl,h⟩
def qiu{j pos}:PE X (.Constant .none j pos) (tC .non):=λ_ _ _ H _ I h=>Constant_none ⟨.non,H,I,rfl,h⟩
def qiv{x j pos}:PE X (.Constant (.str x) j pos) (tC (.str x)):=λ_ _ _ H _ I h=>Calls.Constant_str ⟨.str x,H,I.tok _,⟨_,rfl⟩,h⟩
def Gl(X:Cx)(x:Str):Prop:=X.env.kindOf x=some .globalImplicit
def yx{E:PQ}{pins:PP}{s:Shared}{Z:St}{H:Hp}{x:Str}{u:Value}{pos:Pos}{Q:PQ}(I:Inv X pins Z H s)(hg:Gl X x)(hm:X.mg x=some u)(h:Q u s)
  (hd:(x == ("__debug__" : Str))=false:=by decide):wpAny (model X.prog X.w) X.A (eval (.Name x pos) X.env) Q E s:=
 Calls.Name_function_global I.ok.kind hg (Calls.loadGlobal_global (by rw[I.ok.glob];exact I.mod.glob.keeps I.bk) hm h) hd
def yI{E:PQ}{pins:PP}{s:Shared}{Z:St}{H:Hp}{x:Str}{u:Value}{pos:Pos}{Q:PQ}(I:Inv X pins Z H s)(hg:Gl X x)(hm:X.mg x=none)(hv:bootBuiltins x=some u)(h:Q u s)
  (hn:x≠"__name__":=by decide) (hd:(x == ("__debug__" : Str))=false:=by decide):wpAny (model X.prog X.w) X.A (eval (.Name x pos) X.env) Q E s:=by
 let(mb,h1,h2):=I.mod.blt;exact Calls.Name_function_global I.ok.kind hg (Calls.loadGlobal_builtin (by rw[I.ok.glob];exact I.mod.glob.keeps I.bk) hm (by rw[I.ok.blt];exact h1.keeps I.bk) ((h2 x hn).trans hv) h) hd
def Jq{x:Str}{v:V}{u:Value}{pos:Pos}(hg:Gl X x)(hm:X.mg x=some u)(r:qF v u)(hd:(x == ("__debug__" : Str))=false:=by decide):PE X (.Name x pos) (tC v):=
 λ_ _ _ H _ I h=>yx I hg hm ⟨v,H,I,r,h⟩ hd
def yy{x:Str}{v:V}{u:Value}{pos:Pos}(hg:Gl X x)(hm:X.mg x=none)(hv:bootBuiltins x=some u)(r:qF v u)(hn:x≠"__name__":=by decide)(hd:(x == ("__debug__" : Str))=false:=by decide):PE X (.Name x pos) (tC v):=
 λ_ _ _ H _ I h=>yI I hg hm hv ⟨v,H,I,r,h⟩ hn hd
variable{a b:Expr}{ta tb:TE}{pos:Pos}
def tB(t:TE):TT:=λZ H Q=>t Z H λx H1=>∃c,x=.bl c/\Q c H1
def qas{e:Expr}{t:TE}(h:PE X e t)(he:∀whole,isTrue e X.env whole=(do let v<-whole;standAt e.pos;holding [v] (truthy v)):=by intro _;rfl):PT X e (tB t):=by intro pins s Z H Q I hw;refine isTrue_plain (thn (h pins s Z H _ I hw) λv s1 ⟨x,H1,I1,r1,q1⟩=>?_) (he _);let(d,rfl,q):=q1;cases r1;exact wpAny_truthy_bool ⟨H1,I1,q⟩
variable{tA tB':TT}{rest:List Expr}
def qnq(t:TT):TT:=λZ H Q=>t Z H λc H1=>Q (!c) H1
theorem qgm(ha:PT X a tA):PW X (.BoolOp .And [a] pos) tA:=by
 intro wh pins s Z H Q I h;refine isTrue_and (thn (ha pins s Z H Q I h) λc s1 e=>?_)
 cases c with
 |true=>exact isTrue_and_nil e
 |false=>exact e
theorem qiw(ha:PT X a tA):PW X (.BoolOp .Or [a] pos) tA:=by
 intro wh pins s Z H Q I h;refine isTrue_or (thn (ha pins s Z H Q I h) λc s1 e=>?_)
 cases c with
 |false=>exact isTrue_or_nil e
 |true=>exact e
def Qw(ha:PT X a tA):PT X (.UnaryOp .Not a pos) (qnq tA):=by intro pins s Z H Q I h;exact isTrue_not (ha pins s Z H (λc H1=>Q (!c) H1) I h)
def qlH(ta tb:TE):TE:=λZ H Q=>ta Z H λx H1=>∃c,x=.bl c/\if c=true then tb Z H1 Q else Q (.bl false) H1
def qlI(ta:TE):TE:=λZ H Q=>ta Z H λx H1=>∃c,x=.bl c/\Q (.bl (!c)) H1
def qix{op}{t:TE}(h:PE X a t):PE X (.BoolOp op [a] pos) t:=λpins s Z H Q I hw=>BoolOp_one (h pins s Z H Q I hw)
theorem qiy(ha:PE X a ta)(hb:PE X (.BoolOp .And (b::rest) pos) tb):PE X (.BoolOp .And (a::b::rest) pos) (qlH ta tb):=by
 intro pins s Z H Q I h;refine BoolOp_and (thn (ha pins s Z H _ I h) λv s1 hq1=>?_);let(x,H1,I1,r1,q1):=hq1;let(c,rfl,q1):=q1;cases r1;refine wpAny_truthy_bool ?_
 cases c with
 |true=>exact hb pins s1 Z H1 Q I1 q1
 |false=>exact{.bl false,H1,I1,rfl,q1}
def qiz(ha:PE X a ta):PE X (.UnaryOp .Not a pos) (qlI ta):=by intro pins s Z H Q I h;refine UnaryOp_ (thn (ha pins s Z H _ I h) λv s1 hq1=>?_);let(x,H1,I1,r1,q1):=hq1;let(c,rfl,q1):=q1;cases r1;exact not_of (wpAny_truthy_bool ⟨.bl (!c),H1,I1,rfl,q1⟩)
def tIf(t:TT)(ta tb:TE):TE:=λZ H Q=>t Z H λc H1=>if c=true then ta Z H1 Q else tb Z H1 Q
theorem qd5{c:Expr}(hc:PT X c tA)(ha:PE X a ta)(hb:PE X b tb):PE X (.IfExp c a b pos) (tIf tA ta tb):=by
 intro pins s Z H Q I h;refine wpAny_IfExp (thn (hc pins s Z H _ I h) λd s1 hq1=>?_);let(H1,I1,q1):=hq1
 cases d with
 |true=>exact ha pins s1 Z H1 Q I1 q1
 |false=>exact hb pins s1 Z H1 Q I1 q1
end
def SqL(K:Frag)(H:Hp)(a:Addr)(xs:List V):Prop:=
 Rd H a (.lst xs)\/
  ∃(o:Obj) (its:Array Value) (n:Nat),K.lookup a=some o/\o.cls=.type "list"/\o.dict=none/\o.data=.seq its n/\its.size<=sizeLine/\qu xs its.toList
def SqT(K:Frag)(H:Hp)(a:Addr)(xs:List V):Prop:=
 Rd H a (.tup xs)\/
  ∃(o:Obj) (its:Array Value) (n:Nat),K.lookup a=some o/\o.cls=.type "tuple"/\o.data=.seq its n/\its.size<=sizeLine/\qu xs its.toList
def qnr:Value->Option V
 |.none=>some .non
 |.bool b=>some (.bl b)
 |.int i _=>some (.int i)
 |.str x _=>some (.str x)
 |.bytes b _=>some (.byt b)
 |.float b _=>some (.flt b)
 |.ref a=>some (.ref a)
 |.type n=>some (.ty n)
 |_=>none
theorem qF.abs{x:V}{u:Value}(r:qF x u):qnr u=some x:=by
 cases x with
 |non=>cases r;rfl
 |bl _=>cases r;rfl
 |int _=>let(t,rfl):=r;rfl
 |str _=>let(t,rfl):=r;rfl
 |byt _=>let(t,rfl):=r;rfl
 |flt _=>let(t,rfl):=r;rfl
 |ref _=>cases r;rfl
 |ty _=>cases r;rfl
def qF.inj{x y:V}{u:Value}(r:qF x u)(q:qF y u):x=y:=Option.some.inj (r.abs.symm.trans q.abs)
theorem qu.inj:∀{xs ys:List V} {us:List Value},qu xs us->qu ys us->xs=ys
 |_,_,_,.nil,.nil=>rfl
 | _,_,_,.cons r t,.cons r' t'=>by rw[r.inj r',qu.inj t t']
section
variable{X:Cx}{pins:PP}{Z:St}{H:Hp}{s:Shared}{a:Addr}{xs ys:List V}
def SqL.of{K:Frag}(h:H a=some (.lst xs)):SqL K H a xs:=.inl (.inl h)
def SqT.of{K:Frag}(h:H a=some (.tup xs)):SqT K H a xs:=.inl (.inl h)
def Inv.list(I:Inv X pins Z H s)(h:SqL X.K H a xs):∃its:List Value,qu xs its/\PlainL s.heap a its.toArray/\xs.length<=sizeLine:=by
 rcases h with h|⟨o,its,n,hk,hc,hd,hs,hz,r⟩
 ·let(z,its,n,r,e):=h.ok I.hok;exact{its,r,{_,n,e,rfl,rfl,rfl},z}
 ·refine{its.toList,r,{o,n,I.kIn a o hk,hc,hd,(-hs:)},?_};have e:=r.length;simp![Array.length_toList]at e
  lia
def Inv.tuple(I:Inv X pins Z H s)(h:SqT X.K H a xs):∃its:List Value,qu xs its/\IsTup s.heap a its.toArray/\xs.length<=sizeLine:=by
 rcases h with h|⟨o,its,n,hk,hc,hs,hz,r⟩
 ·let(z,its,r,p):=h.ok I.hok;exact⟨its,r,p,z⟩
 ·refine{its.toList,r,{o,I.kIn a o hk,hc,n,(-hs:)},?_};have e:=r.length;simp![Array.length_toList]at e
  lia
def Inv.list_inj(I:Inv X pins Z H s)(h:SqL X.K H a xs)(h':SqL X.K H a ys):xs=ys:=by
 let(its,r,(o,n,e,_,_,d),_):=I.list h;let(its',r',(o',n',e',_,_,d'),_):=I.list h';rw[e]at e';cases e';rw[d]at d';injection d' with d1 _
 have:its=its':=by simpa using congrArg Array.toList d1
 subst this;exact r.inj r'
def Inv.tuple_inj(I:Inv X pins Z H s)(h:SqT X.K H a xs)(h':SqT X.K H a ys):xs=ys:=by
 let(its,r,(o,e,_,n,d),_):=I.tuple h;let(its',r',(o',e',_,n',d'),_):=I.tuple h';rw[e]at e';cases e';rw[d]at d';injection d' with d1 _
 have:its=its':=by simpa using congrArg Array.toList d1
 subst this;exact r.inj r'
end
abbrev Cx.wish(X:Cx)(E:PQ):Cx:={ X with xe:=E }
abbrev Cx.nox(X:Cx):Cx:=X.wish λ_ _=>False
def Cx.Ok.wish{X:Cx}(ok:X.Ok)(E:PQ):(X.wish E).Ok:=
 ⟨ok.mod,ok.kind,ok.glob,ok.blt,ok.above,ok.inj,ok.has,ok.cab,ok.hd,ok.frames,ok.stk,ok.exf,ok.bs,ok.bsz,ok.noex,ok.exfs,ok.funs,ok.frf⟩
def Cx.Ok.unwish{X:Cx}{E:PQ}(ok:(X.wish E).Ok):X.Ok:=
 ⟨ok.mod,ok.kind,ok.glob,ok.blt,ok.above,ok.inj,ok.has,ok.cab,ok.hd,ok.frames,ok.stk,ok.exf,ok.bs,ok.bsz,ok.noex,ok.exfs,ok.funs,ok.frf⟩
section
variable{X:Cx}{pins:PP}{Z:St}{H:Hp}{s:Shared}{E:PQ}
def Inv.wish(I:Inv X pins Z H s)(E:PQ):Inv (X.wish E) pins Z H s:={I.ok.wish E,I.os,I.bare,I.base,I.loc,I.cell,I.free,I.freeC,I.pin,I.hok,I.len}
def Inv.unwish(I:Inv (X.wish E) pins Z H s):Inv X pins Z H s:=⟨I.ok.unwish,I.os,I.bare,I.base,I.loc,I.cell,I.free,I.freeC,I.pin,I.hok,I.len⟩
theorem SP.unwish{D:Ends}{f:Flow}{s':Shared}(h:SP (X.wish E) pins D f s'):SP X pins D f s':=by
 cases f with
 |next=>let(Z',H',I,q):=h;exact⟨Z',H',I.unwish,q⟩
 |brk=>let(Z',H',I,q):=h;exact⟨Z',H',I.unwish,q⟩
 |cont=>let(Z',H',I,q):=h;exact⟨Z',H',I.unwish,q⟩
 |ret u=>let(v,Z',H',I,r,q):=h;exact⟨v,Z',H',I.unwish,r,q⟩
def PSs.nox{st:List Stmt}{t:TS}(h:PSs X.nox st t):PSs X st t:=λpins s Z H D I hw=>wpAny_mono (h pins s Z H D (I.wish _) hw) (λ_ _ q=>q.unwish) λ_ _ z=>False.elim z
end
section
variable{X:Cx}{st:Stmt}{rest:List Stmt}{t u:TS}{e:Expr}{te:TE}{pos:Pos}
def qiA:TS:=λD Z H=>D.nx Z H
def qns(t u:TS):TS:=λD Z H=>t { D with nx:=u D } Z H
def Jr:PSs X [] qiA:=λ_ _ Z H _ I h=>wpAny_execs_nil ⟨Z,H,I,h⟩
theorem zf(h1:PS X st t)(h2:PSs X rest u):PSs X (st::rest) (qns t u):=by
 intro pins s Z H D I h;refine wpAny_execs_cons (thn (h1 pins s Z H { D with nx:=u D } I h) λf s1 q=>?_)
 cases f with
 |next=>let(Z',H',I',q):=q;exact h2 pins s1 Z' H' D I' q
 |ret v=>exact q
 |brk=>exact q
 |cont=>exact q
theorem jk(h1:PS X st t):PSs X [st] t:=by
 intro pins s Z H D I h;refine wpAny_execs_cons (thn (h1 pins s Z H D I h) λf s1 q=>?_)
 cases f with
 |next=>exact wpAny_execs_nil q
 |ret v=>exact q
 |brk=>exact q
 |cont=>exact q
def qgn:PS X (.Pass pos) qiA:=λ_ _ Z H _ I h=>wpAny_Pass ⟨Z,H,I,h⟩
def Inv.quiet{pins:PP}{Z:St}{H:Hp}{s:Shared}(I:Inv X pins Z H s):interactive X.env=false:=by simp[interactive,I.ok.kind]
def qlJ(te:TE):TS:=λD Z H=>te Z H λ_ H1=>D.nx Z H1
def yz(he:PE X e te)(hs:swapsWith e none pos.line X.env=pure false:=by rfl):PS X (.Expr e pos) (qlJ te):=by intro pins s Z H D I h;exact wpAny_Expr_any (thn (he pins s Z H _ I h) λv s1 ⟨x,H1,I1,r1,q1⟩=>⟨Z,H1,I1,q1⟩) I.quiet hs
def qnt(te:TE):TS:=λD Z H=>te Z H D.rt
def qb5(he:PE X e te):PS X (.Return (some e) pos) (qnt te):=by intro pins s Z H D I h;exact wpAny_Return_some (thn (he pins s Z H _ I h) λv s1 ⟨x,H1,I1,r1,q1⟩=>⟨x,Z,H1,I1,r1,q1⟩)
def qlK:TS:=λD _ H=>D.rt .non H
def qgo:PS X (.Return none pos) qlK:=λ_ _ Z H _ I h=>wpAny_Return_none ⟨.non,Z,H,I,rfl,h⟩
def qnu(c:TT)(t u:TS):TS:=λD Z H=>c Z H λb H1=>if b=true then t D Z H1 else u D Z H1
theorem qb6{c:Expr}{a b:List Stmt}{tc:TT}(hc:PT X c tc)(ha:PSs X a t)(hb:PSs X b u):PS X (.If c a b pos) (qnu tc t u):=by
 intro pins s Z H D I h;refine wpAny_If (thn (hc pins s Z H _ I h) λd s1 hq1=>?_);let(H1,I1,q1):=hq1
 cases d with
 |true=>exact ha pins s1 Z H1 D I1 q1
 |false=>exact hb pins s1 Z H1 D I1 q1
def qiB:TS:=λ_ _ _=>False
def Jg:PS X st qiB:=λ_ _ _ _ _ _ h=>h.elim
end
abbrev TG:=V->St->Hp->(St->Hp->Prop)->Prop
abbrev TGs:=List V->St->Hp->(St->Hp->Prop)->Prop
def PG(X:Cx)(target:Expr)(t:TG):Prop:=
 ∀(pins:PP) (s:Shared) (Z:St) (H:Hp) (v:V) (u:Value) (Q:St->Hp->Prop),Inv X pins Z H s->qF v u->t v Z H Q->
  wpAny (model X.prog X.w) X.A (assign target X.env u) (λ_ s'=>∃Z' H',Inv X pins Z' H' s'/\Q Z' H') X.xe s
def PGs(X:Cx)(ts:List Expr)(t:TGs):Prop:=
 ∀(pins:PP) (s:Shared) (Z:St) (H:Hp) (vs:List V) (us:List Value) (Q:St->Hp->Prop),Inv X pins Z H s->qu vs us->t vs Z H Q->
  wpAny (model X.prog X.w) X.A (assignInOrder ((assignEach ts X.env).map (·.2)) us) (λ_ s'=>∃Z' H',Inv X pins Z' H' s'/\Q Z' H') X.xe s
abbrev qlL:=V->V->V->Hp->(Hp->Prop)->Prop
def qmS(X:Cx)(t:qlL):Prop:=
 ∀(pins:PP) (s:Shared) (Z:St) (H:Hp) (o i v:V) (ov iv u:Value) (Q:Hp->Prop),Inv X pins Z H s->qF o ov->qF i iv->qF v u->t o i v H Q->
  wpAny (model X.prog X.w) X.A (setItem ov iv u) (λ_ s'=>∃H',Inv X pins Z H' s'/\Q H') X.xe s
section
variable{X:Cx}{pos:Pos}
def qd6(i:Nat):TG:=λv Z H Q=>Q (Z.set i (some v)) H
def qgp{i:Nat}{x:Str}(hN:X.N.Nodup)(hi:X.N[i]?=some x)(hx:Loc X.env.scope x)(hf:X.fn x=true\/X.env.scope.names.lookup x=some .local:=by first|exact .inl rfl|exact .inr rfl|assumption):PG X (.Name x pos) (qd6 i):=by intro pins s Z H v u Q I r h;exact wpAny_assign_Name (qar I hN hi hx r (λs' I'=>{_,H,I',h}) hf)
def qnv:TGs:=λvs Z H Q=>vs=[]/\Q Z H
def qlM(t:TG)(u:TGs):TGs:=λvs Z H Q=>∃v r,vs=v::r/\t v Z H λZ' H'=>u r Z' H' Q
def qgq:PGs X [] qnv:=by intro pins s Z H vs us Q I r h;let(e,h):=h;subst e;cases r;exact assignInOrder_nil ⟨Z,H,I,h⟩
theorem qd7{e:Expr}{es:List Expr}{t:TG}{u:TGs}(h1:PG X e t)(h2:PGs X es u)
  (hs:(assignEach (e::es) X.env).map (·.2)=assign e X.env::(assignEach es X.env).map (·.2):=by rfl):PGs X (e::es) (qlM t u):=by
 intro pins s Z H vs us Q I r h;let(v,vr,e1,h):=h;subst e1
 cases r with
 |cons r rr=>rw[hs];refine assignInOrder_cons (thn (h1 pins s Z H _ _ _ I r h) λ_ s1 hq1=>?_);let(Z1,H1,I1,q1):=hq1;exact h2 pins s1 Z1 H1 _ _ Q I1 rr q1
def qnw(K:Frag)(n:Nat)(t:TGs):TG:=λv Z H Q=>∃a xs,v=.ref a/\SqT K H a xs/\xs.length=n/\t xs Z H Q
def qiC{es:List Expr}{k:Nat}{t:TGs}{n:Nat}(hc:X.calm=true)(h:PGs X es t)
  (hn:(assignEach es X.env).length=n:=by rfl) (hst:(assignEach es X.env).findIdx? (·.1)=none:=by rfl):PG X (.Tuple es k pos) (qnw X.K n t):=by
 intro pins s Z H v u Q I r hw;let(a,xs,e1,hq,hl,hw):=hw;subst e1;cases r;let(its,rv,ht,hz):=I.tuple hq;refine assign_Tuple_tuple (I.ok.hd hc) ht (by simp[hn,<-hl,rv.length]) hst λh' hx=>?_;have I1:Inv X pins Z H { s with heap:=h' }:=I.kept (t':=s.toks) λb o e=>hx b o (Nat.ne_of_lt (Heap.lt_size e)) e;exact h pins _ Z H xs _ Q I1 (-rv:) hw
def qnx(to ti:TE)(t:qlL):TG:=λv Z H Q=>to Z H λo H1=>ti Z H1 λi H2=>t o i v H2 λH3=>Q Z H3
def qiD{o i:Expr}{to ti:TE}{t:qlL}(ho:PE X o to)(hi:PE X i ti)(hs:qmS X t)
  (ha:∀v,assign (.Subscript o i pos) X.env v=(do
   let ov<-holding [v] (eval o X.env)
   let iv<-holding [v,ov] (eval i X.env)
   standAt pos
   holding [v,ov,iv] (setItem ov iv v)
   release [v,ov,iv] []):=by intro _;rfl):PG X (.Subscript o i pos) (qnx to ti t):=by
 intro pins s Z H v u Q I r h;rw[ha];refine wpAny_bind (wpAny_holding (thn (ho pins s Z H _ I h) λov s1 hq1=>?_));let(x,H1,I1,r1,q1):=hq1;refine wpAny_bind (wpAny_holding (thn (hi pins s1 Z H1 _ I1 q1) λiv s2 hq1=>?_));let(y,H2,I2,r2,q2):=hq1;refine wpAny_bind (wpAny_standAt (wpAny_bind (wpAny_holding (thn (hs pins s2 Z H2 x y v ov iv u _ I2 r1 r2 r q2) λ_ s3 hq1=>?_))));let(H3,I3,q3):=hq1;exact wpAny_release ⟨Z,H3,I3,q3⟩
def qlN(te:TE)(g:TG):TS:=λD Z H=>te Z H λx H1=>g x Z H1 D.nx
def qiE{tg e:Expr}{te:TE}{g:TG}(he:PE X e te)(hg:PG X tg g)(hs:swapsWithSole [tg] e pos.line X.env=pure false:=by rfl)(hw:swappedStores [tg] e X.env=pure none:=by rfl)
  (h1:(assignEach [tg] X.env).map (·.2)=[assign tg X.env]:=by rfl):PS X (.Assign [tg] e pos) (qlN te g):=by
 intro pins s Z H D I h;refine wpAny_Assign_stores (thn (he pins s Z H _ I h) λv s1 ⟨x,H1,I1,r1,q1⟩=>?_) hs hw;rw[h1];exact thn (hg pins s1 Z H1 x v _ I1 r1 q1) λ_ s2 q=>q
def qfD{i:Nat}{x:Str}{e:Expr}{te:TE}{pos':Pos}(hN:X.N.Nodup)(hi:X.N[i]?=some x)(hx:Loc X.env.scope x)(he:PE X e te)(hs:swapsWith e (some (.Name x pos')) pos.line X.env=pure false:=by rfl)(hf:X.fn x=true\/X.env.scope.names.lookup x=some .local:=by first|exact .inl rfl|exact .inr rfl|assumption) :
  PS X (.Assign [.Name x pos'] e pos) (qlN te (qd6 i)):=by
 intro pins s Z H D I h;refine wpAny_Assign_Name (thn (he pins s Z H _ I h) λv s1 ⟨y,H1,I1,r1,q1⟩=>?_) hs;exact qar I1 hN hi hx r1 (λs2 I2=>{_,H1,I2,q1}) hf
def qiF(c:TT)(tb:TS):TS:=λD Z H=>∃W:Nat->St->Hp->Prop,(∃m,W m Z H)/\∀m Z H,W m Z H->
 c Z H λb H1=>if b=true then∃N:St->Hp->Prop,(∀Z' H',N Z' H'->∃m',m' < m/\W m' Z' H')/\tb { D with nx:=N,ct:=N,bk:=D.nx } Z H1 else D.nx Z H1
theorem qd8{c:Expr}{body:List Stmt}{tc:TT}{tb:TS}(hp:PassesOwn (model X.prog X.w) X.A X.env X.xe)(hc:PT X c tc)(hb:PSs X body tb):PS X (.While c body [] pos) (qiF tc tb):=by
 intro pins s Z H D I h;let(W,(m0,w0),turn):=h;refine wpAny_While (codeAny_whileLoop (λn s'=>∃Z' H',Inv X pins Z' H' s'/\W n Z' H') ?_ m0 ⟨Z,H,I,w0⟩);rintro n s1 ⟨Z1,H1,I1,w1⟩;refine wpAny_passesOwn hp (thn (hc pins s1 Z1 H1 _ I1 (turn n Z1 H1 w1)) λb s2 hq1=>?_);let(H2,I2,q2):=hq1
 cases b with
 |true=>
  let(N,hN,q2):=q2;rw[if_pos rfl];refine wpAny_passesOwn hp (thn (hb pins s2 Z1 H2 _ I2 q2) λf s3 q3=>?_)
  cases f with
  |next=>let(Z3,H3,I3,n3):=q3;let(m',hm,w3):=hN Z3 H3 n3;exact⟨m',hm,Z3,H3,I3,w3⟩
  |cont=>let(Z3,H3,I3,n3):=q3;let(m',hm,w3):=hN Z3 H3 n3;exact⟨m',hm,Z3,H3,I3,w3⟩
  |brk=>exact q3
  |ret v=>exact q3
 |false=>rw[if_neg Bool.false_ne_true];exact wpAny_execs_nil ⟨Z1,H2,I2,q2⟩
end
structure It where
 go:Nat->Hp->Prop
 yld:Nat->Hp->V->Hp->Prop
 stop:Nat->Hp->Prop
def qbl(X:Cx)(pins:PP)(H:Hp)(b:Addr):Prop:=
 H b=none/\b≠X.env.locals/\b∉X.fs/\(b∈X.ex\/X.s₀.heap.objs.size<=b)/\(∀x c,X.env.cells.lookup x=some c->c≠b)/\∀p∈X.pn++pins,p.1≠b
def Inv.fpOk{X:Cx}{pins:PP}{Z:St}{H H':Hp}{s:Shared}{b:Addr}(I:Inv X pins Z H s)(hb:s.heap.objs.size<=b)(hn:H' b=none):qbl X pins H' b:=by
 refine{hn,Nat.ne_of_gt (Nat.lt_of_lt_of_le I.lt hb),I.nofs hb,.inr (Nat.le_trans I.sz hb),λx c e z=>?_,λp hp z=>?_}
 ·let(v,q):=I.cell x c e;exact absurd (Nat.lt_of_lt_of_le q.lt (by rw[z];exact hb)) (Nat.lt_irrefl _)
 ·exact absurd (Nat.lt_of_lt_of_le (Heap.lt_size (I.pin p hp).1) (by rw[z];exact hb)) (Nat.lt_irrefl _)
structure Turn(P:Program)(w:World)(K:Frag)(tg:Expr)(J:It)(fp:List Addr)(it:Addr)(tn:Nat->Heap->Prop):Prop where
 mem:it∈fp
 obj:∀i h,tn i h->∀b∈fp,∃o,h.get? b=some o/\∀v,o.data≠.cell v
 keep:∀i h h',tn i h->(∀b∈fp,∀o,h.get? b=some o->h'.get? b=some o)->tn i h'
 item:∀(X:Cx),X.prog=P->X.w=w->X.K=K->X.calm=true->∀(i:Nat) (pins:PP) (s:Shared) (Z:St) (H:Hp) (E:PQ),Inv X pins Z H s->(∀b∈fp,qbl X pins H b)->tn i s.heap->J.go i H->
  wpAny (model P w) X.A (pyNext (.ref it)) (λr s1=>∃u,r=some u/\
   wpAny (model P w) X.A (letOwnedTupleGo tg (.ref it) u) (λ_ s2=>∃x H',Inv X pins Z H' s2/\qF x u/\J.yld i H x H'/\tn (i+1) s2.heap/\∀b∈fp,H' b=none) E s1) E s
 done:∀(X:Cx),X.prog=P->X.w=w->X.K=K->X.calm=true->∀(i:Nat) (pins:PP) (s:Shared) (Z:St) (H:Hp) (E:PQ),Inv X pins Z H s->(∀b∈fp,qbl X pins H b)->tn i s.heap->J.stop i H->
  wpAny (model P w) X.A (pyNext (.ref it)) (λr s1=>r=none/\Inv X pins Z H s1) E s
 self:∀(A:Around) (i:Nat) (s:Shared) (Q:PQ) (E:PQ),tn i s.heap->Q (.ref it) s->wpAny (model P w) A (pyIter (.ref it)) Q E s
abbrev TI:=St->Hp->(It->Hp->Prop)->Prop
def PIE(X:Cx)(pins:PP)(Z:St)(tg:Expr)(R:It->Hp->Prop)(itv:Value)(s2:Shared):Prop:=
 ∃(it:Addr) (fp:List Addr) (tn:Nat->Heap->Prop) (J:It) (H':Hp),itv=.ref it/\Inv X pins Z H' s2/\Turn X.prog X.w X.K tg J fp it tn/\tn 0 s2.heap/\(∀b∈fp,qbl X pins H' b)/\R J H'
def PI(X:Cx)(tg iter:Expr)(wi:TI):Prop:=
 ∀(pins:PP) (s:Shared) (Z:St) (H:Hp) (R:It->Hp->Prop),Inv X pins Z H s->wi Z H R->
  wpAny (model X.prog X.w) X.A (eval iter X.env) (λv s1=>wpAny (model X.prog X.w) X.A (pyIter v) (PIE X pins Z tg R) X.xe s1) X.xe s
def qb7{M:Model}{A:Around}{E:PQ}{s:Shared}{tg:Expr}{it:Addr}{u:Value}{o:Obj}{n:String}{vs:Array Value}{Q:Unit->Shared->Prop}(ho:s.heap.get? it=some o)(hc:o.cls=.type n)(hd:o.data=.fields vs)
  (hn:["enumerate","zip","dict_itemiterator","dict_reverseitemiterator","odict_iterator","itertools.zip_longest","itertools.pairwise"].contains n=false) (hQ:Q () s):wpAny M A (letOwnedTupleGo tg (.ref it) u) Q E s:=by
 unfold letOwnedTupleGo
 cases tg<;>first
  | exact wpAny_pure hQ
  | (cases u<;>first
    | exact wpAny_pure hQ
    | (refine wpAny_bind (wpAny_load ho ?_)
       rw[hc,hd];show wpAny M A (if (["enumerate","zip","dict_itemiterator","dict_reverseitemiterator","odict_iterator","itertools.zip_longest","itertools.pairwise"].contains n&&vs[0]? == some (rawInt _))=true then _ else _) Q E s;rw[if_neg (by intro h;rw[hn,Bool.false_and]at h;cases h)];exact wpAny_pure hQ))
def Itl(K:Frag)(a:Addr):It:=
 ⟨λi H=>∃xs x,SqL K H a xs/\xs[i]?=some x,λi H x H'=>H'=H/\∀xs,SqL K H a xs->xs[i]?=some x,λi H=>∃xs,SqL K H a xs/\xs.length<=i⟩
def Itt(K:Frag)(a:Addr):It:=
 ⟨λi H=>∃xs x,SqT K H a xs/\xs[i]?=some x,λi H x H'=>H'=H/\∀xs,SqT K H a xs->xs[i]?=some x,λi H=>∃xs,SqT K H a xs/\xs.length<=i⟩
def Itr(lo:Int)(n:Nat):It:={λi _=>i < n,λi H x H'=>H'=H/\x=.int (lo+i),λi _=>n<=i}
def qb8{P:Program}{w:World}{K:Frag}{tg:Expr}(a it:Addr):Turn P w K tg (Itl K a) [it] it (λi h=>h.IsListIter it a i) where
 mem:=by simp
 obj:=λi h st b hb=>by
  have e:b=it:=(-hb:)
  subst e;let(o,e,c,d):=st;exact{o,e,λv z=>by rw[d]at z;cases z}
 keep:=λi h h' st k=>st.at λo e=>k it (5:) o e
 item:=by intro X hP hw hK hc i pins s Z H E I hf st hg;subst hP hw hK;let(xs,x,hq,hx):=hg;let(its,rv,p,hz):=I.list hq;let(u,hu,ru):=rv.get hx;let(f0,f1,f2,f3,f4,f5):=hf it (5:);refine wpAny_pyNext_list_item st p.isList (x:=u) (-hu:) λh' st' sb=>?_;have I1:Inv X pins Z H { s with heap:=h' }:=I.turned (t':=s.toks) (λb o hb e=>(sb.2 b hb).trans e) f0 f1 f3 f4 f5;let(o,e,c,d):=id st';exact{u,rfl,qb7 (s:={ s with heap:=h' }) e c d (2:) ⟨x,H,I1,ru,⟨rfl,λys hy=>by rw[I.list_inj hy hq];exact hx⟩,st',λb hb=>(hf b hb).1⟩}
 done:=by intro X hP hw hK hc i pins s Z H E I hf st hg;subst hP hw hK;let(xs,hq,hx):=hg;let(its,rv,p,hz):=I.list hq;let(f0,f1,f2,f3,f4,f5):=hf it (5:);have hl:=rv.length;exact wpAny_pyNext_list_end (I.ok.hd hc) st p.isList (by simp;lia) λh' eb=>{rfl,I.turned (t':=s.toks) (λb o hb e=>eb b o hb e) f0 f1 f3 f4 f5}
 self:=λ_ _ _ _ _ st h=>wpAny_pyIter_listiter st h
def qbm{P:Program}{w:World}{K:Frag}{tg:Expr}(a it:Addr):Turn P w K tg (Itt K a) [it] it (λi h=>h.IsTupleIter it a i) where
 mem:=by simp
 obj:=λi h st b hb=>by
  have e:b=it:=(-hb:)
  subst e;let(o,e,c,d):=st;exact{o,e,λv z=>by rw[d]at z;cases z}
 keep:=λi h h' st k=>st.at λo e=>k it (5:) o e
 item:=by intro X hP hw hK hc i pins s Z H E I hf st hg;subst hP hw hK;let(xs,x,hq,hx):=hg;let(its,rv,p,hz):=I.tuple hq;let(u,hu,ru):=rv.get hx;let(f0,f1,f2,f3,f4,f5):=hf it (5:);refine wpAny_pyNext_tuple_item st (show s.heap.IsTuple a its.toArray from p) (x:=u) (-hu:) λh' st' sb=>?_;have I1:Inv X pins Z H { s with heap:=h' }:=I.turned (t':=s.toks) (λb o hb e=>(sb.2 b hb).trans e) f0 f1 f3 f4 f5;let(o,e,c,d):=id st';exact{u,rfl,qb7 (s:={ s with heap:=h' }) e c d (2:) ⟨x,H,I1,ru,⟨rfl,λys hy=>by rw[I.tuple_inj hy hq];exact hx⟩,st',λb hb=>(hf b hb).1⟩}
 done:=by intro X hP hw hK hc i pins s Z H E I hf st hg;subst hP hw hK;let(xs,hq,hx):=hg;let(its,rv,p,hz):=I.tuple hq;let(f0,f1,f2,f3,f4,f5):=hf it (5:);have hl:=rv.length;exact wpAny_pyNext_tuple_end (I.ok.hd hc) st (show s.heap.IsTuple a its.toArray from p) (by simp;lia) λh' eb=>{rfl,I.turned (t':=s.toks) (λb o hb e=>eb b o hb e) f0 f1 f3 f4 f5}
 self:=λ_ _ _ _ _ st h=>wpAny_pyIter_tupleiter st h
def qbn{P:Program}{w:World}{K:Frag}{tg:Expr}(it:Addr)(lo:Int)(n:Nat):Turn P w K tg (Itr lo n) [it] it (λi h=>IsRangeIter h it (lo+(i:Nat) * 1) ((n:Int) - (i:Nat)) 1) where
 mem:=by simp
 obj:=λi h st b hb=>by
  have e:b=it:=(-hb:)
  subst e
  exact{_,st,λv z=>by have z':Data.fields _=Data.cell v:=z;cases z'}
 keep:=λi h h' st k=>k it (5:) _ st
 item:=by intro X hP hw hK hc i pins s Z H E I hf st hg;subst hP hw hK;let(f0,f1,f2,f3,f4,f5):=hf it (5:);have W:=Walks.range (prog:=X.prog) (w:=X.w) (I.ok.hd hc) it lo 1 n;refine W.item i s _ _ hg st λv h' tk hv st' kk=>?_;let(t,rfl):=hv;have I1:Inv X pins Z H { s with heap:=h',toks:=tk }:=I.turned (λb o hb e=>kk b o (-hb:) e) f0 f1 f3 f4 f5;refine{_,rfl,qb7 (s:={ s with heap:=h',toks:=tk }) (n:="range_iterator") st' rfl rfl (2:) ⟨.int (lo+i),H,I1,⟨t,?_⟩,⟨rfl,rfl⟩,st',λb hb=>(hf b hb).1⟩};rw[Int.mul_one]
 done:=by intro X hP hw hK hc i pins s Z H E I hf st hg;subst hP hw hK;let(f0,f1,f2,f3,f4,f5):=hf it (5:);exact wpAny_pyNext_range_end (I.ok.hd hc) st (by have:n<=i:=hg;lia) λh' eb=>{rfl,I.turned (t':=s.toks) (λb o hb e=>eb b o hb e) f0 f1 f3 f4 f5}
 self:=λ_ _ _ _ _ st h=>wpAny_pyIter_rangeiter st h
section
variable{X:Cx}{tg:Expr}
def qat{pins:PP}{Z:St}{H:Hp}{s:Shared}{R:It->Hp->Prop}{E:PQ}{lo hi:Int}{t u v:Tok}{tk:Nat}(I:Inv X pins Z H s)(h1:-(2 ^ 62)<=lo)(h2:lo < 2 ^ 62)(h3:-(2 ^ 62)<=hi)(h4:hi < 2 ^ 62)
  (q:R (Itr lo (hi - lo).toNat) H):wpAny (model X.prog X.w) X.A (pyIter (.ref s.heap.objs.size)) (PIE X pins Z tg R) E { s with heap:=s.heap.push { cls:=.type "range",data:=.fields #[.int lo t,.int hi u,.int 1 v] },toks:=tk }:=by
 refine wpAny_pyIter_range (IsRange.new ..) (small_one h1 h2 h3 h4) ?_;have I1:Inv X pins Z H { s with heap:=s.heap.push { cls:=.type "range",data:=.fields #[.int lo t,.int hi u,.int 1 v] },toks:=tk }:=I.kept λb o e=>Heap.get?_push_of_some _ e
 refine{(s.heap.push { cls:=.type "range",data:=.fields #[.int lo t,.int hi u,.int 1 v] }).objs.size,[(s.heap.push { cls:=.type "range",data:=.fields #[.int lo t,.int hi u,.int 1 v] }).objs.size],_,_,H,rfl,
  I1.kept (t':=tk) λb o e=>Heap.get?_push_of_some _ e,qbn _ lo (hi - lo).toNat,?_,λb hb=>?_,q}
 ·have e1:lo+((0:Nat):Int) * 1=lo:=by simp
  have e2:(((hi - lo).toNat:Nat):Int) - ((0:Nat):Int)=Builtin.Range.rangeSize lo hi 1:=by rw[rangeSize_one];split<;>lia
  show IsRangeIter _ _ (lo+((0:Nat):Int) * 1) ((((hi - lo).toNat:Nat):Int) - ((0:Nat):Int)) 1;rw[e1,e2];exact Heap.get?_push_size _ rfl
 ·have e:b=(s.heap.push { cls:=.type "range",data:=.fields #[.int lo t,.int hi u,.int 1 v] }).objs.size:=(-hb:)
  subst e;exact I1.fpOk (Nat.le_refl _) (I1.hok.fresh (Nat.le_refl _))
def qlO(ta:TA):TI:=λZ H R=>ta Z H λvs H1=>∃j:Int,vs=[.int j]/\-(2 ^ 62)<=j/\j < 2 ^ 62/\R (Itr 0 j.toNat) H1
def qlP(ta:TA):TI:=λZ H R=>ta Z H λvs H1=>∃i j:Int,vs=[.int i,.int j]/\(-(2 ^ 62)<=i/\i < 2 ^ 62/\-(2 ^ 62)<=j/\j < 2 ^ 62)/\R (Itr i (j - i).toNat) H1
theorem qb9{a:Expr}{ta:TA}{p pos:Pos}(hg:Gl X "range")(hm:X.mg "range" = none)(ha:PA X [a] ta)(hs:starEach [a] X.env=[(false,eval a X.env)]:=by rfl):PI X tg (.Call (.Name "range" p) [a] [] pos) (qlO ta):=by
 intro pins s Z H R I h;refine Call_ (yI I hg hm boot_range (PyProof.Rows.callWith_type1 (thn (ha pos pins s Z H _ I h) λus s1 ⟨vs,H1,I1,r1,q1⟩=>?_) hs rfl));let(j,e,q1,q2,q):=q1;subst e
 cases r1 with
 |cons r rr=>cases rr;let(t,rfl):=r;exact call_range_1 (qat I1 (1:) (1:) q1 q2 (-q:))
theorem qca{a b:Expr}{ta:TA}{p pos:Pos}(hg:Gl X "range")(hm:X.mg "range" = none)(ha:PA X [a,b] ta)(hs:starEach [a,b] X.env=[(false,eval a X.env),(false,eval b X.env)]:=by rfl)(hs2:starEach [b] X.env=[(false,eval b X.env)]:=by rfl) :
  PI X tg (.Call (.Name "range" p) [a,b] [] pos) (qlP ta):=by
 intro pins s Z H R I h;refine Call_ (yI I hg hm boot_range (PyProof.Rows.callWith_type1 (thn (ha pos pins s Z H _ I h) λus s1 ⟨vs,H1,I1,r1,q1⟩=>?_) (by rw[hs,hs2]) (by rw[hs2];rfl)));let(i,j,e,(q1,q2,q3,q4),q):=q1;subst e
 cases r1 with
 |cons r rr=>
  cases rr with
  | cons r' rr=>cases rr;let(t,rfl):=r;let(t',rfl):=r';exact call_range_2 (qat I1 q1 q2 q3 q4 q)
def qny(wi:TI)(g:TG)(tb:TS):TS:=λD Z H=>wi Z H λJ H1=>∃W:Nat->Nat->St->Hp->Prop,(∃m,W 0 m Z H1)/\∀i m Z H,W i m Z H->
 (J.stop i H/\D.nx Z H)\/(J.go i H/\∃N:St->Hp->Prop,(∀Z' H',N Z' H'->∃m',m' < m/\W (i+1) m' Z' H')/\∀x H',J.yld i H x H'->g x Z H' λZ2 H2=>tb { D with nx:=N,ct:=N,bk:=D.nx } Z2 H2)
def Qx(fp:List Addr)(h:Heap):List (Addr×Obj):=fp.filterMap λb=>(h.get? b).map λo=>(b,o)
def jD{fp:List Addr}{h:Heap}{b:Addr}{o:Obj}(hb:b∈fp)(e:h.get? b=some o):(b,o)∈Qx fp h:=List.mem_filterMap.mpr ⟨b,hb,by rw[e];rfl⟩
theorem qcb{fp:List Addr}{h:Heap}{p:Addr×Obj}(hp:p∈Qx fp h):p.1∈fp/\h.get? p.1=some p.2:=by
 let(b,hb,e):=List.mem_filterMap.mp hp
 cases q:h.get? b with
 |none=>rw[q]at e;cases e
 |some o=>rw[q]at e;have e':(b,o)=p:=Option.some.inj e;subst e';exact⟨hb,q⟩
def Inv.pinned{pins:PP}{Z:St}{H:Hp}{s:Shared}{fp:List Addr}(I:Inv X pins Z H s)(hf:∀b∈fp,qbl X pins H b)(ho:∀b∈fp,∃o,s.heap.get? b=some o/\∀v,o.data≠.cell v):Inv X (pins++Qx fp s.heap) Z H s:=
 I.pins_of λp hp=>(List.mem_append.mp hp).elim (λz=>I.pin p (List.mem_append_right _ z)) λz=>by let(hb,e):=qcb z;let(f0,f1,f2,_):=hf p.1 hb;let(o,e',d):=ho p.1 hb;rw[e]at e';cases e';exact⟨e,f0,f1,f2,d⟩
def Inv.unpinned{pins pl:PP}{Z:St}{H:Hp}{s:Shared}(I:Inv X (pins++pl) Z H s):Inv X pins Z H s:=I.pins_of λp hp=>I.pin p (List.mem_append_right _ (List.mem_append_left _ hp))
def qiG{iter:Expr}{body:List Stmt}{wi:TI}{g:TG}{tb:TS}{pos:Pos}(hp:PassesOwn (model X.prog X.w) X.A X.env X.xe)(hc:X.calm=true)(hi:PI X tg iter wi)(hg:PG X tg g)(hb:PSs X body tb)
  (hs:∀x,foldedSetIterable iter X.env x=pure x:=by intro _;rfl):PS X (.For tg iter body [] pos) (qny wi g tb):=by
 intro pins s Z H D I h;refine wpAny_For (thn (hi pins s Z H _ I h) λv s1 h1=>thn h1 λitv s2 h2=>?_) hs;let(it,fp,tn,J,H2,e,I2,T,st2,f2,W,(m0,w0),turn):=h2;subst e;have stat:∀{H':Hp},(∀b∈fp,H' b=none)->∀b∈fp,qbl X pins H' b:=λhn b hb=>{hn b hb,(f2 b hb).2};refine codeAny_forLoop_any (λn s'=>∃i Z' H',Inv X pins Z' H' s'/\tn i s'.heap/\(∀b∈fp,H' b=none)/\W i n Z' H') ?_ m0 ⟨0,Z,H2,I2,st2,λb hb=>(f2 b hb).1,w0⟩;rintro n s3 ⟨i,Z3,H3,I3,st3,fr3,w3⟩;rcases turn i n Z3 H3 w3 with ⟨stop,qn⟩|⟨go,N,hN,step⟩
 ·refine wpAny_passesOwn hp (thn (T.done X rfl rfl rfl hc i pins s3 Z3 H3 X.xe I3 (stat fr3) st3 stop) λr s4 hq1=>?_);let(hr,I4):=hq1;subst hr;exact wpAny_execs_nil ⟨Z3,H3,I4,qn⟩
 ·refine wpAny_passesOwn hp (thn (T.item X rfl rfl rfl hc i pins s3 Z3 H3 X.xe I3 (stat fr3) st3 go) λr s4 hq1=>?_);let(u,hr,h4):=hq1;subst hr;refine wpAny_passesOwn hp (thn h4 λ_ s5 hq1=>?_);let(x,H5,I5,r5,y5,st5,fr5):=hq1;have I5':=I5.pinned (stat fr5) (T.obj _ _ st5);refine wpAny_passesOwn hp (thn (hg _ s5 Z3 H5 x u _ I5' r5 (step x H5 y5)) λ_ s6 hq1=>?_);let(Z6,H6,I6,q6):=hq1;refine wpAny_passesOwn hp (thn (hb _ s6 Z6 H6 _ I6 q6) λf s7 q7=>?_)
  have again:∀{Z7:St} {H7:Hp},Inv X (pins++Qx fp s5.heap) Z7 H7 s7->N Z7 H7->∃m,m < n/\∃i Z' H',Inv X pins Z' H' s7/\tn i s7.heap/\(∀b∈fp,H' b=none)/\W i m Z' H':=λ{Z7 H7} I7 n7=>by let(m',hm,w7):=hN Z7 H7 n7;refine{m',hm,i+1,Z7,H7,I7.unpinned,T.keep _ _ _ st5 λb hb o e=>(I7.pin (b,o) (List.mem_append_right _ (List.mem_append_right _ (jD hb e)))).1,λb hb=>?_,w7};let(o,e,d):=T.obj _ _ st5 b hb;exact(I7.pin (b,o) (List.mem_append_right _ (List.mem_append_right _ (jD hb e)))).2.1
  cases f with
  |next=>let(Z7,H7,I7,n7):=q7;exact again I7 n7
  |cont=>let(Z7,H7,I7,n7):=q7;exact again I7 n7
  |brk=>let(Z7,H7,I7,q7):=q7;exact⟨Z7,H7,I7.unpinned,q7⟩
  |ret v=>let(x7,Z7,H7,I7,r7,q7):=q7;exact⟨x7,Z7,H7,I7.unpinned,r7,q7⟩
end
abbrev R2:=V->V->Hp->VK->Prop
def OpR(X:Cx)(f:Value->Value->Sem Value)(r:R2):Prop:=
 ∀(pins:PP) (s:Shared) (Z:St) (H:Hp) (x y:V) (v u:Value) (Q:VK),Inv X pins Z H s->qF x v->qF y u->r x y H Q->
  wpAny (model X.prog X.w) X.A (f v u) (EP X pins Z Q) X.xe s
def UnR(X:Cx)(f:Value->Sem Value)(r:V->Hp->VK->Prop):Prop:=
 ∀(pins:PP) (s:Shared) (Z:St) (H:Hp) (x:V) (v:Value) (Q:VK),Inv X pins Z H s->qF x v->r x H Q->
  wpAny (model X.prog X.w) X.A (f v) (EP X pins Z Q) X.xe s
def qO(X:Cx)(f:Value)(r:List V->Hp->VK->Prop):Prop:=
 ∀(pins:PP) (s:Shared) (Z:St) (H:Hp) (xs:List V) (us:List Value) (Q:VK),Inv X pins Z H s->qu xs us->r xs H Q->
  wpAny (model X.prog X.w) X.A (call f us) (EP X pins Z Q) X.xe s
def qnz(X:Cx)(r:V->Hp->(Bool->Hp->Prop)->Prop):Prop:=
 ∀(pins:PP) (s:Shared) (Z:St) (H:Hp) (x:V) (v:Value) (Q:Bool->Hp->Prop),Inv X pins Z H s->qF x v->r x H Q->
  wpAny (model X.prog X.w) X.A (truthy v) (TP X pins Z Q) X.xe s
def tOp(r:R2)(ta tb:TE):TE:=λZ H Q=>ta Z H λx H1=>tb Z H1 λy H2=>r x y H2 Q
def tUn(r:V->Hp->VK->Prop)(ta:TE):TE:=λZ H Q=>ta Z H λx H1=>r x H1 Q
def rI(C:Int->Int->Prop)(g:Int->Int->V):R2:=λx y H Q=>∃i j,x=.int i/\y=.int j/\C i j/\Q (g i j) H
def rI0(g:Int->Int->V):R2:=λx y H Q=>∃i j,x=.int i/\y=.int j/\Q (g i j) H
def rU(g:Int->V):V->Hp->VK->Prop:=λx H Q=>∃i,x=.int i/\Q (g i) H
section
variable{X:Cx}{a b c:Expr}{ta tb tc:TE}{pos:Pos}
def qlQ(ha:PE X a ta)(hb:PE X b tb){pins:PP}{s:Shared}{Z:St}{H:Hp}{R:V->V->Hp->Prop}(I:Inv X pins Z H s)
  (h:ta Z H λx H1=>tb Z H1 λy H2=>R x y H2) {Q:PQ} {f:Value->Value->Sem Value}
  (hf:∀v u s2 x y H2,Inv X pins Z H2 s2->qF x v->qF y u->R x y H2->wpAny (model X.prog X.w) X.A (f v u) Q X.xe s2) :
  wpAny (model X.prog X.w) X.A (eval a X.env) (λv s₁=>wpAny (model X.prog X.w) X.A (eval b X.env) (λu s₂=>wpAny (model X.prog X.w) X.A (f v u) Q X.xe s₂) X.xe s₁) X.xe s:=by
 refine thn (ha pins s Z H _ I h) λv s1 hq1=>?_;let(x,H1,I1,r1,q1):=hq1;refine thn (hb pins s1 Z H1 _ I1 q1) λu s2 hq1=>?_;let(y,H2,I2,r2,q2):=hq1;exact hf v u s2 x y H2 I2 r1 r2 q2
def qlR{op:Operator}{r:R2}(ho:OpR X (binaryOp op) r)(ha:PE X a ta)(hb:PE X b tb):PE X (.BinOp a op b pos) (tOp r ta tb):=by intro pins s Z H Q I h;exact wpAny_BinOp (qlQ ha hb I h λv u s2 x y H2 I2 rx ry q=>ho pins s2 Z H2 x y v u Q I2 rx ry q)
def qlS{op:UnaryOp}{r:V->Hp->VK->Prop}(ho:UnR X (unaryOp op) r)(ha:PE X a ta):PE X (.UnaryOp op a pos) (tUn r ta):=by intro pins s Z H Q I h;exact UnaryOp_ (thn (ha pins s Z H _ I h) λv s1 ⟨x,H1,I1,r1,q1⟩=>ho pins s1 Z H1 x v Q I1 r1 q1)
def opI{f:Value->Value->Sem Value}{C:Int->Int->Prop}{g:Int->Int->Int}
  (rule:∀(i j:Int) (t u:Tok) (s:Shared) (Q:PQ) (E:PQ),C i j->Q (.int (g i j) s.toks) { s with toks:=s.toks+1 }->wpAny (model X.prog X.w) X.A (f (.int i t) (.int j u)) Q E s) :
  OpR X f (rI C λi j=>.int (g i j)):=by
 intro pins s Z H x y v u Q I rx ry h;let(i,j,rfl,rfl,hc,q):=h;let(t,rfl):=rx;let(t',rfl):=ry;exact rule i j t t' s _ _ hc ⟨.int (g i j),H,I.tok _,⟨_,rfl⟩,q⟩
def qmT{f:Value->Value->Sem Value}{g:Int->Int->Int}
  (rule:∀(i j:Int) (t u:Tok) (s:Shared) (Q:PQ) (E:PQ),Q (.int (g i j) s.toks) { s with toks:=s.toks+1 }->wpAny (model X.prog X.w) X.A (f (.int i t) (.int j u)) Q E s) :
  OpR X f (rI0 λi j=>.int (g i j)):=by
 intro pins s Z H x y v u Q I rx ry h;let(i,j,rfl,rfl,q):=h;let(t,rfl):=rx;let(t',rfl):=ry;exact rule i j t t' s _ _ ⟨.int (g i j),H,I.tok _,⟨_,rfl⟩,q⟩
def qls{f:Value->Value->Sem Value}{g:Int->Int->Bool}
  (rule:∀(i j:Int) (t u:Tok) (s:Shared) (Q:PQ) (E:PQ),Q (.bool (g i j)) s->wpAny (model X.prog X.w) X.A (f (.int i t) (.int j u)) Q E s) :
  OpR X f (rI0 λi j=>.bl (g i j)):=by
 intro pins s Z H x y v u Q I rx ry h;let(i,j,rfl,rfl,q):=h;let(t,rfl):=rx;let(t',rfl):=ry;exact rule i j t t' s _ _ ⟨.bl (g i j),H,I,rfl,q⟩
def qlT(i j:Int):Prop:=j≠0/\j.natAbs < 1073741824
def qnA(i j:Int):Prop:=0<=j/\j<=1000000/\i.natAbs < 2 ^ 64
def qlt(i j:Int):Prop:=(-(2 ^ 64) < i/\i < 2 ^ 64)\/(-(2 ^ 64) < j/\j < 2 ^ 64)
def qlt.ok{i j:Int}(h:qlt i j):IntMulOk i j:=by
 rcases h with ⟨h1,h2⟩|⟨h1,h2⟩
 ·exact .of_left (intBits_le_64 h1 h2)
 ·exact .of_right (intBits_le_64 h1 h2)
def qiH:OpR X (binaryOp .Add) (rI0 λi j=>.int (i+j)):=qmT λ_ _ _ _ _ _ _ q=>add_int q
def qiI:OpR X (binaryOp .Sub) (rI0 λi j=>.int (i - j)):=qmT λ_ _ _ _ _ _ _ q=>sub_int q
def qiJ:OpR X (binaryOp .Mult) (rI qlt λi j=>.int (i * j)):=opI λ_ _ _ _ _ _ _ hc q=>mul_int q hc.ok
def qd9:OpR X (binaryOp .FloorDiv) (rI qlT λi j=>.int (i.fdiv j)):=opI λ_ _ _ _ _ _ _ hc q=>floordiv_int hc.1 q (.inl (PyProof.noPylong_small hc.2))
def qgr:OpR X (binaryOp .Mod) (rI (λ_ j=>j≠0) λi j=>.int (i.fmod j)):=opI λ_ _ _ _ _ _ _ hc q=>mod_int' hc q
def qiK:OpR X (binaryOp .Pow) (rI qnA λi j=>.int (i ^ j.toNat)):=opI λ_ _ _ _ _ _ _ hc q=>pow_int_small hc.1 hc.2.1 hc.2.2 q
def unI{f:Value->Sem Value}{g:Int->Int}
  (rule:∀(i:Int) (t:Tok) (s:Shared) (Q:PQ) (E:PQ),Q (.int (g i) s.toks) { s with toks:=s.toks+1 }->wpAny (model X.prog X.w) X.A (f (.int i t)) Q E s) :
  UnR X f (rU λi=>.int (g i)):=by
 intro pins s Z H x v Q I rx h;let(i,rfl,q):=h;let(t,rfl):=rx;exact rule i t s _ _ ⟨.int (g i),H,I.tok _,⟨_,rfl⟩,q⟩
def qiL:UnR X (unaryOp .USub) (rU λi=>.int (-i)):=unI λ_ _ _ _ _ q=>neg_int q
def qau{pins:PP}{Z:St}{H:Hp}{s:Shared}{Q:VK}{k k':Bool}(I:Inv X pins Z H s)(q:Q (.bl k) H)(e:k=k'):EP X pins Z Q (.bool k') s:=by subst e;exact{.bl k,H,I,rfl,q}
def qlU:OpR X (compareOp .Lt) (rI0 λi j=>.bl (decide (i < j))):=qls λ_ _ _ _ _ _ _ q=>lt_int q
def qlV:OpR X (compareOp .LtE) (rI0 λi j=>.bl (decide (i<=j))):=qls λ_ _ _ _ _ _ _ q=>le_int q
def qlW:OpR X (compareOp .Gt) (rI0 λi j=>.bl (decide (j < i))):=qls λ_ _ _ _ _ _ _ q=>gt_int q
def qlX:OpR X (compareOp .GtE) (rI0 λi j=>.bl (decide (j<=i))):=qls λ_ _ _ _ _ _ _ q=>ge_int q
def qcc:OpR X (compareOp .In) (λx y H Q=>∃i j,x=.str i/\y=.str j/\Q (.bl (!(Builtin.Str.occurrences j i 0 j.length 1).isEmpty)) H):=by intro pins s Z H x y v u Q I rx ry h;let(i,j,rfl,rfl,q):=h;let(t,rfl):=rx;let(t',rfl):=ry;exact in_str (qau I q rfl)
def qiM:OpR X (compareOp .Is) (λx y H Q=>y=.non/\Q (.bl (decide (x=.non))) H):=by
 intro pins s Z H x y v u Q I rx ry h;let(rfl,q):=h;cases ry;refine is_none_gen (qau I q ?_)
 cases x<;>first
  | (cases rx;rfl)
  | (let(t,rfl):=rx;rfl)
def qgs:OpR X (compareOp .IsNot) (λx y H Q=>y=.non/\Q (.bl (!decide (x=.non))) H):=by
 intro pins s Z H x y v u Q I rx ry h;let(rfl,q):=h;cases ry;refine isnot_none_gen (qau I q ?_)
 cases x<;>first
  | (cases rx;rfl)
  | (let(t,rfl):=rx;rfl)
def Qy:OpR X (compareOp .NotIn) (λx y H Q=>∃i j,x=.str i/\y=.str j/\Q (.bl (!(!(Builtin.Str.occurrences j i 0 j.length 1).isEmpty))) H):=by intro pins s Z H x y v u Q I rx ry h;let(i,j,rfl,rfl,q):=h;let(t,rfl):=rx;let(t',rfl):=ry;exact notIn_str (qau I q rfl)
def qgt{op:CmpOp}{r:R2}(ho:OpR X (compareOp op) r)(ha:PE X a ta)(hb:PE X b tb)(hm:behindInMarks op b=false):PE X (.Compare a [op] [b] pos) (tOp r ta tb):=by intro pins s Z H Q I h;exact wpAny_Compare1 (qlQ ha hb I h λv u s2 x y H2 I2 rx ry q=>ho pins s2 Z H2 x y v u Q I2 rx ry q) hm
def qiN(t:TE):TT:=λZ H Q=>t Z H λx H'=>∃k,x=.bl k/\Q k H'
def qgu{op:CmpOp}{r:R2}(ho:OpR X (compareOp op) r)(ha:PE X a ta)(hb:PE X b tb)(hm:behindInMarks op b=false):PT X (.Compare a [op] [b] pos) (qiN (tOp r ta tb)):=by
 intro pins s Z H Q I h
 refine wpAny_isTrue_Compare1 (thn (ha pins s Z H _ I h) λv s1 ⟨x,H1,I1,r1,q1⟩=>thn (hb pins s1 Z H1 _ I1 q1) λu s2 ⟨y,H2,I2,r2,q2⟩=>thn (ho pins s2 Z H2 x y v u _ I2 r1 r2 q2) λc s3 ⟨z,H3,I3,r3,k,e,q3⟩=>?_) hm
 subst e;cases r3;exact wpAny_truthy_bool ⟨H3,I3,q3⟩
def qiO(r r':R2)(ta tb tc:TE):TE:=λZ H Q=>ta Z H λx H1=>tb Z H1 λy H2=>r x y H2 λz H3=>∃k,z=.bl k/\
 (if k=true then tc Z H3 λw' H4=>r' y w' H4 Q else Q (.bl false) H3)
theorem qea{op op':CmpOp}{r r':R2}(ho:OpR X (compareOp op) r)(ho':OpR X (compareOp op') r')(ha:PE X a ta)(hb:PE X b tb)(hc:PE X c tc)
  (hm:lastMarks [op,op'] [b,c]=false:=by with_unfolding_all rfl):PT X (.Compare a [op,op'] [b,c] pos) (qiN (qiO r r' ta tb tc)):=by
 intro pins s Z H Q I h
 refine isTrue_chain (thn (ha pins s Z H _ I h) λv s1 ⟨x,H1,I1,r1,q1⟩=>test_link (thn (hb pins s1 Z H1 _ I1 q1) λu s2 ⟨y,H2,I2,r2,q2⟩=>thn (ho pins s2 Z H2 x y v u _ I2 r1 r2 q2) λd s3 ⟨z,H3,I3,r3,k,e,q3⟩=>?_)) hm
 subst e;cases r3;refine wpAny_truthy_bool ?_
 cases k with
 |false=>let(k',e',q'):=q3;cases e';exact ite_ff ⟨H3,I3,q'⟩
 |true=>refine ite_tt (test_last (thn (hc pins s3 Z H3 _ I3 q3) λw' s4 ⟨z',H4,I4,r4,q4⟩=>thn (ho' pins s4 Z H4 y z' u w' _ I4 r2 r4 q4) λd' s5 hq1=>?_));let(z2,H5,I5,r5,k2,e2,q5):=hq1;subst e2;cases r5;exact wpAny_truthy_bool ⟨H5,I5,q5⟩
def qlu(K:Frag)(x:V)(H:Hp)(k:Bool):Prop:=
 match x with
 |.non=>k=false
 |.bl b=>k=b
 |.int i=>k=(i != 0)
 |.str y=>y.length<=sizeLine/\k=((y.length:Int) != 0)
 |.byt y=>y.size<=sizeLine/\k=((y.size:Int) != 0)
 |.ref p=>(∃xs,SqL K H p xs/\k = !xs.isEmpty)\/(∃xs,SqT K H p xs/\k = !xs.isEmpty)\/∃kvs,H p=some (.dK kvs)/\k = !kvs.isEmpty
 |_=>False
def qbo{U:Type}{kvs:List (U×V)}{vs:List (U×Value)}(r:KV kvs vs):(!vs.isEmpty) = !kvs.isEmpty:=by cases r<;>rfl
def Yc{xs:List V}{its:List Value}(r:qu xs its):(!its.toArray.isEmpty) = !xs.isEmpty:=by cases r<;>simp
def Js:(sizeLine:Nat) < 2 ^ 63:=by rw[sizeLine_eq];decide
theorem qiP:qnz X (λx H Q=>∃k,qlu X.K x H k/\Q k H):=by
 intro pins s Z H x v Q I rx h;let(k,e,q):=h;have hl:=Js;have hs:sizeLine=16777216:=sizeLine_eq
 cases x with
 |non=>cases rx;have e':k=false:=e;subst e';exact truthy_none ⟨H,I,q⟩
 |bl b=>cases rx;have e':k=b:=e;subst e';exact wpAny_truthy_bool ⟨H,I,q⟩
 |int i=>let(t,rfl):=rx;have e':k=(i != 0):=e;subst e';exact PySem.P.truthy_int ⟨H,I,q⟩
 |str y=>let(t,rfl):=rx;let(hy,e'):y.length<=sizeLine/\k=((y.length:Int) != 0):=e;subst e';exact PySem.P.truthy_str (1:) ⟨H,I.tok _,q⟩
 |byt y=>let(t,rfl):=rx;let(hy,e'):y.size<=sizeLine/\k=((y.size:Int) != 0):=e;subst e';exact PySem.W.truthy_bytes (1:) ⟨H,I.tok _,q⟩
 |ref p=>
  cases rx;have e':(∃xs,SqL X.K H p xs/\k = !xs.isEmpty)\/(∃xs,SqT X.K H p xs/\k = !xs.isEmpty)\/∃kvs,H p=some (.dK kvs)/\k = !kvs.isEmpty:=e;rcases e' with ⟨xs,hx,e'⟩|⟨xs,hx,e'⟩|⟨kvs,hx,e'⟩
  ·subst e';let(its,r,pl,hz):=I.list hx;have hlen:=r.length;exact wpAny_truthy_list pl.isList (by simp![List.size_toArray];lia) ⟨H,I.tok _,by rw[Yc r];exact q⟩
  ·subst e';let(its,r,pl,hz):=I.tuple hx;have hlen:=r.length;exact truthy_tuple pl (by simp![List.size_toArray];lia) ⟨H,I.tok _,by rw[Yc r];exact q⟩
  ·subst e';let(hz,hS,vs,r,m):kvs.length<=sizeLine/\(p == sysModules)=false/\∃vs,KV kvs vs/\s.heap.DictOf (ZK X.prog X.w) p vs:=I.hok p _ hx;have hlen:kvs.length=vs.length:=Paired.length r;exact wpAny_truthy_dict hS m (1:) ⟨H,I.tok _,by rw[qbo r];exact q⟩
 |_=>exact(show False from e).elim
def qeb(ha:PE X a ta)(he:∀whole,isTrue a X.env whole=(do let v<-whole;standAt a.pos;holding [v] (truthy v))) :
  PT X a (λZ H Q=>ta Z H λx H'=>∃k,qlu X.K x H' k/\Q k H'):=by
 intro pins s Z H Q I h;exact isTrue_plain (thn (ha pins s Z H _ I h) λv s1 ⟨x,H1,I1,r1,q1⟩=>qiP pins s1 Z H1 x v Q I1 r1 q1) (he _)
def qbp:OpR X (binaryOp .Add) (λx y H Q=>∃i j,x=.str i/\y=.str j/\i.length+j.length<=sizeLine/\Q (.str (i++j)) H):=by intro pins s Z H x y v u Q I rx ry h;let(i,j,rfl,rfl,hz,q):=h;let(t,rfl):=rx;let(t',rfl):=ry;exact add_str (λt' tk=>{.str (i++j),H,I.tok _,{_,rfl},q}) hz
theorem yZ{x:V}{us:List Value}(r:qu [x] us):∃u,us=[u]/\qF x u:=by
 cases r with
 |cons r1 r2=>cases r2;exact{_,rfl,r1}
theorem Qz{x y:V}{us:List Value}(r:qu [x,y] us):∃u w',us=[u,w']/\qF x u/\qF y w':=by
 cases r with
 |cons r1 r2=>
  cases r2 with
  |cons r3 r4=>cases r4;exact{_,_,rfl,r1,r3}
def qcd(hc:X.calm=true):qO X (.builtin "max") (λxs H Q=>∃i j,xs=[.int i,.int j]/\Q (.int (if j > i then j else i)) H):=by
 intro pins s Z H xs us Q I r h;let(i,j,rfl,q):=h;let(u,w',rfl,(t,rfl),(t',rfl)):=Qz r;refine max_two_ints (I.ok.hd hc) λh' tk k=>{_,H,I.kept k,?_,q}
 by_cases hj:j > i
 ·rw[if_pos hj,if_pos hj];exact{_,rfl}
 ·rw[if_neg hj,if_neg hj];exact{_,rfl}
def qce(hc:X.calm=true):qO X (.builtin "min") (λxs H Q=>∃i j,xs=[.int i,.int j]/\Q (.int (if j < i then j else i)) H):=by
 intro pins s Z H xs us Q I r h;let(i,j,rfl,q):=h;let(u,w',rfl,(t,rfl),(t',rfl)):=Qz r;refine min_two_ints (I.ok.hd hc) λh' tk k=>{_,H,I.kept k,?_,q}
 by_cases hj:j < i
 ·rw[if_pos hj,if_pos hj];exact{_,rfl}
 ·rw[if_neg hj,if_neg hj];exact{_,rfl}
def QA:qO X (.type "int") (λxs H Q=>(∃i,xs=[.int i]/\Q (.int i) H)\/∃k,xs=[.bl k]/\Q (.int (if k then 1 else 0)) H):=by
 intro pins s Z H xs us Q I r h;rcases h with ⟨i,rfl,q⟩|⟨k,rfl,q⟩
 ·let(u,rfl,t,rfl):=yZ r;exact call_int_int ⟨.int i,H,I,⟨_,rfl⟩,q⟩
 ·let(u,rfl,r1):=yZ r;cases r1;exact call_int_bool ⟨.int (if k then 1 else 0),H,I.tok _,⟨_,rfl⟩,q⟩
end
structure ObjM(h:Heap)(x dx C:Addr)(mA:PR):Prop where
 obj:h.get? x=some (PySem.W.instObj C dx)
 ns:h.Ns1 dx mA
 ne:dx≠x
def QB{h:Heap}{dx:Addr}{mA:PR}(n:h.Ns1 dx mA):∃od,h.get? dx=some od/\∀name,PySem.W.lookIn name od=some (mA name):=by
 let(o,es,ep,ho,hd,hk,_,hm):=n;refine{o,ho,λname=>?_};have e:=hm name;unfold nsFind findBy at e;rw[<-Array.find?_toList]at e;unfold PySem.W.lookIn;rw[hd];dsimp only;split
 ·rename_i y q;rw[q]at e;exact congrArg some e
 ·rename_i q;rw[q]at e
  have a:es.toList.any (·.refKey)=false:=by rw[List.any_eq_false];intro y hy;let(z,t,hkey):=hk y (Array.mem_toList_iff.mp hy);simp[DictEntry.refKey,hkey]
  have a':¬ es.toList.any (·.refKey)=true:=by rw[a];exact Bool.false_ne_true
  rw[if_neg a'];exact congrArg some e
def ObjM.look{h:Heap}{x dx C:Addr}{mA:PR}(I:ObjM h x dx C mA):∃od,PySem.W.InstAt h x (PySem.W.instObj C dx) C (some od)/\∀name,PySem.W.lookIn name od=some (mA name):=
 let ⟨od,ho,hl⟩:=QB I.ns
 ⟨od,⟨I.obj,rfl,rfl,ho⟩,hl⟩
section
variable{prog:Program}{w:World}{A:Around}{E:PQ}{s:Shared}{K:Frag}{x dx C f:Addr}{mA:PR}{name:Str}{v:Value}
def qgv{expr:Bool}{Q:PQ}(X:K.In s.heap)(I:ObjM s.heap x dx C mA)(hg:PySem.W.plainGet K C name=true)(hh:PySem.W.hasDictIn K C=true)
  (ha:PySem.W.findIn K (.ref C) name=some none) (hv:mA name=some v) (hv':PySem.W.handedIn v=true) (h:Q v { s with toks:=s.toks+1 }) :
  wpAny (model prog w) A (getAttr (.ref x) name expr) Q E s:=by
 let(od,J,hl):=I.look;exact PySem.W.get_value X J (PySem.W.plainGet_of hg).1 (PySem.W.findObj_own hh ha rfl (by rw[hl,hv])) hv' h
def qec{pl:Sem Bool}{Q:Value×List Value->Shared->Prop}(X:K.In s.heap)(I:ObjM s.heap x dx C mA)(hg:PySem.W.plainGet K C name=true)
  (hf:PySem.W.findIn K (.ref C) name=some (some (.ref f))) (ht:PySem.W.isFn K (.ref f)=true) (hv:mA name=none) (h:Q (.ref f,[.ref x]) s) :
  wpAny (model prog w) A (getMethod (.ref x) name pl) Q E s:=by
 let(od,J,hl):=I.look;exact PySem.W.method_fn X J (PySem.W.plainGet_of hg).1 (PySem.W.plainGet_of hg).2 hf (beq_iff_eq.mp ht) (by show(PySem.W.lookIn name od).map (·.isSome)=some false;rw[hl,hv];rfl) h
def qgw{ns:List Str}{Q:Unit->Shared->Prop}(X:K.In s.heap)(I:ObjM s.heap x dx C mA)
  (hs:PySem.W.findIn K (.ref C) "__setattr__" = some (some (.builtin "object.__setattr__"))) (hp:PySem.W.plainOver K C=true) (ht:PySem.W.takerIn K C name=some none) (hh:PySem.W.hasDictIn K C=true)
  (hw:PySem.Within mA ns) (hsz:ns.length<=sizeLine)
  (h:∀h',ObjM h' x dx C (λy=>if y=name then some v else mA y)->Heap.SameBut dx s.heap h'->Q () { s with heap:=h',toks:=s.toks+2 }) :
  wpAny (model prog w) A (setAttr (.ref x) name v) Q E s:=by
 let(od,J,hl):=I.look;refine PySem.W.set_plain X J hs (PySem.W.osa_open (s:={ s with toks:=s.toks+1 }) (r:=none) X J hp ht λb=>?_);let(cd,hc,hd'):=PySem.W.any_some hh;have hx:s.heap.get? x=some ⟨.ref C,some dx,.plain,#[]⟩:=I.obj;refine wpAny_bind (wpAny_pure (wpAny_bind (wpAny_bind (wpAny_loadPart hx (wpAny_bind (PySem.W.Looks.here (s:={ s with toks:=s.toks+1 }) (PySem.W.looks_clsIn X hc) ?_))))));rw[hd'];refine wpAny_pure (a:=some dx) (wpAny_bind (wpAny_pure (wpAny_bind ?_)));refine wpAny_nsSet1 (s:={ s with toks:=s.toks+1 }) I.ns λh' hn2 hs2=>?_;let(oD,esD,epD,hoD,hdD,hcD):=hn2.count (PySem.Within.cons name v hw);refine wpAny_bind (wpAny_lookBehind hoD (by rw[hdD];exact pastItsLine_dict (Nat.le_trans hcD (by rw[List.length_cons];lia))) ?_);exact wpAny_pure (h _ ⟨(hs2.2 _ (Ne.symm I.ne)).trans I.obj,hn2,I.ne⟩ hs2)
def qed{R:Result->Shared->Prop}{vs:List Value}{kw:List (Str×Value)}(X:K.In s.heap)(hm:PySem.W.makesIn K C=true)
  (hi:PySem.W.findIn K (.ref C) "__init__" = some (some (.ref f))) (hf:PySem.W.typeIn K (.ref f)=some (.type "function"))
  (h:codeAny (model prog w) (A.under (.builtin "type.__call__" ⟨.ref C::vs,kw⟩)) (.call (.ref f) ⟨.ref (s.heap.objs.size+1)::vs,kw⟩) (PySem.W.InitBack (s.heap.objs.size+1) R)
   { s with heap:=(s.heap.push PySem.W.emptyDict).push (PySem.W.instObj C s.heap.objs.size) }) :
  codeAny (model prog w) A (.call (.ref C) ⟨vs,kw⟩) R s:=by
 let(hh,g,d,t,os):=s;exact PySem.W.make_core (PySem.W.makes_of X hm) (PySem.W.looks_findIn X hi) (λself=>PySem.W.bind_fn X self hf) (.inl rfl) h
end
def ZH(f:Str)(v:V):List (Str×V)->List (Str×V)
 |[]=>[(f,v)]
 | (g,x)::r=>if g=f then (g,v)::r else (g,x)::ZH f v r
theorem Jt(f g:Str)(v:V):∀fs:List (Str×V),(ZH f v fs).lookup g=if g=f then some v else fs.lookup g
 |[]=>by
  show List.lookup g [(f,v)]=_
  by_cases h:g=f
  ·have hb:(g == f)=true:=beq_iff_eq.mpr h;simp![List.lookup,hb,if_pos h]
  ·have hb:(g == f)=false:=beq_eq_false_iff_ne.mpr h;simp![List.lookup,hb,if_neg h]
 | (k,x)::r=>by
  have ih:=Jt f g v r;rw[show ZH f v ((k,x)::r)=(if k=f then (k,v)::r else (k,x)::ZH f v r) from rfl]
  by_cases hk:k=f
  ·rw[if_pos hk]
   by_cases h:g=k
   ·have hb:(g == k)=true:=beq_iff_eq.mpr h;simp![List.lookup,hb,if_pos (h.trans hk)]
   ·have hb:(g == k)=false:=beq_eq_false_iff_ne.mpr h;simp![List.lookup,hb,if_neg (λe:g=f=>h (e.trans hk.symm))]
  ·rw[if_neg hk]
   by_cases h:g=k
   ·have hb:(g == k)=true:=beq_iff_eq.mpr h;simp![List.lookup,hb,if_neg (λe:g=f=>hk (h.symm.trans e))]
   ·have hb:(g == k)=false:=beq_eq_false_iff_ne.mpr h;simp![List.lookup,hb];exact ih
theorem Ju(f:Str)(v:V):∀fs:List (Str×V),f∈(ZH f v fs).map (·.1)/\∀g,g∈fs.map (·.1)->g∈(ZH f v fs).map (·.1)
 |[]=>{by simp[ZH],λg h=>by simp at h}
 | (k,x)::r=>by
  let(i1,i2):=Ju f v r;rw[show ZH f v ((k,x)::r)=(if k=f then (k,v)::r else (k,x)::ZH f v r) from rfl]
  by_cases hk:k=f
  ·rw[if_pos hk];subst hk;exact{by simp,λg h=>(-h:)}
  ·rw[if_neg hk];refine{?_,λg h=>?_}
   ·rw[List.map_cons];exact List.mem_cons_of_mem _ i1
   ·rw[List.map_cons]at h ⊢;rcases List.mem_cons.mp h with e|e
    ·exact List.mem_cons.mpr (.inl e)
    ·exact List.mem_cons_of_mem _ (i2 g e)
theorem Jv(f:Str)(v:V):∀fs:List (Str×V),(ZH f v fs).length<=fs.length+1
 |[]=>by simp[ZH]
 | (k,x)::r=>by
  have ih:=Jv f v r;rw[show ZH f v ((k,x)::r)=(if k=f then (k,v)::r else (k,x)::ZH f v r) from rfl]
  by_cases hk:k=f
  ·rw[if_pos hk,List.length_cons,List.length_cons];lia
  ·rw[if_neg hk,List.length_cons,List.length_cons];lia
theorem qb2.some_of{v:V}{o:Option Value}(r:qb2 (some v) o):∃u,o=some u/\qF v u:=by
 cases o with
 |none=>exact(show False from r).elim
 |some u=>exact⟨u,rfl,r⟩
theorem qb2.none_of{o:Option Value}(r:qb2 none o):o=none:=by
 cases o with
 |none=>rfl
 |some u=>exact(show False from r).elim
theorem qcf{v:V}{u:Value}(r:qF v u):PySem.W.handedIn u=true:=by
 cases v with
 |non=>cases (show u=Value.none from r);rfl
 |bl b=>cases (show u=Value.bool b from r);rfl
 |int i=>let(t,e):=(show∃t,u=Value.int i t from r);cases e;rfl
 |str x=>let(t,e):=(show∃t,u=Value.str x t from r);cases e;rfl
 |byt b=>let(t,e):=(show∃t,u=Value.bytes b t from r);cases e;rfl
 |flt b=>let(t,e):=(show∃t,u=Value.float b t from r);cases e;rfl
 |ref a=>cases (show u=Value.ref a from r);rfl
 |ty n=>cases (show u=Value.type n from r);rfl
section
variable{P:Program}{w:World}{H H':Hp}{h h':Heap}{a C dx:Addr}{fs fs':List (Str×V)}
def YE(hok:HOk P w H h)(e:H a=some (.ins C dx fs)):∃mA,ObjM h a dx C mA/\(∀f,qb2 (fs.lookup f) (mA f))/\PySem.Within mA (fs.map (·.1))/\fs.length<=1000/\H dx=some (.own a):=by let(d,z,ne,ob,mA,n,r,q):=(show qQ P w H h a (.ins C dx fs) from hok a _ e);exact{mA,⟨ob,n,ne⟩,r,q,z,d}
end
structure Cls(K:Frag)(C:Addr):Prop where
 pg:PySem.W.plainGet K C Str.empty=true
 hd:PySem.W.hasDictIn K C=true
 po:PySem.W.plainOver K C=true
 sa:PySem.W.findIn K (.ref C) "__setattr__" = some (some (.builtin "object.__setattr__"))
def Cls.get{K:Frag}{C:Addr}(c:Cls K C)(f:Str):PySem.W.plainGet K C f=true:=c.pg
def qV(K:Frag)(C:Addr)(f:Str):Prop:=PySem.W.findIn K (.ref C) f=some none
def qV.taker{K:Frag}{C:Addr}{f:Str}(n:qV K C f):PySem.W.takerIn K C f=some none:=by unfold PySem.W.takerIn;rw[show PySem.W.findIn K (.ref C) f=some none from n];rfl
structure Meth(K:Frag)(C:Addr)(m:Str)(f:Addr):Prop where
 at_:PySem.W.findIn K (.ref C) m=some (some (.ref f))
 fn:PySem.W.isFn K (.ref f)=true
 kp:PySem.W.keepIn K (.ref f)=true
section
variable{X:Cx}{pins:PP}{Z:St}{H:Hp}{s:Shared}{a C dx:Addr}{fs:List (Str×V)}{f:Str}{v:V}{A:Around}{E:PQ}
def qbq{b:Bool}{Q:PQ}(I:Inv X pins Z H s)(e:H a=some (.ins C dx fs))(c:Cls X.K C)(n:qV X.K C f)(l:fs.lookup f=some v)
  (h:∀u s',Inv X pins Z H s'->qF v u->Q u s'):wpAny (model X.prog X.w) A (getAttr (.ref a) f b) Q E s:=by
 let(mA,O,r,_,_,_):=YE I.hok e;let(u,hu,ru):=qb2.some_of (v:=v) (o:=mA f) (by rw[<-l];exact r f);exact qgv I.kIn O (c.get f) c.hd n hu (qcf ru) (h u _ (I.tok _) ru)
def Yd{m:Str}{g:Addr}{pl:Sem Bool}{Q:Value×List Value->Shared->Prop}(I:Inv X pins Z H s)(e:H a=some (.ins C dx fs))(c:Cls X.K C)(k:Meth X.K C m g)(l:fs.lookup m=none)
  (h:Q (.ref g,[.ref a]) s):wpAny (model X.prog X.w) A (getMethod (.ref a) m pl) Q E s:=by
 let(mA,O,r,_,_,_):=YE I.hok e;have hn:mA m=none:=qb2.none_of (by rw[<-l];exact r m);exact qec I.kIn O (c.get m) k.at_ k.fn hn h
def qbr{y:V}{u:Value}{Q:Unit->Shared->Prop}(I:Inv X pins Z H s)(e:H a=some (.ins C dx fs))(c:Cls X.K C)(n:qV X.K C f)(hl:fs.length < 1000)(ry:qF y u)
  (h:∀s',Inv X pins Z (upd H a (.ins C dx (ZH f y fs))) s'->Q () s'):wpAny (model X.prog X.w) A (setAttr (.ref a) f u) Q E s:=by
 let(mA,O,r,wi,_,ho):=YE I.hok e;have hz:(fs.map (·.1)).length<=sizeLine:=by rw[List.length_map,sizeLine_eq];lia
 refine qgw I.kIn O c.sa c.po n.taker c.hd wi hz λh' O' sb=>h _ ?_;have hd:∃o,h'.get? dx=some o:=let ⟨o,_,_,e',_⟩:=O'.ns;⟨o,e'⟩;refine I.write (x:=a) (e:=dx) (by rw[e];exact True.intro) (.inr ho) (λb q hb z=>(sb.2 b hb).trans z) hd ?_;refine{by rw[qe O.ne];exact ho,?_,O.ne,O'.obj,_,O'.ns,λg=>?_,λg hg=>?_}
 ·have:=Jv f y fs;lia
 ·show qb2 ((ZH f y fs).lookup g) (if g=f then some u else mA g);rw[Jt]
  by_cases q:g=f
  ·rw[if_pos q,if_pos q];exact ry
  ·rw[if_neg q,if_neg q];exact r g
 ·by_cases q:g=f
  ·rw[q];exact(Ju f y fs).1
  ·refine(Ju f y fs).2 g (wi g λz=>hg ?_);show(if g=f then some u else mA g)=none;rw[if_neg q];exact z
def Inv.made(I:Inv X pins Z H s):Inv X pins Z (upd (upd H s.heap.objs.size (.own (s.heap.objs.size+1))) (s.heap.objs.size+1) (.ins C s.heap.objs.size []))
  { s with heap:=(s.heap.push PySem.W.emptyDict).push (PySem.W.instObj C s.heap.objs.size) }:=by
 have e1:(s.heap.push PySem.W.emptyDict).get? s.heap.objs.size=some PySem.W.emptyDict:=Heap.get?_push_size s.heap rfl
 have e2:((s.heap.push PySem.W.emptyDict).push (PySem.W.instObj C s.heap.objs.size)).get? (s.heap.objs.size+1)=some (PySem.W.instObj C s.heap.objs.size):=by
  have:=Heap.get?_push_size (s.heap.push PySem.W.emptyDict) (o:=PySem.W.instObj C s.heap.objs.size) rfl
  rwa[Heap.size_push]at this
 have e3:(s.heap.push PySem.W.emptyDict).Ns s.heap.objs.size (λ_=>none):={PySem.W.emptyDict,#[],_,e1,rfl,(λe he=>absurd he (5:)),λ_=>rfl};have I1:=I.laid (a:=s.heap.objs.size) (o:=.own (s.heap.objs.size+1)) (h':=s.heap.push PySem.W.emptyDict) (t':=s.toks) (λb u q=>Heap.get?_push_of_some _ q) (Nat.le_refl _) ⟨_,e1⟩;refine I1.laid (a:=s.heap.objs.size+1) (o:=.ins C s.heap.objs.size []) (t':=s.toks) (λb u q=>Heap.get?_push_of_some _ q) (Nat.le_of_eq (Heap.size_push _ _)) ?_;have ne:s.heap.objs.size≠s.heap.objs.size+1:=Nat.ne_of_lt (Nat.lt_succ_self _);refine{by rw[qe ne,qg],Nat.zero_le _,ne,e2,λ_=>none,(Heap.Ns1.of_empty e3).at λo q=>Heap.get?_push_of_some _ q,λ_=>True.intro,λy hy=>absurd rfl hy}
def qcg{prog:Program}{w:World}{env:Env}{e:Expr}{f:Str}{pos:Pos}{s:Shared}{Q:PQ}(hb:attributeBase e f env (eval e env)=eval e env)
  (h:wpAny (model prog w) A (eval e env) (λo s₁=>wpAny (model prog w) A (getAttr o f true) Q E s₁) E s):wpAny (model prog w) A (eval (.Attribute e f pos) env) Q E s:=
 Attribute_any_ h (by rw[arm_eval_Attribute,hb])
end
def qnB(K:Frag)(ta:TE)(f:Str):TE:=λZ H Q=>ta Z H λx H1=>∃a C dx fs v,x=.ref a/\H1 a=some (.ins C dx fs)/\Cls K C/\qV K C f/\fs.lookup f=some v/\Q v H1
def qnC(K:Frag)(ta tv:TE)(f:Str):TS:=λD Z H=>tv Z H λy H1=>ta Z H1 λx H2=>∃a C dx fs,x=.ref a/\H2 a=some (.ins C dx fs)/\Cls K C/\qV K C f/\fs.length < 1000/\
 D.nx Z (upd H2 a (.ins C dx (ZH f y fs)))
section
variable{X:Cx}{o e value:Expr}{f:Str}{pos pos' tpos:Pos}{ta tv:TE}
def qiQ(he:PE X e ta)(hb:attributeBase e f X.env (eval e X.env)=eval e X.env):PE X (.Attribute e f pos) (qnB X.K ta f):=by intro pins s Z H Q I h;refine qcg hb (thn (he pins s Z H _ I h) λu s1 hq1=>?_);let(x,H1,I1,rx,a,C,dx,fs,v,ex,ea,c,n,l,q):=hq1;subst ex;obtain rfl:u=Value.ref a:=rx;exact qbq I1 ea c n l λu' s2 I2 ru=>⟨v,H1,I2,ru,q⟩
def QC(ha:PE X o ta)(hv:PE X value tv)(hs:swapsWith value (some (.Attribute o f pos')) pos.line X.env=pure false):PS X (.Assign [.Attribute o f pos'] value pos) (qnC X.K ta tv f):=by intro pins s Z H D I h;refine plainObj_wpAny_Assign_Attribute (thn (hv pins s Z H _ I h) λu s1 ⟨y,H1,I1,ry,q⟩=>thn (ha pins s1 Z H1 _ I1 q) λov s2 ⟨x,H2,I2,rx,a,C,dx,fs,ex,ea,c,n,l,q2⟩=>?_) hs;subst ex;obtain rfl:ov=Value.ref a:=rx;exact qbr I2 ea c n l ry λs3 I3=>{Z,_,I3,q2}
end
section
variable{X:Cx}{pins:PP}{Z:St}{H:Hp}{s:Shared}{A:Around}{E:PQ}{Q:PQ}{c:Value}{b:Bool}
inductive TyOf(K:Frag)(H:Hp):V->Value->Prop where
 | non:TyOf K H .non (.type "NoneType")
 | bl (x:Bool):TyOf K H (.bl x) (.type "bool")
 | int (i:Int):TyOf K H (.int i) (.type "int")
 | str (x:Str):TyOf K H (.str x) (.type "str")
 | flt (x:UInt64):TyOf K H (.flt x) (.type "float")
 | lst {a:Addr} {xs:List V} (e:H a=some (.lst xs)):TyOf K H (.ref a) (.type "list")
 | frz {a:Addr} {o:Obj} {xs:List V} (e:H a=some (.frz o (.lst xs))):TyOf K H (.ref a) (.type "list")
 | tup {a:Addr} {xs:List V} (e:H a=some (.tup xs)):TyOf K H (.ref a) (.type "tuple")
 | dK {a:Addr} {kvs:List (Key×V)} (e:H a=some (.dK kvs)):TyOf K H (.ref a) (.type "dict")
 | dT {a:Addr} {kvs:List (List Key×V)} (e:H a=some (.dT kvs)):TyOf K H (.ref a) (.type "dict")
 | ins {a C dx:Addr} {fs:List (Str×V)} (e:H a=some (.ins C dx fs)) (cl:Cls K C) (ha:PySem.W.findIn K (.ref C) "__class__" = some (some (.builtin "object.__class__")))
   (hn:PySem.W.specialIn K (.builtin "object.__class__") "__get__" = some (some (.builtin "getset_descriptor.__get__"))) (htk:PySem.W.takesIn K (.builtin "object.__class__")=some true)
   (hm:PySem.W.mroIn K C (.type "object")=some true):TyOf K H (.ref a) (.ref C)
theorem QD{x:V}{u t:Value}(I:Inv X pins Z H s)(rx:qF x u)(ty:TyOf X.K H x t)(e:PySem.W.kitOne X.K t c=some b)(h:∀tk,Q (.bool b) { s with toks:=tk }) :
  wpAny (model X.prog X.w) A (call (.builtin "isinstance") [u,c]) Q E s:=by
 cases ty with
 |non=>cases (show u=Value.none from rx);exact PySem.W.kia_one PySem.W.kitx_none I.kIn True.intro e (λz=>nomatch z) h
 |bl y=>cases (show u=Value.bool y from rx);exact PySem.W.kia_one PySem.W.kitx_bool I.kIn True.intro e (λz=>nomatch z) h
 |int i=>let(t,q):=(show∃t,u=Value.int i t from rx);cases q;exact PySem.W.kia_one PySem.W.kitx_int I.kIn True.intro e (λz=>nomatch z) h
 |str y=>let(t,q):=(show∃t,u=Value.str y t from rx);cases q;exact PySem.W.kia_one PySem.W.kitx_str I.kIn True.intro e (λz=>nomatch z) h
 |flt y=>let(t,q):=(show∃t,u=Value.float y t from rx);cases q;exact PySem.W.kia_one PySem.W.kitx_float I.kIn True.intro e (λz=>nomatch z) h
 |@lst a xs ea=>
  cases (show u=Value.ref a from rx)
  let(_,_,n,_,h1):=(show qQ X.prog X.w H s.heap a (.lst xs) from I.hok a _ ea);exact PySem.W.kia_one PySem.W.kitx_list I.kIn ⟨_,h1,rfl⟩ e (λz=>nomatch z) h
 |@frz a ob xs ea=>
  cases (show u=Value.ref a from rx)
  let(_,_,_,n,_,h1):=(show qQ X.prog X.w H s.heap a (.frz ob (.lst xs)) from I.hok a _ ea);exact PySem.W.kia_one PySem.W.kitx_list I.kIn ⟨_,h1,rfl⟩ e (λz=>nomatch z) h
 |@tup a xs ea=>
  cases (show u=Value.ref a from rx)
  let(_,_,_,p):=(show qQ X.prog X.w H s.heap a (.tup xs) from I.hok a _ ea);let(o,h1,h2,_):=p;exact PySem.W.kia_one PySem.W.kitx_tuple I.kIn ⟨o,h1,h2⟩ e (λz=>nomatch z) h
 |@dK a kvs ea=>
  cases (show u=Value.ref a from rx)
  let(_,_,vs,_,p):=(show qQ X.prog X.w H s.heap a (.dK kvs) from I.hok a _ ea);let(o,es,ep,h1,h2,_):=p;exact PySem.W.kia_one PySem.W.kitx_dict I.kIn ⟨o,h1,h2.1⟩ e (λz=>nomatch z) h
 |@dT a kvs ea=>
  cases (show u=Value.ref a from rx)
  let(_,_,xs,_,o,es,ep,h1,h2,_):=(show qQ X.prog X.w H s.heap a (.dT kvs) from I.hok a _ ea);exact PySem.W.kia_one PySem.W.kitx_dict I.kIn ⟨o,h1,h2.1⟩ e (λz=>nomatch z) h
 |@ins a C dx fs ea cl ha hn htk hm=>
  cases (show u=Value.ref a from rx)
  let(mA,O,_):=YE I.hok ea;let(od,J,_):=O.look;exact PySem.W.kia_one (PySem.W.kitx_own (cl.get _) cl.hd ha hn htk hm) I.kIn J e (λz=>nomatch z) h
end
structure Room(k:Nat)(A:Around):Prop where
 hd:A.handled=none
 dp:A.depth+3 * k+5 < recursionLimit
 un:A.units+16 * k+200 < cLine
def Room.deeper{k:Nat}{A:Around}(r:Room (k+1) A)(env:Env):Room k (A.deeper env):=
 ⟨r.hd,by have:=r.dp;show A.depth+1+3 * k+5 < _;lia,by have:=r.un;show A.units+3+16 * k+200 < _;lia⟩
def qbs{A:Around}{C:Addr}{us:List Value}{kw:List (Str×Value)}:(A.under (.builtin "type.__call__" ⟨.ref C::us,kw⟩)).depth=A.depth+1:=by first|rfl|simp[Around.under,Code.weight,Code.isCreation,Code.isGuard,Code.isCaller,Code.frames,Code.isFrame,guardIds]
def qbt{A:Around}{C:Addr}{us:List Value}{kw:List (Str×Value)}:(A.under (.builtin "type.__call__" ⟨.ref C::us,kw⟩)).units=A.units+1:=by first|rfl|simp[Around.under,Code.cUnits,Code.frames,Code.isFrame]
def Room.make{k:Nat}{A:Around}(r:Room (k+1) A)(C:Addr)(us:List Value)(kw:List (Str×Value)):Room k (A.under (.builtin "type.__call__" ⟨.ref C::us,kw⟩)):=
 ⟨r.hd,by have:=r.dp;rw[qbs];lia,by have:=r.un;rw[qbt];lia⟩
def Room.depth{k:Nat}{A:Around}(r:Room k A):A.depth < recursionLimit:=by have:=r.dp;lia
def qig:TA:=λ_ H Q=>Q [] H
def qee(ta:TE)(tr:TA):TA:=λZ H Q=>ta Z H λx H1=>tr Z H1 λxs H2=>Q (x::xs) H2
section
variable{X:Cx}{e:Expr}{es:List Expr}{te:TE}{t:TA}{pos:Pos}
def qv:PA X [] qig:=λ_ _ _ _ H Q I h=>Calls.spliced_nil ⟨[],H,I,.nil,h⟩
def qi(ha:PE X e te)(hr:PA X es t)(hs:starEach (e::es) X.env=(false,eval e X.env)::starEach es X.env:=by rfl):PA X (e::es) (qee te t):=by intro pos pins s Z H Q I h;rw[hs];show wpAny _ _ (spliced ((false,eval e X.env)::backTo pos (starEach es X.env))) _ _ s;refine Calls.spliced_cons (thn (ha pins s Z H _ I h) λu s1 hq1=>?_);let(x,H1,I1,r1,q1):=hq1;exact thn (hr pos pins s1 Z H1 _ I1 q1) λus s2 ⟨xs,H2,I2,r2,q2⟩=>{x::xs,H2,I2,.cons r1 r2,q2}
def qnD(t:TA):TE:=λZ H Q=>t Z H λxs H1=>xs.length<=sizeLine/\∀p,H1 p=none->Q (.ref p) (upd H1 p (.tup xs))
def qnE(t:TA):TE:=λZ H Q=>t Z H λxs H1=>xs.length<=sizeLine/\∀p,H1 p=none->Q (.ref p) (upd H1 p (.lst xs))
def qiR{x1}(h:PA X es t):PE X (.Tuple es x1 pos) (qnD t):=by intro pins s Z H Q I hq;refine wpAny_Tuple_spliced (thn (h pos pins s Z H _ I hq) λus s1 ⟨xs,H1,I1,r,z,q⟩=>{by rw[<-r.length];exact z,?_});have hf:H1 s1.heap.objs.size=none:=I1.hok.fresh (Nat.le_refl _);refine{.ref s1.heap.objs.size,upd H1 s1.heap.objs.size (.tup xs),I1.laid (t':=s1.toks) (λb u e=>Heap.get?_push_of_some _ e) (Nat.le_refl _) ?_,rfl,q _ hf};exact{z,us,r,{_,Heap.get?_push_size _ rfl,rfl,_,rfl}}
def qiS(h:PA X es t):PE X (.List es pos) (qnE t):=by intro pins s Z H Q I hq;refine wpAny_List_spliced (thn (h pos pins s Z H _ I hq) λus s1 ⟨xs,H1,I1,r,z,q⟩=>{by rw[<-r.length];exact z,?_});have hf:H1 s1.heap.objs.size=none:=I1.hok.fresh (Nat.le_refl _);refine{.ref s1.heap.objs.size,upd H1 s1.heap.objs.size (.lst xs),I1.laid (t':=s1.toks) (λb u e=>Heap.get?_push_of_some _ e) (Nat.le_refl _) ?_,rfl,q _ hf};exact{z,us,0,r,Heap.get?_push_size _ rfl}
end
abbrev Sp:=List V->Hp->VK->XK->Prop
abbrev CXT:=List Env->Hp->Shared->XK->Value->Shared->Prop
structure Env0(P:Program)(w:World)(K:Frag)(mg:PR)(base:Heap)(A:Around)(outer:List Env)(s:Shared)(H:Hp):Prop where
 frames:A.frames=some outer
 mod:Mod K mg base
 bs:∀b o,base.get? b=some o->s.heap.get? b=some o/\H b=none
 bsz:base.objs.size<=s.heap.objs.size
 funs:s.heap.FunFrames base outer
 frf:∀b∈frs outer,H b=none
 hok:HOk P w H s.heap
 bare:AllBare s.gens
def CE(outer:List Env)(P:Program)(w:World)(H:Hp)(s:Shared)(Q:VK)(u:Value)(s':Shared):Prop:=
 ∃v H',s'.os=s.os/\AllBare s'.gens/\Un (frs outer) [] H H' s.heap s'.heap/\HOk P w H' s'.heap/\qF v u/\Q v H'
def CR(CX:CXT)(outer:List Env)(P:Program)(w:World)(H:Hp)(s:Shared)(Q:VK)(E:XK)(r:Result)(s':Shared):Prop:=
 match r with
 |.ok (.ret u)=>CE outer P w H s Q u s'
 |.ok _=>False
 |.error e=>CX outer H s E e s'
structure FnOk(P:Program)(w:World)(K:Frag)(mg:PR)(base:Heap)(CX:CXT)(k:Nat)(f:Addr)(fd:FuncData)(ps:List Str)(sp:Sp):Prop where
 len:∀vs H Q E,sp vs H Q E->vs.length=ps.length
 run:∀(A:Around) (outer:List Env) (s:Shared) (H:Hp) (args:Args) (us:List Value) (vs:List V) (Q:VK) (E:XK),Room k A->Env0 P w K mg base A outer s H->BindsTo s fd args (ps.zip us)->qu vs us->sp vs H Q E->
  codeAny (model P w) A (.call (.ref f) args) (CR CX outer P w H s Q E) s
def Env0.make{P:Program}{w:World}{K:Frag}{mg:PR}{base:Heap}{A:Around}{outer:List Env}{s:Shared}{H:Hp}(e:Env0 P w K mg base A outer s H)(C:Addr)(us:List Value)(kw:List (Str×Value)) :
  Env0 P w K mg base (A.under (.builtin "type.__call__" ⟨.ref C::us,kw⟩)) outer s H:={by first|exact e.frames|(simpa [Around.under,Code.envs,Code.isFrame,pushEnvs] using e.frames),e.mod,e.bs,e.bsz,e.funs,e.frf,e.hok,e.bare}
section
variable{X:Cx}{pins:PP}{Z:St}{H:Hp}{s s':Shared}
def Inv.env0(I:Inv X pins Z H s):Env0 X.prog X.w X.K X.mg X.base X.A X.stack s H:=
 ⟨I.ok.frames,I.ok.mod,I.bs,Nat.le_trans I.ok.bsz I.sz,I.stack,I.stkFree,I.hok,I.bare⟩
def Inv.after{Q:VK}{u:Value}(I:Inv X pins Z H s)(h:CE X.stack X.prog X.w H s Q u s'):EP X pins Z Q u s':=by let(v,H',os,bare,un,hok,r,q):=h;let(hh,g,d,t,os'):=s';obtain rfl:os'=s.os:=os;exact{v,H',I.call (h':=hh) (g':=g) (d':=d) (t':=t) (ch:=[]) un hok bare (λb z=>absurd z (5:)),r,q}
end
def qef(sp:Sp)(dvs:List V)(E:XK)(t:TA):TE:=λZ H Q=>t Z H λvs H1=>sp (vs++dvs) H1 Q E
def qgx(C:Addr)(m:Str)(sp:Sp)(dvs:List V)(E:XK)(ta:TE)(t:TA):TE:=λZ H Q=>ta Z H λx H1=>∃a dx fs,x=.ref a/\H1 a=some (.ins C dx fs)/\fs.lookup m=none/\
 t Z H1 λvs H2=>sp (x::(vs++dvs)) H2 Q E
def qgy(C:Addr)(sp:Sp)(dvs:List V)(E:XK)(t:TA):TE:=λZ H Q=>t Z H λvs H1=>∀x dx,H1 x=none->H1 dx=none->dx≠x->
 sp (.ref x::(vs++dvs)) (upd (upd H1 dx (.own x)) x (.ins C dx [])) (λv H2=>v=.non/\Q (.ref x) H2) E
def zg(K:Frag)(fd:FuncData)(ps:List Str)(ds:List Value):Prop:=
 ∀(s:Shared) (us:List Value),K.In s.heap->(us++ds).length=ps.length->BindsTo s fd ⟨us,[]⟩ (ps.zip (us++ds))
def zg.all{K:Frag}{fd:FuncData}{ps:List Str}(h:∀us:List Value,us.length=ps.length->bindArgs fd ⟨us,[]⟩=pure (ps.zip us)):zg K fd ps []:=λs us _ hl=>by rw[List.append_nil]at hl ⊢;exact .of_eq (h us hl)
def zD(CX:CXT)(X:Cx)(E:XK):Prop:=∀(pins:PP) (Z:St) (H:Hp) (s:Shared) (e:Value) (s':Shared),Inv X pins Z H s->CX X.stack H s E e s'->X.xe e s'
section
variable{X:Cx}{CX:CXT}{k:Nat}{f C:Addr}{fd:FuncData}{ps:List Str}{sp:Sp}{dvs:List V}{ds:List Value}{E:XK}{x m:Str}{p pos apos:Pos}{e o:Expr}{es:List Expr}{ta:TE}{t:TA}
theorem QE{pins:PP}{Z:St}{H:Hp}{s:Shared}{Q:VK}{us:List Value}{vs:List V}(F:FnOk X.prog X.w X.K X.mg X.base CX k f fd ps sp)(hr:Room k X.A)(hb:zg X.K fd ps ds)(hd:qu dvs ds)(hx:zD CX X E)
  (I:Inv X pins Z H s) (r:qu vs us) (h:sp (vs++dvs) H Q E):wpAny (model X.prog X.w) X.A (call (.ref f) us) (EP X pins Z Q) X.xe s:=by
 have r2:qu (vs++dvs) (us++ds):=r.append hd;have hl:(us++ds).length=ps.length:=by rw[<-r2.length];exact F.len _ _ _ _ h
 refine wpAny_call (codeAny_mono (F.run X.A X.stack s H ⟨us,[]⟩ (us++ds) (vs++dvs) Q E hr I.env0 (hb s us I.kIn hl) r2 h) λr s' hq=>?_)
 cases r with
 |error e=>exact hx pins Z H s e s' I hq
 |ok fl=>
  cases fl with
  |ret u=>exact I.after hq
  |next=>exact False.elim hq
  |brk=>exact False.elim hq
  |cont=>exact False.elim hq
def yA(F:FnOk X.prog X.w X.K X.mg X.base CX k f fd ps sp)(hr:Room k X.A)(hg:Gl X x)(hm:X.mg x=some (.ref f))(hk:PySem.W.keepIn X.K (.ref f)=true)(hb:zg X.K fd ps ds)(hd:qu dvs ds)(hx:zD CX X E)
  (ha:PA X (e::es) t) (hdb:(x == ("__debug__" : Str))=false:=by decide) (he:starEach (e::es) X.env=(false,eval e X.env)::starEach es X.env:=by rfl) (hpl:(backTo pos (starEach es X.env)).any (·.1)=false:=by rfl) :
  PE X (.Call (.Name x p) (e::es) [] pos) (qef sp dvs E t):=by
 intro pins s Z H Q I h;refine wpAny_Call_Name_kw (yx I hg hm ?_ hdb);refine PySem.W.callWith_K (h₀:=X.base) I.ok.mod.kin hk (thn (ha pos pins s Z H _ I h) λus s1 ⟨vs,H1,I1,r,q⟩=>{I1.kIn,?_}) he hpl;exact QE F hr hb hd hx I1 r q
def qeg(F:FnOk X.prog X.w X.K X.mg X.base CX k f fd ps sp)(hr:Room k X.A)(hg:Gl X x)(hm:X.mg x=some (.ref f))(hk:PySem.W.keepIn X.K (.ref f)=true)(hb:zg X.K fd ps ds)(hd:qu dvs ds)(hx:zD CX X E)
  (hdb:(x == ("__debug__" : Str))=false:=by decide):PE X (.Call (.Name x p) [] [] pos) (qef sp dvs E qig):=by
 intro pins s Z H Q I h;refine wpAny_Call_Name_kw (yx I hg hm ?_ hdb);exact PySem.W.callWith_K0 I.kIn hk (QE (us:=[]) F hr hb hd hx I .nil h)
def qgz{pl:Sem Bool}(he:PE X o ta)(c:Cls X.K C)(hm:Meth X.K C m f)(F:FnOk X.prog X.w X.K X.mg X.base CX k f fd ps sp)(hr:Room k X.A)(hb:zg X.K fd ps ds)(hd:qu dvs ds)(hx:zD CX X E)(ha:PA X (e::es) t)
  (hst:starEach (e::es) X.env=(false,eval e X.env)::starEach es X.env:=by rfl) (hpl:(backTo pos (starEach es X.env)).any (·.1)=false:=by rfl)
  (ht:eval (.Call (.Attribute o m apos) (e::es) [] pos) X.env=(do
   let ov<-eval o X.env
   standAt apos.atName
   let (f,first)<-holding [ov] (getMethod ov m pl)
   callWith pos f first (backTo pos (starEach (e::es) X.env)) (backToKw pos (keywordEach [] X.env))):=by rfl) :
  PE X (.Call (.Attribute o m apos) (e::es) [] pos) (qgx C m sp dvs E ta t):=by
 intro pins s Z H Q I h;refine PySem.W.methodCall_KW (pl:=pl) (thn (he pins s Z H _ I h) λu s1 ⟨x,H1,I1,rx,a,dx,fs,ex,ea,l,q⟩=>?_) ht;subst ex;obtain rfl:u=Value.ref a:=rx;refine Yd I1 ea c hm l ?_;refine PySem.W.callWith_K (first:=[.ref a]) (h₀:=X.base) I.ok.mod.kin hm.kp (thn (ha pos pins s1 Z H1 _ I1 q) λus s2 ⟨vs,H2,I2,r,q2⟩=>{I2.kIn,?_}) hst hpl;exact QE (us:=.ref a::us) (vs:=.ref a::vs) F hr hb hd hx I2 (.cons rfl r) q2
def qeh{pl:Sem Bool}(he:PE X o ta)(c:Cls X.K C)(hm:Meth X.K C m f)(F:FnOk X.prog X.w X.K X.mg X.base CX k f fd ps sp)(hr:Room k X.A)(hb:zg X.K fd ps ds)(hd:qu dvs ds)(hx:zD CX X E)
  (ht:eval (.Call (.Attribute o m apos) [] [] pos) X.env=(do
   let ov<-eval o X.env
   standAt apos.atName
   let (f,first)<-holding [ov] (getMethod ov m pl)
   callWith pos f first (backTo pos (starEach [] X.env)) (backToKw pos (keywordEach [] X.env))):=by rfl) :
  PE X (.Call (.Attribute o m apos) [] [] pos) (qgx C m sp dvs E ta qig):=by
 intro pins s Z H Q I h;refine PySem.W.methodCall_KW (pl:=pl) (thn (he pins s Z H _ I h) λu s1 ⟨x,H1,I1,rx,a,dx,fs,ex,ea,l,q⟩=>?_) ht;subst ex;obtain rfl:u=Value.ref a:=rx;refine Yd I1 ea c hm l ?_;exact PySem.W.callWith_K0 (first:=[.ref a]) I1.kIn hm.kp (QE (us:=[.ref a]) (vs:=[.ref a]) F hr hb hd hx I1 %[rfl|0] q)
structure Mk(K:Frag)(C f:Addr):Prop where
 makes:PySem.W.makesIn K C=true
 init:PySem.W.findIn K (.ref C) "__init__" = some (some (.ref f))
 fn:PySem.W.isFn K (.ref f)=true
 kp:PySem.W.keepIn K (.ref C)=true
theorem qav{pins:PP}{Z:St}{H:Hp}{s:Shared}{Q:VK}{us:List Value}{vs:List V}(M:Mk X.K C f)(F:FnOk X.prog X.w X.K X.mg X.base CX k f fd ps sp)(hr:Room (k+1) X.A)(hb:zg X.K fd ps ds)(hd:qu dvs ds)
  (hx:zD CX X E) (I:Inv X pins Z H s) (r:qu vs us)
  (h:∀x dx,H x=none->H dx=none->dx≠x->sp (.ref x::(vs++dvs)) (upd (upd H dx (.own x)) x (.ins C dx [])) (λv H2=>v=.non/\Q (.ref x) H2) E) :
  wpAny (model X.prog X.w) X.A (call (.ref C) us) (EP X pins Z Q) X.xe s:=by
 have hq:=h (s.heap.objs.size+1) s.heap.objs.size (I.hok.fresh (Nat.le_succ _)) (I.hok.fresh (Nat.le_refl _)) (Nat.ne_of_lt (Nat.lt_succ_self _));have I2:=Inv.made (C:=C) I;have r2:qu (V.ref (s.heap.objs.size+1)::(vs++dvs)) (Value.ref (s.heap.objs.size+1)::(us++ds)):=.cons rfl (r.append hd)
 have hl:(Value.ref (s.heap.objs.size+1)::us++ds).length=ps.length:=by have e:=r2.length;rw[F.len _ _ _ _ hq]at e;exact e.symm
 refine wpAny_call (qed (f:=f) I.kIn M.makes M.init (beq_iff_eq.mp M.fn) (codeAny_mono (F.run _ X.stack _ _ ⟨Value.ref (s.heap.objs.size+1)::us,[]⟩ (Value.ref (s.heap.objs.size+1)::(us++ds)) _ _ E (hr.make C us [])
  (I2.env0.make C us []) (hb _ (Value.ref (s.heap.objs.size+1)::us) I2.kIn hl) r2 hq) λr s' hq'=>?_))
 cases r with
 |error e=>exact hx pins Z _ _ e s' I2 hq'
 |ok fl=>
  cases fl with
  |ret u=>let(v,H',I3,rv,ev,q3):=I2.after hq';subst ev;exact{rv,{V.ref (s.heap.objs.size+1),H',I3,rfl,q3}}
  |next=>exact False.elim hq'
  |brk=>exact False.elim hq'
  |cont=>exact False.elim hq'
def qgA(M:Mk X.K C f)(F:FnOk X.prog X.w X.K X.mg X.base CX k f fd ps sp)(hr:Room (k+1) X.A)(hg:Gl X x)(hm:X.mg x=some (.ref C))(hb:zg X.K fd ps ds)(hd:qu dvs ds)(hx:zD CX X E)
  (ha:PA X (e::es) t) (hdb:(x == ("__debug__" : Str))=false:=by decide) (he:starEach (e::es) X.env=(false,eval e X.env)::starEach es X.env:=by rfl) (hpl:(backTo pos (starEach es X.env)).any (·.1)=false:=by rfl) :
  PE X (.Call (.Name x p) (e::es) [] pos) (qgy C sp dvs E t):=by
 intro pins s Z H Q I h;refine wpAny_Call_Name_kw (yx I hg hm ?_ hdb);refine PySem.W.callWith_K (h₀:=X.base) I.ok.mod.kin M.kp (thn (ha pos pins s Z H _ I h) λus s1 ⟨vs,H1,I1,r,q⟩=>{I1.kIn,?_}) he hpl;exact qav M F hr hb hd hx I1 r q
def qei(M:Mk X.K C f)(F:FnOk X.prog X.w X.K X.mg X.base CX k f fd ps sp)(hr:Room (k+1) X.A)(hg:Gl X x)(hm:X.mg x=some (.ref C))(hb:zg X.K fd ps ds)(hd:qu dvs ds)(hx:zD CX X E)
  (hdb:(x == ("__debug__" : Str))=false:=by decide):PE X (.Call (.Name x p) [] [] pos) (qgy C sp dvs E qig):=by
 intro pins s Z H Q I h;refine wpAny_Call_Name_kw (yx I hg hm ?_ hdb);exact PySem.W.callWith_K0 I.kIn M.kp (qav (us:=[]) M F hr hb hd hx I .nil h)
end
structure FnScope(N P:List Str)(sc:Scope):Prop where
 kind:sc.kind=.function
 co:sc.isCoroutine=false
 gen:sc.isGenerator=false
 nd:N.Nodup
 pre:N.take P.length=P
 par:∀x∈P,sc.names.lookup x=some .local\/sc.names.lookup x=some .cell
 nofree:∀y∈sc.names,y.2≠.free
theorem QF{kindOf:Str->Option NameKind}{x:Str}:∀{binds:List (Str×Value)} {m:PR},(∀v,(x,v)∉binds)->bindL kindOf binds m x=m x
 |[],_,_=>rfl
 | (n,v)::r,m,h=>by
  unfold bindL;rw[QF λw hw=>h w (List.mem_cons_of_mem _ hw)];split
  ·have:x≠n:=by rintro rfl;exact h v List.mem_cons_self
   simp[this]
  ·rfl
theorem QG{kindOf:Str->Option NameKind}{x:Str}:∀{binds:List (Str×Value)} {m:PR},(∀v,(x,v)∉binds)->bindC kindOf binds m x=m x
 |[],_,_=>rfl
 | (n,v)::r,m,h=>by
  unfold bindC;rw[QG λw hw=>h w (List.mem_cons_of_mem _ hw)];split
  ·rfl
  ·have:x≠n:=by rintro rfl;exact h v List.mem_cons_self
   simp[this]
theorem QH{kindOf:Str->Option NameKind}{x:Str}{v:Value}:∀{P:List Str} {vs:List Value} {i:Nat} {m:PR},P.Nodup->P[i]?=some x->vs[i]?=some v->kindOf x=some .local->
  bindL kindOf (P.zip vs) m x=some v
 |[],_,_,_,_,h,_,_=>by simp at h
 | _::_,[],_,_,_,_,h,_=>by simp at h
 | p::P,w::vs,0,m,nd,h1,h2,hk=>by simp at h1 h2;subst h1;subst h2;show bindL kindOf ((p,w)::P.zip vs) m p=_;unfold bindL;rw[QF λv hv=>(List.nodup_cons.mp nd).1 (List.of_mem_zip hv).1,if_pos hk];simp
 | p::P,w::vs,i+1,m,nd,h1,h2,hk=>by show bindL kindOf ((p,w)::P.zip vs) m x=_;unfold bindL;exact QH (i:=i) (List.nodup_cons.mp nd).2 (-h1:) (-h2:) hk
theorem QI{kindOf:Str->Option NameKind}{x:Str}{v:Value}:∀{P:List Str} {vs:List Value} {i:Nat} {m:PR},P.Nodup->P[i]?=some x->vs[i]?=some v->kindOf x≠some .local->
  bindC kindOf (P.zip vs) m x=some v
 |[],_,_,_,_,h,_,_=>by simp at h
 | _::_,[],_,_,_,_,h,_=>by simp at h
 | p::P,w::vs,0,m,nd,h1,h2,hk=>by simp at h1 h2;subst h1;subst h2;show bindC kindOf ((p,w)::P.zip vs) m p=_;unfold bindC;rw[QG λv hv=>(List.nodup_cons.mp nd).1 (List.of_mem_zip hv).1,if_neg hk];simp
 | p::P,w::vs,i+1,m,nd,h1,h2,hk=>by show bindC kindOf ((p,w)::P.zip vs) m x=_;unfold bindC;exact QI (i:=i) (List.nodup_cons.mp nd).2 (-h1:) (-h2:) hk
def y0(N:List Str)(vs:List V):St:=vs.map some++List.replicate (N.length - vs.length) none
def qch(CX:CXT)(P:Program)(w:World)(K:Frag)(mg:PR)(base:Heap)(N:List Str)(qual:Str)(scope:Scope)(f:Addr)(cd:Value)(A:Around)(outer:List Env)(s:Shared)(H:Hp)(E:XK):Cx where
 prog:=P
 w:=w
 K:=K
 mg:=mg
 base:=base
 A:=A.deeper (envOfC qual scope s.heap.objs.size f cd)
 N:=N
 s₀:=s
 Hv:=H
 env:=envOfC qual scope s.heap.objs.size f cd
 outer:=outer
 stack:=envOfC qual scope s.heap.objs.size f cd::outer
 ex:=[]
 calm:=true
 fn:=λ_=>true
 pn:=[]
 xe:=λe s'=>wpAny (model P w) (A.deeper (envOfC qual scope s.heap.objs.size f cd)) (leaving (envOfC qual scope s.heap.objs.size f cd) e) (λ_ s''=>CX outer H s E e s'') (λe' s''=>CX outer H s E e' s'') s'
def qaw{sc:Scope}{n:Nat}{x:Str}(h:sc.names.lookup x=some .cell):∃c,(cellsFrom n sc.names []).lookup x=some c:=by have q:=PySem.W.cellsFrom_some sc.names n [] (.inl h);exact Option.isSome_iff_exists.mp q
def qci{CX:CXT}{P:Program}{w:World}{K:Frag}{mg:PR}{base:Heap}{N ps:List Str}{qual:Str}{scope:Scope}{f:Addr}{cd:Value}{A:Around}{outer:List Env}{s s1:Shared}{H:Hp}{E:XK}{us:List Value}{vs:List V}
  (S:FnScope N ps scope) (hd:A.handled=none) (e0:Env0 P w K mg base A outer s H) (hl:vs.length=ps.length) (r:qu vs us)
  (x:InCallC s s.heap.objs.size (bindL (envOfC qual scope s.heap.objs.size f cd).kindOf (ps.zip us) λ_=>none) (cellsFrom (s.heap.objs.size+1) scope.names []) (bindC (envOfC qual scope s.heap.objs.size f cd).kindOf (ps.zip us) λ_=>none) s1) :
  Inv (qch CX P w K mg base N qual scope f cd A outer s H E) [] (y0 N vs) H s1:=by
 have hpl:ps.length<=N.length:=by have:=congrArg List.length S.pre;rw[List.length_take]at this;lia
 let(h1,tk,rfl,hk):=x.done;have noA:∀b:Addr,b∉(qch CX P w K mg base N qual scope f cd A outer s H E).ex:=λb z=>absurd (show b∈([]:List Addr) from z) (5:)
 refine{{e0.mod,S.kind,rfl,rfl,Nat.le_refl _,λy z c h1 h2=>?_,λy hy=>?_,λy c _ h=>?_,λ_=>hd,Around.frames_deeper e0.frames,.inr ⟨rfl,rfl⟩,λb z=>absurd z (noA b),e0.bs,e0.bsz,λb _ _=>noA b,λb z=>absurd z (noA b),e0.funs,e0.frf},
  rfl,e0.bare,Un.kept hk,{_,x.toInCall.ns,λi y v h1 h2 h3=>?_},λy c h=>{_,x.cell y c h},e0.hok.fresh (Nat.le_refl _),λy c h=>?_,λp hp=>absurd (show p∈([]:PP) from hp) (5:),e0.hok.kept hk,?_}
 ·exact name_of_addr x.apart (PySem.mem_of_lookup h1) (PySem.mem_of_lookup h2)
 ·have hy:scope.names.lookup y=some .cell\/scope.names.lookup y=some .free:=hy;rcases hy with hy|hy
  ·exact qaw hy
  ·exact absurd rfl (S.nofree _ (PySem.mem_of_lookup hy))
 ·exact Nat.le_of_lt (x.above y c (PySem.mem_of_lookup h))
 ·have hi:i < vs.length:=by
   unfold y0 at h2
   by_cases hi:i < vs.length
   ·exact hi
   ·rw[List.getElem?_append_right (-hi:)]at h2;rw[List.getElem?_replicate]at h2
    split at h2<;>cases h2
  have ha:vs[i]?=some v:=by
   unfold y0 at h2;rw[List.getElem?_append_left (-hi:),List.getElem?_map]at h2
   cases e:vs[i]? with
   |none=>rw[e]at h2;cases h2
   |some a=>rw[e]at h2;cases h2;rfl
  let(u,hu,rv):=r.get ha
  have hp:ps[i]?=some y:=by rw[<-S.pre,List.getElem?_take_of_lt (1:)];exact h1
  have ndP:ps.Nodup:=by rw[<-S.pre];exact S.nd.sublist (List.take_sublist _ _)
  refine{u,rv,?_};rcases S.par y (List.mem_of_getElem? hp) with k|k
  ·exact .inl ⟨k,QH ndP hp hu k⟩
  ·let(c,e):=qaw (n:=s.heap.objs.size+1) k;refine .inr ⟨.inl k,c,e,?_⟩;have q:=x.cell y c e;rw[QI ndP hp hu (by show scope.names.lookup y≠_;rw[k];decide)]at q;exact q
 ·exact e0.hok.fresh (Nat.le_of_lt (x.above y c (PySem.mem_of_lookup h)))
 ·unfold y0;show _=N.length;rw[List.length_append,List.length_map,List.length_replicate]
  lia
theorem qiT{CX:CXT}{P:Program}{w:World}{K:Frag}{mg:PR}{base:Heap}{k:Nat}{f:Addr}{name qual:Str}{params:Arguments}{body:List Stmt}{scope:Scope}{dV kV doc pm cdv ct oc:Value}{an od:Option Addr}
  {osl:Array (Option Value)} {N ps:List Str} {sp:Sp} (lk:K.lookup f=some ⟨oc,od,.func (PySem.W.fnOf name qual params body scope dV kV doc pm an cdv ct),osl⟩) (hcd:PySem.W.codeIn K cdv qual=true) (S:FnScope N ps scope)
  (len:∀vs H Q E,sp vs H Q E->vs.length=ps.length)
  (hbody:∀(A:Around) (outer:List Env) (s:Shared) (H:Hp) (vs:List V) (Q:VK) (E:XK),Room k (A.deeper (envOfC qual scope s.heap.objs.size f cdv))->sp vs H Q E->
   ∃t,PSs (qch CX P w K mg base N qual scope f cdv A outer s H E) body t/\t { nx:=λ_ H'=>Q .non H',rt:=Q } (y0 N vs) H) :
  FnOk P w K mg base CX (k+1) f (PySem.W.fnOf name qual params body scope dV kV doc pm an cdv ct) ps sp:=by
 refine{len,λA outer s H args us vs Q E hr e0 hb r hsp=>?_};have hl:=len _ _ _ _ hsp;have KX:K.In s.heap:=e0.mod.kin.keeps λb o e=>(e0.bs b o e).1;have lim:s.heap.NoLimit:=e0.mod.nolimit.keeps λb o e=>(e0.bs b o e).1
 have hkind:∀y∈ps.zip us,scope.names.lookup y.1=some .local\/(scope.names.lookup y.1=some .cell/\((cellsFrom (s.heap.objs.size+1) scope.names []).lookup y.1).isSome=true):=λ⟨n,v⟩ hy=>by
  rcases S.par n (List.of_mem_zip hy).1 with q|q
  ·exact .inl q
  ·exact .inr ⟨q,PySem.W.cellsFrom_some _ _ _ (.inl q)⟩
 refine codeAny_call_function hr.depth (KX _ _ lk) rfl S.co S.gen rfl (PySem.W.codeRec_of KX hcd) (hb _ _ _ _ ?_);refine wpAny_newFunctionEnv_cells S.kind hkind λenv he s1 x=>?_;subst he;refine{lim.keeps x.toInCall.keep,codeAny_func ?_};let(t,ht,hq):=hbody A outer s H vs Q E (hr.deeper _) hsp;have I:Inv (qch CX P w K mg base N qual scope f cdv A outer s H E) [] (y0 N vs) H s1:=qci S hr.hd e0 hl r x;refine wpAny_mono (ht [] s1 (y0 N vs) H _ I hq) (λfl s' hs=>?_) λe s' hs=>hs
 have fin:∀{Z':St} {H':Hp} {v:V} {u:Value},Inv (qch CX P w K mg base N qual scope f cdv A outer s H E) [] Z' H' s'->qF v u->Q v H'->CE outer P w H s Q u s':=
  λ{Z' H' v u} J rv q=>⟨v,H',J.os,J.bare,J.base,J.hok,rv,q⟩
 cases fl with
 |ret u=>let(v,Z',H',J,rv,q):=hs;exact fin J rv q
 |next=>let(Z',H',J,q):=hs;exact fin (v:=V.non) (u:=Value.none) J rfl q
 |brk=>let(_,_,_,q):=hs;exact False.elim q
 |cont=>let(_,_,_,q):=hs;exact False.elim q
section
variable{X:Cx}{x:Str}{p pos:Pos}{e:Expr}{es:List Expr}{t:TA}{id T:String}{r:List V->Hp->VK->Prop}
def tCB(r:List V->Hp->VK->Prop)(t:TA):TE:=λZ H Q=>t Z H λvs H1=>r vs H1 Q
def qG(hc:qO X (.builtin id) r)(hg:Gl X x)(hm:X.mg x=none)(hv:bootBuiltins x=some (.builtin id))(ha:PA X (e::es) t)(hn:x≠"__name__":=by decide)(hdb:(x == ("__debug__" : Str))=false:=by decide)
  (he:starEach (e::es) X.env=(false,eval e X.env)::starEach es X.env:=by rfl) (hpl:(backTo pos (starEach es X.env)).any (·.1)=false:=by rfl):PE X (.Call (.Name x p) (e::es) [] pos) (tCB r t):=by
 intro pins s Z H Q I h;refine wpAny_Call_Name_kw (yI I hg hm hv ?_ hn hdb);exact PyProof.Rows.callWith_builtin1 (thn (ha pos pins s Z H _ I h) λus s1 ⟨vs,H1,I1,r1,q1⟩=>hc pins s1 Z H1 vs us Q I1 r1 q1) he hpl
def qE(hc:qO X (.type T) r)(hg:Gl X x)(hm:X.mg x=none)(hv:bootBuiltins x=some (.type T))(ha:PA X (e::es) t)(hn:x≠"__name__":=by decide)(hdb:(x == ("__debug__" : Str))=false:=by decide)
  (he:starEach (e::es) X.env=(false,eval e X.env)::starEach es X.env:=by rfl) (hpl:(backTo pos (starEach es X.env)).any (·.1)=false:=by rfl):PE X (.Call (.Name x p) (e::es) [] pos) (tCB r t):=by
 intro pins s Z H Q I h;refine wpAny_Call_Name_kw (yI I hg hm hv ?_ hn hdb);exact PyProof.Rows.callWith_type1 (thn (ha pos pins s Z H _ I h) λus s1 ⟨vs,H1,I1,r1,q1⟩=>hc pins s1 Z H1 vs us Q I1 r1 q1) he hpl
end
end L2
namespace HT
open PySem PyProof.Rows
section
variable{prog:Program}{w:World}{A:Around}{E:PQ}{s:Shared}
def sIx(n d:Nat):Option Int->Nat
 |none=>d
 |some v=>if v < 0 then (v+(n:Int)).toNat else min v.toNat n
def YF(n d:Nat):sIx n d none=d:=rfl
def Jw(n d k:Nat):sIx n d (some (k:Int))=min k n:=by show(if (k:Int) < 0 then ((k:Int)+(n:Int)).toNat else min (k:Int).toNat n)=min k n;rw[if_neg (1:),Int.toNat_natCast]
end
end HT
namespace L2
open PySem PySem.Spec PyProof.Rows
abbrev TO:=St->Hp->(Option Int->Hp->Prop)->Prop
def PO(X:Cx)(e:Option Expr)(t:TO):Prop:=
 ∀(pins:PP) (s:Shared) (Z:St) (H:Hp) (Q:Option Int->Hp->Prop),Inv X pins Z H s->t Z H Q->
  wpAny (model X.prog X.w) X.A (evalPart e X.env) (λu s'=>∃o H',Inv X pins Z H' s'/\IsPart u o/\Q o H') X.xe s
def qgB:TO:=λ_ H Q=>Q none H
def qlY(t:TE):TO:=λZ H Q=>t Z H λx H1=>∃i,x=.int i/\Q (some i) H1
section
variable{X:Cx}{e:Expr}{te:TE}{lo hi:Option Expr}{tl th:TO}{pos p2:Pos}
def qgC:PO X none qgB:=by intro pins s Z H Q I h;rw[evalPart_none];exact wpAny_pure ⟨none,H,I,.none,h⟩
def qgD(h:PE X e te):PO X (some e) (qlY te):=by intro pins s Z H Q I hw;rw[evalPart_some];refine thn (h pins s Z H _ I hw) λu s1 hq1=>?_;let(x,H1,I1,r1,q1):=hq1;let(i,rfl,q):=q1;let(t,rfl):=r1;exact{some i,H1,I1,.int i t,q}
def SlR(X:Cx)(r:V->Option Int->Option Int->Hp->VK->Prop):Prop:=
 ∀(pins:PP) (s:Shared) (Z:St) (H:Hp) (x:V) (v vl vu:Value) (lo hi:Option Int) (sl:Addr) (Q:VK),Inv X pins Z H s->qF x v->s.heap.IsSliceOf sl vl vu .none->IsPart vl lo->IsPart vu hi->r x lo hi H Q->
  ∃T id,typeLookup (.type T) "__getitem__" = pure (some (.builtin id))/\s.TypeIs v T/\wpAny (model X.prog X.w) X.A (getItem v (.ref sl)) (EP X pins Z Q) X.xe s
def tSl(r:V->Option Int->Option Int->Hp->VK->Prop)(te:TE)(tl th:TO):TE:=λZ H Q=>te Z H λx H1=>tl Z H1 λl H2=>th Z H2 λu H3=>r x l u H3 Q
def qej{r:V->Option Int->Option Int->Hp->VK->Prop}(hr:SlR X r)(he:PE X e te)(hl:PO X lo tl)(hu:PO X hi th):PE X (.Subscript e (.Slice lo hi none p2) pos) (tSl r te tl th):=by intro pins s Z H Q I h;refine Subscript_ (thn (he pins s Z H _ I h) λv s1 hq1=>?_);let(x,H1,I1,r1,q1):=hq1;refine wpAny_Slice (thn (hl pins s1 Z H1 _ I1 q1) λvl s2 ⟨l,H2,I2,pl,q2⟩=>thn (hu pins s2 Z H2 _ I2 q2) λvu s3 hq1=>?_);let(u,H3,I3,pu,q3):=hq1;rw[evalPart_none];refine wpAny_pure ?_;have I4:Inv X pins Z H3 { s3 with heap:=s3.heap.push { cls:=.type "slice",data:=.fields #[vl,vu,.none] } }:=I3.kept (t':=s3.toks) λb ob q=>Heap.get?_push_of_some _ q;let(T,id,hT,ht,hg):=hr pins { s3 with heap:=s3.heap.push { cls:=.type "slice",data:=.fields #[vl,vu,.none] } } Z H3 x v vl vu l u s3.heap.objs.size Q I4 r1 (Heap.IsSliceOf.new ..) pl pu q3;show wpAny (model X.prog X.w) X.A (subscriptTail e (.Slice lo hi none p2) v (.ref s3.heap.objs.size)) (EP X pins Z Q) X.xe { s3 with heap:=s3.heap.push { cls:=.type "slice",data:=.fields #[vl,vu,.none] } };exact tail_any (ops:=[.ref s3.heap.objs.size,v]) ht hT hg (by with_unfolding_all rfl)
def qih(xs:List V)(lo hi:Option Int):List V:=(xs.drop (HT.sIx xs.length 0 lo)).take (HT.sIx xs.length xs.length hi - HT.sIx xs.length 0 lo)
def ZL(xs:List V)(lo hi:Option Int):(qih xs lo hi).length<=xs.length:=by
 unfold qih;rw[List.length_take,List.length_drop]
 lia
end
def ixN(n:Nat)(i:Int):Option Nat:=if 0<=i then (if i < n then some i.toNat else none) else if -(n:Int)<=i then some (i+n).toNat else none
def atI{α:Type}(xs:List α)(i:Int):Option α:=(ixN xs.length i).bind λj=>xs[j]?
def qcj{n:Nat}{i:Int}{j:Nat}(h:ixN n i=some j):seqIndex? i n=some j/\j < n/\-(n:Int)<=i/\i < n:=by
 unfold ixN at h
 by_cases h0:0<=i
 ·rw[if_pos h0]at h
  by_cases h1:i < n
  ·rw[if_pos h1]at h;have e:i.toNat=j:=Option.some.inj h;exact{by rw[seqIndex_of h0 h1,e],by lia,by lia,h1}
  ·rw[if_neg h1]at h;cases h
 ·rw[if_neg h0]at h
  by_cases h1:-(n:Int)<=i
  ·rw[if_pos h1]at h;have e:(i+n).toNat=j:=Option.some.inj h;exact{by rw[seqIndex_neg (1:) h1,e],by lia,h1,by lia}
  ·rw[if_neg h1]at h;cases h
theorem ZM{α:Type}{xs:List α}{i:Int}{v:α}(h:atI xs i=some v):∃j,seqIndex? i xs.length=some j/\xs[j]?=some v/\j < xs.length/\-(xs.length:Int)<=i/\i < xs.length:=by
 unfold atI at h
 cases e:ixN xs.length i with
 |none=>rw[e]at h;cases h
 |some j=>rw[e]at h;let(h1,h2,h3,h4):=qcj e;exact⟨j,h1,h,h2,h3,h4⟩
def qek{α:Type}(xs:List α)(v:α):atI (xs++[v]) (-1)=some v:=by
 have hl:(xs++[v]).length=xs.length+1:=by simp
 have e:ixN (xs++[v]).length (-1)=some xs.length:=by
  unfold ixN;rw[hl,if_neg (2:),if_pos (1:)]
  congr 1
  lia
 unfold atI;rw[e];show(xs++[v])[xs.length]?=some v;simp
def qck(b:Expr):Prop:=∀o i,subscripted b false o i=operate [o,i] (getItem o i)
def IxR(X:Cx)(r:R2):Prop:=
 ∀(value slice:Expr) (pins:PP) (s:Shared) (Z:St) (H:Hp) (x y:V) (v u:Value) (Q:VK),Inv X pins Z H s->qF x v->qF y u->r x y H Q->
  subscripted slice false v u=operate [v,u] (getItem v u)->wpAny (model X.prog X.w) X.A (subscriptTail value slice v u) (EP X pins Z Q) X.xe s
def MtR(X:Cx)(id:String)(r:V->List V->Hp->VK->Prop):Prop:=
 ∀(pins:PP) (s:Shared) (Z:St) (H:Hp) (x:V) (xs:List V) (v:Value) (us:List Value) (Q:VK),Inv X pins Z H s->qF x v->qu xs us->r x xs H Q->
  wpAny (model X.prog X.w) X.A (call (.builtin id) (v::us)) (EP X pins Z Q) X.xe s
section
variable{X:Cx}{a b:Expr}{ta tb:TE}{pos:Pos}
def qlZ{r:R2}(hr:IxR X r)(ha:PE X a ta)(hb:PE X b tb)(hs:qck b):PE X (.Subscript a b pos) (tOp r ta tb):=by intro pins s Z H Q I h;exact Subscript_ (qlQ ha hb I h λv u s2 x y H2 I2 rx ry q=>hr a b pins s2 Z H2 x y v u Q I2 rx ry q (hs _ _))
def qnF(K:Frag):R2:=λx y H Q=>∃p xs i v,x=.ref p/\y=.int i/\SqL K H p xs/\atI xs i=some v/\Q v H
def qnG(K:Frag):R2:=λx y H Q=>∃p xs i v,x=.ref p/\y=.int i/\SqT K H p xs/\atI xs i=some v/\Q v H
def qnH:R2:=λx y H Q=>∃z i c,x=.str z/\y=.int i/\z.length<=sizeLine/\atI z.cps.toList i=some c/\Q (.str ⟨#[c]⟩) H
def qgE:IxR X (qnF X.K):=by
 intro value slice pins s Z H x y v u Q I rx ry h hs;let(p,xs,i,z,rfl,rfl,hq,he,q):=h;cases rx;let(t,rfl):=ry;let(its,r,pl,hz):=I.list hq;let(j,h1,h2,h3,h4,h5):=ZM he;let(w,ew,rw'):=r.get h2;have hl:=r.length;have hn:=Js;have fin:EP X pins Z Q w s:=⟨z,H,I,rw',q⟩
 by_cases h0:0<=i
 ·have hj:i.toNat=j:=by
   rw[seqIndex_of h0 h5]at h1;exact Option.some.inj h1
  exact item_listR pl.isList h0 (1:) (by rw[hj];simpa using ew) fin hs
 ·have hj:(i+(its.toArray.size:Int)).toNat=j:=by
   rw[seqIndex_neg (1:) h4]at h1;rw[List.size_toArray,<-hl];exact Option.some.inj h1
  exact subscriptTail_builtinR (x:=w) pl.isList.typeIs slot_list_getitem.lookup
   (wpAny_getItem_list_neg (Q:=λr s'=>r=w/\EP X pins Z Q r s') pl.isList (1:) (by rw[List.size_toArray]<;>lia) (1:) (by rw[hj];simpa using ew) ⟨rfl,fin⟩) hs
def qiU:IxR X (qnG X.K):=by
 intro value slice pins s Z H x y v u Q I rx ry h hs;let(p,xs,i,z,rfl,rfl,hq,he,q):=h;cases rx;let(t,rfl):=ry;let(its,r,pl,hz):=I.tuple hq;let(j,h1,h2,h3,h4,h5):=ZM he;let(w,ew,rw'):=r.get h2;have hl:=r.length;have hn:=Js;have fin:EP X pins Z Q w s:=⟨z,H,I,rw',q⟩
 exact subscriptTail_builtinR (x:=w) pl.typeIs slot_tuple_getitem.lookup
  (getItem_tuple (j:=j) (Q:=λr s'=>r=w/\EP X pins Z Q r s') pl (1:) (1:) (by rw[List.size_toArray,<-hl];exact h1) (-ew:) ⟨rfl,fin⟩) hs
def qiV:IxR X qnH:=by
 intro value slice pins s Z H x y v u Q I rx ry h hs;let(z,i,c,rfl,rfl,hz,he,q):=h;let(t,rfl):=rx;let(t',rfl):=ry;let(j,h1,h2,h3,h4,h5):=ZM he;have hl:z.cps.toList.length=z.length:=by simp[Str.length]
 rw[hl]at h1 h4 h5;have hn:=Js
 exact tail_any (typeIs_str s z t) slot_str_getitem.lookup (getItem_str (c:=c) (by have e1:decide (i < -(2 ^ 63:Int))=false:=decide_eq_false (1:);have e2:decide (i≥2 ^ 63)=false:=decide_eq_false (1:);rw[e1,e2,Bool.or_false]) (by rw[h1];simpa using h2) ⟨.str ⟨#[c]⟩,H,I.tok _,⟨_,rfl⟩,q⟩) hs
def qbu(its:List Value)(n j:Nat)(u:Value):Obj.mapSeq (·.setIfInBounds j u) { cls:=.type "list",data:=.seq its.toArray n }={ cls:=.type "list",data:=.seq (its.set j u).toArray n }:=by simp[Obj.mapSeq]
def Inv.lst{pins:PP}{Z:St}{H:Hp}{s:Shared}{p:Addr}{xs:List V}(I:Inv X pins Z H s)(h:H p=some (.lst xs)) :
  ∃(its:List Value) (n:Nat),qu xs its/\s.heap.get? p=some { cls:=.type "list",data:=.seq its.toArray n }/\xs.length<=sizeLine:=by
 let(z,its,n,r,e):=I.hok p _ h;exact⟨its,n,r,e,z⟩
def Inv.lstUpd{pins:PP}{Z:St}{H:Hp}{s:Shared}{p:Addr}{xs ys:List V}{its its':List Value}{n n':Nat}{f:Obj->Obj}(I:Inv X pins Z H s)(h:H p=some (.lst xs))
  (ho:s.heap.get? p=some { cls:=.type "list",data:=.seq its.toArray n }) (hf:f { cls:=.type "list",data:=.seq its.toArray n }={ cls:=.type "list",data:=.seq its'.toArray n' }) (r:qu ys its') (hz:ys.length<=sizeLine) (t:Nat) :
  Inv X pins Z (upd H p (.lst ys)) { s with heap:=s.heap.update p f,toks:=t }:=by
 have e:(s.heap.update p f).get? p=some { cls:=.type "list",data:=.seq its'.toArray n' }:=by rw[Heap.get?_update_self f ho (by rw[hf]<;>rfl),hf]
 refine I.write (x:=p) (e:=p) (by rw[h];trivial) (.inl rfl) (λb u hb q=>(Heap.get?_update_other _ _ (Ne.symm hb)).trans q) ⟨_,e⟩ ?_;exact⟨hz,its',n',r,e⟩
def ql0:V->V->V->Hp->(Hp->Prop)->Prop:=λo i v H Q=>∃p xs k j,o=.ref p/\i=.int k/\H p=some (.lst xs)/\ixN xs.length k=some j/\Q (upd H p (.lst (xs.set j v)))
def qel:qmS X ql0:=by
 intro pins s Z H o i v ov iv u Q I ro ri rv h;let(p,xs,k,j,rfl,rfl,hp,hj,q):=h;cases ro;let(t,rfl):=ri;let(its,n,r,ho,hz):=I.lst hp;let(h1,h2,h3,h4):=qcj hj;have hl:=r.length;have hn:=Js
 have I':Inv X pins Z (upd H p (.lst (xs.set j v))) { s with heap:=s.heap.update p (Obj.mapSeq (·.setIfInBounds j u)) }:=
  I.lstUpd hp ho (qbu its n j u) (r.set rv j) (by rw[List.length_set];exact hz) s.toks
 by_cases h0:0<=k
 ·have hk:k.toNat=j:=by
   rw[seqIndex_of h0 h4]at h1;exact Option.some.inj h1
  exact PySem.W.ki_setAt ho h0 (1:) (by rw[List.size_toArray,<-hl];exact h4) (by rw[hk];exact{_,I',q})
 ·have hk:(k+(its.toArray.size:Int)).toNat=j:=by
   rw[seqIndex_neg (1:) h3]at h1;rw[List.size_toArray,<-hl];exact Option.some.inj h1
  exact PySem.W.ki_setBack ho (1:) (by rw[List.size_toArray,<-hl];exact h3) (1:) (by rw[hk];exact{_,I',q})
def QJ(lo hi:Option Int)(n:Nat):(sliceBounds lo hi none n).1=((HT.sIx n 0 lo:Nat):Int)/\(sliceBounds lo hi none n).2.1=((HT.sIx n n hi:Nat):Int)/\(sliceBounds lo hi none n).2.2=1:=by
 refine{?_,?_,rfl}
 ·cases lo with
  |none=>simp[sliceBounds,HT.sIx]
  |some i=>
   simp![sliceBounds,HT.sIx,Option.getD_none,show(1:Int) > 0 by decide,if_true]
   by_cases h:i < 0
   ·simp![h,if_true]<;>lia
   ·simp![h,if_false]<;>lia
 ·cases hi with
  |none=>simp[sliceBounds,HT.sIx]
  |some i=>
   simp![sliceBounds,HT.sIx,Option.getD_none,show(1:Int) > 0 by decide,if_true]
   by_cases h:i < 0
   ·simp![h,if_true]<;>lia
   ·simp![h,if_false]<;>lia
def YG(its:List Value)(lo hi:Option Int):slicePick its.toArray lo hi none=((its.drop (HT.sIx its.length 0 lo)).take (HT.sIx its.length its.length hi - HT.sIx its.length 0 lo)).toArray:=by let(h1,h2,h3):=QJ lo hi its.toArray.size;unfold slicePick;rw[h1,h2,h3];simp![sliceRange_one,pick_run,List.size_toArray]<;>rfl
def qnI(K:Frag):V->Option Int->Option Int->Hp->VK->Prop:=λx lo hi H Q=>∃a xs,x=.ref a/\SqL K H a xs/\∀p,H p=none->Q (.ref p) (upd H p (.lst (qih xs lo hi)))
def qgF:SlR X (qnI X.K):=by intro pins s Z H x v vl vu lo hi sl Q I rx hs pl pu h;let(a,xs,rfl,hx,q):=h;cases rx;let(its,r,ht,hz):=I.list hx;have hlen:=r.length;refine{"list",_,slot_list_getitem.lookup,ht.isList.typeIs,?_};refine wpAny_getItem_list_slice ht.isList hs pl pu .none (5:) ?_ (by rw[List.size_toArray]<;>lia);rw[YG,<-hlen];refine{.ref s.heap.objs.size,_,I.laid (t':=s.toks) (o:=.lst (qih xs lo hi)) (λb ob q=>Heap.get?_push_of_some _ q) (Nat.le_refl _) ?_,rfl,q _ (I.hok.fresh (Nat.le_refl _))};exact{Nat.le_trans (ZL xs lo hi) hz,_,0,(r.drop (HT.sIx xs.length 0 lo)).take (HT.sIx xs.length xs.length hi - HT.sIx xs.length 0 lo),Heap.get?_push_size _ rfl}
def Jx:V->Bool
 |.non=>true
 |.bl _=>true
 |.int _=>true
 |.str _=>true
 |_=>false
def eqV:V->V->Bool
 |.non,.non=>true
 |.bl a,.bl b=>a == b
 |.bl a,.int b=>(if a then 1 else 0) == b
 |.int a,.bl b=>a == (if b then 1 else 0)
 |.int a,.int b=>a == b
 |.str a,.str b=>a == b
 |_,_=>false
theorem qiW{A:Around}{s:Shared}{y x:V}{u v:Value}(ry:qF y u)(rx:qF x v)(fy:Jx y=true)(fx:Jx x=true):SeqAt.EqAt A s u v (eqV y x):=by
 cases y with
 |non=>
  cases ry
  cases x with
  |non=>cases rx;exact SeqAt.EqAt.same _
  |bl b=>cases rx;exact SeqAt.EqAt.none_bool b
  |int b=>let(t,rfl):=rx;exact SeqAt.EqAt.none_int b t
  |str b=>let(t,rfl):=rx;exact SeqAt.EqAt.none_str b t
  |_=>exact absurd (show false=true from fx) Bool.false_ne_true
 |bl a=>
  cases ry
  cases x with
  |non=>cases rx;exact SeqAt.EqAt.bool_none a
  |bl b=>cases rx;exact SeqAt.EqAt.bool_bool a b
  |int b=>let(t,rfl):=rx;exact SeqAt.EqAt.bool_int a b t
  |str b=>let(t,rfl):=rx;exact SeqAt.EqAt.bool_str a b t
  |_=>exact absurd (show false=true from fx) Bool.false_ne_true
 |int a=>
  let(t',rfl):=ry
  cases x with
  |non=>cases rx;exact SeqAt.EqAt.int_none a t'
  |bl b=>cases rx;exact SeqAt.EqAt.int_bool a t' b
  |int b=>let(t,rfl):=rx;exact SeqAt.EqAt.int_int a t' b t
  |str b=>let(t,rfl):=rx;exact SeqAt.EqAt.int_str a t' b t
  |_=>exact absurd (show false=true from fx) Bool.false_ne_true
 |str a=>
  let(t',rfl):=ry
  cases x with
  |non=>cases rx;exact SeqAt.EqAt.str_none a t'
  |bl b=>cases rx;exact SeqAt.EqAt.str_bool a t' b
  |int b=>let(t,rfl):=rx;exact SeqAt.EqAt.str_int a t' b t
  |str b=>let(t,rfl):=rx;exact SeqAt.EqAt.str_str a t' b t
  |_=>exact absurd (show false=true from fx) Bool.false_ne_true
 |_=>exact absurd (show false=true from fy) Bool.false_ne_true
def eqU(x:V)(u:Value):Bool:=match u with
 |.none=>eqV .non x
 |.bool b=>eqV (.bl b) x
 |.int i _=>eqV (.int i) x
 |.str z _=>eqV (.str z) x
 |_=>false
theorem qfE{x y:V}{u:Value}(r:qF y u)(f:Jx y=true):eqU x u=eqV y x:=by
 cases y with
 |non=>cases r;rfl
 |bl b=>cases r;rfl
 |int i=>let(t,rfl):=r;rfl
 |str z=>let(t,rfl):=r;rfl
 |_=>exact absurd (show false=true from f) Bool.false_ne_true
theorem Jy{x:V}:∀{xs:List V} {us:List Value},qu xs us->xs.all Jx=true->us.any (eqU x)=xs.any λy=>eqV y x
 |_,_,.nil,_=>rfl
 | y::xs,u::us,.cons r t,f=>by rw[List.all_cons,Bool.and_eq_true]at f;rw[List.any_cons,List.any_cons,qfE r f.1,Jy t f.2]
theorem j5{A:Around}{s:Shared}{x:V}{v:Value}(rx:qF x v)(fx:Jx x=true):∀{xs:List V} {us:List Value},qu xs us->xs.all Jx=true->∀u∈us,SeqAt.EqAt A s u v (eqU x u)
 |_,_,.nil,_=>λu hu=>by cases hu
 | y::xs,u::us,.cons r t,f=>λu' hu=>by
  rw[List.all_cons,Bool.and_eq_true]at f;rcases List.mem_cons.mp hu with rfl|hu
  ·rw[qfE r f.1];exact qiW r rx f.1 fx
  ·exact j5 rx fx t f.2 u' hu
def inV(x:V)(xs:List V):Bool:=xs.any λy=>eqV y x
def rIn(K:Frag)(neg:Bool):R2:=λx y H Q=>∃p xs,y=.ref p/\(SqL K H p xs\/SqT K H p xs)/\Jx x=true/\xs.all Jx=true/\Q (.bl (if neg then !inV x xs else inV x xs)) H
def qcl:OpR X (compareOp .In) (rIn X.K false):=by
 intro pins s Z H x y v u Q I rx ry h;let(p,xs,rfl,hq,fx,fs,q):=h;cases ry;rcases hq with hq|hq
 ·let(its,r,pl,hz):=I.list hq;refine SeqAt.in_listAt (eqU x) pl.isList (λw hw=>j5 rx fx r fs w (-hw:)) ⟨.bl _,H,I,rfl,?_⟩;rw[show its.toArray.any (eqU x)=its.any (eqU x) by simp,Jy r fs];exact q
 ·let(its,r,pl,hz):=I.tuple hq;refine SeqAt.in_tupleAt (eqU x) pl (λw hw=>j5 rx fx r fs w (-hw:)) ⟨.bl _,H,I,rfl,?_⟩;rw[show its.toArray.any (eqU x)=its.any (eqU x) by simp,Jy r fs];exact q
def QK:OpR X (compareOp .NotIn) (rIn X.K true):=by
 intro pins s Z H x y v u Q I rx ry h;let(p,xs,rfl,hq,fx,fs,q):=h;cases ry;rcases hq with hq|hq
 ·let(its,r,pl,hz):=I.list hq;refine SeqAt.notIn_listAt (eqU x) pl.isList (λw hw=>j5 rx fx r fs w (-hw:)) ⟨.bl _,H,I,rfl,?_⟩;rw[show its.toArray.any (eqU x)=its.any (eqU x) by simp,Jy r fs];exact q
 ·let(its,r,pl,hz):=I.tuple hq;refine SeqAt.notIn_tupleAt (eqU x) pl (λw hw=>j5 rx fx r fs w (-hw:)) ⟨.bl _,H,I,rfl,?_⟩;rw[show its.toArray.any (eqU x)=its.any (eqU x) by simp,Jy r fs];exact q
def yJ:qO X (.builtin "len") (λxs H Q=>∃p ys,xs=[.ref p]/\(SqL X.K H p ys\/SqT X.K H p ys)/\Q (.int ys.length) H):=by
 intro pins s Z H xs us Q I r h;let(p,ys,rfl,hq,q):=h;let(u,rfl,rx):=yZ r;cases rx;have hn:=Js;rcases hq with hq|hq
 ·let(its,r',pl,hz):=I.list hq;have hlen:=r'.length;exact Calls.call_len_list pl.isList (by simp![List.size_toArray]<;>lia) ⟨.int ys.length,H,I.tok _,⟨s.toks+1,by rw[List.size_toArray,hlen]⟩,q⟩
 ·let(its,r',pl,hz):=I.tuple hq;have hlen:=r'.length;exact len_tuple pl (by simp![List.size_toArray]<;>lia) ⟨.int ys.length,H,I.tok _,⟨s.toks+1,by rw[List.size_toArray,hlen]⟩,q⟩
def QL:qO X (.builtin "len") (λxs H Q=>∃z,xs=[.str z]/\z.length<=sizeLine/\Q (.int z.length) H):=by intro pins s Z H xs us Q I r h;let(z,rfl,hz,q):=h;let(u,rfl,t,rfl):=yZ r;have hn:=Js;exact len_str (1:) ⟨.int z.length,H,I.tok _,⟨_,rfl⟩,q⟩
def jl:qO X (.type "list") (λxs H Q=>∃p ys,xs=[.ref p]/\(SqL X.K H p ys\/SqT X.K H p ys)/\∀l,H l=none->Q (.ref l) (upd H l (.lst ys))):=by
 intro pins s Z H xs us Q I r h;let(p,ys,rfl,hq,q):=h;let(u,rfl,rx):=yZ r;cases rx
 have fin:∀(its:List Value),qu ys its->ys.length<=sizeLine->∀(h':Heap) (c':Nat),(∀b o',s.heap.get? b=some o'->h'.get? b=some o')->
   h'.get? s.heap.objs.size=some { cls:=.type "list",dict:=none,data:=.seq its.toArray c',slots:=#[] }->EP X pins Z Q (.ref s.heap.objs.size) { s with heap:=h' }:=λits r' hz h' c' kp e=>
  ⟨.ref s.heap.objs.size,_,I.laid (t':=s.toks) kp (Nat.le_refl _) (show qQ X.prog X.w _ h' _ (.lst ys) from⟨hz,its,c',r',e⟩),rfl,q _ (I.hok.fresh (Nat.le_refl _))⟩
 rcases hq with hq|hq
 ·let(its,r',pl,hz):=I.list hq;have hlen:=r'.length;let(o,ho,hc,n,hd):=pl.isList;exact call_list_seq p (.inl rfl) ho hc hd (λh' c' kp e=>fin its r' hz h' c' kp e) (by simp![List.size_toArray]<;>lia)
 ·let(its,r',pl,hz):=I.tuple hq;have hlen:=r'.length;let(o,ho,hc,n,hd):=pl;exact call_list_seq p (.inr rfl) ho hc hd (λh' c' kp e=>fin its r' hz h' c' kp e) (by simp![List.size_toArray]<;>lia)
def YH:qO X (.type "tuple") (λxs H Q=>∃p ys,xs=[.ref p]/\((SqL X.K H p ys/\∀l,H l=none->Q (.ref l) (upd H l (.tup ys)))\/(SqT X.K H p ys/\Q (.ref p) H))):=by
 intro pins s Z H xs us Q I r h;let(p,ys,rfl,h):=h;let(u,rfl,rx):=yZ r;cases rx;rcases h with ⟨hq,q⟩|⟨hq,q⟩
 ·let(its,r',pl,hz):=I.list hq;have hlen:=r'.length;refine call_tuple_list pl.isList (λh' kp=>?_) (by simp![List.size_toArray]<;>lia);have I1:Inv X pins Z H { s with heap:=h' }:=I.kept (t':=s.toks) kp
  have I2:Inv X pins Z (upd H h'.objs.size (.tup ys)) { s with heap:=h'.push { cls:=.type "tuple",data:=.seq its.toArray } }:=
   I1.laid (t':=s.toks) (λb o e=>Heap.get?_push_of_some _ e) (Nat.le_refl _) (show qQ X.prog X.w _ _ _ (.tup ys) from⟨hz,its,r',IsTup.new _ _⟩)
  exact{.ref h'.objs.size,_,I2,rfl,q _ (I1.hok.fresh (Nat.le_refl _))}
 ·let(its,r',pl,hz):=I.tuple hq;exact call_tuple_same pl ⟨.ref p,H,I,rfl,q⟩
def tyV(K:Frag)(T:String)(x:V)(H:Hp):Prop:=match x with
 |.str _=>T = "str"
 |.int _=>T = "int"
 |.ref p=>(T = "list"/\∃xs,SqL K H p xs)\/(T = "tuple"/\∃o,K.lookup p=some o/\o.cls=.type "tuple"/\o.dict=none)\/
   (T = "dict"/\((∃kvs,H p=some (.dK kvs))\/∃kvs,H p=some (.dT kvs)))\/(T = "set"/\∃S n,H p=some (.set S n))
 |_=>False
theorem qiX{pins:PP}{Z:St}{H:Hp}{s:Shared}{T:String}{x:V}{v:Value}(I:Inv X pins Z H s)(r:qF x v)(ty:tyV X.K T x H) :
  s.TypeIs v T/\∀a,v=.ref a->∃ob,s.heap.get? a=some ob/\ob.dict=none:=by
 cases x with
 |str z=>
  let(t,rfl):=r
  cases (show T = "str" from ty)
  exact{typeIs_str s z t,λ_ e=>nomatch e}
 |int i=>
  let(t,rfl):=r
  cases (show T = "int" from ty)
  exact{typeIs_int s i t,λ_ e=>nomatch e}
 |ref p=>
  cases r;rcases ty with ⟨rfl,xs,hq⟩|⟨rfl,o,hk,hc,hd⟩|⟨rfl,hk⟩|⟨rfl,S,n,hk⟩
  ·let(its,_,pl,_):=I.list hq;refine{pl.isList.typeIs,λa e=>?_};cases e;let(o,n,e,c,hd,_):=pl;exact⟨o,e,hd⟩
  ·refine{{o,I.kIn p o hk,hc},λa e=>?_};cases e;exact{o,I.kIn _ o hk,hd}
  ·have z:∃o,s.heap.get? p=some o/\o.ExactDict:=by
    rcases hk with ⟨kvs,hk⟩|⟨kvs,hk⟩
    ·let(_,_,_,_,o,_,_,e,ex,_):=I.hok p _ hk;exact⟨o,e,ex⟩
    ·let(_,_,_,_,o,_,_,e,ex,_):=I.hok p _ hk;exact⟨o,e,ex⟩
   let(o,e,ex):=z;refine{⟨o,e,ex.1⟩,λa e2=>?_};cases e2;exact⟨o,e,ex.2.1⟩
  ·let(o,_,_,_,e,ex,_):=I.hok p _ hk;refine{⟨o,e,ex.1⟩,λa e2=>?_};cases e2;exact⟨o,e,ex.2.1⟩
 |_=>exact False.elim ty
def tBM(K:Frag)(T:String)(r:V->List V->Hp->VK->Prop)(to:TE)(t:TA):TE:=λZ H Q=>to Z H λx H1=>tyV K T x H1/\t Z H1 λxs H2=>r x xs H2 Q
variable{o e:Expr}{es:List Expr}{to:TE}{t:TA}{name:Str}{apos cpos:Pos}{T id:String}{r:V->List V->Hp->VK->Prop}
def qiY(pa:PlainAttrs T)(slot:Slot T name id)(hty:typeOf (.builtin id)=pure (.type "method_descriptor"))(hm:MtR X id r)(ho:PE X o to)(ha:PA X (e::es) t)
  (hbase:attributeBase o name X.env (eval o X.env)=eval o X.env:=by rfl)
  (hfew:((backTo cpos (starEach (e::es) X.env)).all (λx=>!x.1)&&(backToKw cpos (keywordEach [] X.env)).all (λx=>x.1.isSome)
   && decide ((e::es).length+([]:List Keyword).length+(if ([]:List Keyword).isEmpty then 0 else 1) < 30))=true:=by rfl)
  (hline:(apos.endLine == cpos.line)=true:=by rfl) (hs:starEach (e::es) X.env=(false,eval e X.env)::starEach es X.env:=by rfl) (hplain:(backTo cpos (starEach es X.env)).any (·.1)=false:=by rfl) :
  PE X (.Call (.Attribute o name apos) (e::es) [] cpos) (tBM X.K T r to t):=by
 intro pins s Z H Q I h;refine wpAny_Call_method_late hbase hfew hline rfl (thn (ho pins s Z H _ I h) λv s1 hq1=>?_);let(x,H1,I1,r1,ty,q1):=hq1;let(h1,h2):=qiX I1 r1 ty;refine{T,id,pa,slot,hty,h1,h2,?_};have hA:=ha cpos pins s1 Z H1 _ I1 q1;rw[hs]at hA ⊢;refine Calls.callWith_builtin (by show(false||(backTo cpos (starEach es X.env)).any (·.1))=false;rw[hplain]<;>rfl) (Calls.evalArgs_plain ?_);exact thn hA λus s2 ⟨vs,H2,I2,r2,q2⟩=>hm pins s2 Z H2 x vs v us Q I2 r1 r2 q2
end
def MtM(X:Cx)(id:String)(r:V->List V->Hp->VK->Prop):Prop:=
 ∀(pins:PP) (s:Shared) (Z:St) (H:Hp) (x:V) (xs:List V) (v:Value) (us:List Value) (Q:VK),Inv X pins Z H s->qF x v->qu xs us->r x xs H Q->
  wpAny (model X.prog X.w) X.A (call (.builtin id) (v::us)) (EP X pins Z Q) X.xe s
theorem qu.one:∀{x:V} {us:List Value},qu [x] us->∃u,us=[u]/\qF x u
 |_,_,.cons r .nil=>{_,rfl,r}
section
variable{X:Cx}{pins:PP}{Z:St}{H:Hp}{s:Shared}{l b:Addr}{xs ys zs:List V}
def Inv.lset{its its':List Value}{n:Nat}{f:Array Value->Array Value}{t':Nat}(I:Inv X pins Z H s)(hH:H l=some (.lst xs))
  (e:s.heap.get? l=some { cls:=.type "list",data:=.seq its.toArray n }) (hf:f its.toArray=its'.toArray) (hv:qu ys its') (hz:ys.length<=sizeLine) :
  Inv X pins Z (upd H l (.lst ys)) { s with heap:=s.heap.update l (Obj.mapSeq f),toks:=t' }:=by
 have q:=PySem.IsL.update e f;rw[hf]at q;refine I.write (x:=l) (e:=l) (by rw[hH];exact trivial) (.inl rfl) (λb' u hb hu=>(Heap.get?_update_other s.heap (Obj.mapSeq f) (Ne.symm hb)).trans hu) ⟨_,q⟩ ?_;exact{hz,its',_,hv,q}
def Inv.lnew{its:List Value}{t':Nat}(I:Inv X pins Z H s)(hv:qu ys its)(hz:ys.length<=sizeLine) :
  Inv X pins Z (upd H s.heap.objs.size (.lst ys)) { s with heap:=s.heap.push { cls:=.type "list",data:=.seq its.toArray },toks:=t' }:=
 I.laid (λ_ _ q=>Heap.get?_push_of_some _ q) (Nat.le_refl _) ⟨hz,its,0,hv,Heap.get?_push_size _ rfl⟩
def Inv.fresh(I:Inv X pins Z H s):H s.heap.objs.size=none:=I.hok.fresh (Nat.le_refl _)
def Inv.lstM(I:Inv X pins Z H s)(hH:H l=some (.lst xs)):xs.length<=sizeLine/\∃(its:List Value) (n:Nat),qu xs its/\xs.length=its.length/\s.heap.get? l=some { cls:=.type "list",data:=.seq its.toArray n }:=by let(z,its,n,r,e):=I.hok l _ hH;exact⟨z,its,n,r,r.length,e⟩
def qem{n:Nat}(h:n<=sizeLine):Builtin.List.listTooLong n=false:=by unfold Builtin.List.listTooLong;exact decide_eq_false (1:)
end
section
variable{X:Cx}
def qgG:V->List V->Hp->VK->Prop:=λx vs H Q=>∃l xs y,x=.ref l/\vs=[y]/\H l=some (.lst xs)/\xs.length < sizeLine/\Q .non (upd H l (.lst (xs++[y])))
def qcm:MtM X "list.append" qgG:=by
 intro pins s Z H x vs v us Q I rx rv h;let(l,xs,y,rfl,rfl,hH,hz,q):=h;cases rx;let(u,rfl,ru):=rv.one;let(z,its,n,r,hl,e):=I.lstM hH;refine call_meets F.slot_list_append ⟨_,e,rfl⟩ F.entry_list_append (F.args_list_append_2 _ _) (PySem.list_append l its.toArray n u (by rw[List.size_toArray];lia)) ⟨e,?_⟩;refine{.non,_,I.lset (its':=its++[u]) hH e (5:) (r.append %[ru|0]) ?_,rfl,q};rw[List.length_append,List.length_singleton]
 lia
def qgH:V->List V->Hp->VK->Prop:=λx vs H Q=>∃l b xs zs,x=.ref l/\vs=[.ref b]/\H l=some (.lst xs)/\H b=some (.lst zs)/\xs.length+zs.length<=sizeLine/\Q .non (upd H l (.lst (xs++zs)))
def qcn:MtM X "list.extend" qgH:=by
 intro pins s Z H x vs v us Q I rx rv h;let(l,b,xs,zs,rfl,rfl,hH,hB,hz,q):=h;cases rx;let(u,rfl,ru):=rv.one;cases ru;let(z,its,n,r,hl,e):=I.lstM hH;let(z2,its2,n2,r2,hl2,e2):=I.lstM hB;have hsz:its.toArray.size+its2.toArray.size<=sizeLine:=by rw[List.size_toArray,List.size_toArray];lia
 have hlong:¬ (!its.toArray.isEmpty&&Builtin.List.listTooLong (its.toArray.size+its2.toArray.size))=true:=by rw[qem hsz,Bool.and_false];exact Bool.false_ne_true
 refine call_meets F.slot_list_extend ⟨_,e,rfl⟩ F.entry_list_extend (F.args_list_extend_2 _ _)
  (AutoSeq1.list_extend_list_list_0 l its.toArray n b its2.toArray n2 hlong (by rw[List.size_toArray];lia) (1:)) ⟨e,e2,?_⟩
 refine{.non,_,I.lset (its':=its++its2) hH e (5:) (r.append r2) ?_,rfl,q};rw[List.length_append]
 lia
def qnJ:R2:=λx y H Q=>∃l b xs zs,x=.ref l/\y=.ref b/\H l=some (.lst xs)/\H b=some (.lst zs)/\xs.length+zs.length<=sizeLine/\∀p,H p=none->Q (.ref p) (upd H p (.lst (xs++zs)))
def qiZ:OpR X (binaryOp .Add) qnJ:=by
 intro pins s Z H x y v u Q I rx ry h;let(l,b,xs,zs,rfl,rfl,hH,hB,hz,q):=h;cases rx;cases ry;let(z,its,n,r,hl,e):=I.lstM hH;let(z2,its2,n2,r2,hl2,e2):=I.lstM hB;refine PySem.P.add_list e e2 ?_ (by rw[List.size_toArray,List.size_toArray];lia);have ea:its.toArray++its2.toArray=(its++its2).toArray:=by simp
 rw[ea];exact{.ref _,_,I.lnew (t':=s.toks) (r.append r2) (by rw[List.length_append];lia),rfl,q _ I.fresh}
end
end L2
namespace Att
open PySem PySem.W PySem.Calls PyProof.Rows
theorem Jz{P:Params}{h:Heap}:∀(ns:List Int) (vs:List Value),WellAll P h vs (ns.map WData.int)->IntsAre vs ns:=by
 intro ns
 induction ns with
 |nil=>intro vs w;rw[List.map_nil]at w;cases w;exact .nil
 |cons n ns ih=>
  intro vs w;rw[List.map_cons]at w
  cases w with
  |cons a b=>cases a;exact .cons _ _ (ih _ b)
theorem qco{l:OpenLaw}{n:Nat}(hn:l.most=some n){P:Params}{h:Heap}{args:List WData}{vals:List Value}
  (hpre:l.row.toRowW.claim.pre args=true) (hwl:WellAll P h vals args) :
  ∃a vs ns,vals=[Value.ref a]/\args=[WData.list (ns.map WData.int)]/\h.get? a=some { cls:=.type "list",data:=.seq vs.toArray }/\IntsAre vs ns/\ns.length<=n:=by
 have hsh:WShape.hasAll [] args [.list .int]=true:=(pre_splitW hpre).1;have hc:l.pre.holds [] { args:=args }=true:=(pre_splitW hpre).2;let(d,r,rfl,h1,h2):=hasAllW_cons hsh;cases hasAllW_nil h2;let(xs,rfl,h3):=hasW_list h1;let(ns,rfl):=items_int h3
 have hlen:ns.length<=n:=by
  unfold OpenLaw.pre at hc
  have h4:(WTm.not (.lt (.lit (.int (n:Int))) (.len (.arg 0)))).holds [] { args:=[.list (ns.map .int)] }=true:=by have h4:=(holds_andW hc).1;rw[hn]at h4;exact h4
  have h5:=condW_of h4 (w_not (w_lt w_lit (w_len_list (w_arg rfl))));rw[List.length_map]at h5;refine Nat.le_of_not_lt λq=>?_;have q':(n:Int) < ((ns.length:Nat):Int):=by lia
  first
   | (rw[decide_eq_true q']at h5;exact absurd h5 (2:))
   | (simp at h5;lia)
 cases hwl with
 |cons w1 w2=>
  cases w2
  cases w1 with
  |list ho hall=>exact{_,_,ns,rfl,rfl,ho,Jz ns _ hall,hlen}
def qcp(l:OpenLaw)(args:List WData):l.row.toRowW.claim.post args (.bool true) args=true:=
 postW_of (r:=l.row.toRowW) (X:=(true == true))
  (show WShape.has [] (.bool true) .bool=true by first|rfl|decide|simp[WShape.has,WShape.arms,WShape.armsAll])
  (show(WTm.eq .res (.lit (.bool true))).value [] { args:=args,res:=some (.bool true),after:=args }=some (.bool (true == true)) from w_eq_bool (w_res rfl) w_lit) rfl
def ZO{l:OpenLaw}{n:Nat}{q:Program}{loose:List Str}{XP:(Str->Option Value)->Heap->Prop}{YP:World->Heap->Prop}{d:DefRec}
  (hn:l.most=some n) (hdf:d.params.defaults=[])
  (call:∀(w:World) (s₀ s₁:Shared) (mg mb:PR) (fa:Addr) (o:Obj) (pm cd doc:Value) (a:Addr) (vs:List Value) (ns:List Int),
   Ground q loose [] XP w s₀ mg mb s₁.heap->YP w s₁.heap->
   s₁.heap.get? fa=some o->o.data=.func (docDef d.name d.params d.body d.scope pm cd doc)->s₁.heap.CodeRec cd d.name->mg d.name=some (.ref fa)->
   s₁.heap.get? a=some { cls:=.type "list",data:=.seq vs.toArray }->IntsAre vs ns->ns.length<=n->s₁.gens=#[]->
   codeAny (model l.prog w) callerA (.call (.ref fa) ⟨[.ref a],[]⟩) (λr s'=>r=.ok (.ret (.bool true))/\OldK s₁.heap s'.heap/\s'.os=s₁.os/\AllBare s'.gens) s₁) :
  WalkO q loose XP YP l.row.toRowW d [] (λf vs=>PySem.call f vs):=by
 intro w s₀ s₁ mg mb G Y fa o pm cd doc dV kV ho hd hcd hD hmg hg args vals as hpre hlay hrd hwl hlo;obtain rfl:dV=.none:=Dflts.none hD hdf;obtain rfl:kV=.none:=Dflts.noKw hD;let(a,vs,ns,rfl,rfl,hobj,hints,hlen):=qco hn hpre hwl;refine enter_call (codeAny_mono (call w s₀ s₁ mg mb fa o pm cd doc a vs ns G Y ho (fd_plain hd) hcd hmg hobj hints hlen hg) λr s' hq=>?_);let(rfl,h2,h3,h4):=hq;exact{.inl {.bool true,.bool true,[],rfl,λ_=>rfl,.bool true,qcp l _,λ_=>{List.Pairwise.nil,λ_ hm=>(nomatch hm)}},h2,h3,h4}
end Att
namespace L2
open PySem PySem.Spec PyProof.Rows
theorem QM:∀{vs:List Value} {ns:List Int},IntsAre vs ns->qu (ns.map V.int) vs
 |_,_,.nil=>.nil
 |_,_,.cons n t h=>.cons ⟨t,rfl⟩ (QM h)
def ql1(H:Hp):Prop:=∀b,H b=none\/∃o xs,H b=some (.frz o (.lst xs))
theorem qen{P:Program}{w:World}{K:Frag}{mg mb:PR}{CX:CXT}{k:Nat}{fa a:Addr}{fd:FuncData}{x:Str}{sp:Sp}{s₁:Shared}{vs:List Value}{ns:List Int}
  (KX:K.In s₁.heap) (hns:s₁.heap.Ns mainGlobals mg) (hb:s₁.heap.Ns builtinsNs mb) (hbb:∀x:Str,x≠"__name__"->mb x=bootBuiltins x) (hlim:s₁.heap.NoLimit) (hg:s₁.gens=#[])
  (ha:s₁.heap.get? a=some { cls:=.type "list",data:=.seq vs.toArray }) (hi:IntsAre vs ns) (hl:ns.length<=sizeLine) (hr:Room k callerA)
  (F:∀base:Heap,K.In base->base.Ns mainGlobals mg->FnOk P w K mg base CX k fa fd [x] sp) (hbind:∀(s:Shared) (u:Value),BindsTo s fd ⟨[u],[]⟩ [(x,u)])
  (hsp:∀H:Hp,ql1 H->SqL K H a (ns.map V.int)->sp [.ref a] H (λv _=>v=.bl true) λ_ _ _=>False)
  (hCX:∀H e s',CX [] H s₁ (λ_ _ _=>False) e s'->False) :
  codeAny (model P w) callerA (.call (.ref fa) ⟨[.ref a],[]⟩) (λr s'=>r=.ok (.ret (.bool true))/\OldK s₁.heap s'.heap/\s'.os=s₁.os/\AllBare s'.gens) s₁:=by
 have rv:=QM hi;have lenV:=hi.length
 have core:∀H:Hp,ql1 H->SqL K H a (ns.map V.int)->HOk P w H s₁.heap->(∀b,H b≠none->b=a)->(H a≠none->K.lookup a=none)->
   codeAny (model P w) callerA (.call (.ref fa) ⟨[.ref a],[]⟩) (λr s'=>r=.ok (.ret (.bool true))/\OldK s₁.heap s'.heap/\s'.os=s₁.os/\AllBare s'.gens) s₁:=by
  intro H hO hS hok hA hK;have base_of:∀{b:Addr} {o:Obj},s₁.heap.get? b=some o->H b=none->(qd3 s₁.heap H).get? b=some o:=λe n=>qd4 e n
  have noA:∀{b:Addr} {o:Obj} {es:Array DictEntry} {ep:Nat},s₁.heap.get? b=some o->o.data=.dict es ep->H b=none:=λ{b o es ep} e d=>by
   cases q:H b with
   |none=>rfl
   |some u=>have e':b=a:=hA b (by rw[q];simp);subst e';rw[ha]at e;cases e;have d':Data.seq vs.toArray _=Data.dict es ep:=d;cases d'
  have nsK:∀{b:Addr} {m:PR},s₁.heap.Ns b m->(qd3 s₁.heap H).Ns b m:=λ{b m} ⟨o,es,ep,e,d,r⟩=>{o,es,ep,base_of e (noA e d),d,r}
  have hKb:K.In (qd3 s₁.heap H):=λb o e=>base_of (KX b o e) (by
   cases q:H b with
   |none=>rfl
   |some u=>have e':b=a:=hA b (by rw[q];simp);subst e';rw[hK (by rw[q];simp)]at e;cases e)
  have hM:Mod K mg (qd3 s₁.heap H):={hKb,nsK hns,{mb,nsK hb,hbb},let ⟨mc,h1,h2⟩:=hlim;⟨mc,nsK h1,h2⟩};have e0:Env0 P w K mg (qd3 s₁.heap H) callerA [] s₁ H:={rfl,hM,λb o e=>qgl e,Nat.le_of_eq (qb3 _ _),trivial,λb hb=>absurd (show b∈([]:List Addr) from hb) (5:),hok,.of_eq hg};refine codeAny_mono ((F _ hKb (nsK hns)).run callerA [] s₁ H ⟨[.ref a],[]⟩ [.ref a] [.ref a] _ _ hr e0 (hbind s₁ (.ref a)) %[rfl|0] (hsp H hO hS)) λr s' h=>?_
  cases r with
  |error e=>exact(hCX H e s' h).elim
  |ok fl=>
   cases fl with
   |next=>exact False.elim h
   |brk=>exact False.elim h
   |cont=>exact False.elim h
   |ret u=>
    let(v,H',os,bare,un,hok',r',q):=h;have q':v=.bl true:=q;subst q';obtain rfl:u=Value.bool true:=r';refine{rfl,OldK.of_keep λb o e=>?_,os,bare}
    cases q:H b with
    |none=>exact un.keep b o e q (by intro z;exact absurd (show b∈([]:List Addr) from z) (5:)) (5:)
    |some u=>
     rcases hO b with z|⟨ob,xs,z⟩
     ·rw[q]at z;cases z
     ·have z2:=un.frzs b ob _ z;let(e1,_):=hok b _ z;let(e2,_):=hok' b _ z2;rw[e]at e1;cases e1;exact e2
 cases hk:K.lookup a with
 |some o=>have e:=KX a o hk;rw[ha]at e;cases e;refine core (λ_=>none) (λ_=>.inl rfl) (.inr ⟨_,vs.toArray,_,hk,rfl,rfl,rfl,by rw[List.size_toArray,lenV];exact hl,(-rv:)⟩) (λb u z=>by have z':(none:Option HO)=some u:=z;cases z') (λb z=>absurd rfl z) λz=>absurd rfl z
 |none=>
  refine core (λb=>if b=a then some (.frz { cls:=.type "list",data:=.seq vs.toArray } (.lst (ns.map V.int))) else none) (λb=>?_) (.inl (.inr ⟨{ cls:=.type "list",data:=.seq vs.toArray },if_pos rfl⟩)) (λb u z=>?_) (λb z=>?_) λ_=>hk
  ·by_cases hb:b=a
   ·exact .inr ⟨_,_,if_pos hb⟩
   ·exact .inl (if_neg hb)
  ·by_cases hb:b=a
   ·have z':=(if_pos hb).symm.trans z;cases z';subst hb;exact{ha,by rw[List.length_map];exact hl,vs,_,rv,ha}
   ·have z':=(if_neg hb).symm.trans z;cases z'
  ·by_cases hb:b=a
   ·exact hb
   ·exact absurd (if_neg hb) z
def qgI{l:PySem.W.OpenLaw}{n k:Nat}{q:Program}{loose:List Str}{XP:(Str->Option Value)->Heap->Prop}{YP:World->Heap->Prop}{d:DefRec}{K:Params->Frag}{CX:World->CXT}{sp:World->Sp}{x:Str}
  (hn:l.most=some n) (hn2:n<=sizeLine) (hdf:d.params.defaults=[]) (hr:Room k callerA)
  (hY:∀(w:World) (h:Heap),YP w h->(K w.params).In h)
  (F:∀(w:World) (mg:PR) (fa:Addr) (h:Heap),(K w.params).In h->h.Ns mainGlobals mg->mg d.name=some (.ref fa)->
   ∃fd:FuncData,(∀(s:Shared) (u:Value),BindsTo s fd ⟨[u],[]⟩ [(x,u)])/\
    ∀base:Heap,(K w.params).In base->base.Ns mainGlobals mg->FnOk l.prog w (K w.params) mg base (CX w) k fa fd [x] (sp w))
  (hsp:∀(w:World) (H:Hp) (a:Addr) (ns:List Int),ns.length<=n->ql1 H->SqL (K w.params) H a (ns.map V.int)->sp w [.ref a] H (λv _=>v=.bl true) λ_ _ _=>False)
  (hCX:∀(w:World) (H:Hp) (s:Shared) (e:Value) (s':Shared),CX w [] H s (λ_ _ _=>False) e s'->False) :
  PySem.W.WalkO q loose XP YP l.row.toRowW d [] (λf vs=>PySem.call f vs):=by
 refine Att.ZO hn hdf λw s₀ s₁ mg mb fa o pm cd doc a vs ns G Y ho hd hcd hmg hobj hints hlen hg=>?_;have KX:=hY w _ Y;let(fd,hb,hF):=F w mg fa _ KX G.T.g hmg;exact qen KX G.T.g G.T.b G.T.builtins G.T.nolimit hg hobj hints (Nat.le_trans hlen hn2) hr hF hb (λH hO hS=>hsp w H a ns hlen hO hS) λH e s'=>hCX w H s₁ e s'
def qR(s:Stmt):Arguments:=match s with
 |.FunctionDef _ a _ _ _ _ _ _ _ _=>a
 |_=>{ posonlyargs:=[],args:=[],vararg:=none,kwonlyargs:=[],kw_defaults:=[],kwarg:=none,defaults:=[] }
def qA(s:Stmt):List Stmt:=match s with
 |.FunctionDef _ _ b _ _ _ _ _ _ _=>b
 |_=>[]
def qh(s:Stmt):Scope:=match s with
 |.FunctionDef _ _ _ _ _ _ sc _ _ _=>sc
 |_=>{ kind:=.function,names:=[],isGenerator:=false,isCoroutine:=false }
abbrev CX0:CXT:=λ_ _ _ _ _ _=>False
abbrev E0:XK:=λ_ _ _=>False
def ZQ{X:Cx}:zD CX0 X E0:=λ_ _ _ _ _ _ _ h=>h.elim
structure Fun(K:Frag)(x qual:Str)(st:Stmt)(f:Addr)(fd:FuncData):Prop where
 ex:∃(oc:Value) (od:Option Addr) (kV doc pm:Value) (an:Option Addr) (cdv ct:Value) (osl:Array (Option Value)),
  fd=PySem.W.fnOf x qual (qR st) (qA st) (qh st) .none kV doc pm an cdv ct/\K.lookup f=some ⟨oc,od,.func fd,osl⟩/\PySem.W.codeIn K cdv qual=true
 kp:PySem.W.keepIn K (.ref f)=true
section
variable{P:Program}{w:World}{K:Frag}{mg:PR}{base:Heap}
def Fun.ok{x qual:Str}{st:Stmt}{f:Addr}{fd:FuncData}{N ps:List Str}{k:Nat}{sp:Sp}(F:Fun K x qual st f fd)(S:FnScope N ps (qh st))(len:∀vs H Q E,sp vs H Q E->vs.length=ps.length)
  (hbody:∀(cdv:Value) (A:Around) (outer:List Env) (s:Shared) (H:Hp) (vs:List V) (Q:VK) (E:XK),Room k (A.deeper (envOfC qual (qh st) s.heap.objs.size f cdv))->sp vs H Q E->
   ∃t,PSs (qch CX0 P w K mg base N qual (qh st) f cdv A outer s H E).nox (qA st) t/\t { nx:=λ_ H'=>Q .non H',rt:=Q } (y0 N vs) H):FnOk P w K mg base CX0 (k+1) f fd ps sp:=by
 let(oc,od,kV,doc,pm,an,cdv,ct,osl,rfl,lk,hcd):=F.ex;refine qiT lk hcd S len λA outer s H vs Q E hr hsp=>?_;let(t,h,q):=hbody cdv A outer s H vs Q E hr hsp;exact⟨t,h.nox,q⟩
def Fun.binds{x qual:Str}{st:Stmt}{f:Addr}{fd:FuncData}{ps:List Str}(F:Fun K x qual st f fd)
  (h:∀(kV doc pm:Value) (an:Option Addr) (cdv ct:Value) (us:List Value),us.length=ps.length->bindArgs (PySem.W.fnOf x qual (qR st) (qA st) (qh st) .none kV doc pm an cdv ct) ⟨us,[]⟩=pure (ps.zip us)):zg K fd ps []:=by
 let(oc,od,kV,doc,pm,an,cdv,ct,osl,rfl,lk,hcd):=F.ex;exact .all (h kV doc pm an cdv ct)
def qfF{x qual:Str}{st:Stmt}{f:Addr}{oc:Value}{od an:Option Addr}{osl:Array (Option Value)}{kV doc pm cdv ct:Value}(l:K.lookup f=some ⟨oc,od,.func (PySem.W.fnOf x qual (qR st) (qA st) (qh st) .none kV doc pm an cdv ct),osl⟩)
  (c:PySem.W.codeIn K cdv qual=true) (k:PySem.W.keepIn K (.ref f)=true):Fun K x qual st f (PySem.W.fnOf x qual (qR st) (qA st) (qh st) .none kV doc pm an cdv ct):={⟨oc,od,kV,doc,pm,an,cdv,ct,osl,rfl,l,c⟩,k}
end
def QN{n:Nat}(h:n<=1000):n < sizeLine:=Nat.lt_of_le_of_lt h (2:)
section
variable{X:Cx}
def pv(i:Nat){x:Str}{pos:Pos}(hN:X.N[i]?=some x:=by rfl)(hv:Vis X.env.scope x:=by first|exact Or.inl rfl|exact Or.inr (Or.inl rfl)|exact Or.inr (Or.inr rfl))(hd:(x == ("__debug__" : Str))=false:=by decide)
  (hcd:(x == ("__classdict__" : Str))=false:=by decide):PE X (.Name x pos) (qlr i):=qb4 hN hv hd hcd
end
def qp(H H':Hp):Prop:=∀b o,H b=some o->H' b=some o
def qp.seq{K:Frag}{H H':Hp}{a:Addr}{xs:List V}(e:qp H H')(h:SqL K H a xs):SqL K H' a xs:=by
 rcases h with (h|⟨o,h⟩)|h
 ·exact .inl (.inl (e _ _ h))
 ·exact .inl (.inr ⟨o,e _ _ h⟩)
 ·exact .inr h
end L2
set_option maxHeartbeats 4000000
namespace DG
open PySem
def qgJ:Stmt->List Stmt
 |.ClassDef _ _ _ b _ _ _ _ _ _ _=>b
 |_=>[]
end DG
namespace HD
open PySem PySem.W
def JA(tb:String->Option Builtin)(p:Program)(w:World)(n₀:Nat)(ann:Option Value):Nat->SharedT->Thread->Option SharedT
 |0,_,_=>none
 | n+1,s,t=>match through t with
  |true=>some s
  |false=>match stepOk n₀ ann t with
   |false=>none
   |true=>match stepT (denote tb) p w s t with
    | some (s',t')=>JA tb p w n₀ ann n s' t'
    |none=>none
theorem QO{tb:String->Option Builtin}{p:Program}{w:World}{n₀:Nat}{ann:Option Value}:∀{n:Nat} {s s':SharedT} {t:Thread},JA tb p w n₀ ann n s t=some s'->topRun tb p w n₀ ann n s.abs t=some s'.abs
 |0,_,_,_,h=>by cases h
 | n+1,s,s',t,h=>by
  unfold JA at h;unfold topRun
  cases ht:through t with
  |true=>rw[ht]at h;cases h;rfl
  |false=>
   rw[ht]at h
   cases hk:stepOk n₀ ann t with
   |false=>rw[hk]at h;cases h
   |true=>
    rw[hk]at h
    cases hs:stepT (denote tb) p w s t with
    |none=>rw[hs]at h;cases h
    |some r=>let(s₂,t₂):=r;rw[hs]at h;dsimp only;rw[stepT_spec hs];exact QO h
def ofL:List Obj->Nat->BT->BT
 |[],_,t=>t
 | o::r,n,t=>ofL r (n+1) (t.ins n o)
def qgK(P:Params)(os:OsState):SharedT:={ofL (boot_heap P).objs.toList 0 .nil,(boot_heap P).objs.toList.length,(boot_heap P).life,Array.mk [],boot_drawn,boot_toks,os}
def qcq(P:Params)(os:OsState):(qgK P os).abs=⟨boot_heap P,Array.mk [],boot_drawn,boot_toks,os⟩:=(4:)
def qgL{α:Type}(p q:Program)(loose:List Str)(Xt:Shared->Bool)(Yf:Shared->α)(g0:Bool)(Hv:Heap)(s:Shared):=
 (staticsOk (importedModules p.main.body) Hv s.heap&&namesBound p s.heap&&gensDone s&&laidKept Hv s.heap,openSeen q loose (importedModules p.main.body) Xt g0 s,Yf s)
def qgM{p q:Program}{loose:List Str}{Xt:Shared->Bool}{α:Type}{Yf:Shared->α}{Ya:World->α}{N:Nat}{g0:Bool}{m₀:Nat}{ann:Option Value}
  (open_:∀w:World,(fencedOpening treeTable p w N).map (λs=>(s.heap,s.gens,s.drawn,s.toks))=some (boot_heap w.params,Array.mk [],boot_drawn,boot_toks))
  (size:∀w:World,((boot_heap w.params).isNs mainGlobals&&(Array.mk []:Array GenState).size == 0,(boot_heap w.params).objs.size,(boot_heap w.params).nsMap mainGlobals "__annotations__")=(true,m₀,ann))
  (h:∀w os,(JA treeTable p w m₀ ann N (qgK w.params os) (topStub p)).map (λs=>qgL p q loose Xt Yf g0 (boot_heap w.params) s.abs)=some (true,openGood q loose,Ya w)):LeftO p q loose Xt Yf Ya N g0:=λw=>by
 let((h0,gs,d,k,os),e,e'):=Option.map_eq_some_iff.mp (open_ w);let(rfl,rfl,rfl,rfl):h0=boot_heap w.params/\gs=Array.mk []/\d=boot_drawn/\k=boot_toks:=(-e':)
 let(z1,z2,z3):_/\_/\_:=by simpa only[Prod.mk.injEq] using size w
 let(s₁,r,l):=Option.map_eq_some_iff.mp (h w os);have r':=QO r;rw[qcq]at r';let(l1,l2,l3):_/\_/\_:=by simpa only[qgL,Prod.mk.injEq] using l
 have t:topFrom treeTable p w N ⟨boot_heap w.params,Array.mk [],boot_drawn,boot_toks,os⟩=some s₁.abs:=by unfold topFrom;dsimp only;rw[z1,z2,z3,r'];show(match staticsOk (importedModules p.main.body) (boot_heap w.params) s₁.abs.heap&&namesBound p s₁.abs.heap&&gensDone s₁.abs&&laidKept (boot_heap w.params) s₁.abs.heap with |true=>_ |false=>_)=_;rw[l1]
 unfold openEnds;rw[e];show(topFrom treeTable p w N _).map _=_;rw[t];exact congrArg some (Prod.ext l2 l3)
def dE(P:Params)(k:Str)(t:Tok)(v:Value):DictEntry:={PyData.keyHash P k,.str k t,v}
def oFn(d:Option Addr)(st:Stmt)(name qual:Str)(dV kV doc pm:Value)(an:Option Addr)(cd ct:Value):Obj:={.type "function",d,.func (fnOf name qual (L2.qR st) (L2.qA st) (L2.qh st) dV kV doc pm an cd ct),#[]}
def oC(n:Str)(t1:Tok)(q:Str)(t2 t3:Tok)(l ar:Int)(a b:Addr)(x y:Value)(c:Addr)(u:Int)(v:Tok):Obj:={.type "code",none,.fields #[.str n t1,.str q t2,.str "/claim/cut.py" t3,.int l 0,.int ar 0,.int 0 0,.int 0 0,.int 3 0,.ref a,.bool true,.int 181 0,.ref b,.none,x,y,.ref c,.int u 0,.int l 0,.str "/claim/cut.py" v],#[]}
def oG(st:Stmt)(n m:Str)(t:Tok)(a:Addr):Obj:=oFn none st n n .none .none .none (.str m t) none (.ref a) .none
def oB(n:Str)(t:Tok)(l ar:Int)(a:Addr)(v:Nat):Obj:=oC n t n (t+1) (t+2) l ar a (a+1) (.ref (a+2)) (.ref (a+3)) (a+4) v (v+1)
def co(a:Addr)(o:Obj)(r:Frag):Frag:=(a,o)::r
def fB(st:Stmt)(m:Str)(mt:Tok)(a b:Addr)(n:Str)(t:Tok)(l ar:Int)(u:Nat)(r:Frag):Frag:=(a,oB n t l ar (a - 5) u)::(b,oG st n m mt a)::r
def qcr(w:World):((boot_heap w.params).isNs mainGlobals&&(Array.mk []:Array GenState).size == 0,(boot_heap w.params).objs.size,(boot_heap w.params).nsMap mainGlobals "__annotations__")=(true,11,some (.ref 6)):=(4:)
end HD
namespace TS
open PySem PyProof.Rows
def gal:Bool->Keyed->Array Keyed->Nat->Nat->Nat->StateT SortSt Sem (Option Nat):=sortPriv% PySem.Builtin.gallop
def mlo:Array Keyed->Array Keyed->StateT SortSt Sem (Array Keyed):=sortPriv% PySem.Builtin.mergeLo
def mhi:Array Keyed->Array Keyed->StateT SortSt Sem (Array Keyed):=sortPriv% PySem.Builtin.mergeHi
def byd(left:Bool)(key:Keyed)(arr:Array Keyed)(p:Nat):StateT SortSt Sem (Option Bool):=do
 let x<-elem' arr p
 if left then lt' x key else return (<-lt' key x).map (!·)
def qeo(left:Bool)(key:Keyed)(arr:Array Keyed)(base n:Nat)(lw0 up0:Nat):StateT SortSt Sem (Option Nat):=do
  let mut lw:=lw0
  let mut up:=up0
  for _ in [0:n] do
   if lw≥up then break
   let mid:=lw+(up - lw) / 2
   let some mo<-byd left key arr (base+mid)|return none
   if mo then lw:=mid+1 else up:=mid
  return some up
def gup(left:Bool)(key:Keyed)(arr:Array Keyed)(base n hint:Nat):StateT SortSt Sem (Option Nat):=do
   let mut la:=0
   let mut of:=1
   for _ in [0:n] do
    if of≥n - hint then break
    let some mo<-byd left key arr (base+(hint+of))|return none
    if !mo then break
    la:=of
    of:=2 * of+1
   qeo left key arr base n (hint+la+1) (hint+min of (n - hint))
def gdn(left:Bool)(key:Keyed)(arr:Array Keyed)(base n hint:Nat):StateT SortSt Sem (Option Nat):=do
   let mut la:=0
   let mut of:=1
   for _ in [0:n] do
    if of≥hint+1 then break
    let some mo<-byd left key arr (base+(hint - of))|return none
    if mo then break
    la:=of
    of:=2 * of+1
   qeo left key arr base n (hint+1 - min of (hint+1)) (hint - la)
def qi0(left:Bool)(key:Keyed)(arr:Array Keyed)(base n hint:Nat):gal left key arr base n hint=(do
  let some rt<-byd left key arr (base+hint)|return none
  if rt then gup left key arr base n hint else gdn left key arr base n hint):=rfl
section
variable{M:Model}{A:Around}{E:PQ}{s:Shared}{O:KeyOrd}{kf:Keyed->O.α}{U:SortKind}{G:Keyed->Prop}
def y4(M:Model)(A:Around)(E:PQ)(s:Shared)(O:KeyOrd)(kf:Keyed->O.α)(U:SortKind)(G:Keyed->Prop):Prop:=
 ∀x y,G x->G y->∀(st:SortSt) (Q:Option Bool->SortSt->Prop),kindOf st=U->Q (some (O.blt (kf x) (kf y))) st->wpS M A E s (lt' x y) Q st
def pby(O:KeyOrd)(kf:Keyed->O.α)(left:Bool)(key x:Keyed):Bool:=if left then O.blt (kf x) (kf key) else !(O.blt (kf key) (kf x))
def qq{arr:Array Keyed}{p:Nat}{x:Keyed}{st:SortSt}{Q:Keyed->SortSt->Prop}(e:arr[p]?=some x)(h:Q x st):wpS M A E s (elem' arr p) Q st:=by rw[elem'_eq,e];exact wpS_pure h
theorem qax(L:y4 M A E s O kf U G){left:Bool}{key:Keyed}{arr:Array Keyed}{p:Nat}{x:Keyed}{st:SortSt}{Q:Option Bool->SortSt->Prop}(hk:kindOf st=U)(hG:G key)(e:arr[p]?=some x)(hx:G x)
  (h:Q (some (pby O kf left key x)) st):wpS M A E s (byd left key arr p) Q st:=by
 unfold byd;refine wpS_bind (qq e ?_);unfold pby at h
 cases left with
 |true=>simp![if_true]at h ⊢;exact L x key hx hG st Q hk h
 |false=>simp![Bool.false_eq_true,if_false]at h ⊢;exact wpS_bind (L key x hG hx st _ hk (wpS_pure h))
variable{left:Bool}{key:Keyed}{arr:Array Keyed}{base n hint:Nat}{st:SortSt}{P:Nat->Bool}
def qay(L:y4 M A E s O kf U G){Q:Option Nat->SortSt->Prop}(hk:kindOf st=U)(hG:G key)(hA:∀i,i < n->∃x,arr[base+i]?=some x/\G x/\pby O kf left key x=P i)
  (mono:∀i j,i<=j->j < n->P j=true->P i=true) {lw up:Nat} (h1:lw<=up) (h2:up<=n) (hl:∀i,i < lw->P i=true) (hu:∀i,up<=i->i < n->P i=false)
  (h:∀k,k<=n->(∀i,i < k->P i=true)->(∀i,k<=i->i < n->P i=false)->Q (some k) st):wpS M A E s (qeo left key arr base n lw up) Q st:=by
 unfold qeo;dsimp only
 refine wpS_bind (wpS_mono (wpS_forRange (I:=λx c st'=>st'=st/\∃l u,c=(none,l,u)/\l<=u/\u<=n/\u - l<=n - x/\(∀i,i < l->P i=true)/\(∀i,u<=i->i < n->P i=false))
  (Q:=λc st'=>st'=st/\∃u,c=(none,u,u)/\u<=n/\(∀i,i < u->P i=true)/\(∀i,u<=i->i < n->P i=false)) ?step ?fin ⟨rfl,lw,up,rfl,h1,h2,by omega,hl,hu⟩) ?post)
 case post=>rintro c st' ⟨rfl,u,rfl,a,b,d⟩;exact wpS_pure (h u a b d)
 case fin=>
  rintro c st' ⟨rfl,l,u,rfl,a,b,d,e,f⟩
  have:l=u:=by omega
  subst this;exact⟨rfl,l,rfl,b,e,f⟩
 case step=>
  rintro x c st' _ hx ⟨rfl,l,u,rfl,a,b,d,e,f⟩;dsimp only
  by_cases hge:l≥u
  ·rw[if_pos hge]
   have:l=u:=by omega
   subst this;exact wpS_pure ⟨rfl,l,rfl,b,e,f⟩
  ·rw[if_neg hge];let(z,z1,z2,z3):=hA (l+(u - l) / 2) (by omega);refine wpS_bind (qax L hk hG z1 z2 ?_);rw[z3]
   cases hp:P (l+(u - l) / 2) with
   |true=>simp![if_true];refine wpS_pure ⟨rfl,_,_,rfl,by omega,b,by omega,λi hi=>mono i _ (by omega) (by omega) hp,f⟩
   |false=>
    simp![Bool.false_eq_true,if_false];refine wpS_pure ⟨rfl,_,_,rfl,by omega,by omega,by omega,e,λi hi hn=>?_⟩
    cases q:P i with
    |false=>rfl
    |true=>rw[mono _ i hi hn q]at hp;cases hp
theorem qi1(L:y4 M A E s O kf U G){Q:Option Nat->SortSt->Prop}(hk:kindOf st=U)(hG:G key)(hA:∀i,i < n->∃x,arr[base+i]?=some x/\G x/\pby O kf left key x=P i)
  (mono:∀i j,i<=j->j < n->P j=true->P i=true) (hh:hint < n)
  (h:∀k,k<=n->(∀i,i < k->P i=true)->(∀i,k<=i->i < n->P i=false)->Q (some k) st):wpS M A E s (gal left key arr base n hint) Q st:=by
 have monoF:∀i j,i<=j->j < n->P i=false->P j=false:=λi j a b c=>by
  cases q:P j with
  |false=>rfl
  |true=>rw[mono i j a b q]at c;cases c
 rw[qi0];let(z,z1,z2,z3):=hA hint hh;refine wpS_bind (qax L hk hG z1 z2 ?_);rw[z3]
 cases hp:P hint with
 |true=>
  simp![if_true];unfold gup;dsimp only
  refine wpS_bind (wpS_mono (wpS_forRange (I:=λx c st'=>st'=st/\∃l o,c=(none,l,o)/\l < o/\x < o/\hint+l < n/\P (hint+l)=true)
   (Q:=λc st'=>st'=st/\∃l o,c=(none,l,o)/\l < o/\hint+l < n/\P (hint+l)=true/\(n - hint<=o\/(hint+o < n/\P (hint+o)=false))) ?step ?fin ⟨rfl,0,1,rfl,by omega,by omega,by omega,hp⟩) ?post)
  case fin=>rintro c st' ⟨rfl,l,o,rfl,a,b,d,e⟩;exact{rfl,l,o,rfl,a,d,e,.inl (by omega)}
  case post=>
   rintro c st' ⟨rfl,l,o,rfl,a,d,e,f⟩;dsimp only;refine qay L hk hG hA mono (by omega) (by omega) (λi hi=>mono i _ (by omega) d e) (λi hi hn=>?_) h;rcases f with f|⟨f,g⟩
   ·omega
   ·exact monoF _ i (by omega) hn g
  case step=>
   rintro x c st' _ hx ⟨rfl,l,o,rfl,a,b,d,e⟩;dsimp only
   by_cases hge:o≥n - hint
   ·rw[if_pos hge];exact wpS_pure ⟨rfl,l,o,rfl,a,d,e,.inl hge⟩
   ·rw[if_neg hge];let(y,y1,y2,y3):=hA (hint+o) (by omega);refine wpS_bind (qax L hk hG y1 y2 ?_);rw[y3]
    cases hq:P (hint+o) with
    |false=>simp![Bool.not_false,if_true];exact wpS_pure ⟨rfl,l,o,rfl,a,d,e,.inr ⟨by omega,hq⟩⟩
    |true=>simp![Bool.not_true,Bool.false_eq_true,if_false];exact wpS_pure ⟨rfl,o,2 * o+1,rfl,by omega,by omega,by omega,hq⟩
 |false=>
  simp![Bool.false_eq_true,if_false];unfold gdn;dsimp only
  refine wpS_bind (wpS_mono (wpS_forRange (I:=λx c st'=>st'=st/\∃l o,c=(none,l,o)/\l < o/\x < o/\l<=hint/\P (hint - l)=false)
   (Q:=λc st'=>st'=st/\∃l o,c=(none,l,o)/\l < o/\l<=hint/\P (hint - l)=false/\(hint+1<=o\/(o<=hint/\P (hint - o)=true))) ?step ?fin ⟨rfl,0,1,rfl,by omega,by omega,by omega,hp⟩) ?post)
  case fin=>rintro c st' ⟨rfl,l,o,rfl,a,b,d,e⟩;exact{rfl,l,o,rfl,a,d,e,.inl (by omega)}
  case post=>
   rintro c st' ⟨rfl,l,o,rfl,a,d,e,f⟩;dsimp only;refine qay L hk hG hA mono (by omega) (by omega) (λi hi=>?_) (λi hi hn=>monoF _ i hi hn e) h;rcases f with f|⟨f,g⟩
   ·omega
   ·exact mono i _ (by omega) (by omega) g
  case step=>
   rintro x c st' _ hx ⟨rfl,l,o,rfl,a,b,d,e⟩;dsimp only
   by_cases hge:o≥hint+1
   ·rw[if_pos hge];exact wpS_pure ⟨rfl,l,o,rfl,a,d,e,.inl hge⟩
   ·rw[if_neg hge];let(y,y1,y2,y3):=hA (hint - o) (by omega);refine wpS_bind (qax L hk hG y1 y2 ?_);rw[y3]
    cases hq:P (hint - o) with
    |true=>simp![if_true];exact wpS_pure ⟨rfl,l,o,rfl,a,d,e,.inr ⟨by omega,hq⟩⟩
    |false=>simp![Bool.false_eq_true,if_false];exact wpS_pure ⟨rfl,o,2 * o+1,rfl,by omega,by omega,by omega,hq⟩
end
section
variable{O:KeyOrd}{kf:Keyed->O.α}
def le(O:KeyOrd)(kf:Keyed->O.α)(x y:Keyed):Prop:=O.kle (kf x) (kf y)
def qx{x y z:Keyed}(h1:le O kf x y)(h2:le O kf y z):le O kf x z:=KeyOrd.kle_trans h1 h2
def le_of_lt{x y:Keyed}(h:O.blt (kf x) (kf y)=true):le O kf x y:=KeyOrd.kle_of_klt h
def qW{x y:Keyed}(h:O.blt (kf x) (kf y)=false):le O kf y x:=h
def Srt(O:KeyOrd)(kf:Keyed->O.α)(a:Array Keyed)(lo hi:Nat):Prop:=∀(i j:Nat) (x y:Keyed),lo<=i->i<=j->j < hi->a[i]?=some x->a[j]?=some y->le O kf x y
def zS{a:Array Keyed}{i:Nat}{y:Keyed}:y∈a.toList.drop i↔∃t:Nat,i<=t/\a[t]?=some y:=by
 rw[List.mem_drop_iff_getElem];constructor
 ·rintro⟨t,ht,rfl⟩;refine{i+t,by lia,?_};have h2:i+t < a.size:=by have:=a.length_toList;lia
  rw[Array.getElem?_eq_getElem h2];simp
 ·rintro⟨t,ht,e⟩;let(h2,rfl):=Array.getElem?_eq_some_iff.mp e;refine{t - i,by simp;lia,?_}
  have:i+(t - i)=t:=by lia
  simp[this]
def QP{a:Array Keyed}{i:Nat}(h:a.size<=i):a.toList.drop i=[]:=List.drop_eq_nil_of_le (-h:)
def jE(a:Array Keyed)(i:Nat):(a.extract i a.size).toList=a.toList.drop i:=by rw[Array.toList_extract,List.extract_eq_take_drop];rw[List.take_of_length_le];simp
def YI(a:Array Keyed)(i k:Nat):(a.extract i (i+k)).toList++a.toList.drop (i+k)=a.toList.drop i:=by
 rw[Array.toList_extract,List.extract_eq_take_drop]
 have:i+k - i=k:=by lia
 rw[this,<-List.drop_drop];exact List.take_append_drop k _
def ZU{a:Array Keyed}{i k:Nat}{x:Keyed}(h:x∈(a.extract i (i+k)).toList):∃t,t < k/\a[i+t]?=some x:=by
 let(t,ht,e):=List.mem_iff_getElem.mp h;have h1:t < (a.extract i (i+k)).size:=by rw[<-Array.length_toList];exact ht
 have h2:(a.extract i (i+k))[t]'h1=x:=(-e:)
 rw[Array.getElem_extract]at h2;refine{t,?_,?_}
 ·rw[Array.size_extract]at h1;lia
 ·rw[<-h2];exact Array.getElem?_eq_getElem _
def Srt.pw{a:Array Keyed}(h:Srt O kf a 0 a.size):a.toList.Pairwise (le O kf):=by
 rw[List.pairwise_iff_getElem];intro i j hi hj hij;have hj':j < a.size:=(-hj:)
 have hi':i < a.size:=(-hi:)
 exact h i j _ _ (1:) (1:) hj' (by simp[hi']) (by simp[hj'])
def Srt.of{a:Array Keyed}(h:a.toList.Pairwise (le O kf)):Srt O kf a 0 a.size:=by
 rw[List.pairwise_iff_getElem]at h;intro i j x y _ hij hj e1 e2;let(h1,rfl):=Array.getElem?_eq_some_iff.mp e1;let(h2,rfl):=Array.getElem?_eq_some_iff.mp e2
 by_cases e:i=j
 ·subst e;exact KeyOrd.kle_refl _
 ·exact h i j (-h1:) (-h2:) (1:)
structure MI(O:KeyOrd)(kf:Keyed->O.α)(a b o:Array Keyed)(i j:Nat):Prop where
 perm:(o.toList++(a.toList.drop i++b.toList.drop j)).Perm (a.toList++b.toList)
 srt:o.toList.Pairwise (le O kf)
 low:∀x∈o.toList,∀y∈a.toList.drop i++b.toList.drop j,le O kf x y
def Mrg(O:KeyOrd)(kf:Keyed->O.α)(a b r:Array Keyed):Prop:=r.toList.Perm (a.toList++b.toList)/\r.toList.Pairwise (le O kf)
variable{a b o:Array Keyed}{i j:Nat}
def QQ{o c ra rb all:List Keyed}(perm:(o++(c++(ra++rb))).Perm all)(srt:o.Pairwise (le O kf))(low:∀x∈o,∀y∈c++(ra++rb),le O kf x y)(sc:c.Pairwise (le O kf))(hc:∀x∈c,∀y∈ra++rb,le O kf x y) :
  ((o++c)++(ra++rb)).Perm all/\(o++c).Pairwise (le O kf)/\∀x∈o++c,∀y∈ra++rb,le O kf x y:=by
 refine{by rw[List.append_assoc];exact perm,List.pairwise_append.mpr {srt,sc,λx hx y hy=>low x hx y (List.mem_append_left _ hy)},λx hx y hy=>?_};rcases List.mem_append.mp hx with h|h
 ·exact low x h y (List.mem_append_right _ hy)
 ·exact hc x h y hy
def MI.blockA(h:MI O kf a b o i j)(sa:Srt O kf a 0 a.size){k:Nat}(hc:∀t x,t < k->a[i+t]?=some x->∀y∈b.toList.drop j,le O kf x y):MI O kf a b (o++a.extract i (i+k)) (i+k) j:=by
 have e:=YI a i k
 have:=QQ (all:=a.toList++b.toList) (o:=o.toList) (c:=(a.extract i (i+k)).toList) (ra:=a.toList.drop (i+k)) (rb:=b.toList.drop j) (by rw[<-List.append_assoc (a.extract i (i+k)).toList,e];exact h.perm) h.srt (by rw[<-List.append_assoc (a.extract i (i+k)).toList,e];exact h.low)
  ((sa.pw.sublist (List.drop_sublist i _)).sublist (by rw[<-e];exact List.sublist_append_left _ _)) (λx hx y hy=>by
   let(t,ht,ex):=ZU hx;rcases List.mem_append.mp hy with q|q
   ·let(u,hu,ey):=zS.mp q;have hlt:u < a.size:=(Array.getElem?_eq_some_iff.mp ey).1;exact sa _ _ _ _ (Nat.zero_le _) (1:) hlt ex ey
   ·exact hc t x ht ex y q)
 exact{by simpa using this.1,(-this.2.1:),(-this.2.2:)}
def MI.blockB(h:MI O kf a b o i j)(sb:Srt O kf b 0 b.size){k:Nat}(hc:∀t x,t < k->b[j+t]?=some x->∀y∈a.toList.drop i,le O kf x y):MI O kf a b (o++b.extract j (j+k)) i (j+k):=by
 have e:=YI b j k
 have p1:(o.toList++((b.extract j (j+k)).toList++(a.toList.drop i++b.toList.drop (j+k)))).Perm (a.toList++b.toList):=by refine List.Perm.trans (List.Perm.append_left _ ?_) h.perm;rw[<-e,<-List.append_assoc,<-List.append_assoc];exact List.Perm.append_right _ List.perm_append_comm
 have:=QQ (all:=a.toList++b.toList) (o:=o.toList) (c:=(b.extract j (j+k)).toList) (ra:=a.toList.drop i) (rb:=b.toList.drop (j+k)) p1 h.srt (λx hx y hy=>h.low x hx y (by
   rw[<-e];rcases List.mem_append.mp hy with q|q
   ·exact List.mem_append_right _ (List.mem_append_left _ q)
   ·rcases List.mem_append.mp q with q|q
    ·exact List.mem_append_left _ q
    ·exact List.mem_append_right _ (List.mem_append_right _ q)))
  ((sb.pw.sublist (List.drop_sublist j _)).sublist (by rw[<-e];exact List.sublist_append_left _ _)) (λx hx y hy=>by
   let(t,ht,ex):=ZU hx;rcases List.mem_append.mp hy with q|q
   ·exact hc t x ht ex y q
   ·let(u,hu,ey):=zS.mp q;have hlt:u < b.size:=(Array.getElem?_eq_some_iff.mp ey).1;exact sb _ _ _ _ (Nat.zero_le _) (1:) hlt ex ey)
 exact{by simpa using this.1,(-this.2.1:),(-this.2.2:)}
def ZV{a:Array Keyed}{i:Nat}{x:Keyed}(e:a[i]?=some x):a.extract i (i+1)=#[x]:=by
 let(h,rfl):=Array.getElem?_eq_some_iff.mp e;apply Array.ext
 ·simp;lia
 ·intro t h1 h2
  have:t=0:=by simp at h2;lia
  subst this;simp
def MI.pushA(h:MI O kf a b o i j)(sa:Srt O kf a 0 a.size){x:Keyed}(e:a[i]?=some x)(hc:∀y∈b.toList.drop j,le O kf x y):MI O kf a b (o.push x) (i+1) j:=by
 have:=h.blockA sa (k:=1) (λt y ht ey z hz=>by
  have:t=0:=by lia
  subst this;rw[Nat.add_zero,e]at ey;cases ey;exact hc z hz)
 rw[ZV e]at this;exact this
def MI.pushB(h:MI O kf a b o i j)(sb:Srt O kf b 0 b.size){x:Keyed}(e:b[j]?=some x)(hc:∀y∈a.toList.drop i,le O kf x y):MI O kf a b (o.push x) i (j+1):=by
 have:=h.blockB sb (k:=1) (λt y ht ey z hz=>by
  have:t=0:=by lia
  subst this;rw[Nat.add_zero,e]at ey;cases ey;exact hc z hz)
 rw[ZV e]at this;exact this
def MI.fin(h:MI O kf a b o i j)(sa:Srt O kf a 0 a.size)(sb:Srt O kf b 0 b.size)(z:a.size<=i\/b.size<=j):Mrg O kf a b (o++a.extract i a.size++b.extract j b.size):=by
 have e:(o++a.extract i a.size++b.extract j b.size).toList=o.toList++(a.toList.drop i++b.toList.drop j):=by rw[Array.toList_append,Array.toList_append,jE,jE,List.append_assoc]
 refine{by rw[e];exact h.perm,?_};rw[e];refine List.pairwise_append.mpr ⟨h.srt,?_,h.low⟩;rcases z with z|z
 ·rw[QP z];exact sb.pw.sublist (List.drop_sublist j _)
 ·rw[QP z,List.append_nil];exact sa.pw.sublist (List.drop_sublist i _)
def MI.lst(h:MI O kf a b o i j)(sa:Srt O kf a 0 a.size)(sb:Srt O kf b 0 b.size)(z:∀y∈b.toList.drop j,∀x∈a.toList.drop i,le O kf y x):Mrg O kf a b (o++b.extract j b.size++a.extract i a.size):=by
 have e:(o++b.extract j b.size++a.extract i a.size).toList=o.toList++(b.toList.drop j++a.toList.drop i):=by rw[Array.toList_append,Array.toList_append,jE,jE,List.append_assoc]
 refine{by rw[e];exact List.Perm.trans (List.Perm.append_left _ List.perm_append_comm) h.perm,?_};rw[e]
 refine List.pairwise_append.mpr ⟨h.srt,?_,λx hx y hy=>h.low x hx y (by
  rcases List.mem_append.mp hy with q|q
  ·exact List.mem_append_right _ q
  ·exact List.mem_append_left _ q)⟩
 exact List.pairwise_append.mpr ⟨sb.pw.sublist (List.drop_sublist j _),sa.pw.sublist (List.drop_sublist i _),z⟩
end
section
variable{M:Model}{A:Around}{E:PQ}{s:Shared}{O:KeyOrd}{kf:Keyed->O.α}{U:SortKind}{G:Keyed->Prop}
def yB(L:y4 M A E s O kf U G){left:Bool}{key:Keyed}{arr:Array Keyed}{base n hint:Nat}{st:SortSt}{Q:Option Nat->SortSt->Prop}(hk:kindOf st=U)(hG:G key)(hA:∀x∈arr.toList,G x)
  (hs:Srt O kf arr base (base+n)) (hn:base+n<=arr.size) (hh:hint < n)
  (h:∀k,k<=n->(∀t x,t < k->arr[base+t]?=some x->pby O kf left key x=true)->(∀t x,k<=t->t < n->arr[base+t]?=some x->pby O kf left key x=false)->Q (some k) st):wpS M A E s (gal left key arr base n hint) Q st:=by
 have at':∀i,i < n->arr[base+i]?=some (arr.getD (base+i) (Value.none,Value.none)):=λi hi=>by
  have:base+i < arr.size:=by lia
  rw[Array.getElem?_eq_getElem this];simp[this]
 refine qi1 L (P:=λi=>pby O kf left key (arr.getD (base+i) (Value.none,Value.none))) hk hG (λi hi=>{_,at' i hi,hA _ ?_,rfl}) (λi j hij hj hp=>?_) hh (λk hk1 h1 h2=>h k hk1 (λt x ht ex=>?_) (λt x ht htn ex=>?_))
 ·let(h1,h2):=Array.getElem?_eq_some_iff.mp (at' i hi);rw[<-h2];simp
 ·have hle:=hs (base+i) (base+j) _ _ (1:) (1:) (1:) (at' i (1:)) (at' j hj);unfold pby at hp ⊢
  cases left with
  |true=>simp![if_true]at hp ⊢;exact KeyOrd.klt_of_kle_of_klt hle hp
  |false=>simp![Bool.false_eq_true,if_false,Bool.not_eq_true']at hp ⊢;exact KeyOrd.kle_trans hle hp
 ·have:=h1 t ht
  rw[at' t (1:)]at ex;cases ex;exact this
 ·have:=h2 t ht htn
  rw[at' t (1:)]at ex;cases ex;exact this
end
abbrev C6:=Option (Array Keyed)×Array Keyed×Nat×Nat×Nat×Nat
abbrev C7:=Option (Array Keyed)×Array Keyed×Nat×Nat×Nat×Nat×Nat
def jm(st:SortSt)(g:Nat):SortSt:=SortSt.mk' (kindOf st) (arrOf st) (pendingOf st) g (failedOf st)
def lo1(a b:Array Keyed)(mg:Nat)(o:Array Keyed)(i j:Nat):StateT SortSt Sem C6:=
 forIn [0:a.size+b.size] ((none,o,i,j,0,0):C6) λ_ c=>do
  let x<-elem' b c.2.2.2.1
  let y<-elem' a c.2.2.1
  let r<-lt' x y
  match r with
  |some bw=>
   if bw=true then do
    let z<-elem' b c.2.2.2.1
    if (c.2.2.2.1+1 == b.size)=true then pure (.done (some (c.2.1.push z++a.extract c.2.2.1 a.size++b.extract (c.2.2.2.1+1) b.size),c.2.1.push z,c.2.2.1,c.2.2.2.1+1,0,c.2.2.2.2.2+1))
    else if c.2.2.2.2.2+1≥mg then pure (.done (none,c.2.1.push z,c.2.2.1,c.2.2.2.1+1,0,c.2.2.2.2.2+1))
    else pure (.yield (none,c.2.1.push z,c.2.2.1,c.2.2.2.1+1,0,c.2.2.2.2.2+1))
   else do
    let z<-elem' a c.2.2.1
    if (c.2.2.1+1+1 == a.size)=true then pure (.done (some (c.2.1.push z++b.extract c.2.2.2.1 b.size++a.extract (c.2.2.1+1) a.size),c.2.1.push z,c.2.2.1+1,c.2.2.2.1,c.2.2.2.2.1+1,0))
    else if c.2.2.2.2.1+1≥mg then pure (.done (none,c.2.1.push z,c.2.2.1+1,c.2.2.2.1,c.2.2.2.2.1+1,0))
    else pure (.yield (none,c.2.1.push z,c.2.2.1+1,c.2.2.2.1,c.2.2.2.2.1+1,0))
  |_=>pure (.done (some (c.2.1++a.extract c.2.2.1 a.size++b.extract c.2.2.2.1 b.size),c.2))
def qlv(a b o:Array Keyed)(i j mg ac bc:Nat):StateT SortSt Sem (ForInStep C7):=do
 let z<-elem' a i
 if (i+1+1 == a.size)=true then pure (.done (some (o.push z++b.extract j b.size++a.extract (i+1) a.size),o.push z,i+1,j,mg,ac,bc))
 else if (decide (ac < 7)&&decide (bc < 7))=true then pure (.done (none,o.push z,i+1,j,mg,ac,bc))
 else pure (.yield (none,o.push z,i+1,j,mg,ac,bc))
def qii(a b o:Array Keyed)(i j mg ac bc:Nat):StateT SortSt Sem (ForInStep C7):=do
 let z<-elem' b j
 if (j+1 == b.size)=true then pure (.done (some (o.push z++a.extract i a.size++b.extract (j+1) b.size),o.push z,i,j+1,mg,ac,bc))
 else do
  let y<-elem' a i
  let r<-gal true y b (j+1) (b.size - (j+1)) 0
  match r with
  |some k=>
   if k > 0 then
    if (j+1+k == b.size)=true then pure (.done (some (o.push z++b.extract (j+1) (j+1+k)++a.extract i a.size++b.extract (j+1+k) b.size),o.push z++b.extract (j+1) (j+1+k),i,j+1+k,mg,ac,k))
    else qlv a b (o.push z++b.extract (j+1) (j+1+k)) i (j+1+k) mg ac k
   else qlv a b (o.push z) i (j+1) mg ac k
  |_=>pure (.done (some (o.push z++a.extract i a.size++b.extract (j+1) b.size),o.push z,i,j+1,mg,ac,bc))
def qij(a b o:Array Keyed)(i j mg ac bc:Nat):StateT SortSt Sem (ForInStep C7):=do
 modify λst=>jm st mg
 let y<-elem' b j
 let r<-gal false y a i (a.size - i) 0
 match r with
 |some k=>
  if k > 0 then
   if (i+k+1 == a.size)=true then pure (.done (some (o++a.extract i (i+k)++b.extract j b.size++a.extract (i+k) a.size),o++a.extract i (i+k),i+k,j,mg,k,bc))
   else if (i+k == a.size)=true then pure (.done (some (o++a.extract i (i+k)++a.extract (i+k) a.size++b.extract j b.size),o++a.extract i (i+k),i+k,j,mg,k,bc))
   else qii a b (o++a.extract i (i+k)) (i+k) j mg k bc
  else qii a b o i j mg k bc
 |_=>pure (.done (some (o++a.extract i a.size++b.extract j b.size),o,i,j,mg,ac,bc))
def lo2(a b:Array Keyed)(mg:Nat)(o:Array Keyed)(i j ac bc:Nat):StateT SortSt Sem C7:=
 forIn [0:a.size+b.size] ((none,o,i,j,mg,ac,bc):C7) λ_ c=>
  if c.2.2.2.2.1 > 1 then qij a b c.2.1 c.2.2.1 c.2.2.2.1 (c.2.2.2.2.1 - 1) c.2.2.2.2.2.1 c.2.2.2.2.2.2
  else qij a b c.2.1 c.2.2.1 c.2.2.2.1 c.2.2.2.2.1 c.2.2.2.2.2.1 c.2.2.2.2.2.2
abbrev C5:=Option (Array Keyed)×Array Keyed×Nat×Nat×Nat
def qgN(a b:Array Keyed):mlo a b=(do
 rule "list.sort.merge-lo"
 let tot:=a.size+b.size
 let fin (o:Array Keyed) (i j:Nat):=o++a.extract i a.size++b.extract j b.size
 let lst (o:Array Keyed) (i j:Nat):=o++b.extract j b.size++a.extract i a.size
 let mut o:Array Keyed:=#[<-elem' b 0]
 let mut i:=0
 let mut j:=1
 if j == b.size then return fin o i j
 if i+1 == a.size then return lst o i j
 let mut mg:=gallopOf (<-get)
 for _ in [0:tot] do
  let mut ac:=0
  let mut bc:=0
  for _ in [0:tot] do
   let some bw<-lt' (<-elem' b j) (<-elem' a i)|return fin o i j
   if bw then
    o:=o.push (<-elem' b j)
    j:=j+1
    bc:=bc+1
    ac:=0
    if j == b.size then return fin o i j
    if bc≥mg then break
   else
    o:=o.push (<-elem' a i)
    i:=i+1
    ac:=ac+1
    bc:=0
    if i+1 == a.size then return lst o i j
    if ac≥mg then break
  rule "list.sort.gallop"
  mg:=mg+1
  for _ in [0:tot] do
   if mg > 1 then mg:=mg - 1
   modify λst=>SortSt.mk' (kindOf st) (arrOf st) (pendingOf st) mg (failedOf st)
   let some k<-gal false (<-elem' b j) a i (a.size - i) 0|return fin o i j
   ac:=k
   if k > 0 then
    o:=o++a.extract i (i+k)
    i:=i+k
    if i+1 == a.size then return lst o i j
    if i == a.size then return fin o i j
   o:=o.push (<-elem' b j)
   j:=j+1
   if j == b.size then return fin o i j
   let some k<-gal true (<-elem' a i) b j (b.size - j) 0|return fin o i j
   bc:=k
   if k > 0 then
    o:=o++b.extract j (j+k)
    j:=j+k
    if j == b.size then return fin o i j
   o:=o.push (<-elem' a i)
   i:=i+1
   if i+1 == a.size then return lst o i j
   if ac < 7&&bc < 7 then break
  mg:=mg+1
  modify λst=>SortSt.mk' (kindOf st) (arrOf st) (pendingOf st) mg (failedOf st)
 unsupported "internal:list.sort.merge-bound"):=rfl
def qi2(a b:Array Keyed):mlo a b=(do
 rule "list.sort.merge-lo"
 let x<-elem' b 0
 if (1 == b.size)=true then pure (#[x]++a.extract 0 a.size++b.extract 1 b.size)
 else if (0+1 == a.size)=true then pure (#[x]++b.extract 1 b.size++a.extract 0 a.size)
 else do
  let st<-get
  let c<-forIn [0:a.size+b.size] ((none,#[x],0,1,gallopOf st):C5) λ_ c=>do
   let d<-lo1 a b c.2.2.2.2 c.2.1 c.2.2.1 c.2.2.2.1
   match d.1 with
   |some r=>pure (.done (some r,d.2.1,d.2.2.1,d.2.2.2.1,c.2.2.2.2))
   |none=>do
    rule "list.sort.gallop"
    let f<-lo2 a b (c.2.2.2.2+1) d.2.1 d.2.2.1 d.2.2.2.1 d.2.2.2.2.1 d.2.2.2.2.2
    match f.1 with
    |some r=>pure (.done (some r,f.2.1,f.2.2.1,f.2.2.2.1,f.2.2.2.2.1))
    |none=>do
     modify λst=>jm st (f.2.2.2.2.1+1)
     pure (.yield (none,f.2.1,f.2.2.1,f.2.2.2.1,f.2.2.2.2.1+1))
  match c.1 with
  |some r=>pure r
  |none=>unsupported "internal:list.sort.merge-bound"):=by
 rw[qgN];refine congrArg (λz=>_ >>= z) (funext λ_=>?_);show(elem' b 0 >>= _:StateT SortSt Sem (Array Keyed))=_;refine congrArg (λz=>_ >>= z) (funext λx=>?_);show(ite _ _ (ite _ _ (get >>= _)):StateT SortSt Sem (Array Keyed))=ite _ _ (ite _ _ (get >>= _));refine congrArg (ite _ _) (congrArg (ite _ _) (congrArg (λz=>get >>= z) (funext λst=>?_)));show(forIn _ _ _ >>= _:StateT SortSt Sem (Array Keyed))=forIn _ _ _ >>= _
 refine congr (congrArg Bind.bind ?_) (funext λc=>by
  let(c1,c2):=c
  cases c1 with
  |some r=>rfl
  |none=>rfl)
 refine congrArg (forIn _ _) (funext λ_=>funext λc=>?_);show(forIn _ _ _ >>= _:StateT SortSt Sem (ForInStep C5))=lo1 _ _ _ _ _ _ >>= _;refine congr (congrArg Bind.bind ?_) (funext λd=>?_)
 ·delta lo1
  refine congrArg (forIn _ _) (funext λ_=>funext λc=>?_);rfl
 ·let(d1,d2,d3,d4,d5,d6):=d
  cases d1 with
  |some r=>rfl
  |none=>
   refine congrArg (λz=>_ >>= z) (funext λ_=>?_);show(forIn _ _ _ >>= _:StateT SortSt Sem (ForInStep C5))=lo2 _ _ _ _ _ _ _ _ >>= _;refine congr (congrArg Bind.bind ?_) (funext λf=>?_)
   ·delta lo2
    refine congrArg (forIn _ _) (funext λ_=>funext λc=>?_);show(ite _ _ _:StateT SortSt Sem (ForInStep C7))=ite _ _ _;refine congr (congrArg (ite _) ?_) ?_
    all_goals
     delta qij
     refine congrArg (λz=>_ >>= z) (funext λ_=>?_);refine congrArg (λz=>_ >>= z) (funext λy=>?_);refine congrArg (λz=>_ >>= z) (funext λr=>?_)
     cases r with
     |none=>exact rfl
     |some k=>
      show(ite _ _ _:StateT SortSt Sem (ForInStep C7))=ite _ _ _;refine congr (congrArg (ite _) ?_) ?_
      ·show(ite _ _ (ite _ _ _):StateT SortSt Sem (ForInStep C7))=ite _ _ (ite _ _ _);refine congrArg (ite _ _) (congrArg (ite _ _) ?_)
       delta qii
       refine congrArg (λz=>_ >>= z) (funext λz=>?_);show(ite _ _ _:StateT SortSt Sem (ForInStep C7))=ite _ _ _;refine congrArg (ite _ _) ?_;refine congrArg (λz=>_ >>= z) (funext λy=>?_);refine congrArg (λz=>_ >>= z) (funext λr=>?_)
       cases r with
       |none=>exact rfl
       |some k=>exact rfl
      ·delta qii
       refine congrArg (λz=>_ >>= z) (funext λz=>?_);show(ite _ _ _:StateT SortSt Sem (ForInStep C7))=ite _ _ _;refine congrArg (ite _ _) ?_;refine congrArg (λz=>_ >>= z) (funext λy=>?_);refine congrArg (λz=>_ >>= z) (funext λr=>?_)
       cases r with
       |none=>exact rfl
       |some k=>exact rfl
   ·let(f1,f2):=f
    cases f1 with
    |some r=>rfl
    |none=>rfl
section
variable{M:Model}{A:Around}{E:PQ}{s:Shared}{O:KeyOrd}{kf:Keyed->O.α}{U:SortKind}{G:Keyed->Prop}{a b:Array Keyed}
structure Two(O:KeyOrd)(kf:Keyed->O.α)(G:Keyed->Prop)(a b:Array Keyed):Prop where
 ga:∀x∈a.toList,G x
 gb:∀x∈b.toList,G x
 sa:Srt O kf a 0 a.size
 sb:Srt O kf b 0 b.size
 pa:0 < a.size
 pb:0 < b.size
 first:∀x y,b[0]?=some y->x∈a.toList->le O kf y x
 last:∀x y,a[a.size - 1]?=some x->y∈b.toList->le O kf y x
def qK{a:Array Keyed}{i:Nat}(h:i < a.size):∃x,a[i]?=some x/\x∈a.toList:={a[i],Array.getElem?_eq_getElem h,by simp}
def JB{a:Array Keyed}{i:Nat}{x:Keyed}(h:x∈a.toList.drop i):x∈a.toList:=List.mem_of_mem_drop h
def Two.lastOne(T:Two O kf G a b){i j:Nat}(h:i+1=a.size):∀y∈b.toList.drop j,∀x∈a.toList.drop i,le O kf y x:=λy hy x hx=>by
 let(t,ht,e):=zS.mp hx
 have:t < a.size:=(Array.getElem?_eq_some_iff.mp e).1
 have e2:t=a.size - 1:=by lia
 subst e2;exact T.last x y e (JB hy)
def Two.leA(T:Two O kf G a b){i:Nat}{x:Keyed}(e:a[i]?=some x):∀y∈a.toList.drop i,le O kf x y:=λy hy=>by let(t,ht,e'):=zS.mp hy;exact T.sa i t x y (Nat.zero_le _) ht (Array.getElem?_eq_some_iff.mp e').1 e e'
def Two.leB(T:Two O kf G a b){j:Nat}{x:Keyed}(e:b[j]?=some x):∀y∈b.toList.drop j,le O kf x y:=λy hy=>by let(t,ht,e'):=zS.mp hy;exact T.sb j t x y (Nat.zero_le _) ht (Array.getElem?_eq_some_iff.mp e').1 e e'
def ql2(O:KeyOrd)(kf:Keyed->O.α)(a b:Array Keyed)(n:Nat)(c:Option (Array Keyed))(o:Array Keyed)(i j:Nat):Prop:=
 (∃r,c=some r/\Mrg O kf a b r)\/(c=none/\MI O kf a b o i j/\i+1 < a.size/\j < b.size/\n<=i+j)
def qi3(L:y4 M A E s O kf U G)(T:Two O kf G a b){mg i j:Nat}{o:Array Keyed}{st:SortSt}{Q:C6->SortSt->Prop}(hk:kindOf st=U)(hI:MI O kf a b o i j)(hi:i+1 < a.size)(hj:j < b.size)
  (h:∀c:C6,ql2 O kf a b (i+j+1) c.1 c.2.1 c.2.2.1 c.2.2.2.1->Q c st):wpS M A E s (lo1 a b mg o i j) Q st:=by
 unfold lo1;refine wpS_forRange (I:=λx c st'=>st'=st/\∃o' i' j' ac bc,c=(none,o',i',j',ac,bc)/\MI O kf a b o' i' j'/\i'+1 < a.size/\j' < b.size/\i+j+x<=i'+j') ?step ?fin ⟨rfl,o,i,j,0,0,rfl,hI,hi,hj,by lia⟩
 case fin=>rintro c st' ⟨rfl,o',i',j',ac,bc,rfl,h1,h2,h3,h4⟩;exact h _ (.inr ⟨rfl,h1,h2,h3,by dsimp only;lia⟩)
 case step=>
  rintro x c st' _ hx ⟨rfl,o',i',j',ac,bc,rfl,h1,h2,h3,h4⟩;dsimp only;let(y,ey,my):=qK h3;let(z,ez,mz):=qK (show i' < a.size by lia);refine wpS_bind (qq ey (wpS_bind (qq ez (wpS_bind (L y z (T.gb y my) (T.ga z mz) _ _ hk ?_)))))
  cases hb:O.blt (kf y) (kf z) with
  |true=>
   simp![if_true];refine wpS_bind (qq ey ?_);have h5:=h1.pushB T.sb ey (λw hw=>qx (le_of_lt hb) (T.leA ez w hw))
   by_cases hfin:j'+1=b.size
   ·rw[if_pos (-hfin:)];exact wpS_pure (h _ (.inl ⟨_,rfl,h5.fin T.sa T.sb (.inr (1:))⟩))
   ·rw[if_neg (-hfin:)]
    by_cases hg:bc+1≥mg
    ·rw[if_pos hg];exact wpS_pure (h _ (.inr ⟨rfl,h5,h2,by dsimp only;lia,by dsimp only;lia⟩))
    ·rw[if_neg hg];exact wpS_pure ⟨rfl,_,_,_,_,_,rfl,h5,h2,by lia,by lia⟩
  |false=>
   simp![Bool.false_eq_true,if_false];refine wpS_bind (qq ez ?_);have h5:=h1.pushA T.sa ez (λw hw=>qx (qW hb) (T.leB ey w hw))
   by_cases hfin:i'+1+1=a.size
   ·rw[if_pos (-hfin:)];exact wpS_pure (h _ (.inl ⟨_,rfl,h5.lst T.sa T.sb (T.lastOne hfin)⟩))
   ·rw[if_neg (-hfin:)]
    by_cases hg:ac+1≥mg
    ·rw[if_pos hg];exact wpS_pure (h _ (.inr ⟨rfl,h5,by dsimp only;lia,h3,by dsimp only;lia⟩))
    ·rw[if_neg hg];exact wpS_pure ⟨rfl,_,_,_,_,_,rfl,h5,by lia,h3,by lia⟩
def qgO(O:KeyOrd)(kf:Keyed->O.α)(a b:Array Keyed)(n:Nat)(r:ForInStep C7):Prop:=match r with
 |.done c=>ql2 O kf a b n c.1 c.2.1 c.2.2.1 c.2.2.2.1
 |.yield c=>c.1=none/\MI O kf a b c.2.1 c.2.2.1 c.2.2.2.1/\c.2.2.1+1 < a.size/\c.2.2.2.1 < b.size/\n<=c.2.2.1+c.2.2.2.1
def qcs(T:Two O kf G a b){mg i j ac bc n:Nat}{o:Array Keyed}{z:Keyed}{st:SortSt}{Q:ForInStep C7->SortSt->Prop}(hI:MI O kf a b o i j)(hi:i+1 < a.size)(hj:j < b.size)(ez:a[i]?=some z)
  (hz:∀y∈b.toList.drop j,le O kf z y) (hn:n<=i+j) (h:∀r,qgO O kf a b n r->Q r st):wpS M A E s (qlv a b o i j mg ac bc) Q st:=by
 unfold qlv;refine wpS_bind (qq ez ?_);have h5:=hI.pushA T.sa ez hz
 by_cases hfin:i+1+1=a.size
 ·rw[if_pos (-hfin:)];exact wpS_pure (h _ (.inl ⟨_,rfl,h5.lst T.sa T.sb (T.lastOne hfin)⟩))
 ·rw[if_neg (-hfin:)]
  by_cases hg:(decide (ac < 7)&&decide (bc < 7))=true
  ·rw[if_pos hg];exact wpS_pure (h _ (.inr ⟨rfl,h5,by dsimp only;lia,hj,by dsimp only;lia⟩))
  ·rw[if_neg hg];exact wpS_pure (h _ ⟨rfl,h5,by dsimp only;lia,hj,by dsimp only;lia⟩)
def qct(L:y4 M A E s O kf U G)(T:Two O kf G a b){mg i j ac bc n:Nat}{o:Array Keyed}{y:Keyed}{st:SortSt}{Q:ForInStep C7->SortSt->Prop}(hk:kindOf st=U)(hI:MI O kf a b o i j)(hi:i+1 < a.size)(hj:j < b.size)(ey:b[j]?=some y)
  (hy:∀x∈a.toList.drop i,le O kf y x) (hn:n<=i+j) (h:∀r,qgO O kf a b n r->Q r st):wpS M A E s (qii a b o i j mg ac bc) Q st:=by
 unfold qii;refine wpS_bind (qq ey ?_);have h5:=hI.pushB T.sb ey hy
 by_cases hfin:j+1=b.size
 ·rw[if_pos (-hfin:)];exact wpS_pure (h _ (.inl ⟨_,rfl,h5.fin T.sa T.sb (.inr (1:))⟩))
 ·rw[if_neg (-hfin:)];let(z,ez,mz):=qK (show i < a.size by lia);refine wpS_bind (qq ez (wpS_bind (yB L hk (T.ga z mz) T.gb (λi' j' x y h1 h2 h3=>T.sb i' j' x y (Nat.zero_le _) h2 (1:)) (1:) (1:) λk hk1 hb1 hb2=>?_)));dsimp only
  have rest:∀w∈b.toList.drop (j+1+k),le O kf z w:=λw hw=>by
   let(t,ht,e):=zS.mp hw;have hlt:t < b.size:=(Array.getElem?_eq_some_iff.mp e).1
   have:=hb2 (t - (j+1)) w (1:) (1:) (by rw[show j+1+(t - (j+1))=t by lia];exact e)
   unfold pby at this;simp![if_true]at this;exact qW this
  by_cases hk0:k > 0
  ·rw[if_pos hk0]
   have h6:=h5.blockB T.sb (k:=k) (λt x ht ex w hw=>by
    have:=hb1 t x ht ex
    unfold pby at this;simp![if_true]at this;exact qx (le_of_lt this) (T.leA ez w hw))
   by_cases hf2:j+1+k=b.size
   ·rw[if_pos (-hf2:)];exact wpS_pure (h _ (.inl ⟨_,rfl,h6.fin T.sa T.sb (.inr (1:))⟩))
   ·rw[if_neg (-hf2:)];exact qcs T h6 hi (1:) ez rest (1:) h
  ·rw[if_neg hk0]
   have:k=0:=by lia
   subst this;exact qcs T h5 hi (1:) ez rest (1:) h
def qgP(L:y4 M A E s O kf U G)(T:Two O kf G a b){mg i j ac bc n:Nat}{o:Array Keyed}{st:SortSt}{Q:ForInStep C7->SortSt->Prop}(hk:kindOf st=U)(hI:MI O kf a b o i j)(hi:i+1 < a.size)(hj:j < b.size)
  (hn:n<=i+j) (h:∀r,qgO O kf a b n r->Q r (jm st mg)):wpS M A E s (qij a b o i j mg ac bc) Q st:=by
 unfold qij;refine wpS_bind (wpS_modify ?_);let(y,ey,my):=qK hj;have hk':kindOf (jm st mg)=U:=hk;refine wpS_bind (qq ey (wpS_bind (yB L hk' (T.gb y my) T.ga (λi' j' x y h1 h2 h3=>T.sa i' j' x y (Nat.zero_le _) h2 (1:)) (1:) (1:) λk hk1 ha1 ha2=>?_)));dsimp only
 have rest:∀w∈a.toList.drop (i+k),le O kf y w:=λw hw=>by
  let(t,ht,e):=zS.mp hw;have hlt:t < a.size:=(Array.getElem?_eq_some_iff.mp e).1
  have:=ha2 (t - i) w (1:) (1:) (by rw[show i+(t - i)=t by lia];exact e)
  unfold pby at this;simp![Bool.false_eq_true,if_false,Bool.not_eq_false']at this;exact le_of_lt this
 by_cases hk0:k > 0
 ·rw[if_pos hk0]
  have h6:=hI.blockA T.sa (k:=k) (λt x ht ex w hw=>by
   have:=ha1 t x ht ex
   unfold pby at this;simp![Bool.false_eq_true,if_false,Bool.not_eq_true']at this;exact qx (qW this) (T.leB ey w hw))
  by_cases hf1:i+k+1=a.size
  ·rw[if_pos (-hf1:)];exact wpS_pure (h _ (.inl ⟨_,rfl,h6.lst T.sa T.sb (T.lastOne hf1)⟩))
  ·rw[if_neg (-hf1:)]
   by_cases hf2:i+k=a.size
   ·rw[if_pos (-hf2:)];exact wpS_pure (h _ (.inl ⟨_,rfl,h6.fin T.sa T.sb (.inl (1:))⟩))
   ·rw[if_neg (-hf2:)];exact qct L T hk' h6 (1:) hj ey rest (1:) h
 ·rw[if_neg hk0]
  have:k=0:=by lia
  subst this;exact qct L T hk' hI hi hj ey rest hn h
def qi4(L:y4 M A E s O kf U G)(T:Two O kf G a b){mg i j ac bc:Nat}{o:Array Keyed}{st:SortSt}{Q:C7->SortSt->Prop}(hk:kindOf st=U)(hI:MI O kf a b o i j)(hi:i+1 < a.size)(hj:j < b.size)
  (h:∀(c:C7) g,ql2 O kf a b (i+j) c.1 c.2.1 c.2.2.1 c.2.2.2.1->Q c (jm st g)):wpS M A E s (lo2 a b mg o i j ac bc) Q st:=by
 unfold lo2;refine wpS_forRange (I:=λx c st'=>(∃g,st'=jm st g)/\∃o' i' j' mg ac bc,c=(none,o',i',j',mg,ac,bc)/\MI O kf a b o' i' j'/\i'+1 < a.size/\j' < b.size/\i+j<=i'+j') ?step ?fin ⟨⟨gallopOf st,rfl⟩,o,i,j,mg,ac,bc,rfl,hI,hi,hj,by lia⟩
 case fin=>rintro c st' ⟨⟨g,rfl⟩,o',i',j',mg,ac,bc,rfl,h1,h2,h3,h4⟩;exact h _ g (.inr ⟨rfl,h1,h2,h3,h4⟩)
 case step=>
  rintro x c st' _ hx ⟨⟨g,rfl⟩,o',i',j',mg',ac,bc,rfl,h1,h2,h3,h4⟩
  have go:∀m,wpS M A E s (qij a b o' i' j' m ac bc) (λr st'=>match r with
    | .done c'=>Q c' st'
    | .yield c'=>(∃g,st'=jm st g)/\∃o' i' j' mg ac bc,c'=(none,o',i',j',mg,ac,bc)/\MI O kf a b o' i' j'/\i'+1 < a.size/\j' < b.size/\i+j<=i'+j') (jm st g):=λm=>by
   refine qgP L T (n:=i+j) hk h1 h2 h3 h4 λr hr=>?_
   cases r with
   | done c'=>exact h _ m hr
   | yield c'=>let(c1,c2,c3,c4,c5,c6,c7):=c';let(e,r1,r2,r3,r4):=hr;have e:c1=none:=e;subst e;exact{⟨m,rfl⟩,_,_,_,_,_,_,rfl,r1,r2,r3,r4}
  dsimp only
  by_cases hg:mg' > 1
  ·rw[if_pos hg];exact wpS_mono (go _) (λr st' hh=>by cases r<;>exact hh)
  ·rw[if_neg hg];exact wpS_mono (go _) (λr st' hh=>by cases r<;>exact hh)
def qi5(L:y4 M A E s O kf U G)(T:Two O kf G a b){st:SortSt}{Q:Array Keyed->SortSt->Prop}(hk:kindOf st=U)(h:∀r g,Mrg O kf a b r->Q r (jm st g)):wpS M A E s (mlo a b) Q st:=by
 rw[qi2];refine wpS_bind (wpS_lift (wpAny_rule ⟨rfl,?_⟩));let(y,ey,my):=qK T.pb;refine wpS_bind (qq ey ?_);have h0:MI O kf a b #[] 0 0:={by simp,by simp,by simp};have h1:MI O kf a b #[y] 0 1:=h0.pushB T.sb ey (λx hx=>T.first x y ey (JB hx));have hst:st=jm st (gallopOf st):=rfl
 by_cases hf1:1=b.size
 ·rw[if_pos (-hf1:)];exact wpS_pure (by rw[hst];exact h _ _ (h1.fin T.sa T.sb (.inr (1:))))
 ·rw[if_neg (-hf1:)]
  by_cases hf2:0+1=a.size
  ·rw[if_pos (-hf2:)];exact wpS_pure (by rw[hst];exact h _ _ (h1.lst T.sa T.sb (T.lastOne hf2)))
  ·rw[if_neg (-hf2:)];have hpa:=T.pa;have hpb:=T.pb;refine wpS_bind (wpS_get ?_)
   refine wpS_bind (wpS_mono (wpS_forRange (I:=λx c st'=>(∃g,st'=jm st g)/\∃o' i' j' mg,c=(none,o',i',j',mg)/\MI O kf a b o' i' j'/\i'+1 < a.size/\j' < b.size/\x+1<=i'+j')
    (Q:=λc st'=>(∃g,st'=jm st g)/\∃r,c.1=some r/\Mrg O kf a b r) ?step ?fin ⟨⟨_,hst⟩,_,0,1,_,rfl,h1,by lia,by lia,by lia⟩) ?post)
   case fin=>
    rintro c st' ⟨_,o',i',j',mg,rfl,r1,r2,r3,r4⟩;exfalso
    lia
   case post=>rintro c st' ⟨⟨g,rfl⟩,r,e,hr⟩;let(c1,c2):=c;have e:c1=some r:=e;subst e;exact wpS_pure (h _ _ hr)
   case step=>
    rintro x c st' _ hx ⟨⟨g,rfl⟩,o',i',j',mg,rfl,r1,r2,r3,r4⟩;dsimp only;refine wpS_bind (qi3 L T (st:=jm st g) hk r1 r2 r3 λc hc=>?_);let(c1,c2,c3,c4,c5,c6):=c;rcases hc with ⟨r,e,hr⟩|⟨e,q1,q2,q3,q4⟩
    ·have e:c1=some r:=e;subst e;exact wpS_pure ⟨⟨g,rfl⟩,r,rfl,hr⟩
    ·have e:c1=none:=e;subst e;dsimp only at q1 q2 q3 q4 ⊢;refine wpS_bind (wpS_lift (wpAny_rule ⟨rfl,?_⟩));refine wpS_bind (qi4 L T (st:=jm st g) hk q1 q2 q3 λd g' hd=>?_);let(d1,d2,d3,d4,d5,d6,d7):=d;rcases hd with ⟨r,e,hr⟩|⟨e,p1,p2,p3,p4⟩
     ·have e:d1=some r:=e;subst e;exact wpS_pure ⟨⟨g',rfl⟩,r,rfl,hr⟩
     ·have e:d1=none:=e;subst e;dsimp only at p1 p2 p3 p4 ⊢;exact wpS_bind (wpS_modify (wpS_pure ⟨⟨_,rfl⟩,_,_,_,_,rfl,p1,p2,p3,by lia⟩))
end
abbrev D6:=Option (Array Keyed)×Nat×Nat×Array Keyed×Nat×Nat
abbrev D7:=Option (Array Keyed)×Nat×Nat×Array Keyed×Nat×Nat×Nat
abbrev D5:=Option (Array Keyed)×Nat×Nat×Array Keyed×Nat
def hi1(a b:Array Keyed)(mg:Nat)(p q:Nat)(o:Array Keyed):StateT SortSt Sem D6:=
 forIn [0:a.size+b.size] ((none,p,q,o,0,0):D6) λ_ c=>do
  let x<-elem' b (c.2.2.1 - 1)
  let y<-elem' a (c.2.1 - 1)
  let r<-lt' x y
  match r with
  |some aw=>
   if aw=true then do
    let z<-elem' a (c.2.1 - 1)
    if (c.2.1 - 1 == 0)=true then pure (.done (some (a.extract 0 (c.2.1 - 1)++b.extract 0 c.2.2.1++(c.2.2.2.1.push z).reverse),c.2.1 - 1,c.2.2.1,c.2.2.2.1.push z,c.2.2.2.2.1+1,0))
    else if c.2.2.2.2.1+1≥mg then pure (.done (none,c.2.1 - 1,c.2.2.1,c.2.2.2.1.push z,c.2.2.2.2.1+1,0))
    else pure (.yield (none,c.2.1 - 1,c.2.2.1,c.2.2.2.1.push z,c.2.2.2.2.1+1,0))
   else do
    let z<-elem' b (c.2.2.1 - 1)
    if (c.2.2.1 - 1 == 1)=true then pure (.done (some (b.extract 0 (c.2.2.1 - 1)++a.extract 0 c.2.1++(c.2.2.2.1.push z).reverse),c.2.1,c.2.2.1 - 1,c.2.2.2.1.push z,0,c.2.2.2.2.2+1))
    else if c.2.2.2.2.2+1≥mg then pure (.done (none,c.2.1,c.2.2.1 - 1,c.2.2.2.1.push z,0,c.2.2.2.2.2+1))
    else pure (.yield (none,c.2.1,c.2.2.1 - 1,c.2.2.2.1.push z,0,c.2.2.2.2.2+1))
  |_=>pure (.done (some (a.extract 0 c.2.1++b.extract 0 c.2.2.1++c.2.2.2.1.reverse),c.2))
def qlw(a b:Array Keyed)(p q:Nat)(o:Array Keyed)(mg ac bc:Nat):StateT SortSt Sem (ForInStep D7):=do
 let z<-elem' a (p - 1)
 if (p - 1 == 0)=true then pure (.done (some (a.extract 0 (p - 1)++b.extract 0 q++(o.push z).reverse),p - 1,q,o.push z,mg,ac,bc))
 else if (decide (ac < 7)&&decide (bc < 7))=true then pure (.done (none,p - 1,q,o.push z,mg,ac,bc))
 else pure (.yield (none,p - 1,q,o.push z,mg,ac,bc))
def qik(a b:Array Keyed)(p q:Nat)(o:Array Keyed)(mg ac bc:Nat):StateT SortSt Sem (ForInStep D7):=do
 let z<-elem' b (q - 1)
 if (q - 1 == 1)=true then pure (.done (some (b.extract 0 (q - 1)++a.extract 0 p++(o.push z).reverse),p,q - 1,o.push z,mg,ac,bc))
 else do
  let y<-elem' a (p - 1)
  let r<-gal true y b 0 (q - 1) (q - 1 - 1)
  match r with
  |some u=>
   if q - 1 - u > 0 then
    if (u == 1)=true then pure (.done (some (b.extract 0 u++a.extract 0 p++(o.push z++(b.extract u (q - 1)).reverse).reverse),p,u,o.push z++(b.extract u (q - 1)).reverse,mg,ac,q - 1 - u))
    else if (u == 0)=true then pure (.done (some (a.extract 0 p++b.extract 0 u++(o.push z++(b.extract u (q - 1)).reverse).reverse),p,u,o.push z++(b.extract u (q - 1)).reverse,mg,ac,q - 1 - u))
    else qlw a b p u (o.push z++(b.extract u (q - 1)).reverse) mg ac (q - 1 - u)
   else qlw a b p (q - 1) (o.push z) mg ac (q - 1 - u)
  |_=>pure (.done (some (a.extract 0 p++b.extract 0 (q - 1)++(o.push z).reverse),p,q - 1,o.push z,mg,ac,bc))
def qil(a b:Array Keyed)(p q:Nat)(o:Array Keyed)(mg ac bc:Nat):StateT SortSt Sem (ForInStep D7):=do
 modify λst=>jm st mg
 let y<-elem' b (q - 1)
 let r<-gal false y a 0 p (p - 1)
 match r with
 |some u=>
  if p - u > 0 then
   if (u == 0)=true then pure (.done (some (a.extract 0 u++b.extract 0 q++(o++(a.extract u p).reverse).reverse),u,q,o++(a.extract u p).reverse,mg,p - u,bc))
   else qik a b u q (o++(a.extract u p).reverse) mg (p - u) bc
  else qik a b p q o mg (p - u) bc
 |_=>pure (.done (some (a.extract 0 p++b.extract 0 q++o.reverse),p,q,o,mg,ac,bc))
def hi2(a b:Array Keyed)(mg p q:Nat)(o:Array Keyed)(ac bc:Nat):StateT SortSt Sem D7:=
 forIn [0:a.size+b.size] ((none,p,q,o,mg,ac,bc):D7) λ_ c=>
  if c.2.2.2.2.1 > 1 then qil a b c.2.1 c.2.2.1 c.2.2.2.1 (c.2.2.2.2.1 - 1) c.2.2.2.2.2.1 c.2.2.2.2.2.2
  else qil a b c.2.1 c.2.2.1 c.2.2.2.1 c.2.2.2.2.1 c.2.2.2.2.2.1 c.2.2.2.2.2.2
def qgQ(a b:Array Keyed):mhi a b=(do
 rule "list.sort.merge-hi"
 let tot:=a.size+b.size
 let fin (o:Array Keyed) (p q:Nat):=a.extract 0 p++b.extract 0 q++o.reverse
 let fst (o:Array Keyed) (p q:Nat):=b.extract 0 q++a.extract 0 p++o.reverse
 let mut p:=a.size - 1
 let mut q:=b.size
 let mut o:Array Keyed:=#[<-elem' a p]
 if p == 0 then return fin o p q
 if q == 1 then return fst o p q
 let mut mg:=gallopOf (<-get)
 for _ in [0:tot] do
  let mut ac:=0
  let mut bc:=0
  for _ in [0:tot] do
   let some aw<-lt' (<-elem' b (q - 1)) (<-elem' a (p - 1))|return fin o p q
   if aw then
    p:=p - 1
    o:=o.push (<-elem' a p)
    ac:=ac+1
    bc:=0
    if p == 0 then return fin o p q
    if ac≥mg then break
   else
    q:=q - 1
    o:=o.push (<-elem' b q)
    bc:=bc+1
    ac:=0
    if q == 1 then return fst o p q
    if bc≥mg then break
  rule "list.sort.gallop"
  mg:=mg+1
  for _ in [0:tot] do
   if mg > 1 then mg:=mg - 1
   modify λst=>jm st mg
   let some u<-gal false (<-elem' b (q - 1)) a 0 p (p - 1)|return fin o p q
   let k:=p - u
   ac:=k
   if k > 0 then
    o:=o++(a.extract u p).reverse
    p:=u
    if p == 0 then return fin o p q
   q:=q - 1
   o:=o.push (<-elem' b q)
   if q == 1 then return fst o p q
   let some u<-gal true (<-elem' a (p - 1)) b 0 q (q - 1)|return fin o p q
   let k:=q - u
   bc:=k
   if k > 0 then
    o:=o++(b.extract u q).reverse
    q:=u
    if q == 1 then return fst o p q
    if q == 0 then return fin o p q
   p:=p - 1
   o:=o.push (<-elem' a p)
   if p == 0 then return fin o p q
   if ac < 7&&bc < 7 then break
  mg:=mg+1
  modify λst=>jm st mg
 unsupported "internal:list.sort.merge-bound"):=rfl
def qi6(a b:Array Keyed):mhi a b=(do
 rule "list.sort.merge-hi"
 let x<-elem' a (a.size - 1)
 if (a.size - 1 == 0)=true then pure (a.extract 0 (a.size - 1)++b.extract 0 b.size ++ #[x].reverse)
 else if (b.size == 1)=true then pure (b.extract 0 b.size++a.extract 0 (a.size - 1) ++ #[x].reverse)
 else do
  let st<-get
  let c<-forIn [0:a.size+b.size] ((none,a.size - 1,b.size,#[x],gallopOf st):D5) λ_ c=>do
   let d<-hi1 a b c.2.2.2.2 c.2.1 c.2.2.1 c.2.2.2.1
   match d.1 with
   |some r=>pure (.done (some r,d.2.1,d.2.2.1,d.2.2.2.1,c.2.2.2.2))
   |none=>do
    rule "list.sort.gallop"
    let f<-hi2 a b (c.2.2.2.2+1) d.2.1 d.2.2.1 d.2.2.2.1 d.2.2.2.2.1 d.2.2.2.2.2
    match f.1 with
    |some r=>pure (.done (some r,f.2.1,f.2.2.1,f.2.2.2.1,f.2.2.2.2.1))
    |none=>do
     modify λst=>jm st (f.2.2.2.2.1+1)
     pure (.yield (none,f.2.1,f.2.2.1,f.2.2.2.1,f.2.2.2.2.1+1))
  match c.1 with
  |some r=>pure r
  |none=>unsupported "internal:list.sort.merge-bound"):=by
 rw[qgQ];refine congrArg (λz=>_ >>= z) (funext λ_=>?_);show(elem' a (a.size - 1) >>= _:StateT SortSt Sem (Array Keyed))=_;refine congrArg (λz=>_ >>= z) (funext λx=>?_);show(ite _ _ (ite _ _ (get >>= _)):StateT SortSt Sem (Array Keyed))=ite _ _ (ite _ _ (get >>= _));refine congrArg (ite _ _) (congrArg (ite _ _) (congrArg (λz=>get >>= z) (funext λst=>?_)));show(forIn _ _ _ >>= _:StateT SortSt Sem (Array Keyed))=forIn _ _ _ >>= _
 refine congr (congrArg Bind.bind ?_) (funext λc=>by
  let(c1,c2):=c
  cases c1 with
  |some r=>rfl
  |none=>rfl)
 refine congrArg (forIn _ _) (funext λ_=>funext λc=>?_);show(forIn _ _ _ >>= _:StateT SortSt Sem (ForInStep D5))=hi1 _ _ _ _ _ _ >>= _;refine congr (congrArg Bind.bind ?_) (funext λd=>?_)
 ·delta hi1
  refine congrArg (forIn _ _) (funext λ_=>funext λc=>?_);refine congrArg (λz=>_ >>= z) (funext λ_=>?_);refine congrArg (λz=>_ >>= z) (funext λ_=>?_);refine congrArg (λz=>_ >>= z) (funext λr=>?_)
  cases r with
  |none=>exact rfl
  |some r=>exact rfl
 ·let(d1,d2,d3,d4,d5,d6):=d
  cases d1 with
  |some r=>rfl
  |none=>
   refine congrArg (λz=>_ >>= z) (funext λ_=>?_);show(forIn _ _ _ >>= _:StateT SortSt Sem (ForInStep D5))=hi2 _ _ _ _ _ _ _ _ >>= _;refine congr (congrArg Bind.bind ?_) (funext λf=>?_)
   ·delta hi2
    refine congrArg (forIn _ _) (funext λ_=>funext λc=>?_);show(ite _ _ _:StateT SortSt Sem (ForInStep D7))=ite _ _ _;refine congr (congrArg (ite _) ?_) ?_
    all_goals
     delta qil
     refine congrArg (λz=>_ >>= z) (funext λ_=>?_);refine congrArg (λz=>_ >>= z) (funext λy=>?_);refine congrArg (λz=>_ >>= z) (funext λr=>?_)
     cases r with
     |none=>exact rfl
     |some k=>
      show(ite _ _ _:StateT SortSt Sem (ForInStep D7))=ite _ _ _;refine congr (congrArg (ite _) ?_) ?_
      ·show(ite _ _ _:StateT SortSt Sem (ForInStep D7))=ite _ _ _;refine congrArg (ite _ _) ?_
       delta qik
       refine congrArg (λz=>_ >>= z) (funext λz=>?_);show(ite _ _ _:StateT SortSt Sem (ForInStep D7))=ite _ _ _;refine congrArg (ite _ _) ?_;refine congrArg (λz=>_ >>= z) (funext λy=>?_);refine congrArg (λz=>_ >>= z) (funext λr=>?_)
       cases r with
       |none=>exact rfl
       |some k=>exact rfl
      ·delta qik
       refine congrArg (λz=>_ >>= z) (funext λz=>?_);show(ite _ _ _:StateT SortSt Sem (ForInStep D7))=ite _ _ _;refine congrArg (ite _ _) ?_;refine congrArg (λz=>_ >>= z) (funext λy=>?_);refine congrArg (λz=>_ >>= z) (funext λr=>?_)
       cases r with
       |none=>exact rfl
       |some k=>exact rfl
   ·let(f1,f2):=f
    cases f1 with
    |some r=>rfl
    |none=>rfl
section
variable{O:KeyOrd}{kf:Keyed->O.α}{G:Keyed->Prop}{a b o:Array Keyed}{p q:Nat}
def zT{a:Array Keyed}{p:Nat}{y:Keyed}:y∈a.toList.take p↔∃t:Nat,t < p/\a[t]?=some y:=by
 rw[List.mem_take_iff_getElem];constructor
 ·rintro⟨t,ht,rfl⟩;have h2:t < a.size:=by have:=a.length_toList;lia
  exact{t,by lia,by rw[Array.getElem?_eq_getElem h2];simp}
 ·rintro⟨t,ht,e⟩;let(h2,rfl):=Array.getElem?_eq_some_iff.mp e;exact{t,by simp;lia,by simp}
def zU(a:Array Keyed)(p:Nat):(a.extract 0 p).toList=a.toList.take p:=by rw[Array.toList_extract,List.extract_eq_take_drop];simp
def qaz(a:Array Keyed){u p:Nat}(h:u<=p):a.toList.take u++(a.extract u p).toList=a.toList.take p:=by
 rw[Array.toList_extract,List.extract_eq_take_drop];have e:p=u+(p - u):=by lia
 conv=>rhs;rw[e,List.take_add]
def zq{a:Array Keyed}{u p:Nat}{x:Keyed}(h:x∈(a.extract u p).toList):∃t,u<=t/\t < p/\a[t]?=some x:=by
 by_cases hup:u<=p
 ·have e:p=u+(p - u):=by lia
  rw[e]at h;let(t,ht,ex):=ZU h;exact{u+t,by lia,by lia,ex}
 ·rw[Array.toList_extract,List.extract_eq_take_drop,show p - u=0 by lia]at h;simp at h
structure HI(O:KeyOrd)(kf:Keyed->O.α)(a b o:Array Keyed)(p q:Nat):Prop where
 perm:(a.toList.take p++(b.toList.take q++o.toList.reverse)).Perm (a.toList++b.toList)
 srt:o.toList.Pairwise (λx y=>le O kf y x)
 hi:∀x∈o.toList,∀y∈a.toList.take p++b.toList.take q,le O kf y x
def HI.blockA(h:HI O kf a b o p q)(sa:Srt O kf a 0 a.size)(hp:p<=a.size){u:Nat}(hu:u<=p)(hc:∀t x,u<=t->t < p->a[t]?=some x->∀y∈b.toList.take q,le O kf y x):HI O kf a b (o++(a.extract u p).reverse) u q:=by
 have e:=qaz a hu;refine{?_,?_,λx hx y hy=>?_}
 ·have e2:(o++(a.extract u p).reverse).toList.reverse=(a.extract u p).toList++o.toList.reverse:=by simp
  rw[e2];refine List.Perm.trans ?_ h.perm;rw[<-e,List.append_assoc];exact List.Perm.append_left _ (List.perm_append_comm_assoc _ _ _)
 ·rw[Array.toList_append,Array.toList_reverse];refine List.pairwise_append.mpr ⟨h.srt,?_,λx hx y hy=>h.hi x hx y (List.mem_append_left _ (by rw[<-e];exact List.mem_append_right _ (List.mem_reverse.mp hy)))⟩;rw[List.pairwise_reverse];exact(sa.pw.sublist (List.take_sublist p _)).sublist (by rw[<-e];exact List.sublist_append_right _ _)
 ·rw[Array.toList_append,Array.toList_reverse]at hx;rcases List.mem_append.mp hx with hx|hx
  ·refine h.hi x hx y ?_;rcases List.mem_append.mp hy with hy|hy
   ·exact List.mem_append_left _ (by rw[<-e];exact List.mem_append_left _ hy)
   ·exact List.mem_append_right _ hy
  ·let(t,t1,t2,et):=zq (List.mem_reverse.mp hx);rcases List.mem_append.mp hy with hy|hy
   ·let(w,w1,ew):=zT.mp hy;exact sa w t y x (Nat.zero_le _) (1:) (1:) ew et
   ·exact hc t x t1 t2 et y hy
def HI.blockB(h:HI O kf a b o p q)(sb:Srt O kf b 0 b.size)(hq:q<=b.size){u:Nat}(hu:u<=q)(hc:∀t x,u<=t->t < q->b[t]?=some x->∀y∈a.toList.take p,le O kf y x):HI O kf a b (o++(b.extract u q).reverse) p u:=by
 have e:=qaz b hu;refine{?_,?_,λx hx y hy=>?_}
 ·have e2:(o++(b.extract u q).reverse).toList.reverse=(b.extract u q).toList++o.toList.reverse:=by simp
  rw[e2]
  have:=h.perm
  rw[<-e,List.append_assoc]at this;exact this
 ·rw[Array.toList_append,Array.toList_reverse];refine List.pairwise_append.mpr ⟨h.srt,?_,λx hx y hy=>h.hi x hx y (List.mem_append_right _ (by rw[<-e];exact List.mem_append_right _ (List.mem_reverse.mp hy)))⟩;rw[List.pairwise_reverse];exact(sb.pw.sublist (List.take_sublist q _)).sublist (by rw[<-e];exact List.sublist_append_right _ _)
 ·rw[Array.toList_append,Array.toList_reverse]at hx;rcases List.mem_append.mp hx with hx|hx
  ·refine h.hi x hx y ?_;rcases List.mem_append.mp hy with hy|hy
   ·exact List.mem_append_left _ hy
   ·exact List.mem_append_right _ (by rw[<-e];exact List.mem_append_left _ hy)
  ·let(t,t1,t2,et):=zq (List.mem_reverse.mp hx);rcases List.mem_append.mp hy with hy|hy
   ·exact hc t x t1 t2 et y hy
   ·let(w,w1,ew):=zT.mp hy;exact sb w t y x (Nat.zero_le _) (1:) (1:) ew et
def qcu{a:Array Keyed}{p:Nat}{x:Keyed}(h:0 < p)(e:a[p - 1]?=some x):(a.extract (p - 1) p).reverse=#[x]:=by
 have:=ZV e
 rw[show p - 1+1=p by lia]at this;rw[this];rfl
def HI.pushA(h:HI O kf a b o p q)(sa:Srt O kf a 0 a.size)(hp:p<=a.size)(h0:0 < p){x:Keyed}(e:a[p - 1]?=some x)(hc:∀y∈b.toList.take q,le O kf y x):HI O kf a b (o.push x) (p - 1) q:=by
 have:=h.blockA sa hp (u:=p - 1) (1:) (λt y h1 h2 ey z hz=>by
  have:t=p - 1:=by lia
  subst this;rw[e]at ey;cases ey;exact hc z hz)
 rw[qcu h0 e]at this;exact this
def HI.pushB(h:HI O kf a b o p q)(sb:Srt O kf b 0 b.size)(hq:q<=b.size)(h0:0 < q){x:Keyed}(e:b[q - 1]?=some x)(hc:∀y∈a.toList.take p,le O kf y x):HI O kf a b (o.push x) p (q - 1):=by
 have:=h.blockB sb hq (u:=q - 1) (1:) (λt y h1 h2 ey z hz=>by
  have:t=q - 1:=by lia
  subst this;rw[e]at ey;cases ey;exact hc z hz)
 rw[qcu h0 e]at this;exact this
def HI.fin(h:HI O kf a b o p q)(sa:Srt O kf a 0 a.size)(sb:Srt O kf b 0 b.size)(z:p=0\/q=0):Mrg O kf a b (a.extract 0 p++b.extract 0 q++o.reverse):=by
 have e:(a.extract 0 p++b.extract 0 q++o.reverse).toList=a.toList.take p++(b.toList.take q++o.toList.reverse):=by rw[Array.toList_append,Array.toList_append,zU,zU,Array.toList_reverse,List.append_assoc]
 refine{by rw[e];exact h.perm,?_};rw[e,<-List.append_assoc];refine List.pairwise_append.mpr ⟨?_,by rw[List.pairwise_reverse];exact h.srt,λx hx y hy=>h.hi y (List.mem_reverse.mp hy) x hx⟩;rcases z with z|z
 ·subst z
  simpa using sb.pw.sublist (List.take_sublist q _)
 ·subst z
  simpa using sa.pw.sublist (List.take_sublist p _)
def HI.fst(h:HI O kf a b o p q)(sa:Srt O kf a 0 a.size)(sb:Srt O kf b 0 b.size)(z:∀y∈b.toList.take q,∀x∈a.toList.take p,le O kf y x):Mrg O kf a b (b.extract 0 q++a.extract 0 p++o.reverse):=by
 have e:(b.extract 0 q++a.extract 0 p++o.reverse).toList=b.toList.take q++(a.toList.take p++o.toList.reverse):=by rw[Array.toList_append,Array.toList_append,zU,zU,Array.toList_reverse,List.append_assoc]
 refine{by rw[e];exact List.Perm.trans (List.perm_append_comm_assoc _ _ _) h.perm,?_};rw[e,<-List.append_assoc];refine List.pairwise_append.mpr ⟨List.pairwise_append.mpr ⟨sb.pw.sublist (List.take_sublist q _),sa.pw.sublist (List.take_sublist p _),z⟩,by rw[List.pairwise_reverse];exact h.srt,λx hx y hy=>h.hi y (List.mem_reverse.mp hy) x ?_⟩;rcases List.mem_append.mp hx with hx|hx
 ·exact List.mem_append_right _ hx
 ·exact List.mem_append_left _ hx
def Two.firstOne(T:Two O kf G a b){p q:Nat}(h:q=1):∀y∈b.toList.take q,∀x∈a.toList.take p,le O kf y x:=λy hy x hx=>by
 let(t,ht,e):=zT.mp hy
 have:t=0:=by lia
 subst this;exact T.first x y e (List.mem_of_mem_take hx)
def Two.geA(T:Two O kf G a b){p:Nat}{x:Keyed}(e:a[p - 1]?=some x):∀y∈a.toList.take p,le O kf y x:=λy hy=>by let(t,ht,e'):=zT.mp hy;exact T.sa t (p - 1) y x (Nat.zero_le _) (1:) (Array.getElem?_eq_some_iff.mp e).1 e' e
def Two.geB(T:Two O kf G a b){q:Nat}{x:Keyed}(e:b[q - 1]?=some x):∀y∈b.toList.take q,le O kf y x:=λy hy=>by let(t,ht,e'):=zT.mp hy;exact T.sb t (q - 1) y x (Nat.zero_le _) (1:) (Array.getElem?_eq_some_iff.mp e).1 e' e
end
section
variable{M:Model}{A:Around}{E:PQ}{s:Shared}{O:KeyOrd}{kf:Keyed->O.α}{U:SortKind}{G:Keyed->Prop}{a b:Array Keyed}
def ql3(O:KeyOrd)(kf:Keyed->O.α)(a b:Array Keyed)(n:Nat)(c:Option (Array Keyed))(p q:Nat)(o:Array Keyed):Prop:=
 (∃r,c=some r/\Mrg O kf a b r)\/(c=none/\HI O kf a b o p q/\0 < p/\p<=a.size/\1 < q/\q<=b.size/\p+q<=n)
def qi7(L:y4 M A E s O kf U G)(T:Two O kf G a b){mg p q n:Nat}{o:Array Keyed}{st:SortSt}{Q:D6->SortSt->Prop}(hk:kindOf st=U)(hI:HI O kf a b o p q)(hp:0 < p)(hpa:p<=a.size)(hq:1 < q)(hqb:q<=b.size)(hn:p+q<=n+1)
  (h:∀c:D6,ql3 O kf a b n c.1 c.2.1 c.2.2.1 c.2.2.2.1->Q c st):wpS M A E s (hi1 a b mg p q o) Q st:=by
 unfold hi1;refine wpS_forRange (I:=λx c st'=>st'=st/\∃p' q' o' ac bc,c=(none,p',q',o',ac,bc)/\HI O kf a b o' p' q'/\0 < p'/\p'<=a.size/\1 < q'/\q'<=b.size/\p'+q'+x<=n+1) ?step ?fin ⟨rfl,p,q,o,0,0,rfl,hI,hp,hpa,hq,hqb,by lia⟩
 case fin=>rintro c st' ⟨rfl,p',q',o',ac,bc,rfl,h1,h2,h3,h4,h5,h6⟩;exact h _ (.inr ⟨rfl,h1,h2,h3,h4,h5,by dsimp only;lia⟩)
 case step=>
  rintro x c st' _ hx ⟨rfl,p',q',o',ac,bc,rfl,h1,h2,h3,h4,h5,h6⟩;dsimp only;let(y,ey,my):=qK (show q' - 1 < b.size by lia);let(z,ez,mz):=qK (show p' - 1 < a.size by lia);refine wpS_bind (qq ey (wpS_bind (qq ez (wpS_bind (L y z (T.gb y my) (T.ga z mz) _ _ hk ?_)))))
  cases hb:O.blt (kf y) (kf z) with
  |true=>
   simp![if_true];refine wpS_bind (qq ez ?_);have h7:=h1.pushA T.sa h3 h2 ez (λw hw=>qx (T.geB ey w hw) (le_of_lt hb))
   by_cases hfin:p' - 1=0
   ·rw[if_pos (-hfin:)];exact wpS_pure (h _ (.inl ⟨_,rfl,h7.fin T.sa T.sb (.inl hfin)⟩))
   ·rw[if_neg (-hfin:)]
    by_cases hg:ac+1≥mg
    ·rw[if_pos hg];exact wpS_pure (h _ (.inr ⟨rfl,h7,by dsimp only;lia,by dsimp only;lia,h4,h5,by dsimp only;lia⟩))
    ·rw[if_neg hg];exact wpS_pure ⟨rfl,_,_,_,_,_,rfl,h7,by lia,by lia,h4,h5,by lia⟩
  |false=>
   simp![Bool.false_eq_true,if_false];refine wpS_bind (qq ey ?_);have h7:=h1.pushB T.sb h5 (1:) ey (λw hw=>qx (T.geA ez w hw) (qW hb))
   by_cases hfin:q' - 1=1
   ·rw[if_pos (-hfin:)];exact wpS_pure (h _ (.inl ⟨_,rfl,h7.fst T.sa T.sb (T.firstOne hfin)⟩))
   ·rw[if_neg (-hfin:)]
    by_cases hg:bc+1≥mg
    ·rw[if_pos hg];exact wpS_pure (h _ (.inr ⟨rfl,h7,h2,h3,by dsimp only;lia,by dsimp only;lia,by dsimp only;lia⟩))
    ·rw[if_neg hg];exact wpS_pure ⟨rfl,_,_,_,_,_,rfl,h7,h2,h3,by lia,by lia,by lia⟩
def qgR(O:KeyOrd)(kf:Keyed->O.α)(a b:Array Keyed)(n:Nat)(r:ForInStep D7):Prop:=match r with
 |.done c=>ql3 O kf a b n c.1 c.2.1 c.2.2.1 c.2.2.2.1
 |.yield c=>c.1=none/\HI O kf a b c.2.2.2.1 c.2.1 c.2.2.1/\0 < c.2.1/\c.2.1<=a.size/\1 < c.2.2.1/\c.2.2.1<=b.size/\c.2.1+c.2.2.1<=n
def qcv(T:Two O kf G a b){mg p q ac bc n:Nat}{o:Array Keyed}{z:Keyed}{st:SortSt}{Q:ForInStep D7->SortSt->Prop}(hI:HI O kf a b o p q)(hp:0 < p)(hpa:p<=a.size)(hq:1 < q)(hqb:q<=b.size)(hn:p+q<=n)(ez:a[p - 1]?=some z)
  (hz:∀y∈b.toList.take q,le O kf y z) (h:∀r,qgR O kf a b n r->Q r st):wpS M A E s (qlw a b p q o mg ac bc) Q st:=by
 unfold qlw;refine wpS_bind (qq ez ?_);have h7:=hI.pushA T.sa hpa hp ez hz
 by_cases hfin:p - 1=0
 ·rw[if_pos (-hfin:)];exact wpS_pure (h _ (.inl ⟨_,rfl,h7.fin T.sa T.sb (.inl hfin)⟩))
 ·rw[if_neg (-hfin:)]
  by_cases hg:(decide (ac < 7)&&decide (bc < 7))=true
  ·rw[if_pos hg];exact wpS_pure (h _ (.inr ⟨rfl,h7,by dsimp only;lia,by dsimp only;lia,hq,hqb,by dsimp only;lia⟩))
  ·rw[if_neg hg];exact wpS_pure (h _ ⟨rfl,h7,by dsimp only;lia,by dsimp only;lia,hq,hqb,by dsimp only;lia⟩)
def qcw(L:y4 M A E s O kf U G)(T:Two O kf G a b){mg p q ac bc n:Nat}{o:Array Keyed}{y:Keyed}{st:SortSt}{Q:ForInStep D7->SortSt->Prop}(hk:kindOf st=U)(hI:HI O kf a b o p q)(hp:0 < p)(hpa:p<=a.size)(hq:1 < q)(hqb:q<=b.size)(hn:p+q<=n)
  (ey:b[q - 1]?=some y) (hy:∀x∈a.toList.take p,le O kf x y) (h:∀r,qgR O kf a b n r->Q r st):wpS M A E s (qik a b p q o mg ac bc) Q st:=by
 unfold qik;refine wpS_bind (qq ey ?_);have h7:=hI.pushB T.sb hqb (1:) ey hy
 by_cases hfin:q - 1=1
 ·rw[if_pos (-hfin:)];exact wpS_pure (h _ (.inl ⟨_,rfl,h7.fst T.sa T.sb (T.firstOne hfin)⟩))
 ·rw[if_neg (-hfin:)];let(z,ez,mz):=qK (show p - 1 < a.size by lia);refine wpS_bind (qq ez (wpS_bind (yB L hk (T.ga z mz) T.gb (λi' j' x y h1 h2 h3=>T.sb i' j' x y (Nat.zero_le _) h2 (1:)) (1:) (1:) λu hu1 hb1 hb2=>?_)));dsimp only
  have rest:∀w∈b.toList.take u,le O kf w z:=λw hw=>by
   let(t,ht,e):=zT.mp hw
   have:=hb1 t w ht (by rw[Nat.zero_add];exact e)
   unfold pby at this;simp![if_true]at this;exact le_of_lt this
  by_cases hk0:q - 1 - u > 0
  ·rw[if_pos hk0]
   have h8:=h7.blockB T.sb (1:) (u:=u) (1:) (λt x t1 t2 ex w hw=>by
    have:=hb2 t x t1 (1:) (by rw[Nat.zero_add];exact ex)
    unfold pby at this;simp![if_true]at this;exact qx (T.geA ez w hw) (qW this))
   by_cases hf1:u=1
   ·rw[if_pos (-hf1:)];exact wpS_pure (h _ (.inl ⟨_,rfl,h8.fst T.sa T.sb (T.firstOne hf1)⟩))
   ·rw[if_neg (-hf1:)]
    by_cases hf2:u=0
    ·rw[if_pos (-hf2:)];exact wpS_pure (h _ (.inl ⟨_,rfl,h8.fin T.sa T.sb (.inr hf2)⟩))
    ·rw[if_neg (-hf2:)];exact qcv T h8 hp hpa (1:) (1:) (1:) ez rest h
  ·rw[if_neg hk0]
   have:u=q - 1:=by lia
   subst this;exact qcv T h7 hp hpa (1:) (1:) (1:) ez rest h
def qgS(L:y4 M A E s O kf U G)(T:Two O kf G a b){mg p q ac bc n:Nat}{o:Array Keyed}{st:SortSt}{Q:ForInStep D7->SortSt->Prop}(hk:kindOf st=U)(hI:HI O kf a b o p q)(hp:0 < p)(hpa:p<=a.size)(hq:1 < q)(hqb:q<=b.size)(hn:p+q<=n)
  (h:∀r,qgR O kf a b n r->Q r (jm st mg)):wpS M A E s (qil a b p q o mg ac bc) Q st:=by
 unfold qil;refine wpS_bind (wpS_modify ?_);let(y,ey,my):=qK (show q - 1 < b.size by lia);have hk':kindOf (jm st mg)=U:=hk;refine wpS_bind (qq ey (wpS_bind (yB L hk' (T.gb y my) T.ga (λi' j' x y h1 h2 h3=>T.sa i' j' x y (Nat.zero_le _) h2 (1:)) (1:) (1:) λu hu1 ha1 ha2=>?_)));dsimp only
 have rest:∀w∈a.toList.take u,le O kf w y:=λw hw=>by
  let(t,ht,e):=zT.mp hw
  have:=ha1 t w ht (by rw[Nat.zero_add];exact e)
  unfold pby at this;simp![Bool.false_eq_true,if_false,Bool.not_eq_true']at this;exact qW this
 by_cases hk0:p - u > 0
 ·rw[if_pos hk0]
  have h8:=hI.blockA T.sa hpa (u:=u) (1:) (λt x t1 t2 ex w hw=>by
   have:=ha2 t x t1 (1:) (by rw[Nat.zero_add];exact ex)
   unfold pby at this;simp![Bool.false_eq_true,if_false,Bool.not_eq_false']at this;exact qx (T.geB ey w hw) (le_of_lt this))
  by_cases hf1:u=0
  ·rw[if_pos (-hf1:)];exact wpS_pure (h _ (.inl ⟨_,rfl,h8.fin T.sa T.sb (.inl hf1)⟩))
  ·rw[if_neg (-hf1:)];exact qcw L T hk' h8 (1:) (1:) hq hqb (1:) ey rest h
 ·rw[if_neg hk0]
  have:u=p:=by lia
  subst this;exact qcw L T hk' hI hp hpa hq hqb hn ey rest h
def qi8(L:y4 M A E s O kf U G)(T:Two O kf G a b){mg p q ac bc n:Nat}{o:Array Keyed}{st:SortSt}{Q:D7->SortSt->Prop}(hk:kindOf st=U)(hI:HI O kf a b o p q)(hp:0 < p)(hpa:p<=a.size)(hq:1 < q)(hqb:q<=b.size)(hn:p+q<=n)
  (h:∀(c:D7) g,ql3 O kf a b n c.1 c.2.1 c.2.2.1 c.2.2.2.1->Q c (jm st g)):wpS M A E s (hi2 a b mg p q o ac bc) Q st:=by
 unfold hi2;refine wpS_forRange (I:=λx c st'=>(∃g,st'=jm st g)/\∃p' q' o' mg ac bc,c=(none,p',q',o',mg,ac,bc)/\HI O kf a b o' p' q'/\0 < p'/\p'<=a.size/\1 < q'/\q'<=b.size/\p'+q'<=n) ?step ?fin ⟨⟨gallopOf st,rfl⟩,p,q,o,mg,ac,bc,rfl,hI,hp,hpa,hq,hqb,hn⟩
 case fin=>rintro c st' ⟨⟨g,rfl⟩,p',q',o',mg,ac,bc,rfl,h1,h2,h3,h4,h5,h6⟩;exact h _ g (.inr ⟨rfl,h1,h2,h3,h4,h5,h6⟩)
 case step=>
  rintro x c st' _ hx ⟨⟨g,rfl⟩,p',q',o',mg',ac,bc,rfl,h1,h2,h3,h4,h5,h6⟩
  have go:∀m,wpS M A E s (qil a b p' q' o' m ac bc) (λr st'=>match r with
    | .done c'=>Q c' st'
    | .yield c'=>(∃g,st'=jm st g)/\∃p' q' o' mg ac bc,c'=(none,p',q',o',mg,ac,bc)/\HI O kf a b o' p' q'/\0 < p'/\p'<=a.size/\1 < q'/\q'<=b.size/\p'+q'<=n) (jm st g):=λm=>by
   refine qgS L T (n:=n) hk h1 h2 h3 h4 h5 h6 λr hr=>?_
   cases r with
   | done c'=>exact h _ m hr
   | yield c'=>let(c1,c2,c3,c4,c5,c6,c7):=c';let(e,r1,r2,r3,r4,r5,r6):=hr;have e:c1=none:=e;subst e;exact{⟨m,rfl⟩,_,_,_,_,_,_,rfl,r1,r2,r3,r4,r5,r6}
  dsimp only
  by_cases hg:mg' > 1
  ·rw[if_pos hg];exact wpS_mono (go _) (λr st' hh=>by cases r<;>exact hh)
  ·rw[if_neg hg];exact wpS_mono (go _) (λr st' hh=>by cases r<;>exact hh)
def qi9(L:y4 M A E s O kf U G)(T:Two O kf G a b){st:SortSt}{Q:Array Keyed->SortSt->Prop}(hk:kindOf st=U)(h:∀r g,Mrg O kf a b r->Q r (jm st g)):wpS M A E s (mhi a b) Q st:=by
 rw[qi6];refine wpS_bind (wpS_lift (wpAny_rule ⟨rfl,?_⟩));have hpa:=T.pa;have hpb:=T.pb;let(y,ey,my):=qK (show a.size - 1 < a.size by lia);refine wpS_bind (qq ey ?_);have h0:HI O kf a b #[] a.size b.size:={by rw[<-Array.length_toList,<-Array.length_toList,List.take_length,List.take_length];simp,by simp,by simp};have h1:HI O kf a b #[y] (a.size - 1) b.size:=h0.pushA T.sa (Nat.le_refl _) hpa ey (λx hx=>T.last y x ey (List.mem_of_mem_take hx));have hst:st=jm st (gallopOf st):=rfl
 by_cases hf1:a.size - 1=0
 ·rw[if_pos (-hf1:)];exact wpS_pure (by rw[hst];exact h _ _ (h1.fin T.sa T.sb (.inl hf1)))
 ·rw[if_neg (-hf1:)]
  by_cases hf2:b.size=1
  ·rw[if_pos (-hf2:)];exact wpS_pure (by rw[hst];exact h _ _ (h1.fst T.sa T.sb (T.firstOne hf2)))
  ·rw[if_neg (-hf2:)];refine wpS_bind (wpS_get ?_)
   refine wpS_bind (wpS_mono (wpS_forRange (I:=λx c st'=>(∃g,st'=jm st g)/\∃p' q' o' mg,c=(none,p',q',o',mg)/\HI O kf a b o' p' q'/\0 < p'/\p'<=a.size/\1 < q'/\q'<=b.size/\p'+q'+x+1<=a.size+b.size)
    (Q:=λc st'=>(∃g,st'=jm st g)/\∃r,c.1=some r/\Mrg O kf a b r) ?step ?fin ⟨⟨_,hst⟩,_,_,_,_,rfl,h1,by lia,by lia,by lia,by lia,by lia⟩) ?post)
   case fin=>
    rintro c st' ⟨_,o',i',j',mg,rfl,r1,r2,r3,r4,r5,r6⟩;exfalso
    lia
   case post=>rintro c st' ⟨⟨g,rfl⟩,r,e,hr⟩;let(c1,c2):=c;have e:c1=some r:=e;subst e;exact wpS_pure (h _ _ hr)
   case step=>
    rintro x c st' _ hx ⟨⟨g,rfl⟩,p',q',o',mg,rfl,r1,r2,r3,r4,r5,r6⟩;dsimp only;refine wpS_bind (qi7 L T (st:=jm st g) (n:=p'+q' - 1) hk r1 r2 r3 r4 r5 (1:) λc hc=>?_);let(c1,c2,c3,c4,c5,c6):=c;rcases hc with ⟨r,e,hr⟩|⟨e,q1,q2,q3,q4,q5,q6⟩
    ·have e:c1=some r:=e;subst e;exact wpS_pure ⟨⟨g,rfl⟩,r,rfl,hr⟩
    ·have e:c1=none:=e;subst e;dsimp only at q1 q2 q3 q4 q5 q6 ⊢;refine wpS_bind (wpS_lift (wpAny_rule ⟨rfl,?_⟩));refine wpS_bind (qi8 L T (st:=jm st g) (n:=p'+q' - 1) hk q1 q2 q3 q4 q5 q6 λd g' hd=>?_);let(d1,d2,d3,d4,d5,d6,d7):=d;rcases hd with ⟨r,e,hr⟩|⟨e,p1,p2,p3,p4,p5,p6⟩
     ·have e:d1=some r:=e;subst e;exact wpS_pure ⟨⟨g',rfl⟩,r,rfl,hr⟩
     ·have e:d1=none:=e;subst e;dsimp only at p1 p2 p3 p4 p5 p6 ⊢;exact wpS_bind (wpS_modify (wpS_pure ⟨⟨_,rfl⟩,_,_,_,_,rfl,p1,p2,p3,p4,p5,by lia⟩))
end
section
variable{O:KeyOrd}{kf:Keyed->O.α}
def KA(O:KeyOrd)(kf:Keyed->O.α)(xs:Array Keyed)(i:Nat):O.α:=kf (xs[i]?.getD (Value.none,Value.none))
def Inc(O:KeyOrd)(kf:Keyed->O.α)(xs:Array Keyed)(lo hi:Nat):Prop:=∀i j,lo<=i->i<=j->j < hi->O.kle (KA O kf xs i) (KA O kf xs j)
def Dec(O:KeyOrd)(kf:Keyed->O.α)(xs:Array Keyed)(lo hi:Nat):Prop:=∀i j,lo<=i->i<=j->j < hi->O.kle (KA O kf xs j) (KA O kf xs i)
def j6{xs ys:Array Keyed}{i j:Nat}(h:xs[i]?=ys[j]?):KA O kf xs i=KA O kf ys j:=by unfold KA;rw[h]
def qep{xs:Array Keyed}{i:Nat}{x:Keyed}(h:xs[i]?=some x):KA O kf xs i=kf x:=by unfold KA;rw[h];rfl
def Inc.srt{xs:Array Keyed}{lo hi:Nat}(h:Inc O kf xs lo hi):Srt O kf xs lo hi:=λi j x y h1 h2 h3 e1 e2=>by
 have:=h i j h1 h2 h3
 rw[qep e1,qep e2]at this;exact this
def JC{xs:Array Keyed}{i j:Nat}(hj:j<=xs.size)(k:Nat):KA O kf (mirror xs i j ((j - i) / 2)) k=if i<=k/\k < j then KA O kf xs (i+j - 1 - k) else KA O kf xs k:=by
 have e:=getElem?_mirror_all (i:=i) hj k
 by_cases h:i<=k/\k < j
 ·rw[if_pos h]at e ⊢;exact j6 e
 ·rw[if_neg h]at e ⊢;exact j6 e
def qX{xs:Array Keyed}{i j:Nat}(hj:j<=xs.size)(heq:∀k,i<=k->k < j->KA O kf xs k=KA O kf xs (j - 1))(k:Nat):KA O kf (mirror xs i j ((j - i) / 2)) k=KA O kf xs k:=by
 rw[JC hj];split
 ·rw[heq _ (1:) (1:),heq k (1:) (1:)]
 ·rfl
def QR{xs:Array Keyed}{src d:Nat}(hs:src < xs.size)(hd:d<=src)(k:Nat) :
  KA O kf (bubble xs src d) k=if k=src - d then KA O kf xs src else if src - d < k/\k<=src then KA O kf xs (k - 1) else KA O kf xs k:=by
 have e:=getElem?_bubble hs d hd k
 by_cases h1:k=src - d
 ·rw[if_pos h1]at e ⊢;exact j6 e
 ·rw[if_neg h1]at e ⊢
  by_cases h2:src - d < k/\k<=src
  ·rw[if_pos h2]at e ⊢;exact j6 e
  ·rw[if_neg h2]at e ⊢;exact j6 e
structure Re(lo:Nat)(xs ys:Array Keyed):Prop where
 perm:ys.Perm xs
 keep:∀k,k < lo->ys[k]?=xs[k]?
def Re.refl(lo:Nat)(xs:Array Keyed):Re lo xs xs:={Array.Perm.refl _,λ_ _=>rfl}
def Re.trans{lo:Nat}{xs ys zs:Array Keyed}(a:Re lo xs ys)(b:Re lo ys zs):Re lo xs zs:={b.perm.trans a.perm,λk h=>(b.keep k h).trans (a.keep k h)}
def Re.size{lo:Nat}{xs ys:Array Keyed}(a:Re lo xs ys):ys.size=xs.size:=a.perm.size_eq
def Re.mirror{lo i j:Nat}{xs:Array Keyed}(hi:lo<=i)(hj:j<=xs.size):Re lo xs (mirror xs i j ((j - i) / 2)):={mirror_perm _ _ _ _,λk h=>by rw[getElem?_mirror_all hj k,if_neg (1:)]}
def Re.bubble{lo src d:Nat}{xs:Array Keyed}(hs:src < xs.size)(hd:lo+d<=src):Re lo xs (bubble xs src d):={bubble_perm _ _ _,λk h=>by rw[getElem?_bubble hs d (1:),if_neg (1:),if_neg (1:)]}
def Re.mem{lo:Nat}{xs ys:Array Keyed}(a:Re lo xs ys){G:Keyed->Prop}(h:∀x∈xs.toList,G x):∀x∈ys.toList,G x:=λx hx=>h x ((Array.perm_iff_toList_perm.mp a.perm).mem_iff.mp hx)
end
abbrev ASt:=Option (Option Nat)×Nat
abbrev BSt:=Option (Option Nat)×Nat×Nat
def asc(lo a nrem:Nat):StateT SortSt Sem ASt:=
 forIn [a:nrem] ((none,a):ASt) λ_ c=>do
  let r<-ltAt' (lo+c.2) (lo+c.2 - 1)
  match r with
  |some sm=>if sm=true then pure (.done (none,c.2)) else pure (.yield (none,c.2+1))
  |_=>pure (.done (some none,c.2))
def dsc(lo a nrem:Nat):StateT SortSt Sem BSt:=
 forIn [a:nrem] ((none,a,0):BSt) λ_ c=>do
  let r<-ltAt' (lo+c.2.1) (lo+c.2.1 - 1)
  match r with
  |some sm=>
   if sm=true then
    if c.2.2 > 0 then do
     reverseSlice' (lo+c.2.1 - (c.2.2+1)) (lo+c.2.1)
     pure (.yield (none,c.2.1+1,0))
    else pure (.yield (none,c.2.1+1,0))
   else do
    let r<-ltAt' (lo+c.2.1 - 1) (lo+c.2.1)
    match r with
    |some lg=>if lg=true then pure (.done (none,c.2.1,c.2.2)) else pure (.yield (none,c.2.1+1,c.2.2+1))
    |_=>pure (.done (some none,c.2.1,c.2.2))
  |_=>pure (.done (some none,c.2.1,c.2.2))
def tl3(lo n nrem:Nat):StateT SortSt Sem (Option Nat):=do
 reverseSlice' lo (lo+n)
 let c<-asc lo n nrem
 match c.1 with
 |some r=>pure r
 |none=>pure (some c.2)
def dpt(lo n nrem:Nat):StateT SortSt Sem (Option Nat):=do
 rule "list.sort.descending-run"
 let c<-dsc lo (n+1) nrem
 match c.1 with
 |some r=>pure r
 |none=>if c.2.2 > 0 then do reverseSlice' (lo+c.2.1 - (c.2.2+1)) (lo+c.2.1);tl3 lo c.2.1 nrem else tl3 lo c.2.1 nrem
theorem ql4(lo nrem:Nat):countRun' lo nrem=(do
 let c<-asc lo 1 nrem
 match c.1 with
 |some r=>pure r
 |none=>
  if (c.2 == nrem)=true then pure (some c.2)
  else if c.2 > 1 then do
   let r<-ltAt' lo (lo+c.2 - 1)
   match r with
   |some rs=>if rs=true then pure (some c.2) else do reverseSlice' lo (lo+c.2);dpt lo c.2 nrem
   |_=>pure none
  else dpt lo c.2 nrem):=by
 rw[countRun'_eq];show(forIn _ _ _ >>= _:StateT SortSt Sem (Option Nat))=asc lo 1 nrem >>= _;refine congr (congrArg Bind.bind ?_) (funext λc=>?_)
 ·delta asc
  refine congrArg (forIn _ _) (funext λ_=>funext λc=>?_);refine congrArg (λz=>_ >>= z) (funext λr=>?_)
  cases r with
  |none=>exact rfl
  |some sm=>exact rfl
 ·let(c1,c2):=c
  cases c1 with
  |some r=>rfl
  |none=>
   show(ite _ _ (ite _ _ _):StateT SortSt Sem (Option Nat))=ite _ _ (ite _ _ _);refine congrArg (ite _ _) ?_;refine congr (congrArg (ite _) ?_) ?_
   ·refine congrArg (λz=>_ >>= z) (funext λr=>?_)
    cases r with
    |none=>exact rfl
    |some rs=>
     show(ite _ _ _:StateT SortSt Sem (Option Nat))=ite _ _ _;refine congrArg (ite _ _) ?_;refine congrArg (λz=>_ >>= z) (funext λ_=>?_)
     delta dpt
     refine congrArg (λz=>_ >>= z) (funext λ_=>?_);show(forIn _ _ _ >>= _:StateT SortSt Sem (Option Nat))=dsc lo (c2+1) nrem >>= _;refine congr (congrArg Bind.bind ?_) (funext λd=>?_)
     ·delta dsc
      refine congrArg (forIn _ _) (funext λ_=>funext λc=>?_);refine congrArg (λz=>_ >>= z) (funext λr=>?_)
      cases r with
      |none=>exact rfl
      |some sm=>
       show(ite _ _ _:StateT SortSt Sem (ForInStep BSt))=ite _ _ _;refine congr (congrArg (ite _) ?_) ?_
       ·exact rfl
       ·refine congrArg (λz=>_ >>= z) (funext λr=>?_)
        cases r with
        |none=>exact rfl
        |some lg=>exact rfl
     ·let(d1,d2,d3):=d
      cases d1 with
      |some r=>exact rfl
      |none=>
       show(ite _ _ _:StateT SortSt Sem (Option Nat))=ite _ _ _;refine congr (congrArg (ite _) ?_) ?_
       ·refine congrArg (λz=>_ >>= z) (funext λ_=>?_)
        delta tl3
        refine congrArg (λz=>_ >>= z) (funext λ_=>?_);show(forIn _ _ _ >>= _:StateT SortSt Sem (Option Nat))=asc lo d2 nrem >>= _;refine congr (congrArg Bind.bind ?_) (funext λe=>?_)
        ·delta asc
         refine congrArg (forIn _ _) (funext λ_=>funext λc=>?_);refine congrArg (λz=>_ >>= z) (funext λr=>?_)
         cases r with
         |none=>exact rfl
         |some sm=>exact rfl
        ·let(e1,e2):=e
         cases e1 with
         |some r=>exact rfl
         |none=>exact rfl
       ·delta tl3
        refine congrArg (λz=>_ >>= z) (funext λ_=>?_);show(forIn _ _ _ >>= _:StateT SortSt Sem (Option Nat))=asc lo d2 nrem >>= _;refine congr (congrArg Bind.bind ?_) (funext λe=>?_)
        ·delta asc
         refine congrArg (forIn _ _) (funext λ_=>funext λc=>?_);refine congrArg (λz=>_ >>= z) (funext λr=>?_)
         cases r with
         |none=>exact rfl
         |some sm=>exact rfl
        ·let(e1,e2):=e
         cases e1 with
         |some r=>exact rfl
         |none=>exact rfl
   ·show _=dpt lo c2 nrem
    delta dpt
    refine congrArg (λz=>_ >>= z) (funext λ_=>?_);show(forIn _ _ _ >>= _:StateT SortSt Sem (Option Nat))=dsc lo (c2+1) nrem >>= _;refine congr (congrArg Bind.bind ?_) (funext λd=>?_)
    ·delta dsc
     refine congrArg (forIn _ _) (funext λ_=>funext λc=>?_);refine congrArg (λz=>_ >>= z) (funext λr=>?_)
     cases r with
     |none=>exact rfl
     |some sm=>
      show(ite _ _ _:StateT SortSt Sem (ForInStep BSt))=ite _ _ _;refine congr (congrArg (ite _) ?_) ?_
      ·exact rfl
      ·refine congrArg (λz=>_ >>= z) (funext λr=>?_)
       cases r with
       |none=>exact rfl
       |some lg=>exact rfl
    ·let(d1,d2,d3):=d
     cases d1 with
     |some r=>exact rfl
     |none=>
      show(ite _ _ _:StateT SortSt Sem (Option Nat))=ite _ _ _;refine congr (congrArg (ite _) ?_) ?_
      ·refine congrArg (λz=>_ >>= z) (funext λ_=>?_)
       delta tl3
       refine congrArg (λz=>_ >>= z) (funext λ_=>?_);show(forIn _ _ _ >>= _:StateT SortSt Sem (Option Nat))=asc lo d2 nrem >>= _;refine congr (congrArg Bind.bind ?_) (funext λe=>?_)
       ·delta asc
        refine congrArg (forIn _ _) (funext λ_=>funext λc=>?_);refine congrArg (λz=>_ >>= z) (funext λr=>?_)
        cases r with
        |none=>exact rfl
        |some sm=>exact rfl
       ·let(e1,e2):=e
        cases e1 with
        |some r=>exact rfl
        |none=>exact rfl
      ·delta tl3
       refine congrArg (λz=>_ >>= z) (funext λ_=>?_);show(forIn _ _ _ >>= _:StateT SortSt Sem (Option Nat))=asc lo d2 nrem >>= _;refine congr (congrArg Bind.bind ?_) (funext λe=>?_)
       ·delta asc
        refine congrArg (forIn _ _) (funext λ_=>funext λc=>?_);refine congrArg (λz=>_ >>= z) (funext λr=>?_)
        cases r with
        |none=>exact rfl
        |some sm=>exact rfl
       ·let(e1,e2):=e
        cases e1 with
        |some r=>exact rfl
        |none=>exact rfl
section
variable{M:Model}{A:Around}{E:PQ}{s:Shared}{O:KeyOrd}{kf:Keyed->O.α}{U:SortKind}{G:Keyed->Prop}
def JD(L:y4 M A E s O kf U G){st:SortSt}{i j:Nat}{Q:Option Bool->SortSt->Prop}(hk:kindOf st=U)(hG:∀x∈(arrOf st).toList,G x)(hi:i < (arrOf st).size)(hj:j < (arrOf st).size)
  (h:Q (some (O.blt (KA O kf (arrOf st) i) (KA O kf (arrOf st) j))) st):wpS M A E s (ltAt' i j) Q st:=by
 rw[ltAt'_eq];refine wpS_bind (wpS_get ?_);let(x,ex,mx):=qK hi;let(y,ey,my):=qK hj;rw[qep ex,qep ey]at h;exact wpS_bind (qq ex (wpS_bind (qq ey (L x y (hG x mx) (hG y my) st Q hk h))))
def qaA{i j:Nat}{st:SortSt}{Q:Unit->SortSt->Prop}(h:Q () (setArr st (mirror (arrOf st) i j ((j - i) / 2)))):wpS M A E s (reverseSlice' i j) Q st:=by rw[reverseSlice'_eq];exact wpS_modify h
def qfG(L:y4 M A E s O kf U G){st:SortSt}{lo a nrem:Nat}{Q:ASt->SortSt->Prop}(hk:kindOf st=U)(hG:∀x∈(arrOf st).toList,G x)(hn:lo+nrem<=(arrOf st).size)(ha:1<=a)(han:a<=nrem)
  (hs:Inc O kf (arrOf st) lo (lo+a))
  (h:∀n,a<=n->n<=nrem->Inc O kf (arrOf st) lo (lo+n)->(n=nrem\/O.klt (KA O kf (arrOf st) (lo+n)) (KA O kf (arrOf st) (lo+n - 1)))->Q (none,n) st):wpS M A E s (asc lo a nrem) Q st:=by
 unfold asc;refine wpS_forRange (I:=λx c st'=>st'=st/\c=(none,x)/\Inc O kf (arrOf st) lo (lo+x)) ?step ?fin ⟨rfl,rfl,hs⟩
 case fin=>rintro c st' ⟨rfl,rfl,hs'⟩;rw[show max a nrem=nrem by lia]at hs' ⊢;exact h nrem han (Nat.le_refl _) hs' (.inl rfl)
 case step=>
  rintro x c st' hax hxn ⟨rfl,rfl,hs'⟩;dsimp only;refine wpS_bind (JD L hk hG (1:) (1:) ?_)
  cases hb:O.blt (KA O kf (arrOf st') (lo+x)) (KA O kf (arrOf st') (lo+x - 1)) with
  |true=>simp![if_true];exact wpS_pure (h x hax (1:) hs' (.inr hb))
  |false=>
   simp![Bool.false_eq_true,if_false];refine wpS_pure ⟨rfl,rfl,λi j h1 h2 h3=>?_⟩
   by_cases hjx:j < lo+x
   ·exact hs' i j h1 h2 hjx
   ·have:j=lo+x:=by lia
    subst this
    by_cases e:i=lo+x
    ·subst e;exact KeyOrd.kle_refl _
    ·exact KeyOrd.kle_trans (hs' i (lo+x - 1) h1 (1:) (1:)) hb
def qbv(O:KeyOrd)(kf:Keyed->O.α)(lo nrem:Nat)(st:SortSt)(Q:Option Nat->SortSt->Prop):Prop:=
 ∀m xs,Re lo (arrOf st) xs->1<=m->m<=nrem->Inc O kf xs lo (lo+m)->Q (some m) (setArr st xs)
def qbv.step{lo nrem:Nat}{st:SortSt}{Q:Option Nat->SortSt->Prop}{xs:Array Keyed}(h:qbv O kf lo nrem st Q)(r:Re lo (arrOf st) xs):qbv O kf lo nrem (setArr st xs) Q:=
 λm ys r' h1 h2 h3=>h m ys (r.trans r') h1 h2 h3
def qfH(L:y4 M A E s O kf U G){st:SortSt}{lo n nrem:Nat}{Q:Option Nat->SortSt->Prop}(hk:kindOf st=U)(hG:∀x∈(arrOf st).toList,G x)(hn:lo+nrem<=(arrOf st).size)(h1:1<=n)(hnn:n<=nrem)
  (hs:Dec O kf (arrOf st) lo (lo+n)) (h:qbv O kf lo nrem st Q):wpS M A E s (tl3 lo n nrem) Q st:=by
 unfold tl3;refine wpS_bind (qaA ?_);have r:Re lo (arrOf st) (mirror (arrOf st) lo (lo+n) ((lo+n - lo) / 2)):=Re.mirror (Nat.le_refl _) (1:);refine wpS_bind (qfG L (st:=setArr st (mirror (arrOf st) lo (lo+n) ((lo+n - lo) / 2))) hk (r.mem hG) (by have:=r.size;show lo+nrem<=(mirror (arrOf st) lo (lo+n) ((lo+n - lo) / 2)).size;lia) h1 hnn ?_ λm hm1 hm2 hs2 _=>wpS_pure (h m _ r (1:) hm2 hs2));intro i j h2 h3 h4;show O.kle (KA O kf (mirror (arrOf st) lo (lo+n) ((lo+n - lo) / 2)) i) (KA O kf (mirror (arrOf st) lo (lo+n) ((lo+n - lo) / 2)) j);rw[JC (1:),JC (1:),if_pos (1:),if_pos (1:)];exact hs _ _ (1:) (1:) (1:)
def qja(L:y4 M A E s O kf U G){st:SortSt}{lo n nrem:Nat}{Q:BSt->SortSt->Prop}(hk:kindOf st=U)(hG:∀x∈(arrOf st).toList,G x)(hn:lo+nrem<=(arrOf st).size)(h1:1<=n)(hnn:n<=nrem)
  (hs:Dec O kf (arrOf st) lo (lo+n))
  (h:∀m ne xs,Re lo (arrOf st) xs->n<=m->m<=nrem->Dec O kf xs lo (lo+m)->ne+1<=m->(∀i,lo+m - (ne+1)<=i->i < lo+m->KA O kf xs i=KA O kf xs (lo+m - 1))->Q (none,m,ne) (setArr st xs)):wpS M A E s (dsc lo n nrem) Q st:=by
 unfold dsc
 refine wpS_forRange (I:=λx c st'=>∃ne xs,c=(none,x,ne)/\st'=setArr st xs/\Re lo (arrOf st) xs/\Dec O kf xs lo (lo+x)/\ne+1<=x/\(∀i,lo+x - (ne+1)<=i->i < lo+x->KA O kf xs i=KA O kf xs (lo+x - 1))) ?step ?fin
  ⟨0,arrOf st,rfl,rfl,Re.refl _ _,hs,by lia,λi a b=>by congr 1;lia⟩
 case fin=>rintro c st' ⟨ne,xs,rfl,rfl,r,hs',hq,he⟩;rw[show max n nrem=nrem by lia]at hs' hq he ⊢;exact h nrem ne xs r hnn (Nat.le_refl _) hs' hq he
 case step=>
  rintro x c st' hax hxn ⟨ne,xs,rfl,rfl,r,hs',hq,he⟩;dsimp only;have hsz:xs.size=(arrOf st).size:=r.size;refine wpS_bind (JD L (st:=setArr st xs) hk (r.mem hG) (by show lo+x < xs.size;lia) (by show lo+x - 1 < xs.size;lia) ?_);show wpS M A E s _ _ _
  cases hb:O.blt (KA O kf (arrOf (setArr st xs)) (lo+x)) (KA O kf (arrOf (setArr st xs)) (lo+x - 1)) with
  |true=>
   have hb:O.blt (KA O kf xs (lo+x)) (KA O kf xs (lo+x - 1))=true:=hb;simp![if_true]
   have step1:∀ys:Array Keyed,(∀k,KA O kf ys k=KA O kf xs k)->Dec O kf ys lo (lo+(x+1)):=by
    intro ys hy i j a b d;rw[hy,hy]
    by_cases hjx:j < lo+x
    ·exact hs' i j a b hjx
    ·have:j=lo+x:=by lia
     subst this
     by_cases e:i=lo+x
     ·subst e;exact KeyOrd.kle_refl _
     ·exact KeyOrd.kle_trans (KeyOrd.kle_of_klt hb) (hs' i (lo+x - 1) a (1:) (1:))
   by_cases hneq:ne > 0
   ·rw[if_pos hneq];refine wpS_bind (qaA (wpS_pure ⟨0,_,rfl,rfl,r.trans (Re.mirror (xs:=xs) (1:) (1:)),step1 _ (qX (xs:=xs) (1:) he),by lia,λi a b=>by congr 1;lia⟩))
   ·rw[if_neg hneq];exact wpS_pure ⟨0,xs,rfl,rfl,r,step1 _ (λ_=>rfl),by lia,λi a b=>by congr 1;lia⟩
  |false=>
   have hb:O.blt (KA O kf xs (lo+x)) (KA O kf xs (lo+x - 1))=false:=hb;simp![Bool.false_eq_true,if_false];refine wpS_bind (JD L (st:=setArr st xs) hk (r.mem hG) (by show lo+x - 1 < xs.size;lia) (by show lo+x < xs.size;lia) ?_)
   cases hc:O.blt (KA O kf (arrOf (setArr st xs)) (lo+x - 1)) (KA O kf (arrOf (setArr st xs)) (lo+x)) with
   |true=>simp![if_true];exact wpS_pure (h x ne xs r hax (1:) hs' hq he)
   |false=>
    have hc:O.blt (KA O kf xs (lo+x - 1)) (KA O kf xs (lo+x))=false:=hc;simp![Bool.false_eq_true,if_false];have heqx:KA O kf xs (lo+x)=KA O kf xs (lo+x - 1):=KeyOrd.kle_antisymm hc hb;refine wpS_pure ⟨ne+1,xs,rfl,rfl,r,λi j a b d=>?_,by lia,λi a b=>?_⟩
    ·by_cases hjx:j < lo+x
     ·exact hs' i j a b hjx
     ·have:j=lo+x:=by lia
      subst this
      by_cases e:i=lo+x
      ·subst e;exact KeyOrd.kle_refl _
      ·rw[heqx];exact hs' i (lo+x - 1) a (1:) (1:)
    ·rw[show lo+(x+1) - 1=lo+x by lia]
     by_cases e:i=lo+x
     ·rw[e]
     ·rw[heqx];exact he i (1:) (1:)
def qfI(L:y4 M A E s O kf U G){st:SortSt}{lo n nrem:Nat}{Q:Option Nat->SortSt->Prop}(hk:kindOf st=U)(hG:∀x∈(arrOf st).toList,G x)(hn:lo+nrem<=(arrOf st).size)(hnn:n+1<=nrem)
  (hs:Dec O kf (arrOf st) lo (lo+(n+1))) (h:qbv O kf lo nrem st Q):wpS M A E s (dpt lo n nrem) Q st:=by
 unfold dpt;refine wpS_bind (wpS_lift (wpAny_rule ⟨rfl,?_⟩));refine wpS_bind (qja L hk hG hn (1:) hnn hs λm ne xs r h1 h2 h3 h4 h5=>?_);dsimp only;have hsz:xs.size=(arrOf st).size:=r.size
 by_cases hneq:ne > 0
 ·rw[if_pos hneq];have r2:Re lo xs (mirror xs (lo+m - (ne+1)) (lo+m) ((lo+m - (lo+m - (ne+1))) / 2)):=Re.mirror (1:) (1:);refine wpS_bind (qaA (qfH L hk (r2.mem (r.mem hG)) (by have:=r2.size;show lo+nrem<=(mirror xs (lo+m - (ne+1)) (lo+m) ((lo+m - (lo+m - (ne+1))) / 2)).size;lia) (1:) h2 ?_ ((h.step r).step r2)));intro i j a b d;show O.kle (KA O kf (mirror xs _ _ _) j) (KA O kf (mirror xs _ _ _) i);rw[qX (1:) h5,qX (1:) h5];exact h3 i j a b d
 ·rw[if_neg hneq];exact qfH L (st:=setArr st xs) hk (r.mem hG) (by show lo+nrem<=xs.size;lia) (1:) h2 h3 (h.step r)
def ql5(L:y4 M A E s O kf U G){st:SortSt}{lo nrem:Nat}{Q:Option Nat->SortSt->Prop}(hk:kindOf st=U)(hG:∀x∈(arrOf st).toList,G x)(hn:lo+nrem<=(arrOf st).size)(h1:1<=nrem)
  (h:qbv O kf lo nrem st Q):wpS M A E s (countRun' lo nrem) Q st:=by
 rw[ql4];refine wpS_bind (qfG L hk hG hn (Nat.le_refl 1) h1 (λi j a b d=>by have:i=j:=(1:);subst this;exact KeyOrd.kle_refl _) λn hn1 hn2 hsn hor=>?_);dsimp only
 by_cases hnn:n=nrem
 ·rw[if_pos (-hnn:)];exact wpS_pure (h n _ (Re.refl _ _) hn1 hn2 hsn)
 ·rw[if_neg (-hnn:)];have hlt:=hor.resolve_left hnn
  by_cases hgt:n > 1
  ·rw[if_pos hgt];refine wpS_bind (JD L hk hG (1:) (1:) ?_)
   cases hr:O.blt (KA O kf (arrOf st) lo) (KA O kf (arrOf st) (lo+n - 1)) with
   |true=>simp![if_true];exact wpS_pure (h n _ (Re.refl _ _) hn1 hn2 hsn)
   |false=>
    simp![Bool.false_eq_true,if_false]
    have hall:∀k,lo<=k->k < lo+n->KA O kf (arrOf st) k=KA O kf (arrOf st) (lo+n - 1):=by intro k a b;exact KeyOrd.kle_antisymm (hsn k (lo+n - 1) a (1:) (1:)) (KeyOrd.kle_trans hr (hsn lo k (Nat.le_refl _) a b))
    have r:Re lo (arrOf st) (mirror (arrOf st) lo (lo+n) ((lo+n - lo) / 2)):=Re.mirror (Nat.le_refl _) (1:);refine wpS_bind (qaA (qfI L hk (r.mem hG) (by have:=r.size;show lo+nrem<=(mirror (arrOf st) lo (lo+n) ((lo+n - lo) / 2)).size;lia) (1:) ?_ (h.step r)));intro i j a b d;show O.kle (KA O kf (mirror (arrOf st) _ _ _) j) (KA O kf (mirror (arrOf st) _ _ _) i);rw[qX (1:) hall,qX (1:) hall]
    by_cases hjn:j < lo+n
    ·rw[hall i (1:) (1:),hall j (1:) hjn];exact KeyOrd.kle_refl _
    ·have:j=lo+n:=by lia
     subst this
     by_cases e:i=lo+n
     ·subst e;exact KeyOrd.kle_refl _
     ·rw[hall i (1:) (1:)];exact KeyOrd.kle_of_klt hlt
  ·rw[if_neg hgt]
   have:n=1:=by lia
   subst this;refine qfI L hk hG hn (1:) ?_ h;intro i j a b d
   by_cases e:i=j
   ·subst e;exact KeyOrd.kle_refl _
   ·have e1:i=lo:=by lia
    have e2:j=lo+1:=by lia
    subst e1 e2;exact KeyOrd.kle_of_klt (-hlt:)
def qjb(L:y4 M A E s O kf U G){st:SortSt}{lo n ok:Nat}{Q:Bool->SortSt->Prop}(hk:kindOf st=U)(hG:∀x∈(arrOf st).toList,G x)(hn:lo+n<=(arrOf st).size)(hok:ok<=n)(hs:Inc O kf (arrOf st) lo (lo+ok))
  (h:∀xs,Re lo (arrOf st) xs->Inc O kf xs lo (lo+n)->Q true (setArr st xs)):wpS M A E s (binarySort' lo n ok) Q st:=by
 rw[binarySort'_eq]
 refine wpS_bind (wpS_mono (wpS_forRange (I:=λk c st'=>c=(none,())/\∃xs,st'=setArr st xs/\Re lo (arrOf st) xs/\Inc O kf xs lo (lo+min k n))
  (Q:=λc st'=>c=(none,())/\∃xs,st'=setArr st xs/\Re lo (arrOf st) xs/\Inc O kf xs lo (lo+n)) ?step ?fin ?init) ?post)
 case post=>rintro c st' ⟨rfl,xs,rfl,r,hs'⟩;exact wpS_pure (h xs r hs')
 case init=>
  refine{rfl,arrOf st,rfl,Re.refl _ _,λi j a b d=>?_}
  by_cases h1:ok=0
  ·have:i=j:=by lia
   subst this;exact KeyOrd.kle_refl _
  ·exact hs i j a b (1:)
 case fin=>
  rintro c st' ⟨hc,xs,rfl,r,hs'⟩;refine{hc,xs,rfl,r,?_}
  rwa[show min (max (max ok 1) n) n=n by lia]at hs'
 case step=>
  rintro k c st' hak hkn ⟨rfl,xs,rfl,r,hs'⟩;rw[show min k n=k by lia]at hs';have hsz:xs.size=(arrOf st).size:=r.size
  refine wpS_bind (wpS_mono (wpS_forRange (I:=λx c st''=>st''=setArr st xs/\∃l u,c=(none,l,u)/\l<=u/\u<=k/\u - l<=k - x/\
    (∀i,i < l->O.kle (KA O kf xs (lo+i)) (KA O kf xs (lo+k)))/\(∀i,u<=i->i < k->O.klt (KA O kf xs (lo+k)) (KA O kf xs (lo+i))))
   (Q:=λc st''=>st''=setArr st xs/\∃l u,c=(none,l,u)/\l<=k/\
    (∀i,i < l->O.kle (KA O kf xs (lo+i)) (KA O kf xs (lo+k)))/\(∀i,l<=i->i < k->O.klt (KA O kf xs (lo+k)) (KA O kf xs (lo+i)))) ?istep ?ifin ?iinit) ?ipost)
  case iinit=>exact{rfl,0,k,rfl,by lia,by lia,by lia,λi hi=>by lia,λi h1 h2=>by lia}
  case ifin=>
   rintro c st'' ⟨rfl,l,u,rfl,a,b,d,e,f⟩
   have:l=u:=by lia
   subst this;exact⟨rfl,l,l,rfl,b,e,f⟩
  case istep=>
   rintro x c st'' _ hxk ⟨rfl,l,u,rfl,a,b,d,e,f⟩;dsimp only
   by_cases hge:l≥u
   ·rw[if_pos hge]
    have:l=u:=by lia
    subst this;exact wpS_pure ⟨rfl,l,l,rfl,b,e,f⟩
   ·rw[if_neg hge];refine wpS_bind (JD L (st:=setArr st xs) hk (r.mem hG) (by show lo+k < xs.size;lia) (by show lo+(l+u) / 2 < xs.size;lia) ?_)
    cases hb:O.blt (KA O kf (arrOf (setArr st xs)) (lo+k)) (KA O kf (arrOf (setArr st xs)) (lo+(l+u) / 2)) with
    |true=>have hb:O.blt (KA O kf xs (lo+k)) (KA O kf xs (lo+(l+u) / 2))=true:=hb;simp![if_true];refine wpS_pure ⟨rfl,l,(l+u) / 2,rfl,by lia,by lia,by lia,e,λi h1 h2=>?_⟩;exact KeyOrd.klt_of_klt_of_kle hb (hs' _ _ (1:) (1:) (1:))
    |false=>have hb:O.blt (KA O kf xs (lo+k)) (KA O kf xs (lo+(l+u) / 2))=false:=hb;simp![Bool.false_eq_true,if_false];refine wpS_pure ⟨rfl,(l+u) / 2+1,u,rfl,by lia,by lia,by lia,λi h1=>?_,f⟩;exact KeyOrd.kle_trans (hs' (lo+i) (lo+(l+u) / 2) (1:) (1:) (1:)) (show O.kle _ _ from hb)
  case ipost=>
   rintro c st'' ⟨rfl,l,u,rfl,hlk,hlo,hhi⟩;show wpS _ _ _ _ (do moveDown' (lo+k) (lo+l);pure (ForInStep.yield (none,()))) _ _;rw[moveDown'_eq];have hks:lo+k < xs.size:=by lia
   refine wpS_bind (wpS_modify (wpS_pure ⟨rfl,_,rfl,r.trans (Re.bubble hks (d:=lo+k - (lo+l)) (1:)),?_⟩));rw[show min (k+1) n=k+1 by lia];intro i j a b d;show O.kle (KA O kf (bubble xs (lo+k) (lo+k - (lo+l))) i) (KA O kf (bubble xs (lo+k) (lo+k - (lo+l))) j);rw[QR hks (1:),QR hks (1:),show lo+k - (lo+k - (lo+l))=lo+l by lia]
   have lo':∀t,lo<=t->t < lo+l->O.kle (KA O kf xs t) (KA O kf xs (lo+k)):=λt h1 h2=>by
    have:=hlo (t - lo) (1:)
    rwa[show lo+(t - lo)=t by lia]at this
   have hi':∀t,lo+l<=t->t < lo+k->O.klt (KA O kf xs (lo+k)) (KA O kf xs t):=λt h1 h2=>by
    have:=hhi (t - lo) (1:) (1:)
    rwa[show lo+(t - lo)=t by lia]at this
   repeat' split
   all_goals first
    | (exfalso;lia)
    | exact KeyOrd.kle_refl _
    | exact lo' _ (1:) (1:)
    | exact KeyOrd.kle_of_klt (hi' _ (1:) (1:))
    | exact hs' _ _ (1:) (1:) (1:)
end
abbrev Pd:=Nat×Nat×Nat
def wrt(a:Array Keyed)(sa:Nat)(l:List (Keyed×Nat)):Array Keyed:=l.foldl (λa (p,j)=>a.setIfInBounds (sa+j) p) a
theorem qaB(sa:Nat):∀(l:List (Keyed×Nat)) (a:Array Keyed),(wrt a sa l).size=a.size
 |[],a=>rfl
 | (p,j)::r,a=>by show(wrt (a.setIfInBounds (sa+j) p) sa r).size=a.size;rw[qaB sa r,Array.size_setIfInBounds]
theorem ZX(sa:Nat):∀(l:List Keyed) (n:Nat) (a:Array Keyed) (k:Nat),sa+n+l.length<=a.size->(wrt a sa (l.zipIdx n))[k]?=if sa+n<=k/\k < sa+n+l.length then l[k - (sa+n)]? else a[k]?
 |[],n,a,k,_=>by rw[if_neg (5:)];rfl
 | p::r,n,a,k,h=>by
  show(wrt (a.setIfInBounds (sa+n) p) sa (r.zipIdx (n+1)))[k]?=_;have h':sa+(n+1)+r.length<=a.size:=by simp at h;lia
  rw[ZX sa r (n+1) _ k (by rw[Array.size_setIfInBounds];exact h')]
  by_cases h1:sa+(n+1)<=k/\k < sa+(n+1)+r.length
  ·rw[if_pos h1,if_pos (by simp;lia)];rw[show k - (sa+n)=(k - (sa+(n+1)))+1 by lia];simp
  ·rw[if_neg h1]
   by_cases h2:k=sa+n
   ·subst h2;rw[if_pos (5:)];simp at h;simp[show sa+n < a.size by lia]
   ·rw[if_neg (by simp;lia)];rw[Array.getElem?_setIfInBounds_ne (1:)]
def mga:Nat->StateT SortSt Sem Bool:=mergeAt'
def mst(st:SortSt)(xs:Array Keyed)(p:Array Pd)(g:Nat):SortSt:=SortSt.mk' (kindOf st) xs p g (failedOf st)
theorem qjc(i:Nat):mga i=(do
 let s<-get
 match (pendingOf s)[i]?,(pendingOf s)[i+1]? with
 |some (sa,na,pw),some (sb,nb,_)=>do
  set (mst s (arrOf s) (((pendingOf s).setIfInBounds i (sa,na+nb,pw)).eraseIdxIfInBounds (i+1)) (gallopOf s))
  let y<-elem' (arrOf s) sb
  let r<-gal false y (arrOf s) sa na 0
  match r with
  |some k=>
   if (na - k == 0)=true then pure true
   else do
    let z<-elem' (arrOf s) (sa+k+(na - k) - 1)
    let r<-gal true z (arrOf s) sb nb (nb - 1)
    match r with
    |some nb=>
     if (nb == 0)=true then pure true
     else do
      let m<-if na - k<=nb then mlo ((arrOf s).extract (sa+k) sb) ((arrOf s).extract sb (sb+nb)) else mhi ((arrOf s).extract (sa+k) sb) ((arrOf s).extract sb (sb+nb))
      modify λs=>setArr s (wrt (arrOf s) (sa+k) m.toList.zipIdx)
      let s<-get
      pure (failedOf s).isNone
    |_=>pure false
  |_=>pure false
 |_,_=>unsupported "internal:list.sort.pending"):=by
 show(get >>= _:StateT SortSt Sem Bool)=_;refine congrArg (λz=>get >>= z) (funext λs=>?_)
 cases e1:(pendingOf s)[i]? with
 |none=>rfl
 |some v=>
  let(sa,na,pw):=v
  cases e2:(pendingOf s)[i+1]? with
  |none=>rfl
  |some u=>
   let(sb,nb,pw2):=u;refine congrArg (λz=>_ >>= z) (funext λ_=>?_);refine congrArg (λz=>_ >>= z) (funext λy=>?_);refine congrArg (λz=>_ >>= z) (funext λr=>?_)
   cases r with
   |none=>rfl
   |some k=>
    show(ite _ _ _:StateT SortSt Sem Bool)=ite _ _ _;refine congrArg (ite _ _) ?_;refine congrArg (λz=>_ >>= z) (funext λz=>?_);refine congrArg (λz=>_ >>= z) (funext λr=>?_)
    cases r with
    |none=>rfl
    |some k=>rfl
section
variable{O:KeyOrd}{kf:Keyed->O.α}{G:Keyed->Prop}
structure Ord(O:KeyOrd)(kf:Keyed->O.α)(lo hi:Nat)(xs ys:Array Keyed):Prop where
 perm:ys.Perm xs
 keep:∀k,(k < lo\/hi<=k)->ys[k]?=xs[k]?
 srt:Srt O kf ys lo hi
def ZZ{a:Array Keyed}{u p i:Nat}(hp:p<=a.size)(hi:i < p - u):(a.extract u p)[i]?=a[u+i]?:=by rw[Array.getElem?_extract];rw[if_pos (1:)]
def qcx{a:Array Keyed}{u p:Nat}(hp:p<=a.size)(h:Srt O kf a u p):Srt O kf (a.extract u p) 0 (a.extract u p).size:=λi j x y _ hij hj e1 e2=>by
 have hs:(a.extract u p).size=p - u:=by rw[Array.size_extract];lia
 rw[ZZ hp (1:)]at e1 e2;exact h _ _ x y (1:) (1:) (1:) e1 e2
def Ord.merged{xs m:Array Keyed}{sa sb e:Nat}(h1:sa<=sb)(h2:sb<=e)(h3:e<=xs.size)(M:Mrg O kf (xs.extract sa sb) (xs.extract sb e) m):Ord O kf sa e xs (wrt xs sa m.toList.zipIdx):=by
 have hms:m.size=e - sa:=by
  have:=M.1.length_eq
  simp at this
  lia
 have get:∀k,(wrt xs sa m.toList.zipIdx)[k]?=if sa<=k/\k < e then m[k - sa]? else xs[k]?:=λk=>by
  have:=ZX sa m.toList 0 xs k (by rw[Array.length_toList];lia)
  rw[this,Array.length_toList,hms]
  by_cases hc:sa<=k/\k < e
  ·rw[if_pos hc,if_pos (1:)];simp
  ·rw[if_neg hc,if_neg (1:)]
 have hsz:(wrt xs sa m.toList.zipIdx).size=xs.size:=qaB _ _ _;refine{?_,λk hk=>by rw[get,if_neg (1:)],λi j x y a b c e1 e2=>?_}
 ·have e1:(wrt xs sa m.toList.zipIdx).toList=xs.toList.take sa++(m.toList++xs.toList.drop e):=by
   apply List.ext_getElem?;intro k;have hl1:(xs.toList.take sa).length=sa:=by simp;lia
   have:(wrt xs sa m.toList.zipIdx).toList[k]?=(wrt xs sa m.toList.zipIdx)[k]?:=by simp
   rw[this,get]
   by_cases c1:k < sa
   ·rw[if_neg (1:),List.getElem?_append_left (1:),List.getElem?_take_of_lt c1];simp
   ·rw[List.getElem?_append_right (1:),hl1]
    by_cases c2:k < e
    ·rw[if_pos (1:),List.getElem?_append_left (by rw[Array.length_toList];lia)];simp
    ·rw[if_neg (1:),List.getElem?_append_right (by rw[Array.length_toList];lia),Array.length_toList,hms,List.getElem?_drop];rw[show e+(k - sa - (e - sa))=k by lia];simp
  have e2:xs.toList=xs.toList.take sa++((xs.extract sa sb).toList++(xs.extract sb e).toList++xs.toList.drop e):=by have a1:=YI xs sa (sb - sa);have a2:=YI xs sb (e - sb);rw[show sa+(sb - sa)=sb by lia]at a1;rw[show sb+(e - sb)=e by lia]at a2;rw[List.append_assoc,a2,a1,List.take_append_drop]
  rw[Array.perm_iff_toList_perm,e1]
  conv=>rhs;rw[e2]
  exact List.Perm.append_left _ (List.Perm.append_right _ M.1)
 ·rw[get,if_pos (1:)]at e1 e2;exact(Srt.of M.2) _ _ x y (Nat.zero_le _) (1:) (1:) e1 e2
end
section
variable{M:Model}{A:Around}{E:PQ}{s:Shared}{O:KeyOrd}{kf:Keyed->O.α}{U:SortKind}{G:Keyed->Prop}
def qjd(L:y4 M A E s O kf U G){st:SortSt}{i sa na pw sb nb pw2:Nat}{Q:Bool->SortSt->Prop}(hk:kindOf st=U)(hf:failedOf st=none)(hG:∀x∈(arrOf st).toList,G x)
  (e1:(pendingOf st)[i]?=some (sa,na,pw)) (e2:(pendingOf st)[i+1]?=some (sb,nb,pw2)) (hsb:sb=sa+na) (pa:0 < na) (pb:0 < nb) (hsz:sb+nb<=(arrOf st).size)
  (s1:Srt O kf (arrOf st) sa sb) (s2:Srt O kf (arrOf st) sb (sb+nb))
  (h:∀xs g,Ord O kf sa (sb+nb) (arrOf st) xs->Q true (mst st xs (((pendingOf st).setIfInBounds i (sa,na+nb,pw)).eraseIdxIfInBounds (i+1)) g)):wpS M A E s (mga i) Q st:=by
 rw[qjc];refine wpS_bind (wpS_get ?_);rw[e1,e2];dsimp only;generalize hst1:mst st (arrOf st) (((pendingOf st).setIfInBounds i (sa,na+nb,pw)).eraseIdxIfInBounds (i+1)) (gallopOf st)=st1
 have setS:∀{Q':Unit->SortSt->Prop},Q' () st1->wpS M A E s (set st1:StateT SortSt Sem PUnit) Q' st:=λhq=>by unfold wpS;rw[StateT.run_set];exact wpAny_pure ⟨rfl,hq⟩
 refine wpS_bind (setS ?_);have hk1:kindOf st1=U:=by rw[<-hst1];exact hk
 subst hsb;let(y,ey,my):=qK (show sa+na < (arrOf st).size by lia);refine wpS_bind (qq ey (wpS_bind (yB L hk1 (hG y my) hG (λi' j' x y a b c=>s1 i' j' x y a b c) (1:) (1:) λk k1 ka kb=>?_)));dsimp only
 have ka':∀t x,sa<=t->t < sa+k->(arrOf st)[t]?=some x->le O kf x y:=λt x a b ex=>by
  have:=ka (t - sa) x (1:) (by rw[show sa+(t - sa)=t by lia];exact ex)
  unfold pby at this;simp![Bool.false_eq_true,if_false,Bool.not_eq_true']at this;exact qW this
 have kb':∀t x,sa+k<=t->t < sa+na->(arrOf st)[t]?=some x->le O kf y x:=λt x a b ex=>by
  have:=kb (t - sa) x (1:) (1:) (by rw[show sa+(t - sa)=t by lia];exact ex)
  unfold pby at this;simp![Bool.false_eq_true,if_false,Bool.not_eq_false']at this;exact le_of_lt this
 have yb:∀t x,sa+na<=t->t < sa+na+nb->(arrOf st)[t]?=some x->le O kf y x:=λt x a b ex=>s2 (sa+na) t y x (Nat.le_refl _) a b ey ex
 by_cases hna:na - k=0
 ·rw[if_pos (-hna:)];refine wpS_pure ?_;rw[<-hst1];refine h _ _ ⟨Array.Perm.refl _,λ_ _=>rfl,λi' j' x z a b c f1 f2=>?_⟩
  by_cases hi:i' < sa+na
  ·by_cases hj:j' < sa+na
   ·exact s1 i' j' x z a b hj f1 f2
   ·exact qx (ka' i' x a (1:) f1) (yb j' z (1:) (1:) f2)
  ·exact s2 i' j' x z (1:) b (1:) f1 f2
 ·rw[if_neg (-hna:)];let(z,ez,mz):=qK (show sa+k+(na - k) - 1 < (arrOf st).size by lia);have ez':(arrOf st)[sa+na - 1]?=some z:=by rw[show sa+na - 1=sa+k+(na - k) - 1 by lia];exact ez
  refine wpS_bind (qq ez (wpS_bind (yB L hk1 (hG z mz) hG (λi' j' x y a b c=>s2 i' j' x y a b c) (1:) (1:) λu u1 ua ub=>?_)));dsimp only
  have ua':∀t x,sa+na<=t->t < sa+na+u->(arrOf st)[t]?=some x->le O kf x z:=λt x a b ex=>by
   have:=ua (t - (sa+na)) x (1:) (by rw[show sa+na+(t - (sa+na))=t by lia];exact ex)
   unfold pby at this;simp![if_true]at this;exact le_of_lt this
  have ub':∀t x,sa+na+u<=t->t < sa+na+nb->(arrOf st)[t]?=some x->le O kf z x:=λt x a b ex=>by
   have:=ub (t - (sa+na)) x (1:) (1:) (by rw[show sa+na+(t - (sa+na))=t by lia];exact ex)
   unfold pby at this;simp![if_true]at this;exact qW this
  have za:∀t x,sa<=t->t < sa+na->(arrOf st)[t]?=some x->le O kf x z:=λt x a b ex=>s1 t (sa+na - 1) x z a (1:) (1:) ex ez'
  by_cases hu:u=0
  ·rw[if_pos (-hu:)];refine wpS_pure ?_;rw[<-hst1];refine h _ _ ⟨Array.Perm.refl _,λ_ _=>rfl,λi' j' x w a b c f1 f2=>?_⟩
   by_cases hi:i' < sa+na
   ·by_cases hj:j' < sa+na
    ·exact s1 i' j' x w a b hj f1 f2
    ·exact qx (za i' x a hi f1) (ub' j' w (1:) (1:) f2)
   ·exact s2 i' j' x w (1:) b (1:) f1 f2
  ·rw[if_neg (-hu:)];have sxa:((arrOf st).extract (sa+k) (sa+na)).size=na - k:=by rw[Array.size_extract];lia
   have sxb:((arrOf st).extract (sa+na) (sa+na+u)).size=u:=by rw[Array.size_extract];lia
   have T:Two O kf G ((arrOf st).extract (sa+k) (sa+na)) ((arrOf st).extract (sa+na) (sa+na+u)):=by
    refine{λx hx=>?_,λx hx=>?_,qcx (1:) (λi' j' x y a b c=>s1 i' j' x y (1:) b c),qcx (1:) (λi' j' x y a b c=>s2 i' j' x y a b (1:)),by lia,by lia,λx w ew hx=>?_,λx w ex hw=>?_}
    ·let(t,_,_,et):=zq hx;exact hG x (by let(h1,h2):=Array.getElem?_eq_some_iff.mp et;rw[<-h2];simp)
    ·let(t,_,_,et):=zq hx;exact hG x (by let(h1,h2):=Array.getElem?_eq_some_iff.mp et;rw[<-h2];simp)
    ·rw[ZZ (1:) (1:),Nat.add_zero,ey]at ew;cases ew;let(t,t1,t2,et):=zq hx;exact kb' t x t1 t2 et
    ·rw[sxa,ZZ (1:) (1:),show sa+k+(na - k - 1)=sa+na - 1 by lia,ez']at ex;cases ex;let(t,t1,t2,et):=zq hw;exact ua' t w t1 t2 et
   have post:∀m g,Mrg O kf ((arrOf st).extract (sa+k) (sa+na)) ((arrOf st).extract (sa+na) (sa+na+u)) m->
     wpS M A E s (do modify λs=>setArr s (wrt (arrOf s) (sa+k) m.toList.zipIdx);let s<-get;pure (failedOf s).isNone) Q (jm st1 g):=λm g hm=>by
    refine wpS_bind (wpS_modify (wpS_bind (wpS_get (wpS_pure ?_))));have o1:=Ord.merged (xs:=arrOf st) (1:) (1:) (1:) hm
    have e3:setArr (jm st1 g) (wrt (arrOf (jm st1 g)) (sa+k) m.toList.zipIdx)=mst st (wrt (arrOf st) (sa+k) m.toList.zipIdx) (((pendingOf st).setIfInBounds i (sa,na+nb,pw)).eraseIdxIfInBounds (i+1)) g:=by rw[<-hst1];rfl
    have e4:(failedOf (setArr (jm st1 g) (wrt (arrOf (jm st1 g)) (sa+k) m.toList.zipIdx))).isNone=true:=by rw[e3];show(failedOf st).isNone=true;rw[hf];rfl
    rw[e4,e3];refine h _ g ⟨o1.perm,λt ht=>o1.keep t (1:),λi' j' x w a b c f1 f2=>?_⟩
    have mid:∀t x,sa+k<=t->t < sa+na+u->(wrt (arrOf st) (sa+k) m.toList.zipIdx)[t]?=some x->∃r,sa+k<=r/\r < sa+na+u/\(arrOf st)[r]?=some x:=λt x a b ex=>by
     have hmem:x∈m.toList:=by
      have hms:m.size=na - k+u:=by
       have:=hm.1.length_eq
       simp at this
       lia
      have:=ZX (sa+k) m.toList 0 (arrOf st) t (by rw[Array.length_toList];lia)
      rw[if_pos (by rw[Array.length_toList];lia)]at this;rw[this]at ex;exact List.mem_of_getElem? ex
     rcases List.mem_append.mp (hm.1.mem_iff.mp hmem) with q|q
     ·let(r,r1,r2,er):=zq q;exact{r,r1,by lia,er}
     ·let(r,r1,r2,er):=zq q;exact{r,by lia,r2,er}
    by_cases hi1:i' < sa+k
    ·rw[o1.keep i' (.inl hi1)]at f1;have hx:=ka' i' x a hi1 f1
     by_cases hj1:j' < sa+k
     ·rw[o1.keep j' (.inl hj1)]at f2;exact s1 i' j' x w a b (1:) f1 f2
     ·by_cases hj2:j' < sa+na+u
      ·let(r,r1,r2,er):=mid j' w (1:) hj2 f2
       by_cases hr:r < sa+na
       ·exact s1 i' r x w a (1:) hr f1 er
       ·exact qx hx (yb r w (1:) (1:) er)
      ·rw[o1.keep j' (.inr (1:))]at f2;exact qx hx (yb j' w (1:) (1:) f2)
    ·by_cases hi2:i' < sa+na+u
     ·by_cases hj2:j' < sa+na+u
      ·exact o1.srt i' j' x w (1:) b hj2 f1 f2
      ·rw[o1.keep j' (.inr (1:))]at f2;let(r,r1,r2,er):=mid i' x (1:) hi2 f1
       by_cases hr:r < sa+na
       ·exact qx (za r x (1:) hr er) (ub' j' w (1:) (1:) f2)
       ·exact s2 r j' x w (1:) (1:) (1:) er f2
     ·rw[o1.keep i' (.inr (1:))]at f1;rw[o1.keep j' (.inr (1:))]at f2;exact s2 i' j' x w (1:) b (1:) f1 f2
   by_cases hle:na - k<=u
   ·rw[if_pos hle];exact wpS_bind (qi5 L T hk1 post)
   ·rw[if_neg hle];exact wpS_bind (qi9 L T hk1 post)
end
section
variable{O:KeyOrd}{kf:Keyed->O.α}{G:Keyed->Prop}
def j0(O:KeyOrd)(kf:Keyed->O.α)(xs:Array Keyed):List Pd->Nat->Nat->Prop
 |[],a,b=>a=b
 | (s,n,_)::r,a,b=>s=a/\0 < n/\Srt O kf xs s (s+n)/\j0 O kf xs r (s+n) b
theorem j0.le{xs:Array Keyed}:∀{p:List Pd} {a b:Nat},j0 O kf xs p a b->a+p.length<=b
 |[],a,b,h=>Nat.le_of_eq h
 | (s,n,w)::r,a,b,h=>by
  let(rfl,h1,_,h2):=h
  have:=j0.le h2
  simp
  lia
theorem j0.app{xs:Array Keyed}:∀{p q:List Pd} {a c:Nat},j0 O kf xs (p++q) a c↔∃b,j0 O kf xs p a b/\j0 O kf xs q b c
 |[],q,a,c=>{λh=>⟨a,rfl,h⟩,λ⟨b,h1,h2⟩=>by have h1:a=b:=h1;rw[h1];exact h2}
 | (s,n,w)::r,q,a,c=>by
  constructor
  ·rintro⟨h1,h2,h3,h4⟩;let(b,h5,h6):=j0.app.mp h4;exact{b,⟨h1,h2,h3,h5⟩,h6}
  ·rintro⟨b,⟨h1,h2,h3,h5⟩,h6⟩;exact{h1,h2,h3,j0.app.mpr ⟨b,h5,h6⟩}
def Srt.congr{xs ys:Array Keyed}{lo hi:Nat}(h:Srt O kf xs lo hi)(k:∀t,lo<=t->t < hi->ys[t]?=xs[t]?):Srt O kf ys lo hi:=λi j x y a b c e1 e2=>by rw[k i a (1:)]at e1;rw[k j (1:) c]at e2;exact h i j x y a b c e1 e2
theorem j0.congr{xs ys:Array Keyed}:∀{p:List Pd} {a b:Nat},j0 O kf xs p a b->(∀t,a<=t->t < b->ys[t]?=xs[t]?)->j0 O kf ys p a b
 |[],a,b,h,_=>h
 | (s,n,w)::r,a,b,h,k=>by
  let(rfl,h1,h2,h3):=h
  have:=j0.le h3
  exact{rfl,h1,h2.congr λt c d=>k t c (1:),j0.congr h3 λt c d=>k t (1:) d}
def qje{p:Array Pd}{i:Nat}(h:i+1 < p.size):∃pre x y post,p.toList=pre++x::y::post/\pre.length=i/\p[i]?=some x/\p[i+1]?=some y:=by
 have h1:i < p.toList.length:=by rw[Array.length_toList];lia
 have h2:i+1 < p.toList.length:=by rw[Array.length_toList];lia
 refine{p.toList.take i,p.toList[i],p.toList[i+1],p.toList.drop (i+2),?_,by simp;lia,by simp[show i < p.size by lia],by simp[h]}
 conv=>lhs;rw[<-List.take_append_drop i p.toList]
 rw[List.drop_eq_getElem_cons h1,List.drop_eq_getElem_cons h2]
def Ye{p:Array Pd}{pre post:List Pd}{x y v:Pd}(e:p.toList=pre++x::y::post):((p.setIfInBounds pre.length v).eraseIdxIfInBounds (pre.length+1)).toList=pre++v::post:=by rw[Array.toList_eraseIdxIfInBounds,Array.toList_setIfInBounds,e];rw[List.set_append_right _ _ (Nat.le_refl _),Nat.sub_self,List.set_cons_zero,List.eraseIdx_append_of_length_le (1:)];simp
structure Good(O:KeyOrd)(kf:Keyed->O.α)(U:SortKind)(a0:Array Keyed)(lo:Nat)(st:SortSt):Prop where
 kind:kindOf st=U
 ok:failedOf st=none
 perm:(arrOf st).Perm a0
 runs:j0 O kf (arrOf st) (pendingOf st).toList 0 lo
theorem j0.same{xs:Array Keyed}:∀{p q:List Pd} {a b:Nat},p.map (λv=>(v.1,v.2.1))=q.map (λv=>(v.1,v.2.1))->j0 O kf xs p a b->j0 O kf xs q a b
 |[],[],_,_,_,h=>h
 | [],_::_,_,_,e,_=>by simp at e
 | _::_,[],_,_,e,_=>by simp at e
 | (s,n,w)::r,(s',n',w')::r',a,b,e,h=>by simp at e;let((rfl,rfl),e):=e;let(h1,h2,h3,h4):=h;exact{h1,h2,h3,j0.same (-e:) h4}
def Good.push{U:SortKind}{a0:Array Keyed}{lo n:Nat}{st:SortSt}(g:Good O kf U a0 lo st)(hs:Srt O kf (arrOf st) lo (lo+n))(hn:1<=n):Good O kf U a0 (lo+n) (setPending st ((pendingOf st).push (lo,n,0))):=
 ⟨g.kind,g.ok,g.perm,by show j0 O kf (arrOf st) ((pendingOf st).push (lo,n,0)).toList 0 (lo+n);rw[Array.toList_push];exact j0.app.mpr ⟨lo,g.runs,rfl,hn,hs,rfl⟩⟩
def Good.pow{U:SortKind}{a0:Array Keyed}{lo:Nat}{st:SortSt}(g:Good O kf U a0 lo st)(pw:Nat):Good O kf U a0 lo (setPending st ((pendingOf st).modify ((pendingOf st).size - 1) λx=>(x.1,x.2.1,pw))):=
 ⟨g.kind,g.ok,g.perm,by
  show j0 O kf (arrOf st) ((pendingOf st).modify ((pendingOf st).size - 1) λx=>(x.1,x.2.1,pw)).toList 0 lo;refine j0.same ?_ g.runs;rw[Array.toList_modify];apply List.ext_getElem?;intro k;rw[List.getElem?_map,List.getElem?_map,List.getElem?_modify]
  cases (pendingOf st).toList[k]? with
  |none=>simp
  |some v=>simp;split<;>exact⟨rfl,rfl⟩⟩
def Good.mem{U:SortKind}{a0:Array Keyed}{lo:Nat}{st:SortSt}(g:Good O kf U a0 lo st)(h:∀x∈a0.toList,G x):∀x∈(arrOf st).toList,G x:=λx hx=>h x ((Array.perm_iff_toList_perm.mp g.perm).mem_iff.mp hx)
def Good.size{U:SortKind}{a0:Array Keyed}{lo:Nat}{st:SortSt}(g:Good O kf U a0 lo st):(arrOf st).size=a0.size:=g.perm.size_eq
end
section
variable{M:Model}{A:Around}{E:PQ}{s:Shared}{O:KeyOrd}{kf:Keyed->O.α}{U:SortKind}{G:Keyed->Prop}{a0:Array Keyed}
def qcy(L:y4 M A E s O kf U G)(h0:∀x∈a0.toList,G x){st:SortSt}{lo i:Nat}{Q:Bool->SortSt->Prop}(g:Good O kf U a0 lo st)(hlo:lo<=a0.size)(hi:i+1 < (pendingOf st).size)
  (h:∀st',Good O kf U a0 lo st'->(pendingOf st').size+1=(pendingOf st).size->(∀k,lo<=k->(arrOf st')[k]?=(arrOf st)[k]?)->Q true st'):wpS M A E s (mergeAt' i) Q st:=by
 let(pre,(sa,na,pw),(sb,nb,pw2),post,e,rfl,e1,e2):=qje hi;have hr:=g.runs;rw[e]at hr;let(b,r1,rfl,pa,s1,r2,pb,s2,r3):=j0.app.mp hr;have l3:=j0.le r3;have hz:=g.size;refine qjd L g.kind g.ok (g.mem h0) e1 e2 r2 pa pb (1:) (by rw[r2];exact s1) (by rw[r2]at s2 ⊢;exact s2) λxs gl o=>h _ ⟨g.kind,g.ok,o.perm.trans g.perm,?_⟩ ?_ (λk hk=>o.keep k (.inr (1:)))
 ·show j0 O kf xs _ 0 lo;show j0 O kf xs (((pendingOf st).setIfInBounds pre.length (sa,na+nb,pw)).eraseIdxIfInBounds (pre.length+1)).toList 0 lo;rw[Ye e];subst r2;refine j0.app.mpr ⟨sa,r1.congr λt a b=>o.keep t (.inl b),rfl,by lia,?_,?_⟩
  ·have:=o.srt
   rwa[Nat.add_assoc]at this
  ·rw[<-Nat.add_assoc];exact r3.congr λt a b=>o.keep t (.inr a)
 ·show(((pendingOf st).setIfInBounds pre.length (sa,na+nb,pw)).eraseIdxIfInBounds (pre.length+1)).size+1=(pendingOf st).size;rw[<-Array.length_toList,Ye e,<-Array.length_toList,e];simp
  lia
def qgT(L:y4 M A E s O kf U G)(h0:∀x∈a0.toList,G x){st:SortSt}{Q:Unit->SortSt->Prop}(hk:kindOf st=U)(hf:failedOf st=none)(ha:arrOf st=a0)(hp:pendingOf st=#[])
  (h:∀st',(arrOf st').Perm a0->failedOf st'=none->Srt O kf (arrOf st') 0 a0.size->Q () st'):wpS M A E s sortRuns' Q st:=by
 rw[sortRuns'_eq];refine wpS_bind (wpS_get ?_);dsimp only;rw[ha];have g0:Good O kf U a0 0 st:={hk,hf,by rw[ha],by rw[hp];rfl}
 refine wpS_bind (wpS_mono (wpS_forRange
  (I:=λx c st'=>∃lo,c=(none,lo)/\lo<=a0.size/\x<=lo/\Good O kf U a0 lo st')
  (Q:=λc st'=>c=(none,a0.size)/\Good O kf U a0 a0.size st') ?step ?fin ⟨0,rfl,Nat.zero_le _,Nat.zero_le _,g0⟩) ?post)
 case fin=>
  rintro c st' ⟨lo,rfl,h1,h2,g⟩
  have:lo=a0.size:=by lia
  subst this;exact⟨rfl,g⟩
 case step=>
  rintro x c st' _ hx ⟨lo,rfl,h1,h2,g⟩;dsimp only
  by_cases hge:lo≥a0.size
  ·rw[if_pos hge]
   have:lo=a0.size:=by lia
   subst this;exact wpS_pure ⟨rfl,g⟩
  ·rw[if_neg hge];have hz:=g.size;refine wpS_bind (ql5 L g.kind (g.mem h0) (1:) (1:) λm xs r m1 m2 im=>?_);dsimp only;have g1:Good O kf U a0 lo (setArr st' xs):={g.kind,g.ok,r.perm.trans g.perm,g.runs.congr λt _ b=>r.keep t b};have hz1:xs.size=a0.size:=r.size.trans hz
   by_cases hm:m < minRun' a0.size a0.size 0
   ·rw[if_pos hm];refine wpS_bind (wpS_lift (wpAny_rule ⟨rfl,?_⟩));refine wpS_bind (qjb L (st:=setArr st' xs) g.kind (g1.mem h0) (by show _<=xs.size;lia) (1:) im λys r2 im2=>?_);simp![Bool.not_true,Bool.false_eq_true,if_false];have g2:Good O kf U a0 lo (setArr (setArr st' xs) ys):={g.kind,g.ok,r2.perm.trans g1.perm,g1.runs.congr λt _ b=>r2.keep t b};have s2:Srt O kf ys lo (lo+(min (a0.size - lo) (minRun' a0.size a0.size 0))):=im2.srt;have n1:1<=(min (a0.size - lo) (minRun' a0.size a0.size 0)):=by lia
    have n2:lo+(min (a0.size - lo) (minRun' a0.size a0.size 0))<=a0.size:=by lia
    refine wpS_bind (wpS_get ?_)
    cases hb:(pendingOf (setArr (setArr st' xs) ys)).back? with
    |none=>dsimp only;exact wpS_bind (wpS_modify (wpS_pure ⟨lo+(min (a0.size - lo) (minRun' a0.size a0.size 0)),rfl,n2,by lia,g2.push s2 n1⟩))
    |some v=>
     let(v1,v2,v3):=v;dsimp only
     refine wpS_bind (wpS_mono (wpS_forRange (I:=λ_ c st3=>c=(none,())/\Good O kf U a0 lo st3/\Srt O kf (arrOf st3) lo (lo+(min (a0.size - lo) (minRun' a0.size a0.size 0))))
      (Q:=λc st3=>c=(none,())/\Good O kf U a0 lo st3/\Srt O kf (arrOf st3) lo (lo+(min (a0.size - lo) (minRun' a0.size a0.size 0)))) ?_ (λ_ _ hh=>hh) ⟨rfl,g2,s2⟩) ?_)
     ·rintro y c st3 _ _ ⟨rfl,g3,s3⟩;refine wpS_bind (wpS_get ?_)
      by_cases hp:(pendingOf st3).size > 1
      ·rw[if_pos hp]
       cases hv:(pendingOf st3)[(pendingOf st3).size - 2]? with
       |none=>
        exfalso
        have:=Array.getElem?_eq_none_iff.mp hv
        lia
       |some u=>
        let(u1,u2,u3):=u;dsimp only
        by_cases ho:u3<=power' a0.size (2 * v1+v2) (2 * v1+v2+v2+(min (a0.size - lo) (minRun' a0.size a0.size 0))) a0.size
        ·rw[if_pos ho];exact wpS_pure ⟨rfl,g3,s3⟩
        ·rw[if_neg ho];refine wpS_bind (qcy L h0 g3 h1 (1:) λst4 g4 _ k4=>?_);simp![Bool.not_true,Bool.false_eq_true,if_false];exact wpS_pure ⟨rfl,g4,s3.congr λt a _=>k4 t a⟩
      ·rw[if_neg hp];exact wpS_pure ⟨rfl,g3,s3⟩
     ·rintro c st3 ⟨rfl,g3,s3⟩;dsimp only;exact wpS_bind (wpS_modify (wpS_bind (wpS_modify (wpS_pure ⟨lo+(min (a0.size - lo) (minRun' a0.size a0.size 0)),rfl,n2,by lia,(g3.pow _).push s3 n1⟩))))
   ·rw[if_neg hm];have g2:=g1;have s2:Srt O kf xs lo (lo+m):=im.srt;have n1:1<=m:=m1;have n2:lo+m<=a0.size:=by lia
    refine wpS_bind (wpS_get ?_)
    cases hb:(pendingOf (setArr st' xs)).back? with
    |none=>dsimp only;exact wpS_bind (wpS_modify (wpS_pure ⟨lo+m,rfl,n2,by lia,g2.push s2 n1⟩))
    |some v=>
     let(v1,v2,v3):=v;dsimp only
     refine wpS_bind (wpS_mono (wpS_forRange (I:=λ_ c st3=>c=(none,())/\Good O kf U a0 lo st3/\Srt O kf (arrOf st3) lo (lo+m))
      (Q:=λc st3=>c=(none,())/\Good O kf U a0 lo st3/\Srt O kf (arrOf st3) lo (lo+m)) ?_ (λ_ _ hh=>hh) ⟨rfl,g2,s2⟩) ?_)
     ·rintro y c st3 _ _ ⟨rfl,g3,s3⟩;refine wpS_bind (wpS_get ?_)
      by_cases hp:(pendingOf st3).size > 1
      ·rw[if_pos hp]
       cases hv:(pendingOf st3)[(pendingOf st3).size - 2]? with
       |none=>
        exfalso
        have:=Array.getElem?_eq_none_iff.mp hv
        lia
       |some u=>
        let(u1,u2,u3):=u;dsimp only
        by_cases ho:u3<=power' a0.size (2 * v1+v2) (2 * v1+v2+v2+m) a0.size
        ·rw[if_pos ho];exact wpS_pure ⟨rfl,g3,s3⟩
        ·rw[if_neg ho];refine wpS_bind (qcy L h0 g3 h1 (1:) λst4 g4 _ k4=>?_);simp![Bool.not_true,Bool.false_eq_true,if_false];exact wpS_pure ⟨rfl,g4,s3.congr λt a _=>k4 t a⟩
      ·rw[if_neg hp];exact wpS_pure ⟨rfl,g3,s3⟩
     ·rintro c st3 ⟨rfl,g3,s3⟩;dsimp only;exact wpS_bind (wpS_modify (wpS_bind (wpS_modify (wpS_pure ⟨lo+m,rfl,n2,by lia,(g3.pow _).push s3 n1⟩))))
 case post=>
  rintro c st1 ⟨rfl,g1⟩;dsimp only
  refine wpS_bind (wpS_mono (wpS_forRange (I:=λx c st2=>c=(none,())/\Good O kf U a0 a0.size st2/\((pendingOf st2).size<=1\/(pendingOf st2).size+x<=a0.size))
   (Q:=λc st2=>c=(none,())/\Good O kf U a0 a0.size st2/\(pendingOf st2).size<=1) ?_ ?_ ⟨rfl,g1,.inr ?_⟩) ?_)
  ·rintro x c st2 _ hx ⟨rfl,g2,hz⟩;refine wpS_bind (wpS_get ?_)
   by_cases hp:(pendingOf st2).size<=1
   ·rw[if_pos hp];exact wpS_pure ⟨rfl,g2,hp⟩
   ·rw[if_neg hp]
    have go:∀i,i+1 < (pendingOf st2).size->wpS M A E s (mergeAt' i) (λr st3=>r=true/\Good O kf U a0 a0.size st3/\(pendingOf st3).size+(x+1)<=a0.size) st2:=λi hi=>qcy L h0 g2 (Nat.le_refl _) hi λst3 g3 e3 _=>{rfl,g3,by lia}
    refine wpS_bind (wpS_mono (go _ ?_) λr st3 hr=>?_)
    ·have hite:∀(c:Prop) [Decidable c],(if c then (pendingOf st2).size - 2 - 1 else (pendingOf st2).size - 2)+1 < (pendingOf st2).size:=λc _=>by split<;>lia
     exact hite _
    ·let(rfl,g3,e3):=hr;simp![Bool.not_true,Bool.false_eq_true,if_false];exact wpS_pure ⟨rfl,g3,.inr e3⟩
  ·rintro c st2 ⟨rfl,g2,hz⟩;exact{rfl,g2,by lia}
  ·have:=j0.le g1.runs
   rw[Array.length_toList]at this
   lia
  ·rintro c st2 ⟨rfl,g2,hz⟩;dsimp only;refine wpS_pure (h st2 g2.perm g2.ok ?_);have hr:=g2.runs;have hl:(pendingOf st2).toList.length<=1:=by rw[Array.length_toList];exact hz
   match hq:(pendingOf st2).toList,hl,hr with
   |[],_,hr=>
    have hr:0=a0.size:=hr;intro i j x y _ _ hj
    lia
   |[(u1,u2,u3)],_,hr=>let(rfl,_,sr,e):=hr;have e:0+u2=a0.size:=e;rw[<-e];exact sr
end
section
variable{prog:Program}{w:World}{A:Around}{E:PQ}{s:Shared}{O:KeyOrd}{kf:Keyed->O.α}{U:SortKind}
def qcz(s s1:Shared):Prop:=∀b o,s.heap.get? b=some o->s1.heap.get? b=some o
structure Sorts(prog:Program)(w:World)(s:Shared)(vs:List Value)(O:KeyOrd)(kf:Keyed->O.α)(U:SortKind):Prop where
 kind:2<=vs.length->∀(A:Around) (E:PQ) (s1:Shared) (Q:SortKind->Shared->Prop),qcz s s1->Q U s1->wpAny (model prog w) A (keyKind' vs.toArray) Q E s1
 lt:∀(A:Around) (E:PQ) (s1:Shared),qcz s s1->y4 (model prog w) A E s1 O kf U (λx=>x∈(pairsOf vs).toList)
def qcA{s0:Shared}{a:Addr}{vs:List Value}{n:Nat}{P:PySem.Fin->Shared->Prop}(S:Sorts prog w s0 vs O kf U)(ho:s.heap.get? a=some (seqObj "list" vs.toArray n))(hsz:vs.length<=sizeLine)
  (hg:∀b o,s0.heap.get? b=some o->s.heap.get? b=some o/\b≠a)
  (h:∀st':SortSt,(arrOf st').Perm (pairsOf vs)->Srt O kf (arrOf st') 0 (pairsOf vs).size->P (.done (.ret .none)) { s with heap:=sortedHeap s.heap a vs ((arrOf st').map (·.2)) }) :
  wpAny (model prog w) A (Builtin.«list.sort» ⟨[.ref a],[]⟩) P E s:=by
 rw[list_sort_plain];have ha:a < s.heap.objs.size:=Heap.lt_size ho;have hv:vs.toArray.size=vs.length:=by simp
 refine wpAny_bind (listItems_at ho rfl (wpAny_bind (listUpdate_at ho rfl ?_ (by rw[hv];exact hsz) (Nat.zero_le _))));let(n1,ho1):∃n1,(s.heap.update a (Obj.mapSeq λ_=>#[])).get? a=some (seqObj "list" #[] n1):={_,get?_update_seq ho (λ_=>#[])};refine wpAny_bind (seqEpoch_at ho1 rfl (wpAny_bind (wpAny_newTuple ?_ (-hsz:))));refine wpAny_bind (wpAny_newList (wpAny_holding ?_) (Nat.zero_le _));generalize hh:(((s.heap.update a (Obj.mapSeq λ_=>#[])).push (seqObj "tuple" vs.toArray 0)).push (seqObj "list" #[] 0))=h6
 have ho6:h6.get? a=some (seqObj "list" #[] n1):=by rw[<-hh];exact Heap.get?_push_of_some _ (Heap.get?_push_of_some _ ho1)
 have grown:qcz s0 { s with heap:=h6 }:=λb o e=>by let(e1,ne):=hg b o e;show h6.get? b=some o;rw[<-hh];exact Heap.get?_push_of_some _ (Heap.get?_push_of_some _ (by rw[Heap.get?_update_ne _ _ _ _ ne];exact e1))
 have fin:∀st':SortSt,(arrOf st').Perm (pairsOf vs)->Srt O kf (arrOf st') 0 (pairsOf vs).size->P (.done (.ret .none)) { s with heap:=h6.update a (Obj.mapSeq λ_=>(arrOf st').map (·.2)) }:=λst' a1 a2=>by
  have:=h st' a1 a2
  unfold sortedHeap at this;rw[hh]at this;exact this
 have small:∀st':SortSt,(arrOf st').Perm (pairsOf vs)->((arrOf st').map (·.2)).size<=sizeLine+1:=λst' hp=>by
  rw[Array.size_map,hp.size_eq,pairsOf_size]
  lia
 show wpAny (model prog w) A _ P E { s with heap:=h6 };dsimp only
 by_cases h2:vs.toArray.size < 2
 ·rw[if_pos h2,if_pos h2];refine wpAny_bind (wpAny_pure ?_);rw[StateT.run_pure];refine wpAny_bind (wpAny_pure ?_);dsimp only;refine wpAny_bind (seqEpoch_at ho6 rfl ?_);refine wpAny_bind (listUpdate_at ho6 rfl ?_ (Nat.zero_le _) (small (SortSt.mk' general' (vs.toArray.zip vs.toArray) #[] 7 none) (Array.Perm.refl _)));simp![bne_self_eq_false,Bool.false_eq_true,if_false];refine wpAny_pure (fin (SortSt.mk' general' (vs.toArray.zip vs.toArray) #[] 7 none) (Array.Perm.refl _) ?_);intro i j x y _ b c d e
  have:i=j:=by rw[pairsOf_size]at c;lia
  subst this;rw[d]at e;cases e;exact KeyOrd.kle_refl _
 ·rw[if_neg h2,if_neg h2];refine wpAny_bind (S.kind (1:) A E _ _ grown ?_)
  refine wpAny_bind (wpAny_mono (qgT (S.lt A E _ grown) (a0:=pairsOf vs) (st:=SortSt.mk' U (vs.toArray.zip vs.toArray) #[] 7 none) (λx hx=>hx) rfl rfl rfl rfl
   (Q:=λ_ st'=>(arrOf st').Perm (pairsOf vs)/\failedOf st'=none/\Srt O kf (arrOf st') 0 (pairsOf vs).size) λst' a1 a2 a3=>⟨a1,a2,a3⟩) ?_ λ_ _ e=>e)
  rintro⟨⟨⟩,st'⟩ s' ⟨rfl,hp,hf,hs⟩;dsimp only;refine wpAny_bind (seqEpoch_at ho6 rfl (wpAny_bind (listUpdate_at ho6 rfl ?_ (Nat.zero_le _) (small st' hp))));rw[hf];simp![bne_self_eq_false,Bool.false_eq_true,if_false];exact wpAny_pure (fin st' hp hs)
def qbw{l:Addr}{vs:List Value}{Q:PQ}(S:Sorts prog w s vs O kf U)(hl:s.heap.IsList l vs.toArray)(hsz:vs.length<=sizeLine)
  (h:∀st':SortSt,(arrOf st').Perm (pairsOf vs)->Srt O kf (arrOf st') 0 (pairsOf vs).size->Q (.ref (s.heap.objs.size+1)) { s with heap:=sortedAll s.heap vs ((arrOf st').map (·.2)) }) :
  wpAny (model prog w) A (call (.builtin "sorted") [.ref l]) Q E s:=by
 refine Calls.call_function_entry kind_sorted plain_sorted entry_sorted (args_sorted1 _) ?_;unfold Builtin.«sorted»;refine wpAny_bind (m:=checkCount "sorted" 1 1 _) (wpAny_pure (wpAny_bind (collect_list hl ?_ hsz)));refine wpAny_bind (wpAny_newList ?_ hsz);have hz:((s.heap.push (seqObj "list" #[] 0)).update s.heap.objs.size (Obj.mapSeq (· ++ vs.toArray))).objs.size=s.heap.objs.size+1:=by rw[Heap.size_update,size_push']
 show wpAny _ _ _ _ _ { s with heap:=((s.heap.push (seqObj "list" #[] 0)).update s.heap.objs.size (Obj.mapSeq (· ++ vs.toArray))).push (seqObj "list" vs.toArray 0) };rw[hz];generalize hh:((s.heap.push (seqObj "list" #[] 0)).update s.heap.objs.size (Obj.mapSeq (· ++ vs.toArray))).push (seqObj "list" vs.toArray 0)=h6
 have hoL:h6.get? (s.heap.objs.size+1)=some (seqObj "list" vs.toArray 0):=by rw[<-hh,<-hz];exact Heap.get?_push_size _ rfl
 have old:∀b o,s.heap.get? b=some o->h6.get? b=some o/\b≠s.heap.objs.size+1:=λb o e=>by have hlt:b < s.heap.objs.size:=Heap.lt_size e;refine{?_,Nat.ne_of_lt (Nat.lt_succ_of_lt hlt)};rw[<-hh];refine Heap.get?_push_of_some _ ?_;rw[Heap.get?_update_ne _ _ _ _ (Nat.ne_of_lt hlt)];exact Heap.get?_push_of_some _ e
 have hr:∀st':SortSt,(arrOf st').Perm (pairsOf vs)->Srt O kf (arrOf st') 0 (pairsOf vs).size->Q (.ref (s.heap.objs.size+1)) { s with heap:=sortedHeap h6 (s.heap.objs.size+1) vs ((arrOf st').map (·.2)) }:=λst' a1 a2=>by
  have:=h st' a1 a2
  unfold sortedAll at this;rw[hh]at this;exact this
 refine wpAny_bind (wpAny_holding (wpAny_call_entry slot_list_sort ⟨_,hoL,rfl⟩ entry_list_sort (qcA S hoL hsz old λst' a1 a2=>{_,rfl,?_}) (args_list_sort _)));exact wpAny_pure ⟨_,rfl,hr st' a1 a2⟩
end
def pO:KeyOrd where
 α:=Int×Int
 blt p q:=decide (p.1 < q.1)||(decide (p.1=q.1)&&decide (p.2 < q.2))
 irrefl a:=by simp
 trans a b c h1 h2:=by
  simp at h1 h2 ⊢
  lia
 negTrans a b c h:=by
  simp at h ⊢
  lia
 total a b h1 h2:=by
  let(a1,a2):=a;let(b1,b2):=b;simp at h1 h2;have e1:a1=b1:=by lia
  subst e1;have e2:a2=b2:=by lia
  rw[e2]
def nOf:Value->Int
 |.int n _=>n
 |_=>0
def jI(h:Heap)(v:Value):Int×Int:=match v with
 |.ref a=>match h.get? a with
  |some o=>match o.data with
   |.seq xs _=>(nOf (xs.getD 0 .none),nOf (xs.getD 1 .none))
   |_=>(0,0)
  |none=>(0,0)
 |_=>(0,0)
def qaC(h:Heap)(v:Value)(p:Int×Int):Prop:=∃a t u,v=.ref a/\IsTup h a #[.int p.1 t,.int p.2 u]
def qaC.pair{h:Heap}{v:Value}{p:Int×Int}(e:qaC h v p):jI h v=p:=by let(a,t,u,rfl,o,ho,hc,n,hd):=e;unfold jI;simp![ho,hd];rfl
def qaC.grow{s s1:Shared}{v:Value}{p:Int×Int}(e:qaC s.heap v p)(g:qcz s s1):qaC s1.heap v p:=by let(a,t,u,rfl,o,ho,hc,n,hd):=e;exact{a,t,u,rfl,o,g a o ho,hc,n,hd}
section
variable{prog:Program}{w:World}{A:Around}{E:PQ}{s:Shared}
def qjf{x y:Value}{p q:Int×Int}{Q:Bool->Shared->Prop}(hx:qaC s.heap x p)(hy:qaC s.heap y q)(h:Q (pO.blt p q) s):wpAny (model prog w) A (keyLt' (tuples' true) x y) Q E s:=by
 let(a,t,u,rfl,o,ho,hc,n,hd):=hx;let(b,t',u',rfl,o',ho',hc',n',hd'):=hy;refine PySem.W.kat_lt ho hd ho' hd' ?_;show PySem.W.KatLex prog w A true _ Q [(.int p.1 t,.int q.1 t'),(.int p.2 u,.int q.2 u')] 0 s;refine PySem.W.kat_cons (wpAny_eqBool_int ?_)
 by_cases e1:p.1=q.1
 ·rw[show(p.1 == q.1)=true by simpa using e1];refine PySem.W.kat_yes (PySem.W.kat_cons (wpAny_eqBool_int ?_))
  by_cases e2:p.2=q.2
  ·rw[show(p.2 == q.2)=true by simpa using e2];refine PySem.W.kat_yes (PySem.W.kat_nil ?_)
   have:pO.blt p q=false:=by unfold pO;simp[e1,e2]
   rw[this]at h;exact h
  ·rw[show(p.2 == q.2)=false by simpa using e2];refine PySem.W.kat_no (PySem.W.kat_one _ _ (lt_int ?_))
   have:pO.blt p q=decide (p.2 < q.2):=by unfold pO;simp[e1]
   rw[this]at h;exact h
 ·rw[show(p.1 == q.1)=false by simpa using e1];refine PySem.W.kat_no ?_
  have:pO.blt p q=decide (p.1 < q.1):=by unfold pO;simp[e1]
  rw[this]at h;exact oneLt_int h
theorem qcB:∀{vs:List Value} {ps:List (Int×Int)},Paired (qaC s.heap) vs ps->∃fs,PySem.W.KatTups s.heap vs fs/\fs.length=vs.length/\∀v∈fs,∃n t,v=Value.int n t
 |_,_,.nil=>{[],trivial,rfl,λ_ h=>nomatch h}
 |_,_,.cons r rs=>by
  let(a,t,u,rfl,o,ho,hc,n,hd):=r;let(fs,h1,h2,h3):=qcB rs;refine{_::fs,PySem.W.KatTups.cons ho hc hd rfl h1,by simp[h2],λv hv=>?_};rcases List.mem_cons.mp hv with rfl|hv
  ·exact{_,_,rfl}
  ·exact h3 v hv
def j7{vs:List Value}{x:Keyed}(h:x∈(pairsOf vs).toList):x.1=x.2/\x.1∈vs:=by rw[pairsOf_toList]at h;exact mem_zip_self h
theorem Paired.at_mem{α M:Type}{R:α->M->Prop}:∀{l:List α} {m:List M},Paired R l m->∀a∈l,∃b∈m,R a b
 |_,_,.nil,_,h=>nomatch h
 |_,_,.cons r rs,a,h=>by
  rcases List.mem_cons.mp h with rfl|h
  ·exact{_,List.mem_cons_self,r}
  ·let(b,hb,q):=Paired.at_mem rs a h;exact{b,List.mem_cons_of_mem _ hb,q}
theorem Paired.grow2{s s1:Shared}(g:qcz s s1):∀{vs:List Value} {ps:List (Int×Int)},Paired (qaC s.heap) vs ps->Paired (qaC s1.heap) vs ps
 |_,_,.nil=>.nil
 |_,_,.cons r rs=>.cons (r.grow g) (Paired.grow2 g rs)
def qcC{vs:List Value}{ps:List (Int×Int)}(h:Paired (qaC s.heap) vs ps):Sorts prog w s vs pO (λx=>jI s.heap x.1) (tuples' true) where
 kind:=λh2 A E s1 Q g q=>by let(fs,t1,t2,t3):=qcB (Paired.grow2 g h);refine PySem.W.kat_kind t1 (1:) (T:=Value.type "int") (λv hv=>?_) rfl q;let(n,t,rfl):=t3 v hv;exact .now
 lt:=λA E s1 g x y hx hy st Q hk q=>by let(p,_,hp):=Paired.at_mem h _ (j7 hx).2;let(p',_,hp'):=Paired.at_mem h _ (j7 hy).2;have q:Q (some (pO.blt (jI s.heap x.1) (jI s.heap y.1))) st:=q;rw[hp.pair,hp'.pair]at q;rw[lt'_eq];refine wpS_bind (wpS_get ?_);rw[hk];refine wpS_bind (wpS_lift (wpAny_attempt (qjf (hp.grow g) (hp'.grow g) ⟨rfl,?_⟩)));exact wpS_pure q
end
theorem Paired.perm{α M:Type}{R:α->M->Prop}{us us':List M}(p:us'.Perm us):∀{xs:List α},Paired R xs us->∃xs',xs'.Perm xs/\Paired R xs' us':=by
 induction p with
 |nil=>exactλ{xs} h=>{xs,List.Perm.refl _,h}
 |cons x _ ih=>
  intro xs h
  cases h with
  |cons r rs=>let(xs',h1,h2):=ih rs;exact{_::xs',h1.cons _,.cons r h2}
 |swap x y l=>
  intro xs h
  cases h with
  |cons r rs=>
   cases rs with
   | cons r' rs=>exact{_::_::_,List.Perm.swap ..,.cons r' (.cons r rs)}
 |trans _ _ ih1 ih2=>intro xs h;let(x1,h1,h2):=ih2 h;let(x2,h3,h4):=ih1 h2;exact{x2,h3.trans h1,h4}
end TS
namespace L2
open PySem PySem.Spec PyProof.Rows
def P2(K:Frag)(H:Hp)(v:V)(p:Int×Int):Prop:=∃a,v=.ref a/\H a=some (.tup [.int p.1,.int p.2])
def qcD(p q:Int×Int):Prop:=p.1 < q.1\/(p.1=q.1/\p.2<=q.2)
section
variable{X:Cx}
def P2.raw{pins:PP}{Z:St}{H:Hp}{s:Shared}{v:V}{u:Value}{p:Int×Int}(I:Inv X pins Z H s)(h:P2 X.K H v p)(r:qF v u):TS.qaC s.heap u p:=by let(a,rfl,hq):=h;obtain rfl:u=Value.ref a:=r;let(its,rv,pl,_):=I.tuple (SqT.of hq);let(u1,u2,rfl,(t1,rfl),(t2,rfl)):=Qz rv;exact⟨a,t1,t2,rfl,pl⟩
def QS:qO X (.builtin "sorted") (λvs H Q=>∃p xs ps,vs=[.ref p]/\SqL X.K H p xs/\Paired (P2 X.K H) xs ps/\
  ∀l ys qs,H l=none->Paired (P2 X.K H) ys qs->ys.Perm xs->qs.Perm ps->qs.Pairwise qcD->Q (.ref l) (upd H l (.lst ys))):=by
 intro pins s Z H xs us Q I r h;let(p,xs,ps,rfl,hq,hp,q):=h;let(u,rfl,rx):=yZ r;cases rx;let(its,rv,pl,hz):=I.list hq;have hlen:=rv.length
 have three:∀{xs:List V} {its:List Value} {ps:List (Int×Int)},qu xs its->Paired (P2 X.K H) xs ps->Paired (λ(z:V×(Int×Int)) u=>qF z.1 u/\P2 X.K H z.1 z.2/\TS.qaC s.heap u z.2) (xs.zip ps) its/\Paired (TS.qaC s.heap) its ps/\xs.length=ps.length:=by
  intro xs its ps a b
  induction a generalizing ps with
  |nil=>cases b;exact{.nil,.nil,rfl}
  |cons r rs ih=>
   cases b with
   |cons b bs=>let(i1,i2,i3):=ih bs;have t:=P2.raw I b r;exact{.cons ⟨r,b,t⟩ i1,.cons t i2,by simp[i3]}
 let(t1,t2,t3):=three rv hp;refine TS.qbw (TS.qcC t2) pl.isList (1:) λst' pm sr=>?_
 have hl:(arrOf st').toList.Perm (its.zip its):=by
  have:=Array.perm_iff_toList_perm.mp pm
  rwa[pairsOf_toList]at this
 have hout:((arrOf st').map (·.2)).toList.Perm its:=by
  rw[Array.toList_map]
  have:=hl.map (·.2)
  rwa[List.map_snd_zip (Nat.le_refl _)]at this
 let(zs,z1,z2):=TS.Paired.perm hout t1
 have hys:(zs.map (·.1)).Perm xs:=by
  have:=z1.map (·.1)
  rwa[List.map_fst_zip (1:)]at this
 have hqs:(zs.map (·.2)).Perm ps:=by
  have:=z1.map (·.2)
  rwa[List.map_snd_zip (1:)]at this
 have hv:qu (zs.map (·.1)) ((arrOf st').map (·.2)).toList:=by
  clear z1 hys hqs;generalize ((arrOf st').map (·.2)).toList=ol at z2
  induction z2 with
  |nil=>exact .nil
  |cons r _ ih=>exact .cons r.1 ih
 have hP:Paired (P2 X.K H) (zs.map (·.1)) (zs.map (·.2)):=by
  clear z1 hys hqs hv;generalize ((arrOf st').map (·.2)).toList=ol at z2
  induction z2 with
  |nil=>exact .nil
  |cons r _ ih=>exact .cons r.2.1 ih
 have hkeys:((arrOf st').map (·.2)).toList.map (TS.jI s.heap)=zs.map (·.2):=by
  clear z1 hys hqs hv hP;generalize ((arrOf st').map (·.2)).toList=ol at z2
  induction z2 with
  |nil=>rfl
  |cons r _ ih=>rw[List.map_cons,List.map_cons,ih,r.2.2.pair]
 have hsrt:(zs.map (·.2)).Pairwise qcD:=by
  rw[<-hkeys,Array.toList_map,List.map_map];have h0:(arrOf st').size=(pairsOf its).size:=pm.size_eq;rw[<-h0]at sr
  have:=sr.pw
  refine List.pairwise_map.mpr ?_;refine List.Pairwise.imp_of_mem (λ{a b} ha hb hab=>?_) this;have ea:=(mem_zip_self (hl.mem_iff.mp ha)).1;have eb:=(mem_zip_self (hl.mem_iff.mp hb)).1;have hab:TS.pO.blt (TS.jI s.heap b.1) (TS.jI s.heap a.1)=false:=hab;rw[ea,eb]at hab;unfold TS.pO at hab;simp at hab;show qcD (TS.jI s.heap a.2) (TS.jI s.heap b.2);unfold qcD
  lia
 let(e,he):=sortedAll_at s.heap its ((arrOf st').map (·.2));have hz2:(zs.map (·.1)).length<=sizeLine:=by rw[hys.length_eq];exact hz
 refine{.ref (s.heap.objs.size+1),_,I.laid (t':=s.toks) (λb o eb=>sortedAll_old eb) (Nat.le_succ _) (show qQ X.prog X.w _ _ _ (.lst (zs.map (·.1))) from{hz2,_,e,hv,?_}),rfl,q _ _ _ (I.hok.fresh (Nat.le_succ _)) hP hys hqs hsrt};rw[Array.toArray_toList];exact he
end
def zh(env:Env)(ns:List (Str×NameKind))(acc:List (Str×Addr)):List (Str×Addr):=ns.foldl (λcs x=>if x.2 == .free then (x.1,(env.cells.lookup x.1).getD 0)::cs else cs) acc
theorem qfJ{env:Env}:∀(ns:List (Str×NameKind)) (acc:List (Str×Addr)),(∀x∈ns,x.2=.free->∃c,env.cells.lookup x.1=some c)->
  (forIn ns acc λ(x:Str×NameKind) (cs:List (Str×Addr))=>(match x with |(name,kind)=>if kind == .free then (do let c<-cellOf env name;pure (ForInStep.yield ((name,c)::cs)):Sem (ForInStep (List (Str×Addr)))) else pure (ForInStep.yield cs)))=(pure (zh env ns acc):Sem (List (Str×Addr)))
 |[],acc,_=>by rw[List.forIn_nil];rfl
 | (n,k)::r,acc,h=>by
  rw[List.forIn_cons];have hr:=qfJ (env:=env) r
  by_cases hk:k=.free
  ·subst hk;let(c,hc):=h (n,.free) List.mem_cons_self rfl;have e1:cellOf env n=pure c:=by unfold cellOf;rw[hc]
   simp![beq_self_eq_true,if_true,e1,pure_bind];rw[hr _ λx hx=>h x (List.mem_cons_of_mem _ hx)];unfold zh;simp[hc]
  ·have hb:(k == NameKind.free)=false:=(-hk:)
   simp![hb,Bool.false_eq_true,if_false,pure_bind];rw[hr _ λx hx=>h x (List.mem_cons_of_mem _ hx)];unfold zh;rw[List.foldl_cons];simp![hb,Bool.false_eq_true,if_false]
def qfK{env:Env}{scope:Scope}(h:∀x∈scope.names,x.2=.free->∃c,env.cells.lookup x.1=some c):closureFor scope env=pure (zh env scope.names []):=by
 unfold closureFor
 have:=qfJ scope.names [] h
 simp![bind_pure_comp]at this;simp![bind_pure_comp,id_map',this];rfl
theorem qcE{env:Env}:∀(ns:List (Str×NameKind)) (acc:List (Str×Addr)),(∀x∈ns,x.2=.free->∃c,env.cells.lookup x.1=some c)->(∀x c,acc.lookup x=some c->env.cells.lookup x=some c)->
  ∀x c,(zh env ns acc).lookup x=some c->env.cells.lookup x=some c
 |[],_,_,h=>h
 | (n,k)::r,acc,hf,h=>by
  have ih:=qcE (env:=env) r (if k == .free then (n,(env.cells.lookup n).getD 0)::acc else acc) (λx hx=>hf x (List.mem_cons_of_mem _ hx)) (λx c e=>by
   by_cases hk:k=.free
   ·subst hk;simp![beq_self_eq_true,if_true]at e;let(c',hc):=hf (n,.free) List.mem_cons_self rfl;rw[List.lookup_cons]at e
    by_cases hx:x=n
    ·subst hx;simp[hc]at e;rw[hc,e]
    ·rw[show(x == n)=false by simpa using hx]at e;exact h x c e
   ·rw[show(k == NameKind.free)=false by simpa using hk]at e;exact h x c e)
  exact ih
def j8{env:Env}{ns:List (Str×NameKind)}(h:∀x∈ns,x.2=.free->∃c,env.cells.lookup x.1=some c):∀x c,(zh env ns []).lookup x=some c->env.cells.lookup x=some c:=qcE ns [] h λ_ _ e=>by cases e
theorem YJ{env:Env}:∀(ns:List (Str×NameKind)) (acc:List (Str×Addr)) (x:Str) (c:Addr),acc.lookup x=some c->∃c,(zh env ns acc).lookup x=some c
 |[],_,_,c,h=>⟨c,h⟩
 | (n,k)::r,acc,x,c,h=>by
  show∃c,(zh env r (if k == .free then (n,(env.cells.lookup n).getD 0)::acc else acc)).lookup x=some c
  by_cases hk:k=.free
  ·subst hk;simp![beq_self_eq_true,if_true]
   by_cases hx:x=n
   ·subst hx;exact YJ r _ x ((env.cells.lookup x).getD 0) (by rw[List.lookup_cons];simp)
   ·exact YJ r _ x c (by rw[List.lookup_cons,show(x == n)=false by simpa using hx];exact h)
  ·rw[show(k == NameKind.free)=false by simpa using hk];exact YJ r _ x c h
theorem Z0{env:Env}:∀(ns:List (Str×NameKind)) (acc:List (Str×Addr)) (x:Str),(x,NameKind.free)∈ns->∃c,(zh env ns acc).lookup x=some c
 | (n,k)::r,acc,x,h=>by
  show∃c,(zh env r (if k == .free then (n,(env.cells.lookup n).getD 0)::acc else acc)).lookup x=some c;rcases List.mem_cons.mp h with e|h
  ·injection e with e1 e2;subst e1 e2;simp![beq_self_eq_true,if_true];exact YJ r _ x ((env.cells.lookup x).getD 0) (by rw[List.lookup_cons];simp)
  ·exact Z0 r _ x h
theorem Jh{env:Env}:∀{names:List (Str×NameKind)} {x:Str},names.lookup x=some .free->
  (names.map λ(n,k)=>if (k == NameKind.free&&env.scope.kind == .function&&env.kindOf n == some .cell) then (n,NameKind.cell) else (n,k)).lookup x=some .cell\/
  (names.map λ(n,k)=>if (k == NameKind.free&&env.scope.kind == .function&&env.kindOf n == some .cell) then (n,NameKind.cell) else (n,k)).lookup x=some .free
 |[],_,h=>by simp at h
 | (n,k)::r,x,h=>by
  simp![List.map_cons]
  by_cases hx:x=n
  ·subst hx;simp[List.lookup_cons]at h;subst h
   by_cases hc:(NameKind.free == NameKind.free&&env.scope.kind == .function&&env.kindOf x == some .cell)=true
   ·rw[if_pos hc];left;simp[List.lookup_cons]
   ·rw[if_neg hc];right;simp[List.lookup_cons]
  ·have hb:(x == n)=false:=(-hx:)
   rw[List.lookup_cons,hb]at h;have ih:=Jh (env:=env) h
   by_cases hc:(k == NameKind.free&&env.scope.kind == .function&&env.kindOf n == some .cell)=true
   ·rw[if_pos hc];simp![List.lookup_cons,hb];exact ih
   ·rw[if_neg hc];simp![List.lookup_cons,hb];exact ih
theorem qcF{env:Env}:∀{names:List (Str×NameKind)} {x:Str} {k':NameKind},(names.map λ(n,k)=>if (k == NameKind.free&&env.scope.kind == .function&&env.kindOf n == some .cell) then (n,NameKind.cell) else (n,k)).lookup x=some k'->
  k'=.cell\/k'=.free->(x,NameKind.free)∈names\/(x,NameKind.cell)∈names
 |[],_,_,h,_=>by simp at h
 | (n,k)::r,x,k',h,hk=>by
  simp![List.map_cons]at h
  by_cases hx:x=n
  ·subst hx
   by_cases hc:(k == NameKind.free&&env.scope.kind == .function&&env.kindOf x == some .cell)=true
   ·have:k=.free:=by simp at hc;exact hc.1.1
    subst this;exact .inl List.mem_cons_self
   ·rw[if_neg hc]at h;simp[List.lookup_cons]at h;subst h;rcases hk with rfl|rfl
    ·exact .inr List.mem_cons_self
    ·exact .inl List.mem_cons_self
  ·have hb:(x == n)=false:=(-hx:)
   have ih:=qcF (env:=env) (names:=r) (x:=x) (k':=k') (by
    by_cases hc:(k == NameKind.free&&env.scope.kind == .function&&env.kindOf n == some .cell)=true
    ·rw[if_pos hc]at h;simp![List.lookup_cons,hb]at h;exact h
    ·rw[if_neg hc]at h;simp![List.lookup_cons,hb]at h;exact h) hk
   exact ih.imp (List.mem_cons_of_mem _) (List.mem_cons_of_mem _)
def blk(X:Cx)(N:List Str)(scope:Scope)(cl:List (Str×Addr))(C:Addr)(fp:List Addr)(s2:Shared)(H2:Hp):Cx:=
 { X with N:=N,s₀:=s2,Hv:=H2,env:=compEnvC scope cl C X.env,outer:=X.stack,stack:=X.stack,ex:=fp,fn:=λ_=>false,pn:=[],xe:=λ_ _=>False }
structure BlkScope(X:Cx)(own:List Str)(fr:List Nat)(scope:Scope):Prop where
 kind:scope.kind=.function
 nocell:∀x∈scope.names,x.2≠.cell
 names:∀x∈scope.names,x.2=.local->scope.names.lookup x.1=some .local
 free:∀x∈scope.names,x.2=.free->X.env.kindOf x.1=some .cell\/X.env.kindOf x.1=some .free
 look:∀i∈fr,scope.names.lookup (X.N.getD i "")=some .free
def yK(X:Cx)(own:List Str)(fr:List Nat):List Str:=own++fr.map λi=>X.N.getD i ""
def J4(own:List Str)(fr:List Nat)(Z:St):St:=(own.map λ_=>none)++fr.map λi=>(Z[i]?).join
section
variable{X:Cx}{pins:PP}{Z:St}{H:Hp}{s:Shared}{own:List Str}{fr:List Nat}{scope:Scope}
abbrev qbY(its:List Value)(n:Nat):Obj:={ cls:=.type "list",data:=.seq its.toArray n }
def qjg{C:Addr}{fp:List Addr}(B:BlkScope X own fr scope)(I:Inv X pins Z H s)(hf:∀b∈fp,qbl X pins H b)(hfo:∀b∈fp,b < s.heap.objs.size)(hC:s.heap.objs.size<=C) :
  (blk X (yK X own fr) scope (zh X.env scope.names []) C fp s H).Ok where
 mod:=I.ok.mod
 kind:=B.kind
 glob:=I.ok.glob
 blt:=I.ok.blt
 above:=hC
 inj:=λx y c h1 h2=>I.ok.inj x y c (j8 (λz hz e=>I.ok.has _ (B.free z hz e)) x c h1) (j8 (λz hz e=>I.ok.has _ (B.free z hz e)) y c h2)
 has:=λx h=>by
  have h':(x,NameKind.free)∈scope.names\/(x,NameKind.cell)∈scope.names:=by
   rcases h with h|h
   ·exact qcF (env:=X.env) h (.inl rfl)
   ·exact qcF (env:=X.env) h (.inr rfl)
  rcases h' with h'|h'
  ·exact Z0 _ _ _ h'
  ·exact absurd rfl (B.nocell _ h')
 cab:=λx c h=>nomatch h
 hd:=I.ok.hd
 frames:=I.ok.frames
 stk:=.inl rfl
 exf:=λb hb=>{Nat.ne_of_lt (Nat.lt_of_lt_of_le (hfo b hb) hC),λx c e=>(hf b hb).2.2.2.2.1 x c (j8 (λz hz e=>I.ok.has _ (B.free z hz e)) x c e)}
 bs:=I.bs
 bsz:=Nat.le_trans I.ok.bsz I.sz
 noex:=λb o e hb=>by
  rcases (hf b hb).2.2.2.1 with z|z
  ·exact I.ok.noex b o e z
  ·exact absurd (Nat.lt_of_lt_of_le (Heap.lt_size (I.ok.bs b o e).1) z) (Nat.lt_irrefl _)
 exfs:=λb hb z=>by
  rcases List.mem_cons.mp (I.stkSub b z) with e|e
  ·exact(hf b hb).2.1 e
  ·exact(hf b hb).2.2.1 e
 funs:=I.stack
 frf:=I.stkFree
def qcG{C D:Addr}{fp:List Addr}{h4:Heap}{tk:Nat}{n:Nat}(B:BlkScope X own fr scope)(I:Inv X pins Z H s)(hf:∀b∈fp,qbl X pins H b)(hfo:∀b∈fp,b < s.heap.objs.size)(hC:s.heap.objs.size<=C)(hD:s.heap.objs.size<=D)(hDC:D≠C)
  (k:∀b o,s.heap.get? b=some o->h4.get? b=some o) (hn:h4.Ns C λ_=>none) (hl:h4.get? D=some (qbY [] n)) :
  Inv (blk X (yK X own fr) scope (zh X.env scope.names []) C fp s H) [(D,qbY [] n)] (J4 own fr Z) H { s with heap:=h4,toks:=tk }:=by
 have sub:=j8 (env:=X.env) (ns:=scope.names) (λz hz e=>I.ok.has _ (B.free z hz e));refine{qjg B I hf hfo hC,rfl,I.bare,Un.kept k,{_,hn,λi x v h1 h2 h3=>?_},λx c e=>?_,I.hok.fresh hC,λx c e=>I.freeC x c (sub x c e),λp hp=>?_,I.hok.kept k,?_}
 ·have h1:(yK X own fr)[i]?=some x:=h1;unfold yK at h1;unfold J4 at h2
  by_cases hi:i < own.length
  ·rw[List.getElem?_append_left (-hi:),List.getElem?_map]at h2
   cases q:own[i]? with
   |none=>rw[q]at h2;cases h2
   |some a=>rw[q]at h2;cases h2
  ·rw[List.getElem?_append_right (-hi:),List.getElem?_map]at h2;rw[List.getElem?_append_right (-hi:),List.getElem?_map]at h1;rw[List.length_map]at h2
   cases q:fr[i - own.length]? with
   |none=>rw[q]at h2;cases h2
   |some j=>
    rw[q]at h1 h2;have h1:X.N.getD j "" = x:=Option.some.inj h1;have h2:(Z[j]?).join=some v:=Option.some.inj h2
    have h2':Z[j]?=some (some v):=by
     cases w:Z[j]? with
     |none=>rw[w]at h2;cases h2
     |some y=>rw[w]at h2;cases y with
      |none=>cases h2
      |some y=>cases h2;rfl
    have hjl:j < X.N.length:=by rw[<-I.len];exact(List.getElem?_eq_some_iff.mp h2').1
    have hN:X.N[j]?=some x:=by rw[<-h1,List.getElem?_eq_getElem hjl];simp[hjl]
    have hfree:scope.names.lookup x=some .free:=by rw[<-h1];exact B.look j (List.mem_of_getElem? q)
    have hk:=B.free (x,.free) (PySem.mem_of_lookup hfree) rfl;let(m,_,hloc):=I.loc
    let(u,r,l):=hloc j x v hN h2' (by
     rcases hk with z|z
     ·exact .inr (.inl z)
     ·exact .inr (.inr z))
    refine{u,r,.inr {?_,?_}}
    ·exact Jh (env:=X.env) hfree
    ·rcases l with ⟨l,_⟩|⟨_,c,hc,o,ho,hd⟩
     ·have hk:X.env.kindOf x=some .cell\/X.env.kindOf x=some .free:=hk;rw[l]at hk;rcases hk with z|z<;>cases z
     ·let(c',hc'):=Z0 (env:=X.env) scope.names [] x (PySem.mem_of_lookup hfree)
      have:=sub x c' hc'
      rw[hc]at this;cases this;exact{c,hc',o,k _ _ ho,hd}
 ·let(v,o,ho,hd):=I.cell x c (sub x c e);exact{v,o,k _ _ ho,hd}
 ·have hp:p∈[(D,qbY [] n)]:=by simpa [blk] using hp
  cases List.mem_singleton.mp hp;refine{hl,I.hok.fresh hD,hDC,λz=>?_,λv e=>by cases e};rcases List.mem_cons.mp (I.stkSub D z) with e|e
  ·exact Nat.ne_of_lt (Nat.lt_of_lt_of_le I.lt hD) e.symm
  ·exact I.nofs hD e
 ·show(J4 own fr Z).length=(yK X own fr).length;unfold J4 yK;simp
end
def PIf(X:Cx)(ifs:List Expr)(t:TT):Prop:=
 ∀(pins:PP) (s:Shared) (Z:St) (H:Hp) (Q:Bool->Hp->Prop),Inv X pins Z H s->t Z H Q->
  wpAny (model X.prog X.w) X.A (forIn ifs true λc r=>if r=true then do let ok<-isTrue c X.env (eval c X.env);pure (ForInStep.yield ok) else pure (ForInStep.yield r)) (TP X pins Z Q) X.xe s
def qnK:TT:=λ_ H Q=>Q true H
section
variable{X:Cx}{pins:PP}{Z:St}{H:Hp}{s:Shared}{own:List Str}{fr:List Nat}{scope:Scope}
def qgU:PIf X [] qnK:=λ_ _ _ H _ I h=>wpAny_tests_nil ⟨H,I,h⟩
def qgV{c:Expr}{t:TT}(h:PT X c t):PIf X [c] t:=λpins s Z H Q I hw=>wpAny_tests_one (h pins s Z H Q I hw)
def QT(J:It)(g:TG)(tc:TT)(te:TE)(fin:List V->Hp->Prop)(W:Nat->Nat->List V->St->Hp->Prop):Prop:=
 ∀i m ys Z' H',W i m ys Z' H'->(J.stop i H'/\fin ys H')\/
  (J.go i H'/\ys.length < sizeLine/\∃N:List V->St->Hp->Prop,(∀ys' Z2 H2,N ys' Z2 H2->∃m',m' < m/\W (i+1) m' ys' Z2 H2)/\
   ∀x H2,J.yld i H' x H2->g x Z' H2 λZ2 H3=>tc Z2 H3 λb H4=>if b=true then te Z2 H4 λy H5=>N (ys++[y]) Z2 H5 else N ys Z2 H4)
def qgW(own:List Str)(fr:List Nat)(wi:TI)(g:TG)(tc:TT)(te:TE):TE:=λZ H Q=>wi Z H λJ H1=>∃W:Nat->Nat->List V->St->Hp->Prop,(∃m,W 0 m [] (J4 own fr Z) H1)/\QT J g tc te (λys H'=>∀l,H' l=none->Q (.ref l) (upd H' l (.lst ys))) W
def qgX{N:List Str}{cl:List (Str×Addr)}{C l:Addr}{fp:List Addr}{s4:Shared}{H':Hp}{Z':St}{its:List Value}{k:Nat}{ys:List V}(I:Inv X pins Z H s)(hf:∀b∈fp,qbl X pins H b)(hl:s.heap.objs.size<=l)
  (I4:Inv (blk X N scope cl C fp s H) [(l,qbY its k)] Z' H' s4) (rv:qu ys its) (hz:ys.length<=sizeLine):Inv X pins Z (upd H' l (.lst ys)) s4:=by
 have base:Un (frs X.stack) fp H H' s.heap s4.heap:=I4.base;have pin:=I4.pin (l,qbY its k) (List.mem_append_right _ List.mem_cons_self);have nl:∀b o,s.heap.get? b=some o->b≠l:=λb o e=>Nat.ne_of_lt (Nat.lt_of_lt_of_le (Heap.lt_size e) hl);have nh:∀b u,H' b=some u->b≠l:=λb u e=>qP e pin.2.1;refine I.call' (ch:=fp) I4.os ⟨base.keep,base.slot,λb o e n hx=>?_,base.there,λb xs e=>?_,λb o u e=>?_,λb ps e=>?_⟩ (λb u e=>?_) I4.bare (λb hb=>{(hf b hb).2.2.2.1,(hf b hb).2.1,(hf b hb).2.2.2.2.1,(hf b hb).2.2.2.2.2})
 ·rw[qe (nl b o e)];exact base.free b o e n hx
 ·have:=base.tups b xs e
  rw[qe (nh b _ this)];exact this
 ·have:=base.frzs b o u e
  rw[qe (nh b _ this)];exact this
 ·let(more,this):=base.tbls b ps e;exact{more,by rw[qe (nh b _ this)];exact this}
 ·by_cases hb:b=l
  ·subst hb;rw[qg]at e;cases e;exact⟨hz,its,k,rv,pin.1⟩
  ·rw[qe hb]at e;exact(I4.hok b u e).stay (λc v _ q=>q) (λc q=>by rw[qe (nh c _ q)];exact q) λc xs q=>by rw[qe (nh c _ q)];exact q
def QU{elt iter tg:Expr}{ifs:List Expr}{pos:Pos}{g:TG}{tc:TT}{te:TE}{it:Addr}{fp:List Addr}{tn:Nat->Heap->Prop}{J:It}{fin:List V->Hp->Prop}{W:Nat->Nat->List V->St->Hp->Prop}{m0:Nat}
  {RR:Value->Addr->Result->Shared->Prop} {E:PQ} (hc:X.calm=true) (B:BlkScope X own fr scope)
  (hg:∀cl C fp s2 H2,PG (blk X (yK X own fr) scope cl C fp s2 H2) tg g) (ht:∀cl C fp s2 H2,PIf (blk X (yK X own fr) scope cl C fp s2 H2) ifs tc) (he:∀cl C fp s2 H2,PE (blk X (yK X own fr) scope cl C fp s2 H2) elt te)
  (I:Inv X pins Z H s) (T:Turn X.prog X.w X.K tg J fp it tn) (st0:tn 0 s.heap) (hf:∀b∈fp,qbl X pins H b) (w0:W 0 m0 [] (J4 own fr Z) H) (hW:QT J g tc te fin W)
  (post:∀(l C:Addr) (s4:Shared) (ys:List V) (H':Hp) (m:PR),s.heap.objs.size<=C->H' C=none->H' l=none->l≠C->s4.heap.Ns C m->Inv X pins Z (upd H' l (.lst ys)) s4->fin ys H'->RR (.ref l) C (.ok .next) s4) :
  wpAny (model X.prog X.w) X.A (newList []) (λacc s₃=>wpAny (model X.prog X.w) X.A (newFunctionEnv scope X.env.globals (zh X.env scope.names []) [] X.env.qual none .none (some X.env)) (λcenv s₄=>codeAny (model X.prog X.w) X.A (.compStart (.ListComp elt [⟨tg,iter,ifs,0⟩] scope pos) 0 (.ref it) acc { cenv with scope:=relabel scope X.env }) (RR acc cenv.locals) s₄) E s₃) E s:=by
 have hfo:∀b∈fp,b < s.heap.objs.size:=λb hb=>by let(o,e,_):=T.obj _ _ st0 b hb;exact Heap.lt_size e
 refine wpAny_newObj_type (wpAny_newFunctionEnv B.nocell (by intro y hy;simp at hy) (λh1 hns hsb=>?_) B.kind);dsimp only at hns hsb ⊢;generalize hH2:s.heap.push { cls:=.type "list",dict:=none,data:=.seq ([]:List Value).toArray }=h2 at hns hsb ⊢;have hC:h2.objs.size=s.heap.objs.size+1:=by rw[<-hH2,Heap.size_push]
 have hDC:s.heap.objs.size≠h2.objs.size:=by rw[hC];exact Nat.ne_of_lt (Nat.lt_succ_self _)
 have hCle:s.heap.objs.size<=h2.objs.size:=by rw[hC];exact Nat.le_succ _
 have old:∀b o,s.heap.get? b=some o->h1.get? b=some o:=λb o e=>hsb.extBut b o (by rw[hC];exact Nat.ne_of_lt (Nat.lt_succ_of_lt (Heap.lt_size e))) (Heap.get?_push_of_some _ (hH2▸Heap.get?_push_of_some _ e));have hacc:h1.get? s.heap.objs.size=some (qbY [] 0):=hsb.extBut _ _ hDC (Heap.get?_push_of_some _ (hH2▸Heap.get?_push_size _ rfl));have hns':h1.Ns h2.objs.size λ_=>none:=hns;have I0:=qcG (tk:=s.toks+([]:List (Str×Value)).length) B I hf hfo hCle (Nat.le_refl _) hDC old hns' hacc;have st1:tn 0 h1:=T.keep _ _ _ st0 λb hb o e=>old b o e
 have loop:codeAny (model X.prog X.w) X.A (.compLoop (.ListComp elt [⟨tg,iter,ifs,0⟩] scope pos) 0 (.ref it) (.ref s.heap.objs.size) (compEnvC scope (zh X.env scope.names []) h2.objs.size X.env))
   (RR (.ref s.heap.objs.size) h2.objs.size) { s with heap:=h1,toks:=s.toks+([]:List (Str×Value)).length }:=by
  generalize hl:s.heap.objs.size=l at *;generalize hCC:h2.objs.size=C at *
  have stat:∀{H':Hp} {o:Obj},(∀b∈fp,H' b=none)->∀b∈fp,qbl (blk X (yK X own fr) scope (zh X.env scope.names []) C fp s H) [(l,o)] H' b:=λ{H' o} hn b hb=>by
   refine{hn b hb,λe=>?_,λz=>?_,.inl hb,λx c e z=>?_,λp hp z=>?_}
   ·exact Nat.ne_of_lt (Nat.lt_of_lt_of_le (hfo b hb) hCle) e
   ·rcases List.mem_cons.mp (I.stkSub b z) with e|e
    ·exact(hf b hb).2.1 e
    ·exact(hf b hb).2.2.1 e
   ·exact(hf b hb).2.2.2.2.1 x c (j8 (λz hz e=>I.ok.has _ (B.free z hz e)) x c e) z
   ·have hp:p∈[(l,o)]:=by simpa [blk] using hp
    cases List.mem_singleton.mp hp;exact Nat.ne_of_lt (hfo b hb) z.symm
  refine codeAny_loop rfl (λn s'=>∃i ys Z' H' its k,Inv (blk X (yK X own fr) scope (zh X.env scope.names []) C fp s H) [(l,qbY its k)] Z' H' s'/\qu ys its/\ys.length<=sizeLine/\tn i s'.heap/\(∀b∈fp,H' b=none)/\W i n ys Z' H')
   (λn s3 hI=>?_) m0 ⟨0,[],J4 own fr Z,H,[],0,I0,.nil,Nat.zero_le _,st1,λb hb=>(hf b hb).1,w0⟩
  show wpAny _ X.A ((compTurn (.ListComp elt [⟨tg,iter,ifs,0⟩] scope pos) 0 (.ref it) (.ref l) (compEnvC scope (zh X.env scope.names []) C X.env)).onRaise (λx=>do noteFrame x (compEnvC scope (zh X.env scope.names []) C X.env);theTreesLotGoes x)) _ _ s3;refine wpAny_noted ?_;rw[compTurn_list];let(i,ys,Z3,H3,its,k,I3,rv,hz,st3,fr3,w3):=hI;refine wpAny_bind (wpAny_standAt (wpAny_bind ?_));rcases hW i n ys Z3 H3 w3 with ⟨stop,qn⟩|⟨go,hlt,N,hN,step⟩
  ·refine thn (T.done (blk X (yK X own fr) scope (zh X.env scope.names []) C fp s H) rfl rfl rfl hc i _ s3 Z3 H3 _ I3 (stat fr3) st3 stop) λr s4 hq1=>?_;let(hr,I4):=hq1;subst hr;let(m,hm,_):=I4.loc;exact wpAny_pure (post l C s4 ys H3 m hCle I4.free (I4.pin (l,qbY its k) (List.mem_append_right _ List.mem_cons_self)).2.1 hDC hm (qgX I hf (Nat.le_of_eq hl) I4 rv hz) qn)
  ·refine thn (T.item (blk X (yK X own fr) scope (zh X.env scope.names []) C fp s H) rfl rfl rfl hc i _ s3 Z3 H3 _ I3 (stat fr3) st3 go) λr s4 hq1=>?_;let(u,hr,h4):=hq1;subst hr;refine wpAny_bind (thn h4 λ_ s5 hq1=>?_);let(x,H5,I5,r5,y5,st5,fr5):=hq1;have I5':=I5.pinned (stat fr5) (T.obj _ _ st5);refine wpAny_bind (wpAny_mono (hg _ _ _ _ _ _ s5 Z3 H5 x u _ I5' r5 (step x H5 y5)) (λ_ s6 ⟨Z6,H6,I6,q6⟩=>?_) λ_ _ z=>z.elim);refine wpAny_bind (wpAny_mono (ht _ _ _ _ _ _ s6 Z6 H6 _ I6 q6) (λb s7 ⟨H7,I7,q7⟩=>?_) λ_ _ z=>z.elim)
   have back:∀{Z8:St} {H8:Hp} {s8:Shared},Inv (blk X (yK X own fr) scope (zh X.env scope.names []) C fp s H) ([(l,qbY its k)]++Qx fp s5.heap) Z8 H8 s8->(∀b∈fp,∀o,s5.heap.get? b=some o->s8.heap.get? b=some o)/\∀b∈fp,H8 b=none:=λI8=>by refine{λb hb o e=>(I8.pin (b,o) (List.mem_append_right _ (List.mem_append_right _ (jD hb e)))).1,λb hb=>?_};let(o,e,_):=T.obj _ _ st5 b hb;exact(I8.pin (b,o) (List.mem_append_right _ (List.mem_append_right _ (jD hb e)))).2.1
   cases b with
   |false=>let(k1,k2):=back I7;simp![Bool.false_eq_true,if_false]at q7 ⊢;let(m',hm',w7):=hN _ _ _ q7;exact wpAny_pure ⟨rfl,m',hm',i+1,ys,Z6,H7,its,k,I7.unpinned,rv,hz,T.keep _ _ _ st5 k1,k2,w7⟩
   |true=>
    simp![if_true]at q7 ⊢;refine wpAny_bind (wpAny_bind (wpAny_mono (he _ _ _ _ _ _ s7 Z6 H7 _ I7 q7) (λw s8 ⟨y,H8,I8,r8,q8⟩=>?_) λ_ _ z=>z.elim));let(k1,k2):=back I8;let(m',hm',w8):=hN _ _ _ q8;have pin:=I8.pin (l,qbY its k) (List.mem_append_right _ (List.mem_append_left _ List.mem_cons_self));have hil:its.length=ys.length:=rv.length.symm;refine wpAny_bind (append_at pin.1 (λh9 hs9 hD9=>?_) (by rw[List.size_toArray,hil];exact hz));have new:h9.get? l=some (qbY (its++[w]) (k+1)):=by rw[hD9,List.push_toArray]
    have Ia:Inv (blk X (yK X own fr) scope (zh X.env scope.names []) C fp s H) [] Z6 H8 s8:=I8.pins_of (λp hp=>nomatch hp)
    have Ib:Inv (blk X (yK X own fr) scope (zh X.env scope.names []) C fp s H) [] Z6 H8 { s8 with heap:=h9 }:=Ia.turned (t':=s8.toks) (λb o hb e=>hs9.extBut b o hb e) pin.2.1 pin.2.2.1 (.inr (Nat.le_of_eq hl)) (λx c e z=>by
     let(v,o,ho,hd):=I8.cell x c e;rw[z,pin.1]at ho;cases ho
     cases hd) (λp hp=>by
      have hp:p∈([]:PP):=by simpa [blk] using hp
      cases hp)
    have Ic:Inv (blk X (yK X own fr) scope (zh X.env scope.names []) C fp s H) [(l,qbY (its++[w]) (k+1))] Z6 H8 { s8 with heap:=h9 }:=Ib.pins_of λp hp=>by cases List.mem_singleton.mp hp;exact{new,pin.2.1,pin.2.2.1,pin.2.2.2.1,λv e=>by cases e}
    refine wpAny_pure (wpAny_pure ⟨rfl,m',hm',i+1,ys++[y],Z6,H8,its++[w],k+1,Ic,rv.append %[r8|0],by rw[List.length_append];exact hlt,T.keep _ _ _ st5 λb hb o e=>?_,k2,w8⟩);exact hs9.extBut b o (Nat.ne_of_lt (hfo b hb)) (k1 b hb o e)
 exact codeAny_compStart_list loop (T.self _ 0 _ _ _ st1 loop)
def Inv.letgo{s2 s4:Shared}{H2 H4:Hp}{C:Addr}{h':Heap}(I2:Inv X pins Z H2 s2){Z4:St}(I4:Inv X pins Z4 H4 s4)(hC:s2.heap.objs.size<=C)(hn:H4 C=none)(hs:Heap.SameBut C s4.heap h'):Inv X pins Z4 H4 { s4 with heap:=h' }:=by let(f0,f1,_,f3,f4,f5):=I2.fpOk hC hn;exact I4.turned (t':=s4.toks) (λb o hb e=>hs.extBut b o hb e) f0 f1 f3 f4 f5
def qgY{elt iter tg:Expr}{ifs:List Expr}{pos:Pos}{g:TG}{tc:TT}{te:TE}{wi:TI}(own:List Str)(fr:List Nat)(hc:X.calm=true)(B:BlkScope X own fr scope)(hi:PI X tg iter wi)
  (hg:∀cl C fp s2 H2,PG (blk X (yK X own fr) scope cl C fp s2 H2) tg g) (ht:∀cl C fp s2 H2,PIf (blk X (yK X own fr) scope cl C fp s2 H2) ifs tc) (he:∀cl C fp s2 H2,PE (blk X (yK X own fr) scope cl C fp s2 H2) elt te)
  (hs:∀x,foldedSetIterable iter X.env x=pure x:=by intro _;rfl):PE X (.ListComp elt [⟨tg,iter,ifs,0⟩] scope pos) (qgW own fr wi g tc te):=by
 intro pins s Z H Q I h;rw[eval_ListComp];refine wpAny_comprehension_free (use:=none) rfl hs (qfK λz hz e=>I.ok.has _ (B.free z hz e)) B.kind B.names ?_;refine thn (hi pins s Z H _ I h) λv s1 h1=>thn h1 λitv s2 h2=>?_;let(it,fp,tn,J,H2,e,I2,T,st2,f2,W,(m0,w0),hW):=h2;subst e;refine QU hc B hg ht he I2 T st2 f2 w0 hW λl C s4 ys H' m hC nC nl hlC hm I4 fin=>?_;exact{m,hm,λh' hs'=>{.ref l,_,I2.letgo I4 hC (by rw[qe (Ne.symm hlC)];exact nC) hs',rfl,fin l nl}}
def qgZ{elt iter tg:Expr}{ifs:List Expr}{pos pos' cpos:Pos}{g:TG}{tc:TT}{te:TE}{wi:TI}{i:Nat}{x:Str}(own:List Str)(fr:List Nat)(hN:X.N.Nodup)(hxi:X.N[i]?=some x)(hx:X.env.scope.names.lookup x=some .local)(hc:X.calm=true)(B:BlkScope X own fr scope)(hi:PI X tg iter wi)
  (hg:∀cl C fp s2 H2,PG (blk X (yK X own fr) scope cl C fp s2 H2) tg g) (ht:∀cl C fp s2 H2,PIf (blk X (yK X own fr) scope cl C fp s2 H2) ifs tc) (he:∀cl C fp s2 H2,PE (blk X (yK X own fr) scope cl C fp s2 H2) elt te)
  (hsw:swapsWith (.ListComp elt [⟨tg,iter,ifs,0⟩] scope cpos) (some (.Name x pos')) pos.line X.env=pure true:=by rfl)
  (hs:∀x,foldedSetIterable iter X.env x=pure x:=by intro _;rfl):PS X (.Assign [.Name x pos'] (.ListComp elt [⟨tg,iter,ifs,0⟩] scope cpos) pos) (qlN (qgW own fr wi g tc te) (qd6 i)):=by
 intro pins s Z H D I h;rw[exec_Assign_Name_used _ _ _ _ hsw];refine wpAny_bind (wpAny_standAt (wpAny_bind ?_));show wpAny _ X.A (do let _<-comprehension (.ListComp elt [⟨tg,iter,ifs,0⟩] scope cpos) scope X.env _ (newList []) false (eval iter X.env) (some (assign (.Name x pos') X.env))) _ _ s;refine wpAny_bind (wpAny_mono (wpAny_comprehension_free (use:=some (assign (.Name x pos') X.env)) (Q:=λ_ s'=>SP X pins D .next s') rfl hs (qfK λz hz e=>I.ok.has _ (B.free z hz e)) B.kind B.names ?_) (λ_ s' hq=>wpAny_pure (wpAny_pure hq)) λ_ _ e=>e);refine thn (hi pins s Z H _ I h) λv s1 h1=>thn h1 λitv s2 h2=>?_;let(it,fp,tn,J,H2,e,I2,T,st2,f2,W,(m0,w0),hW):=h2;subst e;refine QU (RR:=λacc C=>compPost (model X.prog X.w) X.A X.xe (some (assign (.Name x pos') X.env)) (λ_ s'=>SP X pins D .next s') acc C) hc B hg ht he I2 T st2 f2 w0 hW λl C s4 ys H' m hC nC nl hlC hm I4 fin=>?_;show wpAny _ X.A (assign (.Name x pos') X.env (.ref l)) _ _ s4;refine wpAny_assign_Name (Qu I4 hN hxi (.inl hx) (v:=.ref l) rfl (λs5 I5 hsb=>?_) (.inr hx));let(a,sb,ha):=hsb
 have hCa:C≠a:=by
  rcases ha with rfl|ha
  ·exact Nat.ne_of_gt (Nat.lt_of_lt_of_le I2.lt hC)
  ·let(v,q):=I2.cell x a ha;exact Nat.ne_of_gt (Nat.lt_of_lt_of_le q.lt hC)
 exact{m,hm.sameBut sb hCa,λh' hs'=>{_,_,I2.letgo I5 hC (by rw[qe (Ne.symm hlC)];exact nC) hs',fin l nl}}
end
mutual
def DV(K:Frag)(H:Hp):PyData->V->Prop
 |.none,v=>v=.non
 |.bool b,v=>v=.bl b
 |.int i,v=>v=.int i
 |.str x,v=>v=.str x
 |.list ds,v=>∃a xs,v=.ref a/\SqL K H a xs/\DVs K H ds xs
 |.tuple ds,v=>∃a xs,v=.ref a/\SqT K H a xs/\DVs K H ds xs
 |.dict _,_=>False
def DVs(K:Frag)(H:Hp):List PyData->List V->Prop
 |[],xs=>xs=[]
 | d::ds,xs=>∃x r,xs=x::r/\DV K H d x/\DVs K H ds r
end
section
variable{X:Cx}{pins:PP}{Z:St}{H:Hp}{s:Shared}
mutual
theorem DV.reads(I:Inv X pins Z H s):∀{d:PyData} {v:V} {u:Value},DV X.K H d v->qF v u->∃as,Reads s.heap u d as
 |.none,v,u,h,r=>by
  have h:v=.non:=by simpa [DV] using h
  subst h;cases r;exact{_,Reads.none}
 |.bool b,v,u,h,r=>by
  have h:v=.bl b:=by simpa [DV] using h
  subst h;cases r;exact{_,Reads.bool b}
 |.int i,v,u,h,r=>by
  have h:v=.int i:=by simpa [DV] using h
  subst h;let(t,rfl):=r;exact{_,Reads.int i t}
 |.str x,v,u,h,r=>by
  have h:v=.str x:=by simpa [DV] using h
  subst h;let(t,rfl):=r;exact{_,Reads.str x t}
 |.list ds,v,u,h,r=>by
  have h:∃a xs,v=.ref a/\SqL X.K H a xs/\DVs X.K H ds xs:=by simpa [DV] using h
  let(a,xs,rfl,hq,hd):=h;cases r;let(its,rv,pl,_):=I.list hq;let(as,ra):=DVs.reads I hd rv;let(o,ho,hc,n,hdd):=pl.isList;exact{_,reads_list_at ho hc hdd (-ra:)}
 |.tuple ds,v,u,h,r=>by
  have h:∃a xs,v=.ref a/\SqT X.K H a xs/\DVs X.K H ds xs:=by simpa [DV] using h
  let(a,xs,rfl,hq,hd):=h;cases r;let(its,rv,pl,_):=I.tuple hq;let(as,ra):=DVs.reads I hd rv;let(o,ho,hc,n,hdd):=pl;exact{_,reads_tuple_at ho hc hdd (-ra:)}
 |.dict _,v,u,h,r=>by simp[DV]at h
theorem DVs.reads(I:Inv X pins Z H s):∀{ds:List PyData} {vs:List V} {us:List Value},DVs X.K H ds vs->qu vs us->∃as,ReadsAll s.heap us ds as
 |[],vs,us,h,r=>by
  have h:vs=[]:=by simpa [DVs] using h
  subst h;cases r;exact{_,ReadsAll.nil}
 | d::ds,vs,us,h,r=>by
  have h:∃x r,vs=x::r/\DV X.K H d x/\DVs X.K H ds r:=by simpa [DVs] using h
  let(x,rr,rfl,h1,h2):=h
  cases r with
  |cons r1 r2=>let(as,ra):=DV.reads I h1 r1;let(bs,rb):=DVs.reads I h2 r2;exact{_,ReadsAll.cons ra rb}
end
def qnL(K:Frag):R2:=λx y H Q=>∃d e,DV K H d x/\DV K H e y/\SeqAt.shaped d=true/\SeqAt.shaped e=true/\Q (.bl (PyData.eqv d e)) H
def qnM(K:Frag):R2:=λx y H Q=>∃d e,DV K H d x/\DV K H e y/\SeqAt.shaped d=true/\SeqAt.shaped e=true/\Q (.bl (!PyData.eqv d e)) H
def qjh(hu:X.A.units+64 < cLine):OpR X (compareOp .Eq) (qnL X.K):=by intro pins s Z H x y v u Q I rx ry h;let(d,e,hd,he,sd,se,q):=h;let(as,ra):=DV.reads I hd rx;let(bs,rb):=DV.reads I he ry;exact eq_dataH ra rb sd se hu ⟨.bl _,H,I,rfl,q⟩
def qji(hu:X.A.units+64 < cLine):OpR X (compareOp .NotEq) (qnM X.K):=by intro pins s Z H x y v u Q I rx ry h;let(d,e,hd,he,sd,se,q):=h;let(as,ra):=DV.reads I hd rx;let(bs,rb):=DV.reads I he ry;exact ne_dataH ra rb sd se hu ⟨.bl _,H,I,rfl,q⟩
def qeq:qO X (.builtin "isinstance") (λvs H Q=>∃x n t b,vs=[x,.ty n]/\TyOf X.K H x t/\PySem.W.kitOne X.K t (.type n)=some b/\Q (.bl b) H):=by intro pins s Z H xs us Q I r h;let(x,n,t,b,rfl,ty,e,q):=h;let(u,w,rfl,rx,rn):=Qz r;cases rn;exact QD I rx ty e λtk=>{.bl b,H,I.tok tk,rfl,q}
def qnN(te:TE)(tl th:TO)(ts:TE)(K:Frag):TE:=λZ H Q=>te Z H λx H1=>tl Z H1 λl H2=>th Z H2 λu H3=>ts Z H3 λz H4=>∃a xs st ys,x=.ref a/\SqL K H4 a xs/\z=.int st/\st≠0/\ys.length<=xs.length/\(∀its:List Value,qu xs its->qu ys (slicePick its.toArray l u (some st)).toList)/\∀p,H4 p=none->Q (.ref p) (upd H4 p (.lst ys))
def qcH{e st:Expr}{te ts:TE}{lo hi:Option Expr}{tl th:TO}{pos p2:Pos}(he:PE X e te)(hl:PO X lo tl)(hu:PO X hi th)(hst:PE X st ts):PE X (.Subscript e (.Slice lo hi (some st) p2) pos) (qnN te tl th ts X.K):=by intro pins s Z H Q I h;refine Subscript_ (thn (he pins s Z H _ I h) λv s1 hq1=>?_);let(x,H1,I1,r1,q1):=hq1;refine wpAny_Slice (thn (hl pins s1 Z H1 _ I1 q1) λvl s2 ⟨l,H2,I2,pl,q2⟩=>thn (hu pins s2 Z H2 _ I2 q2) λvu s3 hq1=>?_);let(u,H3,I3,pu,q3):=hq1;rw[evalPart_some];refine thn (hst pins s3 Z H3 _ I3 q3) λvs s4 hq1=>?_;let(z,H4,I4,r4,q4):=hq1;let(a,xs,k,ys,rfl,hq,rfl,h0,hle,hys,q):=q4;cases r1;let(t,rfl):=r4;have I5:Inv X pins Z H4 { s4 with heap:=s4.heap.push { cls:=.type "slice",data:=.fields #[vl,vu,.int k t] } }:=I4.kept (t':=s4.toks) λb ob q=>Heap.get?_push_of_some _ q;let(its,rv,ht,hz):=I5.list hq;have hlen:=rv.length;show wpAny (model X.prog X.w) X.A (subscriptTail e (.Slice lo hi (some st) p2) (.ref a) (.ref s4.heap.objs.size)) (EP X pins Z Q) X.xe { s4 with heap:=s4.heap.push { cls:=.type "slice",data:=.fields #[vl,vu,.int k t] } };refine tail_any ht.isList.typeIs slot_list_getitem.lookup ?_ rfl;refine wpAny_getItem_list_slice ht.isList (Heap.IsSliceOf.new ..) pl pu (.int k t) (λe=>h0 (Option.some.inj e)) ?_ (by rw[List.size_toArray];lia);have hv:=hys its rv;generalize hP:slicePick its.toArray l u (some k)=P at hv ⊢;refine{.ref _,_,I5.laid (t':=s4.toks) (o:=.lst ys) (λb ob q=>Heap.get?_push_of_some _ q) (Nat.le_refl _) ?_,rfl,q _ (I5.hok.fresh (Nat.le_refl _))};exact{by lia,P.toList,0,hv,by rw[Array.toArray_toList];exact Heap.get?_push_size _ rfl}
end
section
variable{X:Cx}
def YK(xs:List V)(lo hi st:Option Int):List V:=
 (sliceRange (sliceBounds lo hi st xs.length).1 (sliceBounds lo hi st xs.length).2.1 (sliceBounds lo hi st xs.length).2.2).filterMap (xs[·]?)
theorem JE{xs:List V}{lo hi st:Option Int}:∀its:List Value,qu xs its->qu (YK xs lo hi st) (slicePick its.toArray lo hi st).toList:=λits r=>by
 unfold YK slicePick;rw[List.size_toArray,r.length];generalize sliceRange _ _ _=l
 induction l with
 |nil=>exact .nil
 |cons i l ih=>
  cases h:xs[i]? with
  |none=>
   have:=r.none_of h
   simpa [List.filterMap_cons,h,this] using ih
  |some x=>
   let(u,hu,ru):=r.get h;have ih':qu (l.filterMap (xs[·]?)) (l.filterMap (its[·]?)):=(-ih:)
   have:qu (x::l.filterMap (xs[·]?)) (u::l.filterMap (its[·]?)):=.cons ru ih'
   simpa [List.filterMap_cons,h,hu] using this
def qer(xs:List V)(lo hi st:Option Int):(YK xs lo hi st).length<=xs.length:=by
 have h:=JE (xs:=xs) (lo:=lo) (hi:=hi) (st:=st)
 have e:qu (List.replicate xs.length V.non) (List.replicate xs.length Value.none):=by
  generalize xs.length=n
  induction n with
  |zero=>exact .nil
  |succ n ih=>exact .cons rfl ih
 have h2:=JE (lo:=lo) (hi:=hi) (st:=st) _ e;have h3:=h2.length;have h4:=slicePick_size_le (List.replicate xs.length Value.none).toArray lo hi st;have h5:(List.replicate xs.length Value.none).toArray.size=xs.length:=by simp
 rw[h5]at h4
 have e1:(YK (List.replicate xs.length V.non) lo hi st).length=(YK xs lo hi st).length:=by
  unfold YK;rw[List.length_replicate];generalize sliceRange _ _ _=l
  induction l with
  |nil=>rfl
  |cons i l ih=>
   by_cases hi:i < xs.length
   ·simp[List.filterMap_cons,hi,ih]
   ·simp[List.filterMap_cons,hi,ih]
 rw[<-e1,h3];exact h4
end
def Ji(osc:Scope)(N:List Str)(fr:List Nat)(sc:Scope):Bool:=
 sc.kind == .function&&(sc.names.all λx=>x.2 != .cell&&(x.2 != .local||sc.names.lookup x.1 == some .local)&&(x.2 != .free||(osc.names.lookup x.1 == some .cell||osc.names.lookup x.1 == some .free)))&&fr.all λi=>sc.names.lookup (N.getD i "") == some .free
def qp.upd{H:Hp}{a:Addr}{o:HO}(h:H a=none):qp H (upd H a o):=λb u e=>by rw[qe (qP e h)];exact e
end L2
namespace TS
open PySem PyProof.Rows
def iO:KeyOrd where
 α:=Int
 blt p q:=decide (p < q)
 irrefl a:=by simp
 trans a b c h1 h2:=by
  simp at h1 h2 ⊢
  lia
 negTrans a b c h:=by
  simp at h ⊢
  lia
 total a b h1 h2:=by
  simp at h1 h2
  lia
theorem YL:∀{ns:List Int} {vs:List Value},L2.qu (ns.map L2.V.int) vs->IntsAre vs ns
 |[],_,.nil=>.nil
 | n::ns,_,.cons r t=>by let(k,rfl):=r;exact .cons _ _ (YL t)
theorem Jj:∀{ns:List Int} {vs:List Value},L2.qu (ns.map L2.V.int) vs->∀v∈vs,∃n t,v=Value.int n t
 |[],_,.nil,_,h=>nomatch h
 | n::ns,_,.cons r rs,v,h=>by
  rcases List.mem_cons.mp h with rfl|h
  ·let(k,rfl):=r;exact⟨n,k,rfl⟩
  ·exact Jj rs v h
theorem qaD:∀{ns:List Int} {vs:List Value},L2.qu (ns.map L2.V.int) vs->vs.map nOf=ns
 |[],_,.nil=>rfl
 | n::ns,_,.cons r rs=>by let(k,rfl):=r;rw[List.map_cons,qaD rs];rfl
theorem JF:∀{vs:List Value},(∀v∈vs,∃n t,v=Value.int n t)->L2.qu ((vs.map nOf).map L2.V.int) vs
 |[],_=>.nil
 | v::vs,h=>by let(n,t,rfl):=h v List.mem_cons_self;exact .cons ⟨t,rfl⟩ (JF λu hu=>h u (List.mem_cons_of_mem _ hu))
section
variable{prog:Program}{w:World}{A:Around}{E:PQ}{s:Shared}
def qbx{vs:List Value}{ns:List Int}(h:L2.qu (ns.map L2.V.int) vs):Sorts prog w s vs iO (λx=>nOf x.1) oneType' where
 kind:=λh2 A E s1 Q g q=>by rw[ksk_kind (keys:=vs.toArray) (kz:=ns) (YL h) (-h2:)];exact wpAny_pure q
 lt:=λA E s1 g x y hx hy st Q hk q=>by let(n,t,e1):=Jj h _ (j7 hx).2;let(m,u,e2):=Jj h _ (j7 hy).2;have q:Q (some (iO.blt (nOf x.1) (nOf y.1))) st:=q;rw[lt'_eq];refine wpS_bind (wpS_get ?_);rw[hk];rw[e1,e2]at q ⊢;rw[keyLt'_oneType];refine wpS_bind (wpS_lift (wpAny_attempt (oneLt_int ⟨rfl,?_⟩)));exact wpS_pure q
def qes{vs:List Value}{ns:List Int}(h:L2.qu (ns.map L2.V.int) vs){st':SortSt}(pm:(arrOf st').Perm (pairsOf vs))(sr:Srt iO (λx=>nOf x.1) (arrOf st') 0 (pairsOf vs).size) :
  ∃ms:List Int,L2.qu (ms.map L2.V.int) ((arrOf st').map (·.2)).toList/\ms.Perm ns/\ms.Pairwise (·<=·):=by
 have hl:(arrOf st').toList.Perm (vs.zip vs):=by
  have:=Array.perm_iff_toList_perm.mp pm
  rwa[pairsOf_toList]at this
 have hout:((arrOf st').map (·.2)).toList.Perm vs:=by
  rw[Array.toList_map]
  have:=hl.map (·.2)
  rwa[List.map_snd_zip (Nat.le_refl _)]at this
 refine{((arrOf st').map (·.2)).toList.map nOf,JF λv hv=>Jj h v (hout.mem_iff.mp hv),?_,?_}
 ·have:=hout.map nOf
  rwa[qaD h]at this
 ·rw[Array.toList_map,List.map_map];have h0:(arrOf st').size=(pairsOf vs).size:=pm.size_eq;rw[<-h0]at sr
  have:=sr.pw
  refine List.pairwise_map.mpr ?_;refine List.Pairwise.imp_of_mem (λ{a b} ha hb hab=>?_) this;have ea:=(mem_zip_self (hl.mem_iff.mp ha)).1;have eb:=(mem_zip_self (hl.mem_iff.mp hb)).1;have hab:iO.blt (nOf b.1) (nOf a.1)=false:=hab;rw[ea,eb]at hab;unfold iO at hab;simp at hab;exact hab
def qby{v:Value}{Q:PQ}
  (hc:∀A':Around,A'.handled=A.handled->wpAny (model prog w) A' (collect v) (λvs s1=>∃ns,L2.qu (ns.map L2.V.int) vs/\vs.length<=sizeLine/\
   ∀(h2:Heap) (ms:List Int) (ws:Array Value) (e:Nat),L2.qu (ms.map L2.V.int) ws.toList->ms.Perm ns->ms.Pairwise (·<=·)->(∀b o,s1.heap.get? b=some o->h2.get? b=some o)->h2.get? s1.heap.objs.size=some (seqObj "list" ws e)->Q (.ref s1.heap.objs.size) { s1 with heap:=h2 }) (λ_ _=>False) s) :
  wpAny (model prog w) A (call (.builtin "sorted") [v]) Q E s:=by
 refine Calls.call_function_entry kind_sorted plain_sorted entry_sorted (args_sorted1 _) ?_;unfold Builtin.«sorted»;refine wpAny_bind (m:=checkCount "sorted" 1 1 _) (wpAny_pure (wpAny_bind ?_));refine wpAny_mono (hc _ rfl) (λvs s1 h=>?_) (λ_ _ h=>h.elim);let(ns,hv,hsz,h):=h;refine wpAny_bind (wpAny_newList ?_ hsz);show wpAny _ _ _ _ _ { s1 with heap:=s1.heap.push (seqObj "list" vs.toArray 0) };have hoL:(s1.heap.push (seqObj "list" vs.toArray 0)).get? s1.heap.objs.size=some (seqObj "list" vs.toArray 0):=Heap.get?_push_size _ rfl
 have old:∀b o,s1.heap.get? b=some o->(s1.heap.push (seqObj "list" vs.toArray 0)).get? b=some o/\b≠s1.heap.objs.size:=λb o e=>{Heap.get?_push_of_some _ e,Nat.ne_of_lt (Heap.lt_size e)}
 have S:Sorts prog w s1 vs iO (λx=>nOf x.1) oneType':=qbx hv
 have fin:∀st':SortSt,(arrOf st').Perm (pairsOf vs)->Srt iO (λx=>nOf x.1) (arrOf st') 0 (pairsOf vs).size->Q (.ref s1.heap.objs.size) { s1 with heap:=sortedHeap (s1.heap.push (seqObj "list" vs.toArray 0)) s1.heap.objs.size vs ((arrOf st').map (·.2)) }:=λst' pm sr=>by let(ms,h1,h2,h3):=qes hv pm sr;let(e,he):=sortedHeap_at (out:=(arrOf st').map (·.2)) hoL;refine h _ ms _ e h1 h2 h3 (λb o eb=>?_) he;have hlt:=Heap.lt_size eb;rw[sortedHeap_old (Nat.ne_of_lt hlt) (by rw[size_push'];exact Nat.lt_succ_of_lt hlt)];exact Heap.get?_push_of_some _ eb
 refine wpAny_bind (wpAny_holding (wpAny_call_entry slot_list_sort ⟨_,hoL,rfl⟩ entry_list_sort (qcA S hoL hsz old λst' a1 a2=>{_,rfl,?_}) (args_list_sort _)));exact wpAny_pure ⟨_,rfl,fin st' a1 a2⟩
end
end TS
namespace L2
open PySem PySem.Spec PyProof.Rows PySem.W
structure NX(fs:List Addr)(e:Addr)(oT:Option Addr)(oe:Obj)(vs:Array Value)(T':Addr)(fl:Value)(h h':Heap):Prop where
 kept:∀b o,b∉fs->b≠e->oT≠some b->h.get? b=some o->h'.get? b=some o
 frame:∀b o,b∈fs->h.get? b=some o->∃sl,h'.get? b=some { o with slots:=sl }
 obj:∃o' vs',h'.get? e=some o'/\o'.cls=oe.cls/\o'.dict=oe.dict/\o'.data=.fields vs'/\vs'[0]?=vs[0]?/\vs'[1]?=some (.ref T')
 new:h.get? T'=none
 ne:T'≠e
 ent:∃ot ts,h'.get? T'=some ot/\ot.data=.fields ts/\ts[3]?=some fl
section
variable{M:Model}{A:Around}{E:PQ}{s:Shared}{base:Heap}{env:Env}{outer:List Env}{L e:Addr}{oe:Obj}{vs:Array Value}{Q:Unit->Shared->Prop}
def qg0(hl:s.heap.FunFrames base (env::outer))(he:s.heap.get? e=some oe)(hd:oe.data=.fields vs):e∉frs (env::outer):=λhm=>by let(_,o,ho,hnf):=hl.mem hm;rw[he]at ho;cases ho;exact hnf vs hd
def Yg{head:Value}{hadNext:Bool}(hfr:A.frames=some (env::outer))(hl:s.heap.FunFrames base (env::outer))(hf:env.frame=some L)(he:s.heap.get? e=some oe)(hd:oe.data=.fields vs)(hsz:1 < vs.size)
  (k:∀h' T',NX (frs (env::outer)) e none oe vs T' (rawInt L) s.heap h'->Q () { s with heap:=h' }) :
  wpAny M A (do let fr<-frameOf env;let pl<-entryPlaceOf L hadNext;let en<-EntryCells.newEntry head fr .none (rawInt L) .none pl;setField (.ref e) 1 en) Q E s:=by
 have hne:=qg0 hl he hd;refine wpAny_bind (wpAny_frameOf_fun hfr hl hf λh1 so=>wpAny_bind (wpAny_entryPlaceOf λpl hpl=>wpAny_bind ?_));let(so1,so2,so3):=so;have e1:h1.get? e=some oe:=(so2 e hne).trans he;simp![EntryCells.newEntry,newFields];refine wpAny_newObj_type ?_ (hpl.sizeOk5 _ _ _ _ _);generalize hob:(⟨.type "traceback",none,.fields ([head,.ref L,.none,rawInt L,.none]++(if pl.isEmpty then List.replicate 6 Value.none else pl)).toArray,#[]⟩:Obj)=tb;have hts:∃ts,tb.data=.fields ts/\ts[3]?=some (rawInt L):={_,by rw[<-hob],by simp};have e2:(h1.push tb).get? e=some oe:=Heap.get?_push_of_some _ e1;refine wpAny_setField e2 hd hsz (k _ h1.objs.size ?_);have hTe:h1.objs.size≠e:=Nat.ne_of_gt (Heap.lt_size e1)
 have up:∀b o,b≠e->h1.get? b=some o->((h1.push tb).update e (Obj.mapFields (·.setIfInBounds 1 (Value.ref h1.objs.size)))).get? b=some o:=λb o hb q=>by rw[Heap.get?_update_other _ _ (Ne.symm hb)];exact Heap.get?_push_of_some _ q
 have hdt:=Obj.data_mapFields hd (·.setIfInBounds 1 (Value.ref h1.objs.size));refine{λb o h1' h2' _ q=>up b o h2' ((so2 b h1').trans q),λb o hb q=>?_,?_,?_,hTe,?_}
 ·let(sl,z):=so3 b o q;exact{sl,up b _ (λz=>hne (z▸hb)) z}
 ·refine{_,_,Heap.get?_update_self _ e2 (Obj.isFreed_of_fields hdt),Obj.cls_mapFields _ _,?_,hdt,?_,?_}
  ·let(c1,c2,c3,c4):=oe;cases hd;rfl
  ·rw[Array.getElem?_setIfInBounds_ne (2:)]
  ·simp[hsz]
 ·cases q:s.heap.get? h1.objs.size with
  |none=>rfl
  |some o=>let(sl,z):=so3 _ o q;exact absurd (Heap.lt_size z) (Nat.lt_irrefl _)
 ·let(ts,t1,t2):=hts;refine{tb,ts,?_,t1,t2};rw[Heap.get?_update_other _ _ (Ne.symm hTe)];exact Heap.get?_push_size _ (by rw[<-hob];rfl)
def qg1(h:Heap)(e:Addr)(vs:Array Value):Option Addr->Prop
 |none=>vs[1]?=some .none
 |some T=>vs[1]?=some (.ref T)/\T≠e/\∃ot ts,h.get? T=some ot/\ot.data=.fields ts/\ts[3]?=some .none
theorem qjj{oT:Option Addr}(hfr:A.frames=some (env::outer))(hl:s.heap.FunFrames base (env::outer))(hf:env.frame=some L)(he:s.heap.get? e=some oe)(hd:oe.data=.fields vs)(hb:qg1 s.heap e vs oT)
  (k:∀h' T',NX (frs (env::outer)) e oT oe vs T' (rawInt L) s.heap h'->Q () { s with heap:=h' }):wpAny M A (noteFrame (.ref e) env) Q E s:=by
 simp![noteFrame,hf]
 cases oT with
 |none=>have hv:vs[1]?=some .none:=hb;have hsz:1 < vs.size:=(Array.getElem?_eq_some_iff.mp hv).1;refine wpAny_bind (wpAny_field he hd hv ?_);rw[if_neg (2:)];exact Yg hfr hl hf he hd hsz k
 |some T=>
  let(hv,hTe,ot,ts,hT,hdT,h3):=hb;have hsz:1 < vs.size:=(Array.getElem?_eq_some_iff.mp hv).1;refine wpAny_bind (wpAny_field he hd hv ?_);rw[if_pos (show(Value.ref T != Value.none)=true by simp)];refine wpAny_bind (wpAny_field hT hdT h3 ?_);rw[if_neg (show ¬ ((Value.none == rawInt L)=true) by simp[rawInt])];refine wpAny_bind (wpAny_setField hT hdT (Array.getElem?_eq_some_iff.mp h3).1 ?_);have oth:∀{b:Addr},b≠T->(s.heap.update T (Obj.mapFields (·.setIfInBounds 3 Value.none))).get? b=s.heap.get? b:=λhb=>Heap.get?_update_other _ _ (Ne.symm hb)
  have nT:∀{b:Addr} {o:Obj},s.heap.get? b=some o->(∀vs,o.data≠.fields vs)->b≠T:=λ{b o} q hn z=>by rw[z,hT]at q;cases q;exact hn ts hdT
  have hl2:(s.heap.update T (Obj.mapFields (·.setIfInBounds 3 Value.none))).FunFrames base (env::outer):=hl.of_keeps λb o q hn=>{o,(oth (nT q hn)).trans q,rfl};refine Yg (s:={ s with heap:=s.heap.update T (Obj.mapFields (·.setIfInBounds 3 Value.none)) }) hfr hl2 hf ((oth (Ne.symm hTe)).trans he) hd hsz λh' T' nx=>k h' T' ?_;let(n1,n2,n3,n4,n5,n6):=nx;refine{λb o h1 h2 h4 q=>n1 b o h1 h2 (5:) ((oth (λz=>h4 (by rw[z]))).trans q),λb o hb q=>n2 b o hb ((oth ?_).trans q),n3,?_,n5,n6}
  ·let(_,o',ho',hn):=hl.mem hb;exact nT ho' hn
  ·cases q:s.heap.get? T' with
   |none=>rfl
   |some o=>
    by_cases z:T'=T
    ·subst z
     have:=Heap.get?_update_self (Obj.mapFields (·.setIfInBounds 3 Value.none)) hT (Obj.isFreed_of_fields (Obj.data_mapFields hdT _))
     rw[this]at n4;cases n4
    ·rw[oth z,q]at n4;cases n4
def qet{fs:List Addr}{oT:Option Addr}{T':Addr}{fl:Value}{h:Heap}(nx:NX fs e oT oe vs T' fl h s.heap)(k:∀h',NX fs e oT oe vs T' .none h h'->Q () { s with heap:=h' }):wpAny M A (setFlight (.ref e) none) Q E s:=by
 let(n1,n2,(o',vs',o1,o2,o3,o4,o5,o6),n4,n5,ot,ts,t1,t2,t3):=nx;have h3:3 < ts.size:=(Array.getElem?_eq_some_iff.mp t3).1;unfold setFlight;refine wpAny_bind (wpAny_field o1 o4 o6 ?_);rw[if_pos (show(Value.ref T' != Value.none)=true by simp)];refine wpAny_setField t1 t2 h3 (k _ ?_);have oth:∀{b:Addr},b≠T'->(s.heap.update T' (Obj.mapFields (·.setIfInBounds 3 ((none:Option Addr).elim Value.none λf=>rawInt f)))).get? b=s.heap.get? b:=λhb=>Heap.get?_update_other _ _ (Ne.symm hb)
 have nT:∀{b:Addr} {o:Obj},h.get? b=some o->b≠T':=λ{b o} q z=>by rw[z,n4]at q;cases q
 have hdt:=Obj.data_mapFields t2 (·.setIfInBounds 3 ((none:Option Addr).elim Value.none λf=>rawInt f));refine{λb o h1 h2 h4 q=>(oth (nT q)).trans (n1 b o h1 h2 h4 q),λb o hb q=>?_,{o',vs',(oth (Ne.symm n5)).trans o1,o2,o3,o4,o5,o6},n4,n5,_,_,Heap.get?_update_self _ t1 (Obj.isFreed_of_fields hdt),hdt,by simp[h3]};let(sl,z):=n2 b o hb q;exact{sl,(oth (nT q)).trans z}
def qg2{oT:Option Addr}(hfr:A.frames=some (env::outer))(hl:s.heap.FunFrames base (env::outer))(hf:env.frame=some L)(he:s.heap.get? e=some oe)(hd:oe.data=.fields vs)(hb:qg1 s.heap e vs oT)
  (k:∀h' T',NX (frs (env::outer)) e oT oe vs T' .none s.heap h'->Q () { s with heap:=h' }):wpAny M A (leaving env (.ref e)) Q E s:=by
 unfold leaving;exact wpAny_bind (qjj hfr hl hf he hd hb λh1 T' nx=>qet (s:={ s with heap:=h1 }) nx λh2 nx2=>k h2 T' nx2)
end
def Fly(h:Heap)(x:Addr)(C:Addr)(od oT:Option Addr):Prop:=∃oe vs,h.get? x=some oe/\oe.cls=.ref C/\oe.dict=od/\oe.data=.fields vs/\qg1 h x vs oT
def CX1(P:Program)(w:World):CXT:=λouter H s E e s'=>∃x T C od H',e=.ref x/\s'.os=s.os/\AllBare s'.gens/\Un (frs outer) [] H H' s.heap s'.heap/\HOk P w H' s'.heap/\H' x=none/\H' T=none/\
 s.heap.get? x=none/\s.heap.get? T=none/\Fly s'.heap x C od (some T)/\E (.ref C) od H'
theorem qaE{P:Program}{w:World}{H:Hp}{h:Heap}{a:Addr}{o:HO}(x:qQ P w H h a o):∃ob,h.get? a=some ob:=by
 cases o with
 |lst xs=>let(z,its,n,r,e):=x;exact{_,e}
 |tup xs=>let(z,its,r,ob,e,c):=x;exact{_,e}
 |dK kvs=>let(z,y,vs,r,ob,es,ep,e,c):=x;exact{_,e}
 |dT kvs=>let(z,y,xs,r,ob,es,ep,e,c):=x;exact{_,e}
 |set S n=>let(ob,es,ep,t,e,c):=x;exact{_,e}
 |ins C dx fs=>let(d,z,ne,e,_):=x;exact{_,e}
 |own y=>let(ob,e):=x;exact{_,e}
 |xd fs=>let(mA,(od,es,ep,e,c),r):=x;exact{_,e}
 |rng lo hi=>let(t,u,v,e):=x;exact{_,e}
 |frz ob u=>let(e,q):=x;exact{_,e}
 |tbl ps=>exact{_,x}
 |met f y=>exact{_,x}
 |ext φ=>let(p,(o,e),st):=x;exact{_,e}
section
variable{X:Cx}{pins:PP}{Z:St}{H:Hp}{s:Shared}
structure Mine(X:Cx)(pins:PP)(H:Hp)(x:Addr)(oT:Option Addr):Prop where
 hx:H x=none
 x0:X.s₀.heap.get? x=none
 hT:∀T,oT=some T->H T=none/\X.s₀.heap.get? T=none
 pin:∀p∈X.pn++pins,p.1≠x/\oT≠some p.1
variable{x T':Addr}{oT:Option Addr}{oe:Obj}{vs:Array Value}{h':Heap}
def qcI(I:Inv X pins Z H s)(hex:X.ex=[])(M:Mine X pins H x oT)(fx:∃o vs,s.heap.get? x=some o/\o.data=.fields vs)(fT:∀T,oT=some T->∃o vs,s.heap.get? T=some o/\o.data=.fields vs)(nx:NX (frs X.stack) x oT oe vs T' .none s.heap h') :
  Inv X pins Z H { s with heap:=h' }:=by
 let(k1,k2,_):=nx;have nex:∀{b:Addr},b∉X.ex:=λ{b} hb=>by rw[hex]at hb;cases hb
 have s0x:∀{b:Addr} {o:Obj},X.s₀.heap.get? b=some o->b≠X.env.locals/\b≠x/\oT≠some b:=λ{b o} e=>{Nat.ne_of_lt (Nat.lt_of_lt_of_le (Heap.lt_size e) I.ok.above),(λz=>by rw[z,M.x0]at e;cases e),(λz=>by rw[(M.hT b z).2]at e;cases e)}
 have frm:∀{b:Addr},b∈frs X.stack->b=X.env.locals\/b∈X.fs:=λ{b} hb=>List.mem_cons.mp (I.stkSub b hb)
 have any:∀{b:Addr} {o:Obj},s.heap.get? b=some o->(∀vs,o.data≠.fields vs)->∃sl,h'.get? b=some { o with slots:=sl }:=λ{b o} e hn=>by
  by_cases hm:b∈frs X.stack
  ·exact k2 b o hm e
  ·refine{o.slots,k1 b o hm (λz=>?_) (λz=>?_) e}
   ·let(o',v',q,qd):=fx;rw[z,q]at e;cases e;exact hn v' qd
   ·let(o',v',q,qd):=fT b z;rw[q]at e;cases e;exact hn v' qd
 have cellK:∀{c:Addr} {v:Option Value},s.heap.IsCell c v->h'.IsCell c v:=λ{c v} ⟨o,ho,hd⟩=>by
  let(sl,e):=any ho λvs z=>by rw[hd]at z;cases z
  exact{_,e,hd}
 refine{I.ok,I.os,I.bare,{λb o e n hb hx=>?_,λb o e n hb hx=>?_,I.base.free,λb o e hx=>?_,I.base.tups,I.base.frzs,I.base.tbls},?_,λy c e=>?_,I.free,I.freeC,λp hp=>?_,λa o e=>?_,I.len}
 ·let(z1,z2,z3):=s0x e;refine k1 b o (λz=>?_) z2 z3 (I.base.keep b o e n hb hx);rcases frm z with z|z
  ·exact z1 z
  ·exact hb z
 ·let(sl,e1):=I.base.slot b o e n hb hx;let(_,o',ho',hd):=I.ok.funs.mem hb;rw[e]at ho';cases ho';let(sl',e2):=any e1 hd;exact⟨sl',e2⟩
 ·let(o1,e1):=I.base.there b o e hx;let(z1,z2,z3):=s0x e
  by_cases hm:b∈frs X.stack
  ·let(sl,e2):=k2 b _ hm e1;exact{_,e2}
  ·exact{_,k1 b _ hm z2 z3 e1}
 ·let(m,(o,es,ep,ho,hd,r),hl):=I.loc;let(sl,e2):=any ho λvs z=>by rw[hd]at z;cases z
  refine{m,{_,es,ep,e2,hd,r},λi y v e1 e2 e3=>?_};let(u,r,l):=hl i y v e1 e2 e3;refine{u,r,?_};rcases l with l|⟨k,c,e,z⟩
  ·exact .inl l
  ·exact .inr ⟨k,c,e,cellK z⟩
 ·let(v,z):=I.cell y c e;exact{v,cellK z}
 ·let(e,n,ne,nf,d):=I.pin p hp;refine{k1 _ _ (λz=>?_) (M.pin p hp).1 (M.pin p hp).2 e,n,ne,nf,d};rcases frm z with z|z
  ·exact ne z
  ·exact nf z
 ·have trk:∀{b:Addr} {u:HO},H b=some u->b∉frs X.stack/\b≠x/\oT≠some b:=λ{b u} e=>
   ⟨(λz=>by rw[I.stkFree b z]at e;cases e),(λz=>by rw[z,M.hx]at e;cases e),(λz=>by rw[(M.hT b z).1]at e;cases e)⟩
  refine(I.hok a o e).stay (λb u hb q=>?_) (λ_ q=>q) λ_ _ q=>q
  have:b∉frs X.stack/\b≠x/\oT≠some b:=by
   rcases hb with z|z
   ·rw[z];exact trk e
   ·exact trk z
  exact k1 _ _ this.1 this.2.1 this.2.2 q
def NX.fly{C:Addr}{od:Option Addr}{h:Heap}{fs:List Addr}(nx:NX fs x oT oe vs T' .none h h')(hc:oe.cls=.ref C)(hd:oe.dict=od):Fly h' x C od (some T'):=by let(_,_,(o',vs',o1,o2,o3,o4,o5,o6),_,n5,ot,ts,t1,t2,t3):=nx;exact{o',vs',o1,o2.trans hc,o3.trans hd,o4,o6,n5,ot,ts,t1,t2,t3}
def Fly.fields{C:Addr}{od:Option Addr}{h:Heap}(fl:Fly h x C od oT):(∃o vs,h.get? x=some o/\o.data=.fields vs)/\∀T,oT=some T->∃o vs,h.get? T=some o/\o.data=.fields vs:=by let(o,vs,e1,_,_,e4,b):=fl;refine{⟨o,vs,e1,e4⟩,λT z=>?_};subst z;let(_,_,ot,ts,t1,t2,_):=b;exact⟨ot,ts,t1,t2⟩
theorem Inv.newH{x:Addr}(I:Inv X pins Z H s)(h:s.heap.get? x=none):H x=none:=by
 cases e:H x with
 |none=>rfl
 |some u=>let(o,q):=qaE (I.hok x u e);rw[h]at q;cases q
theorem Inv.new0{x:Addr}(I:Inv X pins Z H s)(hx:x∉X.ex)(h:s.heap.get? x=none):X.s₀.heap.get? x=none:=by
 cases e:X.s₀.heap.get? x with
 |none=>rfl
 |some o=>let(o',q):=I.base.there x o e hx;rw[h]at q;cases q
def qeu{E:XK}{C:Addr}{od:Option Addr}(I:Inv X pins Z H s)(hst:X.stack=X.env::X.outer/\X.env.frame=some X.env.locals)(hex:X.ex=[])(M:Mine X pins H x oT)(fl:Fly s.heap x C od oT)(q:E (.ref C) od H){E':PQ} :
  wpAny (model X.prog X.w) X.A (leaving X.env (.ref x)) (λ_ s''=>CX1 X.prog X.w X.outer X.Hv X.s₀ E (.ref x) s'') E' s:=by
 let(fx,fT):=fl.fields;let(oe,vs,e1,e2,e3,e4,b):=fl;have hfr:X.A.frames=some (X.env::X.outer):=by rw[<-hst.1];exact I.ok.frames
 have hl:=I.stack;rw[hst.1]at hl;refine qg2 hfr hl hst.2 e1 e4 b λh' T' nx=>?_;have nx2:=nx;rw[<-hst.1]at nx2;have I2:=qcI I hex M fx fT nx2;have no:∀b:Addr,b∉X.ex:=λb z=>by rw[hex]at z;cases z
 exact{x,T',C,od,H,rfl,I2.os,I2.bare,by rw[<-hex];exact I2.base,I2.hok,M.hx,I.newH nx.new,M.x0,I.new0 (no T') nx.new,nx.fly e2 e3,q}
end
section
variable{P:Program}{w:World}{K:Frag}{mg:PR}{base:Heap}{N:List Str}{qual:Str}{scope:Scope}{f:Addr}{cd:Value}{A:Around}{outer:List Env}{s:Shared}{H:Hp}{E:XK}
def qg3{X:Cx}{pins:PP}{Z:St}{H1 H2:Hp}{s1:Shared}{x T:Addr}(I:Inv X pins Z H1 s1)(hex:X.ex=[])(hx:H2 x=none)(hT:H2 T=none)(nx:s1.heap.get? x=none)(nT:s1.heap.get? T=none):Mine X pins H2 x (some T):=by
 have no:∀b:Addr,b∉X.ex:=λb z=>by rw[hex]at z;cases z
 refine{hx,I.new0 (no x) nx,λT' z=>by cases z;exact{hT,I.new0 (no T) nT},λp hp=>?_};let(e,_):=I.pin p hp;refine{λz=>?_,λz=>?_}
 ·rw[z,nx]at e;cases e
 ·cases z;rw[nT]at e;cases e
def qg4{E2:XK}(hE:∀c d h,E2 c d h->E c d h):zD (CX1 P w) (qch (CX1 P w) P w K mg base N qual scope f cd A outer s H E) E2:=λpins Z H1 s1 e s2 I h=>by let(x,T,C,od,H2,rfl,hos,hb,un,hok,hx,hT,nx,nT,fl,q):=h;have I2:Inv (qch (CX1 P w) P w K mg base N qual scope f cd A outer s H E) pins Z H2 s2:=I.call' (ch:=[]) hos un hok hb λb z=>absurd z (5:);exact qeu I2 ⟨rfl,rfl⟩ rfl (qg3 I rfl hx hT nx nT) fl (hE _ _ _ q)
def Fun.okx{x:Str}{st:Stmt}{fd:FuncData}{ps:List Str}{k:Nat}{sp:Sp}(F:Fun K x qual st f fd)(S:FnScope N ps (qh st))(len:∀vs H Q E,sp vs H Q E->vs.length=ps.length)
  (body:∀(cdv:Value) (A:Around) (outer:List Env) (s:Shared) (H:Hp) (vs:List V) (Q:VK) (E:XK),Room k (A.deeper (envOfC qual (qh st) s.heap.objs.size f cdv))->sp vs H Q E->
   ∃t,PSs (qch (CX1 P w) P w K mg base N qual (qh st) f cdv A outer s H E) (qA st) t/\t { nx:=λ_ H'=>Q .non H',rt:=Q } (y0 N vs) H):FnOk P w K mg base (CX1 P w) (k+1) f fd ps sp:=by
 let(oc,od,kV,doc,pm,an,cdv,ct,osl,rfl,lk,hcd):=F.ex;exact qiT lk hcd S len λA outer s H vs Q E hr hsp=>body cdv A outer s H vs Q E hr hsp
def FnOk.lift{fd:FuncData}{ps:List Str}{k:Nat}{sp:Sp}{CX:CXT}(F:FnOk P w K mg base CX0 k f fd ps sp):FnOk P w K mg base CX k f fd ps sp:=
 ⟨F.len,λA outer s H args us vs Q E hr he hb hv hs=>codeAny_mono (F.run A outer s H args us vs Q E hr he hb hv hs) λr s' h=>by
  cases r with
  |error e=>exact False.elim h
  |ok f=>cases f<;>exact h⟩
end
def ql6(x C:Addr)(od:Option Addr):HO:=.ext λh=>∃o,h.get? x=some o/\o.cls=.ref C/\o.dict=od/\notCls o=true
section
variable{prog:Program}{w:World}{A:Around}{E:PQ}{s:Shared}{K:Frag}{x C:Addr}{ox:Obj}
def qcJ{name:Str}{a g:Value}{od:Option Obj}(hc:(clsIn K C).isSome=true)(ha:findIn K (.ref C) name=some (some a))(hg:specialIn K a "__get__" = some (some g))(ht:takesIn K a=some true):findObj K C od name=some (.bind g a):=by let(cd,e):=Option.isSome_iff_exists.mp hc;simp[findObj,e,ha,hg,ht]
structure ExcIs(K:Frag)(C:Addr):Prop where
 cls:(clsIn K C).isSome=true
 ga:findIn K (.ref C) "__getattribute__" = some (some (.builtin "BaseException.__getattribute__"))
 gh:findIn K (.ref C) "__getattr__" = some none
 at_:findIn K (.ref C) "__class__" = some (some (.builtin "object.__class__"))
 get:specialIn K (.builtin "object.__class__") "__get__" = some (some (.builtin "getset_descriptor.__get__"))
 tk:takesIn K (.builtin "object.__class__")=some true
 obj:mroIn K C (.type "object")=some true
 base:mroIn K C (.type "BaseException")=some true
def qcK{Q:Option Value->Shared->Prop}(Y:K.In s.heap){od:Option Obj}(I:W.InstAt s.heap x ox C od)(hC:ExcIs K C)
  (h:Q (some (.ref C)) { s with toks:=s.toks+1 }):wpAny (model prog w) A (getAttr? (.ref x) "__class__") Q E s:=by
 let(hh,g,d,t,os):=s;have L0:=I.type (M:=model prog w);have L1:=looks_findIn (M:=model prog w) Y hC.ga;have L2:=looks_findIn (M:=model prog w) Y hC.gh;have L3:=looks_find (M:=model prog w) Y I (qcJ hC.cls hC.at_ hC.get hC.tk);have L4:=looks_mroIn (M:=model prog w) Y hC.base;have hbind:∀self,bindSpecial (.builtin "BaseException.__getattribute__") self=pure (.builtin "BaseException.__getattribute__",[self]):=λself=>by rfl
 unfold getAttr? getAttrBy? getAttrBy;refine wpAny_bind (wpAny_mkText (wpAny_bind (wpAny_attempt (wpAny_holding (wpAny_bind (L0.at (wpAny_bind (L1.at ?_))))))));show wpAny _ _ (getAttrByItsOwn _ _ _ _ _ _) _ _ _;unfold getAttrByItsOwn;refine wpAny_bind ?_;show wpAny _ _ (typeLookup (.ref C) "__getattr__") _ _ _;refine L2.at (wpAny_bind (wpAny_attempt (wpAny_holding ?_)));show wpAny _ _ (boundAndCalled _ _ _) _ _ _;unfold boundAndCalled;refine wpAny_bind ?_;rw[hbind];refine wpAny_pure ?_;refine wpAny_call (codeAny_call_builtin (3:) F.entry_bexc_ga ?_);have hk:builtinKind "BaseException.__getattribute__" = some .slot:=(3:)
 have hsp:splitId "BaseException.__getattribute__" = some ("BaseException","__getattribute__"):=(3:)
 have LI:Looks (model prog w) hh (isInstance (.ref x) (.type "BaseException")) true:=L0.andThen L4;have hargs:=F.args_bexc_ga (.ref x) (.str "__class__" t);simp![checkBuiltinCall,hk,hsp];refine wpAny_bind ?_;refine LI.at ?_;rw[if_neg (2:)];refine wpAny_of_eq hargs ?_;unfold Builtin.«object.__getattribute__»;refine wpAny_bind (wpAny_pure ?_);refine wpAny_bind (wpAny_pure ?_);refine wpAny_bind (L0.at (wpAny_bind (L3.at ?_)));show wpAny _ _ (holding [Value.builtin "object.__class__"] (call (.builtin "getset_descriptor.__get__") [.builtin "object.__class__",.ref x,.ref C]) >>= ret) _ _ _;refine wpAny_bind (wpAny_holding (wpAny_call (class_get (s:={hh,g,d,t+1,os}) (ox:=ox) (od:=od) Y I hC.obj ?_)));exact wpAny_pure (handed_on rfl (wpAny_pure h))
def qg5(hC:ExcIs K C):KitX K (.ref x) (.ref C) (λh=>∃ox od,W.InstAt h x ox C od) where
 ty:=λ_ _ _ ⟨_,_,I⟩=>I.type
 it:=λM h Y _=>by
  let(cd,e):=Option.isSome_iff_exists.mp hC.cls;unfold clsIn at e
  split at e
  ·rename_i ho;intro A' Q' E' s' k q;unfold isType loadHead;refine wpAny_bind (wpAny_loadPart (k _ _ (Y _ _ ho)) ?_);exact wpAny_pure q
  ·cases e
 ne:=λh tp dd its n sl Y htp=>by
  let(cd,e):=Option.isSome_iff_exists.mp hC.cls;refine Bool.eq_false_iff.mpr λq=>?_;have z:C=tp:=Value.ref.inj (beq_iff_eq.mp q);subst z;unfold clsIn at e
  split at e
  ·rename_i ho;have z:=(Y _ _ ho).symm.trans htp;cases z
  ·cases e
 ca:=λY ⟨_,_,I⟩ k=>qcK Y I hC k
end
section
variable{X:Cx}
def qg6(H:Hp)(x C:Addr)(od:Option Addr):Prop:=H x=some (ql6 x C od)/\∀dd,od=some dd->∃u,H dd=some u
theorem qg6.inst{pins:PP}{Z:St}{H:Hp}{s:Shared}{x C:Addr}{od:Option Addr}(I:Inv X pins Z H s)(h:qg6 H x C od):∃ox oo,W.InstAt s.heap x ox C oo:=by
 let(o,e1,e2,e3,e4):=(I.hok x _ h.1).1
 cases od with
 |none=>exact{o,none,e1,e2,e4,by rw[e3];trivial}
 |some dd=>let(u,hu):=h.2 dd rfl;let(ob,hob):=qaE (I.hok dd u hu);exact{o,some ob,e1,e2,e4,by rw[e3];exact hob}
def qcL:qO X (.builtin "isinstance") (λvs H Q=>∃x C od c cv b,vs=[.ref x,c]/\qg6 H x C od/\ExcIs X.K C/\qF c cv/\(∀u,qF c u->u=cv)/\kitOne X.K (.ref C) cv=some b/\Q (.bl b) H):=by intro pins s Z H xs us Q I r h;let(x,C,od,c,cv,b,rfl,hx,hC,rc,uq,e,q):=h;let(u,v,rfl,ru,rv):=Qz r;cases ru;obtain rfl:v=cv:=uq v rv;exact kia_one (qg5 hC) I.kIn (hx.inst I) e (λz=>nomatch z) λtk=>{.bl b,H,I.tok tk,rfl,q}
end
def Its(x:Str):It:={λi _=>i < x.cps.size,λi H v H'=>H'=H/\∃c,x.cps[i]?=some c/\v=.str {#[c]},λi _=>i=x.cps.size}
def qev{P:Program}{w:World}{K:Frag}{tg:Expr}{x:Str}{t:Tok}{it:Addr}{T:String}(hT:T = "str_ascii_iterator"\/T = "str_iterator")(W:∀A':Around,A'.handled=none->Walks P w A' it [it] [it] x.cps.size (SignAt x) (λi h=>h.IsStrIter it T x t i)) :
  Turn P w K tg (Its x) [it] it (λi h=>h.IsStrIter it T x t i) where
 mem:=by simp
 obj:=λi h st b hb=>by
  have e:b=it:=(-hb:)
  subst e;let(o,e,c,d):=st;exact{o,e,λv z=>by rw[d]at z;cases z}
 keep:=λi h h' st k=>let ⟨o,e,r⟩:=st;⟨o,k it (5:) o e,r⟩
 item:=by intro X hP hw hK hc i pins s Z H E I hf st hg;subst hP hw hK;let(f0,f1,f2,f3,f4,f5):=hf it (5:);refine(W X.A (I.ok.hd hc)).item i s _ _ hg st λv h' tk hv st' kk=>?_;let(c,u,hcx,rfl):=hv;have I1:Inv X pins Z H { s with heap:=h',toks:=tk }:=I.turned (λb o hb e=>kk b o (-hb:) e) f0 f1 f3 f4 f5;let(o,e1,e2,e3):=id st';refine{_,rfl,qb7 (s:={ s with heap:=h',toks:=tk }) e1 e2 e3 (by rcases hT with z|z<;>(rw[z];decide)) ⟨.str ⟨#[c]⟩,H,I1,⟨u,rfl⟩,⟨rfl,c,hcx,rfl⟩,st',λb hb=>(hf b hb).1⟩}
 done:=by intro X hP hw hK hc i pins s Z H E I hf st hg;subst hP hw hK;obtain rfl:i=x.cps.size:=hg;let(f0,f1,f2,f3,f4,f5):=hf it (5:);exact(W X.A (I.ok.hd hc)).done s _ _ st λh' tk kk=>{rfl,I.turned (λb o hb e=>kk b o (-hb:) e) f0 f1 f3 f4 f5}
 self:=λA i s Q E st h=>by
  rcases hT with z|z
  ·subst z;exact wpAny_pyIter_striter_ascii st h
  ·subst z;exact wpAny_pyIter_striter_wide st h
structure ClsFn(K:Frag)(C:Addr)(m:Str)(f:Addr):Prop where
 reads:readsIn K C (.type "type")=true
 sp:specialIn K (.ref C) "__getattribute__" = some (some (.builtin "type.__getattribute__"))
 at_:findCls K (.ref C) (.type "type") m=some (.val (.ref f))
 kp:keepIn K (.ref f)=true
section
variable{X:Cx}{CX:CXT}{k:Nat}{f C:Addr}{fd:FuncData}{ps:List Str}{sp:Sp}{dvs:List V}{ds:List Value}{E:XK}{x m:Str}{p pos apos:Pos}{e:Expr}{es:List Expr}{t:TA}
def qaF{pl:Sem Bool}(hC:ClsFn X.K C m f)(F:FnOk X.prog X.w X.K X.mg X.base CX k f fd ps sp)(hr:Room k X.A)(hg:Gl X x)(hm:X.mg x=some (.ref C))(hb:zg X.K fd ps ds)(hd:qu dvs ds)(hx:zD CX X E)(ha:PA X (e::es) t)
  (hdb:(x == ("__debug__" : Str))=false:=by decide) (hst:starEach (e::es) X.env=(false,eval e X.env)::starEach es X.env:=by rfl) (hpl:(backTo pos (starEach es X.env)).any (·.1)=false:=by rfl)
  (ht:eval (.Call (.Attribute (.Name x p) m apos) (e::es) [] pos) X.env=(do
   let ov<-eval (.Name x p) X.env
   standAt apos.atName
   let (f,first)<-holding [ov] (getMethod ov m pl)
   callWith pos f first (backTo pos (starEach (e::es) X.env)) (backToKw pos (keywordEach [] X.env))):=by rfl) :
  PE X (.Call (.Attribute (.Name x p) m apos) (e::es) [] pos) (qef sp dvs E t):=by
 intro pins s Z H Q I h;refine PySem.W.methodCall_KW (pl:=pl) (yx I hg hm ?_ hdb) ht;refine method_cls I.kIn hC.sp (cls_value I.kIn hC.reads hC.at_ rfl ?_);have I1:=I.tok (s.toks+1);refine PySem.W.callWith_K (first:=[]) (h₀:=X.base) I.ok.mod.kin hC.kp (thn (ha pos pins _ Z H _ I1 h) λus s2 z=>?_) hst hpl;let(vs,H2,I2,r,q):=z;exact{I2.kIn,QE F hr hb hd hx I2 r q}
end
def Itz(K:Frag)(a b:Addr):It:=
 ⟨λi H=>∃xs ys x y,SqL K H a xs/\SqL K H b ys/\xs[i]?=some x/\ys[i]?=some y,
  λi H v H'=>∃T x y,v=.ref T/\H T=none/\H'=upd H T (.tup [x,y])/\∀xs ys,SqL K H a xs->SqL K H b ys->xs[i]?=some x/\ys[i]?=some y,
  λi H=>∃xs ys,SqL K H a xs/\SqL K H b ys/\(xs.length<=i\/ys.length<=i)⟩
def ZSt(z TI TO i1 i2 a b:Addr)(i:Nat)(h:Heap):Prop:=IsZip h z TI TO .none/\IsPair h TI (.ref i1) (.ref i2)/\(∃u v,IsPair h TO u v)/\h.IsListIter i1 a i/\h.IsListIter i2 b i
def Inv.turnedAll{X:Cx}{pins:PP}{Z:St}{H:Hp}{s:Shared}{h':Heap}{t':Nat}{ch:List Addr}(I:Inv X pins Z H s)(k:∀b o,b∉ch->s.heap.get? b=some o->h'.get? b=some o)(hf:∀b∈ch,qbl X pins H b):Inv X pins Z H { s with heap:=h',toks:=t' }:=by
 have nch:∀{b:Addr} {u:HO},H b=some u->b∉ch:=λ{b u} e z=>by rw[(hf b z).1]at e;cases e
 refine I.step (g':=s.gens) (d':=s.drawn) (ch:=ch) (λb hb=>?_) (λb o _ _ hc e _=>k b o hc e) (λb o _ _ hc e _=>{o.slots,k b o hc e}) (λ_ _ _ _ n=>n) (λb o hc e=>{o,k b o hc e}) (λ_ _ e=>e) (λ_ _ _ e=>e) (λb ps e=>{#[],by rw[e];simp}) (λm hm=>?_) (λb u e=>?_) I.bare
 ·let(f0,f1,f2,f3,f4,f5):=hf b hb;exact⟨f3,f1,f4,f5⟩
 ·let(o,es,ep,ho,r):=hm;exact{o,es,ep,k _ o (λz=>(hf _ z).2.1 rfl) ho,r}
 ·refine(I.hok b u e).stay (λc v hc q=>k c v ?_ q) (λ_ q=>q) λ_ _ q=>q;rcases hc with z|z
  ·rw[z];exact nch e
  ·exact nch z
def Inv.turnedNew{X:Cx}{pins:PP}{Z:St}{H:Hp}{s:Shared}{h':Heap}{t':Nat}{ch:List Addr}{T:Addr}{ob:HO}(I:Inv X pins Z H s)(k:∀b o,b∉ch->s.heap.get? b=some o->h'.get? b=some o)(hf:∀b∈ch,qbl X pins H b)
  (hT:s.heap.get? T=none) (new:qQ X.prog X.w (upd H T ob) h' T ob):Inv X pins Z (upd H T ob) { s with heap:=h',toks:=t' }:=by
 have hH:H T=none:=I.newH hT;have nch:∀{b:Addr} {u:HO},H b=some u->b∉ch:=λ{b u} e z=>by rw[(hf b z).1]at e;cases e
 have nT:∀{b:Addr} {u:HO},H b=some u->b≠T:=λ{b u} e z=>by rw[z,hH]at e;cases e
 have up:∀{b:Addr} {u:HO},H b=some u->upd H T ob b=some u:=λ{b u} e=>by rw[qe (nT e)];exact e
 refine I.step (g':=s.gens) (d':=s.drawn) (ch:=ch) (λb hb=>?_) (λb o _ _ hc e _=>k b o hc e) (λb o _ _ hc e _=>{o.slots,k b o hc e}) (λb o _ e n=>?_) (λb o hc e=>{o,k b o hc e}) (λ_ _ e=>up e) (λ_ _ _ e=>up e) (λb ps e=>{#[],by rw[up e];simp}) (λm hm=>?_) (λb u e=>?_) I.bare
 ·let(f0,f1,f2,f3,f4,f5):=hf b hb;exact⟨f3,f1,f4,f5⟩
 ·rw[qe (λz=>by rw[z,hT]at e;cases e)];exact n
 ·let(o,es,ep,ho,r):=hm;exact{o,es,ep,k _ o (λz=>(hf _ z).2.1 rfl) ho,r}
 ·by_cases hb:b=T
  ·subst hb;rw[qg]at e;cases e;exact new
  ·rw[qe hb]at e;refine(I.hok b u e).stay (λc v hc q=>k c v ?_ q) (λ_ q=>up q) λ_ _ q=>up q;rcases hc with z|z
   ·rw[z];exact nch e
   ·exact nch z
def qew{P:Program}{w:World}{K:Frag}{elts:List Expr}{kk:Nat}{pos:Pos}{z TI TO i1 i2 a b:Addr}(D:ZipApart z TI TO i1 i2 a b) :
  Turn P w K (.Tuple elts kk pos) (Itz K a b) [z,TI,TO,i1,i2] z (ZSt z TI TO i1 i2 a b) where
 mem:=by simp
 obj:=λi h st c hc=>by
  let(s1,s2,(u,v,s3),(o4,s4,_,d4),(o5,s5,_,d5)):=st;simp at hc;rcases hc with rfl|rfl|rfl|rfl|rfl
  ·exact{_,s1,λv q=>by cases q}
  ·exact{_,s2,λv q=>by cases q}
  ·exact{_,s3,λv q=>by cases q}
  ·exact{_,s4,λv q=>by rw[d4]at q;cases q}
  ·exact{_,s5,λv q=>by rw[d5]at q;cases q}
 keep:=λi h h' st k=>by let(s1,s2,(u,v,s3),s4,s5):=st;exact{k z (5:) _ s1,k TI (5:) _ s2,{u,v,k TO (5:) _ s3},s4.at λo e=>k i1 (5:) o e,s5.at λo e=>k i2 (5:) o e}
 item:=by
  intro X hP hw hK hc i pins s Z H E I hf st hg;subst hP hw hK;let(xs,ys,x,y,qa,qb,hx,hy):=hg;let(s1,s2,(u,v,s3),s4,s5):=st;let(ia,ra,pa,za):=I.list qa;let(ib,rb,pb,zb):=I.list qb;let(ux,ex,rx):=ra.get hx;let(uy,ey,ry):=rb.get hy;refine wpAny_pyNext_zip_item D s1 s2 s3 s4 s5 pa.isList pb.isList (x:=ux) (y:=uy) (-ex:) (-ey:) λh' a1 a2 a3 a4 a5 a6 kp=>?_;refine{_,rfl,wpAny_letOwnedTupleGo_zip (s:={ s with heap:=h' }) a1 λh2 b1 b2=>?_};have two:(2:Nat)<=sizeLine:=Nat.le_of_lt (QN (2:))
  have kp2:∀c o,c∉[z,TI,TO,i1,i2]->s.heap.get? c=some o->h2.get? c=some o:=λc o hc e=>by simp at hc;exact b2.extBut c o hc.1 (kp c o hc.1 hc.2.2.1 hc.2.2.2.1 hc.2.2.2.2 e)
  have I1:Inv X pins Z H { s with heap:=h2 }:=I.turnedAll (t':=s.toks) kp2 hf
  have hnew:s.heap.get? s.heap.objs.size=none:=by
   cases q:s.heap.get? s.heap.objs.size with
   |none=>rfl
   |some o=>exact absurd (Heap.lt_size q) (Nat.lt_irrefl _)
  have hH:H s.heap.objs.size=none:=I.hok.fresh (Nat.le_refl _);have hTz:s.heap.objs.size≠z:=Nat.ne_of_gt (Heap.lt_size s1);have hT2:IsPair h2 s.heap.objs.size ux uy:=b2.extBut _ _ hTz a5;have hf2:=hf;have I2:Inv X pins Z (upd H s.heap.objs.size (.tup [x,y])) { s with heap:=h2 }:=I.turnedNew (t':=s.toks) kp2 hf hnew ⟨two,[ux,uy],.cons rx %[ry|0],_,hT2,rfl,0,rfl⟩;refine{.ref s.heap.objs.size,_,I2,rfl,{_,x,y,rfl,hH,rfl,λxs' ys' h1 h2=>?_},?_,λc hc=>?_}
  ·rw[I.list_inj h1 qa,I.list_inj h2 qb];exact⟨hx,hy⟩
  ·exact{b1,b2.extBut _ _ D.TIz (kp TI _ D.TIz D.TITO D.TIi1 D.TIi2 s2),{_,_,b2.extBut _ _ D.TOz a2},a3.extBut b2.extBut D.i1z,a4.extBut b2.extBut D.i2z}
  ·have hc0:=(hf c hc).1;rw[qe]
   ·exact hc0
   ·intro q
    have e:∃o,s.heap.get? c=some o:=by
     simp at hc;rcases hc with rfl|rfl|rfl|rfl|rfl
     ·exact{_,s1}
     ·exact{_,s2}
     ·exact{_,s3}
     ·let(o,e,_):=s4;exact⟨o,e⟩
     ·let(o,e,_):=s5;exact⟨o,e⟩
    let(o,e):=e;rw[q,hnew]at e;cases e
 done:=by intro X hP hw hK hc i pins s Z H E I hf st hg;subst hP hw hK;let(xs,ys,qa,qb,hend):=hg;let(s1,s2,(u,v,s3),s4,s5):=st;let(ia,ra,pa,za):=I.list qa;let(ib,rb,pb,zb):=I.list qb;have la:=ra.length;have lb:=rb.length;refine wpAny_pyNext_zip_end (I.ok.hd hc) D s1 s2 s3 s4 s5 pa.isList pb.isList (by simp;lia) λh' kp=>{rfl,I.turnedAll (t':=s.toks) (λc o hc e=>?_) hf};simp at hc;exact kp c o hc.1 hc.2.2.1 hc.2.2.2.1 hc.2.2.2.2 e
 self:=λA i s Q E st h=>wpAny_pyIter_zip st.1 h
def qnO(K:Frag)(ta:TA):TI:=λZ H R=>ta Z H λvs H1=>∃a b,vs=[.ref a,.ref b]/\(∃xs,SqL K H1 a xs)/\(∃ys,SqL K H1 b ys)/\R (Itz K a b) H1
section
variable{X:Cx}
def qjk{ea eb:Expr}{elts:List Expr}{kk:Nat}{tpos p pos:Pos}{ta:TA}(hg:Gl X "zip")(hm:X.mg "zip" = none)(ha:PA X [ea,eb] ta)(hs:starEach [ea,eb] X.env=[(false,eval ea X.env),(false,eval eb X.env)]:=by rfl)(hs2:starEach [eb] X.env=[(false,eval eb X.env)]:=by rfl) :
  PI X (.Tuple elts kk tpos) (.Call (.Name "zip" p) [ea,eb] [] pos) (qnO X.K ta):=by
 intro pins s Z H R I h;refine Call_ (yI I hg hm boot_zip (PyProof.Rows.callWith_type1 (thn (ha pos pins s Z H _ I h) λus s1 z=>?_) (by rw[hs,hs2]) (by rw[hs2];rfl)));let(vs,H1,I1,r1,a,b,rfl,(xs,qa),(ys,qb),q):=z;let(u,v,rfl,ru,rv):=Qz r1;cases ru;cases rv;let(ia,ra,pa,za):=I1.list qa;let(ib,rb,pb,zb):=I1.list qb;have la:a < s1.heap.objs.size:=by let(_,e,_):=pa.isList;exact Heap.lt_size e
 have lb:b < s1.heap.objs.size:=by let(_,e,_):=pb.isList;exact Heap.lt_size e
 refine call_zip_2 pa.isList pb.isList λh' z1 z2 z3 z4 z5 z6 kp=>wpAny_pyIter_zip z1 ?_
 have D:ZipApart (s1.heap.objs.size+4) (s1.heap.objs.size+2) (s1.heap.objs.size+3) s1.heap.objs.size (s1.heap.objs.size+1) a b:=by constructor<;>(first|exact Nat.ne_of_lt (Nat.lt_of_lt_of_le la (Nat.le_add_right _ _))|exact Nat.ne_of_lt (Nat.lt_of_lt_of_le lb (Nat.le_add_right _ _))|exact Nat.ne_of_lt la|exact Nat.ne_of_lt lb|exact Nat.ne_of_lt (1:)|exact Nat.ne_of_gt (1:))
 refine{s1.heap.objs.size+4,[s1.heap.objs.size+4,s1.heap.objs.size+2,s1.heap.objs.size+3,s1.heap.objs.size,s1.heap.objs.size+1],_,_,H1,rfl,I1.kept (t':=s1.toks) kp,qew D,{z1,z2,{_,_,z3},z4,z5},λc hc=>?_,q}
 have:s1.heap.objs.size<=c:=by
  simp at hc;rcases hc with rfl|rfl|rfl|rfl|rfl
  ·exact Nat.le_add_right _ _
  ·exact Nat.le_add_right _ _
  ·exact Nat.le_add_right _ _
  ·exact Nat.le_refl _
  ·exact Nat.le_add_right _ _
 exact I1.fpOk this (I1.hok.fresh this)
end
open PyProof
section
variable{X:Cx}
theorem qjl:SlR X (λx lo hi H Q=>∃z,x=.str z/\z.length<=sizeLine/\Q (.str (Txt.slice z lo hi)) H):=by
 intro pins s Z H x v vl vu lo hi sl Q I rx hs pl pu h;let(z,rfl,hz,q):=h;let(t,rfl):=rx;refine{"str",_,F.slot_str_getitem.lookup,typeIs_str _ _ _,?_};let(o,e1,e2,e3):=hs
 cases pl with
 |none=>
  cases pu with
  |none=>exact wpAny_getItem_str_slice (l:=none) (u:=none) (st:=none) ⟨o,e1,e2,e3⟩ rfl (post_val_or_str ⟨Nat.le_trans (Txt.slice_le z _ _) hz,λt' k=>{.str _,H,I.tok k,⟨t',rfl⟩,q}⟩)
  |int j uj=>exact wpAny_getItem_str_slice (l:=none) (u:=some (j,uj)) (st:=none) ⟨o,e1,e2,e3⟩ rfl (post_val_or_str ⟨Nat.le_trans (Txt.slice_le z _ _) hz,λt' k=>{.str _,H,I.tok k,⟨t',rfl⟩,q}⟩)
 |int i ui=>
  cases pu with
  |none=>exact wpAny_getItem_str_slice (l:=some (i,ui)) (u:=none) (st:=none) ⟨o,e1,e2,e3⟩ rfl (post_val_or_str ⟨Nat.le_trans (Txt.slice_le z _ _) hz,λt' k=>{.str _,H,I.tok k,⟨t',rfl⟩,q}⟩)
  |int j uj=>exact wpAny_getItem_str_slice (l:=some (i,ui)) (u:=some (j,uj)) (st:=none) ⟨o,e1,e2,e3⟩ rfl (post_val_or_str ⟨Nat.le_trans (Txt.slice_le z _ _) hz,λt' k=>{.str _,H,I.tok k,⟨t',rfl⟩,q}⟩)
end
def Ite(K:Frag)(a:Addr):It:=
 ⟨λi H=>∃xs x,SqL K H a xs/\xs[i]?=some x,
  λi H v H'=>∃T x,v=.ref T/\H T=none/\H'=upd H T (.tup [.int i,x])/\∀xs,SqL K H a xs->xs[i]?=some x,
  λi H=>∃xs,SqL K H a xs/\xs.length<=i⟩
def ESt(e it a:Addr)(i:Nat)(h:Heap):Prop:=(∃old,IsEnum h e it ((i:Nat):Int) old)/\h.IsListIter it a i
def qcM{P:Program}{w:World}{K:Frag}{elts:List Expr}{kk:Nat}{pos:Pos}{e it a:Addr}(hne:e≠it) :
  Turn P w K (.Tuple elts kk pos) (Ite K a) [e,it] e (ESt e it a) where
 mem:=by simp
 obj:=λi h st c hc=>by
  let((old,s1),(o4,s4,_,d4)):=st;simp at hc;rcases hc with rfl|rfl
  ·exact{_,s1,λv q=>by cases q}
  ·exact{_,s4,λv q=>by rw[d4]at q;cases q}
 keep:=λi h h' st k=>by let((old,s1),s4):=st;exact{{old,k e (5:) _ s1},s4.at λo e=>k it (5:) o e}
 item:=by
  intro X hP hw hK hc i pins s Z H E I hf st hg;subst hP hw hK;let(xs,x,qa,hx):=hg;let((old,s1),s4):=st;let(ia,ra,pa,za):=I.list qa;let(ux,ex,rx):=ra.get hx;refine wpAny_pyNext_enum_item s1 s4 pa.isList (x:=ux) (-ex:) hne λh' a1 a2 a3 a4 kp=>?_;refine{_,rfl,wpAny_letOwnedTupleGo_enum (s:={ s with heap:=h',toks:=s.toks+1 }) a1 λh2 b1 b2=>?_};have two:(2:Nat)<=sizeLine:=Nat.le_of_lt (QN (2:))
  have kp2:∀c o,c∉[e,it]->s.heap.get? c=some o->h2.get? c=some o:=λc o hc q=>by simp at hc;exact b2.extBut c o hc.1 (kp c o hc.1 hc.2 q)
  have hnew:s.heap.get? s.heap.objs.size=none:=by
   cases q:s.heap.get? s.heap.objs.size with
   |none=>rfl
   |some o=>exact absurd (Heap.lt_size q) (Nat.lt_irrefl _)
  have hH:H s.heap.objs.size=none:=I.hok.fresh (Nat.le_refl _);have hTe:s.heap.objs.size≠e:=Nat.ne_of_gt (Heap.lt_size s1);have hT2:IsPair h2 s.heap.objs.size (.int i s.toks) ux:=b2.extBut _ _ hTe a3;have I2:Inv X pins Z (upd H s.heap.objs.size (.tup [.int i,x])) { s with heap:=h2,toks:=s.toks+1 }:=I.turnedNew (t':=s.toks+1) kp2 hf hnew ⟨two,[.int i s.toks,ux],.cons ⟨_,rfl⟩ %[rx|0],_,hT2,rfl,0,rfl⟩;refine{.ref s.heap.objs.size,_,I2,rfl,{_,x,rfl,hH,rfl,λxs' h1=>?_},?_,λc hc=>?_}
  ·rw[I.list_inj h1 qa];exact hx
  ·have e1:((i+1:Nat):Int)=(i:Int)+1:=by lia
   refine{{ux,?_},a2.extBut b2.extBut (Ne.symm hne)};rw[e1];exact b1
  ·have hc0:=(hf c hc).1;rw[qe]
   ·exact hc0
   ·intro q
    have e:∃o,s.heap.get? c=some o:=by
     simp at hc;rcases hc with rfl|rfl
     ·exact{_,s1}
     ·let(o,e,_):=s4;exact⟨o,e⟩
    let(o,e):=e;rw[q,hnew]at e;cases e
 done:=by intro X hP hw hK hc i pins s Z H E I hf st hg;subst hP hw hK;let(xs,qa,hend):=hg;let((old,s1),s4):=st;let(ia,ra,pa,za):=I.list qa;have la:=ra.length;refine wpAny_pyNext_enum_end (I.ok.hd hc) s1 s4 pa.isList (by simp;lia) λh' kp=>{rfl,I.turnedAll (t':=s.toks) (λc o hc e=>?_) hf};simp at hc;exact kp c o hc.2 e
 self:=λA i s Q E st h=>by let((old,s1),_):=st;exact wpAny_pyIter_enum s1 h
def ql7(K:Frag)(ta:TA):TI:=λZ H R=>ta Z H λvs H1=>∃a,vs=[.ref a]/\(∃xs,SqL K H1 a xs)/\R (Ite K a) H1
section
variable{X:Cx}
def qg7{ea:Expr}{elts:List Expr}{kk:Nat}{tpos p pos:Pos}{ta:TA}(hg:Gl X "enumerate")(hm:X.mg "enumerate" = none)(ha:PA X [ea] ta)(hs:starEach [ea] X.env=[(false,eval ea X.env)]:=by rfl) :
  PI X (.Tuple elts kk tpos) (.Call (.Name "enumerate" p) [ea] [] pos) (ql7 X.K ta):=by
 intro pins s Z H R I h;refine Call_ (yI I hg hm boot_enumerate (PyProof.Rows.callWith_type1 (thn (ha pos pins s Z H _ I h) λus s1 z=>?_) hs rfl));let(vs,H1,I1,r1,a,rfl,(xs,qa),q):=z;let(u,rfl,ru):=yZ r1;cases ru;let(ia,ra,pa,za):=I1.list qa;refine call_enumerate_list pa.isList λh' z1 z2 z3 kp=>wpAny_pyIter_enum z1 ?_;refine{s1.heap.objs.size+1,[s1.heap.objs.size+1,s1.heap.objs.size],_,_,H1,rfl,I1.kept (t':=s1.toks) kp,qcM (Nat.succ_ne_self _),{{_,z1},z2},λc hc=>?_,q}
 have:s1.heap.objs.size<=c:=by
  simp at hc;rcases hc with rfl|rfl
  ·exact Nat.le_add_right _ _
  ·exact Nat.le_refl _
 exact I1.fpOk this (I1.hok.fresh this)
end
def Itv(K:Frag)(a:Addr)(xs:List V):It:=
 ⟨λi H=>SqL K H a xs/\i < xs.length,λi H x H'=>H'=H/\xs[xs.length - 1 - i]?=some x,λi H=>SqL K H a xs/\xs.length=i⟩
def qex{P:Program}{w:World}{K:Frag}{tg:Expr}(a it:Addr)(xs:List V):Turn P w K tg (Itv K a xs) [it] it (λi h=>h.IsRevIter it a ((xs.length:Int) - 1 - i)) where
 mem:=by simp
 obj:=λi h st b hb=>by
  have e:b=it:=(-hb:)
  subst e;let(o,e,c,d):=st;exact{o,e,λv z=>by rw[d]at z;cases z}
 keep:=λi h h' st k=>st.at λo e=>k it (5:) o e
 item:=by
  intro X hP hw hK hc i pins s Z H E I hf st hg;subst hP hw hK;let(hq,hi):=hg;let(its,rv,p,hz):=I.list hq;have hx:xs[xs.length - 1 - i]?=some xs[xs.length - 1 - i]:=List.getElem?_eq_getElem (by omega);let(u,hu,ru):=rv.get hx;let(f0,f1,f2,f3,f4,f5):=hf it (5:);have e1:(xs.length:Int) - 1 - i=((xs.length - 1 - i:Nat):Int):=by omega
  rw[e1]at st;refine wpAny_pyNext_rev_item st p.isList (x:=u) (-hu:) λh' st' sb=>?_;have I1:Inv X pins Z H { s with heap:=h' }:=I.turned (t':=s.toks) (λb o hb e=>(sb.2 b hb).trans e) f0 f1 f3 f4 f5;have e2:((xs.length - 1 - i:Nat):Int) - 1=(xs.length:Int) - 1 - ((i+1:Nat):Int):=by omega
  rw[e2]at st';let(o,e,c,d):=id st';exact{u,rfl,qb7 (s:={ s with heap:=h' }) e c d (2:) ⟨_,H,I1,ru,⟨rfl,hx⟩,st',λb hb=>(hf b hb).1⟩}
 done:=by
  intro X hP hw hK hc i pins s Z H E I hf st hg;subst hP hw hK;let(hq,hi):=hg;let(f0,f1,f2,f3,f4,f5):=hf it (5:);have e1:(xs.length:Int) - 1 - i = -1:=by omega
  rw[e1]at st;exact wpAny_pyNext_rev_end (I.ok.hd hc) st λh' eb=>{rfl,I.turned (t':=s.toks) (λb o hb e=>eb b o hb e) f0 f1 f3 f4 f5}
 self:=λ_ _ _ _ _ st h=>wpAny_pyIter_revIter st h
def qnP(K:Frag)(ta:TA):TI:=λZ H R=>ta Z H λvs H1=>∃a xs,vs=[.ref a]/\SqL K H1 a xs/\R (Itv K a xs) H1
section
variable{X:Cx}
def qjm{ea tg:Expr}{p pos:Pos}{ta:TA}(hg:Gl X "reversed")(hm:X.mg "reversed" = none)(ha:PA X [ea] ta)(hs:starEach [ea] X.env=[(false,eval ea X.env)]:=by rfl) :
  PI X tg (.Call (.Name "reversed" p) [ea] [] pos) (qnP X.K ta):=by
 intro pins s Z H R I h;refine Call_ (yI I hg hm boot_reversed (PyProof.Rows.callWith_type1 (thn (ha pos pins s Z H _ I h) λus s1 z=>?_) hs rfl));let(vs,H1,I1,r1,a,xs,rfl,qa,q):=z;let(u,rfl,ru):=yZ r1;cases ru;let(ia,ra,pa,za):=I1.list qa;have la:=ra.length;refine call_reversed_list pa.isList ?_;refine wpAny_pyIter_revIter ⟨_,Heap.get?_push_size _ rfl,rfl,rfl⟩ ?_;refine{s1.heap.objs.size,[s1.heap.objs.size],_,_,H1,rfl,I1.kept (t':=s1.toks) λb o e=>Heap.get?_push_of_some _ e,qex a _ xs,{_,Heap.get?_push_size _ rfl,rfl,?_},λb hb=>?_,q}
 ·show Data.fields #[.ref a,rawInt ((ia.toArray.size:Int) - 1)]=_
  have:(ia.toArray.size:Int) - 1=(xs.length:Int) - 1 - ((0:Nat):Int):=by simp;omega
  rw[this]
 ·have e:b=s1.heap.objs.size:=(-hb:)
  subst e;exact I1.fpOk (Nat.le_refl _) (I1.hok.fresh (Nat.le_refl _))
end
def rsz(lo hi c:Int):Nat:=if lo < hi then ((hi - lo - 1) / c+1).toNat else 0
section
variable{X:Cx}
def qcN:qO X (.type "range") (λvs H Q=>∃i j:Int,vs=[.int i,.int j]/\∀q,H q=none->Q (.ref q) (upd H q (.rng i j))):=by intro pins s Z H xs us Q I r h;let(i,j,rfl,q):=h;let(u,v,rfl,(t,rfl),(t',rfl)):=Qz r;exact call_range_2 ⟨.ref _,_,I.laid (a:=s.heap.objs.size) (o:=.rng i j) (t':=_) (λ_ _ e=>Heap.get?_push_of_some _ e) (Nat.le_refl _) ⟨_,_,_,Heap.get?_push_size _ rfl⟩,rfl,q _ (I.hok.fresh (Nat.le_refl _))⟩
def rgV(i:Int)(n:Nat):List V:=(List.range n).map λk:Nat=>V.int (i+k)
def qbz(hc:X.calm=true):qO X (.type "list") (λvs H Q=>∃(p:Addr) (i j:Int),vs=[.ref p]/\H p=some (.rng i j)/\(-(2 ^ 62)<=i/\i < 2 ^ 62/\-(2 ^ 62)<=j/\j < 2 ^ 62)/\(j - i).toNat<=10000/\∀l,H l=none->Q (.ref l) (upd H l (.lst (rgV i (j - i).toNat)))):=by
 intro pins s Z H xs us Q I r h;let(p,i,j,rfl,hp,(b1,b2,b3,b4),hn,q):=h;let(u,rfl,rx):=yZ r;cases rx;let(t,u,v,ho):=(show qQ X.prog X.w H s.heap p (.rng i j) from I.hok p _ hp);refine call_list_range (n:=(j - i).toNat) (I.ok.hd hc) ho (small_one b1 b2 b3 b4) (by rw[rangeSize_one];split<;>lia) (Nat.le_trans hn (2:)) λh' tk acc' c' ko hl it=>?_;have hz:10000<=sizeLine:=(3:)
 refine{.ref _,_,I.laid (a:=s.heap.objs.size) (o:=.lst (rgV i (j - i).toNat)) (t':=tk) ko (Nat.le_refl _) {by unfold rgV;rw[List.length_map,List.length_range];lia,acc'.toList,c',?_,(-hl:)},rfl,q _ (I.hok.fresh (Nat.le_refl _))}
 have key:∀(n:Nat) (l:List Value) (k:Nat),l.length=n->(∀(m:Nat) (v:Value),l[m]?=some v->∃t,v=.int (i+((k+m:Nat):Int)) t)->qu ((List.range' k n).map λk:Nat=>V.int (i+k)) l:=by
  intro n
  induction n with
  |zero=>intro l k h _;rw[List.length_eq_zero_iff.mp h];exact .nil
  |succ n ih=>
   intro l k h hv
   cases l with
   |nil=>cases h
   |cons x l=>rw[List.range'_succ,List.map_cons];refine .cons (by let(t,e):=hv 0 x rfl;exact{t,by rw[e];rfl}) (ih l (k+1) (-h:) λm v e=>?_);let(t,e'):=hv (m+1) v (-e:);exact{t,by rw[e',show k+1+m=k+(m+1) by lia]}
 unfold rgV;rw[List.range_eq_range'];refine key _ _ 0 (-it.1:) λm v e=>?_;let(t,e'):=it.2 m v (-e:);exact{t,by rw[e',Nat.zero_add,Int.mul_one]}
end
end L2
namespace TW
open PySem PyProof.Rows
def Ri(xs:Array Nat):Prop:=xs.toList.Pairwise (· < ·)
def qg8{xs:Array Nat}(h:Ri xs){i j:Nat}(hij:i < j)(hj:j < xs.size):xs[i]'(1:) < xs[j]:=by
 have:=List.pairwise_iff_getElem.mp h i j (by simp;lia) (-hj:) hij
 simpa using this
def qjn{xs:Array Nat}(h:Ri xs){i j:Nat}(hij:i<=j)(hj:j < xs.size):xs[i]'(1:)<=xs[j]:=by
 rcases Nat.lt_or_ge i j with z|z
 ·exact Nat.le_of_lt (qg8 h z hj)
 ·obtain rfl:i=j:=by lia
  exact Nat.le_refl _
theorem qg9{xs:Array Nat}(h:Ri xs)(j:Nat):∀(f lo hi:Nat),lo<=hi->hi<=xs.size->hi - lo<=f->(∀(i:Nat) (hi:i < xs.size),i < lo->xs[i] < j)->(∀(i:Nat) (hx:i < xs.size),hi<=i->j<=xs[i])->
  SetTable.below.go xs j f lo hi<=xs.size/\(∀(i:Nat) (hx:i < xs.size),i < SetTable.below.go xs j f lo hi->xs[i] < j)/\∀(i:Nat) (hx:i < xs.size),SetTable.below.go xs j f lo hi<=i->j<=xs[i]
 |0,lo,hi,h1,h2,h3,a,b=>by
  rw[SetTable.below.go];obtain rfl:lo=hi:=by lia
  exact{h2,λi hx z=>a i hx z,b}
 | f+1,lo,hi,h1,h2,h3,a,b=>by
  rw[SetTable.below.go]
  by_cases hl:lo < hi
  ·rw[if_pos hl];have hm:(lo+hi) / 2 < xs.size:=by lia
   have e:xs.getD ((lo+hi) / 2) j=xs[(lo+hi) / 2]:=by simp[Array.getD,hm]
   dsimp only;rw[e]
   by_cases hc:xs[(lo+hi) / 2] < j
   ·rw[if_pos hc];refine qg9 h j f _ _ (1:) h2 (1:) (λi hx z=>?_) b;exact Nat.lt_of_le_of_lt (qjn h (1:) hm) hc
   ·rw[if_neg hc];refine qg9 h j f _ _ (1:) (1:) (1:) a (λi hx z=>?_);exact Nat.le_trans (Nat.not_lt.mp hc) (qjn h z hx)
  ·rw[if_neg hl];obtain rfl:lo=hi:=by lia
   exact{h2,λi hx z=>a i hx z,b}
def YM{xs:Array Nat}(h:Ri xs)(j:Nat):SetTable.below xs j<=xs.size/\(∀(i:Nat) (hx:i < xs.size),i < SetTable.below xs j->xs[i] < j)/\∀(i:Nat) (hx:i < xs.size),SetTable.below xs j<=i->j<=xs[i]:=
 qg9 h j xs.size 0 xs.size (Nat.zero_le _) (Nat.le_refl _) (1:) (λi _ z=>by lia) λi hx z=>by lia
def qbA{xs:Array Nat}(h:Ri xs){k:Nat}(hk:k < xs.size):SetTable.below xs (xs[k]+1)=k+1:=by
 let(h1,h2,h3):=YM h (xs[k]+1);rcases Nat.lt_trichotomy (SetTable.below xs (xs[k]+1)) (k+1) with z|z|z
 ·have:=h3 k hk (1:)
  lia
 ·exact z
 ·have:=h2 (k+1) (1:) z
  have:=qg8 h (Nat.lt_succ_self k) (1:)
  lia
def qbB(xs:Array Nat)(h:Ri xs):SetTable.below xs 0=0:=by
 let(h1,h2,h3):=YM h 0;rcases Nat.eq_zero_or_pos (SetTable.below xs 0) with z|z
 ·exact z
 ·have:=h2 0 (1:) z
  lia
def qcO{xs:Array Nat}(h:Ri xs)(j:Nat)(hn:¬ xs[SetTable.below xs j]?=some j):Ri (SetTable.insertAt xs (SetTable.below xs j) j):=by
 let(h1,h2,h3):=YM h j;generalize SetTable.below xs j=p at h1 h2 h3 hn
 have e:(SetTable.insertAt xs p j).toList=xs.toList.take p++j::xs.toList.drop p:=by unfold SetTable.insertAt;simp[Array.toList_extract,List.extract_eq_drop_take];rw[List.take_of_length_le (5:)]
 unfold Ri;rw[e,List.pairwise_append]
 have hd:∀b∈xs.toList.drop p,j < b:=λb hb=>by
  let(i,hi,rfl):=List.mem_iff_getElem.mp hb;have hi':p+i < xs.size:=by simp at hi;lia
  have e1:(xs.toList.drop p)[i]=xs[p+i]:=by simp
  rw[e1];have hge:=h3 (p+i) hi' (1:);rcases Nat.eq_zero_or_pos i with z|z
  ·subst z
   have:xs[p]≠j:=λz=>hn (by rw[Array.getElem?_eq_getElem (1:)];exact congrArg some z)
   have h4:=h3 p (1:) (Nat.le_refl _);show j < xs[p+0];simp![Nat.add_zero]
   lia
  ·have h4:=h3 p (1:) (Nat.le_refl _);have h5:=qg8 h (i:=p) (j:=p+i) (1:) hi'
   lia
 have ht:∀a∈xs.toList.take p,a < j:=λa ha=>by
  let(i,hi,rfl):=List.mem_iff_getElem.mp ha;simp at hi
  have:=h2 i (1:) (1:)
  simpa using this
 refine{h.sublist (List.take_sublist _ _),List.pairwise_cons.mpr {hd,h.sublist (List.drop_sublist _ _)},λa ha b hb=>?_}
 have:=ht a ha
 rcases List.mem_cons.mp hb with rfl|hb
 ·exact this
 ·have:=hd b hb
  lia
def qey(n:Nat):Ri (Array.range n):=by unfold Ri;rw[Array.toList_range];exact List.pairwise_lt_range
def Rt(led:Bool)(t:SetTable):Prop:=Ri t.place/\t.dummies=#[]/\t.led=led
variable{led:Bool}{t:SetTable}
def Jk(h:Rt led t)(n:Nat):Rt led (t.standIn n):={qey n,rfl,h.2.2}
def qez:Rt led (.fresh 0 0 led):=⟨List.Pairwise.nil,rfl,rfl⟩
def qeA(h:Rt led t):Rt led { t with plain:=false }:=h
def qaG(j:Nat):SetTable.has #[] j=false:=by unfold SetTable.has;simp
theorem qaH(h:Rt led t)(g:Nat->Int)(hh:Int):∀(f:Nat) (p:SetTable.Probe) (j:Nat) (d:Option Nat),p.dummy=none->SetTable.probe.go t g hh f p=some (.empty j d)->d=none/\¬ t.place[SetTable.below t.place j]?=some j
 |0,p,j,d,h0,e=>by rw[SetTable.probe.go]at e;cases e
 | f+1,p,j,d,h0,e=>by
  have adv:∀q:SetTable.Probe,q.dummy=none->(t.advance q).dummy=none:=λq hq=>by
   unfold SetTable.advance;split
   ·exact hq
   ·exact hq
  rw[SetTable.probe.go]at e
  cases hs:t.slot p.j with
  |empty=>rw[hs]at e;dsimp only at e;cases e;refine{h0,λz=>?_};unfold SetTable.slot at hs;dsimp only at hs;rw[if_pos (-z:)]at hs;cases hs
  |dummy=>
   unfold SetTable.slot at hs;dsimp only at hs;rw[h.2.1,qaG]at hs
   split at hs<;>simp at hs
  |live i=>
   rw[hs]at e;dsimp only at e
   split at e
   ·cases e
   ·exact qaH h g hh f _ j d (adv _ h0) e
theorem qha(h:Rt led t){hh:Int}{j:Nat}{b:Bool}(e:t.freeSlot hh=some (j,b)):¬ t.place[SetTable.below t.place j]?=some j:=by
 unfold SetTable.freeSlot at e
 cases hp:t.probe (λ_=>hh+1) hh (t.probeStart hh) with
 |none=>rw[hp]at e;cases e
 |some m=>
  rw[hp]at e
  cases m with
  |candidate=>cases e
  | empty j' d=>let(rfl,h2):=qaH h _ hh _ _ j' d rfl (show SetTable.probe.go t _ hh _ _=_ from hp);cases e;exact h2
def ql8(h:Rt led t)(n:Nat):Rt led (t.orStandIn n):=by
 unfold SetTable.orStandIn;split
 ·exact h
 ·exact Jk h n
def qjo(h:Rt led t){j:Nat}(hj:¬ t.place[SetTable.below t.place j]?=some j):Rt led (t.put j).1:=by unfold SetTable.put;refine{qcO h.1 j hj,?_,h.2.2};dsimp only;rw[h.2.1,qaG];rfl
theorem qjp(h:Rt led t)(es:Array (Int×Value))(hh:Int)(x:Value):Rt led (layNew t es hh x).2.1:=by
 unfold layNew
 cases e:t.freeSlot hh with
 |none=>exact Jk h _
 |some p=>let(j,b):=p;exact ql8 (qjo h (qha h e)) _
theorem qhb{m f mv:Nat}{pl:Bool}{hs:Array Int}{p:SetTable×Array Nat}(e:SetTable.laid m f mv led pl hs=some p):Rt led p.1:=by
 unfold SetTable.laid at e
 cases ho:SetTable.layClean m hs with
 |none=>rw[ho]at e;cases e
 |some ow=>rw[ho]at e;cases e;refine{?_,rfl,rfl};unfold Ri;show List.Pairwise _ (List.map _ _).toArray.toList;rw[List.toList_toArray,List.pairwise_map];refine List.Pairwise.filterMap _ (R:=(· < ·)) (λa a' haa b hb b' hb'=>?_) List.pairwise_lt_range;let(_,_,rfl):=Option.map_eq_some_iff.mp hb;let(_,_,rfl):=Option.map_eq_some_iff.mp hb';exact haa
theorem qeB(h:Rt led t)(es:Array (Int×Value))(n:Nat):Rt led (relayAll t es n).2.1:=by
 unfold relayAll
 cases e:t.relaid (es.map (·.1)) n with
 |none=>exact Jk h _
 |some p=>
  dsimp only;split
  ·unfold SetTable.relaid at e;rw[h.2.2]at e;exact qhb e
  ·exact Jk h _
open PySem.Spec
section
variable{prog:Program}{w:World}{A:Around}{E:PQ}{s:Shared}{led:Bool}
def QV(prog:Program)(w:World)(led:Bool)(h:Heap)(a:Addr)(S:Int->Bool)(n:Nat):Prop:=
 ∃o es ep t,h.get? a=some o/\o.ExactSet/\o.data=.set es ep t/\ElemsOf (intKind prog w) es.toList/\(∀k,S k=true↔∃e∈es.toList,(intKind prog w).is k e.2=true)/\es.size < scanBound/\t.fits es.size=true/\es.size=n/\Rt led t
def QV.to{h h':Heap}{a:Addr}{S:Int->Bool}{n:Nat}(x:QV prog w led h a S n)(k:∀o,h.get? a=some o->h'.get? a=some o):QV prog w led h' a S n:=by let(o,es,ep,t,ho,r):=x;exact{o,es,ep,t,k o ho,r}
def QV.say{h:Heap}{a:Addr}{S S':Int->Bool}{n n':Nat}(x:QV prog w led h a S n)(e:∀k,S k=S' k)(en:n=n'):QV prog w led h a S' n':=by obtain rfl:S=S':=funext e;subst en;exact x
def qjq{h:Heap}{a:Addr}{o:Obj}{es:Array (Int×Value)}{ep:Nat}{t:SetTable}(ho:h.get? a=some o)(hx:o.ExactSet)(hd:o.data=.set es ep t){es':Array (Int×Value)}{t':SetTable}{S':Int->Bool}
  (hel:ElemsOf (intKind prog w) es'.toList) (hm:∀k,S' k=true↔∃e∈es'.toList,(intKind prog w).is k e.2=true) (hb:es'.size < scanBound) (hf:t'.fits es'.size=true) (hr:Rt led t') :
  (h.update a (Obj.putSet es' t')).get? a=some { o with data:=.set es' (ep+1) t' }/\QV prog w led (h.update a (Obj.putSet es' t')) a S' es'.size:=by
 let(h1,_):=SetOf_store (knd:=intKind prog w) ho hx hd hel hm hb hf;exact{h1,_,es',ep+1,t',h1,hx,rfl,hel,hm,hb,hf,rfl,hr}
def qfL{g:Bool->Sem Unit}(hg:∀(b:Bool) (s1:Shared) (Q':Unit->Shared->Prop),Q' () s1->wpAny (model prog w) A (g b) Q' E s1){a:Addr}{o:Obj}{es:Array (Int×Value)}{ep:Nat}{t:SetTable}
  (ho:s.heap.get? a=some o) (hx:o.ExactSet) (hd:o.data=.set es ep t) {es1:Array (Int×Value)} {t2:SetTable} {S':Int->Bool} (hel:ElemsOf (intKind prog w) es1.toList)
  (hm:∀k',S' k'=true↔∃e∈es1.toList,(intKind prog w).is k' e.2=true) (hb:es1.size < scanBound) (hf:t2.fits es1.size=true) (hr:Rt led t2) {wasDummy:Bool} {R:Option Bool->Shared->Prop}
  (h:∀h',Heap.SameBut a s.heap h'->QV prog w led h' a S' es1.size->R (some true) { s with heap:=h' }) :
  wpAny (model prog w) A (do
    storeSet a es1 t2
    if (!wasDummy&&t2.tooFull)=true then do
      g (relayAll t2 es1 (SetTable.grown es1.size)).2.2
      storeSet a (relayAll t2 es1 (SetTable.grown es1.size)).1 (relayAll t2 es1 (SetTable.grown es1.size)).2.1
      pure (some true)
     else pure (some true)) R E s:=by
 refine wpAny_bind (wpAny_storeSet_of ho hd ?_ (fits_of_scanBound hb));let(o1,S1):=qjq (prog:=prog) (w:=w) ho hx hd hel hm hb hf hr;have k1:=Heap.SameBut.update s.heap a (Obj.putSet es1 t2);split
 ·have hp:=relayAll_perm t2 es1 (SetTable.grown es1.size);have hf2:=relayAll_fits t2 es1 (SetTable.grown es1.size);have hr2:=qeB hr es1 (SetTable.grown es1.size);generalize relayAll t2 es1 (SetTable.grown es1.size)=Rl at hp hf2 hr2 ⊢;let(es2,t3,g2):=Rl;dsimp only at hp hf2 hr2 ⊢;have hz:es2.size=es1.size:=by rw[<-Array.length_toList,hp.length_eq,Array.length_toList]
  refine wpAny_bind (hg _ _ _ (wpAny_bind (wpAny_storeSet_of o1 rfl ?_ (fits_of_scanBound (by rw[hz];exact hb)))));let(_,S2):=qjq (prog:=prog) (w:=w) (S':=S') o1 hx rfl (hel.perm hp) (λk'=>(hm k').trans ⟨λ⟨e,he,q⟩=>{e,hp.mem_iff.mpr he,q},λ⟨e,he,q⟩=>{e,hp.mem_iff.mp he,q}⟩) (by rw[hz];exact hb) hf2 hr2;exact wpAny_pure (h _ (k1.trans (Heap.SameBut.update _ a _)) (S2.say (λ_=>rfl) hz))
 ·exact wpAny_pure (h _ k1 S1)
theorem ql9{a:Addr}{S:Int->Bool}{n:Nat}{k:Int}{x:Value}{Q:Bool->Shared->Prop}(hk:(intKind prog w).is k x=true)(hsc:x.scannable=true)(hS:QV prog w led s.heap a S n)(hroom:n+1 < scanBound)
  (h:∀h' b,Heap.SameBut a s.heap h'->QV prog w led h' a (λk'=>S k'||decide (k'=k)) (if S k then n else n+1)->Q b { s with heap:=h' }) :
  wpAny (model prog w) A (setAddHashed a x ((intKind prog w).hash k)) Q E s:=by
 let(o,es,ep,t,ho,hx,hd,hel,hm,hb,hf,hn,hr):=hS;unfold setAddHashed setAddHashedIn;refine wpAny_holding (wpAny_bind (wpAny_setState_of ho hd hf ?_));dsimp only;rw[byScan_of hsc hb hel];simp![↓reduceIte];unfold setAddByScan;refine wpAny_bind (wpAny_bind (wpAny_rule (wpAny_bind (wpAny_setScan_of hk ho hd hf hel ?_))))
 cases hi:List.findIdx? (λe=>(intKind prog w).is k e.2) es.toList with
 |some j=>
  dsimp only;let(hj,hp,_):=List.findIdx?_eq_some_iff_getElem.mp hi;have hSk:S k=true:=(hm k).mpr ⟨es.toList[j],List.getElem_mem hj,hp⟩;refine wpAny_pure (wpAny_pure ?_)
  have q:=h s.heap false (Heap.SameBut.refl a s.heap) ⟨o,es,ep,t,ho,hx,hd,hel,λk'=>by rw[Bool.or_eq_true,decide_eq_true_eq,<-hm k'];exact{λz=>z.elim id (λe=>e▸hSk),.inl},hb,hf,by rw[hSk];exact hn,hr⟩
  exact q
 |none=>
  dsimp only
  have hSk:S k=false:=by
   cases z:S k with
   |false=>rfl
   |true=>
    let(e,he,hp):=(hm k).mp z
    have:=List.findIdx?_eq_none_iff.mp hi e he
    rw[hp]at this;cases this
  have hp:=layNew_perm t es ((intKind prog w).hash k) x;have hf1:=layNew_fits t es ((intKind prog w).hash k) x;have hr1:=qjp hr es ((intKind prog w).hash k) x;generalize layNew t es ((intKind prog w).hash k) x=L at hp hf1 hr1 ⊢;let(es1,t1,wd,gv):=L;dsimp only at hp hf1 hr1 ⊢;rw[Array.toList_push]at hp;have z1:es1.size=n+1:=by rw[<-Array.length_toList,hp.length_eq,List.length_append,Array.length_toList,hn];rfl
  have gw:∀(b:Bool) (s1:Shared) (Q':Unit->Shared->Prop),Q' () s1->wpAny (model prog w) A (match b with |true=>rule "set.scan.the-table-gave-way" |false=>pure ()) Q' E s1:=λb s1 Q' hq=>by
   cases b
   ·exact wpAny_pure hq
   ·exact wpAny_rule hq
  have fin:∀h',Heap.SameBut a s.heap h'->QV prog w led h' a (λk'=>S k'||decide (k'=k)) es1.size->Q true { s with heap:=h' }:=λh' k1 S1=>h h' true k1 (S1.say (λ_=>rfl) (by rw[hSk];exact z1))
  have hel1:=(hel.push hk hsc).perm hp;have hm1:=mem_push_iff hk hm hp;refine wpAny_bind (gw _ _ _ ?_);split
  ·refine wpAny_bind ?_;rw[hashByValue_scannable 8 hsc];refine wpAny_pure (qfL (led:=led) (λb s1 Q' hq=>?_) ho hx hd hel1 hm1 (1:) ?_ ?_ ?_)
   ·cases b
    ·exact wpAny_pure hq
    ·exact wpAny_rule hq
   ·split
    ·exact hf1
    ·exact SetTable.fits_plain_off hf1
   ·split
    ·exact hr1
    ·exact qeA hr1
   ·intro h' k1 S1;dsimp only;exact wpAny_pure (fin h' k1 S1)
  ·refine wpAny_bind (wpAny_pure ?_);simp![↓reduceIte];refine qfL (led:=led) (λb s1 Q' hq=>?_) ho hx hd hel1 hm1 (1:) hf1 hr1 ?_
   ·cases b
    ·exact wpAny_pure hq
    ·exact wpAny_rule hq
   ·intro h' k1 S1;dsimp only;exact wpAny_pure (fin h' k1 S1)
end
section
variable{prog:Program}{w:World}{A:Around}{R:Result->Shared->Prop}{I:Addr}{fp wr:List Addr}{G:Array GenState->Array GenState->Prop}{n:Nat}{P:Nat->Value->Prop}{St:Nat->Shared->Prop}{led:Bool}
theorem qjr(W:WalksS prog w A.in1 I fp wr G n P St)(S:Addr)(hSf:S∉fp)(val:Nat->Int)(hv:∀i v,P i v->∃t,v=.int (val i) t)(hb:n+1 < scanBound):∀(k i:Nat) (s:Shared),n - i=k->i<=n->St i s->
  QV prog w led s.heap S (λk'=>(firstMet val i).any (· == k')) (firstMet val i).length->
  (∀s',Moved (S::wr) G s s'->QV prog w led s'.heap S (λk'=>(firstMet val n).any (· == k')) (firstMet val n).length->R (.ok (.ret .none)) s')->
  codeAny (model prog w) A (.builtin "set.update.loop" ⟨[.ref S,.ref I],[]⟩) R s:=by
 have hSw:S∉wr:=λh=>hSf (W.sub _ h);have sub:∀b∈wr,b∈S::wr:=λb hb=>List.mem_cons_of_mem _ hb;intro k
 induction k with
 |zero=>
  intro i s hk hi st hS hR;obtain rfl:i=n:=by lia
  refine codeAny_builtin F.entry_set_update_loop ?_;rw[Around.under_plainId F.plain_set_update_loop _];show wpAny _ A.in1 (pyNext (.ref I) >>= _) _ _ s;refine wpAny_bind (W.done s _ _ st λs' hm=>?_);show wpAny _ A.in1 (ret Value.none) _ _ s';exact wpAny_pure (hR s' (hm.mono sub) (hS.to λo e=>hm.heap S _ hSw e))
 |succ k ih=>
  intro i s hk hi st hS hR;refine codeAny_builtin F.entry_set_update_loop ?_;rw[Around.under_plainId F.plain_set_update_loop _];show wpAny _ A.in1 (pyNext (.ref I) >>= _) _ _ s;refine wpAny_bind (W.item i s _ _ (1:) st λv s' hP st' hm=>?_);let(t,rfl):=hv i v hP;have hS':=hS.to (h':=s'.heap) λo e=>hm.heap S _ hSw e;show wpAny _ A.in1 (holding [Value.int (val i) t] (setAdd S (.int (val i) t)) >>= _) _ _ s';refine wpAny_bind (wpAny_holding ?_);unfold setAdd;refine wpAny_holding (wpAny_bind ((intKind prog w).pyHash (k:=val i) (intKind_is _ _ _ _) ?_))
  have:=firstMet_length_le val i
  refine ql9 (s:={ s' with toks:=s'.toks+1 }) (intKind_is _ _ _ _) rfl hS' (1:) λh' b sb S2=>?_;have S3:QV prog w led h' S (λk'=>(firstMet val (i+1)).any (· == k')) (firstMet val (i+1)).length:=S2.say (λk'=>by rw[firstMet_succ,step_any]) (by rw[firstMet_succ,step_length]);refine wpAny_pure ⟨plainId_quiet F.plain_set_update_loop _,ih (i+1) _ (1:) (1:) (W.frame _ s' _ _ st' (Nat.le_succ _) λb hb o e=>?_) S3 λs2 m2 z=>?_⟩
  ·rw[sb.2 b (λq:b=S=>hSf (by rw[<-q];exact hb))];exact e
  ·refine hR s2 (Moved.trans W.gtrans ((hm.mono sub).then_heap (Nat.le_succ _) λb o hb e=>?_) m2) z;rw[sb.2 b (λq:b=S=>hb (by rw[q];exact List.mem_cons_self))];exact e
end
section
variable{prog:Program}{w:World}{A:Around}{E:PQ}{s:Shared}
abbrev byT(w:World):Bool:=w.params.followText "set-order"
abbrev qeC(w:World):Obj:={ cls:=.type "set",dict:=none,data:=.set #[] 0 (.fresh 0 0 (!byT w)) }
def qma(a:Value){Q1:PQ}(h:Q1 (.ref s.heap.objs.size) { s with heap:=s.heap.push (qeC w) }) :
  codeAny (model prog w) A (.call (.builtin "set.__new__") ⟨[.type "set",a],[]⟩) (wants Q1 E) s:=by
 refine codeAny_of_tree ?_;show wpAny _ A.in1 (do checkBuiltinCall "set.__new__" ⟨[.type "set",a],[]⟩;again (.builtin "set.__new__" ⟨[.type "set",a],[]⟩)) _ _ s;refine wpAny_bind (wpAny_of_eq (PySem.F.newCall_set_1 a) (wpAny_pure ⟨plainId_quiet PySem.F.plain_set_new _,codeAny_builtin PySem.F.entry_set_new ?_⟩));rw[Around.under_plainId PySem.F.plain_set_new _];unfold Builtin.«set.__new__» Builtin.Frozenset.newClass;have hsub:=sub_set_self;let(hp,g,d,tk,os):=s;dsimp only
 wp_walk
 refine wpAny_askSetting (wpAny_pure ?_);dsimp only;simp![newObj];exact wpAny_bind (wpAny_alloc (wpAny_pure (wpAny_pure h)))
set_option maxHeartbeats 8000000 in
theorem qmb{l:Addr}{items:Array Value}{ns:List Int}{Q:PQ}(hh:A.handled=none)(hl:s.heap.IsList l items)(hi:IntsAre items.toList ns)(hb:items.size+1 < scanBound)
  (h:∀(h':Heap) (tk:Nat),QV prog w (!byT w) h' s.heap.objs.size (λk'=>(firstMet (λi=>ns.getD i 0) items.size).any (· == k')) (firstMet (λi=>ns.getD i 0) items.size).length->
   (∀b o,b < s.heap.objs.size->s.heap.get? b=some o->h'.get? b=some o)->Q (.ref s.heap.objs.size) { s with heap:=h',toks:=tk }) :
  wpAny (model prog w) A (call (.type "set") [.ref l]) Q E s:=by
 let(c,tl,hmro):=PySem.F.called_set.mro;have hmade:=PySem.F.called_set.made;have hsub:=PySem.F.called_set.sub;refine wpAny_call (codeAny_of_tree ?_);show wpAny _ _ (callAny (.type "set") _) _ _ _;refine wpAny_pure ⟨Code.quiet_builtin _ (3:),codeAny_builtin PySem.F.entry_type_call ?_⟩;rw[Around.under_plain (weight_type_call_type "set" [.ref l] []) rfl];have h1:=PySem.F.called_set.notType;have h2:=PySem.F.called_set.canCreate;have hct:=PySem.F.typeCall_set_1 (.ref l)
 repeat (any_goals (first|assumption|wp_step))
 refine codeAny_mono (qma (.ref l) (E:=E) (Q1:=λob s1=>ob=.ref s.heap.objs.size/\s1={ s with heap:=s.heap.push (qeC w) }) ⟨rfl,rfl⟩) λr s1 hr=>?_
 cases r with
 |error e=>exact hr
 |ok fl=>
  cases fl with
  |next=>exact False.elim hr
  |brk=>exact False.elim hr
  |cont=>exact False.elim hr
  |ret ob=>
   let(rfl,rfl):=hr;have hS:(s.heap.push (qeC w)).get? s.heap.objs.size=some (qeC w):=Heap.get?_push_size _ rfl;have hT:Shared.TypeIs { s with heap:=s.heap.push (qeC w) } (.ref s.heap.objs.size) "set":={_,hS,rfl};have hli:=PySem.F.called_set.init.lookup;have hbi:=PySem.F.called_set.init.bind (.ref s.heap.objs.size)
   repeat (any_goals (first|assumption|wp_step))
   refine codeAny_mono (codeAny_call_builtin (R:=wants (λr s2=>r=.none/\∃h' tk,s2={ s with heap:=h',toks:=tk }/\
     QV prog w (!byT w) h' s.heap.objs.size (λk'=>(firstMet (λi=>ns.getD i 0) items.size).any (· == k')) (firstMet (λi=>ns.getD i 0) items.size).length/\
     (∀b o,b < s.heap.objs.size->s.heap.get? b=some o->h'.get? b=some o)) E) PySem.F.called_set.init.plain PySem.F.entry_set_init (check_set_init_1 hT ?_)) λr2 s2 hr2=>?_
   ·let(ol,hol,hcl,nl,hdl):=hl;let(oc,od,oda,osl):=ol;simp only at hcl hdl;subst hcl hdl;have hol':(s.heap.push (qeC w)).get? l=some { cls:=.type "list",dict:=od,data:=.seq items nl,slots:=osl }:=Heap.get?_push_of_some _ hol;have hsls:=PySem.F.sub_list_set;have hslf:=PySem.F.sub_list_frozenset;have hne:(Value.type "list" == Value.type "dict")=false:=by decide
    have hl1:(s.heap.push (qeC w)).IsList l items:={_,hol',rfl,nl,rfl};unfold Builtin.«set.__init__» noKeywords Builtin.Frozenset.updateFrom;generalize hPI:pyIter=PI
    wp_walk
    subst hPI;refine wpAny_pyIter_list hl1 (wpAny_bind (wpAny_runValue ?_));have lt:l < s.heap.objs.size:=Heap.lt_size hol;have hh3:A.in1.in1.in1.handled=none:=by simp[hh]
    have neI:l≠(s.heap.push (qeC w)).objs.size:=by rw[Heap.size_push];lia
    have hSf:s.heap.objs.size∉[(s.heap.push (qeC w)).objs.size,l]:=by rw[Heap.size_push];simp![List.mem_cons,List.not_mem_nil,or_false,not_or];exact{by lia,by lia}
    refine qjr (led:=!byT w) ((Walks.list hh3 _ l neI items).toS) s.heap.objs.size hSf (λi=>ns.getD i 0) (λi v hv=>IntsAre.int_at hi i v (by rw[Array.getElem?_toList];exact hv)) hb (items.size - 0) 0 _ (1:) (Nat.zero_le _)
     ⟨⟨_,Heap.get?_push_size _ rfl,rfl,rfl⟩,(hl1.push _)⟩ ?S0 ?R0
    case S0=>exact{_,#[],0,.fresh 0 0 (!byT w),Heap.get?_push_of_some _ hS,⟨rfl,rfl,rfl⟩,rfl,λe he=>by simp at he,λk=>by simp[firstMet],by decide,rfl,rfl,qez}
    case R0=>intro s' hm S';let(h',g',d',tk',os'):=s';obtain rfl:g'=s.gens:=hm.gens;obtain rfl:d'=s.drawn:=hm.drawn;obtain rfl:os'=s.os:=hm.os;show wpAny _ _ _ _ _ _;refine wpAny_pure ?_;show wpAny _ _ (ret Value.none) _ _ _;refine wpAny_pure ⟨rfl,h',tk',rfl,S',λb o hb e=>hm.heap b o ?_ (Heap.get?_push_of_some _ (Heap.get?_push_of_some _ e))⟩;simp![List.mem_cons,List.not_mem_nil,or_false,not_or];exact{by lia,by rw[Heap.size_push];lia}
   ·cases r2 with
    |error e=>exact hr2
    |ok f2=>
     cases f2 with
     |next=>exact False.elim hr2
     |brk=>exact False.elim hr2
     |cont=>exact False.elim hr2
     |ret r=>
      let(rfl,h',tk,rfl,S',hk'):=hr2
      repeat (any_goals (first|assumption|wp_step))
      exact h _ _ S' hk'
end
def zu:Slot "set_iterator" "__next__" "set_iterator.__next__":=
 .of (owner:="set_iterator") (n:="__next__") (by rw[typeLookup_type,builtinLookup_eq_fast];kernel_rfl) (3:) (3:) (3:) (by first|exact .inl (3:)|exact .inr (3:)) (by rw[isSubtype_type];kernel_rfl)
def Jl:entryFor table "set_iterator.__next__" = some Builtin.«set_iterator.__next__»:=entryFor_of_tree (4:)
def YN(a:Value):argsOk "set_iterator.__next__" ⟨[a],[]⟩:=by
 unfold argsOk;rw[signature?_of (id:="set_iterator.__next__") (n:="__next__".toList.reverse) (o:="set_iterator".toList.reverse) (rows:=Manifest.sig_set_iterator) (4:) (4:)]
 kernel_rfl
def qcP:Slot "set_iterator" "__iter__" "set_iterator.__iter__":=
 .of (owner:="set_iterator") (n:="__iter__") (by rw[typeLookup_type,builtinLookup_eq_fast];kernel_rfl) (3:) (3:) (3:) (by first|exact .inl (3:)|exact .inr (3:)) (by rw[isSubtype_type];kernel_rfl)
def qeD:entryFor table "set_iterator.__iter__" = some Builtin.«dict_keyiterator.__iter__»:=entryFor_alias (id':="dict_keyiterator.__iter__") (4:) rfl (3:) (4:)
def qhc(a:Value):argsOk "set_iterator.__iter__" ⟨[a],[]⟩:=by
 unfold argsOk;rw[signature?_of (id:="set_iterator.__iter__") (n:="__iter__".toList.reverse) (o:="set_iterator".toList.reverse) (rows:=Manifest.sig_set_iterator) (4:) (4:)]
 kernel_rfl
def qeE:entryFor table "set.__iter__" = some Builtin.«frozenset.__iter__»:=entryFor_alias (id':="frozenset.__iter__") (4:) rfl (3:) (4:)
theorem YO{α:Type}:∀{l:List α} {i:Nat} (h:i < l.length),(l[i]::l.eraseIdx i).Perm l
 | x::l,0,h=>.refl _
 | x::l,i+1,h=>(List.Perm.swap x (l[i]'(-h:)) _).trans ((YO (l:=l) (i:=i) (-h:)).cons x)
theorem qcQ{α:Type}(f:Nat->Nat):∀(n k:Nat) (l:List α) (o:Array α),l.length=n->(pickOrder.go f n k l o).toList.Perm (o.toList++l)
 |0,k,l,o,h=>by cases List.length_eq_zero_iff.mp h;rw[pickOrder.go];simp
 | n+1,k,l,o,h=>by rw[pickOrder.go];have hi:f k % l.length < l.length:=Nat.mod_lt _ (1:);rw[List.getElem?_eq_getElem hi];dsimp only;refine(qcQ f n (k+1) _ _ (by rw[List.length_eraseIdx_of_lt hi];lia)).trans ?_;rw[Array.toList_push,List.append_assoc];exact(YO hi).append_left _
def QW{α:Type}(f:Nat->Nat)(xs:Array α):(pickOrder f xs).toList.Perm xs.toList:=by
 unfold pickOrder
 simpa using qcQ f xs.size 0 xs.toList #[] (5:)
section
variable{M:Model}{A:Around}{E:PQ}
def qhd{src:Source}{n:Nat}{s:Shared}{Q:Nat->Shared->Prop}(hn:n≠0)(h:∀i dr,i < n->Q i { s with drawn:=dr }):wpAny M A (choose src n) Q E s:=λL p _=>by show Sem.wp M L (.choose src n .pure) _ _ p s;rw[Sem.wp_choose];exact{hn,h _ _ (Nat.mod_lt _ (Nat.pos_of_ne_zero hn))}
theorem QX:∀(n:Nat) (xs:List Nat) (s:Shared) (Q:List Nat->Shared->Prop),xs.length=n->(∀ys dr,ys.Perm xs->Q ys { s with drawn:=dr })->wpAny M A (drawOrder n xs) Q E s
 |0,xs,s,Q,h,q=>by cases List.length_eq_zero_iff.mp h;rw[drawOrder];exact wpAny_pure (q [] s.drawn .nil)
 | n+1,[],s,Q,h,q=>by cases h
 | n+1,x::xs,s,Q,h,q=>by
  rw[drawOrder]
  case x_2=>simp
  refine wpAny_bind (qhd (5:) λi dr hi=>?_);rw[List.getElem?_eq_getElem hi];dsimp only;refine wpAny_bind (QX n _ _ _ (by rw[List.length_eraseIdx_of_lt hi];simp at h;simp;lia) λys dr2 hp=>?_);refine wpAny_pure (q _ dr2 ?_);exact(hp.cons _).trans (YO hi)
end
def SIt(h:Heap)(it a:Addr)(f:Value)(i n ep:Nat):Prop:=∃o,h.get? it=some o/\o.cls=.type "set_iterator"/\o.data=.fields #[f,.int i 0,.ref a,.int n 0,.int ep 0]
def SIt.ty{s:Shared}{it a:Addr}{f:Value}{i n ep:Nat}(x:SIt s.heap it a f i n ep):s.TypeIs (.ref it) "set_iterator":=by let(o,h1,h2,_):=x;exact⟨o,h1,h2⟩
def SIt.to{h h':Heap}{it a:Addr}{f:Value}{i n ep:Nat}(x:SIt h it a f i n ep)(k:∀o,h.get? it=some o->h'.get? it=some o):SIt h' it a f i n ep:=by let(o,h1,r):=x;exact{o,k o h1,r}
section
variable{prog:Program}{w:World}{A:Around}{E:PQ}{s:Shared}{it a:Addr}{f:Value}{i n ep:Nat}
def YQ{Q:PQ}(x:SIt s.heap it a f i n ep)(h:Q (.ref it) s):wpAny (model prog w) A (pyIter (.ref it)) Q E s:=by refine wpAny_pyIter_slot x.ty qcP (wpAny_call_entry qcP x.ty qeD ?_ (qhc _));show wpAny _ _ (ret (.ref it)) _ _ s;exact wpAny_pure ⟨_,rfl,"set_iterator",_,x.ty,zu.lookup,h⟩
def YR{h:Heap}{j:Nat}{v f':Value}{i':Nat}{ox:Obj}(hox:h.get? it=some ox)(hcx:ox.cls=.type "set_iterator"){vs:Array Value}(hdx:ox.data=.fields vs)(e:vs.setIfInBounds j v=#[f',.int i' 0,.ref a,.int n 0,.int ep 0]) :
  SIt (h.update it (Obj.mapFields (·.setIfInBounds j v))) it a f' i' n ep:=
 ⟨_,Heap.get?_update_self _ hox (Obj.isFreed_of_fields (Obj.data_mapFields hdx _)),(Obj.cls_mapFields ..).trans hcx,by rw[Obj.data_mapFields hdx,e]⟩
def qaI{o:Obj}{es:Array (Int×Value)}{t:SetTable}{k:Nat}{Q:Option Value->Shared->Prop}{y:Value}{k':Nat}(x:SIt s.heap it a (.int k 0) i n ep)(ho:s.heap.get? a=some o)(hd:o.data=.set es ep t)(hf:t.fits es.size=true)(hn:es.size=n)
  (hs:∀(A':Around) (E':PQ) (Q':Option (Value×Nat)->Shared->Prop),Q' (some (y,k')) s->wpAny (model prog w) A' (setNext a k i ep) Q' E' s)
  (q:∀h',Heap.SameBut it s.heap h'->SIt h' it a (.int k' 0) (i+1) n ep->Q (some y) { s with heap:=h' }):wpAny (model prog w) A (pyNext (.ref it)) Q E s:=by
 let(ox,hox,hcx,hdx):=id x;unfold pyNext;refine wpAny_bind (wpAny_attempt (wpAny_callSpecial?_slot (name:=Str.ofString "__next__") x.ty zu (wpAny_call_entry zu x.ty Jl ?_ (YN _))));unfold Builtin.«set_iterator.__next__»;refine wpAny_bind (wpAny_pure (wpAny_bind (wpAny_fieldsOf hox hdx ?_)));dsimp only;refine wpAny_bind (wpAny_bind (wpAny_setState_of ho hd hf (wpAny_pure ?_)));dsimp only;rw[if_neg (by rw[hn];simp)];refine wpAny_bind (hs _ _ _ ?_);dsimp only;refine wpAny_bind (wpAny_setField hox hdx (5:) ?_);have x1:=YR (h:=s.heap) (it:=it) (a:=a) (n:=n) (ep:=ep) (f':=.int k' 0) (i':=i) (j:=0) (v:=rawInt k') hox hcx hdx (by simp[rawInt]);let(o1,h1,c1,d1):=id x1;refine wpAny_bind (wpAny_setField h1 d1 (5:) ?_);have x2:=YR (it:=it) (a:=a) (n:=n) (ep:=ep) (f':=.int k' 0) (i':=i+1) (j:=1) (v:=rawInt ((i:Int)+1)) h1 c1 d1 (by simp[rawInt]);exact wpAny_pure ⟨_,rfl,wpAny_pure (q _ ((Heap.SameBut.update ..).trans (Heap.SameBut.update ..)) x2)⟩
def qaJ{Q:Option Value->Shared->Prop}(hh:A.handled=none){j:Nat}{v:Value}{ox:Obj}{vs:Array Value}(hox:s.heap.get? it=some ox)(hdx:ox.data=.fields vs)(hj:j < vs.size)
  (q:∀h',Heap.ExtBut it s.heap h'->Q none { s with heap:=h' }) :
  wpAny (model prog w) A.in1 (do setField (Value.ref it) j v;let e<-newExc (Value.type "StopIteration") [];raiseNew e)
   (λfin s'=>∃v,fin=PySem.Fin.done (Flow.ret v)/\wpAny (model prog w) A (pure (some v)) Q E s') (λe s'=>wpAny (model prog w) A (do let b<-isInstance e (Value.type "StopIteration");if b=true then pure none else throw e) Q E s') s:=by
 refine wpAny_bind (wpAny_setField hox hdx hj (wpAny_bind ?_));simp![newExc,newTuple];refine wpAny_bind (wpAny_newObj_type ?_ (by size_fits));refine wpAny_bind (m:=firstArgMember _ _) (wpAny_of_eq (a:=Value.none) (by first|rfl|(simp![firstArgMember];rfl)) ?_);refine wpAny_newObj_type ?_ (by size_fits);simp![raiseNew];refine wpAny_bind (wpAny_handled ?_);rw[show A.in1.handled=none from hh];refine wpAny_bind (wpAny_pure (wpAny_throw ?_));refine wpAny_bind (wpAny_isInstance (T:="StopIteration") (b:=true) ⟨_,Heap.get?_push_size _ rfl,rfl⟩ isSubtype_stop ?_);exact wpAny_pure (q _ (((Heap.SameBut.update ..).extBut.push _).push _))
def qcR{o:Obj}{es:Array (Int×Value)}{t:SetTable}{k:Nat}{Q:Option Value->Shared->Prop}(hh:A.handled=none)(x:SIt s.heap it a (.int k 0) i n ep)(ho:s.heap.get? a=some o)(hd:o.data=.set es ep t)(hf:t.fits es.size=true)(hn:es.size=n)
  (hs:∀(A':Around) (E':PQ) (Q':Option (Value×Nat)->Shared->Prop),Q' none s->wpAny (model prog w) A' (setNext a k i ep) Q' E' s)
  (q:∀h',Heap.ExtBut it s.heap h'->Q none { s with heap:=h' }):wpAny (model prog w) A (pyNext (.ref it)) Q E s:=by
 let(ox,hox,hcx,hdx):=id x;unfold pyNext;refine wpAny_bind (wpAny_attempt (wpAny_callSpecial?_slot (name:=Str.ofString "__next__") x.ty zu (wpAny_call_entry zu x.ty Jl ?_ (YN _))));unfold Builtin.«set_iterator.__next__»;refine wpAny_bind (wpAny_pure (wpAny_bind (wpAny_fieldsOf hox hdx ?_)));dsimp only;refine wpAny_bind (wpAny_bind (wpAny_setState_of ho hd hf (wpAny_pure ?_)));dsimp only;rw[if_neg (by rw[hn];simp)];refine wpAny_bind (hs _ _ _ ?_);exact qaJ hh hox hdx (5:) q
def qeF{o ot:Obj}{es:Array (Int×Value)}{t:SetTable}{T:Addr}{ps:List Nat}{p:Nat}{c:Nat}{Q:Option Value->Shared->Prop}{y:Int×Value}(x:SIt s.heap it a (.ref T) i n ep)(ho:s.heap.get? a=some o)(hd:o.data=.set es ep t)(hf:t.fits es.size=true)(hn:es.size=n)
  (hT:s.heap.get? T=some ot) (hdT:ot.data=.seq (ps.map λj:Nat=>rawInt j).toArray c) (hp:ps[i]?=some p) (hy:es[p]?=some y)
  (q:∀h',Heap.SameBut it s.heap h'->SIt h' it a (.ref T) (i+1) n ep->Q (some y.2) { s with heap:=h' }):wpAny (model prog w) A (pyNext (.ref it)) Q E s:=by
 let(ox,hox,hcx,hdx):=id x;unfold pyNext;refine wpAny_bind (wpAny_attempt (wpAny_callSpecial?_slot (name:=Str.ofString "__next__") x.ty zu (wpAny_call_entry zu x.ty Jl ?_ (YN _))));unfold Builtin.«set_iterator.__next__»;refine wpAny_bind (wpAny_pure (wpAny_bind (wpAny_fieldsOf hox hdx ?_)));dsimp only;refine wpAny_bind (wpAny_bind (wpAny_setState_of ho hd hf (wpAny_pure ?_)));dsimp only;rw[if_neg (by rw[hn];simp)];refine wpAny_bind (wpAny_seqItems hT hdT ?_);dsimp only
 have e:(ps.map λj:Nat=>rawInt j).toArray[(i:Int).toNat]?=some (Value.int p 0):=by rw[Int.toNat_natCast,List.getElem?_toArray,List.getElem?_map,hp];rfl
 rw[e];dsimp only;refine wpAny_bind ?_;unfold setNextDrawn;refine wpAny_bind (wpAny_setState_of ho hd hf ?_);dsimp only;rw[if_neg (5:)];rw[Int.toNat_natCast,hy];refine wpAny_pure ?_;refine wpAny_bind (wpAny_setField hox hdx (5:) ?_);have x2:=YR (it:=it) (a:=a) (n:=n) (ep:=ep) (f':=.ref T) (i':=i+1) (j:=1) (v:=rawInt ((i:Int)+1)) hox hcx hdx (by simp[rawInt]);exact wpAny_pure ⟨_,rfl,wpAny_pure (q _ (Heap.SameBut.update ..) x2)⟩
def qcS{o ot:Obj}{es:Array (Int×Value)}{t:SetTable}{T:Addr}{ps:List Nat}{c:Nat}{Q:Option Value->Shared->Prop}(hh:A.handled=none)(x:SIt s.heap it a (.ref T) i n ep)(ho:s.heap.get? a=some o)(hd:o.data=.set es ep t)(hf:t.fits es.size=true)(hn:es.size=n)
  (hT:s.heap.get? T=some ot) (hdT:ot.data=.seq (ps.map λj:Nat=>rawInt j).toArray c) (hp:ps[i]?=none)
  (q:∀h',Heap.ExtBut it s.heap h'->Q none { s with heap:=h' }):wpAny (model prog w) A (pyNext (.ref it)) Q E s:=by
 let(ox,hox,hcx,hdx):=id x;unfold pyNext;refine wpAny_bind (wpAny_attempt (wpAny_callSpecial?_slot (name:=Str.ofString "__next__") x.ty zu (wpAny_call_entry zu x.ty Jl ?_ (YN _))));unfold Builtin.«set_iterator.__next__»;refine wpAny_bind (wpAny_pure (wpAny_bind (wpAny_fieldsOf hox hdx ?_)));dsimp only;refine wpAny_bind (wpAny_bind (wpAny_setState_of ho hd hf (wpAny_pure ?_)));dsimp only;rw[if_neg (by rw[hn];simp)];refine wpAny_bind (wpAny_seqItems hT hdT ?_);dsimp only
 have e:(ps.map λj:Nat=>rawInt j).toArray[(i:Int).toNat]?=none:=by rw[Int.toNat_natCast,List.getElem?_toArray,List.getElem?_map,hp];rfl
 rw[e];dsimp only;refine wpAny_bind (wpAny_setField hox hdx (5:) ?_);have x2:=YR (it:=it) (a:=a) (n:=n) (ep:=ep) (f':=.int 0 0) (i':=i) (j:=0) (v:=rawInt 0) hox hcx hdx (by simp[rawInt]);let(o1,h1,c1,d1):=id x2;exact qaJ (s:={ s with heap:=_ }) hh h1 d1 (5:) λh' eb=>q h' λb ob hb e=>eb b ob hb ((Heap.SameBut.update ..).extBut b ob hb e)
end
section
variable{prog:Program}{w:World}{A:Around}{E:PQ}{s:Shared}{a:Addr}{o:Obj}{es:Array (Int×Value)}{ep:Nat}{t:SetTable}
def YS{Q:Bool->Shared->Prop}(h:Q (byT w) s):wpAny (model prog w) A setsByText Q E s:=by unfold setsByText;exact wpAny_bind (wpAny_askSetting (wpAny_pure h))
def qfM{k i:Nat}{Q:Option (Value×Nat)->Shared->Prop}(ho:s.heap.get? a=some o)(hd:o.data=.set es ep t)(hf:t.fits es.size=true)(hb:byT w=true)
  (q:Q (((pickOrder (w.params.setOrder a ep) es)[i]?).map λe=>(e.2,k)) s):wpAny (model prog w) A (setNext a k i ep) Q E s:=by
 unfold setNext;refine wpAny_bind (wpAny_setState_of ho hd hf (wpAny_bind (YS ?_)));rw[hb];simp![↓reduceIte];rw[if_neg (5:)];refine wpAny_bind ?_;unfold setWalk;refine wpAny_bind (wpAny_setState_of ho hd hf (wpAny_bind (YS ?_)));rw[hb];simp![↓reduceIte];exact wpAny_bind (wpAny_askSetting (wpAny_pure (wpAny_pure q)))
def qfN{k i:Nat}{Q:Option (Value×Nat)->Shared->Prop}(ho:s.heap.get? a=some o)(hd:o.data=.set es ep t)(hf:t.fits es.size=true)(hb:byT w=false)(hp:t.plain=true\/es.size<=1)(hl:t.led=true)
  (q:Q (match es[SetTable.below t.place k]?,t.place[SetTable.below t.place k]? with |some (_,x),some j=>some (x,j+1) |_,_=>none) s):wpAny (model prog w) A (setNext a k i ep) Q E s:=by
 unfold setNext;refine wpAny_bind (wpAny_setState_of ho hd hf (wpAny_bind (YS ?_)));rw[hb];simp![Bool.false_eq_true,↓reduceIte];split
 ·rename_i h;have h:(!t.plain&&decide (es.size > 1))=true:=h;exfalso;simp![Bool.and_eq_true,Bool.not_eq_true',decide_eq_true_eq]at h;rcases hp with z|z
  ·rw[z]at h;cases h.1
  ·lia
 ·refine wpAny_bind (m:=(if (!t.led&&!es.isEmpty)=true then unsupported "set:maker-not-led" else pure ())) ?_;rw[hl];exact wpAny_pure (wpAny_pure q)
def WK(prog:Program)(w:World)(it a:Addr)(fp:List Addr)(vs:List Value)(St:Nat->Heap->Prop):Prop:=∀A:Around,A.handled=none->Walks prog w A it fp [it] vs.length (λi v=>vs[i]?=some v) St
def qhe(it:Addr)(hne:a≠it)(hd:o.data=.set es ep t)(hf:t.fits es.size=true)(hb:byT w=true) :
  WK prog w it a [it,a] ((pickOrder (w.params.setOrder a ep) es).toList.map (·.2)) (λi h=>SIt h it a (.int (0:Nat) 0) i es.size ep/\h.get? a=some o):=λA hh=>by
 have hsz:(pickOrder (w.params.setOrder a ep) es).size=es.size:=by
  have:=(QW (w.params.setOrder a ep) es).length_eq
  simpa using this
 refine{λb hb=>by simp at hb;simp[hb],λi h h' st k=>{st.1.to λo e=>k it (5:) o e,k a (5:) _ st.2},λi s Q E hi st q=>?_,λs Q E st q=>?_,λi s Q E st q=>YQ st.1 q}
 ·have hi':i < (pickOrder (w.params.setOrder a ep) es).size:=(-hi:)
  refine qaI (y:=(pickOrder (w.params.setOrder a ep) es)[i].2) (k':=0) st.1 st.2 hd hf rfl (λA' E' Q' q'=>qfM st.2 hd hf hb ?_) λh' sb x=>q _ h' s.toks ?_ ⟨x,sb.extBut a _ hne st.2⟩ λb ob hb e=>sb.extBut b ob (λz=>hb (by simp[z])) e
  ·rw[Array.getElem?_eq_getElem hi'];exact q'
  ·simp[hi']
 ·refine qcR hh st.1 st.2 hd hf rfl (λA' E' Q' q'=>qfM st.2 hd hf hb ?_) λh' eb=>q h' s.toks λb ob hb e=>eb b ob (λz=>hb (by simp[z])) e;rw[Array.getElem?_eq_none (5:)];exact q'
def slP(t:SetTable)(i:Nat):Nat:=match i with
 |0=>0
 | j+1=>t.place.getD j 0+1
def qeG(it:Addr)(hne:a≠it)(hd:o.data=.set es ep t)(hf:t.fits es.size=true)(hb:byT w=false)(hp:t.plain=true\/es.size<=1)(hr:Rt true t) :
  WK prog w it a [it,a] (es.toList.map (·.2)) (λi h=>SIt h it a (.int (slP t i) 0) i es.size ep/\h.get? a=some o):=λA hh=>by
 have hz:t.place.size=es.size:=by simp![SetTable.fits,Bool.and_eq_true,beq_iff_eq]at hf;exact hf.1
 have bl:∀i,i<=es.size->SetTable.below t.place (slP t i)=i:=λi hi=>by
  cases i with
  |zero=>exact qbB _ hr.1
  |succ j=>
   have hj:j < t.place.size:=by lia
   show SetTable.below t.place (t.place.getD j 0+1)=j+1;rw[show t.place.getD j 0=t.place[j] by simp[Array.getD,hj]];exact qbA hr.1 hj
 refine{λb hb=>by simp at hb;simp[hb],λi h h' st k=>{st.1.to λo e=>k it (5:) o e,k a (5:) _ st.2},λi s Q E hi st q=>?_,λs Q E st q=>?_,λi s Q E st q=>YQ st.1 q}
 ·have hi':i < es.size:=(-hi:)
  refine qaI (y:=es[i].2) (k':=slP t (i+1)) st.1 st.2 hd hf rfl (λA' E' Q' q'=>qfN st.2 hd hf hb hp hr.2.2 ?_) λh' sb x=>q _ h' s.toks ?_ ⟨x,sb.extBut a _ hne st.2⟩ λb ob hb e=>sb.extBut b ob (λz=>hb (by simp[z])) e
  ·rw[bl i (1:),Array.getElem?_eq_getElem hi',Array.getElem?_eq_getElem (1:)]
   have:slP t (i+1)=t.place[i]'(1:)+1:=by show t.place.getD i 0+1=_;rw[show t.place.getD i 0=t.place[i]'(1:) by simp[Array.getD,show i < t.place.size by lia]]
   rw[this]at q';exact q'
  ·simp[hi']
 ·have e:(es.toList.map (·.2)).length=es.size:=by simp
  rw[e]at st;refine qcR hh st.1 st.2 hd hf rfl (λA' E' Q' q'=>qfN st.2 hd hf hb hp hr.2.2 ?_) λh' eb=>q h' s.toks λb ob hb e=>eb b ob (λz=>hb (by simp[z])) e;rw[bl _ (Nat.le_refl _),Array.getElem?_eq_none (Nat.le_refl _)];exact q'
def qhf(it T:Addr)(hne:a≠it)(hnT:T≠it){ot:Obj}{ps:List Nat}(hd:o.data=.set es ep t)(hf:t.fits es.size=true)(hdT:ot.data=.seq (ps.map λj:Nat=>rawInt j).toArray 0)(hp:ps.Perm (List.range es.size)) :
  WK prog w it a [it,a,T] (ps.map λp=>(es.getD p default).2) (λi h=>SIt h it a (.ref T) i es.size ep/\h.get? a=some o/\h.get? T=some ot):=λA hh=>by
 have hl:ps.length=es.size:=by simpa using hp.length_eq
 refine{λb hb=>by simp at hb;simp[hb],λi h h' st k=>{st.1.to λo e=>k it (5:) o e,k a (5:) _ st.2.1,k T (5:) _ st.2.2},λi s Q E hi st q=>?_,λs Q E st q=>?_,λi s Q E st q=>YQ st.1 q}
 ·have hi':i < ps.length:=(-hi:)
  have hpi:ps[i] < es.size:=by
   have:=hp.mem_iff.mp (List.getElem_mem hi')
   simpa using this
  refine qeF (p:=ps[i]) (y:=es[ps[i]]) st.1 st.2.1 hd hf rfl st.2.2 hdT (List.getElem?_eq_getElem hi') (Array.getElem?_eq_getElem hpi) λh' sb x=>q _ h' s.toks ?_ ⟨x,sb.extBut a _ hne st.2.1,sb.extBut T _ hnT st.2.2⟩ λb ob hb e=>sb.extBut b ob (λz=>hb (by simp[z])) e;simp[hi',Array.getD,hpi]
 ·have e:(ps.map λp=>(es.getD p default).2).length=ps.length:=by simp
  rw[e]at st;exact qcS hh st.1 st.2.1 hd hf rfl st.2.2 hdT (List.getElem?_eq_none (Nat.le_refl _)) λh' eb=>q h' s.toks λb ob hb e=>eb b ob (λz=>hb (by simp[z])) e
def qeH{ps:List Nat}(hp:ps.Perm (List.range es.size)):(ps.map λp=>(es.getD p default).2).Perm (es.toList.map (·.2)):=by
 refine(hp.map _).trans (List.Perm.of_eq ?_);refine List.ext_getElem (5:) λi h1 h2=>?_
 have:i < es.size:=(-h1:)
 simp[Array.getD,this]
def qeI{Q:PQ}(ho:s.heap.get? a=some o)(hx:o.ExactSet)(hd:o.data=.set es ep t)(hf:t.fits es.size=true)(hr:Rt (!byT w) t)(hb:es.size < scanBound)
  (q:∀(it:Addr) (h':Heap) (dr:Drawn) (fp:List Addr) (vs:List Value) (St:Nat->Heap->Prop),vs.Perm (es.toList.map (·.2))->WK prog w it a fp vs St->St 0 h'->(∀b o,s.heap.get? b=some o->h'.get? b=some o)->s.heap.objs.size<=it->(∀b∈fp,b=a\/s.heap.objs.size<=b)->Q (.ref it) { s with heap:=h',drawn:=dr }) :
  wpAny (model prog w) A (pyIter (.ref a)) Q E s:=by
 have hT:s.TypeIs (.ref a) "set":=⟨o,ho,hx.1⟩
 have ne:∀{b:Addr},s.heap.objs.size<=b->a≠b:=λ{b} h z=>by
  have:=Heap.lt_size ho
  lia
 refine wpAny_pyIter_slot hT PySem.F.slot_set_iter (wpAny_call_entry PySem.F.slot_set_iter hT qeE ?_ (PySem.F.args_set_iter_1 _));unfold Builtin.«frozenset.__iter__»;refine wpAny_bind (m:=Builtin.Frozenset.slot0 "__iter__" _) (wpAny_pure ?_);refine wpAny_bind ?_;unfold Builtin.Frozenset.sizeOf;refine wpAny_bind (wpAny_bind (wpAny_setState_of ho hd hf (wpAny_pure (wpAny_pure ?_))))
 have fin:∀(s2:Shared) (fv:Value) (dr:Drawn) (h2:Heap),s2={ s with heap:=h2,drawn:=dr }->h2.get? a=some o->
   (Q (.ref h2.objs.size) { s with heap:=h2.push { cls:=.type "set_iterator",data:=.fields #[fv,.int 0 0,.ref a,.int es.size 0,.int ep 0] },drawn:=dr })->
   wpAny (model prog w) A.in1 (do let e<-setEpoch a;let v<-newFields "set_iterator" [fv,rawInt 0,.ref a,rawInt es.size,rawInt e];ret v)
    (λfin s'=>∃v,fin=PySem.Fin.done (Flow.ret v)/\∃T' r,s'.TypeIs v T'/\typeLookup (.type T') "__next__" = pure (some r)/\Q v s') E s2:=by
  intro s2 fv dr h2 e2 ho2 q2;subst e2;refine wpAny_bind (wpAny_setEpoch_of (s:={ s with heap:=h2,drawn:=dr }) ho2 hd hf (wpAny_bind (wpAny_newObj_type (wpAny_pure ⟨_,rfl,"set_iterator",_,⟨_,Heap.get?_push_size _ rfl,rfl⟩,zu.lookup,q2⟩))))
 refine wpAny_bind ?_;unfold setDrawn;refine wpAny_bind (wpAny_setState_of ho hd hf (wpAny_bind (YS (wpAny_pure ?_))));dsimp only;have lo:∀(h2:Heap) (x:Obj) (b:Addr) (ob:Obj),h2.get? b=some ob->(h2.push x).get? b=some ob:=λh2 x b ob e=>Heap.get?_push_of_some _ e;split
 ·rename_i hc;have hc:(!byT w&&(!t.plain&&decide (es.size > 1)))=true:=hc;refine wpAny_bind (QX es.size (List.range es.size) s _ (5:) λps dr hp=>?_)
  have hz:(List.map (λj:Nat=>rawInt (j:Int)) ps).length<=sizeLine:=by
   have:=hp.length_eq
   simp at this ⊢;rw[this];exact fits_of_scanBound hb
  refine wpAny_bind (wpAny_newTuple ?_ hz);refine fin _ _ dr _ rfl (lo _ _ _ _ ho) ?_;have s1:(s.heap.push { cls:=.type "tuple",data:=.seq (List.map (λj:Nat=>rawInt (j:Int)) ps).toArray }).objs.size=s.heap.objs.size+1:=Heap.size_push ..;refine q _ _ dr [_,a,s.heap.objs.size] _ _ (qeH hp) (qhf (ot:={ cls:=.type "tuple",data:=.seq (List.map (λj:Nat=>rawInt (j:Int)) ps).toArray }) _ s.heap.objs.size (ne (1:)) (1:) hd hf rfl hp) ⟨⟨_,Heap.get?_push_size _ rfl,rfl,rfl⟩,lo _ _ _ _ (lo _ _ _ _ ho),lo _ _ _ _ (Heap.get?_push_size _ rfl)⟩ (λb ob e=>lo _ _ _ _ (lo _ _ _ _ e)) (1:) λb hb=>?_;simp![List.mem_cons,List.not_mem_nil,or_false]at hb;rcases hb with rfl|rfl|rfl
  ·exact .inr (1:)
  ·exact .inl rfl
  ·exact .inr (Nat.le_refl _)
 ·rename_i hc;have hc:¬ (!byT w&&(!t.plain&&decide (es.size > 1)))=true:=hc;refine wpAny_bind (wpAny_pure ?_);refine fin s _ s.drawn s.heap rfl ho ?_
  have two:∀b∈[s.heap.objs.size,a],b=a\/s.heap.objs.size<=b:=λb hb=>by
   simp![List.mem_cons,List.not_mem_nil,or_false]at hb;rcases hb with rfl|rfl
   ·exact .inr (Nat.le_refl _)
   ·exact .inl rfl
  cases hT:byT w with
  |true=>exact q _ _ s.drawn [_,a] _ _ ((QW _ es).map _) (qhe _ (ne (Nat.le_refl _)) hd hf hT) ⟨⟨_,Heap.get?_push_size _ rfl,rfl,rfl⟩,lo _ _ _ _ ho⟩ (λb ob e=>lo _ _ _ _ e) (Nat.le_refl _) two
  |false=>
   rw[hT]at hc hr;refine q _ _ s.drawn [_,a] _ _ (.refl _) (qeG _ (ne (Nat.le_refl _)) hd hf hT ?_ hr) ⟨⟨_,Heap.get?_push_size _ rfl,rfl,rfl⟩,lo _ _ _ _ ho⟩ (λb ob e=>lo _ _ _ _ e) (Nat.le_refl _) two;simp![Bool.not_false,Bool.true_and,Bool.and_eq_true,Bool.not_eq_true',decide_eq_true_eq,not_and]at hc
   cases hp:t.plain with
   |true=>exact .inl rfl
   |false=>exact .inr (by have:=hc hp;lia)
end
open PySem.W
section
variable{prog:Program}{w:World}{A:Around}{E:PQ}{s:Shared}{a:Addr}{o:Obj}{es:Array (Int×Value)}{ep:Nat}{t:SetTable}
def qjs{Q:Bool->Shared->Prop}(hT:s.TypeIs (.ref a) "set")(h:Q false s):wpAny (model prog w) A (Builtin.List.listLengthHint (.ref a)) Q E s:=by
 unfold Builtin.List.listLengthHint;refine wpAny_bind (wpAny_specialOf hT PySem.F.slot_set_len.lookup ?_);generalize hid:("set.__len__" : String)=id0
 wp_delta
 rw[show splitId id0=some ("set","__len__") from by subst hid;decide+kernel];subst hid;refine wpAny_bind (wpAny_isInstance (T:="set") (b:=true) hT (by rw[isSubtype_type];kernel_rfl) ?_);refine wpAny_ite_split (λhab=>absurd hab (2:)) (λ_=>?_);refine wpAny_ite_split (λ_=>?_) (λhab=>absurd (3:) hab);exact wpAny_bind (wpAny_typeOf hT (wpAny_pure h))
def qbC{vs:List Value}{acc:Array Value}(h:ItemsOf (λi v=>vs[i]?=some v) acc vs.length):acc.toList=vs:=by
 refine List.ext_getElem (-h.1:) λi h1 h2=>?_;have h1':i < acc.size:=(-h1:)
 have this:vs[i]?=some acc[i]:=h.2 i acc[i] (Array.getElem?_eq_getElem h1');rw[List.getElem?_eq_getElem h2]at this
 simpa using (Option.some.inj this).symm
def qmc{R:List Value->Shared->Prop}(hh:A.handled=none)(ho:s.heap.get? a=some o)(hx:o.ExactSet)(hd:o.data=.set es ep t)(hf:t.fits es.size=true)(hr:Rt (!byT w) t)(hb:es.size < scanBound)
  (q:∀(h':Heap) (tk:Nat) (dr:Drawn) (vs:List Value),vs.Perm (es.toList.map (·.2))->(∀b o,s.heap.get? b=some o->h'.get? b=some o)->R vs { s with heap:=h',toks:=tk,drawn:=dr }) :
  wpAny (model prog w) A (collect (.ref a)) R E s:=by
 unfold collect;refine wpAny_bind (wpAny_runValue (codeAny_builtin entry_proto_collect' ?_));rw[Around.under_plainId PySem.F.plain_proto_collect _];show wpAny _ A.in1 (newList [] >>= λl=>again (.builtin "list.__iadd__" ⟨[l,.ref a],[]⟩)) _ _ s;refine wpAny_bind (wpAny_newObj_type (wpAny_pure ⟨plainId_quiet PySem.F.plain_list_iadd _,codeAny_builtin entry_list_iadd' ?_⟩));rw[Around.under_plainId PySem.F.plain_list_iadd _];show wpAny _ A.in1 (Builtin.List.listExtendWith (.ref s.heap.objs.size) (.ref a) (.ref s.heap.objs.size)) _ _ _;generalize hl:({ cls:=.type "list",data:=.seq ([]:List Value).toArray }:Obj)=l0;have hS1:(s.heap.push l0).get? s.heap.objs.size=some { cls:=.type "list",data:=.seq #[] }:=by subst hl;exact Heap.get?_push_size _ rfl
 have ho1:(s.heap.push l0).get? a=some o:=Heap.get?_push_of_some _ ho;have old1:∀b ob,s.heap.get? b=some ob->(s.heap.push l0).get? b=some ob/\b≠s.heap.objs.size:=λb ob e=>{Heap.get?_push_of_some _ e,Nat.ne_of_lt (Heap.lt_size e)};have hT1:Shared.TypeIs { s with heap:=s.heap.push l0 } (.ref a) "set":=⟨o,ho1,hx.1⟩;have sz1:(s.heap.push l0).objs.size=s.heap.objs.size+1:=Heap.size_push ..;have hSa:s.heap.objs.size≠a:=λz=>(old1 a o ho).2 z.symm;generalize s.heap.push l0=g1 at hS1 ho1 old1 hT1 sz1;unfold Builtin.List.listExtendWith;refine wpAny_bind (wpAny_typeOf (T:="set") hT1 ?_);have e1:Builtin.List.listSameRef (.ref s.heap.objs.size) (.ref a)=false:=by simp[Builtin.List.listSameRef,hSa]
 simp![e1,show(Value.type "set" == Value.type "list")=false by decide,show(Value.type "set" == Value.type "tuple")=false by decide,Bool.or_false,Bool.false_eq_true,if_false];refine wpAny_bind (qeI ho1 hx hd hf hr hb λit g2 dr fp vs St hp W st old2 nit nfp=>?_);have hS2:=old2 _ _ hS1
 have hSf:s.heap.objs.size∉fp:=λz=>by
  rcases nfp _ z with e|e
  ·exact hSa e
  ·dsimp only at e;lia
 have hn:vs.length<=sizeLine:=by
  have:=hp.length_eq
  simp at this;rw[this];exact fits_of_scanBound hb
 have key:∀(h:Heap) (c1 tk:Nat),St 0 h->(∀b o,b≠s.heap.objs.size->s.heap.get? b=some o->h.get? b=some o)->h.get? s.heap.objs.size=some { cls:=.type "list",data:=.seq #[] c1 }->
   codeAny (model prog w) A (.builtin "list.extend.loop" ⟨[.ref s.heap.objs.size,.ref it,.ref s.heap.objs.size],[]⟩) (λq' s'=>∃(h':Heap) (tk:Nat) (acc':Array Value) (c':Nat),q'=.ok (.ret (.ref s.heap.objs.size))/\s'={ s with heap:=h',toks:=tk,drawn:=dr }/\
    (∀b o,s.heap.get? b=some o->h'.get? b=some o)/\h'.get? s.heap.objs.size=some { cls:=.type "list",dict:=none,data:=.seq acc' c',slots:=#[] }/\acc'.toList=vs) { s with heap:=h,toks:=tk,drawn:=dr }:=by
  intro h c1 tk st' hk hS';refine codeAny_extend_loopS (W A.in1 hh).toS hn s.heap.objs.size hSf _ vs.length 0 _ #[] c1 rfl (Nat.zero_le _) st' hS' (ItemsOf.nil _) λs' acc' c' hm hS3 hacc=>?_;rw[Moved.eq_with hm];refine{s'.heap,s'.toks,acc',c',rfl,rfl,λb ob e=>hm.heap b ob (λz=>?_) (hk b ob (old1 b ob e).2 e),hS3,qbC hacc};have lt:=Heap.lt_size e;dsimp only at nit;rcases List.mem_cons.mp z with z|z
  ·lia
  ·have:=List.mem_singleton.mp z
   lia
 refine wpAny_bind (wpAny_holding (qjs ⟨o,old2 _ _ ho1,hx.1⟩ ?_))
 refine wpAny_ite_split (λ_=>?_) (λ_=>wpAny_pure ⟨plainId_quiet PySem.F.plain_extend_loop _,codeAny_mono (key g2 0 s.toks st (λb ob _ e=>old2 b ob (old1 b ob e).1) hS2) λr s' hq=>by
   let(h',tk',acc',c',rfl,rfl,hk',hS',hv):=hq;show wpAny _ A (load s.heap.objs.size >>= _) _ _ _;refine wpAny_bind (wpAny_load hS' (wpAny_pure ?_))
   have:=q h' tk' dr vs hp hk'
   rw[<-hv]at this;exact this⟩)
 refine wpAny_bind (wpAny_rule (wpAny_bind ?_));show wpAny _ _ (updateSeq s.heap.objs.size (·.push .none) >>= λ_=>updateSeq s.heap.objs.size (·.pop)) _ _ _;refine wpAny_bind (wpAny_updateSeq hS2 rfl ?_);have hS3:=Heap.get?_update_self (Obj.mapSeq (·.push Value.none)) hS2 rfl;refine wpAny_updateSeq (hz:=by seq_fits) hS3 rfl ?_;have hS4:=Heap.get?_update_self (Obj.mapSeq (·.pop)) hS3 rfl;have oth:∀b ob,b≠s.heap.objs.size->g2.get? b=some ob->((g2.update s.heap.objs.size (Obj.mapSeq (·.push Value.none))).update s.heap.objs.size (Obj.mapSeq (·.pop))).get? b=some ob:=λb ob hb e=>(Heap.get?_update_other _ _ (Ne.symm hb)).trans ((Heap.get?_update_other _ _ (Ne.symm hb)).trans e)
 exact wpAny_pure ⟨plainId_quiet PySem.F.plain_extend_loop _,codeAny_mono (key _ _ s.toks ((W A.in1 hh).frame 0 _ _ st λb hb ob e=>oth b ob (λz=>hSf (z▸hb)) e) (λb ob hb e=>oth b ob hb (old2 b ob (old1 b ob e).1)) hS4) λr s' hq=>by
   let(h',tk',acc',c',rfl,rfl,hk',hS',hv):=hq;show wpAny _ A (load s.heap.objs.size >>= _) _ _ _;refine wpAny_bind (wpAny_load hS' (wpAny_pure ?_))
   have:=q h' tk' dr vs hp hk'
   rw[<-hv]at this;exact this⟩
end
theorem YT(val:Nat->Int):∀i,(firstMet val i).Nodup
 |0=>List.nodup_nil
 | i+1=>by
  rw[firstMet_succ];unfold step_dedup;split
  ·exact YT val i
  ·rename_i h;rw[List.nodup_append];refine{YT val i,by simp,λa ha b hb e=>h ?_};rw[List.mem_singleton.mp hb]at e;rw[List.any_eq_true];exact{a,ha,by simp[e]}
def qjt(ns:List Int)(k:Int):k∈firstMet (λi=>ns.getD i 0) ns.length↔k∈ns:=by
 have e:(List.range ns.length).map (λi=>ns.getD i 0)=ns:=List.ext_getElem (5:) λi h1 h2=>by simp[h2]
 have h:=firstMet_any (λi=>ns.getD i 0) ns.length k;rw[e]at h;have a:∀l:List Int,l.any (· == k)=true↔k∈l:=λl=>by rw[List.any_eq_true];simp
 rw[<-a,h,a]
def qhg{xs ys:List Int}(hy:ys.Nodup)(hm:∀k,k∈ys->k∈xs)(hl:xs.length=ys.length):xs.Perm ys:=by
 have:∀(ys xs:List Int),ys.Nodup->(∀k,k∈ys->k∈xs)->xs.length=ys.length->xs.Perm ys:=by
  intro ys
  induction ys with
  |nil=>intro xs _ _ hl;cases List.length_eq_zero_iff.mp hl;exact .refl _
  |cons y ys ih=>
   intro xs hn hm hl;have hy:y∈xs:=hm y (5:);have hp:xs.Perm (y::xs.erase y):=List.perm_cons_erase hy;rw[List.nodup_cons]at hn;refine hp.trans ((ih (xs.erase y) hn.2 (λk hk=>?_) ?_).cons y)
   ·have:=(hp.mem_iff (a:=k)).mp (hm k (by simp[hk]))
    rcases List.mem_cons.mp this with z|z
    ·subst z;exact absurd hk hn.1
    ·exact z
   ·have:=hp.length_eq
    simp at this hl
    lia
 exact this ys xs hy hm hl
end TW
namespace L2
open PySem PySem.Spec PyProof.Rows TW
def qju(P:Program)(w:World)(a:Addr)(ms:List Int):HO:=.ext λh=>QV P w (!byT w) h a (λk=>ms.any (· == k)) ms.length
section
variable{X:Cx}{pins:PP}{Z:St}{H:Hp}{s:Shared}
def Inv.drew(I:Inv X pins Z H s)(d:Drawn):Inv X pins Z H { s with drawn:=d }:=⟨I.ok,I.os,I.bare,I.base,I.loc,I.cell,I.free,I.freeC,I.pin,I.hok,I.len⟩
def Z1(hc:X.calm=true):qO X (.type "set") (λvs H Q=>∃p,∃ns:List Int,vs=[.ref p]/\SqL X.K H p (ns.map V.int)/\ns.length < 4000/\∀a,∀ms:List Int,H a=none->ms.Nodup->(∀k,k∈ms↔k∈ns)->Q (.ref a) (upd H a (qju X.prog X.w a ms))):=by
 intro pins s Z H xs us Q I r h;let(p,ns,rfl,hq,hl,q):=h;let(u,rfl,rx):=yZ r;cases rx;let(its,rv,pl,hz):=I.list hq;have hn:its.length=ns.length:=by have:=rv.length;simp at this;exact this.symm
 have hsz:its.toArray.size=ns.length:=by simp[hn]
 refine qmb (I.ok.hd hc) pl.isList (by simpa using TS.YL rv) (by rw[hsz];unfold scanBound;lia) λh' tk S hk=>?_;rw[hsz]at S;have k0:∀b o,s.heap.get? b=some o->h'.get? b=some o:=λb o e=>hk b o (Heap.lt_size e) e;let(o,es,ep,t,ho,r):=id S;refine{.ref s.heap.objs.size,_,I.laid (t':=tk) k0 (Nat.le_refl _) (show qQ X.prog X.w _ _ _ (qju X.prog X.w s.heap.objs.size _) from{S,⟨o,ho⟩,λh1 h2 z k=>z.to k}),rfl,q _ _ (I.hok.fresh (Nat.le_refl _)) (YT _ _) (qjt ns)}
def QY(hc:X.calm=true):qO X (.builtin "sorted") (λvs H Q=>∃a ms,vs=[.ref a]/\H a=some (qju X.prog X.w a ms)/\ms.Nodup/\∀l (qs:List Int),H l=none->qs.Perm ms->qs.Pairwise (·<=·)->Q (.ref l) (upd H l (.lst (qs.map V.int)))):=by
 intro pins s Z H xs us Q I r h;let(a,ms,rfl,ha,hn,q):=h;let(u,rfl,rx):=yZ r;cases rx;let(S,_):=(show qQ X.prog X.w H s.heap a (qju X.prog X.w a ms) from I.hok a _ ha);let(o,es,ep,t,ho,hx,hd,hel,hm,hb,hf,hz,hr):=S
 have hv:∀v∈es.toList.map (·.2),∃n t,v=Value.int n t:=λv hv=>by let(e,he,rfl):=List.mem_map.mp hv;let((k,hk,_),_):=hel e he;let(t,ht):=Value.isInt_shape hk;exact⟨k,t,ht⟩
 have hsz:ms.length<=sizeLine:=by rw[<-hz];exact fits_of_scanBound hb
 have km:((es.toList.map (·.2)).map TS.nOf).Perm ms:=by refine qhg hn (λk hk=>?_) (by simp[hz]);let(e,he,h1):=(hm k).mp (by rw[List.any_eq_true];exact{k,hk,by simp});let(t,ht):=Value.isInt_shape h1;refine List.mem_map.mpr ⟨e.2,List.mem_map.mpr ⟨e,he,rfl⟩,?_⟩;rw[ht];rfl
 refine TS.qby λA' hA=>qmc (hA.trans (I.ok.hd hc)) ho hx hd hf hr hb λh' tk dr vs hp hk=>?_;have hv2:∀v∈vs,∃n t,v=Value.int n t:=λv z=>hv v (hp.mem_iff.mp z);have hp2:(vs.map TS.nOf).Perm ms:=(hp.map _).trans km;refine{vs.map TS.nOf,TS.JF hv2,by have:=hp2.length_eq;simp at this;lia,λh2 qs ws e h1 hpq hs old he=>?_}
 have hz2:(qs.map V.int).length<=sizeLine:=by
  have:=(hpq.trans hp2).length_eq
  simp
  lia
 have I2:Inv X pins Z H { s with heap:=h',toks:=tk,drawn:=dr }:=(I.kept (t':=tk) hk).drew dr;refine{.ref h'.objs.size,_,I2.laid (t':=tk) (λb o eb=>old b o eb) (Nat.le_refl _) (show qQ X.prog X.w _ _ _ (.lst (qs.map V.int)) from{hz2,_,e,h1,?_}),rfl,q _ _ (I2.hok.fresh (Nat.le_refl _)) (hpq.trans hp2) hs};rw[Array.toArray_toList];exact he
end
open PySem.W
def xD(a:Addr)(fs:List (Str×V)):HO:=.ext λh=>∃mA,h.Ns1 a mA/\(∀f,qb2 (fs.lookup f) (mA f))/\PySem.Within mA (fs.map (·.1))
section
variable{prog:Program}{w:World}{A:Around}{E:PQ}{s:Shared}{K:Frag}{x C:Addr}{ox:Obj}
def qhh{name:Str}{v:Value}{expr:Bool}{od:Option Obj}{Q:PQ}(Y:K.In s.heap)(I:W.InstAt s.heap x ox C od)(hC:ExcIs K C)(hf:findObj K C od name=some (.value v))(hh:handedIn v=true)
  (h:Q v { s with toks:=s.toks+1 }):wpAny (model prog w) A (getAttr (.ref x) name expr) Q E s:=by
 let(hp,g,d,t,os):=s;have L0:=I.type (M:=model prog w);have L1:=looks_findIn (M:=model prog w) Y hC.ga;have L2:=looks_findIn (M:=model prog w) Y hC.gh;have L3:=looks_find (M:=model prog w) Y I hf;have L4:=looks_mroIn (M:=model prog w) Y hC.base;have hbind:∀self,bindSpecial (.builtin "BaseException.__getattribute__") self=pure (.builtin "BaseException.__getattribute__",[self]):=λself=>by rfl
 unfold getAttr getAttrBy;refine wpAny_bind (wpAny_mkText (wpAny_holding (wpAny_bind (L0.at (wpAny_bind (L1.at ?_))))));show wpAny _ _ (getAttrByItsOwn _ _ _ _ _ _) _ _ _;unfold getAttrByItsOwn;refine wpAny_bind ?_;show wpAny _ _ (typeLookup (.ref C) "__getattr__") _ _ _;refine L2.at (wpAny_bind (wpAny_attempt (wpAny_holding ?_)));unfold callGetattribute;rw[if_neg (by cases expr<;>decide)];show wpAny _ _ (boundAndCalled _ _ _) _ _ _;unfold boundAndCalled;refine wpAny_bind ?_;rw[hbind];refine wpAny_pure ?_;refine wpAny_call (codeAny_call_builtin (3:) F.entry_bexc_ga ?_);have hk:builtinKind "BaseException.__getattribute__" = some .slot:=(3:)
 have hsp:splitId "BaseException.__getattribute__" = some ("BaseException","__getattribute__"):=(3:)
 have LI:Looks (model prog w) hp (isInstance (.ref x) (.type "BaseException")) true:=L0.andThen L4;have hargs:=F.args_bexc_ga (.ref x) (.str name t);simp![checkBuiltinCall,hk,hsp];refine wpAny_bind ?_;refine LI.at ?_;rw[if_neg (2:)];refine wpAny_of_eq hargs ?_;unfold Builtin.«object.__getattribute__»;refine wpAny_bind (wpAny_pure ?_);refine wpAny_bind (wpAny_pure ?_);refine wpAny_bind (L0.at (wpAny_bind (L3.at ?_)));exact wpAny_pure (handed_on hh h)
end
structure XcG(K:Frag)(C:Addr)(name:Str):Prop where
 is_:ExcIs K C
 no:findIn K (.ref C) name=some none
 hd:hasDictIn K C=true
section
variable{X:Cx}
def tXf(K:Frag)(ta:TE)(f:Str):TE:=λZ H Q=>ta Z H λx H1=>∃a C dd fs v,x=.ref a/\H1 a=some (ql6 a C (some dd))/\H1 dd=some (xD dd fs)/\XcG K C f/\fs.lookup f=some v/\Q v H1
theorem qhi{e:Expr}{f:Str}{pos:Pos}{ta:TE}(he:PE X e ta)(hb:attributeBase e f X.env (eval e X.env)=eval e X.env):PE X (.Attribute e f pos) (tXf X.K ta f):=by
 intro pins s Z H Q I h;refine qcg hb (thn (he pins s Z H _ I h) λu s1 hq1=>?_);let(x,H1,I1,rx,a,C,dd,fs,v,ex,ea,ed,c,l,q):=hq1;subst ex;obtain rfl:u=Value.ref a:=rx;let(o,e1,e2,e3,e4):=(I1.hok a _ ea).1;let(mA,ns,r,_):=(I1.hok dd _ ed).1;let(oo,hoo,hlk):=QB ns;have J:InstAt s1.heap a o C (some oo):={e1,e2,e4,by rw[e3];exact hoo};have hr:=r f;rw[l]at hr
 cases hm:mA f with
 |none=>rw[hm]at hr;exact hr.elim
 |some w=>
  rw[hm]at hr
  have hw:handedIn w=true:=by
   have hr:qF v w:=hr
   cases v<;>first|(let(t,rfl):=hr;rfl)|(cases hr;rfl)
  refine qhh I1.kIn J c.is_ (findObj_own c.hd c.no rfl (by rw[hlk,hm])) hw ⟨v,H1,I1.tok _,hr,q⟩
end
end L2
namespace DE
open PySem L2
inductive D where
 | non|bl (b:Bool)|int (n:Int)|str (s:Str)|lst (l:List D)|tup (l:List D)|ins (c:Str) (ns:List Str) (l:List D)|exc (C:Addr) (ns:List Str) (l:List D)|dct (ks:List Str) (l:List D)
 deriving Inhabited
abbrev KC:=Str->Option Addr
def kvX(ks:List Str)(xs:List V):List (Key×V):=(ks.zip xs).map λp=>(Sum.inr p.1,p.2)
mutual
def Rep(U:KC)(G:Hp):D->V->Prop
 |.non,v=>v=.non
 |.bl b,v=>v=.bl b
 |.int n,v=>v=.int n
 |.str s,v=>v=.str s
 |.lst ds,v=>∃a xs,v=.ref a/\G a=some (.lst xs)/\ql U G ds xs
 |.tup ds,v=>∃a xs,v=.ref a/\G a=some (.tup xs)/\ql U G ds xs
 |.ins c ns ds,v=>∃p dx C xs,U c=some C/\v=.ref p/\G p=some (.ins C dx (ns.zip xs))/\xs.length=ns.length/\ql U G ds xs
 |.exc C ns ds,v=>∃p od xs,v=.ref p/\G p=some (ql6 p C od)/\((od=none/\ns=[])\/∃dd,od=some dd/\G dd=some (xD dd (ns.zip xs)))/\ql U G ds xs
 |.dct ks ds,v=>∃p xs,v=.ref p/\G p=some (.dK (kvX ks xs))/\xs.length=ks.length/\ql U G ds xs
def ql(U:KC)(G:Hp):List D->List V->Prop
 |[],xs=>xs=[]
 | d::ds,xs=>∃x r,xs=x::r/\Rep U G d x/\ql U G ds r
end
mutual
theorem Rep.same{U:KC}{G G':Hp}(e:qp G G'):∀{d:D} {v:V},Rep U G d v->Rep U G' d v
 |.non,v,h=>by simp![Rep]at h ⊢;exact h
 |.bl b,v,h=>by simp![Rep]at h ⊢;exact h
 |.int i,v,h=>by simp![Rep]at h ⊢;exact h
 |.str x,v,h=>by simp![Rep]at h ⊢;exact h
 |.lst ds,v,h=>by simp![Rep]at h ⊢;let(a,xs,rfl,h1,h2):=h;exact{a,xs,rfl,e _ _ h1,ql.same e h2}
 |.tup ds,v,h=>by simp![Rep]at h ⊢;let(a,xs,rfl,h1,h2):=h;exact{a,xs,rfl,e _ _ h1,ql.same e h2}
 |.ins c ns ds,v,h=>by simp![Rep]at h ⊢;let(p,dx,C,xs,hc,rfl,h1,hl,h2):=h;exact{p,dx,C,xs,hc,rfl,e _ _ h1,hl,ql.same e h2}
 |.exc C ns ds,v,h=>by
  simp![Rep]at h ⊢;let(p,od,xs,rfl,h1,h3,h2):=h;refine{p,od,xs,rfl,e _ _ h1,?_,ql.same e h2};rcases h3 with z|⟨dd,z1,z2⟩
  ·exact .inl z
  ·exact .inr ⟨dd,z1,e _ _ z2⟩
 |.dct ks ds,v,h=>by simp![Rep]at h ⊢;let(p,xs,rfl,h1,hl,h2):=h;exact{p,xs,rfl,e _ _ h1,hl,ql.same e h2}
theorem ql.same{U:KC}{G G':Hp}(e:qp G G'):∀{ds:List D} {vs:List V},ql U G ds vs->ql U G' ds vs
 |[],vs,h=>by simp![ql]at h ⊢;exact h
 | d::ds,vs,h=>by simp![ql]at h ⊢;let(x,r,rfl,h1,h2):=h;exact{x,r,rfl,Rep.same e h1,ql.same e h2}
end
section
variable{U:KC}{G G':Hp}
def ql.nil:ql U G [] []:=by simp![ql]
def ql.cons{d:D}{ds:List D}{v:V}{vs:List V}(h:Rep U G d v)(t:ql U G ds vs):ql U G (d::ds) (v::vs):=by simp![ql];exact⟨v,vs,rfl,h,t⟩
theorem ql.len:∀{ds:List D} {vs:List V},ql U G ds vs->ds.length=vs.length
 |[],vs,h=>by simp![ql]at h;subst h;rfl
 | d::ds,vs,h=>by simp![ql]at h;let(x,r,rfl,h1,h2):=h;simp[ql.len h2]
theorem ql.app:∀{ds es:List D} {vs us:List V},ql U G ds vs->ql U G es us->ql U G (ds++es) (vs++us)
 | [],es,vs,us,h,h'=>by simp![ql]at h;subst h;exact h'
 | d::ds,es,vs,us,h,h'=>by simp![ql]at h;let(x,r,rfl,h1,h2):=h;exact ql.cons h1 (ql.app h2 h')
def ql.snoc{ds:List D}{vs:List V}{d:D}{v:V}(h:ql U G ds vs)(h':Rep U G d v):ql U G (ds++[d]) (vs++[v]):=h.app %[h'|0]
theorem ql.drop:∀(n:Nat) {ds:List D} {vs:List V},ql U G ds vs->ql U G (ds.drop n) (vs.drop n)
 |0,_,_,h=>h
 | n+1,[],vs,h=>by simp![ql]at h;subst h;exact .nil
 | n+1,d::ds,vs,h=>by simp![ql]at h;let(x,r,rfl,h1,h2):=h;exact ql.drop n h2
theorem ql.take:∀(n:Nat) {ds:List D} {vs:List V},ql U G ds vs->ql U G (ds.take n) (vs.take n)
 |0,_,_,h=>(-ql.nil:)
 | n+1,[],vs,h=>by simp![ql]at h;subst h;exact .nil
 | n+1,d::ds,vs,h=>by simp![ql]at h;let(x,r,rfl,h1,h2):=h;exact ql.cons h1 (ql.take n h2)
theorem ql.atD:∀{ds:List D} {vs:List V} {i:Nat} {d:D},ql U G ds vs->ds[i]?=some d->∃v,vs[i]?=some v/\Rep U G d v
 |[],vs,i,d,h,e=>by simp at e
 | d::ds,vs,0,d',h,e=>by simp![ql]at h;let(x,r,rfl,h1,h2):=h;simp at e;subst e;exact⟨x,rfl,h1⟩
 | d::ds,vs,i+1,d',h,e=>by simp![ql]at h;let(x,r,rfl,h1,h2):=h;let(v',e1,e2):=ql.atD (i:=i) h2 (-e:);exact{v',(-e1:),e2}
theorem ql.set:∀{ds:List D} {vs:List V} (i:Nat) {d:D} {v:V},ql U G ds vs->Rep U G d v->ql U G (ds.set i d) (vs.set i v)
 | [],vs,i,d,v,h,h'=>by simp![ql]at h;subst h;exact .nil
 | d::ds,vs,0,d',v,h,h'=>by simp![ql]at h;let(x,r,rfl,h1,h2):=h;exact ql.cons h' h2
 | d::ds,vs,i+1,d',v,h,h'=>by simp![ql]at h;let(x,r,rfl,h1,h2):=h;exact ql.cons h1 (ql.set i h2 h')
end
inductive Sl where
 | no|val (d:D)|own (l:List D)|bor (l:List D)|scr (l:List D)
abbrev Env:=List Sl
def SlR(U:KC)(K:Frag)(G H Hv:Hp):Sl->Option (Option V)->Prop
 |.no,_=>True
 |.val d,o=>∃v,o=some (some v)/\Rep U G d v
 |.own ds,o=>∃a xs,o=some (some (.ref a))/\H a=some (.lst xs)/\Hv a=none/\G a=none/\ql U G ds xs
 |.bor ds,o=>∃a xs,o=some (some (.ref a))/\Hv a=some (.lst xs)/\ql U G ds xs
 |.scr ds,o=>∃a xs,o=some (some (.ref a))/\SqL K Hv a xs/\ql U G ds xs
def qbD(N:Env)(Z:St)(a:Addr):Prop:=∃(i:Nat) (l:List D),N[i]?=some (.own l)/\Z[i]?=some (some (.ref a))
structure ER(U:KC)(K:Frag)(Gv Hv G H:Hp)(N:Env)(Z:St):Prop where
 len:N.length=Z.length
 sub:qp G H
 base:qp Hv H
 g0:qp Gv G
 fresh:∀a o,G a=some o->(∃o',Gv a=some o')\/Hv a=none
 sl:∀(i:Nat) (s:Sl),N[i]?=some s->SlR U K G H Hv s Z[i]?
 ap:∀(i j:Nat) (a:Addr) (l m:List D),N[i]?=some (.own l)->N[j]?=some (.own m)->Z[i]?=some (some (.ref a))->Z[j]?=some (some (.ref a))->i=j
structure Po(U:KC)(K:Frag)(Gv Hv:Hp)(Z:St)(G H:Hp)(N:Env)(G' H':Hp)(N':Env):Prop where
 er:ER U K Gv Hv G' H' N' Z
 hs:qp H H'
 gs:qp G G'
 new:∀a o,G' a=some o->(∃o',G a=some o')\/H a=none\/qbD N Z a
 fz:∀(i:Nat) (l:List D),N'[i]?=some (.own l)->N[i]?=some (.own l)
theorem qp.none{H H':Hp}(e:qp H H'){a:Addr}(h:H' a=none):H a=none:=by
 cases q:H a with
 |none=>rfl
 |some o=>rw[e a o q]at h;cases h
section
variable{U:KC}{K:Frag}{Gv Hv G H G' H' G'' H'':Hp}{N N' N'':Env}{Z:St}
def Po.refl(h:ER U K Gv Hv G H N Z):Po U K Gv Hv Z G H N G H N:={h,λ_ _ e=>e,λ_ _ e=>e,λ_ o e=>.inl ⟨o,e⟩,λ_ _ e=>e}
def Po.trans(a:Po U K Gv Hv Z G H N G' H' N')(b:Po U K Gv Hv Z G' H' N' G'' H'' N''):Po U K Gv Hv Z G H N G'' H'' N'':=
 ⟨b.er,λc o e=>b.hs c o (a.hs c o e),λc o e=>b.gs c o (a.gs c o e),λc o e=>by
  rcases b.new c o e with ⟨o',z⟩|z|⟨i,l,z1,z2⟩
  ·exact a.new c o' z
  ·exact .inr (.inl (qp.none a.hs z))
  ·exact .inr (.inr ⟨i,l,a.fz i l z1,z2⟩),λi l e=>a.fz i l (b.fz i l e)⟩
theorem SlR.grow(hs:qp H H')(gs:qp G G')(nw:∀a xs,H a=some (.lst xs)->Hv a=none->G a=none->G' a=none){s:Sl}{o:Option (Option V)}(h:SlR U K G H Hv s o):SlR U K G' H' Hv s o:=by
 cases s with
 |no=>trivial
 |val d=>let(v,e,r):=h;exact{v,e,r.same gs}
 |own ds=>let(a,xs,e,h1,h2,h3,h4):=h;exact{a,xs,e,hs _ _ h1,h2,nw a xs h1 h2 h3,h4.same gs}
 |bor ds=>let(a,xs,e,h1,h4):=h;exact{a,xs,e,h1,h4.same gs}
 |scr ds=>let(a,xs,e,h1,h4):=h;exact{a,xs,e,h1,h4.same gs}
def Po.more(h:ER U K Gv Hv G H N Z)(hs:qp H H')(gs:qp G G')(sub:qp G' H')(new:∀a o,G' a=some o->(∃o',G a=some o')\/H a=none):Po U K Gv Hv Z G H N G' H' N:=by
 refine{{h.len,sub,λb o e=>hs b o (h.base b o e),λb o e=>gs b o (h.g0 b o e),λa o e=>?_,λi s e=>(h.sl i s e).grow hs gs λa xs h1 h2 h3=>?_,h.ap},hs,gs,λa o e=>?_,λ_ _ e=>e}
 ·rcases new a o e with ⟨o',z⟩|z
  ·exact h.fresh a o' z
  ·exact .inr (qp.none h.base z)
 ·cases q:G' a with
  |none=>rfl
  |some o=>
   rcases new a o q with ⟨o',z⟩|z
   ·rw[h3]at z;cases z
   ·rw[h1]at z;cases z
 ·rcases new a o e with z|z
  ·exact .inl z
  ·exact .inr (.inl z)
def Po.room(h:ER U K Gv Hv G H N Z)(hs:qp H H'):Po U K Gv Hv Z G H N G H' N:=
 Po.more h hs (λ_ _ e=>e) (λb o e=>hs b o (h.sub b o e)) λ_ o e=>.inl ⟨o,e⟩
def Po.lay(h:ER U K Gv Hv G H N Z){a:Addr}{o:HO}(ha:H a=none):Po U K Gv Hv Z G H N (upd G a o) (upd H a o) N:=by
 have ga:G a=none:=qp.none h.sub ha;refine Po.more h (qp.upd ha) (qp.upd ga) (λb u e=>?_) λb u e=>?_
 ·by_cases hb:b=a
  ·subst hb;rw[qg]at e ⊢;exact e
  ·rw[qe hb]at e ⊢;exact h.sub b u e
 ·by_cases hb:b=a
  ·subst hb;exact .inr ha
  ·rw[qe hb]at e;exact .inl ⟨u,e⟩
end
inductive Rv where
 | val (d:D)|tmp (l:List D)|cell (l:List D)|scr (l:List D)
def RvR(U:KC)(K:Frag)(Hv Hb G H:Hp)(N:Env)(Z:St):Rv->V->Prop
 |.val d,v=>Rep U G d v
 |.tmp ds,v=>∃a xs,v=.ref a/\H a=some (.lst xs)/\Hb a=none/\Hv a=none/\G a=none/\¬ qbD N Z a/\ql U G ds xs
 |.cell ds,v=>∃a xs,v=.ref a/\H a=some (.lst xs)/\ql U G ds xs
 |.scr ds,v=>∃a xs,v=.ref a/\SqL K H a xs/\ql U G ds xs
section
variable{U:KC}{K:Frag}{Gv Hv Hb G H G' H':Hp}{N N':Env}{Z:St}
theorem RvR.keep{r:Rv}{v:V}(h:RvR U K Hv Hb G H N Z r v)(p:Po U K Gv Hv Z G H N G' H' N'):RvR U K Hv Hb G' H' N' Z r v:=by
 cases r with
 |val d=>exact Rep.same p.gs h
 |tmp ds=>
  let(a,xs,rfl,h1,h2,h3,h4,h5,h6):=h;refine{a,xs,rfl,p.hs _ _ h1,h2,h3,?_,λ⟨i,l,z1,z2⟩=>h5 {i,l,p.fz i l z1,z2},h6.same p.gs}
  cases q:G' a with
  |none=>rfl
  |some o=>
   rcases p.new a o q with ⟨o',z⟩|z|z
   ·rw[h4]at z;cases z
   ·rw[h1]at z;cases z
   ·exact absurd z h5
 |cell ds=>let(a,xs,rfl,h1,h6):=h;exact{a,xs,rfl,p.hs _ _ h1,h6.same p.gs}
 |scr ds=>let(a,xs,rfl,h1,h6):=h;exact{a,xs,rfl,p.hs.seq h1,h6.same p.gs}
theorem RvR.back{Hc:Hp}{r:Rv}{v:V}(h:RvR U K Hv Hc G H N Z r v)(e:qp Hb Hc):RvR U K Hv Hb G H N Z r v:=by
 cases r with
 |val d=>exact h
 |tmp ds=>let(a,xs,rfl,h1,h2,h3,h4,h5,h6):=h;exact{a,xs,rfl,h1,qp.none e h2,h3,h4,h5,h6}
 |cell ds=>exact h
 |scr ds=>exact h
def Rv.list?:Rv->Option (List D)
 |.val (.lst l)=>some l
 |.tmp l=>some l
 |.cell l=>some l
 |.scr l=>some l
 |_=>none
def Rv.plain?:Rv->Option (List D)
 |.val (.lst l)=>some l
 |.tmp l=>some l
 |.cell l=>some l
 |_=>none
theorem RvR.plain(er:ER U K Gv Hv G H N Z){r:Rv}{v:V}{l:List D}(h:RvR U K Hv Hb G H N Z r v)(e:r.plain?=some l):∃a xs,v=.ref a/\H a=some (.lst xs)/\ql U G l xs:=by
 cases r with
 |val d=>
  cases d<;>simp![Rv.plain?]at e<;>try (cases e)
  simp![RvR,Rep]at h;let(a,xs,rfl,h1,h2):=h;exact{a,xs,rfl,er.sub _ _ h1,h2}
 |tmp ds=>simp![Rv.plain?]at e;cases e;let(a,xs,rfl,h1,_,_,_,_,h6):=h;exact⟨a,xs,rfl,h1,h6⟩
 |cell ds=>simp![Rv.plain?]at e;cases e;exact h
 |scr ds=>simp![Rv.plain?]at e;cases e
theorem RvR.list(er:ER U K Gv Hv G H N Z){r:Rv}{v:V}{l:List D}(h:RvR U K Hv Hb G H N Z r v)(e:r.list?=some l):∃a xs,v=.ref a/\SqL K H a xs/\ql U G l xs:=by
 cases r with
 |scr ds=>simp![Rv.list?]at e;cases e;exact h
 |val d=>
  have e':(Rv.val d).plain?=some l:=by cases d<;>simp![Rv.list?]at e<;>first|(cases e;rfl)|cases e
  let(a,xs,h1,h2,h3):=h.plain er e';exact{a,xs,h1,SqL.of h2,h3}
 |tmp ds=>let(a,xs,h1,h2,h3):=h.plain er (l:=l) e;exact{a,xs,h1,SqL.of h2,h3}
 |cell ds=>let(a,xs,h1,h2,h3):=h.plain er (l:=l) e;exact{a,xs,h1,SqL.of h2,h3}
def Po.freeze{a:Addr}{xs:List V}{G1 H1:Hp}{N1:Env}(p:Po U K Gv Hv Z G H N G1 H1 N1)(h1:H1 a=some (.lst xs))(h2:H a=none)(h3:Hv a=none)(h4:G1 a=none)(h5:¬ qbD N1 Z a):Po U K Gv Hv Z G H N (upd G1 a (.lst xs)) H1 N1:=by
 have gs:qp G1 (upd G1 a (.lst xs)):=qp.upd h4;have er:=p.er;refine{{er.len,λb u e=>?_,er.base,λb o e=>gs b o (er.g0 b o e),λb o e=>?_,λi s e=>?_,er.ap},p.hs,λb o e=>gs b o (p.gs b o e),λb o e=>?_,p.fz}
 ·by_cases hb:b=a
  ·subst hb;rw[qg]at e;cases e;exact h1
  ·rw[qe hb]at e;exact er.sub b u e
 ·by_cases hb:b=a
  ·subst hb;exact .inr h3
  ·rw[qe hb]at e;exact er.fresh b o e
 ·have q:=er.sl i s e
  cases s with
  |no=>trivial
  |val d=>let(v,z,r):=q;exact{v,z,r.same gs}
  |own ds=>let(b,ys,z,q1,q2,q3,q4):=q;have hb:b≠a:=λw=>h5 ⟨i,ds,e,by rw[<-w];exact z⟩;exact{b,ys,z,q1,q2,by rw[qe hb];exact q3,q4.same gs}
  |bor ds=>let(b,ys,z,q1,q4):=q;exact{b,ys,z,q1,q4.same gs}
  |scr ds=>let(b,ys,z,q1,q4):=q;exact{b,ys,z,q1,q4.same gs}
 ·by_cases hb:b=a
  ·subst hb;exact .inr (.inl h2)
  ·rw[qe hb]at e;exact p.new b o e
def ER.froze{i:Nat}{l:List D}(h:ER U K Gv Hv G H N Z)(e:N[i]?=some (.own l)):∃a xs,Z[i]?=some (some (.ref a))/\Po U K Gv Hv Z G H N (upd G a (.lst xs)) H (N.set i (.val (.lst l)))/\Rep U (upd G a (.lst xs)) (.lst l) (.ref a):=by
 let(a,xs,z,h1,h2,h3,h4):=h.sl i _ e;have gs:qp G (upd G a (.lst xs)):=qp.upd h3;have hi:i < N.length:=(List.getElem?_eq_some_iff.mp e).1;have rp:Rep U (upd G a (.lst xs)) (.lst l) (.ref a):=by simp![Rep];exact{a,xs,rfl,qg,h4.same gs}
 refine{a,xs,z,{{by rw[List.length_set];exact h.len,λb u q=>?_,h.base,λb o q=>gs b o (h.g0 b o q),λb o q=>?_,λj s q=>?_,λj k b m n q1 q2=>?_},λ_ _ q=>q,gs,λb o q=>?_,λj m q=>?_},rp}
 ·by_cases hb:b=a
  ·subst hb;rw[qg]at q;cases q;exact h1
  ·rw[qe hb]at q;exact h.sub b u q
 ·by_cases hb:b=a
  ·subst hb;exact .inr h2
  ·rw[qe hb]at q;exact h.fresh b o q
 ·by_cases hj:i=j
  ·subst hj;rw[List.getElem?_set_self hi]at q;cases q;exact{_,z,rp}
  ·rw[List.getElem?_set_ne hj]at q;have w:=h.sl j s q
   cases s with
   |no=>trivial
   |val d=>let(v,z,r):=w;exact{v,z,r.same gs}
   |own ds=>let(b,ys,z',q1,q2,q3,q4):=w;have hb:b≠a:=λu=>hj (h.ap i j a l ds e q z (by rw[<-u];exact z'));exact{b,ys,z',q1,q2,by rw[qe hb];exact q3,q4.same gs}
   |bor ds=>let(b,ys,z,q1,q4):=w;exact{b,ys,z,q1,q4.same gs}
   |scr ds=>let(b,ys,z,q1,q4):=w;exact{b,ys,z,q1,q4.same gs}
 ·have f:∀{j:Nat} {m:List D},(N.set i (.val (.lst l)))[j]?=some (.own m)->N[j]?=some (.own m):=λ{j m} q=>by
   by_cases hj:i=j
   ·subst hj;rw[List.getElem?_set_self hi]at q;cases q
   ·rw[List.getElem?_set_ne hj]at q;exact q
  exact h.ap j k b m n (f q1) (f q2)
 ·by_cases hb:b=a
  ·subst hb;exact .inr (.inr ⟨i,l,e,z⟩)
  ·rw[qe hb]at q;exact .inl ⟨o,q⟩
 ·by_cases hj:i=j
  ·subst hj;rw[List.getElem?_set_self hi]at q;cases q
  ·rw[List.getElem?_set_ne hj]at q;exact q
def ER.setVal{i:Nat}{d:D}{v:V}(h:ER U K Gv Hv G H N Z)(r:Rep U G d v):ER U K Gv Hv G H (N.set i (.val d)) (Z.set i (some v)):=by
 refine{by rw[List.length_set,List.length_set];exact h.len,h.sub,h.base,h.g0,h.fresh,λj s q=>?_,λj k b m n q1 q2 q3 q4=>?_}
 ·by_cases hj:i=j
  ·subst hj;have hi:i < N.length:=by simpa using (List.getElem?_eq_some_iff.mp q).1
   rw[List.getElem?_set_self hi]at q;cases q;exact{v,by rw[List.getElem?_set_self (by rw[<-h.len];exact hi)],r}
  ·rw[List.getElem?_set_ne hj]at q ⊢;exact h.sl j s q
 ·have f:∀{j:Nat} {m:List D},(N.set i (.val d))[j]?=some (.own m)->i≠j/\N[j]?=some (.own m):=λ{j m} q=>by
   by_cases hj:i=j
   ·subst hj;have hi:i < N.length:=by simpa using (List.getElem?_eq_some_iff.mp q).1
    rw[List.getElem?_set_self hi]at q;cases q
   ·rw[List.getElem?_set_ne hj]at q;exact⟨hj,q⟩
  let(n1,e1):=f q1;let(n2,e2):=f q2;rw[List.getElem?_set_ne n1]at q3;rw[List.getElem?_set_ne n2]at q4;exact h.ap j k b m n e1 e2 q3 q4
def ER.setOwn{i:Nat}{l:List D}{a:Addr}{xs:List V}(h:ER U K Gv Hv G H N Z)(h1:H a=some (.lst xs))(h2:Hv a=none)(h3:G a=none)(h4:¬ qbD N Z a)(r:ql U G l xs):ER U K Gv Hv G H (N.set i (.own l)) (Z.set i (some (.ref a))):=by
 have f:∀{j:Nat} {m:List D},(N.set i (.own l))[j]?=some (.own m)->i≠j->N[j]?=some (.own m):=λ{j m} q hj=>by rw[List.getElem?_set_ne hj]at q;exact q
 refine{by rw[List.length_set,List.length_set];exact h.len,h.sub,h.base,h.g0,h.fresh,λj s q=>?_,λj k b m n q1 q2 q3 q4=>?_}
 ·by_cases hj:i=j
  ·subst hj;have hi:i < N.length:=by simpa using (List.getElem?_eq_some_iff.mp q).1
   rw[List.getElem?_set_self hi]at q;cases q;exact{a,xs,by rw[List.getElem?_set_self (by rw[<-h.len];exact hi)],h1,h2,h3,r}
  ·rw[List.getElem?_set_ne hj]at q ⊢;exact h.sl j s q
 ·by_cases hj:i=j
  ·by_cases hk:i=k
   ·lia
   ·subst hj;have hi:i < Z.length:=by simpa using (List.getElem?_eq_some_iff.mp q3).1
    rw[List.getElem?_set_self hi]at q3;rw[List.getElem?_set_ne hk]at q4;cases q3;exact absurd ⟨k,n,f q2 hk,q4⟩ h4
  ·by_cases hk:i=k
   ·subst hk;have hi:i < Z.length:=by simpa using (List.getElem?_eq_some_iff.mp q4).1
    rw[List.getElem?_set_self hi]at q4;rw[List.getElem?_set_ne hj]at q3;cases q4;exact absurd ⟨j,m,f q1 hj,q3⟩ h4
   ·rw[List.getElem?_set_ne hj]at q3;rw[List.getElem?_set_ne hk]at q4;exact h.ap j k b m n (f q1 hj) (f q2 hk) q3 q4
def ER.write{i:Nat}{l m:List D}{a:Addr}{ys:List V}(h:ER U K Gv Hv G H N Z)(e:N[i]?=some (.own l))(z:Z[i]?=some (some (.ref a)))(r:ql U G m ys):ER U K Gv Hv G (upd H a (.lst ys)) (N.set i (.own m)) Z:=by
 let(a',xs,z',h1,h2,h3,h4):=h.sl i _ e;have ea:a'=a:=by rw[z']at z;injection z with z;injection z with z;injection z
 subst ea;have hi:i < N.length:=(List.getElem?_eq_some_iff.mp e).1;refine{by rw[List.length_set];exact h.len,λb u q=>?_,λb u q=>?_,h.g0,h.fresh,λj s q=>?_,λj k b m' n q1 q2=>?_}
 ·have hb:b≠a':=λw=>by rw[w,h3]at q;cases q
  rw[qe hb];exact h.sub b u q
 ·have hb:b≠a':=λw=>by rw[w,h2]at q;cases q
  rw[qe hb];exact h.base b u q
 ·by_cases hj:i=j
  ·subst hj;rw[List.getElem?_set_self hi]at q;cases q;exact⟨a',ys,z',qg,h2,h3,r⟩
  ·rw[List.getElem?_set_ne hj]at q;have w:=h.sl j s q
   cases s with
   |no=>trivial
   |val d=>exact w
   |own ds=>let(b,zs,z2,q1,q2,q3,q4):=w;have hb:b≠a':=λu=>hj (h.ap i j a' l ds e q z' (by rw[<-u];exact z2));exact{b,zs,z2,by rw[qe hb];exact q1,q2,q3,q4}
   |bor ds=>exact w
   |scr ds=>exact w
 ·have f:∀{j:Nat} {n:List D},(N.set i (.own m))[j]?=some (.own n)->∃n',N[j]?=some (.own n'):=λ{j n} q=>by
   by_cases hj:i=j
   ·subst hj;exact⟨l,e⟩
   ·rw[List.getElem?_set_ne hj]at q;exact⟨n,q⟩
  let(_,e1):=f q1;let(_,e2):=f q2;exact h.ap j k b _ _ e1 e2
end
inductive Sk where
 | lst|tup|str
def qeJ(s:Str):List D:=s.cps.toList.map λc=>D.str ⟨#[c]⟩
inductive R(α:Type) where
 | ok (a:α)|exc (c:Addr) (l:List (Str×D))|no
def R.th{α M:Type}:R α->(α->R M)->R M
 |.ok a,f=>f a
 |.exc c l,_=>.exc c l
 |.no,_=>.no
def noX{α:Type}:R α->R α
 |.ok a=>.ok a
 |_=>.no
def R.of{α:Type}:Option α->R α
 |some a=>.ok a
 |none=>.no
mutual
def toP:D->Option PyData
 |.non=>some .none
 |.bl b=>some (.bool b)
 |.int n=>some (.int n)
 |.str s=>some (.str s)
 |.lst l=>(qbZ l).map .list
 |.tup l=>(qbZ l).map .tuple
 |.ins ..=>none
 |.exc ..=>none
 |.dct ..=>none
def qbZ:List D->Option (List PyData)
 |[]=>some []
 | d::l=>(toP d).bind λp=>(qbZ l).map (p :: ·)
end
def Rv.data:Rv->D
 |.val d=>d
 |.tmp l=>.lst l
 |.cell l=>.lst l
 |.scr l=>.lst l
inductive Ar where
 | val (d:D)|bor (l:List D)|scr (l:List D)
structure Xs where
 xa:Str->Addr:=λ_=>0
 xn:Str->Option (List Str):=λ_=>none
 xs:Addr->Str->Option Bool:=λ_ _=>none
 xg:Addr->Str->Bool:=λ_ _=>false
 xt:List Str:=[]
structure Cs extends Xs where
 tab:List Str
 fld:Str->Str->Bool
 mt:Str->Str->Option Str
 sub:Str->Str->Option Bool
def Cs.non:Cs:={ tab:=[],fld:=λ_ _=>false,mt:=λ_ _=>none,sub:=λ_ _=>none }
structure Ct where
 N:List Str
 sc:Scope
 tab:List Str
 gl:Str->Option D
 cl:Str->List Ar->R Rv
 cs:Cs
 nw:Str->List Ar->R Rv
 z:Bool:=false
 x:Bool:=true
def qb0:List Str->Str->Option Nat
 |[],_=>none
 | y::r,x=>if y=x then some 0 else (qb0 r x).map (· + 1)
def qjv(sc:Scope)(x:Str):Bool:=match sc.names.lookup x with
 |some .local=>true
 |some .cell=>true
 |some .free=>true
 |_=>false
def qjw(sc:Scope)(x:Str):Bool:=match sc.names.lookup x with
 |some .local=>true
 |some .cell=>true
 |_=>false
def glB(sc:Scope)(x:Str):Bool:=sc.names.lookup x == some .globalImplicit
def zE(x:Str):Bool:=!(x == ("__debug__" : Str))&&!(x == ("__classdict__" : Str))&&!(x == ("__name__" : Str))
def oif{α:Type}(c:Bool)(a:Option α):Option α:=match c with
 |true=>a
 |false=>none
def qd0(L:Ct)(x:Str):Option Nat:=oif (zE x&&qjv L.sc x) (qb0 L.N x)
def isF(L:Ct)(it:Expr):Option Nat:=none
def slC(N:Env)(i:Nat):R (List D):=match N[i]? with
 |some (.own l)=>.ok l
 |some (.val (.lst l))=>.ok l
 |some (.val (.tup l))=>.ok l
 |_=>.no
def Rv.int?:Rv->Option Int
 |.val (.int i)=>some i
 |_=>none
def Rv.str?:Rv->Option Str
 |.val (.str i)=>some i
 |_=>none
def Rv.bl?:Rv->Option Bool
 |.val (.bl i)=>some i
 |_=>none
def Rv.tup?:Rv->Option (List D)
 |.val (.tup i)=>some i
 |_=>none
def QZ(i j:Int):Bool:=(decide (-(2 ^ 64) < i)&&decide (i < 2 ^ 64))||(decide (-(2 ^ 64) < j)&&decide (j < 2 ^ 64))
def int2(x y:Rv)(f:Int->Int->R Rv):R Rv:=match x.int?,y.int? with
 |some i,some j=>f i j
 |_,_=>.no
def qmd(x y:Rv):R Rv:=match x.int?,y.int? with
 |some i,some j=>.ok (.val (.int (i+j)))
 |_,_=>match x.str?,y.str? with
  |some a,some b=>if a.length+b.length<=sizeLine then .ok (.val (.str (a++b))) else .no
  |_,_=>match x.plain?,y.plain? with
   |some l,some m=>if l.length+m.length<=sizeLine then .ok (.tmp (l++m)) else .no
   |_,_=>.no
def qme(x y:Rv):R Rv:=match x.int?,y.int? with
 |some i,some j=>if QZ i j=true then .ok (.val (.int (i * j))) else .no
 |_,_=>.no
def ZI(op:Operator)(x y:Rv):R Rv:=match op with
 |.Add=>qmd x y
 |.Sub=>int2 x y λi j=>.ok (.val (.int (i - j)))
 |.Mult=>qme x y
 |.FloorDiv=>int2 x y λi j=>if 0 < j/\j < 1073741824 then .ok (.val (.int (i / j))) else if j < 0/\-1073741824 < j then .ok (.val (.int (i.fdiv j))) else .no
 |.Mod=>int2 x y λi j=>if 0 < j then .ok (.val (.int (i % j))) else if j < 0 then .ok (.val (.int (i.fmod j))) else .no
 |.Pow=>int2 x y λi j=>if 0<=j/\j<=1000000/\i.natAbs < 2 ^ 64 then .ok (.val (.int (i ^ j.toNat))) else .no
 |_=>.no
def eqD(x y:D):Option Bool:=match toP x,toP y with
 |some p,some q=>if SeqAt.shaped p&&SeqAt.shaped q then some (PyData.eqv p q) else none
 |_,_=>none
def y6:D->Bool
 |.non=>true
 |.bl _=>true
 |.int _=>true
 |.str _=>true
 |_=>false
def seqD(r:Rv):Option (List D):=match r.tup? with
 |some l=>some l
 |none=>r.list?
def flV:D->V
 |.bl b=>.bl b
 |.int n=>.int n
 |.str s=>.str s
 |_=>.non
def inD(x:D)(l:List D):Option Bool:=if (y6 x&&l.all y6)=true then some (inV (flV x) (l.map flV)) else none
def qim(x y:Rv)(f:Int->Int->Bool):Option Bool:=match x.int?,y.int? with
 |some i,some j=>some (f i j)
 |_,_=>none
def Rv.non?:Rv->Bool
 |.val .non=>true
 |_=>false
def qin(a b:Str):Bool:=!(Builtin.Str.occurrences b a 0 b.length 1).isEmpty
def qd1(x y:Rv):Option Bool:=match x.str?,y.str? with
 |some a,some b=>some (qin a b)
 |_,_=>(seqD y).bind (inD x.data)
def Z2:List D->Option (List Int)
 |[]=>some []
 | .int i::l=>(Z2 l).map (i :: ·)
 |_=>none
def ltD(x y:Rv):Option Bool:=qim x y λi j=>decide (i < j)
def y7(op:CmpOp)(x y:Rv):Option Bool:=match op with
 |.Eq=>eqD x.data y.data
 |.NotEq=>(eqD x.data y.data).map (!·)
 |.Lt=>ltD x y
 |.LtE=>qim x y λi j=>decide (i<=j)
 |.Gt=>qim x y λi j=>decide (j < i)
 |.GtE=>qim x y λi j=>decide (j<=i)
 |.Is=>if y.non? then some x.non? else none
 |.IsNot=>if y.non? then some (!x.non?) else none
 |.In=>qd1 x y
 |.NotIn=>(qd1 x y).map (!·)
def qnQ(x y:Rv):R Rv:=.no
def idxD(x y:Rv):R Rv:=match y.int? with
 |some i=>(match x.str? with
  |some z=>if z.length<=sizeLine then (match atI z.cps.toList i with |some c=>.ok (.val (.str ⟨#[c]⟩)) |none=>.no) else .no
  |none=>match seqD x with
   |some l=>(match atI l i with |some d=>.ok (.val d) |none=>.no)
   |none=>.no)
 |none=>qnQ x y
def ZJ(l:List D)(lo hi:Option Int):List D:=(l.drop (HT.sIx l.length 0 lo)).take (HT.sIx l.length l.length hi - HT.sIx l.length 0 lo)
def sliceD(r:Rv)(lo hi:Option Int):R Rv:=match r.str? with
 |some z=>if z.length<=sizeLine then .ok (.val (.str (Txt.slice z lo hi))) else .no
 |none=>(R.of r.list?).th λl=>.ok (.tmp (ZJ l lo hi))
def truthD(r:Rv):Option Bool:=match r with
 |.val .non=>some false
 |.val (.bl b)=>some b
 |.val (.int i)=>some (i != 0)
 |.val (.str s)=>if s.length<=sizeLine then some ((s.length:Int) != 0) else none
 |r=>(seqD r).map λl=>!l.isEmpty
def qeK(cs:Cs)(r:Rv)(t:Str):Option Bool:=match r with
 |.val (.ins c _ _)=>cs.sub c t
 |.val (.exc C _ _)=>cs.xs C t
 |_=>none
def qmU(cs:Cs)(C:Addr):List Str->Option Bool
 |[]=>some false
 | t::l=>(cs.xs C t).bind λb=>(qmU cs C l).map (b || ·)
def qnR(cs:Cs)(r:Rv)(ts:List Str):Option Bool:=match r with
 |.val (.exc C _ _)=>qmU cs C ts
 |_=>none
def qcT(cs:Cs)(r:Rv)(x:Str):Option D:=match r with
 |.val (.ins c ns ds)=>if cs.fld c x then (ns.zip ds).lookup x else none
 |.val (.exc C ns ds)=>if cs.xg C x then (ns.zip ds).lookup x else none
 |_=>none
def mtD(cs:Cs)(r:Rv)(x:Str):Option Str:=match r with
 |.val (.ins c ns _)=>if ns.contains x then none else cs.mt c x
 |_=>none
def ixM(r:Rv)(as:List Ar):R Rv:=.no
def qnS(x a:Str)(as:List Ar):R Rv:=.no
def bmD(x:Str)(r:Rv)(as:List Ar):R Rv:=match r with
 |.val (.str a)=>qnS x a as
 |r=>if x = "index" then ixM r as else .no
def qnT:D->Option Str
 |.int n=>if n.natAbs.log2 < 1920 then some (Str.ofString (toString n)) else none
 |.str z=>if z.length<=3000 then some z else none
 |_=>none
def qmV(acc:Str):List D->Option Str
 |[]=>some acc
 | d::l=>(qnT d).bind λy=>if (acc++y).length<=sizeLine then qmV (acc++y) l else none
def j9:Expr->Bool
 |.Constant (.str _) _ _=>true
 |.Name ..=>true
 |.Subscript ..=>true
 |_=>false
def lenD(r:Rv):R Rv:=match r.str? with
 |some s=>if s.length<=sizeLine then .ok (.val (.int s.length)) else .no
 |none=>match seqD r with
  |some l=>.ok (.val (.int l.length))
  |none=>.no
def listD(r:Rv):R Rv:=match seqD r with
 |some l=>.ok (.tmp l)
 |none=>.no
def qnU(r:Rv):R Rv:=.no
def intD(r:Rv):R Rv:=match r.int? with
 |some i=>.ok (.val (.int i))
 |none=>match r.bl? with
  |some b=>.ok (.val (.int (if b then 1 else 0)))
  |none=>qnU r
def prD:D->Option (Int×Int)
 |.tup [.int a,.int b]=>some (a,b)
 |_=>none
def qfO:List D->Option (List (Int×Int))
 |[]=>some []
 | d::l=>match prD d,qfO l with
  |some p,some ps=>some (p::ps)
  |_,_=>none
def pD(p:Int×Int):D:=.tup [.int p.1,.int p.2]
def Qr(p q:Int×Int):Bool:=decide (p.1 < q.1)||(decide (p.1=q.1)&&decide (p.2<=q.2))
def ya(ps:List (Int×Int)):List (Int×Int):=ps.mergeSort Qr
def YU(r:Rv):R Rv:=match r.list? with
 |some l=>(match qfO l with |some ps=>if ps.length < 4000 then .ok (.tmp ((ya ps).map pD)) else .no |none=>.no)
 |none=>.no
def ddI:List Int->List Int
 |[]=>[]
 | a::l=>if a∈l then ddI l else a::ddI l
theorem Q0(k:Int):∀l:List Int,k∈ddI l↔k∈l
 |[]=>.rfl
 | a::l=>by
  rw[ddI];split
  ·rename_i h;rw[Q0 k l,List.mem_cons];exact{.inr,λz=>z.elim (λe=>e▸h) id}
  ·rw[List.mem_cons,List.mem_cons,Q0 k l]
theorem Jm:∀l:List Int,(ddI l).Nodup
 |[]=>List.nodup_nil
 | a::l=>by
  rw[ddI];split
  ·exact Jm l
  ·rename_i h;exact List.nodup_cons.mpr ⟨λz=>h ((Q0 a l).mp z),Jm l⟩
def sdI(ns:List Int):List Int:=(ddI ns).mergeSort λa b=>decide (a<=b)
def qjx(r:Rv):R Rv:=match r.list? with
 |some l=>(match Z2 l with |some ns=>if ns.length < 4000 then .ok (.tmp ((sdI ns).map D.int)) else .no |none=>.no)
 |none=>.no
def qmW(r:Rv):R Rv:=.no
def revB:Option Expr->Option Expr->Expr->Bool
 |none,none,.UnaryOp .USub (.Constant (.int 1) _ _) _=>true
 |_,_,_=>false
def J5(xs:List D)(lo hi:Option Int)(n:Int):List D:=(sliceRange (sliceBounds lo hi (some n) xs.length).1 (sliceBounds lo hi (some n) xs.length).2.1 (sliceBounds lo hi (some n) xs.length).2.2).filterMap (xs[·]?)
def stN:Expr->Option Int
 |.Constant (.int n) _ _=>if 2<=n then some n else none
 |_=>none
def qy:Expr->Bool
 |.Starred ..=>true
 |_=>false
def strD(r:Rv):R Rv:=.no
def tupD(r:Rv):R Rv:=.no
def qmX(r:Rv):R Rv:=.no
def qmY(r:Rv):R Rv:=.no
def kvD:D->Option (Str×Int)
 |.tup [.str s,.int n]=>some (s,n)
 |_=>none
def qmf:List D->Option (List (Str×Int))
 |[]=>some []
 | d::l=>match kvD d,qmf l with
  |some p,some ps=>some (p::ps)
  |_,_=>none
def qnV(kvs:List (Str×Int))(k:Str):Option Int:=(kvs.find? λkv=>decide (kv.1=k)).map (·.2)
def qmg(n:Int)(x y:Rv):R Rv:=match x.list?,y.str? with
 |some l,some k=>(match qmf l with |some kvs=>if (kvs.map (·.1)).Nodup then .ok (.val (.int ((qnV kvs k).getD n))) else .no |none=>.no)
 |some l,none=>(match qmf l with |some kvs=>if y.non?=true/\(kvs.map (·.1)).Nodup then .ok (.val (.int n)) else .no |none=>.no)
 |_,_=>.no
def dgE(L:Ct)(o:Expr)(x:Str)(es:List Expr)(b:Bool):Option (Expr×Expr×Int):=none
def maxD(x y:Rv):R Rv:=int2 x y λi j=>.ok (.val (.int (if j > i then j else i)))
def minD(x y:Rv):R Rv:=int2 x y λi j=>.ok (.val (.int (if j < i then j else i)))
def Q2:Expr->Bool
 |.Set ..=>false
 |_=>true
def zj:Expr->Option (List Str)
 |.Name x _=>some [x]
 |.Tuple es _ _=>es.foldr (λe r=>match e,r with |.Name x _,some l=>some (x::l) |_,_=>none) (some [])
 |_=>none
def qeL:Expr->Bool
 |.Tuple ..=>true
 |_=>false
def qlx:Sl->Sl
 |.own l=>.bor l
 |s=>s
def Yh(N:List Str)(sc:Scope):List Nat:=(List.range N.length).filter λi=>sc.names.lookup (N.getD i "") == some .free
def JG(l:List D):List D:=(List.range l.length).zipWith (λ(i:Nat) d=>D.tup [.int i,d]) l
def qbE(l m:List D):List D:=List.zipWith (λa b=>D.tup [a,b]) l m
def zk(lo hi:Int):List D:=(List.range (hi - lo).toNat).map λi:Nat=>D.int (lo+i)
def qhj(lo hi c:Int):List D:=(List.range (rsz lo hi c)).map λi:Nat=>D.int (lo+i * c)
def rgB(i j c:Int):Bool:=decide (-(2 ^ 60)<=i)&&decide (i < 2 ^ 60)&&decide (-(2 ^ 60)<=j)&&decide (j < 2 ^ 60)&&decide (0 < c)&&decide (c < 2 ^ 30)
def rg3(x y z:Rv):R (List D):=match x.int?,y.int?,z.int? with
 |some i,some j,some c=>if rgB i j c=true then .ok (qhj i j c) else .no
 |_,_,_=>.no
def Q3(i:Int):Bool:=decide (-(2 ^ 62)<=i)&&decide (i < 2 ^ 62)
def lrE(L:Ct)(f:Str)(a:Expr):Option (Expr×Expr):=match a with
 |.Call (.Name g _) [x,y] [] _=>if f = "list"/\g = "range"/\glB L.sc "range" = true/\qy x=false/\qy y=false then some (x,y) else none
 |_=>none
def ssE(L:Ct)(f:Str)(a:Expr):Option Expr:=match a with
 |.Call (.Name g _) [x] [] _=>if f = "sorted"/\g = "set"/\glB L.sc "set" = true/\qy x=false then some x else none
 |_=>none
def lrD(x y:Rv):R Rv:=match x.int?,y.int? with
 |some i,some j=>if Q3 i=true/\Q3 j=true/\(j - i).toNat<=10000 then .ok (.tmp (zk i j)) else .no
 |_,_=>.no
def irE(L:Ct)(op:CmpOp)(b:Expr):Option Expr:=none
def qnW(x y:Rv):R Rv:=match x.int?,y.int? with
 |some i,some j=>.ok (.val (.bl (!decide (0<=i/\i < j))))
 |_,_=>.no
def qL(i:Int):Bool:=decide (-(2 ^ 62)<=i)&&decide (i < 2 ^ 62)
mutual
def nfD:D->Bool
 |.lst l=>(l.isEmpty||!(l.all y6))&&qfP l
 |.tup l=>qfP l
 |.ins _ _ l=>qfP l
 |.exc _ _ l=>qfP l
 |.dct _ l=>qfP l
 |_=>true
def qfP:List D->Bool
 |[]=>true
 | d::l=>nfD d&&qfP l
end
def nfA:Ar->Bool
 |.val d=>nfD d
 |.bor l=>qfP l
 |.scr l=>qfP l
def qnX(as:List Ar)(r:Rv):Rv:=match r with
 |.val (.lst l)=>if as.all nfA&&!l.isEmpty&&l.all y6 then .tmp l else r
 |_=>r
def qcU(asg:D->Env->R Env)(test:Env->R (Bool×Env))(elt:Env->R (D×Env)):List D->Env->List D->R (List D)
 |[],_,acc=>.ok acc
 | d::ds,N,acc=>(asg d N).th λN1=>(test N1).th λbt=>if bt.1 then (elt bt.2).th λx=>if acc.length < sizeLine then qcU asg test elt ds x.2 (acc++[x.1]) else .no else qcU asg test elt ds bt.2 acc
inductive Fl where
 | next (N:Env)|ret (r:Rv)
def yC:Expr->Bool
 |.ListComp ..=>false
 |.SetComp ..=>false
 |.DictComp ..=>false
 |_=>true
def YV:Expr->Bool
 |.Slice ..=>false
 |_=>true
def qly(step:D->Env->R Fl):List D->Env->R Fl
 |[],N=>.ok (.next N)
 | d::ds,N=>(step d N).th λf=>match f with
  |.next N1=>qly step ds N1
  |.ret r=>.ok (.ret r)
def whL(test:Env->R (Bool×Env))(body:Env->R Fl):Nat->Env->R Fl
 |0,_=>.no
 | n+1,N=>(test N).th λb=>if b.1 then (body b.2).th λf=>(match f with
  |.next N1=>whL test body n N1
  |.ret r=>.ok (.ret r)) else .ok (.next b.2)
inductive B1 where
 | len|list|int|srt|sum|all|str|tup|any|sst
inductive B2 where
 | max|min|get (n:Int)|rng|inr
inductive Ty where
 | int|bool|str|list|tuple
inductive Tg where
 | one (i:Nat)|many (l:List Nat)
structure Cl where
 f:Str->List Ar->R Rv
 cs:Cs
 nw:Str->List Ar->R Rv
 x:Bool:=true
instance:CoeFun Cl (λ_=>Str->List Ar->R Rv):=⟨Cl.f⟩
mutual
inductive E where
 | var (i:Nat)|con (d:D)|bin (op:Operator) (a b:E)|neg (a:E)|not (a:E)|one (a:E)|and (a b:E)|or (a b:E)|cmp (op:CmpOp) (a b:E)|ite (c:T) (a b:E)
 | idx (a i:E)|sli (a:E) (lo hi:O)|rvs (a:E)|stp (n:Int) (a:E) (lo hi:O)|lst (l:Es)|tup (l:Es)|call (f:Str) (l:Es)|calF (f:Str) (l:Es)|calN (f:Str) (l:Es)|b1 (f:B1) (a:E)|b2 (f:B2) (a b:E)|isi (t:Ty) (a:E)|isc (t:Str) (a:E)|isn (ts:List Str) (a:E)|fld (a:E) (x:Str)|met (a:E) (x:Str) (l:Es)|new (f:Str) (l:Es)|fst (l:Es)|dct (ks:List Str) (l:Es)|comp (x:E) (src:I) (tg:Tg) (c:F) (n:Nat) (fr:List Nat)
inductive Es where
 | nil|cons (a:E) (l:Es)
inductive T where
 | not (a:T)|one (a:T)|and (a b:T)|or (a b:T)|cmp (op:CmpOp) (a b:E)|chn (op op':CmpOp) (a b c:E)|val (a:E)
inductive O where
 | none|some (a:E)
inductive F where
 | yes|test (c:T)
inductive I where
 | nam (i:Nat)|seq (a:E)|rng (a:E)|rng2 (a b:E)|rng3 (a b c:E)|enum (a:E)|zip (a b:E)|rev (a:E)
end
def slR(N:Env)(i:Nat):R Rv:=match N[i]? with
 |some (.val d)=>.ok (.val d)
 |some (.own l)=>.ok (.cell l)
 |some (.bor l)=>.ok (.cell l)
 |some (.scr l)=>.ok (.scr l)
 |_=>.no
def slE(N:Env)(i:Nat):R (D×Env):=match N[i]? with
 |some (.val d)=>.ok (d,N)
 |some (.own l)=>.ok (.lst l,N.set i (.val (.lst l)))
 |_=>.no
def slL(N:Env)(i:Nat):R ((Sk×List D)×Env):=match N[i]? with
 |some (.val (.lst l))=>.ok ((.lst,l),N)
 |some (.val (.tup l))=>.ok ((.tup,l),N)
 |some (.val (.str z))=>.ok ((.str,qeJ z),N)
 |some (.own l)=>.ok ((.lst,l),N.set i (.val (.lst l)))
 |some (.bor l)=>.ok ((.lst,l),N)
 |some (.scr l)=>.ok ((.lst,l),N)
 |_=>.no
def slX(N:Env)(i:Nat):R Rv:=match N[i]? with
 |some (.val d)=>.ok (.val d)
 |some (.own l)=>.ok (.tmp l)
 |_=>.no
def B1.go:B1->Rv->R Rv
 |.len=>lenD
 |.list=>listD
 |.int=>intD
 |.srt=>YU
 |.sum=>qmW
 |.all=>qmX
 |.str=>strD
 |.tup=>tupD
 |.any=>qmY
 |.sst=>qjx
def B2.go:B2->Rv->Rv->R Rv
 |.max=>maxD
 |.min=>minD
 |.get n=>qmg n
 |.rng=>lrD
 |.inr=>qnW
def Ty.of:Ty->D->Option Bool
 |_,.ins ..=>none
 |_,.exc ..=>none
 |_,.dct ..=>none
 |.int,.int _=>some true
 |.int,.bl _=>some true
 |.bool,.bl _=>some true
 |.str,.str _=>some true
 |.list,.lst _=>some true
 |.tuple,.tup _=>some true
 |_,_=>some false
def Ty.go(t:Ty):Rv->Option Bool
 |.scr _=>none
 |r=>t.of r.data
def YW:List Nat->List D->Env->R Env
 |[],[],N=>.ok N
 | i::l,d::ds,N=>YW l ds (N.set i (.val d))
 |_,_,_=>.no
def Tg.go:Tg->D->Env->R Env
 |.one i,d,N=>.ok (N.set i (.val d))
 |.many l,.tup ds,N=>YW l ds N
 |_,_,_=>.no
def toAr:Rv->Ar
 |.val d=>.val d
 |.tmp l=>.val (.lst l)
 |.cell l=>.bor l
 |.scr l=>.scr l
def qb1(n:Nat)(fr:List Nat)(N:Env):Env:=List.replicate n Sl.no++fr.map λi=>qlx (N.getD i .no)
def qlz(x:Rv×Env):R (D×Env):=match x.1 with
 |.val d=>.ok (d,x.2)
 |.tmp l=>.ok (.lst l,x.2)
 |_=>.no
def qlA(x:Rv×Env):R ((Sk×List D)×Env):=match x.1 with
 |.val (.lst l)=>.ok ((.lst,l),x.2)
 |.val (.tup l)=>.ok ((.tup,l),x.2)
 |.val (.str z)=>.ok ((.str,qeJ z),x.2)
 |.tmp l=>.ok ((.lst,l),x.2)
 |_=>.no
def jG(e:E)(r:Env->R (Rv×Env))(N:Env):R (D×Env):=match e with
 |.var i=>slE N i
 |.con d=>.ok (d,N)
 |_=>(r N).th qlz
def yc(e:E)(r:Env->R (Rv×Env))(N:Env):R ((Sk×List D)×Env):=match e with
 |.var i=>slL N i
 |_=>(r N).th qlA
mutual
def iR(cl:Cl):E->Env->R (Rv×Env)
 |.var i,N=>(slR N i).th λr=>.ok (r,N)
 |.con d,N=>.ok (.val d,N)
 |.bin op a b,N=>(iR cl a N).th λx=>(iR cl b x.2).th λy=>(ZI op x.1 y.1).th λr=>.ok (r,y.2)
 |.neg a,N=>(iR cl a N).th λx=>match x.1 with
  |.val (.int i)=>.ok (.val (.int (-i)),x.2)
  |_=>.no
 |.not a,N=>(iR cl a N).th λx=>match x.1 with
  |.val (.bl b)=>.ok (.val (.bl (!b)),x.2)
  |_=>.no
 |.one a,N=>iR cl a N
 |.and a b,N=>(iR cl a N).th λx=>match x.1 with
  |.val (.bl true)=>iR cl b x.2
  |.val (.bl false)=>.ok (.val (.bl false),x.2)
  |_=>.no
 |.or a b,N=>(iR cl a N).th λx=>match x.1 with
  |.val (.bl false)=>iR cl b x.2
  |.val (.bl true)=>.ok (.val (.bl true),x.2)
  |_=>.no
 |.cmp op a b,N=>(iR cl a N).th λx=>(iR cl b x.2).th λy=>(R.of (y7 op x.1 y.1)).th λr=>.ok (.val (.bl r),y.2)
 |.ite c a b,N=>(iT cl c N).th λt=>if t.1 then iR cl a t.2 else iR cl b t.2
 |.idx a i,N=>(iR cl a N).th λx=>(iR cl i x.2).th λy=>(idxD x.1 y.1).th λr=>.ok (r,y.2)
 |.sli a lo hi,N=>(iR cl a N).th λx=>(iO cl lo x.2).th λl=>(iO cl hi l.2).th λh=>(sliceD x.1 l.1 h.1).th λr=>.ok (r,h.2)
 |.stp n a lo hi,N=>(iR cl a N).th λx=>(iO cl lo x.2).th λl=>(iO cl hi l.2).th λh=>(R.of x.1.list?).th λd=>.ok (.tmp (J5 d l.1 h.1 n),h.2)
 |.rvs a,N=>(iR cl a N).th λx=>(R.of x.1.list?).th λl=>.ok (.tmp l.reverse,x.2)
 |.lst l,N=>(iEs cl l N).th λx=>if x.1.length<=sizeLine then .ok (.tmp x.1,x.2) else .no
 |.tup l,N=>(iEs cl l N).th λx=>if x.1.length<=sizeLine then .ok (.val (.tup x.1),x.2) else .no
 |.call f l,N=>(iAs cl l N).th λx=>(cl f x.1).th λr=>.ok (r,x.2)
 |.calF f l,N=>(iEs cl l N).th λx=>(cl f (x.1.map .val)).th λr=>.ok (r,x.2)
 |.calN f l,N=>(iAs cl l N).th λx=>(noX (cl f x.1)).th λr=>.ok (qnX x.1 r,x.2)
 |.b1 f a,N=>(iR cl a N).th λx=>(f.go x.1).th λr=>.ok (r,x.2)
 |.b2 f a b,N=>(iR cl a N).th λx=>(noX (iR cl b x.2)).th λy=>(f.go x.1 y.1).th λr=>.ok (r,y.2)
 |.isi t a,N=>(iR cl a N).th λx=>(R.of (t.go x.1)).th λb=>.ok (.val (.bl b),x.2)
 |.isc t a,N=>(noX (iR cl a N)).th λx=>(R.of (qeK cl.cs x.1 t)).th λb=>.ok (.val (.bl b),x.2)
 |.isn ts a,N=>(noX (iR cl a N)).th λx=>(R.of (qnR cl.cs x.1 ts)).th λb=>.ok (.val (.bl b),x.2)
 |.fld a x,N=>(noX (iR cl a N)).th λy=>(R.of (qcT cl.cs y.1 x)).th λd=>.ok (.val d,y.2)
 |.met a x l,N=>(noX (iR cl a N)).th λy=>match mtD cl.cs y.1 x with
  |some f=>(iAs cl l y.2).th λz=>(cl f (toAr y.1::z.1)).th λr=>.ok (r,z.2)
  |none=>(noX (iAs cl l y.2)).th λz=>(noX (bmD x y.1 z.1)).th λr=>.ok (r,z.2)
 |.new f l,N=>(noX (iAs cl l N)).th λx=>(cl.nw f x.1).th λr=>.ok (r,x.2)
 |.fst l,N=>(noX (iEs cl l N)).th λx=>(R.of (qmV Str.empty x.1)).th λz=>.ok (.val (.str z),x.2)
 |.dct ks l,N=>(iEs cl l N).th λx=>.ok (.val (.dct ks x.1),x.2)
 |.comp e src tg c n fr,N=>(iI cl src N).th λx=>if x.1.length<=sizeLine then (noX (qcU tg.go (λN1=>iF cl c N1) (jG e (iR cl e)) x.1 (qb1 n fr x.2) [])).th λl=>.ok (.tmp l,x.2) else .no
def iT(cl:Cl):T->Env->R (Bool×Env)
 |.not a,N=>(iT cl a N).th λt=>.ok (!t.1,t.2)
 |.one a,N=>iT cl a N
 |.and a b,N=>(iT cl a N).th λt=>if t.1 then iT cl b t.2 else .ok (false,t.2)
 |.or a b,N=>(iT cl a N).th λt=>if t.1 then .ok (true,t.2) else iT cl b t.2
 |.cmp op a b,N=>(iR cl a N).th λx=>(iR cl b x.2).th λy=>(R.of (y7 op x.1 y.1)).th λr=>.ok (r,y.2)
 | .chn op op' a b c,N=>(iR cl a N).th λx=>(iR cl b x.2).th λy=>(R.of (y7 op x.1 y.1)).th λr=>if r=true then (iR cl c y.2).th λz=>(R.of (y7 op' y.1 z.1)).th λr'=>.ok (r',z.2) else .ok (false,y.2)
 |.val a,N=>(iR cl a N).th λx=>(R.of (truthD x.1)).th λb=>.ok (b,x.2)
def iEs(cl:Cl):Es->Env->R (List D×Env)
 |.nil,N=>.ok ([],N)
 |.cons e l,N=>(jG e (iR cl e) N).th λx=>(iEs cl l x.2).th λy=>.ok (x.1::y.1,y.2)
def iAs(cl:Cl):Es->Env->R (List Ar×Env)
 |.nil,N=>.ok ([],N)
 |.cons e l,N=>(iR cl e N).th λx=>(iAs cl l x.2).th λy=>.ok (toAr x.1::y.1,y.2)
def iO(cl:Cl):O->Env->R (Option Int×Env)
 |.none,N=>.ok (none,N)
 |.some e,N=>(iR cl e N).th λx=>match x.1 with
  |.val (.int i)=>.ok (some i,x.2)
  |_=>.no
def iF(cl:Cl):F->Env->R (Bool×Env)
 |.yes,N=>.ok (true,N)
 |.test c,N=>iT cl c N
def iI(cl:Cl):I->Env->R (List D×Env)
 |.nam i,N=>(slC N i).th λl=>.ok (l,N)
 |.seq a,N=>(yc a (iR cl a) N).th λx=>.ok (x.1.2,x.2)
 |.rng a,N=>(iR cl a N).th λx=>(match x.1.int? with
  |some n=>if qL n=true then .ok (zk 0 n,x.2) else .no
  |none=>.no)
 |.rng3 a b c,N=>(iR cl a N).th λx=>(iR cl b x.2).th λy=>(iR cl c y.2).th λz=>(rg3 x.1 y.1 z.1).th λl=>.ok (l,z.2)
 |.rng2 a b,N=>(iR cl a N).th λx=>(iR cl b x.2).th λy=>(match x.1.int?,y.1.int? with
  |some i,some j=>if qL i=true/\qL j=true then .ok (zk i j,y.2) else .no
  |_,_=>.no)
 |.enum a,N=>(yc a (iR cl a) N).th λx=>match x.1.1 with |.lst=>.ok (JG x.1.2,x.2) |_=>.no
 |.rev a,N=>(yc a (iR cl a) N).th λx=>match x.1.1 with |.lst=>.ok (x.1.2.reverse,x.2) |_=>.no
 |.zip a b,N=>(yc a (iR cl a) N).th λx=>(yc b (iR cl b) x.2).th λy=>match x.1.1,y.1.1 with |.lst,.lst=>.ok (qbE x.1.2 y.1.2,y.2) |_,_=>.no
end
mutual
inductive S where
 | pass|expr (e:E)|app (i:Nat) (e:E)|ext (i:Nat) (e:E)|clr (i:Nat)|ret (e:E)|retN|set (i:Nat) (e:E)|setT (tg:Tg) (e:E)|setI (i:Nat) (x e:E)|ite (c:T) (a b:Ss)|for_ (tg:Tg) (src:I) (b:Ss)|whl (c:T) (b:Ss)|rai (n:Str) (l:Es)|try_ (b:Ss) (hs:List (Str×Nat×Nat))|stuck
inductive Ss where
 | nil|cons (s:S) (l:Ss)
end
def zi(N:Env)(i:Nat):Option (List D):=match N[i]? with
 |some (.own l)=>some l
 |_=>none
def qeM(e:E)(r:Env->R (Rv×Env))(N:Env):R Rv:=match e with
 |.var i=>slX N i
 |.con d=>.ok (.val d)
 |_=>(r N).th λx=>match x.1 with
  |.val d=>.ok (.val d)
  |.tmp l=>.ok (.tmp l)
  |_=>.no
def qbF(e:E)(r:Env->R (Rv×Env))(N:Env):R (Sl×Env):=match e with
 |.var i=>(slE N i).th λr=>.ok (.val r.1,r.2)
 |.con d=>.ok (.val d,N)
 |_=>(r N).th λx=>match x.1 with
  |.val d=>.ok (.val d,x.2)
  |.tmp l=>.ok (.own l,x.2)
  |_=>.no
def mkX(b:Bool)(cs:Cs)(n:Str)(ds:List D):R Fl:=.no
def qfQ(cs:Cs)(n:Nat)(C:Addr)(l:List (Str×D)):List (Str×Nat×Nat)->R Fl
 |[]=>.no
 | h::hs=>match cs.xs C h.1 with
  |some true=>.ok (.next ((List.replicate n Sl.no).set h.2.2 (.val (.exc C (l.map (·.1)) (l.map (·.2))))))
  |some false=>qfQ cs n C l hs
  |none=>.no
mutual
def iS(cl:Cl)(w:Nat):S->Env->R Fl
 |.pass,N=>.ok (.next N)
 |.expr e,N=>(iR cl e N).th λx=>.ok (.next x.2)
 |.app i e,N=>(match zi N i with
  |none=>.no
  |some _=>(jG e (iR cl e) N).th λy=>(match zi y.2 i with
   |some l=>if l.length < sizeLine then .ok (.next (y.2.set i (.own (l++[y.1])))) else .no
   |none=>.no))
 |.ext i e,N=>(match zi N i with
  |none=>.no
  |some _=>(iR cl e N).th λy=>(match zi y.2 i,y.1.plain? with
   |some l,some n=>if l.length+n.length<=sizeLine then .ok (.next (y.2.set i (.own (l++n)))) else .no
   |_,_=>.no))
 |.clr i,N=>(match zi N i with
  |some _=>.ok (.next (N.set i (.own [])))
  |none=>.no)
 |.ret e,N=>(qeM e (iR cl e) N).th λr=>.ok (.ret r)
 |.retN,N=>.ok (.ret (.val .non))
 |.set i e,N=>(qbF e (iR cl e) N).th λs=>.ok (.next (s.2.set i s.1))
 |.setT tg e,N=>(jG e (iR cl e) N).th λx=>(tg.go x.1 x.2).th λN1=>.ok (.next N1)
 |.setI i x e,N=>(jG e (iR cl e) N).th λy=>(match zi y.2 i with
  |none=>.no
  |some _=>(iR cl x y.2).th λz=>(match zi z.2 i,z.1.int? with
   |some l,some n=>(match ixN l.length n with
    |some k=>.ok (.next (z.2.set i (.own (l.set k y.1))))
    |none=>.no)
   |_,_=>.no))
 |.ite c a b,N=>(iT cl c N).th λt=>if t.1 then iSs cl w a t.2 else iSs cl w b t.2
 |.for_ tg src b,N=>(iI cl src N).th λx=>qly (λd N1=>(tg.go d N1).th λN2=>iSs cl w b N2) x.1 x.2
 |.whl c b,N=>whL (λN1=>iT cl c N1) (λN1=>iSs cl w b N1) w N
 |.rai n l,N=>(noX (iEs cl l N)).th λx=>mkX cl.x cl.cs n x.1
 |.try_ b hs,N=>match iSs cl w b N with
  |.exc C l=>qfQ cl.cs N.length C l hs
  |r=>r
 |.stuck,_=>.no
def iSs(cl:Cl)(w:Nat):Ss->Env->R Fl
 |.nil,N=>.ok (.next N)
 |.cons s l,N=>(iS cl w s N).th λf=>match f with
  |.next N1=>iSs cl w l N1
  |.ret r=>.ok (.ret r)
end
def o2{α M γ:Type}(a:Option α)(b:Option M)(f:α->M->γ):Option γ:=match a,b with
 |some x,some y=>some (f x y)
 |_,_=>none
theorem qj{α M γ:Type}{a:Option α}{b:Option M}{f:α->M->γ}{z:γ}(h:o2 a b f=some z):∃x y,a=some x/\b=some y/\f x y=z:=by
 cases a with
 |none=>cases h
 |some x=>
  cases b with
  |none=>cases h
  |some y=>exact{x,y,rfl,rfl,Option.some.inj h}
theorem qk{α:Type}{c:Bool}{a:Option α}{z:α}(h:oif c a=some z):c=true/\a=some z:=by
 cases c with
 |true=>exact⟨rfl,h⟩
 |false=>cases h
def Ct.k(L:Ct):Cl:=⟨L.cl,L.cs,L.nw,L.x⟩
def cC(L:Ct)(it:Expr)(r:Option I):Option I:=match isF L it with
 |some i=>some (.nam i)
 |none=>r
def Z3(L:Ct)(x:Str):Option E:=oif (zE x) (match qb0 L.N x with
 |some i=>oif (qjv L.sc x) (some (.var i))
 |none=>oif (glB L.sc x) ((L.gl x).map .con))
def qfR:Const->Option E
 |.none=>some (.con .non)
 |.bool b=>some (.con (.bl b))
 |.int i=>some (.con (.int i))
 |.str s=>some (.con (.str s))
 |_=>none
def qlB(t:Str):Option Ty:=if t = "int" then some .int else if t = "bool" then some .bool else if t = "str" then some .str else if t = "list" then some .list else if t = "tuple" then some .tuple else none
def qmh(f:Str):Option B1:=if f = "len" then some .len else if f = "list" then some .list else if f = "int" then some .int else if f = "sorted" then some .srt else if f = "sum" then some .sum else if f = "all" then some .all else if f = "str" then some .str else if f = "tuple" then some .tup else if f = "any" then some .any else none
def qmi(f:Str):Option B2:=if f = "max" then some .max else if f = "min" then some .min else none
def qhk(L:Ct)(x:Str):Option Nat:=oif (qjw L.sc x&&zE x) (qb0 L.N x)
def qeN(L:Ct):List Str->Option (List Nat)
 |[]=>some []
 | x::l=>o2 (qhk L x) (qeN L l) (· :: ·)
def cTg(L:Ct)(tg:Expr):Option Tg:=match tg with
 |.Name x _=>(qhk L x).map .one
 |.Tuple es j p=>oif (!es.any qy) (match zj (.Tuple es j p) with
  |some xs=>(qeN L xs).map .many
  |none=>none)
 |_=>none
def Q4:E->Option E
 |.var _=>none
 |e=>some e
def cFs(g:Expr->Option E):List Expr->Option Es
 |[]=>some .nil
 | .Constant (.str z) _ _::l=>(cFs g l).map (.cons (.con (.str z)))
 | .FormattedValue e i none _::l=>oif (decide (i = -1)) (o2 (g e) (cFs g l) .cons)
 |_=>none
def cVs(g:Expr->Option E):List Expr->Option Es
 |[]=>some .nil
 | e::l=>o2 (g e) (cVs g l) .cons
def cNm(L:Ct):List Expr->Option (List Str)
 |[]=>some []
 | .Name t _::l=>oif (zE t&&glB L.sc t&&decide (t≠"ValueError")) ((cNm L l).map (t :: ·))
 |_=>none
mutual
def cE:Nat->Ct->Expr->Option E
 |0,_,_=>none
 | m+1,L,e=>match e with
  |.Name x _=>Z3 L x
  |.Constant c _ _=>qfR c
  |.BinOp a op b _=>o2 (cE m L a) (cE m L b) (E.bin op)
  |.UnaryOp .USub a _=>(cE m L a).map .neg
  |.UnaryOp .Not a _=>(cE m L a).map .not
  |.BoolOp _ [a] _=>(cE m L a).map .one
  | .BoolOp .And (a::b::l) p=>o2 (cE m L a) (cE m L (.BoolOp .And (b::l) p)) .and
  | .BoolOp .Or (a::b::l) p=>none
  |.Compare a [op] [b] _=>oif (!behindInMarks op b) (o2 (cE m L a) (cE m L b) (E.cmp op))
  |.IfExp c a b _=>o2 (cT m L c) (o2 (cE m L a) (cE m L b) Prod.mk) λc p=>.ite c p.1 p.2
  |.Subscript a (.Slice lo hi none _) _=>o2 (cE m L a) (o2 (cO m L lo) (cO m L hi) Prod.mk) λa p=>.sli a p.1 p.2
  |.Subscript a (.Slice lo hi (some st) _) _=>(stN st).bind λn=>o2 (cE m L a) (o2 (cO m L lo) (cO m L hi) Prod.mk) λa p=>.stp n a p.1 p.2
  |.Subscript a i _=>o2 (cE m L a) (cE m L i) .idx
  |.List es _=>(cEs m L es).map .lst
  |.Tuple es _ _=>(cEs m L es).map .tup
  |.Call (.Name f p) es [] _=>oif (zE f&&glB L.sc f&&(qb0 L.N f).isNone) (
    if f = "isinstance" then (match es with
     |[a,b]=>(match b with
      |.Name t _=>oif (zE t&&glB L.sc t&&(qb0 L.N t).isNone&&!qy a) (match qlB t with |some y=>(cE m L a).map (.isi y) |none=>(cE m L a).map (.isc t))
      |_=>none)
     |_=>none)
    else if L.tab.contains f=true then (cAs m L es).map (.call f)
    else if L.cs.tab.contains f=true then (cAs m L es).map (.new f)
    else match es with
     |[a]=>(match lrE L f a with
      |some t=>o2 (cE m L t.1) (cE m L t.2) (.b2 .rng)
      |none=>(match ssE L f a with
       |some t=>(cE m L t).map (.b1 .sst)
       |none=>oif (!qy a) (o2 (qmh f) (cE m L a) .b1)))
     |[a,b]=>oif (!(qy a||qy b)) (o2 (qmi f) (o2 (cE m L a) (cE m L b) Prod.mk) λf p=>.b2 f p.1 p.2)
     |_=>none)
  |.Attribute o x _=>oif (j9 o) ((cE m L o).map λa=>.fld a x)
  |.Call (.Attribute o x ap) es [] q=>if (j9 o&&(ap.endLine == q.line)&&decide (es.length < 30))=true then (o2 (cE m L o) (cAs m L es) λa l=>.met a x l)
   else match dgE L o x es (ap.endLine == q.line) with
    |some t=>o2 (cE m L t.1) (cE m L t.2.1) (.b2 (.get t.2.2))
    |none=>none
  |.ListComp elt [g] sc _=>oif (decide (g.is_async=0)) (match zj g.target with
   |some own=>oif (Ji L.sc L.N (Yh L.N sc) sc&&decide (own++(Yh L.N sc).map λi=>L.N.getD i "").Nodup&&Q2 g.iter)
     (o2 (o2 (cC L g.iter (cI m L (qeL g.target) g.iter)) (cTg { L with N:=own++(Yh L.N sc).map λi=>L.N.getD i "",sc:=sc } g.target) Prod.mk)
      (o2 (cF m { L with N:=own++(Yh L.N sc).map λi=>L.N.getD i "",sc:=sc } g.ifs) (cX m { L with N:=own++(Yh L.N sc).map λi=>L.N.getD i "",sc:=sc } elt) Prod.mk)
      λp q=>.comp q.2 p.1 p.2 q.1 own.length (Yh L.N sc))
   |none=>none)
  |_=>none
def cX:Nat->Ct->Expr->Option E
 |0,_,_=>none
 | m+1,L,e=>match e with
  |.Name x _=>Z3 L x
  |e=>(cE m L e).bind Q4
def cT:Nat->Ct->Expr->Option T
 |0,_,_=>none
 | m+1,L,e=>match e with
  |.UnaryOp .Not a _=>(cT m L a).map .not
  |.BoolOp _ [a] _=>(cT m L a).map .one
  | .BoolOp .And (a::b::l) p=>o2 (cT m L a) (cT m L (.BoolOp .And (b::l) p)) .and
  | .BoolOp .Or (a::b::l) p=>o2 (cT m L a) (cT m L (.BoolOp .Or (b::l) p)) .or
  |.BoolOp _ [] _=>none
  |.IfExp ..=>none
  |.Compare a [op] [b] _=>(match irE L op b with
   |some t=>o2 (cE m L a) (cE m L t) (λx y=>.val (.b2 .inr x y))
   |none=>oif (!behindInMarks op b) (o2 (cE m L a) (cE m L b) (T.cmp op)))
  | .Compare a [op,op'] [b,c] _=>oif (!lastMarks [op,op'] [b,c]) (o2 (cE m L a) (o2 (cE m L b) (cE m L c) Prod.mk) λa p=>.chn op op' a p.1 p.2)
  |.Compare ..=>none
  |e=>(cE m L e).map .val
def cEs:Nat->Ct->List Expr->Option Es
 |0,_,_=>none
 | m+1,L,es=>match es with
  |[]=>some .nil
  | e::l=>oif (!qy e) (o2 (cX m L e) (cEs m L l) .cons)
def cAs:Nat->Ct->List Expr->Option Es
 |0,_,_=>none
 | m+1,L,es=>match es with
  |[]=>some .nil
  | e::l=>oif (!qy e) (o2 (cE m L e) (cAs m L l) .cons)
def cO:Nat->Ct->Option Expr->Option O
 |0,_,_=>none
 | m+1,L,o=>match o with
  |none=>some .none
  |some e=>(cE m L e).map .some
def cF:Nat->Ct->List Expr->Option F
 |0,_,_=>none
 | m+1,L,es=>match es with
  |[]=>some .yes
  |[c]=>(cT m L c).map .test
  |_=>none
def cL:Nat->Ct->Expr->Option E
 |0,_,_=>none
 | m+1,L,e=>match e with
  |.Name x _=>(qd0 L x).map .var
  |e=>(cE m L e).bind Q4
def cI:Nat->Ct->Bool->Expr->Option I
 |0,_,_,_=>none
 | m+1,L,tb,e=>match e with
  |.Call (.Name f p) es [] q=>if f = "range" || f = "enumerate" || f = "zip" || f = "reversed" then oif (zE f&&glB L.sc f&&(qb0 L.N f).isNone) (match es with
    |[a]=>oif (!qy a) (if f = "range" then (cE m L a).map .rng else if f = "enumerate" then oif tb ((cL m L a).map .enum) else if f = "reversed" then (cL m L a).map .rev else none)
    |[a,b]=>oif (!(qy a||qy b)) (if f = "range" then o2 (cE m L a) (cE m L b) .rng2 else if f = "zip" then oif tb (o2 (cL m L a) (cL m L b) .zip) else none)
    |_=>none)
   else (cL m L (.Call (.Name f p) es [] q)).map .seq
  |e=>(cL m L e).map .seq
end
def cV(m:Nat)(L:Ct)(e:Expr):Option E:=match e with
 |.Name x _=>Z3 L x
 |e=>(cE m L e).bind Q4
def map_some{α M:Type}{o:Option α}{f:α->M}{z:M}(h:o.map f=some z):∃x,o=some x/\f x=z:=Option.map_eq_some_iff.mp h
noncomputable abbrev VE:=(Str×Pos) ⊕ (Expr×List Expr×List Keyword×Pos) ⊕ (Expr×Str×Pos) ⊕ (List Expr×Pos) ⊕ (Expr×Int×Option Expr×Pos) ⊕ (Const×Nat×Pos)
def vE:Expr->Option VE
 |.Name x p=>some (.inl (x,p))
 |.Call f l k p=>some (.inr (.inl (f,l,k,p)))
 |.Attribute o a p=>some (.inr (.inr (.inl (o,a,p))))
 |.JoinedStr l p=>some (.inr (.inr (.inr (.inl (l,p)))))
 |.FormattedValue e i f p=>some (.inr (.inr (.inr (.inr (.inl (e,i,f,p))))))
 |.Constant c k p=>some (.inr (.inr (.inr (.inr (.inr (c,k,p))))))
 |_=>none
theorem qcV{α M:Type}{x:Option α}{f:α->Option M}{b:M}(h:x.bind f=some b):∃a,x=some a/\f a=some b:=by
 cases x with
 |none=>cases h
 |some a=>exact⟨a,rfl,h⟩
def nmE(e:Expr):Option Str:=(vE e).bind (·.elim (λt=>some t.1) λ_=>none)
def caE(e:Expr):Option (Expr×List Expr×List Keyword×Pos):=(vE e).bind (·.elim (λ_=>none) (·.elim some λ_=>none))
def cN(x:Expr):Option (Str×Expr×List Expr):=(caE x).bind λt=>(nmE t.1).bind λn=>match t.2.1 with
 | e::es=>oif t.2.2.1.isEmpty (some (n,e,es))
 |[]=>none
def xnB(L:Ct)(f:Str):Bool:=zE f&&glB L.sc f
mutual
def cS:Nat->Ct->Stmt->Option S
 |0,_,_=>none
 | m+1,L,st=>match st with
  |.Pass _=>some .pass
  |.Expr e _=>(match e with
   |.Call (.Attribute (.Name x _) meth ap) [a] [] cp=>oif (ap.endLine == cp.line&&!qy a) (
     if meth = "append" then o2 (qd0 L x) (cX m L a) .app
     else if meth = "extend" then o2 (qd0 L x) (cE m L a) .ext
     else none)
   |.Call (.Attribute (.Name x _) meth ap) [] [] cp=>none
   |e=>oif (yC e) ((cE m L e).map .expr))
  |.Return (some e) _=>(cV m L e).map .ret
  |.Return none _=>some .retN
  |.Assign [tg] e _=>(match tg with
   |.Name x _=>o2 (qhk L x) (cV m L e) .set
   |.Tuple ..=>none
   |.Subscript (.Name x _) i _=>oif (yC e&&YV i) (o2 (qd0 L x) (o2 (cE m L i) (cX m L e) Prod.mk) λx p=>.setI x p.1 p.2)
   |_=>none)
  |.If c a b _=>o2 (cT m L c) (o2 (cSs m L a) (cSs m L b) Prod.mk) λc p=>.ite c p.1 p.2
  |.For tg it body [] _=>oif (!L.z&&Q2 it) (o2 (o2 (cTg L tg) (cI m L (qeL tg) it) Prod.mk) (cSs m L body) λp b=>.for_ p.1 p.2 b)
  |.While c body [] _=>oif (!L.z) (o2 (cT m L c) (cSs m L body) .whl)
  |.Raise ex ca _=>some (match ex.bind cN,ca with
   |some t,none=>if (!L.z&&xnB L t.1)=true then (match cEs m L (t.2.1::t.2.2) with |some l=>.rai t.1 l |none=>.stuck) else .stuck
   |_,_=>.stuck)
  |_=>none
def cSs:Nat->Ct->List Stmt->Option Ss
 |0,_,_=>none
 | m+1,L,l=>match l with
  |[]=>some .nil
  | st::l=>o2 (cS m L st) (cSs m L l) .cons
end
def zF{e z:E}(h:Q4 e=some z):e=z/\∀i,z≠.var i:=by cases e<;>cases h<;>exact{rfl,λi z=>by cases z}
def qhl{z:E}(h:∀i,z≠.var i)(cl:Cl)(N:Env):jG z (iR cl z) N=(iR cl z N).th qlz:=by cases z<;>first|rfl|exact absurd rfl (h _)
def qhm{z:E}(h:∀i,z≠.var i)(cl:Cl)(N:Env):yc z (iR cl z) N=(iR cl z N).th qlA:=by cases z<;>first|rfl|exact absurd rfl (h _)
def qhn{z:E}(h:∀i,z≠.var i)(cl:Cl)(N:Env):qeM z (iR cl z) N=(iR cl z N).th λx=>match x.1 with
  |.val d=>.ok (.val d)
  |.tmp l=>.ok (.tmp l)
  |_=>.no:=by
 cases z<;>first|rfl|exact absurd rfl (h _)
def qho{z:E}(h:∀i,z≠.var i)(cl:Cl)(N:Env):qbF z (iR cl z) N=(iR cl z N).th λx=>match x.1 with
  |.val d=>.ok (.val d,x.2)
  |.tmp l=>.ok (.own l,x.2)
  |_=>.no:=by
 cases z<;>first|rfl|exact absurd rfl (h _)
abbrev XW:=Addr->List (Str×D)->Prop
def X0:XW:=λ_ _=>False
def Wx{α:Type}(Ξ:XW)(x:R α)(f:α->Prop):Prop:=match x with
 |.ok a=>f a
 |.exc c l=>Ξ c l
 |.no=>False
section
variable{α M:Type}{Ξ Ξ':XW}
def Wx.th{x:R α}{g:α->R M}{f:M->Prop}(h:Wx Ξ (x.th g) f):Wx Ξ x λa=>Wx Ξ (g a) f:=by cases x<;>exact h
def Wx.ht{x:R α}{g:α->R M}{f:M->Prop}(h:Wx Ξ x λa=>Wx Ξ (g a) f):Wx Ξ (x.th g) f:=by cases x<;>exact h
theorem Wx.mono{x:R α}{f g:α->Prop}(h:Wx Ξ x f)(i:∀a,f a->g a):Wx Ξ x g:=by
 cases x with
 |ok a=>exact i a h
 |exc c l=>exact h
 |no=>exact h
theorem Wx.mono2{x:R α}{f g:α->Prop}(h:Wx Ξ x f)(j:∀c l,Ξ c l->Ξ' c l)(i:∀a,f a->g a):Wx Ξ' x g:=by
 cases x with
 |ok a=>exact i a h
 |exc c l=>exact j c l h
 |no=>exact h
theorem Wx.of{x:Option α}{f:α->Prop}(h:Wx Ξ (R.of x) f):∃a,x=some a/\f a:=by
 cases x with
 |none=>exact h.elim
 |some a=>exact⟨a,rfl,h⟩
def Wx.iff{c:Prop}[Decidable c]{x:R α}{f:α->Prop}(h:Wx Ξ (if c then x else .no) f):c/\Wx Ξ x f:=by
 by_cases hc:c
 ·rw[if_pos hc]at h;exact⟨hc,h⟩
 ·rw[if_neg hc]at h;exact h.elim
theorem Wx.nox{x:R α}{f:α->Prop}(h:Wx Ξ (noX x) f):Wx Ξ' x f:=by
 cases x with
 |ok a=>exact h
 |exc c l=>exact h.elim
 |no=>exact h
end
def qnY(U:KC)(G:Hp)(od:Option Addr)(l:List (Str×D)):Prop:=(od=none/\l=[])\/∃dd xs,od=some dd/\G dd=some (xD dd ((l.map (·.1)).zip xs))/\ql U G (l.map (·.2)) xs
def XP(U:KC)(Gv Hv:Hp)(ε:XK):XW:=λC l=>∀od G' H',qp Hv H'->qp Gv G'->qp G' H'->(∀a o,G' a=some o->(∃o',Gv a=some o')\/Hv a=none)->qnY U G' od l->ε (.ref C) od H'
section
variable(U:KC)(K:Frag)(ε:XK)(Gv Hv:Hp)
def tR(f:Env->R (Rv×Env)):TE:=λZ H Q=>∃N G,ER U K Gv Hv G H N Z/\Wx (XP U Gv Hv ε) (f N) λx=>∀v G' H',Po U K Gv Hv Z G H N G' H' x.2->RvR U K Hv H G' H' x.2 Z x.1 v->Q v H'
def tE(f:Env->R (D×Env)):TE:=λZ H Q=>∃N G,ER U K Gv Hv G H N Z/\Wx (XP U Gv Hv ε) (f N) λx=>∀v G' H',Po U K Gv Hv Z G H N G' H' x.2->Rep U G' x.1 v->Q v H'
def tT(f:Env->R (Bool×Env)):TT:=λZ H Q=>∃N G,ER U K Gv Hv G H N Z/\Wx (XP U Gv Hv ε) (f N) λx=>∀G' H',Po U K Gv Hv Z G H N G' H' x.2->Q x.1 H'
def tEs(f:Env->R (List D×Env)):TA:=λZ H Q=>∃N G,ER U K Gv Hv G H N Z/\Wx (XP U Gv Hv ε) (f N) λx=>∀vs G' H',Po U K Gv Hv Z G H N G' H' x.2->ql U G' x.1 vs->Q vs H'
def ArR(G H:Hp):Ar->V->Prop
 |.val d,v=>Rep U G d v
 |.bor ds,v=>∃a xs,v=.ref a/\H a=some (.lst xs)/\ql U G ds xs
 |.scr ds,v=>∃a xs,v=.ref a/\SqL K H a xs/\ql U G ds xs
def Jn(G H:Hp):List Ar->List V->Prop
 |[],vs=>vs=[]
 | a::l,vs=>∃v r,vs=v::r/\ArR U K G H a v/\Jn G H l r
def tAs(f:Env->R (List Ar×Env)):TA:=λZ H Q=>∃N G,ER U K Gv Hv G H N Z/\Wx (XP U Gv Hv ε) (f N) λx=>∀vs G' H',Po U K Gv Hv Z G H N G' H' x.2->Jn U K G' H' x.1 vs->Q vs H'
def tO(f:Env->R (Option Int×Env)):TO:=λZ H Q=>∃N G,ER U K Gv Hv G H N Z/\Wx (XP U Gv Hv ε) (f N) λx=>∀G' H',Po U K Gv Hv Z G H N G' H' x.2->Q x.1 H'
def SrR(G:Hp)(s:Sk×List D)(v:V):Prop:=match s.1 with
 |.str=>∃x,v=.str x/\s.2=qeJ x
 |.tup=>∃a xs,v=.ref a/\ql U G s.2 xs/\G a=some (.tup xs)
 |.lst=>∃a xs,v=.ref a/\ql U G s.2 xs/\(G a=some (.lst xs)\/SqL K Hv a xs)
def tL(f:Env->R ((Sk×List D)×Env)):TE:=λZ H Q=>∃N G,ER U K Gv Hv G H N Z/\Wx (XP U Gv Hv ε) (f N) λx=>∀v G' H',Po U K Gv Hv Z G H N G' H' x.2->SrR U K Hv G' x.1 v->Q v H'
def ItR(G₁:Hp)(J:It)(l:List D):Prop:=∀(i:Nat) (G H:Hp),qp G₁ G->qp Hv H->qp G H->
 (∀d,l[i]?=some d->J.go i H/\∀x H',J.yld i H x H'->∃G',qp H H'/\qp G G'/\qp G' H'/\(∀a o,G' a=some o->(∃o',G a=some o')\/H a=none)/\Rep U G' d x)/\(l.length=i->J.stop i H)
def tI(f:Env->R (List D×Env)):TI:=λZ H Q=>∃N G,ER U K Gv Hv G H N Z/\Wx (XP U Gv Hv ε) (f N) λx=>∀J G' H',Po U K Gv Hv Z G H N G' H' x.2->ItR U Hv G' J x.1->Q J H'
def ReR(G' H' H:Hp):Rv->V->Prop
 |.val d,v=>Rep U G' d v
 |.tmp ds,v=>∃a xs,v=.ref a/\H' a=some (.lst xs)/\H a=none/\G' a=none/\ql U G' ds xs
 |_,_=>False
def spF(cl:Str->List Ar->R Rv)(f:Str):Sp:=λvs H Q E=>∃G args,qp G H/\Jn U K G H args vs/\
 Wx (XP U G H E) (cl f args) λr=>∀v G' H',qp H H'->qp G G'->qp G' H'->(∀a o,G' a=some o->(∃o',G a=some o')\/H a=none)->ReR U G' H' H r v->Q v H'
end
def qcW:List Str:=["len","list","tuple","int","bool","str","max","min","isinstance","range","enumerate","zip","sorted","sum","reversed","all","any","dict","set"]
structure Gd(U:KC)(K:Frag)(ε:XK)(k:Nat)(X:Cx)(L:Ct):Prop where
 ps:zD (CX1 X.prog X.w) X ε
 hN:X.N=L.N
 vis:∀x,qjv L.sc x=true->Vis X.env.scope x
 loc:∀x,qjw L.sc x=true->L2.Loc X.env.scope x/\(X.fn x=true\/X.env.scope.names.lookup x=some .local)
 glo:∀x,glB L.sc x=true->Gl X x
 cf:∀x,(L.sc.names.lookup x=some .cell\/L.sc.names.lookup x=some .free)->X.env.kindOf x=some .cell\/X.env.kindOf x=some .free
 nd:L.N.Nodup
 calm:X.calm=true
 hK:X.K=K
 room:Room k X.A
 fns:∀f,L.tab.contains f=true->∃fa fd ps,FnOk X.prog X.w X.K X.mg X.base (CX1 X.prog X.w) k fa fd ps (spF U K L.cl f)/\X.mg f=some (.ref fa)/\PySem.W.keepIn X.K (.ref fa)=true/\zg X.K fd ps []
 blt:∀f∈qcW,X.mg f=none
 gl:∀x d,L.gl x=some d->∃v u,X.mg x=some u/\qF v u/\∀G,Rep U G d v
 cls:∀c C,U c=some C->Cls X.K C
 flds:∀c x C,L.cs.fld c x=true->U c=some C->qV X.K C x
 mts:∀c x f,L.cs.mt c x=some f->∃C fa fd ps,U c=some C/\Meth X.K C x fa/\FnOk X.prog X.w X.K X.mg X.base (CX1 X.prog X.w) k fa fd ps (spF U K L.cl f)/\zg X.K fd ps []
 mks:∀f,L.cs.tab.contains f=true->(∀args,L.nw f args=.no)\/∃C fa fd ps sp,Mk X.K C fa/\FnOk X.prog X.w X.K X.mg X.base (CX1 X.prog X.w) (k - 1) fa fd ps sp/\X.mg f=some (.ref C)/\zg X.K fd ps []/\0 < k/\
  ∀vs H Q E,spF U K L.nw f vs H Q E->∀x dx,H x=none->H dx=none->dx≠x->sp (.ref x::vs) (upd (upd H dx (.own x)) x (.ins C dx [])) (λv H2=>v=.non/\Q (.ref x) H2) E
 xsubs:∀C t b,L.cs.xs C t=some b->ExcIs X.K C/\((∃T,X.mg t=some (.ref T)/\PySem.W.kitOne X.K (.ref C) (.ref T)=some b)\/(X.mg t=none/\t = "ValueError"/\PySem.W.kitOne X.K (.ref C) (.type "ValueError")=some b))
 xgs:∀C x,L.cs.xg C x=true->XcG X.K C x
 subs:∀c t b,L.cs.sub c t=some b->∃C T,U c=some C/\(∀H p dx fs,H p=some (HO.ins C dx fs)->TyOf X.K H (.ref p) (.ref C))/\X.mg t=some (.ref T)/\PySem.W.kitOne X.K (.ref C) (.ref T)=some b
def PE.imp{X:Cx}{e:Expr}{t t':TE}(h:PE X e t')(i:∀Z H Q,t Z H Q->t' Z H Q):PE X e t:=λpins s Z H Q I hw=>h pins s Z H Q I (i Z H Q hw)
def PT.imp{X:Cx}{e:Expr}{t t':TT}(h:PT X e t')(i:∀Z H Q,t Z H Q->t' Z H Q):PT X e t:=λpins s Z H Q I hw=>h pins s Z H Q I (i Z H Q hw)
def PA.imp{X:Cx}{es:List Expr}{t t':TA}(h:PA X es t')(i:∀Z H Q,t Z H Q->t' Z H Q):PA X es t:=λpos pins s Z H Q I hw=>h pos pins s Z H Q I (i Z H Q hw)
def PO.imp{X:Cx}{o:Option Expr}{t t':TO}(h:PO X o t')(i:∀Z H Q,t Z H Q->t' Z H Q):PO X o t:=λpins s Z H Q I hw=>h pins s Z H Q I (i Z H Q hw)
def PIf.imp{X:Cx}{es:List Expr}{t t':TT}(h:PIf X es t')(i:∀Z H Q,t Z H Q->t' Z H Q):PIf X es t:=λpins s Z H Q I hw=>h pins s Z H Q I (i Z H Q hw)
def PI.imp{X:Cx}{tg e:Expr}{t t':TI}(h:PI X tg e t')(i:∀Z H Q,t Z H Q->t' Z H Q):PI X tg e t:=λpins s Z H Q I hw=>h pins s Z H Q I (i Z H Q hw)
theorem YX:∀{N:List Str} {x:Str} {i:Nat},qb0 N x=some i->N[i]?=some x
 |[],x,i,h=>by cases h
 | y::r,x,i,h=>by
  unfold qb0 at h
  by_cases e:y=x
  ·rw[if_pos e]at h;cases h;rw[e];rfl
  ·rw[if_neg e]at h
   cases q:qb0 r x with
   |none=>rw[q]at h;cases h
   |some j=>rw[q]at h;cases h;show(y::r)[j+1]?=some x;rw[List.getElem?_cons_succ];exact YX q
def zG{x:Str}(h:zE x=true):(x == ("__debug__" : Str))=false/\(x == ("__classdict__" : Str))=false/\x≠"__name__":=by unfold zE at h;simp![Bool.and_eq_true,Bool.not_eq_true']at h;refine{h.1.1,h.1.2,λz=>?_};rw[z]at h;exact absurd h.2 (2:)
def qfS{sc:Scope}{x:Str}(h:qjv sc x=true):Vis sc x:=by
 unfold qjv at h;unfold Vis
 split at h
 ·rename_i e;exact .inl e
 ·rename_i e;exact .inr (.inl e)
 ·rename_i e;exact .inr (.inr e)
 ·cases h
def qcX{sc:Scope}{x:Str}(h:qjw sc x=true):L2.Loc sc x:=by
 unfold qjw at h;unfold L2.Loc
 split at h
 ·rename_i e;exact .inl e
 ·rename_i e;exact .inr e
 ·cases h
def qf{e:Expr}{es:List Expr}{env:PySem.Env}(h:qy e=false):starEach (e::es) env=(false,eval e env)::starEach es env:=by cases e<;>first|rfl|(simp[qy]at h)
section
variable{U:KC}{ε:XK}{K:Frag}{Gv Hv:Hp}{k:Nat}{X:Cx}{L:Ct}
def ER.notOwn{G H:Hp}{N:Env}{Z:St}(er:ER U K Gv Hv G H N Z){a:Addr}(h:H a=none):¬ qbD N Z a:=λ⟨i,l,e,z⟩=>by let(b,xs,z',h1,_):=er.sl i _ e;rw[z]at z';injection z' with z';injection z' with z';injection z' with z';rw[<-z',h]at h1;cases h1
def ER.newList{G H:Hp}{N:Env}{Z:St}(er:ER U K Gv Hv G H N Z){a:Addr}{xs:List V}{l:List D}(h:H a=none)(r:ql U G l xs) :
  Po U K Gv Hv Z G H N G (upd H a (.lst xs)) N/\RvR U K Hv H G (upd H a (.lst xs)) N Z (.tmp l) (.ref a):=
 ⟨Po.room er (qp.upd h),a,xs,rfl,qg,h,qp.none er.base h,qp.none er.sub h,er.notOwn h,r⟩
def qaK(gd:Gd U K ε k X L){x:Str}{i:Nat}(h:qd0 L x=some i)(pos:Pos):PE X (.Name x pos) (qlr i):=by unfold qd0 at h;let(hc,h):=qk h;rw[Bool.and_eq_true]at hc;let(n1,n2,n3):=zG hc.1;exact qb4 (i:=i) (by rw[gd.hN];exact YX h) (gd.vis x hc.2) n1 n2
theorem YY(gd:Gd U K ε k X L){x:Str}{z:E}(h:Z3 L x=some z)(pos:Pos):(∃i,z=.var i/\PE X (.Name x pos) (qlr i))\/∃d v,z=.con d/\(∀G,Rep U G d v)/\PE X (.Name x pos) (tC v):=by
 unfold Z3 at h;let(hok,h):=qk h;let(n1,n2,n3):=zG hok
 cases hi:qb0 L.N x with
 |some i=>rw[hi]at h;let(hv,h):=qk h;cases h;exact .inl ⟨i,rfl,qb4 (i:=i) (by rw[gd.hN];exact YX hi) (gd.vis x hv) n1 n2⟩
 |none=>rw[hi]at h;let(hg,h):=qk h;let(d,hd,rfl):=map_some h;let(v,u,e1,e2,e3):=gd.gl x d hd;exact .inr ⟨d,v,rfl,e3,Jq (gd.glo x hg) e1 e2 n1⟩
def qeO(gd:Gd U K ε k X L){x:Str}{z:E}(h:Z3 L x=some z)(pos:Pos):PE X (.Name x pos) (tR U K ε Gv Hv (iR L.k z)):=by
 rcases YY gd h pos with ⟨i,rfl,P⟩|⟨d,v,rfl,e3,P⟩
 ·refine PE.imp P λZ H Q hq1=>?_;let(N,G,er,h):=hq1;have h:=Wx.th (x:=slR N i) h;unfold slR at h
  cases q:N[i]? with
  |none=>rw[q]at h;exact h.elim
  |some s=>
   rw[q]at h;have w:=er.sl i s q
   cases s with
   |no=>exact h.elim
   |val d=>let(v,z,r):=w;exact{v,z,h v G H (Po.refl er) r}
   |own l=>let(a,xs,z,r1,r2,r3,r4):=w;exact{_,z,h _ G H (Po.refl er) ⟨a,xs,rfl,r1,r4⟩}
   |bor l=>let(a,xs,z,r1,r4):=w;exact{_,z,h _ G H (Po.refl er) {a,xs,rfl,er.base _ _ r1,r4}}
   |scr l=>let(a,xs,z,r1,r4):=w;exact{_,z,h _ G H (Po.refl er) {a,xs,rfl,er.base.seq r1,r4}}
 ·exact PE.imp P λZ H Q ⟨N,G,er,h⟩=>h v G H (Po.refl er) (e3 G)
def qaL(gd:Gd U K ε k X L){x:Str}{z:E}(h:Z3 L x=some z)(pos:Pos):PE X (.Name x pos) (tE U K ε Gv Hv (jG z (iR L.k z))):=by
 rcases YY gd h pos with ⟨i,rfl,P⟩|⟨d,v,rfl,e3,P⟩
 ·refine PE.imp P λZ H Q hq1=>?_;let(N,G,er,h):=hq1;have h:Wx _ (slE N i) _:=h;unfold slE at h
  cases q:N[i]? with
  |none=>rw[q]at h;exact h.elim
  |some s=>
   rw[q]at h;have w:=er.sl i s q
   cases s with
   |val d=>let(v,z,r):=w;exact{v,z,h v G H (Po.refl er) r}
   |own l=>let(a,xs,z,p,r):=er.froze q;exact{_,z,h _ _ H p r}
   |_=>exact h.elim
 ·exact PE.imp P λZ H Q ⟨N,G,er,h⟩=>h v G H (Po.refl er) (e3 G)
end
section
variable{U:KC}{ε:XK}{Ξ:XW}{K:Frag}{Gv Hv Hb Hc G H:Hp}{N:Env}{Z:St}{r s:Rv}{x y:V}
theorem RvR.int{i:Int}(h:RvR U K Hv Hb G H N Z r x)(e:r.int?=some i):x=.int i:=by
 cases r with
 |val d=>cases d<;>simp![Rv.int?]at e<;>first|(cases e;simpa only[RvR,Rep] using h)|cases e
 |_=>cases e
theorem RvR.str{i:Str}(h:RvR U K Hv Hb G H N Z r x)(e:r.str?=some i):x=.str i:=by
 cases r with
 |val d=>cases d<;>simp![Rv.str?]at e<;>first|(cases e;simpa only[RvR,Rep] using h)|cases e
 |_=>cases e
theorem RvR.bl{i:Bool}(h:RvR U K Hv Hb G H N Z r x)(e:r.bl?=some i):x=.bl i:=by
 cases r with
 |val d=>cases d<;>simp![Rv.bl?]at e<;>first|(cases e;simpa only[RvR,Rep] using h)|cases e
 |_=>cases e
theorem RvR.tup{l:List D}(h:RvR U K Hv Hb G H N Z r x)(e:r.tup?=some l):∃a xs,x=.ref a/\G a=some (.tup xs)/\ql U G l xs:=by
 cases r with
 |val d=>cases d<;>simp![Rv.tup?]at e<;>first|(cases e;simpa only[RvR,Rep] using h)|cases e
 |_=>cases e
theorem RvR.seq(er:ER U K Gv Hv G H N Z){l:List D}(h:RvR U K Hv Hb G H N Z r x)(e:seqD r=some l):∃a xs,x=.ref a/\(SqL K H a xs\/SqT K H a xs)/\ql U G l xs:=by
 unfold seqD at e
 cases q:r.tup? with
 | some l'=>rw[q]at e;cases e;let(a,xs,e1,e2,e3):=h.tup q;exact{a,xs,e1,.inr (SqT.of (er.sub _ _ e2)),e3}
 |none=>rw[q]at e;let(a,xs,e1,e2,e3):=h.list er e;exact{a,xs,e1,.inl e2,e3}
theorem RvR.non(h:RvR U K Hv Hb G H N Z r x):decide (x=.non)=r.non?:=by
 cases r with
 |val d=>
  cases d<;>simp![RvR,Rep]at h<;>simp![Rv.non?]
  ·subst h;rfl
  ·subst h;rfl
  ·subst h;rfl
  ·subst h;rfl
  ·let(a,xs,rfl,_):=h;rfl
  ·let(a,xs,rfl,_):=h;rfl
  ·let(p,dx,C,xs,_,rfl,_):=h;rfl
  ·let(p,od,xs,rfl,_):=h;rfl
  ·let(p,xs,rfl,_):=h;rfl
 |tmp l=>let(a,xs,rfl,_):=h;rfl
 |cell l=>let(a,xs,rfl,_):=h;rfl
 |scr l=>let(a,xs,rfl,_):=h;rfl
mutual
theorem Rep.dv(sub:qp G H):∀{d:D} {v:V} {p:PyData},Rep U G d v->toP d=some p->DV K H p v
 |.non,v,p,h,e=>by simp![toP]at e;cases e;simp![Rep]at h;simp![DV];exact h
 |.bl b,v,p,h,e=>by simp![toP]at e;cases e;simp![Rep]at h;simp![DV];exact h
 |.int b,v,p,h,e=>by simp![toP]at e;cases e;simp![Rep]at h;simp![DV];exact h
 |.str b,v,p,h,e=>by simp![toP]at e;cases e;simp![Rep]at h;simp![DV];exact h
 |.lst l,v,p,h,e=>by simp![toP]at e;let(ps,e1,rfl):=Option.map_eq_some_iff.mp e;simp![Rep]at h;let(a,xs,rfl,h1,h2):=h;simp![DV];exact{a,xs,rfl,SqL.of (sub _ _ h1),ql.dvs sub h2 e1}
 |.tup l,v,p,h,e=>by simp![toP]at e;let(ps,e1,rfl):=Option.map_eq_some_iff.mp e;simp![Rep]at h;let(a,xs,rfl,h1,h2):=h;simp![DV];exact{a,xs,rfl,SqT.of (sub _ _ h1),ql.dvs sub h2 e1}
 |.ins c ns l,v,p,h,e=>by simp![toP]at e;cases e
 |.exc c ns l,v,p,h,e=>by simp![toP]at e;cases e
 |.dct ns l,v,p,h,e=>by simp![toP]at e;cases e
theorem ql.dvs(sub:qp G H):∀{ds:List D} {vs:List V} {ps:List PyData},ql U G ds vs->qbZ ds=some ps->DVs K H ps vs
 |[],vs,ps,h,e=>by simp![qbZ]at e;cases e;simp![ql]at h;simp![DVs];exact h
 | d::ds,vs,ps,h,e=>by simp![qbZ]at e;let(p,e1,e2):=Option.bind_eq_some_iff.mp e;let(qs,e3,rfl):=Option.map_eq_some_iff.mp e2;simp![ql]at h;let(x,r,rfl,h1,h2):=h;simp![DVs];exact{x,r,rfl,Rep.dv sub h1 e1,ql.dvs sub h2 e3}
end
theorem RvR.dv(er:ER U K Gv Hv G H N Z){p:PyData}(h:RvR U K Hv Hb G H N Z r x)(e:toP r.data=some p):DV K H p x:=by
 have lst:∀{l:List D} {a:Addr} {xs:List V},SqL K H a xs->ql U G l xs->toP (.lst l)=some p->DV K H p (.ref a):=λ{l a xs} hq hr e=>by simp![toP]at e;let(ps,e1,rfl):=Option.map_eq_some_iff.mp e;simp![DV];exact{a,xs,rfl,hq,ql.dvs er.sub hr e1}
 cases r with
 |val d=>exact Rep.dv er.sub h e
 |tmp l=>let(a,xs,rfl,h1,_,_,_,_,h6):=h;exact lst (SqL.of h1) h6 e
 |cell l=>let(a,xs,rfl,h1,h6):=h;exact lst (SqL.of h1) h6 e
 |scr l=>let(a,xs,rfl,h1,h6):=h;exact lst h1 h6 e
def qaM{d:D}{v:V}(h:Rep U G d v)(f:y6 d=true):v=flV d/\Jx v=true:=by
 cases d<;>simp![y6]at f<;>try (exact absurd f (2:))
 all_goals (simp![Rep]at h;subst h;exact⟨rfl,rfl⟩)
theorem Q5:∀{l:List D} {vs:List V},ql U G l vs->l.all y6=true->vs=l.map flV/\vs.all Jx=true
 |[],vs,h,f=>by simp![ql]at h;subst h;exact⟨rfl,rfl⟩
 | d::l,vs,h,f=>by simp![ql]at h;let(x,r,rfl,h1,h2):=h;simp![List.all_cons,Bool.and_eq_true]at f;let(e1,e2):=qaM h1 f.1;let(e3,e4):=Q5 h2 f.2;subst e1 e3;exact{rfl,by simp![List.all_cons,e2,e4,Bool.and_self]}
theorem qhp(h:RvR U K Hv Hb G H N Z r x)(f:y6 r.data=true):x=flV r.data/\Jx x=true:=by
 cases r with
 |val d=>exact qaM h f
 |_=>simp![Rv.data,y6]at f;exact absurd f (2:)
theorem Z4{f:Int->Int->R Rv}{F:Rv->Prop}(h:Wx Ξ (int2 r s f) F):∃i j,r.int?=some i/\s.int?=some j/\Wx Ξ (f i j) F:=by
 unfold int2 at h
 cases e1:r.int? with
 |none=>rw[e1]at h;exact h.elim
 |some i=>
  cases e2:s.int? with
  |none=>rw[e1,e2]at h;exact h.elim
  |some j=>rw[e1,e2]at h;exact⟨i,j,rfl,rfl,h⟩
def qeP{l:List D}{xs:List V}{i:Int}{d:D}(h:ql U G l xs)(e:atI l i=some d):∃v,atI xs i=some v/\Rep U G d v:=by unfold atI at e ⊢;rw[<-h.len];let(j,e1,e2):=Option.bind_eq_some_iff.mp e;let(v,e3,e4):=h.atD e2;exact{v,by rw[e1];exact e3,e4}
def qeQ{l:List D}{xs:List V}{lo hi:Option Int}(h:ql U G l xs):ql U G (ZJ l lo hi) (qih xs lo hi):=by unfold ZJ qih;rw[h.len];exact(h.drop _).take _
end
section
variable(U:KC)(K:Frag)(Ξ:XW)(Gv Hv:Hp)
def qlC(op:Operator):R2:=λx y H Q=>∃(N:Env) (Z:St) (G Hb Hc:Hp) (r s:Rv),ER U K Gv Hv G H N Z/\RvR U K Hv Hb G H N Z r x/\RvR U K Hv Hc G H N Z s y/\
 Wx Ξ (ZI op r s) λz=>∀v G' H',Po U K Gv Hv Z G H N G' H' N->RvR U K Hv H G' H' N Z z v->Q v H'
def qmj(op:CmpOp):R2:=λx y H Q=>∃(N:Env) (Z:St) (G Hb Hc:Hp) (r s:Rv) (b:Bool),ER U K Gv Hv G H N Z/\RvR U K Hv Hb G H N Z r x/\RvR U K Hv Hc G H N Z s y/\y7 op r s=some b/\Q (.bl b) H
def qnZ:R2:=λx y H Q=>∃(N:Env) (Z:St) (G Hb Hc:Hp) (r s:Rv),ER U K Gv Hv G H N Z/\RvR U K Hv Hb G H N Z r x/\RvR U K Hv Hc G H N Z s y/\
 Wx Ξ (idxD r s) λz=>∀v G' H',Po U K Gv Hv Z G H N G' H' N->RvR U K Hv H G' H' N Z z v->Q v H'
def qn0:V->Option Int->Option Int->Hp->VK->Prop:=λx lo hi H Q=>∃(N:Env) (Z:St) (G Hb:Hp) (r:Rv),ER U K Gv Hv G H N Z/\RvR U K Hv Hb G H N Z r x/\
 Wx Ξ (sliceD r lo hi) λz=>∀v G' H',Po U K Gv Hv Z G H N G' H' N->RvR U K Hv H G' H' N Z z v->Q v H'
def rC1(f:Rv->R Rv):List V->Hp->VK->Prop:=λxs H Q=>∃(N:Env) (Z:St) (G Hb:Hp) (r:Rv) (x:V),xs=[x]/\ER U K Gv Hv G H N Z/\RvR U K Hv Hb G H N Z r x/\
 Wx Ξ (f r) λz=>∀v G' H',Po U K Gv Hv Z G H N G' H' N->RvR U K Hv H G' H' N Z z v->Q v H'
def rC2(f:Rv->Rv->R Rv):List V->Hp->VK->Prop:=λxs H Q=>∃(N:Env) (Z:St) (G Hb Hc:Hp) (r s:Rv) (x y:V),xs=[x,y]/\ER U K Gv Hv G H N Z/\RvR U K Hv Hb G H N Z r x/\RvR U K Hv Hc G H N Z s y/\
 Wx Ξ (f r s) λz=>∀v G' H',Po U K Gv Hv Z G H N G' H' N->RvR U K Hv H G' H' N Z z v->Q v H'
end
section
variable{U:KC}{ε:XK}{Ξ:XW}{K:Frag}{Gv Hv:Hp}{k:Nat}{X:Cx}{L:Ct}
def YZ(op:Operator){f:Int->Int->R Rv}{C:Int->Int->Prop}{g:Int->Int->Int}(hop:OpR X (binaryOp op) (rI C λi j=>.int (g i j)))(hf:∀r s,ZI op r s=int2 r s f)(hw:∀i j F,Wx Ξ (f i j) F->C i j/\F (.val (.int (g i j)))) :
  OpR X (binaryOp op) (qlC U K Ξ Gv Hv op):=by
 rintro pins st Z' H x y v u Q I rx ry ⟨N,Z,G,Hb,Hc,r,s,er,h1,h2,h⟩;rw[hf]at h;let(i,j,e1,e2,h):=Z4 h;let(hc,h):=hw i j _ h;exact hop pins st Z' H x y v u Q I rx ry ⟨i,j,h1.int e1,h2.int e2,hc,h _ G H (Po.refl er) (by simp![RvR,Rep])⟩
def qmk{f:Value->Value->Sem Value}{g:Int->Int->V}(h:OpR X f (rI0 g)):OpR X f (rI (λ_ _=>True) g):=λpins st Z' H x y v u Q I rx ry ⟨i,j,e1,e2,_,q⟩=>h pins st Z' H x y v u Q I rx ry ⟨i,j,e1,e2,q⟩
theorem qjy:OpR X (binaryOp .Add) (qlC U K Ξ Gv Hv .Add):=by
 rintro pins st Z' H x y v u Q I rx ry ⟨N,Z,G,Hb,Hc,r,s,er,h1,h2,h⟩;have h:Wx Ξ (qmd r s) _:=h;unfold qmd at h
 have cat:Wx Ξ (match r.plain?,s.plain? with
   |some l,some m=>if l.length+m.length<=sizeLine then R.ok (Rv.tmp (l++m)) else .no
   |_,_=>.no) (λz=>∀v G' H',Po U K Gv Hv Z G H N G' H' N->RvR U K Hv H G' H' N Z z v->Q v H')->wpAny (model X.prog X.w) X.A (binaryOp .Add v u) (EP X pins Z' Q) X.xe st:=λh=>by
  cases e1:r.plain? with
  |none=>rw[e1]at h;exact h.elim
  |some l=>
   cases e2:s.plain? with
   |none=>rw[e1,e2]at h;exact h.elim
   |some m=>rw[e1,e2]at h;let(hz,h):=Wx.iff h;let(a,xs,q1,q2,q3):=h1.plain er e1;let(b,ys,p1,p2,p3):=h2.plain er e2;refine qiZ pins st Z' H x y v u Q I rx ry ⟨a,b,xs,ys,q1,p1,q2,p2,by rw[<-q3.len,<-p3.len];exact hz,λp hp=>?_⟩;let(z1,z2):=er.newList hp (q3.app p3);exact h _ _ _ z1 z2
 have txt:Wx Ξ (match r.str?,s.str? with
   |some a,some b=>if a.length+b.length<=sizeLine then R.ok (Rv.val (.str (a++b))) else .no
   |_,_=>match r.plain?,s.plain? with
    |some l,some m=>if l.length+m.length<=sizeLine then R.ok (Rv.tmp (l++m)) else .no
    |_,_=>.no) (λz=>∀v G' H',Po U K Gv Hv Z G H N G' H' N->RvR U K Hv H G' H' N Z z v->Q v H')->wpAny (model X.prog X.w) X.A (binaryOp .Add v u) (EP X pins Z' Q) X.xe st:=λh=>by
  cases e1:r.str? with
  |none=>rw[e1]at h;exact cat h
  |some l=>
   cases e2:s.str? with
   |none=>rw[e1,e2]at h;exact cat h
   |some m=>rw[e1,e2]at h;let(hz,h):=Wx.iff h;exact qbp pins st Z' H x y v u Q I rx ry ⟨l,m,h1.str e1,h2.str e2,hz,h _ G H (Po.refl er) (by simp![RvR,Rep])⟩
 cases e1:r.int? with
 |none=>rw[e1]at h;exact txt h
 |some i=>
  cases e2:s.int? with
  |none=>rw[e1,e2]at h;exact txt h
  |some j=>rw[e1,e2]at h;exact qiH pins st Z' H x y v u Q I rx ry ⟨i,j,h1.int e1,h2.int e2,h _ G H (Po.refl er) (by simp![RvR,Rep])⟩
def qhq{i j:Int}(h:QZ i j=true):qlt i j:=by unfold QZ at h;simp![Bool.or_eq_true,Bool.and_eq_true,decide_eq_true_eq]at h;exact h
theorem qjz:OpR X (binaryOp .Mult) (qlC U K Ξ Gv Hv .Mult):=by
 rintro pins st Z' H x y v u Q I rx ry ⟨N,Z,G,Hb,Hc,r,s,er,h1,h2,h⟩;have h:Wx Ξ (qme r s) _:=h;unfold qme at h
 cases e2:s.int? with
 |none=>cases e1:r.int?<;>rw[e1,e2]at h<;>exact h.elim
 |some j=>
  cases e1:r.int? with
  |some i=>rw[e1,e2]at h;let(hm,h):=Wx.iff h;exact qiJ pins st Z' H x y v u Q I rx ry ⟨i,j,h1.int e1,h2.int e2,qhq hm,h _ G H (Po.refl er) (by simp![RvR,Rep])⟩
  |none=>rw[e1,e2]at h;exact h.elim
theorem qjA(op:Operator):OpR X (binaryOp op) (qlC U K Ξ Gv Hv op):=by
 cases op with
 |Add=>exact qjy
 |Sub=>exact YZ .Sub (qmk qiI) (λ_ _=>rfl) λi j F h=>⟨trivial,h⟩
 |Mult=>exact qjz
 |FloorDiv=>
  refine YZ .FloorDiv qd9 (λ_ _=>rfl) λi j F h=>?_
  by_cases hp:0 < j/\j < 1073741824
  ·rw[if_pos hp]at h;rw[Int.fdiv_eq_ediv_of_nonneg i (1:)];exact{{by lia,by lia},h}
  ·rw[if_neg hp]at h;let(hc,h):=Wx.iff h;exact{{by lia,by lia},h}
 |Mod=>
  refine YZ .Mod qgr (λ_ _=>rfl) λi j F h=>?_
  by_cases hp:0 < j
  ·rw[if_pos hp]at h;rw[Int.fmod_eq_emod_of_nonneg i (1:)];exact{by lia,h}
  ·rw[if_neg hp]at h;let(hc,h):=Wx.iff h;exact{by lia,h}
 |Pow=>exact YZ .Pow qiK (λ_ _=>rfl) λi j F h=>{(Wx.iff h).1,(Wx.iff h).2}
 |_=>exactλ_ _ _ _ _ _ _ _ _ _ _ _ h=>Exists.elim h λ_ h=>Exists.elim h λ_ h=>Exists.elim h λ_ h=>Exists.elim h λ_ h=>Exists.elim h λ_ h=>Exists.elim h λ_ h=>Exists.elim h λ_ h=>h.2.2.2.elim
theorem Y0(op:CmpOp){g:Int->Int->Bool}(hop:OpR X (compareOp op) (rI0 λi j=>.bl (g i j)))(hf:∀r s,y7 op r s=qim r s g):OpR X (compareOp op) (qmj U K Gv Hv op):=by
 rintro pins st Z' H x y v u Q I rx ry ⟨N,Z,G,Hb,Hc,r,s,b,er,h1,h2,h,q⟩;rw[hf]at h;unfold qim at h
 cases e1:r.int? with
 |none=>rw[e1]at h;cases h
 |some i=>
  cases e2:s.int? with
  |none=>rw[e1,e2]at h;cases h
  |some j=>rw[e1,e2]at h;cases h;exact hop pins st Z' H x y v u Q I rx ry ⟨i,j,h1.int e1,h2.int e2,q⟩
theorem qfT{x y:D}{b:Bool}(h:eqD x y=some b):∃p q,toP x=some p/\toP y=some q/\SeqAt.shaped p=true/\SeqAt.shaped q=true/\b=PyData.eqv p q:=by
 unfold eqD at h
 cases e1:toP x with
 |none=>rw[e1]at h;cases h
 |some p=>
  cases e2:toP y with
  |none=>rw[e1,e2]at h;cases h
  |some q=>
   rw[e1,e2]at h;dsimp only at h
   by_cases hs:(SeqAt.shaped p&&SeqAt.shaped q)=true
   ·rw[if_pos hs]at h;cases h;rw[Bool.and_eq_true]at hs;exact⟨p,q,rfl,rfl,hs.1,hs.2,rfl⟩
   ·rw[if_neg hs]at h;cases h
theorem qfU(gd:Gd U K ε k X L)(neg:Bool)(op:CmpOp)(hs:OpR X (compareOp op) (λx y H Q=>∃i j,x=.str i/\y=.str j/\Q (.bl (if neg then !qin i j else qin i j)) H))(hl:OpR X (compareOp op) (rIn X.K neg))
  (hf:∀r s,y7 op r s=(qd1 r s).map λb=>if neg then !b else b):OpR X (compareOp op) (qmj U K Gv Hv op):=by
 rintro pins st Z' H x y v u Q I rx ry ⟨N,Z,G,Hb,Hc,r,s,b,er,h1,h2,h,q⟩;rw[hf]at h;let(b',hb',rfl):=Option.map_eq_some_iff.mp h
 replace h:=hb'
 unfold qd1 at h
 have sq:(seqD s).bind (inD r.data)=some b'->wpAny (model X.prog X.w) X.A (compareOp op v u) (EP X pins Z' Q) X.xe st:=λh=>by
  let(l,e1,e2):=Option.bind_eq_some_iff.mp h;unfold inD at e2
  by_cases hc:(y6 r.data&&l.all y6)=true
  ·rw[if_pos hc]at e2;cases e2;rw[Bool.and_eq_true]at hc;let(a,xs,p1,p2,p3):=h2.seq er e1;let(f1,f2):=qhp h1 hc.1;let(f3,f4):=Q5 p3 hc.2;refine hl pins st Z' H x y v u Q I rx ry ⟨a,xs,p1,by rw[gd.hK];exact p2,f2,f4,?_⟩;rw[f1,f3];exact q
  ·rw[if_neg hc]at e2;cases e2
 cases e1:r.str? with
 |none=>rw[e1]at h;exact sq h
 |some i=>
  cases e2:s.str? with
  |none=>rw[e1,e2]at h;exact sq h
  |some j=>rw[e1,e2]at h;cases h;exact hs pins st Z' H x y v u Q I rx ry ⟨i,j,h1.str e1,h2.str e2,q⟩
theorem qcY{G:Hp}:∀{l:List D} {xs:List V} {ns:List Int},ql U G l xs->Z2 l=some ns->xs=ns.map V.int
 |[],xs,ns,r,h=>by simp![ql]at r;subst r;cases h;rfl
 | d::l,xs,ns,r,h=>by
  simp![ql]at r;let(x,us,rfl,r1,r2):=r
  cases d with
  |int i=>unfold Z2 at h;let(ms,e1,rfl):=Option.map_eq_some_iff.mp h;simp![Rep]at r1;rw[r1,qcY r2 e1];rfl
  |_=>cases h
theorem qaN(gd:Gd U K ε k X L)(op:CmpOp):OpR X (compareOp op) (qmj U K Gv Hv op):=by
 have hu:X.A.units+64 < cLine:=by have:=gd.room.un;lia
 cases op with
 |Eq=>rintro pins st Z' H x y v u Q I rx ry ⟨N,Z,G,Hb,Hc,r,s,b,er,h1,h2,h,q⟩;let(p,p',e1,e2,e3,e4,rfl):=qfT h;exact qjh hu pins st Z' H x y v u Q I rx ry ⟨p,p',by rw[gd.hK];exact h1.dv er e1,by rw[gd.hK];exact h2.dv er e2,e3,e4,q⟩
 |NotEq=>rintro pins st Z' H x y v u Q I rx ry ⟨N,Z,G,Hb,Hc,r,s,b,er,h1,h2,h,q⟩;let(b',h',rfl):=Option.map_eq_some_iff.mp h;let(p,p',e1,e2,e3,e4,rfl):=qfT h';exact qji hu pins st Z' H x y v u Q I rx ry ⟨p,p',by rw[gd.hK];exact h1.dv er e1,by rw[gd.hK];exact h2.dv er e2,e3,e4,q⟩
 |Lt=>exact Y0 .Lt qlU λ_ _=>rfl
 |LtE=>exact Y0 .LtE qlV λ_ _=>rfl
 |Gt=>exact Y0 .Gt qlW λ_ _=>rfl
 |GtE=>exact Y0 .GtE qlX λ_ _=>rfl
 |Is=>
  rintro pins st Z' H x y v u Q I rx ry ⟨N,Z,G,Hb,Hc,r,s,b,er,h1,h2,h,q⟩;have h:(if s.non?=true then some r.non? else none)=some b:=h
  by_cases hn:s.non?=true
  ·rw[if_pos hn]at h;cases h;refine qiM pins st Z' H x y v u Q I rx ry ⟨of_decide_eq_true (h2.non.trans hn),?_⟩;rw[h1.non];exact q
  ·rw[if_neg hn]at h;cases h
 |IsNot=>
  rintro pins st Z' H x y v u Q I rx ry ⟨N,Z,G,Hb,Hc,r,s,b,er,h1,h2,h,q⟩;have h:(if s.non?=true then some (!r.non?) else none)=some b:=h
  by_cases hn:s.non?=true
  ·rw[if_pos hn]at h;cases h;refine qgs pins st Z' H x y v u Q I rx ry ⟨of_decide_eq_true (h2.non.trans hn),?_⟩;rw[h1.non];exact q
  ·rw[if_neg hn]at h;cases h
 |In=>exact qfU gd false .In qcc qcl λr s=>by show qd1 r s=_;cases qd1 r s<;>rfl
 |NotIn=>exact qfU gd true .NotIn Qy QK λr s=>rfl
theorem Y1{G:Hp}{x:Str}{d:D}:∀{ns:List Str} {ds:List D} {xs:List V},ql U G ds xs->(ns.zip ds).lookup x=some d->∃v,(ns.zip xs).lookup x=some v/\Rep U G d v
 |[],_,_,_,h=>by simp at h
 | n::ns,[],_,_,h=>by simp at h
 | n::ns,e::ds,xs,r,h=>by
  simp![ql]at r;let(v,us,rfl,r1,r2):=r;rw[List.zip_cons_cons,List.lookup_cons]at h
  cases hx:(x == n) with
  |true=>rw[hx]at h;cases h;exact{v,by rw[List.zip_cons_cons,List.lookup_cons,hx],r1}
  |false=>rw[hx]at h;let(u,z1,z2):=Y1 r2 h;exact{u,by rw[List.zip_cons_cons,List.lookup_cons,hx];exact z1,z2}
theorem qjB(gd:Gd U K ε k X L):IxR X (qnZ U K Ξ Gv Hv):=by
 rintro value slice pins st Z' H x y v u Q I rx ry ⟨N,Z,G,Hb,Hc,r,s,er,h1,h2,h⟩ hs;unfold idxD at h
 cases e1:s.int? with
 |none=>rw[e1]at h;exact False.elim h
 |some i=>
  rw[e1]at h;dsimp only at h
  cases e2:r.str? with
  |some z=>
   rw[e2]at h;dsimp only at h;let(hz,h):=Wx.iff h
   cases e3:atI z.cps.toList i with
   |none=>rw[e3]at h;exact h.elim
   |some c=>rw[e3]at h;exact qiV value slice pins st Z' H x y v u Q I rx ry ⟨z,i,c,h1.str e2,h2.int e1,hz,e3,h _ G H (Po.refl er) (by simp![RvR,Rep])⟩ hs
  |none=>
   rw[e2]at h;dsimp only at h
   cases e3:seqD r with
   |none=>rw[e3]at h;exact h.elim
   |some l=>
    rw[e3]at h;dsimp only at h
    cases e4:atI l i with
    |none=>rw[e4]at h;exact h.elim
    |some d=>
     rw[e4]at h;let(a,xs,p1,p2,p3):=h1.seq er e3;let(w,p4,p5):=qeP p3 e4;rcases p2 with p2|p2
     ·exact qgE value slice pins st Z' H x y v u Q I rx ry ⟨a,xs,i,w,p1,h2.int e1,by rw[gd.hK];exact p2,p4,h w G H (Po.refl er) p5⟩ hs
     ·exact qiU value slice pins st Z' H x y v u Q I rx ry ⟨a,xs,i,w,p1,h2.int e1,by rw[gd.hK];exact p2,p4,h w G H (Po.refl er) p5⟩ hs
theorem qjC(gd:Gd U K ε k X L):L2.SlR X (qn0 U K Ξ Gv Hv):=by
 rintro pins st Z' H x v vl vu lo hi sl Q I rx hs pl pu ⟨N,Z,G,Hb,r,er,h1,h⟩;unfold sliceD at h
 cases e2:r.str? with
 |some z=>rw[e2]at h;dsimp only at h;let(hz,h):=Wx.iff h;exact qjl pins st Z' H x v vl vu lo hi sl Q I rx hs pl pu ⟨z,h1.str e2,hz,h _ G H (Po.refl er) (by simp![RvR,Rep])⟩
 |none=>rw[e2]at h;dsimp only at h;let(l,e1,h):=Wx.of (Wx.th h);let(a,xs,p1,p2,p3):=h1.list er e1;refine qgF pins st Z' H x v vl vu lo hi sl Q I rx hs pl pu ⟨a,xs,p1,by rw[gd.hK];exact p2,λp hp=>?_⟩;let(z1,z2):=er.newList hp (qeQ (lo:=lo) (hi:=hi) p3);exact h _ _ _ z1 z2
theorem qjD(gd:Gd U K ε k X L):qO X (.builtin "len") (rC1 U K Ξ Gv Hv lenD):=by
 rintro pins st Z' H xs us Q I rs ⟨N,Z,G,Hb,r,x,hx,er,h1,h⟩;unfold lenD at h
 cases e2:r.str? with
 |some z=>rw[e2]at h;dsimp only at h;let(hz,h):=Wx.iff h;exact QL pins st Z' H xs us Q I rs ⟨z,by rw[hx,h1.str e2],hz,h _ G H (Po.refl er) (by simp![RvR,Rep])⟩
 |none=>
  rw[e2]at h;dsimp only at h
  cases e3:seqD r with
  |none=>rw[e3]at h;exact h.elim
  |some l=>rw[e3]at h;let(a,ys,p1,p2,p3):=h1.seq er e3;refine yJ pins st Z' H xs us Q I rs ⟨a,ys,by rw[hx,p1],by rw[gd.hK];exact p2,?_⟩;rw[<-p3.len];exact h _ G H (Po.refl er) (by simp![RvR,Rep])
theorem qhr(gd:Gd U K ε k X L):qO X (.type "list") (rC1 U K Ξ Gv Hv listD):=by
 rintro pins st Z' H xs us Q I rs ⟨N,Z,G,Hb,r,x,hx,er,h1,h⟩;unfold listD at h
 cases e3:seqD r with
 |none=>rw[e3]at h;exact h.elim
 |some l=>rw[e3]at h;let(a,ys,p1,p2,p3):=h1.seq er e3;refine jl pins st Z' H xs us Q I rs ⟨a,ys,by rw[hx,p1],by rw[gd.hK];exact p2,λp hp=>?_⟩;let(z1,z2):=er.newList hp p3;exact h _ _ _ z1 z2
def qbG(a b c:Int×Int)(h1:Qr a b=true)(h2:Qr b c=true):Qr a c=true:=by
 simp![Qr,Bool.or_eq_true,Bool.and_eq_true,decide_eq_true_eq]at *
 lia
def qbH(a b:Int×Int):(Qr a b||Qr b a)=true:=by
 simp![Qr,Bool.or_eq_true,Bool.and_eq_true,decide_eq_true_eq]at *
 lia
def qeR{ps qs:List (Int×Int)}(p:qs.Perm ps)(s:qs.Pairwise qcD):ya ps=qs:=by
 have s1:(ya ps).Pairwise λa b=>Qr a b=true:=List.pairwise_mergeSort qbG qbH ps
 have s2:qs.Pairwise λa b=>Qr a b=true:=s.imp λ{a b} h=>by simp![Qr,Bool.or_eq_true,Bool.and_eq_true,decide_eq_true_eq];exact h
 refine List.Perm.eq_of_pairwise (λa b _ _ h1 h2=>?_) s1 s2 ((List.mergeSort_perm ps Qr).trans p.symm);simp![Qr,Bool.or_eq_true,Bool.and_eq_true,decide_eq_true_eq]at h1 h2;exact Prod.ext (1:) (1:)
theorem qaO{G:Hp}:∀{l:List D} {xs:List V} {ps:List (Int×Int)},ql U G l xs->qfO l=some ps->Paired (λx (p:Int×Int)=>∃a,x=V.ref a/\G a=some (.tup [.int p.1,.int p.2])) xs ps
 |[],xs,ps,r,h=>by simp![ql]at r;subst r;cases h;exact .nil
 | d::l,xs,ps,r,h=>by
  simp![ql]at r;let(x,us,rfl,r1,r2):=r;unfold qfO at h
  cases e1:prD d with
  |none=>rw[e1]at h;cases h
  |some p=>
   cases e2:qfO l with
   |none=>rw[e1,e2]at h;cases h
   |some qs=>
    rw[e1,e2]at h;cases h;refine .cons ?_ (qaO r2 e2);unfold prD at e1
    split at e1
    ·cases e1;simp![Rep,ql]at r1;let(a,ys,rfl,h1,x1,z1,rfl,rfl,x2,z2,rfl,rfl,rfl):=r1;exact⟨a,rfl,h1⟩
    ·cases e1
theorem Paired.memL{α M:Type}{R:α->M->Prop}:∀{l:List α} {m:List M},Paired R l m->∀a∈l,∃b,R a b
 |_,_,.nil,a,h=>by cases h
 |_,_,.cons r rs,a,h=>by
  cases h with
  |head=>exact{_,r}
  |tail _ h=>exact Paired.memL rs a h
theorem qbI{G H:Hp}(sub:qp G H){xs:List V}(f:∀x∈xs,∃p:Int×Int,∃a,x=V.ref a/\G a=some (.tup [.int p.1,.int p.2])){ys:List V}{qs:List (Int×Int)}(hm:∀y∈ys,y∈xs)(h:Paired (P2 K H) ys qs):ql U G (qs.map pD) ys:=by
 induction h with
 |nil=>exact .nil
 |cons r rs ih=>refine .cons ?_ (ih λz hz=>hm z (List.mem_cons_of_mem _ hz));let(p,a,rfl,ga):=f _ (hm _ (List.mem_cons_self ..));let(b,eb,hb):=r;cases eb;rw[sub _ _ ga]at hb;rw[hb]at ga;simp![pD,Rep,ql];exact{a,_,rfl,ga,_,_,rfl,rfl,_,_,rfl,rfl,rfl}
theorem qcZ(gd:Gd U K ε k X L):qO X (.builtin "sorted") (rC1 U K Ξ Gv Hv YU):=by
 rintro pins st Z' H xs us Q I rs ⟨N,Z,G,Hb,r,x,hx,er,h1,h⟩;unfold YU at h
 cases e3:r.list? with
 |none=>rw[e3]at h;exact h.elim
 |some l=>
  rw[e3]at h;dsimp only at h
  cases e4:qfO l with
  |none=>rw[e4]at h;exact h.elim
  |some ps=>
   rw[e4]at h;dsimp only at h;let(h64,h):=Wx.iff h;let(a,ys,p1,p2,p3):=h1.list er e3;have pr:=qaO p3 e4
   have pr2:Paired (P2 X.K H) ys ps:=by
    have:∀{ys:List V} {ps:List (Int×Int)},Paired (λx (p:Int×Int)=>∃a,x=V.ref a/\G a=some (.tup [.int p.1,.int p.2])) ys ps->Paired (P2 X.K H) ys ps:=by
     intro ys ps q
     induction q with
     |nil=>exact .nil
     |cons r rs ih=>let(a,e,ga):=r;exact .cons ⟨a,e,er.sub _ _ ga⟩ ih
    exact this pr
   refine QS pins st Z' H xs us Q I rs ⟨a,ys,ps,by rw[hx,p1],by rw[gd.hK];exact p2,pr2,λp zs qs hp z1 z2 z3 z4=>?_⟩;have e5:ya ps=qs:=qeR z3 z4
   have rr:ql U G ((ya ps).map pD) zs:=by rw[e5];refine qbI (K:=X.K) er.sub (λx hx=>?_) (λy hy=>z2.mem_iff.mp hy) z1;let(p,hp):=Paired.memL pr x hx;exact⟨p,hp⟩
   let(w1,w2):=er.newList hp rr;exact h _ _ _ w1 w2
def qjE(gd:Gd U K ε k X L):qO X (.builtin "sum") (rC1 U K Ξ Gv Hv qmW):=by rintro pins st Z' H xs us Q I rs ⟨N,Z,G,Hb,r,x,hx,er,h1,h⟩;exact False.elim h
def qjF(gd:Gd U K ε k X L):qO X (.builtin "all") (rC1 U K Ξ Gv Hv qmX):=by rintro pins st Z' H xs us Q I rs ⟨N,Z,G,Hb,r,x,hx,er,h1,h⟩;exact h.elim
def qjG(gd:Gd U K ε k X L):qO X (.builtin "any") (rC1 U K Ξ Gv Hv qmY):=by rintro pins st Z' H xs us Q I rs ⟨N,Z,G,Hb,r,x,hx,er,h1,h⟩;exact h.elim
def qjH:qO X (.type "str") (rC1 U K Ξ Gv Hv strD):=by rintro pins st Z' H xs us Q I rs ⟨N,Z,G,Hb,r,x,hx,er,h1,h⟩;exact False.elim h
def qeS(gd:Gd U K ε k X L):qO X (.type "tuple") (rC1 U K Ξ Gv Hv tupD):=by rintro pins st Z' H xs us Q I rs ⟨N,Z,G,Hb,r,x,hx,er,h1,h⟩;exact False.elim h
theorem qjI:qO X (.type "int") (rC1 U K Ξ Gv Hv intD):=by
 rintro pins st Z' H xs us Q I rs ⟨N,Z,G,Hb,r,x,hx,er,h1,h⟩;unfold intD at h
 cases e3:r.int? with
 |some i=>rw[e3]at h;exact QA pins st Z' H xs us Q I rs (.inl ⟨i,by rw[hx,h1.int e3],h _ G H (Po.refl er) (by simp![RvR,Rep])⟩)
 |none=>
  rw[e3]at h;dsimp only at h
  cases e4:r.bl? with
  |none=>rw[e4]at h;exact False.elim h
  |some b=>rw[e4]at h;exact QA pins st Z' H xs us Q I rs (.inr ⟨b,by rw[hx,h1.bl e4],h _ G H (Po.refl er) (by simp![RvR,Rep])⟩)
def qjJ(gd:Gd U K ε k X L):qO X (.builtin "max") (rC2 U K Ξ Gv Hv maxD):=by rintro pins st Z' H xs us Q I rs ⟨N,Z,G,Hb,Hc,r,s,x,y,hx,er,h1,h2,h⟩;let(i,j,e1,e2,h):=Z4 h;exact qcd gd.calm pins st Z' H xs us Q I rs ⟨i,j,by rw[hx,h1.int e1,h2.int e2],h _ G H (Po.refl er) (by simp![RvR,Rep])⟩
def qjK(gd:Gd U K ε k X L):qO X (.builtin "min") (rC2 U K Ξ Gv Hv minD):=by rintro pins st Z' H xs us Q I rs ⟨N,Z,G,Hb,Hc,r,s,x,y,hx,er,h1,h2,h⟩;let(i,j,e1,e2,h):=Z4 h;exact qce gd.calm pins st Z' H xs us Q I rs ⟨i,j,by rw[hx,h1.int e1,h2.int e2],h _ G H (Po.refl er) (by simp![RvR,Rep])⟩
theorem qeT(gd:Gd U K ε k X L){G H Hb:Hp}{N:Env}{Z:St}{r:Rv}{x:V}{b:Bool}(er:ER U K Gv Hv G H N Z)(h:RvR U K Hv Hb G H N Z r x)(e:truthD r=some b):qlu X.K x H b:=by
 have sq:∀{r:Rv},RvR U K Hv Hb G H N Z r x->(seqD r).map (λl=>!l.isEmpty)=some b->qlu X.K x H b:=λ{r} h e=>by
  let(l,e1,rfl):=Option.map_eq_some_iff.mp e;let(a,xs,rfl,p2,p3):=h.seq er e1
  have hl:(!l.isEmpty) = !xs.isEmpty:=by
   have:=p3.len
   cases l<;>cases xs<;>simp_all
  rw[hl,gd.hK];rcases p2 with p2|p2
  ·exact .inl ⟨xs,p2,rfl⟩
  ·exact .inr (.inl ⟨xs,p2,rfl⟩)
 cases r with
 |val d=>
  cases d with
  |non=>simp![RvR,Rep]at h;subst h;simp![truthD]at e;cases e;exact rfl
  |bl c=>simp![RvR,Rep]at h;subst h;simp![truthD]at e;cases e;exact rfl
  |int c=>simp![RvR,Rep]at h;subst h;simp![truthD]at e;cases e;exact rfl
  |str c=>
   simp![RvR,Rep]at h;subst h;simp![truthD]at e
   by_cases hz:c.length<=sizeLine
   ·rw[if_pos hz]at e;cases e;exact⟨hz,rfl⟩
   ·rw[if_neg hz]at e;cases e
  |lst l=>exact sq h e
  |tup l=>exact sq h e
  |ins c ns l=>exact sq h e
  |exc c ns l=>exact sq h e
  |dct ns l=>exact sq h e
 |tmp l=>exact sq h e
 |cell l=>exact sq h e
 |scr l=>exact sq h e
end
open PySem.Spec PyProof.Rows
structure All(U:KC)(K:Frag)(ε:XK)(k:Nat)(X:Cx)(L:Ct)(m:Nat):Prop where
 r:∀Gv Hv e x,cE m L e=some x->PE X e (tR U K ε Gv Hv (iR L.k x))
 e:∀Gv Hv e x,cX m L e=some x->PE X e (tE U K ε Gv Hv (jG x (iR L.k x)))
 t:∀Gv Hv e x,cT m L e=some x->PT X e (tT U K ε Gv Hv (iT L.k x))
 es:∀Gv Hv e x,cEs m L e=some x->PA X e (tEs U K ε Gv Hv (iEs L.k x))
 as:∀Gv Hv e x,cAs m L e=some x->PA X e (tAs U K ε Gv Hv (iAs L.k x))
 o:∀Gv Hv e x,cO m L e=some x->PO X e (tO U K ε Gv Hv (iO L.k x))
 f:∀Gv Hv e x,cF m L e=some x->PIf X e (tT U K ε Gv Hv (iF L.k x))
 l:∀Gv Hv e x,cL m L e=some x->PE X e (tL U K ε Gv Hv (yc x (iR L.k x)))
 i:∀Gv Hv tg e x,cI m L (qeL tg) e=some x->PI X tg e (tI U K ε Gv Hv (iI L.k x))
section
variable{U:KC}{ε:XK}{K:Frag}{Gv Hv:Hp}{k m:Nat}{X:Cx}{L:Ct}{x:E}
def qn1:All U K ε k X L 0:={ r:=(λ_ _ _ _ h=>nomatch h),e:=(λ_ _ _ _ h=>nomatch h),t:=(λ_ _ _ _ h=>nomatch h),es:=(λ_ _ _ _ h=>nomatch h),as:=(λ_ _ _ _ h=>nomatch h),o:=(λ_ _ _ _ h=>nomatch h),f:=(λ_ _ _ _ h=>nomatch h),l:=(λ_ _ _ _ h=>nomatch h),i:=(λ_ _ _ _ _ h=>nomatch h) }
theorem qeU(c:Const)(j:Nat)(pos:Pos)(h:qfR c=some x):PE X (.Constant c j pos) (tR U K ε Gv Hv (iR L.k x)):=by
 cases c with
 |none=>cases h;exact PE.imp qiu λZ H Q ⟨N,G,er,h⟩=>h _ G H (Po.refl er) (by simp![RvR,Rep])
 |bool b=>cases h;exact PE.imp qlG λZ H Q ⟨N,G,er,h⟩=>h _ G H (Po.refl er) (by simp![RvR,Rep])
 |int b=>cases h;exact PE.imp Qv λZ H Q ⟨N,G,er,h⟩=>h _ G H (Po.refl er) (by simp![RvR,Rep])
 |str b=>cases h;exact PE.imp qiv λZ H Q ⟨N,G,er,h⟩=>h _ G H (Po.refl er) (by simp![RvR,Rep])
 |_=>cases h
def qeV(A:All U K ε k X L m)(a b:Expr)(op:Operator)(pos:Pos)(h:cE (m+1) L (.BinOp a op b pos)=some x):PE X (.BinOp a op b pos) (tR U K ε Gv Hv (iR L.k x)):=by let(a',b',h1,h2,rfl):=qj h;refine PE.imp (qlR (qjA (Ξ:=XP U Gv Hv ε) (U:=U) (K:=K) (Gv:=Gv) (Hv:=Hv) op) (A.r Gv Hv _ _ h1) (A.r Gv Hv _ _ h2)) λZ H Q hq1=>?_;let(N,G,er,h):=hq1;refine{N,G,er,Wx.mono (Wx.th (x:=iR L.k a' N) h) λx h v G1 H1 p1 r1=>{x.2,G1,p1.er,Wx.mono (Wx.th (x:=iR L.k b' x.2) h) λy h w G2 H2 p2 r2=>?_}};exact{y.2,Z,G2,H,H1,x.1,y.1,p2.er,r1.keep p2,r2,Wx.mono (Wx.th h) λz h u G3 H3 p3 r3=>h u G3 H3 (p1.trans (p2.trans p3)) (r3.back (p1.trans p2).hs)}
theorem qjL(A:All U K ε k X L m)(a:Expr)(pos:Pos)(h:cE (m+1) L (.UnaryOp .USub a pos)=some x):PE X (.UnaryOp .USub a pos) (tR U K ε Gv Hv (iR L.k x)):=by
 let(a',h1,rfl):=map_some h;refine PE.imp (qlS qiL (A.r Gv Hv _ _ h1)) λZ H Q hq1=>?_;let(N,G,er,h):=hq1;refine{N,G,er,Wx.mono (Wx.th (x:=iR L.k a' N) h) λx h v G1 H1 p1 r1=>?_};let(rv,N1):=x
 cases rv with
 |val d=>
  cases d with
  |int i=>exact{i,by simpa only[RvR,Rep] using r1,h _ G1 H1 p1 (by simp![RvR,Rep])}
  |_=>exact False.elim h
 |_=>exact False.elim h
theorem qhs(A:All U K ε k X L m)(a:Expr)(pos:Pos)(h:cE (m+1) L (.UnaryOp .Not a pos)=some x):PE X (.UnaryOp .Not a pos) (tR U K ε Gv Hv (iR L.k x)):=by
 let(a',h1,rfl):=map_some h;refine PE.imp (qiz (A.r Gv Hv _ _ h1)) λZ H Q hq1=>?_;let(N,G,er,h):=hq1;refine{N,G,er,Wx.mono (Wx.th (x:=iR L.k a' N) h) λx h v G1 H1 p1 r1=>?_};let(rv,N1):=x
 cases rv with
 |val d=>
  cases d with
  |bl i=>exact{i,by simpa only[RvR,Rep] using r1,h _ G1 H1 p1 (by simp![RvR,Rep])}
  |_=>exact False.elim h
 |_=>exact False.elim h
def qht(gd:Gd U K ε k X L)(A:All U K ε k X L m)(a b:Expr)(op:CmpOp)(pos:Pos)(h:cE (m+1) L (.Compare a [op] [b] pos)=some x):PE X (.Compare a [op] [b] pos) (tR U K ε Gv Hv (iR L.k x)):=by let(hm,h):=qk h;let(a',b',h1,h2,rfl):=qj h;refine PE.imp (qgt (qaN (Gv:=Gv) (Hv:=Hv) gd op) (A.r Gv Hv _ _ h1) (A.r Gv Hv _ _ h2) (-hm:)) λZ H Q hq1=>?_;let(N,G,er,h):=hq1;refine{N,G,er,Wx.mono (Wx.th (x:=iR L.k a' N) h) λx h v G1 H1 p1 r1=>{x.2,G1,p1.er,Wx.mono (Wx.th (x:=iR L.k b' x.2) h) λy h w G2 H2 p2 r2=>?_}};let(c,e,h):=Wx.of (Wx.th h);exact{y.2,Z,G2,H,H1,x.1,y.1,c,p2.er,r1.keep p2,r2,e,h _ G2 H2 (p1.trans p2) (by simp![RvR,Rep])}
def qhu(gd:Gd U K ε k X L)(A:All U K ε k X L m)(a b:Expr)(op:CmpOp)(pos:Pos){x:T}(h:cT (m+1) L (.Compare a [op] [b] pos)=some x):PT X (.Compare a [op] [b] pos) (tT U K ε Gv Hv (iT L.k x)):=by let(hm,h):=qk h;let(a',b',h1,h2,rfl):=qj h;refine PT.imp (qgu (qaN (Gv:=Gv) (Hv:=Hv) gd op) (A.r Gv Hv _ _ h1) (A.r Gv Hv _ _ h2) (-hm:)) λZ H Q hq1=>?_;let(N,G,er,h):=hq1;refine{N,G,er,Wx.mono (Wx.th (x:=iR L.k a' N) h) λx h v G1 H1 p1 r1=>{x.2,G1,p1.er,Wx.mono (Wx.th (x:=iR L.k b' x.2) h) λy h w G2 H2 p2 r2=>?_}};let(c,e,h):=Wx.of (Wx.th h);exact{y.2,Z,G2,H,H1,x.1,y.1,c,p2.er,r1.keep p2,r2,e,c,rfl,h G2 H2 (p1.trans p2)}
theorem qc0(gd:Gd U K ε k X L)(A:All U K ε k X L m)(a b c:Expr)(op op':CmpOp)(pos:Pos){x:T}(h:cT (m+1) L (.Compare a [op,op'] [b,c] pos)=some x):PT X (.Compare a [op,op'] [b,c] pos) (tT U K ε Gv Hv (iT L.k x)):=by
 let(hm,h):=qk h;let(a',q,h1,h2,rfl):=qj h;let(b',c',h3,h4,rfl):=qj h2;refine PT.imp (qea (qaN (Gv:=Gv) (Hv:=Hv) gd op) (qaN (Gv:=Gv) (Hv:=Hv) gd op') (A.r Gv Hv _ _ h1) (A.r Gv Hv _ _ h3) (A.r Gv Hv _ _ h4) (-hm:)) λZ H Q hq1=>?_;let(N,G,er,h):=hq1;refine{N,G,er,Wx.mono (Wx.th (x:=iR L.k a' N) h) λx h v G1 H1 p1 r1=>{x.2,G1,p1.er,Wx.mono (Wx.th (x:=iR L.k b' x.2) h) λy h w G2 H2 p2 r2=>?_}};let(c1,e,h):=Wx.of (Wx.th h);refine{y.2,Z,G2,H,H1,x.1,y.1,c1,p2.er,r1.keep p2,r2,e,c1,rfl,?_}
 cases c1 with
 |true=>rw[if_pos rfl]at h ⊢;refine{y.2,G2,p2.er,Wx.mono (Wx.th (x:=iR L.k c' y.2) h) λz h w' G3 H3 p3 r3=>?_};let(c2,e2,h):=Wx.of (Wx.th h);exact{z.2,Z,G3,H1,H2,y.1,z.1,c2,p3.er,r2.keep p3,r3,e2,c2,rfl,h G3 H3 (p1.trans (p2.trans p3))}
 |false=>rw[if_neg (5:)]at h ⊢;exact{false,rfl,h G2 H2 (p1.trans p2)}
theorem qjM(A:All U K ε k X L m)(a b:Expr)(l:List Expr)(pos:Pos)(h:cE (m+1) L (.BoolOp .And (a::b::l) pos)=some x):PE X (.BoolOp .And (a::b::l) pos) (tR U K ε Gv Hv (iR L.k x)):=by
 let(a',b',h1,h2,rfl):=qj h;refine PE.imp (qiy (A.r Gv Hv _ _ h1) (A.r Gv Hv _ _ h2)) λZ H Q hq1=>?_;let(N,G,er,h):=hq1;refine{N,G,er,Wx.mono (Wx.th (x:=iR L.k a' N) h) λx h v G1 H1 p1 r1=>?_};let(rv,N1):=x
 cases rv with
 |val d=>
  cases d with
  |bl c=>
   refine{c,by simpa only[RvR,Rep] using r1,?_}
   cases c with
   |true=>rw[if_pos rfl];exact{N1,G1,p1.er,Wx.mono h λy h w G2 H2 p2 r2=>h w G2 H2 (p1.trans p2) (r2.back p1.hs)}
   |false=>rw[if_neg (λz=>by cases z)];exact h _ G1 H1 p1 (by simp![RvR,Rep])
  |_=>exact False.elim h
 |_=>exact False.elim h
theorem qjN(A:All U K ε k X L m)(c a b:Expr)(pos:Pos)(h:cE (m+1) L (.IfExp c a b pos)=some x):PE X (.IfExp c a b pos) (tR U K ε Gv Hv (iR L.k x)):=by
 let(c',q,h1,h2,rfl):=qj h;let(a',b',h3,h4,rfl):=qj h2;refine PE.imp (qd5 (A.t Gv Hv _ _ h1) (A.r Gv Hv _ _ h3) (A.r Gv Hv _ _ h4)) λZ H Q hq1=>?_;let(N,G,er,h):=hq1;refine{N,G,er,Wx.mono (Wx.th (x:=iT L.k c' N) h) λx h G1 H1 p1=>?_};let(d,N1):=x
 cases d with
 |true=>rw[if_pos rfl];exact{N1,G1,p1.er,Wx.mono h λy h w G2 H2 p2 r2=>h w G2 H2 (p1.trans p2) (r2.back p1.hs)}
 |false=>rw[if_neg (λz=>by cases z)];exact{N1,G1,p1.er,Wx.mono h λy h w G2 H2 p2 r2=>h w G2 H2 (p1.trans p2) (r2.back p1.hs)}
def qbJ{b:Expr}(h:∀lo hi st p,b≠.Slice lo hi st p):qck b:=λo i=>by cases b<;>first|rfl|exact absurd rfl (h _ _ _ _)
theorem qc1{G:Hp}{l:List D}{xs:List V}(r:ql U G l xs)(lo hi:Option Int)(n:Int):ql U G (J5 l lo hi n) (YK xs lo hi (some n)):=by
 unfold J5 YK;rw[r.len];generalize sliceRange _ _ _=is
 induction is with
 |nil=>exact .nil
 |cons i is ih=>
  cases h:l[i]? with
  |none=>
   have h2:xs[i]?=none:=by rw[List.getElem?_eq_none_iff]at h ⊢;rw[<-r.len];exact h
   rw[List.filterMap_cons,List.filterMap_cons,h,h2];exact ih
  |some d=>let(v,h2,r2):=r.atD h;rw[List.filterMap_cons,List.filterMap_cons,h,h2];exact .cons r2 ih
def qjO{st:Expr}{n:Int}(h:stN st=some n):2<=n/\∃j p,st=.Constant (.int n) j p:=by
 unfold stN at h
 split at h
 ·split at h
  ·rename_i hn;cases h;exact{hn,_,_,rfl}
  ·cases h
 ·cases h
def qjP(gd:Gd U K ε k X L)(A:All U K ε k X L m){a:Expr}{lo hi:Option Expr}{st:Expr}(p pos:Pos)(h:((stN st).bind λn=>o2 (cE m L a) (o2 (cO m L lo) (cO m L hi) Prod.mk) λa p=>.stp n a p.1 p.2)=some x):PE X (.Subscript a (.Slice lo hi (some st) p) pos) (tR U K ε Gv Hv (iR L.k x)):=by let(n,hn,h6):=qcV h;clear h;let(h2,j,sp,rfl):=qjO hn;let(a',q,h1,h3,rfl):=qj h6;let(l',u',h4,h5,rfl):=qj h3;refine PE.imp (qcH (A.r Gv Hv _ _ h1) (A.o Gv Hv _ _ h4) (A.o Gv Hv _ _ h5) Qv) λZ H Q hq1=>?_;let(N,G,er,h):=hq1;refine{N,G,er,Wx.mono (Wx.th (x:=iR L.k a' N) h) λx h v G1 H1 p1 r1=>{x.2,G1,p1.er,Wx.mono (Wx.th (x:=iO L.k l' x.2) h) λy h G2 H2 p2=>{y.2,G2,p2.er,Wx.mono (Wx.th (x:=iO L.k u' y.2) h) λz h G3 H3 p3=>?_}}};let(l,e1,h):=Wx.of (Wx.th h);let(b,xs,rfl,q1,q2):=((r1.keep p2).keep p3).list p3.er e1;refine{b,xs,n,YK xs y.1 z.1 (some n),rfl,by rw[gd.hK];exact q1,rfl,by lia,qer _ _ _ _,JE,λc hc=>?_};let(w1,w2):=p3.er.newList hc (qc1 q2 y.1 z.1 n);exact h _ _ _ (p1.trans (p2.trans (p3.trans w1))) (w2.back (p1.trans (p2.trans p3)).hs)
theorem qjQ(gd:Gd U K ε k X L)(A:All U K ε k X L m)(a b:Expr)(pos:Pos)(h:cE (m+1) L (.Subscript a b pos)=some x):PE X (.Subscript a b pos) (tR U K ε Gv Hv (iR L.k x)):=by
 have gen:(∀lo hi st p,b≠.Slice lo hi st p)->o2 (cE m L a) (cE m L b) .idx=some x->PE X (.Subscript a b pos) (tR U K ε Gv Hv (iR L.k x)):=λhb h=>by let(a',b',h1,h2,rfl):=qj h;refine PE.imp (qlZ (qjB (Ξ:=XP U Gv Hv ε) (Gv:=Gv) (Hv:=Hv) gd) (A.r Gv Hv _ _ h1) (A.r Gv Hv _ _ h2) (qbJ hb)) λZ H Q hq1=>?_;let(N,G,er,h):=hq1;refine{N,G,er,Wx.mono (Wx.th (x:=iR L.k a' N) h) λx h v G1 H1 p1 r1=>{x.2,G1,p1.er,Wx.mono (Wx.th (x:=iR L.k b' x.2) h) λy h w G2 H2 p2 r2=>?_}};exact{y.2,Z,G2,H,H1,x.1,y.1,p2.er,r1.keep p2,r2,Wx.mono (Wx.th h) λz h u G3 H3 p3 r3=>h u G3 H3 (p1.trans (p2.trans p3)) (r3.back (p1.trans p2).hs)}
 cases b with
 |Slice lo hi st p=>
  cases st with
  |some st=>exact qjP gd A p pos h
  |none=>let(a',q,h1,h2,rfl):=qj h;let(l',u',h3,h4,rfl):=qj h2;refine PE.imp (qej (qjC (Ξ:=XP U Gv Hv ε) (Gv:=Gv) (Hv:=Hv) gd) (A.r Gv Hv _ _ h1) (A.o Gv Hv _ _ h3) (A.o Gv Hv _ _ h4)) λZ H Q hq1=>?_;let(N,G,er,h):=hq1;refine{N,G,er,Wx.mono (Wx.th (x:=iR L.k a' N) h) λx h v G1 H1 p1 r1=>{x.2,G1,p1.er,Wx.mono (Wx.th (x:=iO L.k l' x.2) h) λy h G2 H2 p2=>{y.2,G2,p2.er,Wx.mono (Wx.th (x:=iO L.k u' y.2) h) λz h G3 H3 p3=>?_}}};exact{z.2,Z,G3,H,x.1,p3.er,(r1.keep p2).keep p3,Wx.mono (Wx.th h) λu h w G4 H4 p4 r4=>h w G4 H4 (p1.trans (p2.trans (p3.trans p4))) (r4.back (p1.trans (p2.trans p3)).hs)}
 |_=>exact gen (λ_ _ _ _ z=>by cases z) h
def qjR(A:All U K ε k X L m)(es:List Expr)(pos:Pos)(h:cE (m+1) L (.List es pos)=some x):PE X (.List es pos) (tR U K ε Gv Hv (iR L.k x)):=by let(l,h1,rfl):=map_some h;refine PE.imp (qiS (A.es Gv Hv _ _ h1)) λZ H Q hq1=>?_;let(N,G,er,h):=hq1;refine{N,G,er,Wx.mono (Wx.th (x:=iEs L.k l N) h) λx h vs G1 H1 p1 r1=>?_};let(hz,h):=Wx.iff h;refine{by rw[<-r1.len];exact hz,λp hp=>?_};let(z1,z2):=p1.er.newList hp r1;exact h _ _ _ (p1.trans z1) (z2.back p1.hs)
def qjS(A:All U K ε k X L m)(es:List Expr)(j:Nat)(pos:Pos)(h:cE (m+1) L (.Tuple es j pos)=some x):PE X (.Tuple es j pos) (tR U K ε Gv Hv (iR L.k x)):=by let(l,h1,rfl):=map_some h;refine PE.imp (qiR (A.es Gv Hv _ _ h1)) λZ H Q hq1=>?_;let(N,G,er,h):=hq1;refine{N,G,er,Wx.mono (Wx.th (x:=iEs L.k l N) h) λx h vs G1 H1 p1 r1=>?_};let(hz,h):=Wx.iff h;refine{by rw[<-r1.len];exact hz,λp hp=>?_};have z1:=Po.lay (o:=.tup vs) p1.er hp;refine h _ _ _ (p1.trans z1) ?_;simp![RvR,Rep];exact{p,vs,rfl,qg,r1.same z1.gs}
theorem qn2(gd:Gd U K ε k X L)(A:All U K ε k X L m)(e:Expr)(x:E)(h:cX (m+1) L e=some x):PE X e (tE U K ε Gv Hv (jG x (iR L.k x))):=by
 have gen:(cE m L e).bind Q4=some x->PE X e (tE U K ε Gv Hv (jG x (iR L.k x))):=λh=>by
  let(y,h1,h2):=Option.bind_eq_some_iff.mp h;let(rfl,hv):=zF h2;refine PE.imp (A.r Gv Hv _ _ h1) λZ H Q hq1=>?_;let(N,G,er,h):=hq1;rw[qhl hv]at h;refine{N,G,er,Wx.mono (Wx.th h) λx h v G1 H1 p1 r1=>?_};let(rv,N1):=x
  cases rv with
  |val d=>exact h v G1 H1 p1 r1
  |tmp l=>let(a,xs,rfl,h1,h2,h3,h4,h5,h6):=r1;have p2:=p1.freeze h1 h2 h3 h4 h5;refine h _ _ H1 p2 ?_;simp![Rep];exact{a,xs,rfl,qg,h6.same (qp.upd h4)}
  |_=>exact False.elim h
 cases e with
 |Name x pos=>exact qaL gd h pos
 |_=>exact gen h
theorem qml(A:All U K ε k X L m):∀es x,cEs (m+1) L es=some x->PA X es (tEs U K ε Gv Hv (iEs L.k x))
 |[],_,h=>by cases h;exact PA.imp qv λZ H Q ⟨N,G,er,h⟩=>h [] G H (Po.refl er) .nil
 | e::l,_,h=>by let(hs,h):=qk h;let(a',l',h1,h2,rfl):=qj h;refine PA.imp (qi (A.e Gv Hv _ _ h1) (A.es Gv Hv _ _ h2) (qf (-hs:))) λZ H Q hq1=>?_;let(N,G,er,h):=hq1;refine{N,G,er,Wx.mono (Wx.th (x:=jG a' (iR L.k a') N) h) λx h v G1 H1 p1 r1=>{x.2,G1,p1.er,Wx.mono (Wx.th (x:=iEs L.k l' x.2) h) λy h vs G2 H2 p2 r2=>?_}};exact h _ G2 H2 (p1.trans p2) (.cons (r1.same p2.gs) r2)
theorem qmm(A:All U K ε k X L m):∀es x,cAs (m+1) L es=some x->PA X es (tAs U K ε Gv Hv (iAs L.k x))
 |[],_,h=>by cases h;exact PA.imp qv λZ H Q ⟨N,G,er,h⟩=>h [] G H (Po.refl er) rfl
 | e::l,_,h=>by
  let(hs,h):=qk h;let(a',l',h1,h2,rfl):=qj h;refine PA.imp (qi (A.r Gv Hv _ _ h1) (A.as Gv Hv _ _ h2) (qf (-hs:))) λZ H Q hq1=>?_;let(N,G,er,h):=hq1;refine{N,G,er,Wx.mono (Wx.th (x:=iR L.k a' N) h) λx h v G1 H1 p1 r1=>?_};have h:=Wx.th (x:=iAs L.k l' x.2) h;let(rv,N1):=x
  cases rv with
  |val d=>exact{N1,G1,p1.er,Wx.mono h λy h vs G2 H2 p2 r2=>h _ G2 H2 (p1.trans p2) {v,vs,rfl,Rep.same p2.gs r1,r2}}
  |tmp ds=>let(a,xs,rfl,h1,h2,h3,h4,h5,h6):=r1;have p1':=p1.freeze h1 h2 h3 h4 h5;refine{N1,_,p1'.er,Wx.mono h λy h vs G2 H2 p2 r2=>h _ G2 H2 (p1'.trans p2) {_,vs,rfl,?_,r2}};show Rep U G2 (.lst ds) (.ref a);simp![Rep];exact{a,xs,rfl,p2.gs _ _ qg,(h6.same (qp.upd h4)).same p2.gs}
  |cell ds=>let(a,xs,rfl,h1,h6):=r1;exact{N1,G1,p1.er,Wx.mono h λy h vs G2 H2 p2 r2=>h _ G2 H2 (p1.trans p2) {_,vs,rfl,{a,xs,rfl,p2.hs _ _ h1,h6.same p2.gs},r2}}
  |scr ds=>let(a,xs,rfl,h1,h6):=r1;exact{N1,G1,p1.er,Wx.mono h λy h vs G2 H2 p2 r2=>h _ G2 H2 (p1.trans p2) {_,vs,rfl,{a,xs,rfl,p2.hs.seq h1,h6.same p2.gs},r2}}
theorem qn3(A:All U K ε k X L m):∀o x,cO (m+1) L o=some x->PO X o (tO U K ε Gv Hv (iO L.k x))
 |none,_,h=>by cases h;exact PO.imp qgC λZ H Q ⟨N,G,er,h⟩=>h G H (Po.refl er)
 |some e,_,h=>by
  let(a',h1,rfl):=map_some h;refine PO.imp (qgD (A.r Gv Hv _ _ h1)) λZ H Q hq1=>?_;let(N,G,er,h):=hq1;refine{N,G,er,Wx.mono (Wx.th (x:=iR L.k a' N) h) λx h v G1 H1 p1 r1=>?_};let(rv,N1):=x
  cases rv with
  |val d=>
   cases d with
   |int i=>exact{i,by simpa only[RvR,Rep] using r1,h G1 H1 p1}
   |_=>exact False.elim h
  |_=>exact False.elim h
theorem qn4(A:All U K ε k X L m):∀es x,cF (m+1) L es=some x->PIf X es (tT U K ε Gv Hv (iF L.k x))
 |[],_,h=>by cases h;exact PIf.imp qgU λZ H Q ⟨N,G,er,h⟩=>h G H (Po.refl er)
 |[c],_,h=>by let(a',h1,rfl):=map_some h;exact qgV (A.t Gv Hv _ _ h1)
 | _::_::_,_,h=>by cases h
def qfV:Expr->Bool
 |.UnaryOp .Not _ _=>false
 |.BoolOp ..=>false
 |.IfExp ..=>false
 |.Compare ..=>false
 |_=>true
theorem qc2{e:Expr}(h:qfV e=true)(env:PySem.Env):∀whole,isTrue e env whole=(do let v<-whole;standAt e.pos;holding [v] (truthy v)):=by
 intro whole
 cases e with
 |UnaryOp op a pos=>cases op<;>first|rfl|cases h
 |BoolOp=>cases h
 |IfExp=>cases h
 |Compare=>cases h
 |_=>rfl
theorem qn5(gd:Gd U K ε k X L)(A:All U K ε k X L m)(e:Expr)(x:T)(h:cT (m+1) L e=some x):PT X e (tT U K ε Gv Hv (iT L.k x)):=by
 have gen:qfV e=true->(cE m L e).map .val=some x->PT X e (tT U K ε Gv Hv (iT L.k x)):=λhp h=>by let(a',h1,rfl):=map_some h;refine PT.imp (qeb (A.r Gv Hv _ _ h1) (qc2 hp X.env)) λZ H Q hq1=>?_;let(N,G,er,h):=hq1;refine{N,G,er,Wx.mono (Wx.th (x:=iR L.k a' N) h) λx h v G1 H1 p1 r1=>?_};let(b,e1,h):=Wx.of (Wx.th h);exact{b,qeT gd p1.er r1 e1,h G1 H1 p1}
 cases e with
 |UnaryOp op a pos=>
  cases op with
  |Not=>let(a',h1,rfl):=map_some h;refine PT.imp (Qw (A.t Gv Hv _ _ h1)) λZ H Q hq1=>?_;let(N,G,er,h):=hq1;exact{N,G,er,Wx.mono (Wx.th (x:=iT L.k a' N) h) λx h G1 H1 p1=>h G1 H1 p1}
  |_=>exact gen rfl h
 |BoolOp op vs pos=>
  cases vs with
  |nil=>cases op<;>cases h
  |cons a vs=>
   cases vs with
   |nil=>
    cases op with
    |And=>let(a',h1,rfl):=map_some h;exact PT.imp (PW.pt (qgm (A.t Gv Hv _ _ h1))) λZ H Q h=>h
    |Or=>let(a',h1,rfl):=map_some h;exact PT.imp (PW.pt (qiw (A.t Gv Hv _ _ h1))) λZ H Q h=>h
   |cons b l=>
    cases op with
    |And=>
     let(a',b',h1,h2,rfl):=qj h;intro pins s Z H Q I hw;let(N,G,er,h):=hw;refine isTrue_and (thn (A.t Gv Hv _ _ h1 pins s Z H (λc H1=>if c=true then tT U K ε Gv Hv (iT L.k b') Z H1 Q else Q false H1) I ?_) λc s1 ⟨H1,I1,q1⟩=>?_)
     ·refine{N,G,er,Wx.mono (Wx.th (x:=iT L.k a' N) h) λx h G1 H1 p1=>?_};let(d,N1):=x
      cases d with
      |true=>rw[if_pos rfl];exact{N1,G1,p1.er,Wx.mono h λy h G2 H2 p2=>h G2 H2 (p1.trans p2)}
      |false=>rw[if_neg (λz=>by cases z)];exact h G1 H1 p1
     ·cases c with
      |true=>exact A.t Gv Hv _ _ h2 pins s1 Z H1 Q I1 q1
      |false=>exact⟨H1,I1,q1⟩
    |Or=>
     let(a',b',h1,h2,rfl):=qj h;intro pins s Z H Q I hw;let(N,G,er,h):=hw;refine isTrue_or (thn (A.t Gv Hv _ _ h1 pins s Z H (λc H1=>if c=true then Q true H1 else tT U K ε Gv Hv (iT L.k b') Z H1 Q) I ?_) λc s1 ⟨H1,I1,q1⟩=>?_)
     ·refine{N,G,er,Wx.mono (Wx.th (x:=iT L.k a' N) h) λx h G1 H1 p1=>?_};let(d,N1):=x
      cases d with
      |false=>rw[if_neg (λz=>by cases z)];exact{N1,G1,p1.er,Wx.mono h λy h G2 H2 p2=>h G2 H2 (p1.trans p2)}
      |true=>rw[if_pos rfl];exact h G1 H1 p1
     ·cases c with
      |true=>exact⟨H1,I1,q1⟩
      |false=>exact A.t Gv Hv _ _ h2 pins s1 Z H1 Q I1 q1
 |IfExp c a b pos=>cases h
 |Compare a ops bs pos=>
  match ops,bs,h with
  |[op],[b],h=>exact qhu gd A a b op pos h
  | [op,op'],[b,c],h=>exact qc0 gd A a b c op op' pos h
  |[],[],h=>cases h
  | [],_::_,h=>cases h
  |[_],[],h=>cases h
  | [_],_::_::_,h=>cases h
  |[_,_],[],h=>cases h
  |[_,_],[_],h=>cases h
  | [_,_],_::_::_::_,h=>cases h
  | _::_::_::_,_,h=>cases h
 |_=>exact gen rfl h
end
section
variable{U:KC}{ε:XK}{K:Frag}{Gv Hv:Hp}{k m:Nat}{X:Cx}{L:Ct}
def qjT{tg l:Expr}{tl:TE}(hl:PE X l tl):PI X tg l (λZ H R=>tl Z H λx H1=>(∃a,x=.ref a/\(((∃xs,SqL X.K H1 a xs)/\R (Itl X.K a) H1)\/((∃xs,SqT X.K H1 a xs)/\R (Itt X.K a) H1)))\/∃z,x=.str z/\R (Its z) H1):=by
 intro pins s Z H R I h;refine thn (hl pins s Z H _ I h) λv s1 hq1=>?_;let(x,H1,I1,r1,q1):=hq1;rcases q1 with ⟨a,e,q⟩|⟨x,rfl,q⟩
 ·subst e;cases r1;rcases q with ⟨⟨xs,hq⟩,q⟩|⟨⟨xs,hq⟩,q⟩
  ·let(its,rv,p,hz):=I1.list hq;refine wpAny_pyIter_list p.isList ?_;refine{s1.heap.objs.size,[s1.heap.objs.size],_,_,H1,rfl,I1.kept (t':=s1.toks) λb o e=>Heap.get?_push_of_some _ e,qb8 a _,{_,Heap.get?_push_size _ rfl,rfl,rfl},λb hb=>?_,q};have e:b=s1.heap.objs.size:=(-hb:)
   subst e;exact I1.fpOk (Nat.le_refl _) (I1.hok.fresh (Nat.le_refl _))
  ·let(its,rv,p,hz):=I1.tuple hq;refine wpAny_pyIter_tuple (show s1.heap.IsTuple a its.toArray from p) ?_;refine{s1.heap.objs.size,[s1.heap.objs.size],_,_,H1,rfl,I1.kept (t':=s1.toks) λb o e=>Heap.get?_push_of_some _ e,qbm a _,{_,Heap.get?_push_size _ rfl,rfl,rfl},λb hb=>?_,q};have e:b=s1.heap.objs.size:=(-hb:)
   subst e;exact I1.fpOk (Nat.le_refl _) (I1.hok.fresh (Nat.le_refl _))
 ·let(t,rfl):=r1
  have fin:∀(T:String) (o:Obj),(T = "str_ascii_iterator"\/T = "str_iterator")->(∀A':Around,A'.handled=none->Walks X.prog X.w A' s1.heap.objs.size [s1.heap.objs.size] [s1.heap.objs.size] x.cps.size (SignAt x) (λi h=>h.IsStrIter s1.heap.objs.size T x t i))->
    (s1.heap.push o).IsStrIter s1.heap.objs.size T x t 0->PIE X pins Z tg R (.ref s1.heap.objs.size) { s1 with heap:=s1.heap.push o }:=λT o hT W st=>by
   refine{s1.heap.objs.size,[s1.heap.objs.size],_,_,H1,rfl,I1.kept (t':=s1.toks) λb o e=>Heap.get?_push_of_some _ e,qev hT W,st,λb hb=>?_,q};have e:b=s1.heap.objs.size:=(-hb:)
   subst e;exact I1.fpOk (Nat.le_refl _) (I1.hok.fresh (Nat.le_refl _))
  cases ha:x.cps.all (· < 128)
  ·exact wpAny_pyIter_wide ha (fin _ _ (.inr rfl) (λA' hA=>Walks.strWide hA _ x t) ⟨_,Heap.get?_push_size _ rfl,rfl,rfl⟩)
  ·exact wpAny_pyIter_ascii ha (fin _ _ (.inl rfl) (λA' hA=>Walks.strAscii hA _ x t) ⟨_,Heap.get?_push_size _ rfl,rfl,rfl⟩)
theorem qeW(gd:Gd U K ε k X L){x:Str}{i:Nat}(hi:qd0 L x=some i)(pos:Pos):PE X (.Name x pos) (tL U K ε Gv Hv (yc (.var i) (iR L.k (.var i)))):=by
 refine PE.imp (qaK gd hi pos) λZ H Q hq1=>?_;let(N,G,er,h):=hq1;have h:Wx _ (slL N i) _:=h;unfold slL at h
 cases q:N[i]? with
 |none=>rw[q]at h;exact False.elim h
 |some s=>
  rw[q]at h;have w:=er.sl i s q
  cases s with
  |no=>exact False.elim h
  |val d=>
   let(v,z,r):=w
   cases d with
   |lst l=>simp![Rep]at r;let(a,xs,rfl,r1,r2):=r;exact{_,z,h _ G H (Po.refl er) {a,xs,rfl,r2,.inl r1}}
   |str y=>simp![Rep]at r;subst r;exact{_,z,h _ G H (Po.refl er) ⟨y,rfl,rfl⟩}
   |tup l=>simp![Rep]at r;let(a,xs,rfl,r1,r2):=r;exact{_,z,h _ G H (Po.refl er) ⟨a,xs,rfl,r2,r1⟩}
   |_=>exact False.elim h
  |own l=>let(a,xs,z,p,r):=er.froze q;simp![Rep]at r;let(a',xs',e,r1,r2):=r;cases e;exact{_,z,h _ _ H p {a,xs',rfl,r2,.inl r1}}
  |bor l=>let(a,xs,z,r1,r4):=w;exact{_,z,h _ G H (Po.refl er) {a,xs,rfl,r4,.inr (SqL.of r1)}}
  |scr l=>let(a,xs,z,r1,r4):=w;exact{_,z,h _ G H (Po.refl er) {a,xs,rfl,r4,.inr r1}}
theorem qn6(gd:Gd U K ε k X L)(A:All U K ε k X L m)(e:Expr)(x:E)(h:cL (m+1) L e=some x):PE X e (tL U K ε Gv Hv (yc x (iR L.k x))):=by
 have gen:(cE m L e).bind Q4=some x->PE X e (tL U K ε Gv Hv (yc x (iR L.k x))):=λh=>by
  let(y,h1,h2):=Option.bind_eq_some_iff.mp h;let(rfl,hv):=zF h2;refine PE.imp (A.r Gv Hv _ _ h1) λZ H Q hq1=>?_;let(N,G,er,h):=hq1;rw[qhm hv]at h;refine{N,G,er,Wx.mono (Wx.th h) λx h v G1 H1 p1 r1=>?_};let(rv,N1):=x
  cases rv with
  |val d=>
   cases d with
   |lst l=>simp![RvR,Rep]at r1;let(a,xs,rfl,q1,q2):=r1;exact h _ G1 H1 p1 ⟨a,xs,rfl,q2,.inl q1⟩
   |str y=>simp![RvR,Rep]at r1;subst r1;exact h _ G1 H1 p1 ⟨y,rfl,rfl⟩
   |tup l=>simp![RvR,Rep]at r1;let(a,xs,rfl,q1,q2):=r1;exact h _ G1 H1 p1 ⟨a,xs,rfl,q2,q1⟩
   |_=>exact False.elim h
  |tmp l=>let(a,xs,rfl,h1,h2,h3,h4,h5,h6):=r1;exact h _ _ H1 (p1.freeze h1 h2 h3 h4 h5) ⟨a,xs,rfl,h6.same (qp.upd h4),.inl qg⟩
  |_=>exact False.elim h
 cases e with
 |Name x pos=>let(i,h1,rfl):=map_some h;exact qeW gd h1 pos
 |_=>exact gen h
def qjU{G:Hp}{a:Addr}{xs:List V}{l:List D}(h:G a=some (.lst xs)\/SqL K Hv a xs)(r:ql U G l xs):ItR U Hv G (Itl K a) l:=by
 intro i G1 H1 s1 s2 s3;have hq:SqL K H1 a xs:=h.elim (λz=>SqL.of (s3 _ _ (s1 _ _ z))) λz=>s2.seq z;refine{λd e=>?_,λe=>{xs,hq,by rw[<-r.len];omega}};let(v,e1,e2):=r.atD e;refine{⟨xs,v,hq,e1⟩,λx H' ⟨z1,z2⟩=>{G1,by rw[z1];exactλ_ _ q=>q,λ_ _ q=>q,by rw[z1];exact s3,λ_ o q=>.inl ⟨o,q⟩,?_}}
 have:=z2 xs hq
 rw[e1]at this;cases this;exact e2.same s1
def qjV{G:Hp}{a:Addr}{xs:List V}{l:List D}(h:G a=some (.lst xs)\/SqL K Hv a xs)(r:ql U G l xs):ItR U Hv G (Itv K a xs) l.reverse:=by
 intro i G1 H1 s1 s2 s3;have hq:SqL K H1 a xs:=h.elim (λz=>SqL.of (s3 _ _ (s1 _ _ z))) λz=>s2.seq z;have hl:=r.len;refine{λd e=>?_,λe=>{hq,by simp at e;omega}};have hi:i < l.length:=by simpa using (List.getElem?_eq_some_iff.mp e).1
 rw[List.getElem?_reverse hi]at e;let(v,e1,e2):=r.atD e;refine{{hq,by omega},λx H' ⟨z1,z2⟩=>{G1,by rw[z1];exactλ_ _ q=>q,λ_ _ q=>q,by rw[z1];exact s3,λ_ o q=>.inl ⟨o,q⟩,?_}};rw[<-hl,e1]at z2;cases z2;exact e2.same s1
def qjW{G:Hp}{a:Addr}{xs:List V}{l:List D}(h:G a=some (.tup xs))(r:ql U G l xs):ItR U Hv G (Itt K a) l:=by
 intro i G1 H1 s1 s2 s3;have hq:SqT K H1 a xs:=SqT.of (s3 _ _ (s1 _ _ h));refine{λd e=>?_,λe=>{xs,hq,by rw[<-r.len];omega}};let(v,e1,e2):=r.atD e;refine{⟨xs,v,hq,e1⟩,λx H' ⟨z1,z2⟩=>{G1,by rw[z1];exactλ_ _ q=>q,λ_ _ q=>q,by rw[z1];exact s3,λ_ o q=>.inl ⟨o,q⟩,?_}}
 have:=z2 xs hq
 rw[e1]at this;cases this;exact e2.same s1
def qjX{G:Hp}{x:Str}:ItR U Hv G (Its x) (qeJ x):=by
 intro i G1 H1 s1 s2 s3;have hl:(qeJ x).length=x.cps.size:=by simp[qeJ]
 refine{λd e=>?_,λe=>by rw[<-e,hl];rfl};unfold qeJ at e;rw[List.getElem?_map]at e;let(c,e1,rfl):=Option.map_eq_some_iff.mp e;rw[Array.getElem?_toList]at e1;refine{(Array.getElem?_eq_some_iff.mp e1).1,λv H' ⟨z1,c',z2,z3⟩=>{G1,by rw[z1];exactλ_ _ q=>q,λ_ _ q=>q,by rw[z1];exact s3,λ_ o q=>.inl ⟨o,q⟩,?_}};rw[e1]at z2;cases z2;rw[z3];simp![Rep]
def qfW{G:Hp}{lo hi:Int}:ItR U Hv G (Itr lo (hi - lo).toNat) (zk lo hi):=by
 intro i G1 H1 s1 s2 s3;refine{λd e=>?_,λe=>?_}
 ·unfold zk at e;rw[List.getElem?_map]at e;let(j,e1,rfl):=Option.map_eq_some_iff.mp e;let(h1,h2):=List.getElem?_eq_some_iff.mp e1;have hi':i < (hi - lo).toNat:=(-h1:)
  have hj:j=i:=by rw[<-h2];simp
  subst hj;refine{hi',λx H' ⟨z1,z2⟩=>{G1,by rw[z1];exactλ_ _ q=>q,λ_ _ q=>q,by rw[z1];exact s3,λ_ o q=>.inl ⟨o,q⟩,?_}};rw[z2];simp![Rep]
 ·have hl:(zk lo hi).length=(hi - lo).toNat:=by simp![zk,List.length_map,List.length_range]
  show(hi - lo).toNat<=i;omega
def qc3{G H:Hp}{T:Addr}{x y:V}{d e:D}(sub:qp G H)(hT:H T=none)(hx:Rep U G d x)(hy:Rep U G e y) :
  ∃G',qp H (upd H T (.tup [x,y]))/\qp G G'/\qp G' (upd H T (.tup [x,y]))/\(∀a o,G' a=some o->(∃o',G a=some o')\/H a=none)/\Rep U G' (.tup [d,e]) (.ref T):=by
 have gT:G T=none:=qp.none sub hT;have gs:qp G (upd G T (.tup [x,y])):=qp.upd gT;refine{upd G T (.tup [x,y]),qp.upd hT,gs,λb u q=>?_,λb u q=>?_,?_}
 ·by_cases hb:b=T
  ·subst hb;rw[qg]at q ⊢;exact q
  ·rw[qe hb]at q ⊢;exact sub b u q
 ·by_cases hb:b=T
  ·subst hb;exact .inr hT
  ·rw[qe hb]at q;exact .inl ⟨u,q⟩
 ·simp![Rep];exact{T,_,rfl,qg,.cons (hx.same gs) %[hy.same gs|0]}
def qjY{G:Hp}{a:Addr}{xs:List V}{l:List D}(h:G a=some (.lst xs)\/SqL K Hv a xs)(r:ql U G l xs):ItR U Hv G (Ite K a) (JG l):=by
 intro i G1 H1 s1 s2 s3;have hq:SqL K H1 a xs:=h.elim (λz=>SqL.of (s3 _ _ (s1 _ _ z))) λz=>s2.seq z;have hlen:(JG l).length=l.length:=by simp[JG]
 refine{λd e=>?_,λe=>{xs,hq,by rw[<-r.len];omega}};have hi:i < l.length:=by rw[<-hlen];exact(List.getElem?_eq_some_iff.mp e).1
 have e0:(JG l)[i]?=some (.tup [.int i,l[i]]):=by unfold JG;rw[List.getElem?_zipWith];simp[hi]
 rw[e0]at e;cases e;let(v,e1,e2):=r.atD (List.getElem?_eq_getElem hi);refine{⟨xs,v,hq,e1⟩,λx H' z=>?_};let(T,x',rfl,hT,rfl,z2):=z
 have:=z2 xs hq
 rw[e1]at this;cases this;exact qc3 s3 hT (by simp![Rep]) (e2.same s1)
def qjZ{G:Hp}{a b:Addr}{xs ys:List V}{l n:List D}(h:G a=some (.lst xs)\/SqL K Hv a xs)(r:ql U G l xs)(h':G b=some (.lst ys)\/SqL K Hv b ys)(r':ql U G n ys):ItR U Hv G (Itz K a b) (qbE l n):=by
 intro i G1 H1 s1 s2 s3;have hq:SqL K H1 a xs:=h.elim (λz=>SqL.of (s3 _ _ (s1 _ _ z))) λz=>s2.seq z;have hq':SqL K H1 b ys:=h'.elim (λz=>SqL.of (s3 _ _ (s1 _ _ z))) λz=>s2.seq z;have hlen:(qbE l n).length=min l.length n.length:=by simp[qbE]
 have l1:=r.len;have l2:=r'.len;refine{λd e=>?_,λe=>{xs,ys,hq,hq',by omega}};have hi:i < min l.length n.length:=by rw[<-hlen];exact(List.getElem?_eq_some_iff.mp e).1
 have i1:i < l.length:=by omega
 have i2:i < n.length:=by omega
 have e0:(qbE l n)[i]?=some (.tup [l[i],n[i]]):=by unfold qbE;rw[List.getElem?_zipWith];simp[i1,i2]
 rw[e0]at e;cases e;let(v,e1,e2):=r.atD (List.getElem?_eq_getElem i1);let(w,e3,e4):=r'.atD (List.getElem?_eq_getElem i2);refine{⟨xs,ys,v,w,hq,hq',e1,e3⟩,λx H' z=>?_};let(T,x',y',rfl,hT,rfl,z2):=z;let(z3,z4):=z2 xs ys hq hq';rw[e1]at z3;rw[e3]at z4;cases z3;cases z4;exact qc3 s3 hT (e2.same s1) (e4.same s1)
def JH{i:Int}(h:qL i=true):-(2 ^ 62)<=i/\i < 2 ^ 62:=by
 unfold qL at h
 simpa [Bool.and_eq_true] using h
theorem qeX(gd:Gd U K ε k X L)(A:All U K ε k X L m)(tg e:Expr)(x:I)(h:(cL m L e).map .seq=some x):PI X tg e (tI U K ε Gv Hv (iI L.k x)):=by
 let(a',h1,rfl):=map_some h;refine PI.imp (qjT (A.l Gv Hv _ _ h1)) λZ H Q hq1=>?_;let(N,G,er,h):=hq1;refine{N,G,er,Wx.mono (Wx.th (x:=yc a' (iR L.k a') N) h) λx h v G1 H1 p1 r1=>?_};let((b,l),N1):=x
 cases b with
 |str=>let(y,rfl,rfl):=r1;exact .inr ⟨y,rfl,h _ G1 H1 p1 qjX⟩
 |tup=>let(a,xs,rfl,r2,r3):=r1;exact .inl ⟨a,rfl,.inr ⟨⟨xs,SqT.of (p1.er.sub _ _ r3)⟩,h _ G1 H1 p1 (by rw[gd.hK];exact qjW r3 r2)⟩⟩
 |lst=>let(a,xs,rfl,r2,r3):=r1;refine .inl ⟨a,rfl,.inl ⟨⟨xs,?_⟩,h _ G1 H1 p1 (by rw[gd.hK];exact qjU r3 r2)⟩⟩;rw[gd.hK];exact r3.elim (λz=>SqL.of (p1.er.sub _ _ z)) λz=>p1.er.base.seq z
def qaP{a b:Expr}{env:PySem.Env}(h1:qy a=false)(h2:qy b=false):starEach [a,b] env=[(false,eval a env),(false,eval b env)]:=by rw[qf h1,qf h2];rfl
def qc4{G H:Hp}{N:Env}{Z:L2.St}{a:Addr}{xs:List V}(gd:Gd U K ε k X L)(er:ER U K Gv Hv G H N Z)(r:G a=some (.lst xs)\/SqL K Hv a xs):∃xs,SqL X.K H a xs:=by rw[gd.hK];exact{xs,r.elim (λz=>SqL.of (er.sub _ _ z)) λz=>er.base.seq z}
def qhv(gd:Gd U K ε k X L)(A:All U K ε k X L m)(tg a:Expr)(f:Str)(p q:Pos)(x:I)(hg:Gl X f)(h:oif (!qy a) (if f = "range" then (cE m L a).map .rng else if f = "enumerate" then oif (qeL tg) ((cL m L a).map .enum) else if f = "reversed" then (cL m L a).map .rev else none)=some x) :
  PI X tg (.Call (.Name f p) [a] [] q) (tI U K ε Gv Hv (iI L.k x)):=by
 let(hs,h):=qk h;have hs:qy a=false:=(-hs:)
 by_cases h1:f = "range"
 ·subst h1;rw[if_pos rfl]at h;let(a',h1,rfl):=map_some h;refine PI.imp (qb9 hg (gd.blt _ (2:)) (qi (A.r Gv Hv _ _ h1) qv (qf hs)) (qf hs)) λZ H Q hq1=>?_;let(N,G,er,h):=hq1;refine{N,G,er,Wx.mono (Wx.th (x:=iR L.k a' N) h) λx h v G1 H1 p1 r1=>?_}
  cases e1:x.1.int? with
  |none=>rw[e1]at h;exact False.elim h
  |some n=>
   rw[e1]at h;let(hz,h):=Wx.iff h;let(z1,z2):=JH hz;refine{n,by rw[r1.int e1],z1,z2,h _ G1 H1 p1 ?_}
   have:=qfW (U:=U) (Hv:=Hv) (G:=G1) (lo:=0) (hi:=n)
   rw[Int.sub_zero]at this;exact this
 rw[if_neg h1]at h
 by_cases h2:f = "enumerate"
 ·subst h2;rw[if_pos rfl]at h;let(ht,h):=qk h;let(a',h1,rfl):=map_some h
  cases tg with
  |Tuple es j tp=>
   refine PI.imp (qg7 hg (gd.blt _ (2:)) (qi (A.l Gv Hv _ _ h1) qv (qf hs)) (qf hs)) λZ H Q hq1=>?_;let(N,G,er,h):=hq1;refine{N,G,er,Wx.mono (Wx.th (x:=yc a' (iR L.k a') N) h) λx h v G1 H1 p1 r1=>?_};let((b,l),N1):=x
   cases b with
   |lst=>let(c,xs,rfl,r2,r3):=r1;exact{c,rfl,qc4 gd p1.er r3,h _ G1 H1 p1 (by rw[gd.hK];exact qjY r3 r2)}
   |_=>exact False.elim h
  |_=>cases ht
 rw[if_neg h2]at h
 by_cases h3:f = "reversed"
 ·subst h3;rw[if_pos rfl]at h;let(a',h1,rfl):=map_some h;refine PI.imp (qjm hg (gd.blt _ (2:)) (qi (A.l Gv Hv _ _ h1) qv (qf hs)) (qf hs)) λZ H Q hq1=>?_;let(N,G,er,h):=hq1;refine{N,G,er,Wx.mono (Wx.th (x:=yc a' (iR L.k a') N) h) λx h v G1 H1 p1 r1=>?_};let((b,l),N1):=x
  cases b with
  |lst=>let(c,xs,rfl,r2,r3):=r1;refine{c,xs,rfl,?_,h _ G1 H1 p1 (by rw[gd.hK];exact qjV r3 r2)};rw[gd.hK];exact r3.elim (λz=>SqL.of (p1.er.sub _ _ z)) λz=>p1.er.base.seq z
  |_=>exact False.elim h
 rw[if_neg h3]at h;cases h
def qhw(gd:Gd U K ε k X L)(A:All U K ε k X L m)(tg a b:Expr)(f:Str)(p q:Pos)(x:I)(hg:Gl X f)(h:oif (!(qy a||qy b)) (if f = "range" then o2 (cE m L a) (cE m L b) .rng2 else if f = "zip" then oif (qeL tg) (o2 (cL m L a) (cL m L b) .zip) else none)=some x) :
  PI X tg (.Call (.Name f p) [a,b] [] q) (tI U K ε Gv Hv (iI L.k x)):=by
 let(hs,h):=qk h;have hs:(qy a||qy b)=false:=(-hs:)
 rw[Bool.or_eq_false_iff]at hs;let(s1,s2):=hs
 by_cases h1:f = "range"
 ·subst h1;rw[if_pos rfl]at h;let(a',b',h1,h2,rfl):=qj h;refine PI.imp (qca hg (gd.blt _ (2:)) (qi (A.r Gv Hv _ _ h1) (qi (A.r Gv Hv _ _ h2) qv (qf s2)) (qf s1)) (qaP s1 s2) (qf s2)) λZ H Q hq1=>?_;let(N,G,er,h):=hq1;refine{N,G,er,Wx.mono (Wx.th (x:=iR L.k a' N) h) λx h v G1 H1 p1 r1=>{x.2,G1,p1.er,Wx.mono (Wx.th (x:=iR L.k b' x.2) h) λy h w G2 H2 p2 r2=>?_}}
  cases e1:x.1.int? with
  |none=>rw[e1]at h;exact False.elim h
  |some i=>
   cases e2:y.1.int? with
   |none=>rw[e1,e2]at h;exact False.elim h
   |some j=>rw[e1,e2]at h;let(hz,h):=Wx.iff h;let(z1,z2):=JH hz.1;let(z3,z4):=JH hz.2;exact{i,j,by rw[r1.int e1,r2.int e2],⟨z1,z2,z3,z4⟩,h _ G2 H2 (p1.trans p2) qfW}
 rw[if_neg h1]at h
 by_cases h2:f = "zip"
 ·subst h2;rw[if_pos rfl]at h;let(ht,h):=qk h;let(a',b',h1,h2,rfl):=qj h
  cases tg with
  |Tuple es j tp=>
   refine PI.imp (qjk hg (gd.blt _ (2:)) (qi (A.l Gv Hv _ _ h1) (qi (A.l Gv Hv _ _ h2) qv (qf s2)) (qf s1)) (qaP s1 s2) (qf s2)) λZ H Q hq1=>?_;let(N,G,er,h):=hq1;refine{N,G,er,Wx.mono (Wx.th (x:=yc a' (iR L.k a') N) h) λx h v G1 H1 p1 r1=>{x.2,G1,p1.er,Wx.mono (Wx.th (x:=yc b' (iR L.k b') x.2) h) λy h w G2 H2 p2 r2=>?_}};let((bx,l),N1):=x;let((by',n),N2):=y
   cases bx with
   |lst=>
    cases by' with
    |lst=>let(c,xs,rfl,r3,r4):=r1;let(d,ys,rfl,r5,r6):=r2;have r4':G2 c=some (.lst xs)\/SqL K Hv c xs:=r4.imp (λz=>p2.gs _ _ z) id;exact{c,d,rfl,qc4 gd p2.er r4',qc4 gd p2.er r6,h _ G2 H2 (p1.trans p2) (by rw[gd.hK];exact qjZ r4' (r3.same p2.gs) r6 r5)}
    |_=>exact False.elim h
   |_=>exact False.elim h
  |_=>cases ht
 rw[if_neg h2]at h;cases h
theorem qn7(gd:Gd U K ε k X L)(A:All U K ε k X L m)(tg e:Expr)(x:I)(h:cI (m+1) L (qeL tg) e=some x):PI X tg e (tI U K ε Gv Hv (iI L.k x)):=by
 cases e with
 |Call fn es kws q=>
  cases fn with
  |Name f p=>
   cases kws with
   |nil=>
    have h:(if (decide (f = "range")||decide (f = "enumerate")||decide (f = "zip")||decide (f = "reversed"))=true then _ else _)=some x:=h
    by_cases hf:(decide (f = "range")||decide (f = "enumerate")||decide (f = "zip")||decide (f = "reversed"))=true
    ·rw[if_pos hf]at h;let(hn,h):=qk h;simp![Bool.and_eq_true]at hn;have hg:=gd.glo _ hn.1.2
     match es,h with
     |[a],h=>exact qhv gd A tg a f p q x hg h
     |[a,b],h=>exact qhw gd A tg a b f p q x hg h
     |[_,_,_],h=>cases h
     |[],h=>cases h
     | _::_::_::_::_,h=>cases h
    ·rw[if_neg hf]at h;exact qeX gd A tg _ x h
   |cons kw kws=>exact qeX gd A tg _ x h
  |_=>exact qeX gd A tg _ x h
 |_=>exact qeX gd A tg _ x h
end
section
variable{U:KC}{ε:XK}{K:Frag}{Gv Hv:Hp}{k m:Nat}{X:Cx}{L:Ct}{x:E}
theorem Q6:∀{m:Nat} {es:List Expr} {l:Es},cAs m L es=some l->es.any qy=false
 |0,_,_,h=>nomatch h
 | m+1,[],_,_=>rfl
 | m+1,e::es,_,h=>by
  let(hs,h):=qk h;let(a,b,_,h2,_):=qj h;rw[List.any_cons,Q6 h2,Bool.or_false]
  simpa using hs
def Z5{m:Nat}{l:Es}(h:cAs m L []=some l):l=.nil:=by
 cases m<;>cases h
 rfl
theorem zV{env:PySem.Env}{pos:Pos}:∀{es:List Expr},es.any qy=false->(backTo pos (starEach es env)).any (·.1)=false
 |[],_=>rfl
 | e::l,h=>by simp![List.any_cons,Bool.or_eq_false_iff]at h;rw[qf h.1];show(false||(backTo pos (starEach l env)).any (·.1))=false;rw[zV h.2];rfl
def XP.call{G H G1 H1:Hp}{N N1:Env}{Z:L2.St}(p:Po U K Gv Hv Z G H N G1 H1 N1):∀c l,XP U Gv Hv ε c l->XP U G1 H1 ε c l:=λc l h od G' H' h1 g1 s n x=>
 h od G' H' (λb o q=>h1 b o (p.er.base b o q)) (λb o q=>g1 b o (p.er.g0 b o q)) s (λa o q=>by
  rcases n a o q with ⟨o',z⟩|z
  ·exact p.er.fresh a o' z
  ·exact .inr (qp.none p.er.base z)) x
theorem ReR.rv{G H G1 H1 G2 H2:Hp}{N N1:Env}{Z:L2.St}{r:Rv}{v:V}(p:Po U K Gv Hv Z G H N G1 H1 N1)(hs:qp H1 H2)(gs:qp G1 G2)(sub:qp G2 H2)(new:∀a o,G2 a=some o->(∃o',G1 a=some o')\/H1 a=none)(h:ReR U G2 H2 H1 r v) :
  Po U K Gv Hv Z G H N G2 H2 N1/\RvR U K Hv H G2 H2 N1 Z r v:=by
 refine{p.trans (Po.more p.er hs gs sub new),?_}
 cases r with
 |val d=>exact h
 |tmp ds=>let(a,xs,rfl,h1,h2,h3,h4):=h;exact{a,xs,rfl,h1,qp.none p.hs h2,qp.none p.er.base h2,h3,p.er.notOwn h2,h4}
 |cell ds=>exact False.elim h
 |scr ds=>exact False.elim h
theorem qeY(gd:Gd U K ε k X L)(A:All U K ε k X L m)(f:Str)(es:List Expr)(p q:Pos)(hok:zE f=true)(hgl:glB L.sc f=true)(ht:L.tab.contains f=true)(h:(cAs m L es).map (.call f)=some x):PE X (.Call (.Name f p) es [] q) (tR U K ε Gv Hv (iR L.k x)):=by
 let(l',h1,rfl):=map_some h;have hs:=Q6 h1;let(fa,fd,ps,F,hm,hk,hb):=gd.fns f ht;let(n1,n2,n3):=zG hok
 have key:∀Z H Q,tR U K ε Gv Hv (iR L.k (.call f l')) Z H Q->qef (spF U K L.cl f) [] ε (tAs U K ε Gv Hv (iAs L.k l')) Z H Q:=λZ H Q ⟨N,G,er,h⟩=>by refine{N,G,er,Wx.mono (Wx.th (x:=iAs L.k l' N) h) λx h vs G1 H1 p1 r1=>?_};show spF U K L.cl f (vs++[]) H1 Q ε;rw[List.append_nil];refine{G1,x.1,p1.er.sub,r1,Wx.mono2 (Wx.th h) (XP.call p1) λr h v G2 H2 hs gs sub new rr=>?_};let(z1,z2):=ReR.rv p1 hs gs sub new rr;exact h v G2 H2 z1 z2
 cases es with
 |nil=>cases Z5 h1;refine PE.imp (qeg F gd.room (gd.glo f hgl) hm hk hb .nil gd.ps n1) λZ H Q h=>?_;let(N,G,er,h):=key Z H Q h;exact h [] G H (Po.refl er) rfl
 |cons e l=>simp![List.any_cons,Bool.or_eq_false_iff]at hs;exact PE.imp (yA F gd.room (gd.glo f hgl) hm hk hb .nil gd.ps (A.as Gv Hv _ _ h1) n1 (qf hs.1) (zV hs.2)) key
def qeZ(gd:Gd U K ε k X L)(A:All U K ε k X L m)(f:Str)(a:Expr)(p q:Pos)(hgl:glB L.sc f=true)(h:oif (!qy a) (o2 (qmh f) (cE m L a) E.b1)=some x):PE X (.Call (.Name f p) [a] [] q) (tR U K ε Gv Hv (iR L.k x)):=by
 let(hs,h):=qk h;have s1:qy a=false:=(-hs:)
 let(y,a',h1,h2,rfl):=qj h
 have key:∀Z H Q,tR U K ε Gv Hv (iR L.k (.b1 y a')) Z H Q->tCB (rC1 U K (XP U Gv Hv ε) Gv Hv y.go) (qee (tR U K ε Gv Hv (iR L.k a')) qig) Z H Q:=λZ H Q ⟨N,G,er,h⟩=>{N,G,er,Wx.mono (Wx.th (x:=iR L.k a' N) h) λx h v G1 H1 p1 r1=>{x.2,Z,G1,H,x.1,v,rfl,p1.er,r1,Wx.mono (Wx.th h) λz h u G2 H2 p2 r2=>h u G2 H2 (p1.trans p2) (r2.back p1.hs)}}
 have pa:=qi (A.r Gv Hv _ _ h2) qv (qf s1);unfold qmh at h1
 split at h1
 ·rename_i e;cases h1;subst e;exact PE.imp (qG (qjD (Ξ:=XP U Gv Hv ε) (Gv:=Gv) (Hv:=Hv) gd) (gd.glo _ hgl) (gd.blt _ (2:)) PySem.boot_len pa (2:) (2:) (qf s1) rfl) key
 split at h1
 ·rename_i e;cases h1;subst e;exact PE.imp (qE (qhr (Ξ:=XP U Gv Hv ε) (Gv:=Gv) (Hv:=Hv) gd) (gd.glo _ hgl) (gd.blt _ (2:)) PyProof.Rows.boot_list pa (2:) (2:) (qf s1) rfl) key
 split at h1
 ·rename_i e;cases h1;subst e;exact PE.imp (qE (qjI (Ξ:=XP U Gv Hv ε) (U:=U) (K:=K) (Gv:=Gv) (Hv:=Hv)) (gd.glo _ hgl) (gd.blt _ (2:)) PyProof.Rows.boot_int pa (2:) (2:) (qf s1) rfl) key
 split at h1
 ·rename_i e;cases h1;subst e;exact PE.imp (qG (qcZ (Ξ:=XP U Gv Hv ε) (Gv:=Gv) (Hv:=Hv) gd) (gd.glo _ hgl) (gd.blt _ (2:)) PyProof.Rows.boot_sorted pa (2:) (2:) (qf s1) rfl) key
 split at h1
 ·rename_i e;cases h1;subst e;exact PE.imp (qG (qjE (Ξ:=XP U Gv Hv ε) (Gv:=Gv) (Hv:=Hv) gd) (gd.glo _ hgl) (gd.blt _ (2:)) PyProof.Rows.boot_sum pa (2:) (2:) (qf s1) rfl) key
 split at h1
 ·rename_i e;cases h1;subst e;exact PE.imp (qG (qjF (Ξ:=XP U Gv Hv ε) (Gv:=Gv) (Hv:=Hv) gd) (gd.glo _ hgl) (gd.blt _ (2:)) PyProof.Rows.boot_all pa (2:) (2:) (qf s1) rfl) key
 split at h1
 ·rename_i e;cases h1;subst e;exact PE.imp (qE (qjH (Ξ:=XP U Gv Hv ε) (U:=U) (K:=K) (Gv:=Gv) (Hv:=Hv)) (gd.glo _ hgl) (gd.blt _ (2:)) PyProof.Rows.boot_str pa (2:) (2:) (qf s1) rfl) key
 split at h1
 ·rename_i e;cases h1;subst e;exact PE.imp (qE (qeS (Ξ:=XP U Gv Hv ε) (Gv:=Gv) (Hv:=Hv) gd) (gd.glo _ hgl) (gd.blt _ (2:)) PyProof.Rows.boot_tuple pa (2:) (2:) (qf s1) rfl) key
 split at h1
 ·rename_i e;cases h1;subst e;exact PE.imp (qG (qjG (Ξ:=XP U Gv Hv ε) (Gv:=Gv) (Hv:=Hv) gd) (gd.glo _ hgl) (gd.blt _ (2:)) PyProof.Rows.boot_any pa (2:) (2:) (qf s1) rfl) key
 cases h1
def qj0{f:Str}{a:Expr}{t:Expr×Expr}(h:lrE L f a=some t):f = "list"/\∃p q,a=.Call (.Name "range" p) [t.1,t.2] [] q/\glB L.sc "range" = true/\qy t.1=false/\qy t.2=false:=by
 unfold lrE at h
 split at h
 ·split at h
  ·rename_i hc;cases h;let(h0,rfl,h1,h2,h3):=hc;exact{h0,_,_,rfl,h1,h2,h3}
  ·cases h
 ·cases h
def qj1{x y r:Rv}(h:lrD x y=.ok r):∃i j,x.int?=some i/\y.int?=some j/\Q3 i=true/\Q3 j=true/\(j - i).toNat<=10000/\r=.tmp (zk i j):=by
 unfold lrD at h
 split at h
 ·rename_i i j e1 e2
  split at h
  ·rename_i hc;cases h;exact⟨i,j,e1,e2,hc.1,hc.2.1,hc.2.2,rfl⟩
  ·cases h
 ·cases h
theorem qhx(G:Hp)(i:Int)(l:List Nat):ql U G (l.map λk:Nat=>D.int (i+k)) (l.map λk:Nat=>V.int (i+k)):=by
 induction l with
 |nil=>exact .nil
 |cons k l ih=>exact .cons (by simp![Rep]) ih
theorem qmn(gd:Gd U K ε k X L)(A:All U K ε k X L m)(f:Str)(a:Expr)(p q:Pos)(hgl:glB L.sc f=true){t:Expr×Expr}(ht:lrE L f a=some t)(h:o2 (cE m L t.1) (cE m L t.2) (.b2 .rng)=some x):PE X (.Call (.Name f p) [a] [] q) (tR U K ε Gv Hv (iR L.k x)):=by
 let(a',b',h1,h2,rfl):=qj h;let(rfl,p',q',rfl,hg,s1,s2):=qj0 ht;refine PE.imp (qE (qbz gd.calm) (gd.glo _ hgl) (gd.blt _ (2:)) PyProof.Rows.boot_list (qi (qE qcN (gd.glo _ hg) (gd.blt _ (2:)) PyProof.Rows.boot_range (qi (A.r Gv Hv _ _ h1) (qi (A.r Gv Hv _ _ h2) qv (qf s2)) (qf s1)) (2:) (2:) (qf s1) (zV (by simp[s2]))) qv rfl) (2:) (2:) rfl rfl) λZ H Q hq1=>?_;let(N,G,er,h):=hq1;refine{N,G,er,Wx.mono (Wx.th (x:=iR L.k a' N) h) λx h v G1 H1 p1 r1=>{x.2,G1,p1.er,Wx.mono (Wx.nox (Wx.th (x:=noX (iR L.k b' x.2)) h)) λy h w G2 H2 p2 r2=>?_}};have h:=Wx.th (x:=lrD x.1 y.1) h
 cases e3:lrD x.1 y.1 with
 |exc c l=>exact absurd e3 (by unfold lrD;split<;>(try split)<;>exactλz=>by cases z)
 |no=>rw[e3]at h;exact False.elim h
 |ok r=>
 rw[e3]at h;let(i,j,z1,z2,z3,z4,z5,rfl):=qj1 e3;refine{i,j,by rw[(r1.keep p2).int z1,r2.int z2],λd hd=>{d,i,j,rfl,qg,?_,z5,λc hc=>?_}}
 ·unfold Q3 at z3 z4;simp![Bool.and_eq_true,decide_eq_true_eq]at z3 z4;exact⟨z3.1,z3.2,z4.1,z4.2⟩
 ·have p3:=Po.room p2.er (qp.upd (o:=HO.rng i j) hd);have rr:ql U G2 (zk i j) (rgV i (j - i).toNat):=qhx G2 i _;let(y1,y2):=p3.er.newList hc rr;exact h _ _ _ (p1.trans (p2.trans (p3.trans y1))) (y2.back (p1.trans (p2.trans p3)).hs)
def qj2{f:Str}{a t:Expr}(h:ssE L f a=some t):f = "sorted"/\∃p q,a=.Call (.Name "set" p) [t] [] q/\glB L.sc "set" = true/\qy t=false:=by
 unfold ssE at h
 split at h
 ·split at h
  ·rename_i hc;cases h;let(h0,rfl,h1,h2):=hc;exact{h0,_,_,rfl,h1,h2}
  ·cases h
 ·cases h
def qj3{ns ms qs:List Int}(hn:ms.Nodup)(hm:∀k,k∈ms↔k∈ns)(hp:qs.Perm ms)(hs:qs.Pairwise (·<=·)):sdI ns=qs:=by
 have h1:(sdI ns).Perm (ddI ns):=List.mergeSort_perm _ _;have h2:(sdI ns).Pairwise (λa b=>decide (a<=b)=true):=List.pairwise_mergeSort (λa b c x y=>by simp at *;lia) (λa b=>by simp;lia) _;have h3:(ddI ns).Perm ms:=(List.perm_ext_iff_of_nodup (Jm ns) hn).mpr λk=>by rw[Q0,hm]
 exact List.Perm.eq_of_pairwise (le:=λa b:Int=>a<=b) (λa b _ _ x y=>by lia) (h2.imp λh=>(-h:)) hs ((h1.trans h3).trans hp.symm)
theorem qj4(gd:Gd U K ε k X L)(A:All U K ε k X L m)(f:Str)(a:Expr)(p q:Pos)(hgl:glB L.sc f=true){t:Expr}(ht:ssE L f a=some t)(h:(cE m L t).map (.b1 .sst)=some x):PE X (.Call (.Name f p) [a] [] q) (tR U K ε Gv Hv (iR L.k x)):=by
 let(a',h1,rfl):=map_some h;let(rfl,p',q',rfl,hg,s1):=qj2 ht;refine PE.imp (qG (QY gd.calm) (gd.glo _ hgl) (gd.blt _ (2:)) PyProof.Rows.boot_sorted (qi (qE (Z1 gd.calm) (gd.glo _ hg) (gd.blt _ (2:)) PyProof.Rows.boot_set (qi (A.r Gv Hv _ _ h1) qv (qf s1)) (2:) (2:) (qf s1) rfl) qv rfl) (2:) (2:) rfl rfl) λZ H Q hq1=>?_;let(N,G,er,h):=hq1;refine{N,G,er,Wx.mono (Wx.th (x:=iR L.k a' N) h) λy h v G1 H1 p1 r1=>?_};have h:=Wx.th (x:=qjx y.1) h;unfold qjx at h
 cases e1:y.1.list? with
 |none=>rw[e1]at h;exact False.elim h
 |some l=>
  rw[e1]at h;dsimp only at h
  cases e2:Z2 l with
  |none=>rw[e2]at h;exact False.elim h
  |some ns=>
   rw[e2]at h;dsimp only at h;let(hz,h):=Wx.iff h;let(b,ys,z1,z2,z3):=r1.list p1.er e1;have z4:=qcY z3 e2;subst z1 z4;refine{b,ns,rfl,by rw[gd.hK];exact z2,hz,λsa ms hsa hn hm=>{sa,ms,rfl,qg,hn,λc qs hc hp hs=>?_}};have p2:=Po.room p1.er (qp.upd (o:=qju X.prog X.w sa ms) hsa)
   have rr:ql U G1 ((sdI ns).map D.int) (qs.map V.int):=by
    rw[qj3 hn hm hp hs];clear hp hs
    induction qs with
    |nil=>exact .nil
    |cons k l ih=>exact .cons (by simp![Rep]) ih
   let(y1,y2):=p2.er.newList hc rr;exact h _ _ _ (p1.trans (p2.trans y1)) (y2.back (p1.trans p2).hs)
def qe0(gd:Gd U K ε k X L)(A:All U K ε k X L m)(f:Str)(a b:Expr)(p q:Pos)(hgl:glB L.sc f=true)(h:oif (!(qy a||qy b)) (o2 (qmi f) (o2 (cE m L a) (cE m L b) Prod.mk) λf p=>E.b2 f p.1 p.2)=some x):PE X (.Call (.Name f p) [a,b] [] q) (tR U K ε Gv Hv (iR L.k x)):=by
 let(hs,h):=qk h;have hs:(qy a||qy b)=false:=(-hs:)
 rw[Bool.or_eq_false_iff]at hs;let(s1,s2):=hs;let(y,z,h1,h2,rfl):=qj h;let(a',b',h3,h4,rfl):=qj h2
 have key:∀Z H Q,tR U K ε Gv Hv (iR L.k (.b2 y a' b')) Z H Q->tCB (rC2 U K (XP U Gv Hv ε) Gv Hv y.go) (qee (tR U K ε Gv Hv (iR L.k a')) (qee (tR U K ε Gv Hv (iR L.k b')) qig)) Z H Q:=λZ H Q ⟨N,G,er,h⟩=>{N,G,er,Wx.mono (Wx.th (x:=iR L.k a' N) h) λx h v G1 H1 p1 r1=>{x.2,G1,p1.er,Wx.mono (Wx.nox (Wx.th (x:=noX (iR L.k b' x.2)) h)) λy h w G2 H2 p2 r2=>{y.2,Z,G2,H,H1,x.1,y.1,v,w,rfl,p2.er,r1.keep p2,r2,Wx.mono (Wx.th h) λz h u G3 H3 p3 r3=>h u G3 H3 (p1.trans (p2.trans p3)) (r3.back (p1.trans p2).hs)}}}
 have sa:(backTo q (starEach [b] X.env)).any (·.1)=false:=zV (by simp[s2]);have pa:=qi (A.r Gv Hv _ _ h3) (qi (A.r Gv Hv _ _ h4) qv (qf s2)) (qf s1);unfold qmi at h1
 split at h1
 ·rename_i e;cases h1;subst e;exact PE.imp (qG (qjJ (Ξ:=XP U Gv Hv ε) (Gv:=Gv) (Hv:=Hv) gd) (gd.glo _ hgl) (gd.blt _ (2:)) PyProof.Rows.boot_max pa (2:) (2:) (qf s1) sa) key
 split at h1
 ·rename_i e;cases h1;subst e;exact PE.imp (qG (qjK (Ξ:=XP U Gv Hv ε) (Gv:=Gv) (Hv:=Hv) gd) (gd.glo _ hgl) (gd.blt _ (2:)) PyProof.Rows.boot_min pa (2:) (2:) (qf s1) sa) key
 cases h1
def qhy:bootBuiltins "ValueError" = some (.type "ValueError"):=(3:)
def tyN:D->String
 |.non=>"NoneType" |.bl _=>"bool" |.int _=>"int" |.str _=>"str" |.lst _=>"list" |.tup _=>"tuple" |.ins ..=>"object" |.exc ..=>"object" |.dct ..=>"object"
def Ty.nm:Ty->String
 |.int=>"int" |.bool=>"bool" |.str=>"str" |.list=>"list" |.tuple=>"tuple"
theorem qmo{G H Hb:Hp}{N:Env}{Z:L2.St}{r:Rv}{x:V}{t:Ty}{b:Bool}(er:ER U K Gv Hv G H N Z)(h:RvR U K Hv Hb G H N Z r x)(e:t.go r=some b):TyOf K H x (.type (tyN r.data)):=by
 cases r with
 |val d=>
  cases d<;>simp![RvR,Rep]at h
  ·subst h;exact .non
  ·subst h;exact .bl _
  ·subst h;exact .int _
  ·subst h;exact .str _
  ·let(a,xs,rfl,h1,_):=h;exact .lst (er.sub _ _ h1)
  ·let(a,xs,rfl,h1,_):=h;exact .tup (er.sub _ _ h1)
  ·cases t<;>cases e
  ·cases t<;>cases e
  ·cases t<;>cases e
 |tmp l=>let(a,xs,rfl,h1,_):=h;exact .lst h1
 |cell l=>let(a,xs,rfl,h1,_):=h;exact .lst h1
 |scr l=>cases e
theorem qj5{r:Rv}{t:Ty}{b:Bool}(e:t.go r=some b):PySem.W.kitOne K (.type (tyN r.data)) (.type t.nm)=some b:=by
 have main:∀d:D,t.of d=some b->PySem.W.kitOne K (.type (tyN d)) (.type t.nm)=some b:=λd e=>by cases t<;>cases d<;>cases e<;>rfl
 cases r with
 |val d=>exact main d e
 |tmp l=>exact main (.lst l) e
 |cell l=>exact main (.lst l) e
 |scr l=>cases e
def qc5{X:Cx}:qO X (.builtin "isinstance") (λvs H Q=>∃x c t cv b,vs=[x,c]/\TyOf X.K H x t/\qF c cv/\(∀u,qF c u->u=cv)/\PySem.W.kitOne X.K t cv=some b/\Q (.bl b) H):=by intro pins s Z H xs us Q I r h;let(x,c,t,cv,b,rfl,ty,rc,uq,e,q):=h;let(u,v,rfl,ru,rv):=Qz r;obtain rfl:v=cv:=uq v rv;exact QD I ru ty e λtk=>{.bl b,H,I.tok tk,rfl,q}
theorem qj6(gd:Gd U K ε k X L)(A:All U K ε k X L m)(a:Expr)(t:Str)(p tp q:Pos)(hgl:glB L.sc "isinstance" = true)
  (h:oif (zE t&&glB L.sc t&&(qb0 L.N t).isNone&&!qy a) (match qlB t with |some y=>(cE m L a).map (E.isi y) |none=>(cE m L a).map (.isc t))=some x):PE X (.Call (.Name "isinstance" p) [a,.Name t tp] [] q) (tR U K ε Gv Hv (iR L.k x)):=by
 let(hc,h):=qk h;simp![Bool.and_eq_true,Bool.not_eq_true']at hc;let(((c1,c2),c3),s1):=hc
 cases hy:qlB t with
 |some y=>
  rw[hy]at h;let(a',h1,rfl):=map_some h
  have hb:PE X (.Name t tp) (tC (.ty y.nm)):=by
   unfold qlB at hy
   split at hy
   ·rename_i e;cases hy;subst e;exact yy (gd.glo _ c2) (gd.blt _ (2:)) PyProof.Rows.boot_int rfl
   split at hy
   ·rename_i e;cases hy;subst e;exact yy (gd.glo _ c2) (gd.blt _ (2:)) PyProof.Rows.boot_bool rfl
   split at hy
   ·rename_i e;cases hy;subst e;exact yy (gd.glo _ c2) (gd.blt _ (2:)) PyProof.Rows.boot_str rfl
   split at hy
   ·rename_i e;cases hy;subst e;exact yy (gd.glo _ c2) (gd.blt _ (2:)) PyProof.Rows.boot_list rfl
   split at hy
   ·rename_i e;cases hy;subst e;exact yy (gd.glo _ c2) (gd.blt _ (2:)) PyProof.Rows.boot_tuple rfl
   cases hy
  refine PE.imp (qG qeq (gd.glo _ hgl) (gd.blt _ (2:)) PyProof.Rows.boot_isinstance (qi (A.r Gv Hv _ _ h1) (qi hb qv rfl) (qf s1)) (2:) (2:) (qf s1) rfl) λZ H Q hq1=>?_;let(N,G,er,h):=hq1;refine{N,G,er,Wx.mono (Wx.th (x:=iR L.k a' N) h) λx h v G1 H1 p1 r1=>?_};let(b,e1,h):=Wx.of (Wx.th h);exact{v,y.nm,_,b,rfl,by rw[gd.hK];exact qmo p1.er r1 e1,by rw[gd.hK];exact qj5 e1,h _ G1 H1 p1 (by simp![RvR,Rep])}
 |none=>
  rw[hy]at h;let(a',h1,rfl):=map_some h;rintro pins s Z H Q I ⟨N,G,er,h⟩;have h2:=Wx.th (x:=noX (iR L.k a' N)) h
  cases e1:iR L.k a' N with
  |exc c l=>rw[e1]at h2;exact False.elim h2
  |no=>rw[e1]at h2;exact False.elim h2
  |ok x=>
   rw[e1]at h2;let(b,e2,h3):=Wx.of (Wx.th (x:=R.of (qeK L.cs x.1 t)) h2)
   have e2:(∃c ns ds,x.1=.val (.ins c ns ds)/\L.cs.sub c t=some b)\/∃C ns ds,x.1=.val (.exc C ns ds)/\L.cs.xs C t=some b:=by
    let(r,env):=x
    cases r with
    |val d=>
     cases d with
     |ins c ns ds=>exact .inl ⟨c,ns,ds,rfl,e2⟩
     |exc c ns ds=>exact .inr ⟨c,ns,ds,rfl,e2⟩
     |_=>cases e2
    |_=>cases e2
   rcases e2 with ⟨c,ns,ds,ex,e2⟩|⟨C,ns,ds,ex,e2⟩
   case inr=>
    let(hC,hT):=gd.xsubs C t b e2
    have go:∀(c:V) (cv:Value),PE X (.Name t tp) (tC c)->qF c cv->(∀u,qF c u->u=cv)->PySem.W.kitOne X.K (.ref C) cv=some b->wpAny (model X.prog X.w) X.A (eval (.Call (.Name "isinstance" p) [a,.Name t tp] [] q) X.env) (EP X pins Z Q) X.xe s:=λc cv pc rc uq kt=>by
     refine(qG qcL (gd.glo _ hgl) (gd.blt _ (2:)) PyProof.Rows.boot_isinstance (qi (A.r Gv Hv _ _ h1) (qi pc qv rfl) (qf s1)) (2:) (2:) (qf s1) rfl) pins s Z H Q I ⟨N,G,er,?_⟩;rw[e1];intro v G1 H1 p1 r1;rw[ex]at r1;simp![RvR,Rep]at r1;let(p',od,xs,rfl,h4,h5,_):=r1;refine{p',C,od,c,cv,b,rfl,{p1.er.sub _ _ h4,λdd hdd=>?_},hC,rc,uq,kt,h3 _ G1 H1 p1 (by simp![RvR,Rep])};rcases h5 with ⟨z,_⟩|⟨d2,z,z2⟩
     ·rw[z]at hdd;cases hdd
     ·rw[z]at hdd;cases hdd;exact{_,p1.er.sub _ _ z2}
    rcases hT with ⟨T,hT,kt⟩|⟨hT,rfl,kt⟩
    ·exact go (.ref T) (.ref T) (Jq (v:=.ref T) (gd.glo _ c2) hT rfl (zG c1).1) rfl (λu hu=>hu) kt
    ·exact go (.ty "ValueError") (.type "ValueError") (yy (gd.glo _ c2) hT qhy rfl) rfl (λu hu=>hu) kt
   let(C,T,hC,hty,hT,kt):=gd.subs c t b e2;refine(qG qc5 (gd.glo _ hgl) (gd.blt _ (2:)) PyProof.Rows.boot_isinstance (qi (A.r Gv Hv _ _ h1) (qi (Jq (v:=.ref T) (gd.glo _ c2) hT rfl (zG c1).1) qv rfl) (qf s1)) (2:) (2:) (qf s1) rfl) pins s Z H Q I ⟨N,G,er,?_⟩;rw[e1];intro v G1 H1 p1 r1;rw[ex]at r1;simp![RvR,Rep]at r1;let(p',dx,C',xs,hc',rfl,h4,hl,h5):=r1;rw[hC]at hc';cases hc';exact{.ref p',.ref T,.ref C,.ref T,b,rfl,hty _ _ _ _ (p1.er.sub _ _ h4),rfl,λu hu=>hu,kt,h3 _ G1 H1 p1 (by simp![RvR,Rep])}
def Z6{o:Expr}(h:j9 o=true)(x:Str)(env:PySem.Env):attributeBase o x env (eval o env)=eval o env:=by cases o<;>first|rfl|(simp[j9]at h)
theorem qhz{cs:Cs}{r:Rv}{x:Str}{d:D}(h:qcT cs r x=some d):(∃c ns ds,r=.val (.ins c ns ds)/\cs.fld c x=true/\(ns.zip ds).lookup x=some d)\/∃C ns ds,r=.val (.exc C ns ds)/\cs.xg C x=true/\(ns.zip ds).lookup x=some d:=by
 cases r with
 |val e=>
  cases e with
  |ins c ns ds=>
   have h:(if cs.fld c x=true then (ns.zip ds).lookup x else none)=some d:=h
   by_cases hf:cs.fld c x=true
   ·rw[if_pos hf]at h;exact .inl ⟨c,ns,ds,rfl,hf,h⟩
   ·rw[if_neg hf]at h;cases h
  |exc c ns ds=>
   have h:(if cs.xg c x=true then (ns.zip ds).lookup x else none)=some d:=h
   by_cases hf:cs.xg c x=true
   ·rw[if_pos hf]at h;exact .inr ⟨c,ns,ds,rfl,hf,h⟩
   ·rw[if_neg hf]at h;cases h
  |_=>cases h
 |_=>cases h
theorem qj7{cs:Cs}{r:Rv}{x f:Str}(h:mtD cs r x=some f):∃c ns ds,r=.val (.ins c ns ds)/\ns.contains x=false/\cs.mt c x=some f:=by
 cases r with
 |val e=>
  cases e with
  |ins c ns ds=>
   have h:(if ns.contains x=true then none else cs.mt c x)=some f:=h
   by_cases hf:ns.contains x=true
   ·rw[if_pos hf]at h;cases h
   ·rw[if_neg hf]at h;exact{c,ns,ds,rfl,(-hf:),h}
  |_=>cases h
 |_=>cases h
theorem qaQ{x:Str}:∀{ns:List Str} {xs:List V},ns.contains x=false->(ns.zip xs).lookup x=none
 |[],_,_=>by simp
 | n::ns,[],_=>by simp
 | n::ns,v::xs,h=>by simp![List.contains_cons,Bool.or_eq_false_iff]at h;rw[List.zip_cons_cons,List.lookup_cons,h.1];exact qaQ h.2
theorem qj8(gd:Gd U K ε k X L)(A:All U K ε k X L m)(o:Expr)(y:Str)(pos:Pos)(h:cE (m+1) L (.Attribute o y pos)=some x):PE X (.Attribute o y pos) (tR U K ε Gv Hv (iR L.k x)):=by
 let(ho,h):=qk h;let(a',h1,rfl):=map_some h;rintro pins s Z H Q I ⟨N,G,er,h⟩;have h2:=Wx.th (x:=noX (iR L.k a' N)) h
 cases e0:iR L.k a' N with
 |exc c l=>rw[e0]at h2;exact False.elim h2
 |no=>rw[e0]at h2;exact False.elim h2
 |ok z=>
  rw[e0]at h2;let(d,e1,h):=Wx.of (Wx.th (x:=R.of (qcT L.cs z.1 y)) h2);rcases qhz e1 with ⟨c,ns,ds,e2,e3,e4⟩|⟨C,ns,ds,e2,e3,e4⟩
  ·refine qiQ (A.r Gv Hv _ _ h1) (Z6 ho y X.env) pins s Z H Q I ⟨N,G,er,?_⟩;rw[e0];intro v G1 H1 p1 r1;rw[e2]at r1;simp![RvR,Rep]at r1;let(p,dx,C,xs,hc,rfl,h1,hl,h2):=r1;let(u,e5,ru):=Y1 h2 e4;exact{p,C,dx,_,u,rfl,p1.er.sub _ _ h1,gd.cls c C hc,gd.flds c y C e3 hc,e5,h u G1 H1 p1 ru}
  ·refine qhi (A.r Gv Hv _ _ h1) (Z6 ho y X.env) pins s Z H Q I ⟨N,G,er,?_⟩;rw[e0];intro v G1 H1 p1 r1;rw[e2]at r1;simp![RvR,Rep]at r1;let(p,od,xs,rfl,h1,h3,h2):=r1;let(u,e5,ru):=Y1 h2 e4;rcases h3 with ⟨_,z⟩|⟨dd,rfl,h3⟩
   ·rw[z]at e4;simp at e4
   ·exact{p,C,dd,_,u,rfl,p1.er.sub _ _ h1,p1.er.sub _ _ h3,gd.xgs C y e3,e5,h u G1 H1 p1 ru}
def Q7{o:Expr}{x:Str}{ap q:Pos}{es:List Expr}{env:PySem.Env}(ho:j9 o=true)(hs:es.any qy=false)(hl:es.length < 30)(hp:(ap.endLine == q.line)=true) :
  eval (.Call (.Attribute o x ap) es [] q) env=(do
   let ov<-eval o env
   standAt ap.atName
   let (f,first)<-holding [ov] (getMethod ov x (do return (<-importBound o env).getD true))
   callWith q f first (backTo q (starEach es env)) (backToKw q (keywordEach [] env))):=by
 have hm:methodCallForm (es.length+([]:List Keyword).length) (backTo q (starEach es env)) (backToKw q (keywordEach [] env))=true:=by
  have e:=zV (pos:=q) (env:=env) hs;unfold methodCallForm;simp![Bool.and_eq_true,decide_eq_true_eq];refine{{?_,rfl},?_}
  ·rw[List.all_eq_true];intro y hy
   have:=List.any_eq_false.mp e y hy
   simpa using this
  ·show es.length+0+0 < 30;omega
 show(do
  let ov<-attributeBase o x env (eval o env)
  standAt ap.atName
  methodCall o x ap q env ov (es.length+([]:List Keyword).length) (backTo q (starEach es env)) (backToKw q (keywordEach [] env)))=_
 rw[Z6 ho];unfold methodCall;simp![hm,calleeOf,methodCallPos,if_true,hp,Bool.not_true,Bool.false_or];rfl
theorem qe1{pins:PP}{s:Shared}{Z:L2.St}{H G:Hp}{Q:VK}{N:Env}{y:Rv×Env}{o:Expr}{ap q:Pos}{es:List Expr}{a':E}{l':Es}(A:All U K ε k X L m)(ho:j9 o=true)(hp:(ap.endLine == q.line)=true)(hl:es.length < 30)(h1:cE m L o=some a')(h2:cAs m L es=some l')
  (er:ER U K Gv Hv G H N Z) (e1:iR L.k a' N=.ok y) (h:Wx X0 (iAs L.k l' y.2) (λz=>Wx X0 ((ixM y.1 z.1).th λr=>R.ok (r,z.2)) (λx=>∀v G' H',Po U K Gv Hv Z G H N G' H' x.2->RvR U K Hv H G' H' x.2 Z x.1 v->Q v H'))) (I:Inv X pins Z H s) :
  wpAny (model X.prog X.w) X.A (eval (.Call (.Attribute o "index" ap) es [] q) X.env) (EP X pins Z Q) X.xe s:=by
 refine False.elim ?_
 cases e4:iAs L.k l' y.2 with
 |ok z=>rw[e4]at h;exact h
 |exc c l=>rw[e4]at h;exact h
 |no=>rw[e4]at h;exact h
theorem qhA{pins:PP}{s:Shared}{Z:L2.St}{H G:Hp}{Q:VK}{N N1:Env}{a nm:Str}{o:Expr}{ap q:Pos}{es:List Expr}{a':E}{l':Es}(A:All U K ε k X L m)(gd:Gd U K ε k X L)(ho:j9 o=true)(hp:(ap.endLine == q.line)=true)(hl:es.length < 30)(h1:cE m L o=some a')(h2:cAs m L es=some l')
  (er:ER U K Gv Hv G H N Z) (e1:iR L.k a' N=.ok (.val (.str a),N1)) (h:Wx X0 (iAs L.k l' N1) (λz=>Wx X0 ((bmD nm (.val (.str a)) z.1).th λr=>R.ok (r,z.2)) (λx=>∀v G' H',Po U K Gv Hv Z G H N G' H' x.2->RvR U K Hv H G' H' x.2 Z x.1 v->Q v H'))) (I:Inv X pins Z H s) :
  wpAny (model X.prog X.w) X.A (eval (.Call (.Attribute o nm ap) es [] q) X.env) (EP X pins Z Q) X.xe s:=by
 have hs:=Q6 h2
 cases e4:iAs L.k l' N1 with
 |exc c l=>rw[e4]at h;exact False.elim h
 |no=>rw[e4]at h;exact False.elim h
 |ok z=>
 rw[e4]at h;exact False.elim h
theorem qhB(gd:Gd U K ε k X L)(A:All U K ε k X L m)(o:Expr)(y:Str)(ap:Pos)(es:List Expr)(q:Pos)(h:cE (m+1) L (.Call (.Attribute o y ap) es [] q)=some x):PE X (.Call (.Attribute o y ap) es [] q) (tR U K ε Gv Hv (iR L.k x)):=by
 have h:(if (j9 o&&(ap.endLine == q.line)&&decide (es.length < 30))=true then _ else none)=_:=h
 by_cases hc:(j9 o&&(ap.endLine == q.line)&&decide (es.length < 30))=true
 case neg=>rw[if_neg hc]at h;cases h
 rw[if_pos hc]at h;let(a',l',h1,h2,rfl):=qj h;rintro pins s Z H Q I ⟨N,G,er,h⟩;have h:=Wx.th (x:=noX (iR L.k a' N)) h;simp![Bool.and_eq_true,decide_eq_true_eq]at hc;let((ho,hp),hl):=hc
 cases e1:iR L.k a' N with
 |exc c l=>rw[e1]at h;exact False.elim h
 |no=>rw[e1]at h;exact False.elim h
 |ok w=>
  rw[e1]at h
  have h:Wx _ (match mtD L.cs w.1 y with
   |some f=>(iAs L.k l' w.2).th λz=>(L.cl f (toAr w.1::z.1)).th λr=>R.ok (r,z.2)
   |none=>(noX (iAs L.k l' w.2)).th λz=>(noX (bmD y w.1 z.1)).th λr=>R.ok (r,z.2)) _:=h
  cases e2:mtD L.cs w.1 y with
  |none=>
   rw[e2]at h;have h0:=Wx.nox (Ξ':=X0) (Wx.th (x:=noX (iAs L.k l' w.2)) h);have h:Wx X0 (iAs L.k l' w.2) λz=>Wx X0 ((bmD y w.1 z.1).th λr=>R.ok (r,z.2)) λx=>∀v G' H',Po U K Gv Hv Z G H N G' H' x.2->RvR U K Hv H G' H' x.2 Z x.1 v->Q v H':=Wx.mono h0 λz hz=>Wx.ht (Wx.mono (Wx.nox (Wx.th (x:=noX (bmD y w.1 z.1)) hz)) λr hr=>hr);clear h0;let(wr,wρ):=w
   by_cases hs:∃a,wr=.val (.str a)
   ·let(a,rfl):=hs;exact qhA A gd ho hp hl h1 h2 er e1 h I
   ·have hb:∀as,bmD y wr as=if y = "index" then ixM wr as else .no:=by
     cases wr with
     |val d=>
      cases d with
      |str a=>exact absurd ⟨a,rfl⟩ hs
      |_=>intro as;rfl
     |_=>intro as;rfl
    by_cases hx:y = "index"
    ·subst hx;refine qe1 A ho hp hl h1 h2 er e1 (Wx.mono h λz hz=>?_) I;rw[hb,if_pos rfl]at hz;exact hz
    ·refine False.elim ?_
     cases e4:iAs L.k l' wρ with
     |ok z=>rw[e4]at h;have h:Wx _ ((bmD y wr z.1).th _) _:=h;rw[hb,if_neg hx]at h;exact h
     |exc c l=>rw[e4]at h;exact h
     |no=>rw[e4]at h;exact h
  |some f=>
  rw[e2]at h;let(c,ns,ds,e3,e4,e5):=qj7 e2;let(C,fa,fd,ps,hC,M,F,B):=gd.mts c y f e5;have h:=Wx.th (x:=iAs L.k l' w.2) h;have hs:=Q6 h2;have hs0:=hs
  have all:qgx C y (spF U K L.cl f) [] ε (tR U K ε Gv Hv (iR L.k a')) (tAs U K ε Gv Hv (iAs L.k l')) Z H Q:=by
   refine{N,G,er,?_};rw[e1];intro v G1 H1 p1 r1;have r1':=r1;rw[e3]at r1';simp![RvR,Rep]at r1';let(p',dx,C',xs,hc',rfl,h4,hl,h5):=r1';rw[hC]at hc';cases hc';refine{p',dx,_,rfl,p1.er.sub _ _ h4,qaQ e4,w.2,G1,p1.er,Wx.mono h λz h vs G2 H2 p2 r2=>?_};show spF U K L.cl f (V.ref p'::(vs++[])) H2 Q ε;rw[List.append_nil];refine{G2,toAr w.1::z.1,p2.er.sub,{_,_,rfl,?_,r2},Wx.mono2 (Wx.th h) (XP.call p2) λr h v G3 H3 hs gs sub new rr=>?_}
   ·rw[e3]at r1 ⊢;exact Rep.same p2.gs r1
   ·let(z1,z2):=ReR.rv (p1.trans p2) hs gs sub new rr;exact h v G3 H3 z1 z2
  cases es with
  |nil=>cases Z5 h2;refine qeh (A.r Gv Hv _ _ h1) (gd.cls c C hC) M F gd.room B .nil gd.ps (ht:=Q7 ho hs0 hl hp) pins s Z H Q I ?_;let(N',G',er',z):=all;refine{N',G',er',Wx.mono z λx z v G1 H1 p1 r1=>?_};let(a,dx,fs,z1,z2,z3,N2,G2,er2,z):=z v G1 H1 p1 r1;exact{a,dx,fs,z1,z2,z3,z [] G2 H1 (Po.refl er2) rfl}
  |cons e l=>simp![List.any_cons,Bool.or_eq_false_iff]at hs;exact qgz (A.r Gv Hv _ _ h1) (gd.cls c C hC) M F gd.room B .nil gd.ps (A.as Gv Hv _ _ h2) (qf hs.1) (zV hs.2) (ht:=Q7 ho hs0 hl hp) pins s Z H Q I all
theorem qhC(gd:Gd U K ε k X L)(A:All U K ε k X L m)(f:Str)(es:List Expr)(p q:Pos)(hok:zE f=true)(hgl:glB L.sc f=true)(ht:L.cs.tab.contains f=true)(h:(cAs m L es).map (.new f)=some x):PE X (.Call (.Name f p) es [] q) (tR U K ε Gv Hv (iR L.k x)):=by
 let(l',h1,rfl):=map_some h;have hs:=Q6 h1;rcases gd.mks f ht with hno|⟨C,fa,fd,ps,sp,M,F,hm,hb,hk,hsp⟩
 ·rintro pins s Z H Q I ⟨N,G,er,h⟩;have h:=Wx.th (x:=noX (iAs L.k l' N)) h
  cases e1:iAs L.k l' N with
  |ok x=>rw[e1]at h;have h:Wx _ ((L.nw f x.1).th _) _:=h;rw[hno]at h;exact False.elim h
  |exc c l=>rw[e1]at h;exact False.elim h
  |no=>rw[e1]at h;exact False.elim h
 let(n1,n2,n3):=zG hok
 have rm:Room (k - 1+1) X.A:=by rw[show k - 1+1=k by omega];exact gd.room
 have key:∀Z H Q,tR U K ε Gv Hv (iR L.k (.new f l')) Z H Q->qgy C sp [] ε (tAs U K ε Gv Hv (iAs L.k l')) Z H Q:=λZ H Q ⟨N,G,er,h⟩=>by refine{N,G,er,Wx.mono (Wx.nox (Wx.th (x:=noX (iAs L.k l' N)) h)) λx h vs G1 H1 p1 r1=>?_};show∀x dx,H1 x=none->H1 dx=none->dx≠x->sp (.ref x::(vs++[])) _ _ ε;rw[List.append_nil];refine hsp vs H1 Q ε ⟨G1,x.1,p1.er.sub,r1,Wx.mono2 (Wx.th h) (XP.call p1) λr h v G2 H2 hs gs sub new rr=>?_⟩;let(z1,z2):=ReR.rv p1 hs gs sub new rr;exact h v G2 H2 z1 z2
 cases es with
 |nil=>cases Z5 h1;refine PE.imp (qei M F rm (gd.glo f hgl) hm hb .nil gd.ps n1) λZ H Q h=>?_;let(N,G,er,h):=key Z H Q h;exact h [] G H (Po.refl er) rfl
 |cons e l=>simp![List.any_cons,Bool.or_eq_false_iff]at hs;exact PE.imp (qgA M F rm (gd.glo f hgl) hm hb .nil gd.ps (A.as Gv Hv _ _ h1) n1 (qf hs.1) (zV hs.2)) key
end
def gT(U:KC)(K:Frag)(Ξ:XW)(t:Tg):TG:=λv Z H Q=>∃(Gv Hv:Hp) (N:Env) (G:Hp) (d:D),ER U K Gv Hv G H N Z/\Rep U G d v/\Wx Ξ (t.go d N) λN'=>∀Z',ER U K Gv Hv G H N' Z'->Q Z' H
def gNs(U:KC)(K:Frag)(Ξ:XW)(l:List Nat):TGs:=λvs Z H Q=>∃(Gv Hv:Hp) (N:Env) (G:Hp) (ds:List D),ER U K Gv Hv G H N Z/\ql U G ds vs/\Wx Ξ (YW l ds N) λN'=>∀Z',ER U K Gv Hv G H N' Z'->Q Z' H
def PG.imp{X:Cx}{tg:Expr}{t t':TG}(h:PG X tg t')(i:∀v Z H Q,t v Z H Q->t' v Z H Q):PG X tg t:=λpins s Z H v u Q I r hw=>h pins s Z H v u Q I r (i v Z H Q hw)
def PGs.imp{X:Cx}{tg:List Expr}{t t':TGs}(h:PGs X tg t')(i:∀v Z H Q,t v Z H Q->t' v Z H Q):PGs X tg t:=λpins s Z H v u Q I r hw=>h pins s Z H v u Q I r (i v Z H Q hw)
section
variable{U:KC}{ε:XK}{Ξ:XW}{K:Frag}{Gv Hv:Hp}{k m:Nat}{X:Cx}{L:Ct}{x:E}
def qfX(gd:Gd U K ε k X L){y:Str}{i:Nat}(h:qhk L y=some i):L2.Loc X.env.scope y/\(X.fn y=true\/X.env.scope.names.lookup y=some .local)/\X.N.Nodup/\X.N[i]?=some y:=by unfold qhk at h;let(hc,h):=qk h;rw[Bool.and_eq_true]at hc;let(l1,l2):=gd.loc y hc.1;exact{l1,l2,by rw[gd.hN];exact gd.nd,by rw[gd.hN];exact YX h}
def qj9(gd:Gd U K ε k X L){y:Str}{i:Nat}(h:qhk L y=some i)(pos:Pos):PG X (.Name y pos) (gT U K Ξ (.one i)):=by let(l1,l2,l3,l4):=qfX gd h;refine PG.imp (qgp (i:=i) l3 l4 l1 l2) λv Z H Q hq1=>?_;let(Gv,Hv,N,G,d,er,r,h):=hq1;exact h _ (er.setVal r)
theorem qaR{e:Expr}{es:List Expr}{j:Nat}{p:Pos}{xs:List Str}(h:zj (.Tuple (e::es) j p)=some xs):∃x pos r,e=.Name x pos/\xs=x::r/\zj (.Tuple es j p)=some r:=by
 have q0:zj (.Tuple es j p)=(es.foldr (λe r=>match e,r with |.Name x _,some l=>some (x::l) |_,_=>none) (some []):Option (List Str)):=rfl
 cases e with
 |Name x pos=>
  cases q:(es.foldr (λe r=>match e,r with |.Name x _,some l=>some (x::l) |_,_=>none) (some []):Option (List Str)) with
  |none=>have h':(match (Expr.Name x pos:Expr),(es.foldr (λe r=>match e,r with |.Name x _,some l=>some (x::l) |_,_=>none) (some []):Option (List Str)) with |.Name x _,some l=>some (x::l) |_,_=>none)=some xs:=h;rw[q]at h';cases h'
  |some l=>have h':(match (Expr.Name x pos:Expr),(es.foldr (λe r=>match e,r with |.Name x _,some l=>some (x::l) |_,_=>none) (some []):Option (List Str)) with |.Name x _,some l=>some (x::l) |_,_=>none)=some xs:=h;rw[q]at h';cases h';exact{x,pos,l,rfl,rfl,q0.trans q}
 |_=>cases h
theorem qfY(gd:Gd U K ε k X L){j:Nat}{p:Pos}:∀{es:List Expr} {xs:List Str} {l:List Nat},zj (.Tuple es j p)=some xs->qeN L xs=some l->PGs X es (gNs U K Ξ l)
 | [],xs,l,h,h'=>by
  have e:xs=[]:=by unfold zj at h;cases h;rfl
  subst e;cases h';refine PGs.imp qgq λvs Z H Q hq1=>?_;let(Gv,Hv,N,G,ds,er,r,h):=hq1
  cases ds with
  |nil=>simp![ql]at r;exact{r,h Z er}
  |cons d ds=>exact False.elim h
 | e::es,xs,l,h,h'=>by
  let(x,pos,r,rfl,rfl,h0):=qaR h;let(i,l,h1,h2,rfl):=qj h';refine PGs.imp (qd7 (qj9 (Ξ:=Ξ) gd h1 pos) (qfY gd h0 h2)) λvs Z H Q hq1=>?_;let(Gv,Hv,N,G,ds,er,rr,h):=hq1
  cases ds with
  |nil=>exact False.elim h
  |cons d ds=>simp![ql]at rr;let(v,vr,rfl,r1,r2):=rr;exact{v,vr,rfl,Gv,Hv,N,G,d,er,r1,λZ1 er1=>{Gv,Hv,_,G,ds,er1,r2,h}}
theorem Q8{env:PySem.Env}{j:Nat}{p:Pos}:∀{es:List Expr} {xs:List Str} {l:List Nat},zj (.Tuple es j p)=some xs->qeN L xs=some l->(assignEach es env).length=l.length/\(assignEach es env).findIdx? (·.1)=none
 | [],xs,l,h,h'=>by unfold zj at h;cases h;cases h';exact⟨rfl,rfl⟩
 | e::es,xs,l,h,h'=>by let(x,pos,r,rfl,rfl,h0):=qaR h;let(i,l,h1,h2,rfl):=qj h';let(h1,h2):=Q8 (env:=env) h0 h2;have e:assignEach (.Name x pos::es) env=(false,assign (.Name x pos) env)::assignEach es env:=rfl;rw[e];refine{by simp[h1],?_};rw[List.findIdx?_cons];simp[h2]
theorem Q9{Ξ:XW}:∀{l:List Nat} {ds:List D} {N:Env} {F:Env->Prop},Wx Ξ (YW l ds N) F->ds.length=l.length
 |[],[],_,_,_=>rfl
 | [],_::_,_,_,h=>False.elim h
 | _::_,[],_,_,h=>False.elim h
 | i::l,d::ds,N,F,h=>congrArg (· + 1) (Q9 (l:=l) (ds:=ds) (N:=N.set i (.val d)) h)
theorem qhD(gd:Gd U K ε k X L)(tg:Expr){t:Tg}(h:cTg L tg=some t):PG X tg (gT U K Ξ t):=by
 cases tg with
 |Name x pos=>let(i,h1,rfl):=map_some h;exact qj9 gd h1 pos
 |Tuple es j p=>
  let(hs,h):=qk h
  cases hx:zj (.Tuple es j p) with
  |none=>rw[hx]at h;cases h
  |some xs=>
   rw[hx]at h;let(l,h2,rfl):=map_some h;let(t1,t2):=Q8 (env:=X.env) hx h2;refine PG.imp (qiC (n:=l.length) gd.calm (qfY (Ξ:=Ξ) gd hx h2) t1 t2) λv Z H Q hq1=>?_;let(Gv,Hv,N,G,d,er,r,h):=hq1
   cases d with
   |tup ds=>have h:Wx _ (YW l ds N) _:=h;simp![Rep]at r;let(a,ys,rfl,r1,r2):=r;exact{a,ys,rfl,SqT.of (er.sub _ _ r1),by rw[<-r2.len];exact Q9 h,Gv,Hv,N,G,ds,er,r2,h}
   |_=>exact False.elim h
 |_=>cases h
theorem qfZ{env:PySem.Env}:∀{names:List (Str×NameKind)} {x:Str},names.lookup x=some .globalImplicit->
  (names.map λ(n,k)=>if (k == NameKind.free&&env.scope.kind == .function&&env.kindOf n == some .cell) then (n,NameKind.cell) else (n,k)).lookup x=some .globalImplicit
 |[],_,h=>by simp at h
 | (n,k)::r,x,h=>by
  simp![List.map_cons]
  by_cases hx:x=n
  ·subst hx;simp[List.lookup_cons]at h;subst h;rw[if_neg (5:)];simp[List.lookup_cons]
  ·have hb:(x == n)=false:=(-hx:)
   rw[List.lookup_cons,hb]at h;have ih:=qfZ (env:=env) h
   by_cases hc:(k == NameKind.free&&env.scope.kind == .function&&env.kindOf n == some .cell)=true
   ·rw[if_pos hc];simp![List.lookup_cons,hb];exact ih
   ·rw[if_neg hc];simp![List.lookup_cons,hb];exact ih
def Za(gd:Gd U K ε k X L){own:List Str}{fr:List Nat}{sc:Scope}(h:Ji L.sc L.N fr sc=true):BlkScope X own fr sc:=by
 unfold Ji at h;simp![Bool.and_eq_true,List.all_eq_true]at h;let((hk,hn),hf):=h;refine{by simpa using hk,λx hx=>by simpa using (hn x hx).1.1,λx hx e=>?_,λx hx e=>?_,λi hi=>?_}
 ·have:=(hn x hx).1.2
  simpa [e] using this
 ·have:=(hn x hx).2
  exact gd.cf x.1 (by simpa [e] using this)
 ·rw[gd.hN]
  simpa using hf i hi
def qka:zD (CX1 X.prog X.w) X E0:=λpins Z H s e s' I c=>by let(x,T,C,od,H',_,_,_,_,_,_,_,_,_,_,z):=c;exact False.elim z
def Yi(gd:Gd U K ε k X L){own:List Str}{fr:List Nat}{sc:Scope}(B:BlkScope X own fr sc)(hnd:(own++fr.map λi=>L.N.getD i "").Nodup)(cl:List (Str×Addr))(C:Addr)(fp:List Addr)(s2:Shared)(H2:Hp) :
  Gd U K E0 k (blk X (yK X own fr) sc cl C fp s2 H2) { L with N:=own++fr.map λi=>L.N.getD i "",sc:=sc } where
 ps:=qka
 hN:=by show yK X own fr=_;unfold yK;rw[gd.hN]
 vis:=λx h=>by
  have h:=qfS h;rcases h with h|h|h
  ·exact .inl (lookup_relabel_local h)
  ·exact absurd rfl (B.nocell _ (PySem.mem_of_lookup h))
  ·rcases Jh (env:=X.env) h with z|z
   ·exact .inr (.inl z)
   ·exact .inr (.inr z)
 loc:=λx h=>by
  have h:=qcX h;rcases h with h|h
  ·have z:(relabel sc X.env).names.lookup x=some .local:=lookup_relabel_local h;exact{.inl z,.inr z}
  ·exact absurd rfl (B.nocell _ (PySem.mem_of_lookup h))
 glo:=λx h=>by unfold glB at h;exact qfZ (env:=X.env) (-h:)
 cf:=λx h=>by
  rcases h with h|h
  ·exact absurd rfl (B.nocell _ (PySem.mem_of_lookup h))
  ·exact Jh (env:=X.env) h
 nd:=hnd
 calm:=gd.calm
 hK:=gd.hK
 room:=gd.room
 fns:=gd.fns
 blt:=gd.blt
 gl:=gd.gl
 cls:=gd.cls
 flds:=gd.flds
 xsubs:=gd.xsubs
 xgs:=gd.xgs
 mts:=gd.mts
 mks:=gd.mks
 subs:=gd.subs
def qkb{G H:Hp}{N:Env}{Z:L2.St}(er:ER U K Gv Hv G H N Z)(own:List Str)(fr:List Nat):ER U K G H G H (qb1 own.length fr N) (J4 own fr Z):=by
 refine{by simp[qb1,J4],er.sub,λ_ _ e=>e,λ_ _ e=>e,λa o e=>.inl ⟨o,e⟩,λi s e=>?_,λi j a l n e1=>?_}
 ·unfold qb1 at e;unfold J4
  by_cases hi:i < own.length
  ·rw[List.getElem?_append_left (-hi:)]at e;obtain rfl:=List.eq_of_mem_replicate (List.mem_of_getElem? e);trivial
  ·rw[List.getElem?_append_right (-hi:)]at e ⊢;simp![List.length_map,List.length_replicate]at e ⊢;rw[List.getElem?_map]at e ⊢;let(j,e1,rfl):=Option.map_eq_some_iff.mp e;rw[e1];show SlR U K G H H (qlx (N.getD j .no)) (some (Z[j]?).join)
   cases q:N[j]? with
   |none=>rw[List.getD_eq_getElem?_getD,q];trivial
   |some s=>
    rw[List.getD_eq_getElem?_getD,q];have w:=er.sl j s q
    cases s with
    |no=>trivial
    |val d=>let(v,z,r):=w;exact{v,by rw[z];rfl,r}
    |own l=>let(a,xs,z,r1,r2,r3,r4):=w;exact{a,xs,by rw[z];rfl,r1,r4}
    |bor l=>let(a,xs,z,r1,r4):=w;exact{a,xs,by rw[z];rfl,er.base _ _ r1,r4}
    |scr l=>let(a,xs,z,r1,r4):=w;exact{a,xs,by rw[z];rfl,er.base.seq r1,r4}
 ·exfalso;unfold qb1 at e1
  by_cases hi:i < own.length
  ·rw[List.getElem?_append_left (-hi:)]at e1
   cases List.eq_of_mem_replicate (List.mem_of_getElem? e1)
  ·rw[List.getElem?_append_right (-hi:),List.getElem?_map]at e1;let(j,_,z):=Option.map_eq_some_iff.mp e1
   cases q:N.getD j .no<;>rw[q]at z<;>cases z
def Z7{it:Expr}(h:Q2 it=true)(env:PySem.Env):∀x,foldedSetIterable it env x=pure x:=by
 intro x
 cases it<;>first|rfl|(simp[Q2]at h)
def qkc(A:All U K ε k X L m)(e:Expr){x:E}(hx:cX m L e=some x):PE X e (λZ H Q=>∃Gv Hv,tE U K ε Gv Hv (jG x (iR L.k x)) Z H Q):=λpins s Z H Q I ⟨Gv,Hv,h⟩=>A.e Gv Hv e x hx pins s Z H Q I h
def qf0(A:All U K ε k X L m)(es:List Expr){x:F}(hx:cF m L es=some x):PIf X es (λZ H Q=>∃Gv Hv,tT U K ε Gv Hv (iF L.k x) Z H Q):=λpins s Z H Q I ⟨Gv,Hv,h⟩=>A.f Gv Hv es x hx pins s Z H Q I h
structure CompS(L:Ct)(m:Nat)(elt tg it:Expr)(ifs:List Expr)(sc:Scope)(own:List Str)(el:E)(src:I)(t:Tg)(c:F):Prop where
 chk:Ji L.sc L.N (Yh L.N sc) sc=true
 nd:(own++(Yh L.N sc).map λi=>L.N.getD i "").Nodup
 fold:Q2 it=true
 src:cC L it (cI m L (qeL tg) it)=some src
 tg:cTg { L with N:=own++(Yh L.N sc).map λi=>L.N.getD i "",sc:=sc } tg=some t
 c:cF m { L with N:=own++(Yh L.N sc).map λi=>L.N.getD i "",sc:=sc } ifs=some c
 el:cX m { L with N:=own++(Yh L.N sc).map λi=>L.N.getD i "",sc:=sc } elt=some el
theorem qkd{elt:Expr}{gs:List Comprehension}{sc:Scope}{pos:Pos}(h:cE (m+1) L (.ListComp elt gs sc pos)=some x):∃tg it ifs own el src t c,gs=[⟨tg,it,ifs,0⟩]/\CompS L m elt tg it ifs sc own el src t c/\x=.comp el src t c own.length (Yh L.N sc):=by
 match gs,h with
 |[⟨tg,it,ifs,as⟩],h=>
  let(ha,h):=qk h;obtain rfl:as=0:=of_decide_eq_true ha;dsimp only at h
  cases hx:zj tg with
  |none=>rw[hx]at h;cases h
  |some own=>rw[hx]at h;let(hc,h):=qk h;let(p1,p2,h1,h2,rfl):=qj h;let(src,t,h3,h4,rfl):=qj h1;let(c,el,h5,h6,rfl):=qj h2;simp![Bool.and_eq_true]at hc;exact{tg,it,ifs,own,el,src,t,c,rfl,{hc.1.1,of_decide_eq_true hc.1.2,hc.2,h3,h4,h5,h6},rfl}
 |[],h=>cases h
 | _::_::_,h=>cases h
def tC(U:KC)(K:Frag)(ε:XK)(Gv Hv:Hp)(f:Env->R (List D×Env)):TI:=λZ H Q=>∃N G,ER U K Gv Hv G H N Z/\Wx (XP U Gv Hv ε) (f N) λx=>∀J G' H',Po U K Gv Hv Z G H N G' H' x.2->ItR U H' G' J x.1->Q J H'
def qmZ(gd:Gd U K ε k X L)(A:All U K ε k X L m)(tg it:Expr){src:I}(hs:cC L it (cI m L (qeL tg) it)=some src):PI X tg it (tC U K ε Gv Hv (iI L.k src)):=by rintro pins s Z H Q I ⟨N,G,er,h⟩;have hs:cI m L (qeL tg) it=some src:=hs;exact A.i Gv Hv tg it src hs pins s Z H Q I ⟨N,G,er,Wx.mono h λx h J G' H' p it1=>h J G' H' p λi G2 H2 g hh sub=>it1 i G2 H2 g (λb o e=>hh b o (p.er.base b o e)) sub⟩
def qaS{elt tg it:Expr}{ifs:List Expr}{sc:Scope}{own:List Str}{el:E}{src:I}{t:Tg}{c:F}(S:CompS L m elt tg it ifs sc own el src t c):∀Z H Q,tR U K ε Gv Hv (iR L.k (.comp el src t c own.length (Yh L.N sc))) Z H Q->
  qgW own (Yh L.N sc) (tC U K ε Gv Hv (iI L.k src)) (gT U K X0 t) (λZ H Q=>∃Gv Hv,tT U K E0 Gv Hv (iF L.k c) Z H Q) (λZ H Q=>∃Gv Hv,tE U K E0 Gv Hv (jG el (iR L.k el)) Z H Q) Z H Q:=λZ H Q ⟨N,G,er,h⟩=>by
 refine{N,G,er,Wx.mono (Wx.th (x:=iI L.k src N) h) λx h J G1 H1 p1 it1=>?_};let(hz,h):=Wx.iff h;have h:=Wx.nox (Ξ':=X0) (Wx.th h)
 refine{λi mm ys Z' H'=>mm=x.1.length - i/\i<=x.1.length/\∃Nb Gb ds,ER U K G1 H1 Gb H' Nb Z'/\ql U Gb ds ys/\ds.length<=i/\
   Wx X0 (qcU t.go (λN1=>iF L.k c N1) (jG el (iR L.k el)) (x.1.drop i) Nb ds)
    (λl=>∀v G' H',Po U K Gv Hv Z G H N G' H' x.2->RvR U K Hv H G' H' x.2 Z (.tmp l) v->Q v H'),
  {x.1.length,by simp,Nat.zero_le _,qb1 own.length (Yh L.N sc) x.2,G1,[],qkb p1.er own (Yh L.N sc),.nil,Nat.le_refl _,?_},?_}
 ·rw[List.drop_zero];exact h
 rintro i mm ys Z' H' ⟨rfl,hi,Nb,Gb,ds,erb,rds,hdl,hw⟩;have it2:=it1 i Gb H' erb.g0 erb.base erb.sub
 by_cases hlt:i < x.1.length
 ·let(go,yl):=it2.1 x.1[i] (List.getElem?_eq_getElem hlt);have hyl:=rds.len;refine .inr ⟨go,by lia,_,λys' Z2 H2 w=>{x.1.length - (i+1),by lia,w},λv H2 hy=>?_⟩;let(G',hs,gs,sub,new,rep):=yl v H2 hy;have p2:=Po.more erb hs gs sub new;rw[List.drop_eq_getElem_cons hlt]at hw;refine{G1,H1,Nb,G',x.1[i],p2.er,rep,Wx.mono (Wx.th hw) λN1 hw Z1 er1=>{G1,H1,N1,G',er1,Wx.mono2 (Wx.th hw) (λ_ _ z=>False.elim z) λbt hw G2 H3 p3=>?_}};let(b,N2):=bt
  cases b with
  |true=>rw[if_pos rfl];refine{G1,H1,N2,G2,p3.er,Wx.mono2 (Wx.th hw) (λ_ _ z=>False.elim z) λy hw w G3 H4 p4 rep4=>{rfl,hlt,y.2,G3,ds++[y.1],p4.er,?_,by simp;lia,(Wx.iff hw).2}};exact(((rds.same gs).same p3.gs).same p4.gs).snoc rep4
  |false=>rw[if_neg (λz=>by cases z)];exact{rfl,hlt,N2,G2,ds,p3.er,(rds.same gs).same p3.gs,by lia,hw}
 ·have e:i=x.1.length:=by lia
  subst e;refine .inl ⟨it2.2 rfl,λp hp=>?_⟩;rw[List.drop_length]at hw;have p2:=p1.trans (Po.more p1.er erb.base erb.g0 erb.sub erb.fresh);let(z1,z2):=p2.er.newList hp rds;exact hw _ _ _ (p2.trans z1) (z2.back p2.hs)
def qhE(gd:Gd U K ε k X L)(A:All U K ε k X L m)(ih:∀ε' X' L',Gd U K ε' k X' L'->All U K ε' k X' L' m)(elt:Expr)(gs:List Comprehension)(sc:Scope)(pos:Pos)(h:cE (m+1) L (.ListComp elt gs sc pos)=some x):PE X (.ListComp elt gs sc pos) (tR U K ε Gv Hv (iR L.k x)):=by
 let(tg,it,ifs,own,el,src,t,c,rfl,S,rfl):=qkd h;have B:BlkScope X own (Yh L.N sc) sc:=Za gd S.chk
 exact PE.imp (qgY own (Yh L.N sc) gd.calm B (qmZ (Gv:=Gv) (Hv:=Hv) gd A tg it S.src) (λcl C fp s2 H2=>qhD (Yi gd B S.nd cl C fp s2 H2) tg S.tg) (λcl C fp s2 H2=>qf0 (ih _ _ _ (Yi gd B S.nd cl C fp s2 H2)) ifs S.c)
  (λcl C fp s2 H2=>qkc (ih _ _ _ (Yi gd B S.nd cl C fp s2 H2)) elt S.el) (Z7 S.fold X.env)) (qaS S)
theorem qhF(gd:Gd U K ε k X L)(A:All U K ε k X L m)(f:Str)(es:List Expr)(p q:Pos)(h:cE (m+1) L (.Call (.Name f p) es [] q)=some x):PE X (.Call (.Name f p) es [] q) (tR U K ε Gv Hv (iR L.k x)):=by
 let(hn,h):=qk h;simp![Bool.and_eq_true]at hn;let((h1,h2),h3):=hn
 by_cases hi:f = "isinstance"
 ·subst hi;rw[if_pos rfl]at h
  match es,h with
  |[a,b],h=>
   cases b with
   |Name t tp=>exact qj6 gd A a t p tp q h2 h
   |_=>cases h
  |[],h=>cases h
  |[_],h=>cases h
  | _::_::_::_,h=>cases h
 rw[if_neg hi]at h
 by_cases ht:L.tab.contains f=true
 ·rw[if_pos ht]at h;exact qeY gd A f es p q h1 h2 ht h
 rw[if_neg ht]at h
 by_cases hk:L.cs.tab.contains f=true
 ·rw[if_pos hk]at h;exact qhC gd A f es p q h1 h2 hk h
 rw[if_neg hk]at h
 match es,h with
 |[a],h=>
  have h:(match lrE L f a with |some t=>_ |none=>_)=_:=h
  cases hl:lrE L f a with
  |some t=>rw[hl]at h;exact qmn gd A f a p q h2 hl h
  |none=>
   rw[hl]at h;have h:(match ssE L f a with |some t=>_ |none=>_)=_:=h
   cases hs:ssE L f a with
   |some t=>rw[hs]at h;exact qj4 gd A f a p q h2 hs h
   |none=>rw[hs]at h;exact qeZ gd A f a p q h2 h
 |[a,b],h=>exact qe0 gd A f a b p q h2 h
 |[],h=>cases h
 | _::_::_::_,h=>cases h
theorem qn8(gd:Gd U K ε k X L)(A:All U K ε k X L m)(ih:∀ε' X' L',Gd U K ε' k X' L'->All U K ε' k X' L' m)(e:Expr)(x:E)(h:cE (m+1) L e=some x):PE X e (tR U K ε Gv Hv (iR L.k x)):=by
 cases e with
 |Name x pos=>exact qeO gd h pos
 |Constant c j pos=>exact qeU c j pos h
 |BinOp a op b pos=>exact qeV A a b op pos h
 |UnaryOp op a pos=>
  cases op with
  |USub=>exact qjL A a pos h
  |Not=>exact qhs A a pos h
  |_=>cases h
 |BoolOp op vs pos=>
  match vs,h with
  |[],h=>cases op<;>cases h
  |[a],h=>cases op<;>(let(a',h1,rfl):=map_some h;exact PE.imp (qix (A.r Gv Hv _ _ h1)) λZ H Q h=>h)
  | a::b::l,h=>
   cases op with
   |And=>exact qjM A a b l pos h
   |Or=>cases h
 |Compare a ops bs pos=>
  match ops,bs,h with
  |[op],[b],h=>exact qht gd A a b op pos h
  |[],_,h=>cases h
  |[_],[],h=>cases h
  | [_],_::_::_,h=>cases h
  | _::_::_,_,h=>cases h
 |IfExp c a b pos=>exact qjN A c a b pos h
 |Subscript a b pos=>exact qjQ gd A a b pos h
 |List es pos=>exact qjR A es pos h
 |Tuple es j pos=>exact qjS A es j pos h
 |Call fn es kws q=>
  cases fn with
  |Name f p=>
   cases kws with
   |nil=>exact qhF gd A f es p q h
   |cons kw kws=>cases h
  |Attribute o x ap=>
   cases kws with
   |nil=>exact qhB gd A o x ap es q h
   |cons kw kws=>cases h
  |_=>cases h
 |Attribute o x pos=>exact qj8 gd A o x pos h
 |ListComp elt gens sc pos=>exact qhE gd A ih elt gens sc pos h
 |_=>cases h
theorem all:∀(m:Nat) (ε:XK) (X:Cx) (L:Ct),Gd U K ε k X L->All U K ε k X L m
 |0,_,_,_,_=>qn1
 | m+1,ε,X,L,gd=>
  have A:=all m ε X L gd
  ⟨λGv Hv=>qn8 gd A (all m),λGv Hv=>qn2 gd A,λGv Hv=>qn5 gd A,λGv Hv=>qml A,λGv Hv=>qmm A,λGv Hv=>qn3 A,λGv Hv=>qn4 A,λGv Hv=>qn6 gd A,λGv Hv=>qn7 gd A⟩
end
section
variable(U:KC)(K:Frag)(Gv Hv:Hp)
def FlP(G:Hp)(D:Ends):Fl->Prop
 | .next N'=>∀Z' G' H',ER U K Gv Hv G' H' N' Z'->qp G G'->D.nx Z' H'
 |.ret r=>∀v G' H',qp Hv H'->qp Gv G'->qp G' H'->(∀a o,G' a=some o->(∃o',Gv a=some o')\/Hv a=none)->ReR U G' H' Hv r v->D.rt v H'
def tS(ε:XK)(f:Env->R Fl):TS:=λD Z H=>∃N G,ER U K Gv Hv G H N Z/\Wx (XP U Gv Hv ε) (f N) (FlP U K Gv Hv G D)
end
structure Gs(U:KC)(K:Frag)(ε:XK)(k:Nat)(X:Cx)(L:Ct):Prop extends Gd U K ε k X L where
 own:L.z=false->PassesOwn (model X.prog X.w) X.A X.env X.xe
 ex:X.ex=[]
 stk:X.stack=X.env::X.outer/\X.env.frame=some X.env.locals
 sceq:X.env.scope=L.sc
 fnk:L.sc.kind=.function
def PS.imp{X:Cx}{st:Stmt}{t t':TS}(h:PS X st t')(i:∀D Z H,t D Z H->t' D Z H):PS X st t:=λpins s Z H D I hw=>h pins s Z H D I (i D Z H hw)
def PSs.imp{X:Cx}{st:List Stmt}{t t':TS}(h:PSs X st t')(i:∀D Z H,t D Z H->t' D Z H):PSs X st t:=λpins s Z H D I hw=>h pins s Z H D I (i D Z H hw)
def qc6{e:Expr}(h:yC e=true)(t:Option Expr)(l:Nat)(env:PySem.Env):swapsWith e t l env=pure false:=by cases e<;>first|rfl|(simp[yC]at h)
section
variable{U:KC}{ε:XK}{K:Frag}{Gv Hv:Hp}{k m w:Nat}{X:Cx}{L:Ct}
def zW{N:Env}{i:Nat}{l:List D}(h:zi N i=some l):N[i]?=some (.own l):=by
 unfold zi at h
 split at h
 ·rename_i e;cases h;exact e
 ·cases h
def ER.ownSlot{G H:Hp}{N:Env}{Z:L2.St}{i:Nat}{l:List D}(er:ER U K Gv Hv G H N Z)(e:N[i]?=some (.own l)):∃a xs,Z[i]?=some (some (.ref a))/\H a=some (.lst xs)/\ql U G l xs:=by let(a,xs,z,h1,h2,h3,h4):=er.sl i _ e;exact⟨a,xs,z,h1,h4⟩
theorem qc7(gd:Gd U K ε k X L)(A:All U K ε k X L m)(x:Str)(a:Expr)(xp ap cp p:Pos){i:Nat}{a':E}(hl:(ap.endLine == cp.line)=true)(s1:qy a=false)(hi:qd0 L x=some i)(ha:cX m L a=some a') :
  PS X (.Expr (.Call (.Attribute (.Name x xp) "append" ap) [a] [] cp) p) (tS U K Gv Hv ε (iS L.k w (.app i a'))):=by
 have few:((backTo cp (starEach [a] X.env)).all (λx=>!x.1)&&(backToKw cp (keywordEach [] X.env)).all (λx=>x.1.isSome)&&decide (([a]:List Expr).length+([]:List Keyword).length+(if ([]:List Keyword).isEmpty then 0 else 1) < 30))=true:=by rw[qf s1];rfl
 refine PS.imp (yz (qiY PySem.F.plainAttrs_list PySem.F.slot_list_append PySem.F.type_list_append qcm (qaK gd hi xp) (qi (A.e Gv Hv _ _ ha) qv (qf s1)) rfl few hl (qf s1) rfl) rfl) λD Z H hq1=>?_;let(N,G,er,h):=hq1;have h:Wx _ (α:=Fl) (match zi N i with |none=>R.no |some _=>(jG a' (iR L.k a') N).th λy=>match zi y.2 i with |some l=>if l.length < sizeLine then .ok (.next (y.2.set i (.own (l++[y.1])))) else .no |none=>.no) _:=h
 cases e1:zi N i with
 |none=>rw[e1]at h;exact False.elim h
 |some l0=>
  rw[e1]at h;let(b,xs,z,h1,h2):=er.ownSlot (zW e1);refine{_,z,.inl {rfl,xs,SqL.of h1},N,G,er,Wx.mono (Wx.th h) λy h v G1 H1 p1 r1=>?_}
  cases e2:zi y.2 i with
  |none=>rw[e2]at h;exact False.elim h
  |some l=>rw[e2]at h;let(hz,h):=Wx.iff h;let(b',ys,z',h3,h4):=p1.er.ownSlot (zW e2);rw[z]at z';cases z';refine{b,ys,v,rfl,rfl,h3,by rw[<-h4.len];exact hz,?_};exact h Z G1 _ (p1.er.write (zW e2) z (h4.snoc r1)) p1.gs
theorem qc8(gd:Gd U K ε k X L)(A:All U K ε k X L m)(x:Str)(a:Expr)(xp ap cp p:Pos){i:Nat}{a':E}(hl:(ap.endLine == cp.line)=true)(s1:qy a=false)(hi:qd0 L x=some i)(ha:cE m L a=some a') :
  PS X (.Expr (.Call (.Attribute (.Name x xp) "extend" ap) [a] [] cp) p) (tS U K Gv Hv ε (iS L.k w (.ext i a'))):=by
 have few:((backTo cp (starEach [a] X.env)).all (λx=>!x.1)&&(backToKw cp (keywordEach [] X.env)).all (λx=>x.1.isSome)&&decide (([a]:List Expr).length+([]:List Keyword).length+(if ([]:List Keyword).isEmpty then 0 else 1) < 30))=true:=by rw[qf s1];rfl
 refine PS.imp (yz (qiY PySem.F.plainAttrs_list PySem.F.slot_list_extend PySem.F.type_list_extend qcn (qaK gd hi xp) (qi (A.r Gv Hv _ _ ha) qv (qf s1)) rfl few hl (qf s1) rfl) rfl) λD Z H hq1=>?_;let(N,G,er,h):=hq1;have h:Wx _ (α:=Fl) (match zi N i with |none=>R.no |some _=>(iR L.k a' N).th λy=>match zi y.2 i,y.1.plain? with |some l,some n=>if l.length+n.length<=sizeLine then .ok (.next (y.2.set i (.own (l++n)))) else .no |_,_=>.no) _:=h
 cases e1:zi N i with
 |none=>rw[e1]at h;exact False.elim h
 |some l0=>
  rw[e1]at h;let(b,xs,z,h1,h2):=er.ownSlot (zW e1);refine{_,z,.inl {rfl,xs,SqL.of h1},N,G,er,Wx.mono (Wx.th h) λy h v G1 H1 p1 r1=>?_}
  cases e2:zi y.2 i with
  |none=>rw[e2]at h;exact False.elim h
  |some l=>
   cases e3:y.1.plain? with
   |none=>rw[e2,e3]at h;exact False.elim h
   |some n=>rw[e2,e3]at h;let(hz,h):=Wx.iff h;let(b',ys,z',h3,h4):=p1.er.ownSlot (zW e2);let(c,zs,rfl,h5,h6):=r1.plain p1.er e3;rw[z]at z';cases z';refine{b,c,ys,zs,rfl,rfl,h3,h5,by rw[<-h4.len,<-h6.len];exact hz,?_};exact h Z G1 _ (p1.er.write (zW e2) z (h4.app h6)) p1.gs
theorem qke(gd:Gd U K ε k X L)(A:All U K ε k X L m)(e:Expr)(p:Pos){z:E}(h:cV m L e=some z):PS X (.Return (some e) p) (tS U K Gv Hv ε (iS L.k w (.ret z))):=by
 have gen:(cE m L e).bind Q4=some z->PS X (.Return (some e) p) (tS U K Gv Hv ε (iS L.k w (.ret z))):=λh=>by
  let(y,h1,h2):=Option.bind_eq_some_iff.mp h;let(rfl,hv):=zF h2;refine PS.imp (qb5 (A.r Gv Hv _ _ h1)) λD Z H hq1=>?_;let(N,G,er,h):=hq1;have h:=Wx.th (x:=qeM y (iR L.k y) N) h;rw[qhn hv]at h;refine{N,G,er,Wx.mono (Wx.th h) λx h v G1 H1 p1 r1=>?_};let(rv,N1):=x
  cases rv with
  |val d=>exact h v G1 H1 p1.er.base p1.er.g0 p1.er.sub p1.er.fresh r1
  |tmp l=>let(a,xs,rfl,h1,h2,h3,h4,h5,h6):=r1;exact h _ G1 H1 p1.er.base p1.er.g0 p1.er.sub p1.er.fresh ⟨a,xs,rfl,h1,h3,h4,h6⟩
  |_=>exact False.elim h
 cases e with
 |Name x pos=>
  rcases YY gd h pos with ⟨i,rfl,P⟩|⟨d,v,rfl,e3,P⟩
  ·refine PS.imp (qb5 P) λD Z H hq1=>?_;let(N,G,er,h):=hq1;have h:=Wx.th (x:=slX N i) h;unfold slX at h
   cases q:N[i]? with
   |none=>rw[q]at h;exact False.elim h
   |some s=>
    rw[q]at h;have w:=er.sl i s q
    cases s with
    |val d=>let(v,z,r):=w;exact{v,z,h v G H er.base er.g0 er.sub er.fresh r}
    |own l=>let(a,xs,z,r1,r2,r3,r4):=w;exact{_,z,h _ G H er.base er.g0 er.sub er.fresh ⟨a,xs,rfl,r1,r2,r3,r4⟩}
    |_=>exact False.elim h
  ·exact PS.imp (qb5 P) λD Z H ⟨N,G,er,h⟩=>h v G H er.base er.g0 er.sub er.fresh (e3 G)
 |_=>exact gen h
def AsR(U:KC)(K:Frag)(Hv G H:Hp)(N:Env)(Z:L2.St):Sl->V->Prop
 |.val d,v=>Rep U G d v
 |.own l,v=>∃a xs,v=.ref a/\H a=some (.lst xs)/\Hv a=none/\G a=none/\¬ qbD N Z a/\ql U G l xs
 |_,_=>False
def tA(U:KC)(K:Frag)(ε:XK)(Gv Hv:Hp)(f:Env->R (Sl×Env)):TE:=λZ H Q=>∃N G,ER U K Gv Hv G H N Z/\Wx (XP U Gv Hv ε) (f N) λs=>∀v G' H',Po U K Gv Hv Z G H N G' H' s.2->AsR U K Hv G' H' s.2 Z s.1 v->Q v H'
theorem qhG{G H:Hp}{N:Env}{Z:L2.St}{s:Sl}{v:V}{i:Nat}(er:ER U K Gv Hv G H N Z)(h:AsR U K Hv G H N Z s v):ER U K Gv Hv G H (N.set i s) (Z.set i (some v)):=by
 cases s with
 |val d=>exact er.setVal h
 |own l=>let(a,xs,rfl,h1,h2,h3,h4,h5):=h;exact er.setOwn h1 h2 h3 h4 h5
 |_=>exact False.elim h
theorem qm0{z:E}(hv:∀i,z≠.var i)(Z:L2.St)(H:Hp)(Q:VK)(h:tA U K ε Gv Hv (qbF z (iR L.k z)) Z H Q):tR U K ε Gv Hv (iR L.k z) Z H Q:=by
 let(N,G,er,h):=h;rw[qho hv]at h;refine{N,G,er,Wx.mono (Wx.th h) λx h v G1 H1 p1 r1=>?_};let(rv,N1):=x
 cases rv with
 |val d=>exact h v G1 H1 p1 r1
 |tmp l=>let(a,xs,rfl,h1,h2,h3,h4,h5,h6):=r1;exact h _ G1 H1 p1 ⟨a,xs,rfl,h1,h3,h4,h5,h6⟩
 |_=>exact False.elim h
theorem qm1(gd:Gd U K ε k X L)(A:All U K ε k X L m)(e:Expr){z:E}(h:cV m L e=some z):PE X e (tA U K ε Gv Hv (qbF z (iR L.k z))):=by
 have gen:(cE m L e).bind Q4=some z->PE X e (tA U K ε Gv Hv (qbF z (iR L.k z))):=λh=>by let(y,h1,h2):=Option.bind_eq_some_iff.mp h;let(rfl,hv):=zF h2;exact PE.imp (A.r Gv Hv _ _ h1) (qm0 hv)
 cases e with
 |Name x pos=>
  have P:=qaL (Gv:=Gv) (Hv:=Hv) gd h pos;rcases YY gd h pos with ⟨i,rfl,_⟩|⟨d,v,rfl,_,_⟩
  ·refine PE.imp P λZ H Q hq1=>?_;let(N,G,er,h):=hq1;exact{N,G,er,Wx.mono (Wx.th (x:=slE N i) h) λy h v G1 H1 p1 r1=>h v G1 H1 p1 r1}
  ·exact PE.imp P λZ H Q ⟨N,G,er,h⟩=>⟨N,G,er,h⟩
 |_=>exact gen h
theorem qkf(gs:Gs U K ε k X L)(A:All U K ε k X L m)(x:Str)(e:Expr)(xp p:Pos){i:Nat}{z:E}(hi:qhk L x=some i)(hz:cV m L e=some z):PS X (.Assign [.Name x xp] e p) (tS U K Gv Hv ε (iS L.k w (.set i z))):=by
 have gd:=gs.toGd;let(l1,l2,hN,hxi):=qfX gd hi
 have fin:∀(D:Ends) (Z:L2.St) (H:Hp),tS U K Gv Hv ε (iS L.k w (.set i z)) D Z H->tA U K ε Gv Hv (qbF z (iR L.k z)) Z H (λy H1=>qd6 i y Z H1 D.nx):=λD Z H ⟨N,G,er,h⟩=>{N,G,er,Wx.mono (Wx.th (x:=qbF z (iR L.k z) N) h) λs h v G1 H1 p1 r1=>h _ G1 H1 (qhG p1.er r1) p1.gs}
 by_cases hn:yC e=true
 ·exact PS.imp (qfD (i:=i) hN hxi l1 (qm1 gd A e hz) (qc6 hn _ _ _) l2) fin
 cases e with
 |ListComp elt gens sc cp=>
  have hsw:∀b:Bool,(X.env.blockKind == .function&&X.env.kindOf x == some .local&&xp.line == cp.line&&!(sc.names.any λ(n,k)=>n == x&&(k == .local||k == .cell)))=b->swapsWith (.ListComp elt gens sc cp) (some (.Name x xp)) p.line X.env=pure b:=λb hb=>by rw[<-hb];rfl
  cases hb:(X.env.blockKind == .function&&X.env.kindOf x == some .local&&xp.line == cp.line&&!(sc.names.any λ(n,k)=>n == x&&(k == .local||k == .cell))) with
  |false=>exact PS.imp (qfD (i:=i) hN hxi l1 (qm1 gd A _ hz) (hsw false hb) l2) fin
  |true=>
   have hloc:X.env.scope.names.lookup x=some .local:=by
    simp![Bool.and_eq_true]at hb
    have:=hb.1.1.2
    unfold PySem.Env.kindOf at this
    simpa using this
   let(y,h1,h2):=Option.bind_eq_some_iff.mp hz;let(rfl,hv):=zF h2
   cases m with
   |zero=>cases h1
   |succ m=>
    let(tg,it,ifs,own,el,src,t,c,rfl,S,rfl):=qkd h1;have B:BlkScope X own (Yh L.N sc) sc:=Za gd S.chk
    exact PS.imp (qgZ (i:=i) own (Yh L.N sc) hN hxi hloc gd.calm B (qmZ (Gv:=Gv) (Hv:=Hv) gd (all m _ X L gd) tg it S.src) (λcl C fp s2 H2=>qhD (Yi gd B S.nd cl C fp s2 H2) tg S.tg) (λcl C fp s2 H2=>qf0 (all m _ _ _ (Yi gd B S.nd cl C fp s2 H2)) ifs S.c)
     (λcl C fp s2 H2=>qkc (all m _ _ _ (Yi gd B S.nd cl C fp s2 H2)) elt S.el) (hsw true hb) (Z7 S.fold X.env)) λD Z H h=>qaS S Z H _ (qm0 hv Z H _ (fin D Z H h))
 |SetComp=>cases m<;>cases hz
 |DictComp=>cases m<;>cases hz
 |_=>exact absurd rfl hn
def qkg{n:Str}{l:Es}(st:Stmt):PS X st (tS U K Gv Hv ε (iS L.k w (.rai n l))):=λpins s Z H D I hq=>by
 let(N,G,er,hw):=hq;have hw:Wx (XP U Gv Hv ε) ((noX (iEs L.k l N)).th λx=>(R.no:R Fl)) _:=hw
 cases e:iEs L.k l N<;>(rw[e]at hw;exact False.elim hw)
structure AllS(U:KC)(K:Frag)(ε:XK)(X:Cx)(L:Ct)(m w:Nat):Prop where
 s:∀Gv Hv st x,cS m L st=some x->PS X st (tS U K Gv Hv ε (iS L.k w x))
 ss:∀Gv Hv l x,cSs m L l=some x->PSs X l (tS U K Gv Hv ε (iSs L.k w x))
theorem FlP.back{G G1:Hp}{D:Ends}{f:Fl}(h:FlP U K Gv Hv G D f)(g:qp G G1):FlP U K Gv Hv G1 D f:=by
 cases f with
 |next N=>exactλZ' G' H' er g'=>h Z' G' H' er λb o e=>g' b o (g b o e)
 |ret r=>exact h
def qmp(r:Env->R (Rv×Env))(i:Nat)(d:D)(N:Env):R Fl:=match zi N i with
 |none=>.no
 |some _=>(r N).th λz=>match zi z.2 i,z.1.int? with
  |some l,some n=>(match ixN l.length n with
   |some k=>.ok (.next (z.2.set i (.own (l.set k d))))
   |none=>.no)
  |_,_=>.no
def gS(U:KC)(K:Frag)(ε:XK)(Gv Hv:Hp)(r:Env->R (Rv×Env))(i:Nat):TG:=λv Z H Q=>∃(N:Env) (G:Hp) (d:D) (D:Ends),ER U K Gv Hv G H N Z/\Rep U G d v/\Wx (XP U Gv Hv ε) (qmp r i d N) (FlP U K Gv Hv G D)/\∀H',D.nx Z H'->Q Z H'
theorem qmq(gd:Gd U K ε k X L)(A:All U K ε k X L m)(x:Str)(i:Expr)(xp p:Pos)(hs:YV i=true){j:Nat}{i':E}(hj:qd0 L x=some j)(hi:cE m L i=some i'):PG X (.Subscript (.Name x xp) i p) (gS U K ε Gv Hv (iR L.k i') j):=by
 refine PG.imp (qiD (qaK gd hj xp) (A.r Gv Hv _ _ hi) qel (λv=>by cases i<;>first|rfl |(simp[YV]at hs))) λv Z H Q hq1=>?_;let(N,G,d,D,er,r,h,hQ):=hq1;unfold qmp at h
 cases e1:zi N j with
 |none=>rw[e1]at h;exact False.elim h
 |some l0=>
  rw[e1]at h;let(b,xs,z,h1,h2):=er.ownSlot (zW e1);refine{_,z,N,G,er,Wx.mono (Wx.th h) λy h u G1 H1 p1 r1=>?_}
  cases e2:zi y.2 j with
  |none=>rw[e2]at h;exact False.elim h
  |some l=>
   cases e3:y.1.int? with
   |none=>rw[e2,e3]at h;exact False.elim h
   |some n=>
    rw[e2,e3]at h;dsimp only at h
    cases e4:ixN l.length n with
    |none=>rw[e4]at h;exact False.elim h
    |some c=>rw[e4]at h;let(b',ys,z',h3,h4):=p1.er.ownSlot (zW e2);rw[z]at z';cases z';refine{b,ys,n,c,rfl,r1.int e3,h3,by rw[<-h4.len];exact e4,hQ _ ?_};exact h Z G1 _ (p1.er.write (zW e2) z (h4.set c (r.same p1.gs))) p1.gs
def qc9(gd:Gd U K ε k X L)(A:All U K ε k X L m)(x:Str)(i e:Expr)(xp sp p:Pos){y:S}(h:cS (m+1) L (.Assign [.Subscript (.Name x xp) i sp] e p)=some y):PS X (.Assign [.Subscript (.Name x xp) i sp] e p) (tS U K Gv Hv ε (iS L.k w y)):=by let(hc,h):=qk h;let(j,q,h1,h2,rfl):=qj h;let(i',a',h3,h4,rfl):=qj h2;rw[Bool.and_eq_true]at hc;refine PS.imp (qiE (A.e Gv Hv _ _ h4) (qmq (Gv:=Gv) (Hv:=Hv) gd A x i xp sp hc.2 h1 h3) (show swapsWithSole [.Subscript (.Name x xp) i sp] e p.line X.env=pure false from qc6 hc.1 (some (.Subscript (.Name x xp) i sp)) p.line X.env) rfl rfl) λD Z H hq1=>?_;let(N,G,er,h):=hq1;exact{N,G,er,Wx.mono (Wx.th (x:=jG a' (iR L.k a') N) h) λy h v G1 H1 p1 r1=>{y.2,G1,y.1,D,p1.er,r1,Wx.mono (show Wx _ (qmp (iR L.k i') j y.1 y.2) _ from h) λf hf=>hf.back p1.gs,λ_ h=>h}}
theorem qmr(A:All U K ε k X L m)(S:AllS U K ε X L m w)(c:Expr)(a b:List Stmt)(p:Pos){x:DE.S}(h:cS (m+1) L (.If c a b p)=some x):PS X (.If c a b p) (tS U K Gv Hv ε (iS L.k w x)):=by
 let(c',q,h1,h2,rfl):=qj h;let(a',b',h3,h4,rfl):=qj h2;refine PS.imp (qb6 (A.t Gv Hv _ _ h1) (S.ss Gv Hv _ _ h3) (S.ss Gv Hv _ _ h4)) λD Z H hq1=>?_;let(N,G,er,h):=hq1;refine{N,G,er,Wx.mono (Wx.th (x:=iT L.k c' N) h) λt h G1 H1 p1=>?_};let(d,N1):=t
 cases d with
 |true=>rw[if_pos rfl];exact{N1,G1,p1.er,Wx.mono h λf hf=>hf.back p1.gs}
 |false=>rw[if_neg (λz=>by cases z)];exact{N1,G1,p1.er,Wx.mono h λf hf=>hf.back p1.gs}
def qkh(gs:Gs U K ε k X L)(A:All U K ε k X L m)(S:AllS U K ε X L m w)(tg it:Expr)(body:List Stmt)(p:Pos){x:DE.S}(h:cS (m+1) L (.For tg it body [] p)=some x):PS X (.For tg it body [] p) (tS U K Gv Hv ε (iS L.k w x)):=by
 let(hf,h):=qk h;rw[Bool.and_eq_true]at hf;let(hz,hf):=hf;have hz:L.z=false:=(-hz:)
 let(q,b',h1,h2,rfl):=qj h;let(t,src,h3,h4,rfl):=qj h1;refine PS.imp (qiG (gs.own hz) gs.calm (A.i Gv Hv _ _ _ h4) (qhD (Ξ:=XP U Gv Hv ε) gs.toGd tg h3) (S.ss Gv Hv _ _ h2) (Z7 hf X.env)) λD Z H hq1=>?_;let(N,G,er,h):=hq1;refine{N,G,er,Wx.mono (Wx.th (x:=iI L.k src N) h) λx h J G1 H1 p1 it1=>?_}
 refine{λi mm Z' H'=>mm=x.1.length - i/\i<=x.1.length/\∃Nb Gb,ER U K Gv Hv Gb H' Nb Z'/\qp G1 Gb/\Wx (XP U Gv Hv ε) (qly (λd N1=>(t.go d N1).th λN2=>iSs L.k w b' N2) (x.1.drop i) Nb) (FlP U K Gv Hv G D),
  {x.1.length,by simp,Nat.zero_le _,x.2,G1,p1.er,λ_ _ e=>e,by rw[List.drop_zero];exact h},?_}
 rintro i mm Z' H' ⟨rfl,hi,Nb,Gb,erb,g1,hw⟩;have it2:=it1 i Gb H' g1 erb.base erb.sub
 by_cases hlt:i < x.1.length
 ·let(go,yl):=it2.1 x.1[i] (List.getElem?_eq_getElem hlt);refine .inr ⟨go,_,λZ2 H2 w=>{x.1.length - (i+1),by omega,w},λv H2 hy=>?_⟩;let(G',hs,gss,sub,new,rep):=yl v H2 hy;have p2:=Po.more erb hs gss sub new;rw[List.drop_eq_getElem_cons hlt]at hw;refine{Gv,Hv,Nb,G',x.1[i],p2.er,rep,Wx.mono (Wx.th (Wx.th hw)) λN2 hw Z2 er2=>{N2,G',er2,Wx.mono hw λf hf=>?_}}
  cases f with
  |next N3=>exactλZ3 G3 H3 er3 g3=>{rfl,hlt,N3,G3,er3,λb o e=>g3 b o (gss b o (g1 b o e)),hf}
  |ret r=>exact hf
 ·have e:i=x.1.length:=by omega
  subst e;rw[List.drop_length]at hw;exact .inl ⟨it2.2 rfl,hw Z' Gb H' erb λb o e=>g1 b o (p1.gs b o e)⟩
theorem qe2(gs:Gs U K ε k X L)(A:All U K ε k X L m)(S:AllS U K ε X L m w)(c:Expr)(body:List Stmt)(p:Pos){x:DE.S}(h:cS (m+1) L (.While c body [] p)=some x):PS X (.While c body [] p) (tS U K Gv Hv ε (iS L.k w x)):=by
 let(hz,h):=qk h;have hz:L.z=false:=(-hz:)
 let(c',b',h1,h2,rfl):=qj h;refine PS.imp (qd8 (gs.own hz) (A.t Gv Hv _ _ h1) (S.ss Gv Hv _ _ h2)) λD Z H hq1=>?_;let(N,G,er,h):=hq1;refine{λn Z' H'=>∃Nb Gb,ER U K Gv Hv Gb H' Nb Z'/\qp G Gb/\Wx (XP U Gv Hv ε) (whL (λN1=>iT L.k c' N1) (λN1=>iSs L.k w b' N1) n Nb) (FlP U K Gv Hv G D),{w,N,G,er,λ_ _ e=>e,h},?_};rintro n Z' H' ⟨Nb,Gb,erb,g1,hw⟩
 cases n with
 |zero=>exact False.elim hw
 |succ n=>
  refine{Nb,Gb,erb,Wx.mono (Wx.th (x:=iT L.k c' Nb) hw) λb hw G2 H2 p2=>?_};let(d,N2):=b
  cases d with
  |false=>rw[if_neg (λz=>by cases z)];exact hw Z' G2 H2 p2.er λb o e=>p2.gs b o (g1 b o e)
  |true=>
   rw[if_pos rfl];refine{_,λZ3 H3 w=>{n,Nat.lt_succ_self n,w},N2,G2,p2.er,Wx.mono (Wx.th hw) λf hf=>?_}
   cases f with
   |next N3=>exactλZ3 G3 H3 er3 g3=>{N3,G3,er3,λb o e=>g3 b o (p2.gs b o (g1 b o e)),hf}
   |ret r=>exact hf
theorem qhH(gd:Gd U K ε k X L)(A:All U K ε k X L m)(e:Expr)(p:Pos){x:S}(h:cS (m+1) L (.Expr e p)=some x):PS X (.Expr e p) (tS U K Gv Hv ε (iS L.k w x)):=by
 have gen:oif (yC e) ((cE m L e).map .expr)=some x->PS X (.Expr e p) (tS U K Gv Hv ε (iS L.k w x)):=λh=>by let(hn,h):=qk h;let(a',h1,rfl):=map_some h;refine PS.imp (yz (A.r Gv Hv _ _ h1) (qc6 hn _ _ _)) λD Z H hq1=>?_;let(N,G,er,h):=hq1;exact{N,G,er,Wx.mono (Wx.th (x:=iR L.k a' N) h) λx h v G1 H1 p1 r1=>h Z G1 H1 p1.er p1.gs}
 cases e with
 |Call fn es kws cp=>
  cases fn with
  |Attribute o meth ap=>
   cases o with
   |Name y yp=>
    cases kws with
    |cons kw kws=>exact match es,h,gen with |[],h,gen=>gen h |[_],h,gen=>gen h|_::_::_,h,gen=>gen h
    |nil=>
     match es,h,gen with
     |[a],h,gen=>
      let(hc,h):=qk h;rw[Bool.and_eq_true]at hc;have hs:qy a=false:=(-hc.2:)
      by_cases h1:meth = "append"
      ·subst h1;rw[if_pos rfl]at h;let(i,a',h2,h3,rfl):=qj h;exact qc7 gd A y a yp ap cp p hc.1 hs h2 h3
      rw[if_neg h1]at h
      by_cases h2:meth = "extend"
      ·subst h2;rw[if_pos rfl]at h;let(i,a',h2,h3,rfl):=qj h;exact qc8 gd A y a yp ap cp p hc.1 hs h2 h3
      rw[if_neg h2]at h;cases h
     |[],h,gen=>cases h
     | _::_::_,h,gen=>exact gen h
   |_=>exact gen h
  |_=>exact gen h
 |_=>exact gen h
theorem qn9(gs:Gs U K ε k X L)(A:All U K ε k X L m)(S:AllS U K ε X L m w)(st:Stmt)(x:DE.S)(h:cS (m+1) L st=some x):PS X st (tS U K Gv Hv ε (iS L.k w x)):=by
 cases st with
 |Pass p=>cases h;exact PS.imp qgn λD Z H ⟨N,G,er,h⟩=>h Z G H er λ_ _ e=>e
 |Raise ex ca p=>
  have stuck:∀{y:DE.S},y=.stuck->PS X (.Raise ex ca p) (tS U K Gv Hv ε (iS L.k w y)):=λ{y} e=>by subst e;exactλpins s Z H D I ⟨N,G,er,h⟩=>False.elim h
  replace h:=(Option.some.inj h).symm
  cases e:ex.bind cN with
  |none=>rw[e]at h;exact stuck h
  |some t=>
   rw[e]at h
   cases ca with
   |some _=>exact stuck h
   |none=>
    dsimp only at h
    by_cases hc:(!L.z&&xnB L t.1)=true
    case neg=>rw[if_neg hc]at h;exact stuck h
    rw[if_pos hc]at h;simp![Bool.and_eq_true,Bool.not_eq_true']at hc
    cases e2:cEs m L (t.2.1::t.2.2) with
    |none=>rw[e2]at h;exact stuck h
    |some l=>rw[e2]at h;subst h;exact qkg _
 |Expr e p=>exact qhH gs.toGd A e p h
 |Return o p=>
  cases o with
  |some e=>let(y,h1,rfl):=map_some h;exact qke gs.toGd A e p h1
  |none=>cases h;exact PS.imp qgo λD Z H ⟨N,G,er,h⟩=>h .non G H er.base er.g0 er.sub er.fresh (by simp![ReR,Rep])
 |Assign tgs e p=>
  match tgs,h with
  |[],h=>cases h
  | _::_::_,h=>cases h
  |[tg],h=>
   cases tg with
   |Name x xp=>let(i,z,h1,h2,rfl):=qj h;exact qkf gs A x e xp p h1 h2
   |Tuple es j tp=>cases h
   |Subscript o i sp=>
    cases o with
    |Name x xp=>exact qc9 gs.toGd A x i e xp sp p h
    |_=>cases h
   |_=>cases h
 |If c a b p=>exact qmr A S c a b p h
 |For tg it body orelse p=>
  cases orelse with
  |nil=>exact qkh gs A S tg it body p h
  |cons s l=>cases h
 |While c body orelse p=>
  cases orelse with
  |nil=>exact qe2 gs A S c body p h
  |cons s l=>cases h
 |_=>cases h
theorem qms(S:AllS U K ε X L m w):∀l x,cSs (m+1) L l=some x->PSs X l (tS U K Gv Hv ε (iSs L.k w x))
 |[],_,h=>by cases h;exact PSs.imp Jr λD Z H ⟨N,G,er,h⟩=>h Z G H er λ_ _ e=>e
 | st::l,_,h=>by
  let(s',l',h1,h2,rfl):=qj h;refine PSs.imp (zf (S.s Gv Hv _ _ h1) (S.ss Gv Hv _ _ h2)) λD Z H hq1=>?_;let(N,G,er,h):=hq1;refine{N,G,er,Wx.mono (Wx.th (x:=iS L.k w s' N) h) λf hf=>?_}
  cases f with
  |next N1=>exactλZ1 G1 H1 er1 g1=>{N1,G1,er1,Wx.mono hf λf hf=>hf.back g1}
  |ret r=>exact hf
theorem qm2:∀(m:Nat) (ε:XK) (X:Cx) (L:Ct),Gs U K ε k X L->AllS U K ε X L m w
 |0,_,_,_,_=>{(λ_ _ _ _ h=>nomatch h),(λ_ _ _ _ h=>nomatch h)}
 | m+1,ε,X,L,gs=>
  have S:=qm2 m ε X L gs
  ⟨λGv Hv=>qn9 gs (all m _ X L gs.toGd) S,λGv Hv=>qms S⟩
end
def J6(st:Stmt):List Str:=(qR st).args.map (·.arg)
def fnN(st:Stmt):List Str:=J6 st++(qh st).names.filterMap λx=>if ((x.2 == .local||x.2 == .cell)&&!(J6 st).contains x.1)=true then some x.1 else none
def yD(st:Stmt):Bool:=(qh st).kind == .function&&!(qh st).isCoroutine&&!(qh st).isGenerator&&decide (fnN st).Nodup&&(J6 st).all (qjw (qh st))&&(qh st).names.all λy=>y.2 != .free
def toSl:Ar->Sl
 |.val d=>.val d
 |.bor l=>.bor l
 |.scr l=>.scr l
def jS(N:List Str)(args:List Ar):Env:=args.map toSl++List.replicate (N.length - args.length) .no
structure Pg where
 defs:List (Str×Stmt)
 gl:Str->Option D
 m:Nat
 w:Nat
 meths:List (Str×Stmt):=[]
 cs:Cs:=Cs.non
 nw:Nat->Str->List Ar->R Rv:=λ_ _ _=>.no
 xx:Xs:={}
def Pg.ct(pg:Pg)(k:Nat)(cl:Str->List Ar->R Rv)(st:Stmt):Ct:={fnN st,qh st,pg.defs.map (·.1),pg.gl,cl,pg.cs,pg.nw k,false,decide (2<=k)}
def flR:Fl->R Rv
 |.next _=>.ok (.val .non)
 |.ret r=>.ok r
def evF(pg:Pg)(k:Nat)(cl:Str->List Ar->R Rv)(st:Stmt)(args:List Ar):R Rv:=
 if (yD st&&args.length == (J6 st).length)=true then (match cSs pg.m (pg.ct k cl st) (qA st) with
  |some b=>(iSs (pg.ct k cl st).k pg.w b (jS (fnN st) args)).th flR
  |none=>.no) else .no
def clK(pg:Pg):Nat->Str->List Ar->R Rv
 |0,_,_=>.no
 | k+1,f,args=>match (pg.defs++pg.meths).lookup f with
  |some st=>evF pg k (clK pg k) st args
  |none=>.no
def FnF(K:Frag)(mg:PR)(f:Str)(st:Stmt):Prop:=∃fa fd,Fun K f f st fa fd/\mg f=some (.ref fa)/\zg K fd (J6 st) []
inductive AllF(K:Frag)(mg:PR):List (Str×Stmt)->Prop where
 | nil:AllF K mg []
 | cons {f:Str} {st:Stmt} {l:List (Str×Stmt)} (h:FnF K mg f st) (t:AllF K mg l):AllF K mg ((f,st)::l)
theorem AllF.mem{K:Frag}{mg:PR}:∀{l:List (Str×Stmt)} {f:Str} {st:Stmt},AllF K mg l->(f,st)∈l->FnF K mg f st
 |_,_,_,.nil,h=>by cases h
 |_,_,_,.cons h t,m=>by
  cases m with
  |head=>exact h
  |tail _ m=>exact t.mem m
def Qs(P:Program)(wd:World)(U:KC)(K:Frag)(mg:PR)(base:Heap)(pg:Pg)(k:Nat):Prop:=
 (∀(f:Str) (st:Stmt),pg.defs.lookup f=some st->∃fa fd,FnOk P wd K mg base (CX1 P wd) k fa fd (J6 st) (spF U K (clK pg k) f)/\mg f=some (.ref fa)/\PySem.W.keepIn K (.ref fa)=true/\zg K fd (J6 st) [])/\
 (∀(f:Str) (st:Stmt),pg.meths.lookup f=some st->pg.defs.lookup f=none->∀nm fa fd,Fun K nm f st fa fd->FnOk P wd K mg base (CX1 P wd) k fa fd (J6 st) (spF U K (clK pg k) f))
structure PgOk(U:KC)(K:Frag)(mg:PR)(pg:Pg):Prop where
 fn:AllF K mg pg.defs
 blt:∀f∈qcW,mg f=none
 gl:∀x d,pg.gl x=some d->∃v u,mg x=some u/\qF v u/\∀G,Rep U G d v
 cls:∀c C,U c=some C->Cls K C
 flds:∀c x C,pg.cs.fld c x=true->U c=some C->qV K C x
 mts:∀c x f,pg.cs.mt c x=some f->∃C fa fd st nm,U c=some C/\Meth K C x fa/\pg.meths.lookup f=some st/\pg.defs.lookup f=none/\Fun K nm f st fa fd/\zg K fd (J6 st) []
 mks:∀P wd base k,(∀j,j < k->Qs P wd U K mg base pg j)->∀f,pg.cs.tab.contains f=true->(∀args,pg.nw k f args=.no)\/∃C fa fd ps sp,Mk K C fa/\FnOk P wd K mg base (CX1 P wd) (k - 1) fa fd ps sp/\mg f=some (.ref C)/\zg K fd ps []/\0 < k/\
  ∀vs H Q E,spF U K (pg.nw k) f vs H Q E->∀x dx,H x=none->H dx=none->dx≠x->sp (.ref x::vs) (upd (upd H dx (.own x)) x (.ins C dx [])) (λv H2=>v=.non/\Q (.ref x) H2) E
 xsubs:∀C t b,pg.cs.xs C t=some b->ExcIs K C/\((∃T,mg t=some (.ref T)/\PySem.W.kitOne K (.ref C) (.ref T)=some b)\/(mg t=none/\t = "ValueError"/\PySem.W.kitOne K (.ref C) (.type "ValueError")=some b)):=by exactλ_ _ _ h=>by cases h
 xgs:∀C x,pg.cs.xg C x=true->XcG K C x:=by exactλ_ _ h=>by cases h
 subs:∀c t b,pg.cs.sub c t=some b->∃C T,U c=some C/\(∀H p dx fs,H p=some (HO.ins C dx fs)->TyOf K H (.ref p) (.ref C))/\mg t=some (.ref T)/\PySem.W.kitOne K (.ref C) (.ref T)=some b
section
variable{P:Program}{wd:World}{U:KC}{K:Frag}{mg:PR}{base:Heap}{pg:Pg}
theorem Jn.len{G H:Hp}:∀{args:List Ar} {vs:List V},Jn U K G H args vs->args.length=vs.length
 |[],vs,h=>by simp![Jn]at h;subst h;rfl
 | a::l,vs,h=>by simp![Jn]at h;let(v,r,rfl,_,h2):=h;simp[Jn.len h2]
theorem Jn.at{G H:Hp}:∀{args:List Ar} {vs:List V} {i:Nat} {a:Ar},Jn U K G H args vs->args[i]?=some a->∃v,vs[i]?=some v/\ArR U K G H a v
 |[],vs,i,a,h,e=>by simp at e
 | b::l,vs,0,a,h,e=>by simp![Jn]at h;let(v,r,rfl,h1,h2):=h;simp at e;subst e;exact⟨v,rfl,h1⟩
 | b::l,vs,i+1,a,h,e=>by simp![Jn]at h;let(v,r,rfl,h1,h2):=h;let(v',e1,e2):=Jn.at (i:=i) h2 (-e:);exact{v',(-e1:),e2}
def qe3{G H:Hp}{args:List Ar}{vs:List V}{N:List Str}(sub:qp G H)(h:Jn U K G H args vs):ER U K G H G H (jS N args) (L2.y0 N vs):=by
 have hl:=h.len;refine{by simp[jS,L2.y0,hl],sub,λ_ _ e=>e,λ_ _ e=>e,λa o e=>.inl ⟨o,e⟩,λi s e=>?_,λi j a l n e1=>?_}
 ·unfold jS at e;unfold L2.y0
  by_cases hi:i < args.length
  ·rw[List.getElem?_append_left (-hi:),List.getElem?_map]at e;let(b,e1,rfl):=Option.map_eq_some_iff.mp e;let(v,e2,e3):=h.at e1;rw[List.getElem?_append_left (by rw[List.length_map,<-hl];exact hi),List.getElem?_map,e2]
   cases b with
   |val d=>exact⟨v,rfl,e3⟩
   |bor l=>let(a,xs,rfl,h1,h2):=e3;exact⟨a,xs,rfl,h1,h2⟩
   |scr l=>let(a,xs,rfl,h1,h2):=e3;exact⟨a,xs,rfl,h1,h2⟩
  ·rw[List.getElem?_append_right (-hi:)]at e
   have:s=.no:=by
    have:=List.mem_of_getElem? e
    exact List.eq_of_mem_replicate this
   subst this;trivial
 ·exfalso;unfold jS at e1
  by_cases hi:i < args.length
  ·rw[List.getElem?_append_left (-hi:),List.getElem?_map]at e1;let(b,_,z):=Option.map_eq_some_iff.mp e1
   cases b<;>cases z
  ·rw[List.getElem?_append_right (-hi:)]at e1
   have:=List.eq_of_mem_replicate (List.mem_of_getElem? e1)
   cases this
def Yj{st:Stmt}(h:yD st=true):FnScope (fnN st) (J6 st) (qh st):=by unfold yD at h;simp![Bool.and_eq_true,Bool.not_eq_true',List.all_eq_true]at h;let(((((h1,h2),h3),h4),h5),h6):=h;refine{by simpa using h1,h2,h3,of_decide_eq_true h4,by simp[fnN],λx hx=>qcX (h5 x hx),λy hy=>by simpa using h6 y hy}
def Jo{k:Nat}{f:Str}{st:Stmt}{args:List Ar}(h:(pg.defs++pg.meths).lookup f=some st):clK pg (k+1) f args=evF pg k (clK pg k) st args:=by show(match (pg.defs++pg.meths).lookup f with |some st=>_ |none=>R.no)=_;rw[h]
theorem qda{f:Str}{st:Stmt}:∀{l m:List (Str×Stmt)},l.lookup f=some st->(l++m).lookup f=some st
 |[],m,h=>by cases h
 | (g,s)::l,m,h=>by
  rw[List.lookup_cons]at h;rw[List.cons_append,List.lookup_cons]
  cases e:(f == g) with
  |true=>rw[e]at h;exact h
  |false=>rw[e]at h;exact qda h
theorem qf1{f:Str}:∀{l m:List (Str×Stmt)},l.lookup f=none->(l++m).lookup f=m.lookup f
 |[],m,h=>rfl
 | (g,s)::l,m,h=>by
  rw[List.lookup_cons]at h;rw[List.cons_append,List.lookup_cons]
  cases e:(f == g) with
  |true=>rw[e]at h;cases h
  |false=>rw[e]at h;exact qf1 h
theorem Zb{f:Str}:∀{l:List (Str×Stmt)},(l.map (·.1)).contains f=true->∃st,l.lookup f=some st
 |[],h=>by simp at h
 | (g,st)::l,h=>by
  by_cases e:f=g
  ·subst e;exact{st,by simp[List.lookup_cons]}
  ·have hb:(f == g)=false:=(-e:)
   let(s,hs):=Zb (l:=l) (f:=f) (by simp![List.map_cons,List.contains_cons,hb,Bool.false_or]at h;exact h)
   exact{s,by rw[List.lookup_cons,hb];exact hs}
def qmt(ok:PgOk U K mg pg){k:Nat}(ih:∀j,j<=k->Qs P wd U K mg base pg j){f:Str}{st:Stmt}{fa:Addr}{cdv:Value}{A:Around}{outer:List PySem.Env}{s:Shared}{H:Hp}{E:XK}(S:FnScope (fnN st) (J6 st) (qh st))(hr:Room k (A.deeper (envOfC f (qh st) s.heap.objs.size fa cdv))) :
  Gs U K E k (qch (CX1 P wd) P wd K mg base (fnN st) f (qh st) fa cdv A outer s H E) (pg.ct k (clK pg k) st):=
 {ps:=qg4 λ_ _ _ q=>q
  hN:=rfl
  vis:=λx h=>qfS h
  loc:=λx h=>{qcX h,.inl rfl}
  glo:=λx h=>by have h:((qh st).names.lookup x == some NameKind.globalImplicit)=true:=h;exact(by simpa using h:(qh st).names.lookup x=some .globalImplicit)
  cf:=λx h=>h
  nd:=S.nd
  calm:=rfl
  hK:=rfl
  room:=hr
  fns:=λg hg=>by let(st',hl):=Zb (l:=pg.defs) hg;let(ga,gd,G1,G2,G3,G4):=(ih k (Nat.le_refl k)).1 g st' hl;exact{ga,gd,J6 st',G1,G2,G3,G4}
  blt:=ok.blt
  gl:=ok.gl
  cls:=ok.cls
  flds:=ok.flds
  mts:=λc x f h=>by let(C,fa,fd,st',nm,m1,m2,m3,m4,m5,m6):=ok.mts c x f h;exact{C,fa,fd,_,m1,m2,(ih k (Nat.le_refl k)).2 f st' m3 m4 nm fa fd m5,m6}
  mks:=ok.mks P wd base k λj hj=>ih j (Nat.le_of_lt hj)
  xsubs:=ok.xsubs
  xgs:=ok.xgs
  subs:=ok.subs
  own:=λ_=>PassesOwn.leaving
  ex:=rfl
  stk:=⟨rfl,rfl⟩
  sceq:=rfl
  fnk:=S.kind }
def qaT{k:Nat}{fa:Addr}{fd:FuncData}{ps:List Str}{sp sp':Sp}(F:FnOk P wd K mg base (CX1 P wd) k fa fd ps sp)(h:∀vs H Q E,sp' vs H Q E->sp vs H Q E0):FnOk P wd K mg base CX0 k fa fd ps sp':=
 ⟨λvs H Q E q=>F.len vs H Q E0 (h vs H Q E q),λA outer s H args us vs Q E hr he hb hv hs=>codeAny_mono (F.run A outer s H args us vs Q E0 hr he hb hv (h vs H Q E hs)) λr s' q=>by
  cases r with
  |error e=>let(x,T,C,od,H',_,_,_,_,_,_,_,_,_,_,z):=(show CX1 P wd outer H s E0 e s' from q);exact z.elim
  |ok fl=>cases fl<;>exact q⟩
def qdb{k:Nat}{st:Stmt}{args:List Ar}{cl:Str->List Ar->R Rv}{Ξ:XW}{g:Rv->Prop}(z:Wx Ξ (evF pg k cl st args) g):(yD st=true/\args.length=(J6 st).length)/\
  Wx Ξ (match cSs pg.m (pg.ct k cl st) (qA st) with |some b=>(iSs (pg.ct k cl st).k pg.w b (jS (fnN st) args)).th flR |none=>.no) g:=by
 unfold evF at z;let(hc,z):=Wx.iff z;simp![Bool.and_eq_true,beq_iff_eq]at hc;exact⟨hc,z⟩
def Z8(ok:PgOk U K mg pg){k:Nat}(ih:∀j,j<=k->Qs P wd U K mg base pg j){nm f:Str}{st:Stmt}{fa:Addr}{fd:FuncData}(F:Fun K nm f st fa fd)(h:(pg.defs++pg.meths).lookup f=some st):FnOk P wd K mg base (CX1 P wd) (k+1) fa fd (J6 st) (spF U K (clK pg (k+1)) f):=by
 by_cases hc:yD st=true
 case neg=>
  have no:∀{vs:List V} {H:Hp} {Q:VK} {E:XK},spF U K (clK pg (k+1)) f vs H Q E->False:=λ{vs H Q E} ⟨G,args,_,_,z⟩=>by rw[Jo h]at z;exact hc (qdb z).1.1
  exact{λvs H Q E z=>(no z).elim,λA outer s H args us vs Q E _ _ _ _ z=>(no z).elim}
 refine F.okx (Yj hc) (λvs H Q E z=>?_) (λcdv A outer s H vs Q E hr z=>?_)
 ·let(G,args,_,ha,z):=z;rw[Jo h]at z;rw[<-ha.len];exact(qdb z).1.2
 ·let(G,args,sub,ha,z):=z;rw[Jo h]at z;have z:=(qdb z).2;have gs:Gs U K E k (qch (CX1 P wd) P wd K mg base (fnN st) f (qh st) fa cdv A outer s H E) (pg.ct k (clK pg k) st):=qmt ok ih (Yj hc) hr
  cases hb:cSs pg.m (pg.ct k (clK pg k) st) (qA st) with
  |none=>rw[hb]at z;exact z.elim
  |some b=>
   rw[hb]at z;refine{_,(qm2 (w:=pg.w) pg.m _ _ _ gs).ss G H (qA st) b hb,jS (fnN st) args,G,qe3 sub ha,Wx.mono (Wx.th z) λfl hf=>?_}
   cases fl with
   |next N=>exactλZ' G' H' er g'=>hf .non G' H' er.base er.g0 er.sub er.fresh (by simp![ReR,Rep])
   |ret r=>exact hf
theorem qki(ok:PgOk U K mg pg):∀k j:Nat,j<=k->Qs P wd U K mg base pg j:=by
 have zero:Qs P wd U K mg base pg 0:=by
  refine{λf st h=>?_,λf st h _ nm fa fd F=>{λvs H Q E ⟨G,args,_,_,z⟩=>False.elim z,λA outer s H args us vs Q E _ _ _ _ ⟨G,args',_,_,z⟩=>False.elim z}}
  ·let(fa,fd,F,hm,hb):=ok.fn.mem (PySem.mem_of_lookup h);exact{fa,fd,{λvs H Q E ⟨G,args,_,_,z⟩=>False.elim z,λA outer s H args us vs Q E _ _ _ _ ⟨G,args',_,_,z⟩=>False.elim z},hm,F.kp,hb}
 intro k
 induction k with
 |zero=>intro j hj;rw[Nat.le_zero.mp hj];exact zero
 |succ k ih=>
  intro j hj;rcases Nat.lt_or_ge j (k+1) with h|h
  ·exact ih j (Nat.le_of_lt_succ h)
  ·obtain rfl:j=k+1:=Nat.le_antisymm hj h;refine{λf st h=>?_,λf st h h0 nm fa fd F=>?_}
   ·let(fa,fd,F,hm,hb):=ok.fn.mem (PySem.mem_of_lookup h);exact{fa,fd,Z8 ok ih F (qda h),hm,F.kp,hb}
   ·exact Z8 ok ih F ((qf1 h0).trans h)
theorem Zc(G:Hp):∀ns:List Int,ql U G (ns.map D.int) (ns.map V.int)
 |[]=>.nil
 | n::ns=>.cons (by simp![Rep]) (Zc G ns)
def spL(U:KC)(K:Frag)(pg:Pg)(k:Nat):Sp:=λvs H Q _=>spF U K (clK pg k) "law" vs H Q E0
def qkj{st:Stmt}{k:Nat}{fa:Addr}{fd:FuncData}(ok:PgOk U K mg pg)(F:Fun K "law" "law" st fa fd)(hl:pg.defs.lookup ("law" : Str)=some st)(hp:J6 st=(["_law_script"]:List Str)) :
  FnOk P wd K mg base CX0 (k+1) fa fd (["_law_script"]:List Str) (spL U K pg (k+1)):=by
 have:=Z8 (P:=P) (wd:=wd) (base:=base) ok (qki ok k) F (qda hl)
 rw[hp]at this;exact qaT this λ_ _ _ _ z=>z
def qkk{k:Nat}{H:Hp}{a:Addr}{ns:List Int}(hq:SqL K H a (ns.map V.int))(h:clK pg k "law" [.scr (ns.map D.int)]=.ok (.val (.bl true))):spL U K pg k [.ref a] H (λv _=>v=.bl true) λ_ _ _=>False:=by
 refine{λ_=>none,[.scr (ns.map D.int)],λ_ _ e=>(by cases e),⟨_,_,rfl,⟨a,_,rfl,hq,Zc _ ns⟩,rfl⟩,?_};rw[h];intro v G' H' _ _ _ _ r
 simpa only[ReR,Rep] using r
end
def qoa(pg:Pg)(k:Nat)(cl:Str->List Ar->R Rv)(st:Stmt):Option (Nat×Nat×Ss):=oif (yD st) ((cSs pg.m (pg.ct k cl st) (qA st)).map λb=>((J6 st).length,(fnN st).length,b))
def slN(n:Nat)(args:List Ar):Env:=args.map toSl++List.replicate (n - args.length) .no
def runD(cl:Cl)(w:Nat)(c:Nat×Nat×Ss)(args:List Ar):R Rv:=if args.length=c.1 then (iSs cl w c.2.2 (slN c.2.1 args)).th flR else .no
def Pg.kk(pg:Pg)(k:Nat):Cl:={clK pg k,pg.cs,pg.nw k,decide (2<=k)}
def qo{pg:Pg}{f:Str}{st:Stmt}{c:Nat×Nat×Ss}(hl:(pg.defs++pg.meths).lookup f=some st)(hc:∀k cl,qoa pg k cl st=some c)(k:Nat)(args:List Ar):clK pg (k+1) f args=runD (pg.kk k) pg.w c args:=by
 let(h1,h2):=qk (hc k (clK pg k));let(b,h3,rfl):=map_some h2;rw[Jo hl];unfold evF runD
 by_cases hn:args.length=(J6 st).length
 ·rw[if_pos (by rw[h1,hn];simp),if_pos hn];rw[h3];rfl
 ·rw[if_neg (by simp[hn]),if_neg hn]
variable{cl:Cl}{w:Nat}
def th_ok{α M:Type}(a:α)(f:α->R M):(R.ok a).th f=f a:=(rfl)
def of_some{α:Type}(a:α):R.of (some a)=.ok a:=(rfl)
def jT(cl:Cl)(w:Nat)(tg:Tg)(b:Ss)(l:List D)(N:Env):R Fl:=qly (λd N1=>(tg.go d N1).th λN2=>iSs cl w b N2) l N
def whD(cl:Cl)(w:Nat)(c:T)(b:Ss)(n:Nat)(N:Env):R Fl:=whL (λN1=>iT cl c N1) (λN1=>iSs cl w b N1) n N
def jj(cl:Cl)(e:E)(tg:Tg)(c:F)(l:List D)(N:Env)(acc:List D):R (List D):=qcU tg.go (λN1=>iF cl c N1) (jG e (iR cl e)) l N acc
def qbK(f:Fl)(g:Env->R Fl):R Fl:=match f with
 |.next N1=>g N1
 |.ret r=>.ok (.ret r)
section
variable(cl:Cl)(w:Nat)(N:Env)
def qM(tg:Tg)(b:Ss):jT cl w tg b [] N=.ok (.next N):=(rfl)
def qdc(tg:Tg)(b:Ss)(d:D)(l:List D):jT cl w tg b (d::l) N=((tg.go d N).th λN2=>iSs cl w b N2).th λf=>qbK f λN1=>jT cl w tg b l N1:=(rfl)
def qe4(c:T)(b:Ss)(n:Nat):whD cl w c b (n+1) N=(iT cl c N).th λt=>if t.1=true then (iSs cl w b t.2).th λf=>qbK f λN1=>whD cl w c b n N1 else .ok (.next t.2):=(rfl)
def yd(e:E)(tg:Tg)(c:F)(acc:List D):jj cl e tg c [] N acc=.ok acc:=(rfl)
def qbL(e:E)(tg:Tg)(c:F)(d:D)(l acc:List D):jj cl e tg c (d::l) N acc=(tg.go d N).th λN1=>(iF cl c N1).th λbt=>if bt.1=true then (jG e (iR cl e) bt.2).th λx=>if acc.length < sizeLine then jj cl e tg c l x.2 (acc++[x.1]) else .no else jj cl e tg c l bt.2 acc:=(rfl)
def qkl(i:Nat)(e:E):iS cl w (.app i e) N=(match zi N i with
  |none=>.no
  |some _=>(jG e (iR cl e) N).th λy=>(match zi y.2 i with
   |some l=>if l.length < sizeLine then .ok (.next (y.2.set i (.own (l++[y.1])))) else .no
   |none=>.no)):=(rfl)
def qkm(i:Nat)(e:E):iS cl w (.ext i e) N=(match zi N i with
  |none=>.no
  |some _=>(iR cl e N).th λy=>(match zi y.2 i,y.1.plain? with
   |some l,some n=>if l.length+n.length<=sizeLine then .ok (.next (y.2.set i (.own (l++n)))) else .no
   |_,_=>.no)):=(rfl)
def qkn(e:E):iS cl w (.ret e) N=(qeM e (iR cl e) N).th λr=>.ok (.ret r):=(rfl)
def qko(i:Nat)(e:E):iS cl w (.set i e) N=(qbF e (iR cl e) N).th λs=>.ok (.next (s.2.set i s.1)):=(rfl)
def qhI(i:Nat)(x e:E):iS cl w (.setI i x e) N=(jG e (iR cl e) N).th λy=>(match zi y.2 i with
  |none=>.no
  |some _=>(iR cl x y.2).th λz=>(match zi z.2 i,z.1.int? with
   |some l,some n=>(match ixN l.length n with
    |some k=>.ok (.next (z.2.set i (.own (l.set k y.1))))
    |none=>.no)
   |_,_=>.no)):=(rfl)
def qkp(c:T)(a b:Ss):iS cl w (.ite c a b) N=(iT cl c N).th λt=>if t.1=true then iSs cl w a t.2 else iSs cl w b t.2:=(rfl)
def qkq(tg:Tg)(src:I)(b:Ss):iS cl w (.for_ tg src b) N=(iI cl src N).th λx=>jT cl w tg b x.1 x.2:=(rfl)
def qe5(s:S)(l:Ss):iSs cl w (.cons s l) N=(iS cl w s N).th λf=>qbK f λN1=>iSs cl w l N1:=(rfl)
def qkr(op:Operator)(a b:E):iR cl (.bin op a b) N=(iR cl a N).th λx=>(iR cl b x.2).th λy=>(ZI op x.1 y.1).th λr=>.ok (r,y.2):=(rfl)
def qks(a:E):iR cl (.neg a) N=(iR cl a N).th λx=>match x.1 with
  |.val (.int i)=>.ok (.val (.int (-i)),x.2)
  |_=>.no:=(rfl)
def qkt(a:E):iR cl (.not a) N=(iR cl a N).th λx=>match x.1 with
  |.val (.bl b)=>.ok (.val (.bl (!b)),x.2)
  |_=>.no:=(rfl)
def qku(a b:E):iR cl (.and a b) N=(iR cl a N).th λx=>match x.1 with
  |.val (.bl true)=>iR cl b x.2
  |.val (.bl false)=>.ok (.val (.bl false),x.2)
  |_=>.no:=(rfl)
def qkv(op:CmpOp)(a b:E):iR cl (.cmp op a b) N=(iR cl a N).th λx=>(iR cl b x.2).th λy=>(R.of (y7 op x.1 y.1)).th λr=>.ok (.val (.bl r),y.2):=(rfl)
def qkw(c:T)(a b:E):iR cl (.ite c a b) N=(iT cl c N).th λt=>if t.1=true then iR cl a t.2 else iR cl b t.2:=(rfl)
def qkx(a i:E):iR cl (.idx a i) N=(iR cl a N).th λx=>(iR cl i x.2).th λy=>(idxD x.1 y.1).th λr=>.ok (r,y.2):=(rfl)
def qky(n:Int)(a:E)(lo hi:O):iR cl (.stp n a lo hi) N=(iR cl a N).th λx=>(iO cl lo x.2).th λl=>(iO cl hi l.2).th λh=>(R.of x.1.list?).th λd=>.ok (.tmp (J5 d l.1 h.1 n),h.2):=(rfl)
def qkz(a:E)(lo hi:O):iR cl (.sli a lo hi) N=(iR cl a N).th λx=>(iO cl lo x.2).th λl=>(iO cl hi l.2).th λh=>(sliceD x.1 l.1 h.1).th λr=>.ok (r,h.2):=(rfl)
def qkA(l:Es):iR cl (.lst l) N=(iEs cl l N).th λx=>if x.1.length<=sizeLine then .ok (.tmp x.1,x.2) else .no:=(rfl)
def qkB(l:Es):iR cl (.tup l) N=(iEs cl l N).th λx=>if x.1.length<=sizeLine then .ok (.val (.tup x.1),x.2) else .no:=(rfl)
def qhJ(f:Str)(l:Es):iR cl (.call f l) N=(iAs cl l N).th λx=>(cl f x.1).th λr=>.ok (r,x.2):=(rfl)
def qmu(f:B1)(a:E):iR cl (.b1 f a) N=(iR cl a N).th λx=>(f.go x.1).th λr=>.ok (r,x.2):=(rfl)
def qmv(f:B2)(a b:E):iR cl (.b2 f a b) N=(iR cl a N).th λx=>(noX (iR cl b x.2)).th λy=>(f.go x.1 y.1).th λr=>.ok (r,y.2):=(rfl)
def qkC(t:Ty)(a:E):iR cl (.isi t a) N=(iR cl a N).th λx=>(R.of (t.go x.1)).th λb=>.ok (.val (.bl b),x.2):=(rfl)
def qkD(t:Str)(a:E):iR cl (.isc t a) N=(noX (iR cl a N)).th λx=>(R.of (qeK cl.cs x.1 t)).th λb=>.ok (.val (.bl b),x.2):=(rfl)
def qkE(a:E)(x:Str):iR cl (.fld a x) N=(noX (iR cl a N)).th λy=>(R.of (qcT cl.cs y.1 x)).th λd=>.ok (.val d,y.2):=(rfl)
def goM(cl:Cl)(x:Str)(l:Es)(v:Rv)(N:Env):Option Str->R (Rv×Env)
 |some f=>(iAs cl l N).th λz=>(cl f (toAr v::z.1)).th λr=>.ok (r,z.2)
 |none=>(noX (iAs cl l N)).th λz=>(noX (bmD x v z.1)).th λr=>.ok (r,z.2)
def qkF(a:E)(x:Str)(l:Es):iR cl (.met a x l) N=(noX (iR cl a N)).th λy=>goM cl x l y.1 y.2 (mtD cl.cs y.1 x):=by
 show(noX (iR cl a N)).th _=_
 congr 1
def qkG(f:Str)(l:Es):iR cl (.new f l) N=(noX (iAs cl l N)).th λx=>(cl.nw f x.1).th λr=>.ok (r,x.2):=(rfl)
def qhK(e:E)(src:I)(tg:Tg)(c:F)(n:Nat)(fr:List Nat):iR cl (.comp e src tg c n fr) N=(iI cl src N).th λx=>if x.1.length<=sizeLine then (noX (jj cl e tg c x.1 (qb1 n fr x.2) [])).th λl=>.ok (.tmp l,x.2) else .no:=(rfl)
def qkH(a:T):iT cl (.not a) N=(iT cl a N).th λt=>.ok (!t.1,t.2):=(rfl)
def qkI(a b:T):iT cl (.and a b) N=(iT cl a N).th λt=>if t.1=true then iT cl b t.2 else .ok (false,t.2):=(rfl)
def qmw(a b:T):iT cl (.or a b) N=(iT cl a N).th λt=>if t.1=true then .ok (true,t.2) else iT cl b t.2:=(rfl)
def qkJ(op:CmpOp)(a b:E):iT cl (.cmp op a b) N=(iR cl a N).th λx=>(iR cl b x.2).th λy=>(R.of (y7 op x.1 y.1)).th λr=>.ok (r,y.2):=(rfl)
def qkK(op op':CmpOp)(a b c:E):iT cl (.chn op op' a b c) N=(iR cl a N).th λx=>(iR cl b x.2).th λy=>(R.of (y7 op x.1 y.1)).th λr=>if r=true then (iR cl c y.2).th λz=>(R.of (y7 op' y.1 z.1)).th λr'=>.ok (r',z.2) else .ok (false,y.2):=(rfl)
def qkL(a:E):iT cl (.val a) N=(iR cl a N).th λx=>(R.of (truthD x.1)).th λb=>.ok (b,x.2):=(rfl)
def qe6(e:E)(l:Es):iEs cl (.cons e l) N=(jG e (iR cl e) N).th λx=>(iEs cl l x.2).th λy=>.ok (x.1::y.1,y.2):=(rfl)
def qe7(e:E)(l:Es):iAs cl (.cons e l) N=(iR cl e N).th λx=>(iAs cl l x.2).th λy=>.ok (toAr x.1::y.1,y.2):=(rfl)
def qhL(e:E):iO cl (.some e) N=(iR cl e N).th λx=>match x.1 with
  |.val (.int i)=>.ok (some i,x.2)
  |_=>.no:=(rfl)
def qkM(a:E):iI cl (.seq a) N=(yc a (iR cl a) N).th λx=>.ok (x.1.2,x.2):=(rfl)
def qkN(a:E):iI cl (.rng a) N=(iR cl a N).th λx=>(match x.1.int? with
  |some n=>if qL n=true then .ok (zk 0 n,x.2) else .no
  |none=>.no):=(rfl)
def qhM(a:E):iI cl (.enum a) N=(yc a (iR cl a) N).th λx=>match x.1.1 with |.lst=>.ok (JG x.1.2,x.2) |_=>.no:=(rfl)
def qkO(a:E):iI cl (.rev a) N=(yc a (iR cl a) N).th λx=>match x.1.1 with |.lst=>.ok (x.1.2.reverse,x.2) |_=>.no:=(rfl)
def qkP(a b:E):iI cl (.zip a b) N=(yc a (iR cl a) N).th λx=>(yc b (iR cl b) x.2).th λy=>match x.1.1,y.1.1 with |.lst,.lst=>.ok (qbE x.1.2 y.1.2,y.2) |_,_=>.no:=(rfl)
variable(s:Sl)(i:Nat)(d:D)(l:List D)
def slR_s:slR (s::N) (i+1)=slR N i:=(rfl)
def slR_v:slR (.val d::N) 0=.ok (.val d):=(rfl)
def slR_o:slR (.own l::N) 0=.ok (.cell l):=(rfl)
def slR_b:slR (.bor l::N) 0=.ok (.cell l):=(rfl)
def slR_c:slR (.scr l::N) 0=.ok (.scr l):=(rfl)
def slX_s:slX (s::N) (i+1)=slX N i:=(rfl)
def slX_v:slX (.val d::N) 0=.ok (.val d):=(rfl)
def slX_o:slX (.own l::N) 0=.ok (.tmp l):=(rfl)
theorem qmx:slE (s::N) (i+1)=(slE N i).th λx=>.ok (x.1,s::x.2):=by
 show(match N[i]? with |some (.val d)=>_ |some (.own l)=>_ |_=>_)=R.th (match N[i]? with |some (.val d)=>_ |some (.own l)=>_ |_=>_) _
 cases N[i]? with
 |none=>rfl
 |some z=>cases z<;>rfl
theorem qmy:slL (s::N) (i+1)=(slL N i).th λx=>.ok (x.1,s::x.2):=by
 show(match N[i]? with |some (.val (.lst l))=>_ |some (.val (.tup l))=>_ |some (.val (.str z))=>_ |some (.own l)=>_ |some (.bor l)=>_ |some (.scr l)=>_ |_=>_)=R.th (match N[i]? with |some (.val (.lst l))=>_ |some (.val (.tup l))=>_ |some (.val (.str z))=>_ |some (.own l)=>_ |some (.bor l)=>_ |some (.scr l)=>_ |_=>_) _
 cases N[i]? with
 |none=>rfl
 |some z=>
  cases z with
  |val d=>cases d<;>rfl
  |_=>rfl
def ownI_s:zi (s::N) (i+1)=zi N i:=(rfl)
def ownI_o:zi (.own l::N) 0=some l:=(rfl)
end
mutual
def okD:D->Bool
 |.str s=>PyData.strOk s
 |.lst l=>qbM l
 |.tup l=>qbM l
 |.ins ..=>false
 |.exc ..=>false
 |.dct ..=>false
 |.non=>true
 |.bl _=>true
 |.int _=>true
def qbM:List D->Bool
 |[]=>true
 | d::l=>okD d&&qbM l
end
mutual
def dpD:D->Nat
 |.lst l=>qaU l+1
 |.tup l=>qaU l+1
 |.str _=>0
 |.ins ..=>0
 |.exc ..=>0
 |.dct ..=>0
 |.non=>0
 |.bl _=>0
 |.int _=>0
def qaU:List D->Nat
 |[]=>0
 | d::l=>max (dpD d) (qaU l)
end
mutual
theorem qf2:∀d:D,okD d=true->∃p,toP d=some p/\p.canLay0=true/\p.depth=dpD d/\PyData.eqv p p=true
 |.non,_=>{_,by rw[toP],by rw[PyData.canLay0],by rw[PyData.depth,dpD],by rw[PyData.eqv]}
 |.bl b,_=>{_,by rw[toP],by rw[PyData.canLay0],by rw[PyData.depth,dpD],by rw[PyData.eqv];simp}
 |.int n,_=>{_,by rw[toP],by rw[PyData.canLay0],by rw[PyData.depth,dpD],by rw[PyData.eqv];simp}
 |.str s,h=>{_,by rw[toP],by rw[PyData.canLay0];rw[okD]at h;exact h,by rw[PyData.depth,dpD],by rw[PyData.eqv];simp}
 |.lst l,h=>by rw[okD]at h;let(p,h1,h2,h3,h4):=Z9 l h;exact{.list p,by rw[toP,h1];rfl,by rw[PyData.canLay0];exact h2,by rw[PyData.depth,dpD,h3],by rw[PyData.eqv];exact h4}
 |.tup l,h=>by rw[okD]at h;let(p,h1,h2,h3,h4):=Z9 l h;exact{.tuple p,by rw[toP,h1];rfl,by rw[PyData.canLay0];exact h2,by rw[PyData.depth,dpD,h3],by rw[PyData.eqv];exact h4}
 |.ins ..,h=>by rw[okD]at h;cases h
 |.exc ..,h=>by rw[okD]at h;cases h
 |.dct ..,h=>by rw[okD]at h;cases h
theorem Z9:∀l:List D,qbM l=true->∃p,qbZ l=some p/\PyData.canLayAll0 p=true/\PyData.depthAll p=qaU l/\PyData.eqvAll p p=true
 |[],_=>{[],by rw[qbZ],by rw[PyData.canLayAll0],by rw[PyData.depthAll,qaU],by rw[PyData.eqvAll]}
 | d::l,h=>by rw[qbM,Bool.and_eq_true]at h;let(p,h1,h2,h3,h4):=qf2 d h.1;let(q,h5,h6,h7,h8):=Z9 l h.2;exact{p::q,by rw[qbZ,h1,h5];rfl,by rw[PyData.canLayAll0,h2,h6];rfl,by rw[PyData.depthAll,qaU,h3,h7],by rw[PyData.eqvAll,h4,h8];rfl}
end
def qf3{d:D}(h:okD d=true)(hd:dpD d<=64):∃p,toP d=some p/\SeqAt.shaped p=true/\PyData.eqv p p=true:=by let(p,h1,h2,h3,h4):=qf2 d h;exact{p,h1,by unfold SeqAt.shaped;rw[h2,h3];simpa using hd,h4}
def qaV{d:D}(h:okD d=true)(hd:dpD d<=64):eqD d d=some true:=by let(p,h1,h2,h3):=qf3 h hd;unfold eqD;rw[h1];dsimp only;rw[h2,h3];rfl
def qhN{a b:Str}(ha:PyData.strOk a=true)(hb:PyData.strOk b=true):eqD (.str a) (.str b)=some (a == b):=by unfold eqD;simp![toP];rw[show SeqAt.shaped (.str a)=true by unfold SeqAt.shaped;simp[PyData.canLay0,PyData.depth,ha],show SeqAt.shaped (.str b)=true by unfold SeqAt.shaped;simp[PyData.canLay0,PyData.depth,hb]];simp[PyData.eqv]
def qkQ:SeqAt.shaped .none=true:=by unfold SeqAt.shaped;simp[PyData.canLay0,PyData.depth]
def qkR(n:Int):SeqAt.shaped (.int n)=true:=by unfold SeqAt.shaped;simp[PyData.canLay0,PyData.depth]
def qkS{a:Str}(ha:PyData.strOk a=true):SeqAt.shaped (.str a)=true:=by unfold SeqAt.shaped;simp[PyData.canLay0,PyData.depth,ha]
def qI(a b:Int):eqD (.int a) (.int b)=some (a == b):=by unfold eqD;simp![toP,qkR,Bool.and_self,if_true,PyData.eqv]
def qkT{a:Str}(ha:PyData.strOk a=true):eqD (.str a) .non=some false:=by unfold eqD;simp![toP,qkQ,qkS ha,Bool.and_self,if_true,PyData.eqv]
theorem qhO{l:List D}(h:qbM l=true)(hd:qaU l<=63):eqD (.lst l) (.lst [])=some l.isEmpty:=by
 let(p,h1,h2,h3):=qf3 (d:=.lst l) (by rw[okD];exact h) (by rw[dpD];lia);unfold eqD;have e:toP (.lst [])=some (.list []):=by simp[toP,qbZ]
 rw[h1,e];dsimp only;rw[h2,show SeqAt.shaped (.list [])=true by unfold SeqAt.shaped;simp[PyData.canLay0,PyData.canLayAll0,PyData.depth,PyData.depthAll]];rw[toP]at h1;let(q,h4,rfl):=Option.map_eq_some_iff.mp h1
 cases l with
 |nil=>rw[qbZ]at h4;cases h4;simp[PyData.eqv,PyData.eqvAll]
 |cons d l=>rw[qbZ]at h4;let(x,h5,h6):=Option.bind_eq_some_iff.mp h4;let(y,h7,rfl):=Option.map_eq_some_iff.mp h6;simp[PyData.eqv,PyData.eqvAll]
def Y2{α:Type}{l:List α}{i:Int}{j:Nat}(h:i=(j:Int))(hj:j < l.length):atI l i=some l[j]:=by subst h;unfold atI ixN;rw[if_pos (1:),if_pos (1:)];simp[hj]
def qe8{n:Nat}:ixN (n+1) (-1)=some n:=by unfold ixN;rw[if_neg (1:),if_pos (1:),show((-1:Int)+((n+1:Nat):Int)).toNat=n by lia]
def kk_f(pg:Pg)(k:Nat)(f:Str)(args:List Ar):(pg.kk k).f f args=clK pg k f args:=(rfl)
def kk_cs(pg:Pg)(k:Nat):(pg.kk k).cs=pg.cs:=(rfl)
def kk_nw(pg:Pg)(k:Nat)(f:Str)(args:List Ar):(pg.kk k).nw f args=pg.nw k f args:=(rfl)
def at_0{α:Type}(a:α)(l:List α):atI (a::l) 0=some a:=by exact Y2 (i:=0) (j:=0) rfl (5:)
def at_1{α:Type}(a b:α)(l:List α):atI (a::b::l) 1=some b:=by exact Y2 (i:=1) (j:=1) rfl (5:)
def at_2{α:Type}(a b c:α)(l:List α):atI (a::b::c::l) 2=some c:=by exact Y2 (i:=2) (j:=2) rfl (5:)
def qlD{α:Type}{l:List α}{j:Nat}{x:α}(h:l[j]?=some x):atI l (j:Int)=some x:=by let(h1,h2):=List.getElem?_eq_some_iff.mp h;rw[Y2 rfl h1,h2]
def enF(i:Nat):List D->List D
 |[]=>[]
 | d::l=>.tup [.int i,d]::enF (i+1) l
theorem qf4:∀(l:List D) (i:Nat),(List.range' i l.length).zipWith (λ(i:Nat) d=>D.tup [.int i,d]) l=enF i l
 |[],i=>rfl
 | d::l,i=>by rw[List.length_cons,List.range'_succ,List.zipWith_cons_cons,qf4 l (i+1)];rfl
def qaW(l:List D):JG l=enF 0 l:=by unfold JG;rw[List.range_eq_range',qf4]
def rgF(i:Int):Nat->List D
 |0=>[]
 | n+1=>.int i::rgF (i+1) n
theorem qf5:∀(n:Nat) (lo:Int) (s:Nat),(List.range' s n).map (λi:Nat=>D.int (lo+i))=rgF (lo+s) n
 |0,_,_=>rfl
 | n+1,lo,s=>by rw[List.range'_succ,List.map_cons,qf5 n lo (s+1)];show _=D.int (lo+s)::rgF (lo+s+1) n;rw[show lo+((s+1:Nat):Int)=lo+s+1 by lia]
def zH(lo hi:Int):zk lo hi=rgF lo (hi - lo).toNat:=by
 unfold zk;rw[List.range_eq_range',qf5]
 congr 1
 lia
def ixN_app{α:Type}(l:List α)(x:α):ixN (l++[x]).length (-1)=some l.length:=by rw[List.length_append];exact qe8
def set_app{α:Type}(l:List α)(x y:α):(l++[x]).set l.length y=l++[y]:=by simp
def emp_app{α:Type}(l:List α)(x:α):(l++[x]).isEmpty=false:=by cases l<;>rfl
def qc{α M γ:Type}(x:R α)(f:α->R M)(g:M->R γ):(x.th f).th g=x.th λa=>(f a).th g:=by cases x<;>rfl
def qm{α:Type}(x:R α):x.th R.ok=x:=by cases x<;>rfl
section
variable{M:Type}(cl:Cl)(w:Nat)
def Yk(N:Env)(K:Rv×Env->R M)(r:Rv):R M:=K (r,N)
def kBl(N:Env)(K:Rv×Env->R M)(b:Bool):R M:=K (.val (.bl b),N)
def kBo(N:Env)(K:Bool×Env->R M)(b:Bool):R M:=K (b,N)
def qmz(N:Env)(K:Rv×Env->R M)(l:List D):R M:=K (.tmp l,N)
def kB2(op:Operator)(u:Rv)(K:Rv×Env->R M)(y:Rv×Env):R M:=(ZI op u y.1).th (Yk y.2 K)
def kB1(op:Operator)(b:E)(K:Rv×Env->R M)(x:Rv×Env):R M:=(iR cl b x.2).th (kB2 op x.1 K)
def qm3(K:Rv×Env->R M)(x:Rv×Env):R M:=R.th (match x.1 with
  |.val (.int i)=>.ok (.val (.int (-i)),x.2)
  |_=>.no) K
def qm4(K:Rv×Env->R M)(x:Rv×Env):R M:=R.th (match x.1 with
  |.val (.bl b)=>.ok (.val (.bl (!b)),x.2)
  |_=>.no) K
def qm5(b:E)(K:Rv×Env->R M)(x:Rv×Env):R M:=R.th (match x.1 with
  |.val (.bl true)=>iR cl b x.2
  |.val (.bl false)=>.ok (.val (.bl false),x.2)
  |_=>.no) K
def kC2(op:CmpOp)(u:Rv)(K:Rv×Env->R M)(y:Rv×Env):R M:=(R.of (y7 op u y.1)).th (kBl y.2 K)
def kC1(op:CmpOp)(b:E)(K:Rv×Env->R M)(x:Rv×Env):R M:=(iR cl b x.2).th (kC2 op x.1 K)
def kIf(a b:E)(K:Rv×Env->R M)(t:Bool×Env):R M:=if t.1=true then (iR cl a t.2).th K else (iR cl b t.2).th K
def kI2(u:Rv)(K:Rv×Env->R M)(y:Rv×Env):R M:=(idxD u y.1).th (Yk y.2 K)
def kI1(b:E)(K:Rv×Env->R M)(x:Rv×Env):R M:=(iR cl b x.2).th (kI2 x.1 K)
def kS3(v:Rv)(l:Option Int)(K:Rv×Env->R M)(h:Option Int×Env):R M:=(sliceD v l h.1).th (Yk h.2 K)
def kS2(v:Rv)(hi:O)(K:Rv×Env->R M)(l:Option Int×Env):R M:=(iO cl hi l.2).th (kS3 v l.1 K)
def kS1(lo hi:O)(K:Rv×Env->R M)(x:Rv×Env):R M:=(iO cl lo x.2).th (kS2 cl x.1 hi K)
def qm6(K:Rv×Env->R M)(x:List D×Env):R M:=if x.1.length<=sizeLine then K (.tmp x.1,x.2) else .no
def qm7(K:Rv×Env->R M)(x:List D×Env):R M:=if x.1.length<=sizeLine then K (.val (.tup x.1),x.2) else .no
def qmA(n:Int)(v:Rv)(l:Option Int)(K:Rv×Env->R M)(h:Option Int×Env):R M:=(R.of v.list?).th λd=>K (.tmp (J5 d l h.1 n),h.2)
def qmB(n:Int)(v:Rv)(hi:O)(K:Rv×Env->R M)(l:Option Int×Env):R M:=(iO cl hi l.2).th (qmA n v l.1 K)
def qm8(n:Int)(lo hi:O)(K:Rv×Env->R M)(x:Rv×Env):R M:=(iO cl lo x.2).th (qmB cl n x.1 hi K)
def qkU(f:Str)(K:Rv×Env->R M)(x:List Ar×Env):R M:=(cl f x.1).th (Yk x.2 K)
def kF1(f:B1)(K:Rv×Env->R M)(x:Rv×Env):R M:=(f.go x.1).th (Yk x.2 K)
def kG2(f:B2)(u:Rv)(K:Rv×Env->R M)(y:Rv×Env):R M:=(f.go u y.1).th (Yk y.2 K)
def kG1(f:B2)(b:E)(K:Rv×Env->R M)(x:Rv×Env):R M:=(noX (iR cl b x.2)).th (kG2 f x.1 K)
def qm9(t:Str)(K:Rv×Env->R M)(x:Rv×Env):R M:=(R.of (qeK cl.cs x.1 t)).th (kBl x.2 K)
def qmC(N:Env)(K:Rv×Env->R M)(d:D):R M:=K (.val d,N)
def qna(x:Str)(K:Rv×Env->R M)(y:Rv×Env):R M:=(R.of (qcT cl.cs y.1 x)).th (qmC y.2 K)
def qmD(f:Str)(v:Rv)(K:Rv×Env->R M)(z:List Ar×Env):R M:=(cl f (toAr v::z.1)).th (Yk z.2 K)
def qmE(v:Rv)(l:Es)(N:Env)(K:Rv×Env->R M)(f:Str):R M:=(iAs cl l N).th (qmD cl f v K)
def qob(x:Str)(v:Rv)(K:Rv×Env->R M)(z:List Ar×Env):R M:=(noX (bmD x v z.1)).th (Yk z.2 K)
def qmF(x:Str)(v:Rv)(l:Es)(N:Env)(K:Rv×Env->R M)(o:Option Str):R M:=match o with
 |some f=>qmE cl v l N K f
 |none=>(noX (iAs cl l N)).th (qob x v K)
def qmG(x:Str)(l:Es)(K:Rv×Env->R M)(y:Rv×Env):R M:=qmF cl x y.1 l y.2 K (mtD cl.cs y.1 x)
def qnb(f:Str)(K:Rv×Env->R M)(x:List Ar×Env):R M:=(cl.nw f x.1).th (Yk x.2 K)
def qnc(t:Ty)(K:Rv×Env->R M)(x:Rv×Env):R M:=(R.of (t.go x.1)).th (kBl x.2 K)
def qkV(e:E)(tg:Tg)(c:F)(n:Nat)(fr:List Nat)(K:Rv×Env->R M)(x:List D×Env):R M:=if x.1.length<=sizeLine then (noX (jj cl e tg c x.1 (qb1 n fr x.2) [])).th (qmz x.2 K) else .no
def kTn(K:Bool×Env->R M)(t:Bool×Env):R M:=K (!t.1,t.2)
def kTa(b:T)(K:Bool×Env->R M)(t:Bool×Env):R M:=if t.1=true then (iT cl b t.2).th K else K (false,t.2)
def kTo(b:T)(K:Bool×Env->R M)(t:Bool×Env):R M:=if t.1=true then K (true,t.2) else (iT cl b t.2).th K
def kD2(op:CmpOp)(u:Rv)(K:Bool×Env->R M)(y:Rv×Env):R M:=(R.of (y7 op u y.1)).th (kBo y.2 K)
def kD1(op:CmpOp)(b:E)(K:Bool×Env->R M)(x:Rv×Env):R M:=(iR cl b x.2).th (kD2 op x.1 K)
def kN2(op:CmpOp)(c:E)(v:Rv)(N:Env)(K:Bool×Env->R M)(r:Bool):R M:=if r=true then (iR cl c N).th (kD2 op v K) else K (false,N)
def kN1(op op':CmpOp)(c:E)(u:Rv)(K:Bool×Env->R M)(y:Rv×Env):R M:=(R.of (y7 op u y.1)).th (kN2 cl op' c y.1 y.2 K)
def kN0(op op':CmpOp)(b c:E)(K:Bool×Env->R M)(x:Rv×Env):R M:=(iR cl b x.2).th (kN1 cl op op' c x.1 K)
def kTv(K:Bool×Env->R M)(x:Rv×Env):R M:=(R.of (truthD x.1)).th (kBo x.2 K)
def kE2(d:D)(K:List D×Env->R M)(y:List D×Env):R M:=K (d::y.1,y.2)
def kE1(l:Es)(K:List D×Env->R M)(x:D×Env):R M:=(iEs cl l x.2).th (kE2 x.1 K)
def kA2(v:Rv)(K:List Ar×Env->R M)(y:List Ar×Env):R M:=K (toAr v::y.1,y.2)
def kA1(l:Es)(K:List Ar×Env->R M)(x:Rv×Env):R M:=(iAs cl l x.2).th (kA2 x.1 K)
def kO(K:Option Int×Env->R M)(x:Rv×Env):R M:=R.th (match x.1 with
  |.val (.int i)=>.ok (some i,x.2)
  |_=>.no) K
def qnd(K:List D×Env->R M)(x:(Sk×List D)×Env):R M:=K (x.1.2,x.2)
def qne(K:List D×Env->R M)(x:Rv×Env):R M:=R.th (match x.1.int? with
  |some n=>if qL n=true then .ok (zk 0 n,x.2) else .no
  |none=>.no) K
def kR2(u:Rv)(K:List D×Env->R M)(y:Rv×Env):R M:=R.th (match u.int?,y.1.int? with
  |some i,some j=>if qL i=true/\qL j=true then .ok (zk i j,y.2) else .no
  |_,_=>.no) K
def qkW(K:List D×Env->R M)(x:(Sk×List D)×Env):R M:=R.th (match x.1.1 with |.lst=>.ok (JG x.1.2,x.2) |_=>.no) K
def qnf(K:List D×Env->R M)(x:(Sk×List D)×Env):R M:=R.th (match x.1.1 with |.lst=>.ok (x.1.2.reverse,x.2) |_=>.no) K
def kZ2(x:Sk×List D)(K:List D×Env->R M)(y:(Sk×List D)×Env):R M:=R.th (match x.1,y.1.1 with |.lst,.lst=>.ok (qbE x.2 y.1.2,y.2) |_,_=>.no) K
def kZ1(b:E)(K:List D×Env->R M)(x:(Sk×List D)×Env):R M:=(yc b (iR cl b) x.2).th (kZ2 x.1 K)
def qng(K:D×Env->R M)(x:Rv×Env):R M:=(qlz x).th K
def qe9(K:(Sk×List D)×Env->R M)(x:Rv×Env):R M:=(qlA x).th K
def kX(K:Rv->R M)(x:Rv×Env):R M:=R.th (match x.1 with
  |.val d=>.ok (.val d)
  |.tmp l=>.ok (.tmp l)
  |_=>.no) K
def kAv(K:Sl×Env->R M)(x:D×Env):R M:=K (.val x.1,x.2)
def kAx(K:Sl×Env->R M)(x:Rv×Env):R M:=R.th (match x.1 with
  |.val d=>.ok (.val d,x.2)
  |.tmp l=>.ok (.own l,x.2)
  |_=>.no) K
def qhP{α:Type}(s:Sl)(K:α×Env->R M)(x:α×Env):R M:=K (x.1,s::x.2)
def oGo(o:Option (List D))(x:R M):R M:=match o with
 |none=>.no
 |some _=>x
def qhQ(i:Nat)(d:D)(N:Env)(K:Fl->R M)(o:Option (List D)):R M:=R.th (match o with
   |some l=>if l.length < sizeLine then .ok (.next (N.set i (.own (l++[d])))) else .no
   |none=>.no) K
def qnh(i:Nat)(K:Fl->R M)(y:D×Env):R M:=qhQ i y.1 y.2 K (zi y.2 i)
def qhR(i:Nat)(N:Env)(K:Fl->R M)(o p:Option (List D)):R M:=R.th (match o,p with
   |some l,some n=>if l.length+n.length<=sizeLine then .ok (.next (N.set i (.own (l++n)))) else .no
   |_,_=>.no) K
def qni(i:Nat)(K:Fl->R M)(y:Rv×Env):R M:=qhR i y.2 K (zi y.2 i) y.1.plain?
def kRt(K:Fl->R M)(r:Rv):R M:=K (.ret r)
def qnj(i:Nat)(K:Fl->R M)(s:Sl×Env):R M:=K (.next (s.2.set i s.1))
def qmH(i:Nat)(d:D)(N:Env)(K:Fl->R M)(l:List D)(o:Option Nat):R M:=R.th (match o with
    |some k=>.ok (.next (N.set i (.own (l.set k d))))
    |none=>.no) K
def qlE(i:Nat)(d:D)(N:Env)(K:Fl->R M)(o:Option (List D))(v:Option Int):R M:=match o,v with
 |some l,some n=>qmH i d N K l (ixN l.length n)
 |_,_=>.no
def qmI(i:Nat)(d:D)(K:Fl->R M)(z:Rv×Env):R M:=qlE i d z.2 K (zi z.2 i) z.1.int?
def kSI(i:Nat)(x:E)(K:Fl->R M)(y:D×Env):R M:=oGo (zi y.2 i) ((iR cl x y.2).th (qmI i y.1 K))
def qnk(a b:Ss)(K:Fl->R M)(t:Bool×Env):R M:=if t.1=true then (iSs cl w a t.2).th K else (iSs cl w b t.2).th K
def qnl(tg:Tg)(b:Ss)(K:Fl->R M)(x:List D×Env):R M:=(jT cl w tg b x.1 x.2).th K
def qhS(l:Ss)(K:Fl->R M)(f:Fl):R M:=(qbK f λN1=>iSs cl w l N1).th K
def qlF(tg:Tg)(b:Ss)(l:List D)(K:Fl->R M)(f:Fl):R M:=(qbK f λN1=>jT cl w tg b l N1).th K
def qnm(tg:Tg)(b:Ss)(l:List D)(K:Fl->R M)(N:Env):R M:=(iSs cl w b N).th (qlF cl w tg b l K)
def qmJ(c:T)(b:Ss)(n:Nat)(K:Fl->R M)(f:Fl):R M:=(qbK f λN1=>whD cl w c b n N1).th K
def qnn(c:T)(b:Ss)(n:Nat)(K:Fl->R M)(t:Bool×Env):R M:=if t.1=true then (iSs cl w b t.2).th (qmJ cl w c b n K) else K (.next t.2)
def kP3(e:E)(tg:Tg)(c:F)(l acc:List D)(K:List D->R M)(x:D×Env):R M:=if acc.length < sizeLine then (jj cl e tg c l x.2 (acc++[x.1])).th K else .no
def kP2(e:E)(tg:Tg)(c:F)(l acc:List D)(K:List D->R M)(t:Bool×Env):R M:=if t.1=true then (jG e (iR cl e) t.2).th (kP3 cl e tg c l acc K) else (jj cl e tg c l t.2 acc).th K
def kP1(e:E)(tg:Tg)(c:F)(l acc:List D)(K:List D->R M)(N:Env):R M:=(iF cl c N).th (kP2 cl e tg c l acc K)
def zr{α:Type}{c:Prop}[Decidable c](x y:R α)(K:α->R M):(if c then x else y).th K=if c then x.th K else y.th K:=by split<;>rfl
def qr{α:Type}(x:R α){f g:α->R M}(h:∀a,f a=g a):x.th f=x.th g:=by cases x<;>first|rfl|exact h _
section
variable(N:Env)(K:Rv×Env->R M)
def xR_var(i:Nat):(iR cl (.var i) N).th K=(slR N i).th (Yk N K):=(qc (slR N i) _ _)
def xR_con(d:D):(iR cl (.con d) N).th K=K (.val d,N):=(rfl)
def xR_bin(op:Operator)(a b:E):(iR cl (.bin op a b) N).th K=(iR cl a N).th (kB1 cl op b K):=by rw[qkr,qc];refine qr _ λx=>?_;rw[qc];refine qr _ λy=>?_;rw[qc];rfl
def xR_neg(a:E):(iR cl (.neg a) N).th K=(iR cl a N).th (qm3 K):=by rw[qks,qc];rfl
def xR_not(a:E):(iR cl (.not a) N).th K=(iR cl a N).th (qm4 K):=by rw[qkt,qc];rfl
def xR_one(a:E):(iR cl (.one a) N).th K=(iR cl a N).th K:=(rfl)
def xR_and(a b:E):(iR cl (.and a b) N).th K=(iR cl a N).th (qm5 cl b K):=by rw[qku,qc];rfl
def xR_cmp(op:CmpOp)(a b:E):(iR cl (.cmp op a b) N).th K=(iR cl a N).th (kC1 cl op b K):=by rw[qkv,qc];refine qr _ λx=>?_;rw[qc];refine qr _ λy=>?_;rw[qc];rfl
def xR_ite(c:T)(a b:E):(iR cl (.ite c a b) N).th K=(iT cl c N).th (kIf cl a b K):=by rw[qkw,qc];refine qr _ λt=>?_;rw[zr];rfl
def xR_idx(a b:E):(iR cl (.idx a b) N).th K=(iR cl a N).th (kI1 cl b K):=by rw[qkx,qc];refine qr _ λx=>?_;rw[qc];refine qr _ λy=>?_;rw[qc];rfl
def xR_sli(a:E)(lo hi:O):(iR cl (.sli a lo hi) N).th K=(iR cl a N).th (kS1 cl lo hi K):=by rw[qkz,qc];refine qr _ λx=>?_;rw[qc];refine qr _ λy=>?_;rw[qc];refine qr _ λz=>?_;rw[qc];rfl
def xR_lst(l:Es):(iR cl (.lst l) N).th K=(iEs cl l N).th (qm6 K):=by rw[qkA,qc];refine qr _ λx=>?_;rw[zr];rfl
def xR_tup(l:Es):(iR cl (.tup l) N).th K=(iEs cl l N).th (qm7 K):=by rw[qkB,qc];refine qr _ λx=>?_;rw[zr];rfl
def xR_stp(n:Int)(a:E)(lo hi:O):(iR cl (.stp n a lo hi) N).th K=(iR cl a N).th (qm8 cl n lo hi K):=by rw[qky,qc];refine qr _ λx=>?_;rw[qc];refine qr _ λy=>?_;rw[qc];refine qr _ λz=>?_;rw[qc];rfl
def xR_call(f:Str)(l:Es):(iR cl (.call f l) N).th K=(iAs cl l N).th (qkU cl f K):=by rw[qhJ,qc];refine qr _ λx=>?_;rw[qc];rfl
def xR_b1(f:B1)(a:E):(iR cl (.b1 f a) N).th K=(iR cl a N).th (kF1 f K):=by rw[qmu,qc];refine qr _ λx=>?_;rw[qc];rfl
def xR_b2(f:B2)(a b:E):(iR cl (.b2 f a b) N).th K=(iR cl a N).th (kG1 cl f b K):=by rw[qmv,qc];refine qr _ λx=>?_;rw[qc];refine qr _ λy=>?_;rw[qc];rfl
def xR_isc(t:Str)(a:E):(iR cl (.isc t a) N).th K=(noX (iR cl a N)).th (qm9 cl t K):=by rw[qkD,qc];refine qr _ λx=>?_;rw[qc];rfl
def xR_fld(a:E)(x:Str):(iR cl (.fld a x) N).th K=(noX (iR cl a N)).th (qna cl x K):=by rw[qkE,qc];refine qr _ λy=>?_;rw[qc];rfl
theorem xR_met(a:E)(x:Str)(l:Es):(iR cl (.met a x l) N).th K=(noX (iR cl a N)).th (qmG cl x l K):=by
 rw[qkF,qc];refine qr _ λy=>?_;unfold qmG
 cases mtD cl.cs y.1 x with
 |some f=>unfold goM;rw[qc];refine qr _ λz=>?_;rw[qc];rfl
 |none=>unfold goM;rw[qc];refine qr _ λz=>?_;rw[qc];rfl
def xR_new(f:Str)(l:Es):(iR cl (.new f l) N).th K=(noX (iAs cl l N)).th (qnb cl f K):=by rw[qkG,qc];refine qr _ λx=>?_;rw[qc];rfl
def xR_isi(t:Ty)(a:E):(iR cl (.isi t a) N).th K=(iR cl a N).th (qnc t K):=by rw[qkC,qc];refine qr _ λx=>?_;rw[qc];rfl
def xR_comp(e:E)(src:I)(tg:Tg)(c:F)(n:Nat)(fr:List Nat):(iR cl (.comp e src tg c n fr) N).th K=(iI cl src N).th (qkV cl e tg c n fr K):=by rw[qhK,qc];refine qr _ λx=>?_;rw[zr,qc];rfl
def n_ok{α:Type}(a:α):noX (R.ok a)=.ok a:=(rfl)
def n_R(e:E):noX (iR cl e N)=noX ((iR cl e N).th R.ok):=by rw[qm]
def n_As(l:Es):noX (iAs cl l N)=noX ((iAs cl l N).th R.ok):=by rw[qm]
theorem n_var(i:Nat):(noX (iR cl (.var i) N)).th K=(slR N i).th (Yk N K):=by
 show(noX ((slR N i).th _)).th K=_
 cases e:slR N i with
 |ok r=>rfl
 |no=>rfl
 |exc c l=>unfold slR at e;split at e<;>cases e
end
section
variable(N:Env)(K:Rv×Env->R M)(v u:Rv)
def yRet:Yk N K v=K (v,N):=(rfl)
def yBl(b:Bool):kBl N K b=K (.val (.bl b),N):=(rfl)
def yTmp(l:List D):qmz N K l=K (.tmp l,N):=(rfl)
def yB1(op:Operator)(b:E):kB1 cl op b K (v,N)=(iR cl b N).th (kB2 op v K):=(rfl)
def yB2(op:Operator):kB2 op u K (v,N)=(ZI op u v).th (Yk N K):=(rfl)
def yNeg(i:Int):qm3 K (.val (.int i),N)=K (.val (.int (-i)),N):=(rfl)
def yNot(b:Bool):qm4 K (.val (.bl b),N)=K (.val (.bl (!b)),N):=(rfl)
def yAnd(b:E)(t:Bool):qm5 cl b K (.val (.bl t),N)=if t=true then (iR cl b N).th K else K (.val (.bl false),N):=by cases t<;>rfl
def yC1(op:CmpOp)(b:E):kC1 cl op b K (v,N)=(iR cl b N).th (kC2 op v K):=(rfl)
def yC2(op:CmpOp):kC2 op u K (v,N)=(R.of (y7 op u v)).th (kBl N K):=(rfl)
def yIf(a b:E)(t:Bool):kIf cl a b K (t,N)=if t=true then (iR cl a N).th K else (iR cl b N).th K:=(rfl)
def yI1(b:E):kI1 cl b K (v,N)=(iR cl b N).th (kI2 v K):=(rfl)
def yI2:kI2 u K (v,N)=(idxD u v).th (Yk N K):=(rfl)
def yS1(lo hi:O):kS1 cl lo hi K (v,N)=(iO cl lo N).th (kS2 cl v hi K):=(rfl)
def yS2(hi:O)(l:Option Int):kS2 cl v hi K (l,N)=(iO cl hi N).th (kS3 v l K):=(rfl)
def yS3(l h:Option Int):kS3 v l K (h,N)=(sliceD v l h).th (Yk N K):=(rfl)
def yLst(l:List D):qm6 K (l,N)=if l.length<=sizeLine then K (.tmp l,N) else .no:=(rfl)
def yTup(l:List D):qm7 K (l,N)=if l.length<=sizeLine then K (.val (.tup l),N) else .no:=(rfl)
def yQs1(n:Int)(lo hi:O):qm8 cl n lo hi K (v,N)=(iO cl lo N).th (qmB cl n v hi K):=(rfl)
def yQs2(n:Int)(hi:O)(l:Option Int):qmB cl n v hi K (l,N)=(iO cl hi N).th (qmA n v l K):=(rfl)
def yQs3(n:Int)(l h:Option Int)(d:List D):qmA n (.scr d) l K (h,N)=K (.tmp (J5 d l h n),N):=(rfl)
def yCall(f:Str)(l:List Ar):qkU cl f K (l,N)=(cl f l).th (Yk N K):=(rfl)
def yF1(f:B1):kF1 f K (v,N)=(f.go v).th (Yk N K):=(rfl)
def yG1(f:B2)(b:E):kG1 cl f b K (v,N)=(noX (iR cl b N)).th (kG2 f v K):=(rfl)
def yG2(f:B2):kG2 f u K (v,N)=(f.go u v).th (Yk N K):=(rfl)
def yIsc(t:Str):qm9 cl t K (v,N)=(R.of (qeK cl.cs v t)).th (kBl N K):=(rfl)
def yDat(d:D):qmC N K d=K (.val d,N):=(rfl)
def yFld(x:Str):qna cl x K (v,N)=(R.of (qcT cl.cs v x)).th (qmC N K):=(rfl)
def yMt3(f:Str)(l:List Ar):qmD cl f v K (l,N)=(cl f (toAr v::l)).th (Yk N K):=(rfl)
def yMt2(f:Str)(l:Es):qmE cl v l N K f=(iAs cl l N).th (qmD cl f v K):=(rfl)
def yMt1(x:Str)(l:Es):qmG cl x l K (v,N)=qmF cl x v l N K (mtD cl.cs v x):=(rfl)
def yMtO(x:Str)(l:Es)(f:Str):qmF cl x v l N K (some f)=qmE cl v l N K f:=(rfl)
def yNew(f:Str)(l:List Ar):qnb cl f K (l,N)=(cl.nw f l).th (Yk N K):=(rfl)
def yIsi(t:Ty):qnc t K (v,N)=(R.of (t.go v)).th (kBl N K):=(rfl)
def yComp(e:E)(tg:Tg)(c:F)(n:Nat)(fr:List Nat)(l:List D):qkV cl e tg c n fr K (l,N)=if l.length<=sizeLine then (noX (jj cl e tg c l (qb1 n fr N) [])).th (qmz N K) else .no:=(rfl)
end
section
variable(N:Env)(K:Bool×Env->R M)(v u:Rv)(t:Bool)
def xT_not(a:T):(iT cl (.not a) N).th K=(iT cl a N).th (kTn K):=by rw[qkH,qc];rfl
def xT_one(a:T):(iT cl (.one a) N).th K=(iT cl a N).th K:=(rfl)
def xT_and(a b:T):(iT cl (.and a b) N).th K=(iT cl a N).th (kTa cl b K):=by rw[qkI,qc];refine qr _ λt=>?_;rw[zr];rfl
def xT_or(a b:T):(iT cl (.or a b) N).th K=(iT cl a N).th (kTo cl b K):=by rw[qmw,qc];refine qr _ λt=>?_;rw[zr];rfl
def xT_cmp(op:CmpOp)(a b:E):(iT cl (.cmp op a b) N).th K=(iR cl a N).th (kD1 cl op b K):=by rw[qkJ,qc];refine qr _ λx=>?_;rw[qc];refine qr _ λy=>?_;rw[qc];rfl
def xT_chn(op op':CmpOp)(a b c:E):(iT cl (.chn op op' a b c) N).th K=(iR cl a N).th (kN0 cl op op' b c K):=by
 rw[qkK,qc];refine qr _ λx=>?_;rw[qc];refine qr _ λy=>?_;rw[qc];refine qr _ λr=>?_;rw[zr];show(if r=true then _ else _)=kN2 cl op' c y.1 y.2 K r;unfold kN2;split
 ·rw[qc];refine qr _ λz=>?_;rw[qc];rfl
 ·rfl
def xT_val(a:E):(iT cl (.val a) N).th K=(iR cl a N).th (kTv K):=by rw[qkL,qc];refine qr _ λx=>?_;rw[qc];rfl
def yBo:kBo N K t=K (t,N):=(rfl)
def yTn:kTn K (t,N)=K (!t,N):=(rfl)
def yTa(b:T):kTa cl b K (t,N)=if t=true then (iT cl b N).th K else K (false,N):=(rfl)
def yTo(b:T):kTo cl b K (t,N)=if t=true then K (true,N) else (iT cl b N).th K:=(rfl)
def yD1(op:CmpOp)(b:E):kD1 cl op b K (v,N)=(iR cl b N).th (kD2 op v K):=(rfl)
def yD2(op:CmpOp):kD2 op u K (v,N)=(R.of (y7 op u v)).th (kBo N K):=(rfl)
def yN0(op op':CmpOp)(b c:E):kN0 cl op op' b c K (v,N)=(iR cl b N).th (kN1 cl op op' c v K):=(rfl)
def yN1(op op':CmpOp)(c:E):kN1 cl op op' c u K (v,N)=(R.of (y7 op u v)).th (kN2 cl op' c v N K):=(rfl)
def yN2(op:CmpOp)(c:E):kN2 cl op c v N K t=if t=true then (iR cl c N).th (kD2 op v K) else K (false,N):=(rfl)
def yTv:kTv K (v,N)=(R.of (truthD v)).th (kBo N K):=(rfl)
def xF_yes:(iF cl .yes N).th K=K (true,N):=(rfl)
def xF_test(c:T):(iF cl (.test c) N).th K=(iT cl c N).th K:=(rfl)
end
section
variable(N:Env)
def xEs_nil(K:List D×Env->R M):(iEs cl .nil N).th K=K ([],N):=(rfl)
def xEs_cons(K:List D×Env->R M)(e:E)(l:Es):(iEs cl (.cons e l) N).th K=(jG e (iR cl e) N).th (kE1 cl l K):=by rw[qe6,qc];refine qr _ λx=>?_;rw[qc];rfl
def yE1(K:List D×Env->R M)(l:Es)(d:D):kE1 cl l K (d,N)=(iEs cl l N).th (kE2 d K):=(rfl)
def yE2(K:List D×Env->R M)(d:D)(ds:List D):kE2 d K (ds,N)=K (d::ds,N):=(rfl)
def xAs_nil(K:List Ar×Env->R M):(iAs cl .nil N).th K=K ([],N):=(rfl)
def xAs_cons(K:List Ar×Env->R M)(e:E)(l:Es):(iAs cl (.cons e l) N).th K=(iR cl e N).th (kA1 cl l K):=by rw[qe7,qc];refine qr _ λx=>?_;rw[qc];rfl
def yA1(K:List Ar×Env->R M)(l:Es)(v:Rv):kA1 cl l K (v,N)=(iAs cl l N).th (kA2 v K):=(rfl)
def yA2(K:List Ar×Env->R M)(v:Rv)(l:List Ar):kA2 v K (l,N)=K (toAr v::l,N):=(rfl)
def xO_none(K:Option Int×Env->R M):(iO cl .none N).th K=K (none,N):=(rfl)
def xO_some(K:Option Int×Env->R M)(e:E):(iO cl (.some e) N).th K=(iR cl e N).th (kO K):=by rw[qhL,qc];rfl
def yO(K:Option Int×Env->R M)(i:Int):kO K (.val (.int i),N)=K (some i,N):=(rfl)
variable(K:List D×Env->R M)
def xI_seq(a:E):(iI cl (.seq a) N).th K=(yc a (iR cl a) N).th (qnd K):=by rw[qkM,qc];rfl
def xI_rng(a:E):(iI cl (.rng a) N).th K=(iR cl a N).th (qne K):=by rw[qkN,qc];rfl
def xI_rev(a:E):(iI cl (.rev a) N).th K=(yc a (iR cl a) N).th (qnf K):=by rw[qkO,qc];rfl
def xI_enum(a:E):(iI cl (.enum a) N).th K=(yc a (iR cl a) N).th (qkW K):=by rw[qhM,qc];rfl
def xI_zip(a b:E):(iI cl (.zip a b) N).th K=(yc a (iR cl a) N).th (kZ1 cl b K):=by rw[qkP,qc];refine qr _ λx=>?_;rw[qc];rfl
def ySeq(s:Sk)(l:List D):qnd K ((s,l),N)=K (l,N):=(rfl)
def yRng(n:Int):qne K (.val (.int n),N)=if qL n=true then K (zk 0 n,N) else .no:=by show R.th (if qL n=true then _ else _) K=_;rw[zr];rfl
def yRev(l:List D):qnf K ((.lst,l),N)=K (l.reverse,N):=(rfl)
def yEnum(l:List D):qkW K ((.lst,l),N)=K (JG l,N):=(rfl)
def yZ1(b:E)(x:Sk×List D):kZ1 cl b K (x,N)=(yc b (iR cl b) N).th (kZ2 x K):=(rfl)
def yZ2(l n:List D):kZ2 (.lst,l) K ((.lst,n),N)=K (qbE l n,N):=(rfl)
end
section
variable(N:Env)(s:Sl)(i:Nat)(d:D)(l:List D)
def yVal(K:D×Env->R M):qng K (.val d,N)=K (d,N):=(rfl)
def yValL(K:(Sk×List D)×Env->R M):qe9 K (.val (.lst l),N)=K ((.lst,l),N):=(rfl)
def yValLt(K:(Sk×List D)×Env->R M):qe9 K (.val (.tup l),N)=K ((.tup,l),N):=(rfl)
def yValLm(K:(Sk×List D)×Env->R M):qe9 K (.tmp l,N)=K ((.lst,l),N):=(rfl)
def yX(K:Rv->R M):kX K (.val d,N)=K (.val d):=(rfl)
def yXt(K:Rv->R M):kX K (.tmp l,N)=K (.tmp l):=(rfl)
def yAv(K:Sl×Env->R M):kAv K (d,N)=K (.val d,N):=(rfl)
def yAx(K:Sl×Env->R M):kAx K (.val d,N)=K (.val d,N):=(rfl)
def yAxt(K:Sl×Env->R M):kAx K (.tmp l,N)=K (.own l,N):=(rfl)
def yCons{α:Type}(K:α×Env->R M)(x:α):qhP s K (x,N)=K (x,s::N):=(rfl)
def xE_s(K:D×Env->R M):(slE (s::N) (i+1)).th K=(slE N i).th (qhP s K):=by rw[qmx,qc];rfl
def xE_v(K:D×Env->R M):(slE (.val d::N) 0).th K=K (d,.val d::N):=(rfl)
variable(K:(Sk×List D)×Env->R M)
def xL_s:(slL (s::N) (i+1)).th K=(slL N i).th (qhP s K):=by rw[qmy,qc];rfl
def xL_l:(slL (.val (.lst l)::N) 0).th K=K ((.lst,l),.val (.lst l)::N):=(rfl)
def xL_z(z:Str):(slL (.val (.str z)::N) 0).th K=K ((.str,qeJ z),.val (.str z)::N):=(rfl)
def xL_o:(slL (.own l::N) 0).th K=K ((.lst,l),.val (.lst l)::N):=(rfl)
def xL_b:(slL (.bor l::N) 0).th K=K ((.lst,l),.bor l::N):=(rfl)
end
section
variable(N:Env)(K:Fl->R M)(i:Nat)
def oGo_some(l:List D)(x:R M):oGo (some l) x=x:=(rfl)
theorem xS_app(e:E):(iS cl w (.app i e) N).th K=oGo (zi N i) ((jG e (iR cl e) N).th (qnh i K)):=by
 rw[qkl]
 cases zi N i with
 |none=>rfl
 |some l=>show R.th (R.th (jG e (iR cl e) N) _) K=_;rw[qc];rfl
def yApp(d:D):qnh i K (d,N)=qhQ i d N K (zi N i):=(rfl)
def yApp2(d:D)(l:List D):qhQ i d N K (some l)=if l.length < sizeLine then K (.next (N.set i (.own (l++[d])))) else .no:=by show R.th (if l.length < sizeLine then _ else _) K=_;rw[zr];rfl
theorem xS_ext(e:E):(iS cl w (.ext i e) N).th K=oGo (zi N i) ((iR cl e N).th (qni i K)):=by
 rw[qkm]
 cases zi N i with
 |none=>rfl
 |some l=>show R.th (R.th (iR cl e N) _) K=_;rw[qc];rfl
def yExt(v:Rv):qni i K (v,N)=qhR i N K (zi N i) v.plain?:=(rfl)
def yExt2(l n:List D):qhR i N K (some l) (some n)=if l.length+n.length<=sizeLine then K (.next (N.set i (.own (l++n)))) else .no:=by show R.th (if l.length+n.length<=sizeLine then _ else _) K=_;rw[zr];rfl
def xS_ret(e:E):(iS cl w (.ret e) N).th K=(qeM e (iR cl e) N).th (kRt K):=by rw[qkn,qc];rfl
def yRt(r:Rv):kRt K r=K (.ret r):=(rfl)
def xS_set(e:E):(iS cl w (.set i e) N).th K=(qbF e (iR cl e) N).th (qnj i K):=by rw[qko,qc];rfl
def ySet(s:Sl):qnj i K (s,N)=K (.next (N.set i s)):=(rfl)
theorem xS_setI(x e:E):(iS cl w (.setI i x e) N).th K=(jG e (iR cl e) N).th (kSI cl i x K):=by
 rw[qhI,qc];refine qr _ λy=>?_;show R.th (match zi y.2 i with |none=>_ |some _=>_) K=oGo (zi y.2 i) _
 cases zi y.2 i with
 |none=>rfl
 |some l=>
  show R.th (R.th (iR cl x y.2) _) K=R.th _ _;rw[qc];refine qr _ λz=>?_;show R.th (match zi z.2 i,z.1.int? with |some l,some n=>_ |_,_=>_) K=qlE i y.1 z.2 K (zi z.2 i) z.1.int?
  cases zi z.2 i with
  |none=>rfl
  |some l=>cases z.1.int?<;>rfl
def ySI(x:E)(d:D):kSI cl i x K (d,N)=oGo (zi N i) ((iR cl x N).th (qmI i d K)):=(rfl)
def ySI2(d:D)(v:Rv):qmI i d K (v,N)=qlE i d N K (zi N i) v.int?:=(rfl)
def ySI3(d:D)(l:List D)(n:Int):qlE i d N K (some l) (some n)=qmH i d N K l (ixN l.length n):=(rfl)
def ySI4(d:D)(l:List D)(k:Nat):qmH i d N K l (some k)=K (.next (N.set i (.own (l.set k d)))):=(rfl)
def xS_ite(c:T)(a b:Ss):(iS cl w (.ite c a b) N).th K=(iT cl c N).th (qnk cl w a b K):=by rw[qkp,qc];refine qr _ λt=>?_;rw[zr];rfl
def yIte(a b:Ss)(t:Bool):qnk cl w a b K (t,N)=if t=true then (iSs cl w a N).th K else (iSs cl w b N).th K:=(rfl)
def xS_for(tg:Tg)(src:I)(b:Ss):(iS cl w (.for_ tg src b) N).th K=(iI cl src N).th (qnl cl w tg b K):=by rw[qkq,qc];rfl
def yFor(tg:Tg)(b:Ss)(l:List D):qnl cl w tg b K (l,N)=(jT cl w tg b l N).th K:=(rfl)
def xS_whl(c:T)(b:Ss):(iS cl w (.whl c b) N).th K=(whD cl w c b w N).th K:=(rfl)
def xSs_nil:(iSs cl w .nil N).th K=K (.next N):=(rfl)
def xSs_cons(s:S)(l:Ss):(iSs cl w (.cons s l) N).th K=(iS cl w s N).th (qhS cl w l K):=by rw[qe5,qc];rfl
def yNext(l:Ss):qhS cl w l K (.next N)=(iSs cl w l N).th K:=(rfl)
def yNextr(l:Ss)(r:Rv):qhS cl w l K (.ret r)=K (.ret r):=(rfl)
def xFo_cons(tg:Tg)(b:Ss)(d:D)(l:List D):(jT cl w tg b (d::l) N).th K=(tg.go d N).th (qnm cl w tg b l K):=by rw[qdc,qc,qc];refine qr _ λN2=>?_;rfl
def yFo1(tg:Tg)(b:Ss)(l:List D):qnm cl w tg b l K N=(iSs cl w b N).th (qlF cl w tg b l K):=(rfl)
def yFo2(tg:Tg)(b:Ss)(l:List D):qlF cl w tg b l K (.next N)=(jT cl w tg b l N).th K:=(rfl)
def yFo2r(tg:Tg)(b:Ss)(l:List D)(r:Rv):qlF cl w tg b l K (.ret r)=K (.ret r):=(rfl)
def xWh(c:T)(b:Ss)(n:Nat):(whD cl w c b (n+1) N).th K=(iT cl c N).th (qnn cl w c b n K):=by rw[qe4,qc];refine qr _ λt=>?_;rw[zr,qc];rfl
def yWh1(c:T)(b:Ss)(n:Nat)(t:Bool):qnn cl w c b n K (t,N)=if t=true then (iSs cl w b N).th (qmJ cl w c b n K) else K (.next N):=(rfl)
def yWh2(c:T)(b:Ss)(n:Nat):qmJ cl w c b n K (.next N)=(whD cl w c b n N).th K:=(rfl)
end
section
variable(N:Env)(K:List D->R M)(e:E)(tg:Tg)(c:F)(l acc:List D)(d:D)
def xP_cons:(jj cl e tg c (d::l) N acc).th K=(tg.go d N).th (kP1 cl e tg c l acc K):=by
 rw[qbL,qc];refine qr _ λN1=>?_;rw[qc];refine qr _ λbt=>?_;rw[zr,qc];show(if bt.1=true then _ else _)=(if bt.1=true then _ else _)
 by_cases h:bt.1=true
 ·rw[if_pos h,if_pos h];refine qr _ λx=>?_;rw[zr];rfl
 ·rw[if_neg h,if_neg h]
def yP1:kP1 cl e tg c l acc K N=(iF cl c N).th (kP2 cl e tg c l acc K):=(rfl)
def yP2(t:Bool):kP2 cl e tg c l acc K (t,N)=if t=true then (jG e (iR cl e) N).th (kP3 cl e tg c l acc K) else (jj cl e tg c l N acc).th K:=(rfl)
def yP3:kP3 cl e tg c l acc K (d,N)=if acc.length < sizeLine then (jj cl e tg c l N (acc++[d])).th K else .no:=(rfl)
end
end
def vc:E->Bool
 |.var _=>true
 |.con _=>true
 |_=>false
def vc_bin(op:Operator)(a b:E):vc (.bin op a b)=false:=(rfl)
def vc_neg(a:E):vc (.neg a)=false:=(rfl)
def vc_and(a b:E):vc (.and a b)=false:=(rfl)
def vc_cmp(op:CmpOp)(a b:E):vc (.cmp op a b)=false:=(rfl)
def vc_ite(c:T)(a b:E):vc (.ite c a b)=false:=(rfl)
def vc_idx(a b:E):vc (.idx a b)=false:=(rfl)
def vc_sli(a:E)(lo hi:O):vc (.sli a lo hi)=false:=(rfl)
def vc_lst(l:Es):vc (.lst l)=false:=(rfl)
def vc_tup(l:Es):vc (.tup l)=false:=(rfl)
def vc_call(f:Str)(l:Es):vc (.call f l)=false:=(rfl)
def vc_b1(f:B1)(a:E):vc (.b1 f a)=false:=(rfl)
def vc_b2(f:B2)(a b:E):vc (.b2 f a b)=false:=(rfl)
def vc_fld(a:E)(x:Str):vc (.fld a x)=false:=(rfl)
def vc_met(a:E)(x:Str)(l:Es):vc (.met a x l)=false:=(rfl)
def vc_new(f:Str)(l:Es):vc (.new f l)=false:=(rfl)
def vc_comp(e:E)(src:I)(tg:Tg)(c:F)(n:Nat)(fr:List Nat):vc (.comp e src tg c n fr)=false:=(rfl)
section
variable{M:Type}(r:Env->R (Rv×Env))(N:Env)
def eE_g{e:E}(h:vc e=false)(K:D×Env->R M):(jG e r N).th K=(r N).th (qng K):=by rw[show jG e r N=(r N).th qlz from(by cases e<;>first|rfl|(cases h)),qc];rfl
def eL_g{e:E}(h:vc e=false)(K:(Sk×List D)×Env->R M):(yc e r N).th K=(r N).th (qe9 K):=by rw[show yc e r N=(r N).th qlA from(by cases e<;>first|rfl|(cases h)),qc];rfl
def eX_g{e:E}(h:vc e=false)(K:Rv->R M):(qeM e r N).th K=(r N).th (kX K):=by rw[show qeM e r N=(r N).th λx=>match x.1 with |.val d=>R.ok (.val d) |.tmp l=>.ok (.tmp l) |_=>.no from(by cases e<;>first|rfl|(cases h)),qc];rfl
def eA_g{e:E}(h:vc e=false)(K:Sl×Env->R M):(qbF e r N).th K=(r N).th (kAx K):=by rw[show qbF e r N=(r N).th λx=>match x.1 with |.val d=>R.ok (.val d,x.2) |.tmp l=>.ok (.own l,x.2) |_=>.no from(by cases e<;>first|rfl|(cases h)),qc];rfl
def eE_var(K:D×Env->R M)(i:Nat):(jG (.var i) r N).th K=(slE N i).th K:=(rfl)
def eE_con(K:D×Env->R M)(d:D):(jG (.con d) r N).th K=K (d,N):=(rfl)
def eL_var(K:(Sk×List D)×Env->R M)(i:Nat):(yc (.var i) r N).th K=(slL N i).th K:=(rfl)
def eX_var(K:Rv->R M)(i:Nat):(qeM (.var i) r N).th K=(slX N i).th K:=(rfl)
def eX_con(K:Rv->R M)(d:D):(qeM (.con d) r N).th K=K (.val d):=(rfl)
def eA_var(K:Sl×Env->R M)(i:Nat):(qbF (.var i) r N).th K=(slE N i).th (kAv K):=qc (slE N i) _ _
def eA_con(K:Sl×Env->R M)(d:D):(qbF (.con d) r N).th K=K (.val d,N):=(rfl)
end
def bAdd(a b:Int):ZI .Add (.val (.int a)) (.val (.int b))=.ok (.val (.int (a+b))):=(rfl)
def bAdds(a b:Str):ZI .Add (.val (.str a)) (.val (.str b))=if a.length+b.length<=sizeLine then .ok (.val (.str (a++b))) else .no:=(rfl)
def bAddtt(a b:List D):ZI .Add (.tmp a) (.tmp b)=if a.length+b.length<=sizeLine then .ok (.tmp (a++b)) else .no:=(rfl)
def bSub(a b:Int):ZI .Sub (.val (.int a)) (.val (.int b))=.ok (.val (.int (a - b))):=(rfl)
def bMult(a b:Int):ZI .Mult (.val (.int a)) (.val (.int b))=if QZ a b=true then .ok (.val (.int (a * b))) else .no:=(rfl)
def bDiv(a b:Int):ZI .FloorDiv (.val (.int a)) (.val (.int b))=if 0 < b/\b < 1073741824 then .ok (.val (.int (a / b))) else if b < 0/\-1073741824 < b then .ok (.val (.int (a.fdiv b))) else .no:=(rfl)
def bMod(a b:Int):ZI .Mod (.val (.int a)) (.val (.int b))=if 0 < b then .ok (.val (.int (a % b))) else if b < 0 then .ok (.val (.int (a.fmod b))) else .no:=(rfl)
def bPow(a b:Int):ZI .Pow (.val (.int a)) (.val (.int b))=if 0<=b/\b<=1000000/\a.natAbs < 2 ^ 64 then .ok (.val (.int (a ^ b.toNat))) else .no:=(rfl)
def cEq(x y:Rv):y7 .Eq x y=eqD x.data y.data:=(rfl)
def cNe(x y:Rv):y7 .NotEq x y=(eqD x.data y.data).map (!·):=(rfl)
def cLt(a b:Int):y7 .Lt (.val (.int a)) (.val (.int b))=some (decide (a < b)):=(rfl)
def cLe(a b:Int):y7 .LtE (.val (.int a)) (.val (.int b))=some (decide (a<=b)):=(rfl)
def cGt(a b:Int):y7 .Gt (.val (.int a)) (.val (.int b))=some (decide (b < a)):=(rfl)
def cGe(a b:Int):y7 .GtE (.val (.int a)) (.val (.int b))=some (decide (b<=a)):=(rfl)
def cIn(x y:Rv):y7 .In x y=qd1 x y:=(rfl)
def cNi(x y:Rv):y7 .NotIn x y=(qd1 x y).map (!·):=(rfl)
def mIn(a b:Str):qd1 (.val (.str a)) (.val (.str b))=some (qin a b):=(rfl)
def rgoV(i:Nat)(d:D)(N:Env):Tg.go (.one i) d N=.ok (N.set i (.val d)):=(rfl)
def rgoT(l:List Nat)(ds:List D)(N:Env):Tg.go (.many l) (.tup ds) N=YW l ds N:=(rfl)
def setIs_nil(N:Env):YW [] [] N=.ok N:=(rfl)
def setIs_cons(i:Nat)(l:List Nat)(d:D)(ds:List D)(N:Env):YW (i::l) (d::ds) N=YW l ds (N.set i (.val d)):=(rfl)
section
variable{α M:Type}(f:α->M)(a b:α)(l m:List α)(n:Nat)
def g_mapc:List.map f (a::l)=f a::List.map f l:=(rfl)
def g_mapn:List.map f []=[]:=(rfl)
def g_lenc:(a::l).length=l.length+1:=(rfl)
def g_lenn:([]:List α).length=0:=(rfl)
def g_rep0:List.replicate 0 a=[]:=(rfl)
def g_reps:List.replicate (n+1) a=a::List.replicate n a:=(rfl)
def g_appc:(a::l)++m=a::(l++m):=(rfl)
def g_appn:[]++m=m:=(rfl)
def g_set0:(a::l).set 0 b=b::l:=(rfl)
def g_sets:(a::l).set (n+1) b=a::l.set n b:=(rfl)
def g_last(l:List α)(x:α):atI (l++[x]) (-1)=some x:=L2.qek ..
def g_nott:(!true)=false:=(rfl)
def g_notf:(!false)=true:=(rfl)
def g_omap:Option.map f (some a)=some (f a):=(rfl)
def g_fe:(false=true)=False:=Bool.false_eq_true
def g_and(p:Prop):(p/\p)=p:=and_self p
def g_dt(h:Decidable True):@decide True h=true:=decide_true ..
def g_df(h:Decidable False):@decide False h=false:=decide_false ..
end
def aL(b:Bool)(l:List D):Ar:=match b with
 |true=>.bor l
 |false=>.val (.lst l)
def rA(b:Bool)(l:List D):Rv:=match b with
 |true=>.cell l
 |false=>.val (.lst l)
def pS(b:Bool)(l:List D):Sl:=match b with
 |true=>.bor l
 |false=>.val (.lst l)
section
variable{M:Type}(b:Bool)(l:List D)(N:DE.Env)
def lend_v(d:D):qlx (.val d)=.val d:=(rfl)
def qkX:aL true l=.bor l:=rfl
def qkY:aL false l=.val (.lst l):=rfl
def sA_p:toSl (aL b l)=pS b l:=by cases b<;>rfl
def sA_R:slR (pS b l::N) 0=.ok (rA b l):=by cases b<;>rfl
def sA_L(K:(Sk×List D)×DE.Env->R M):(slL (pS b l::N) 0).th K=K ((.lst,l),pS b l::N):=by cases b<;>rfl
def rA_a:toAr (rA b l)=aL b l:=by cases b<;>rfl
def rA_l:(rA b l).list?=some l:=by cases b<;>rfl
def rA_s:(rA b l).str?=none:=by cases b<;>rfl
def rA_t:(rA b l).tup?=none:=by cases b<;>rfl
def rA_y:Ty.list.go (rA b l)=some true:=by cases b<;>rfl
end
noncomputable abbrev RW(pg:Pg)(f:Str)(c:Nat×Nat×Ss):Prop:=∀(k:Nat) (args:List Ar),clK pg (k+1) f args=runD (pg.kk k) 1000 c args
noncomputable abbrev USs(b c:Ss):Prop:=∀{M:Type} (cl:Cl) (w:Nat) (N:DE.Env) (K:Fl->R M),(iSs cl w b N).th K=(iSs cl w c N).th K
noncomputable abbrev UT(b c:T):Prop:=∀{M:Type} (cl:Cl) (N:DE.Env) (K:Bool×DE.Env->R M),(iT cl b N).th K=(iT cl c N).th K
noncomputable abbrev UE(b c:E):Prop:=∀{M:Type} (cl:Cl) (N:DE.Env) (K:D×DE.Env->R M),(jG b (iR cl b) N).th K=(jG c (iR cl c) N).th K
end DE
namespace DG
open PySem L2 DE
def rk(c:Str):Bool:=c == "Within" || c == "Since" || c == "InRow"
def pcs(x:Xs:={}):Cs where
 toXs:=x
 tab:=["Within","Since","InRow","Book"]
 fld:=λc x=>(rk c&&(x == "lands" || x == "most" || (x == "span" && c == "Within")||(x == "leave" && c != "Within")))||(c == "Book" && (x == "kept_rules" || x == "kept_papers"))
 mt:=λc x=>if rk c&&x == "weight" then some "Rule.weight" else if c == "Book" && x == "rules" then some "Book.rules" else if c == "Book" && x == "lifted" then some "Book.lifted" else if c == "Book" && x == "papers" then some "Book.papers" else none
 sub:=λc t=>if rk c&&t == "Within" then some (c == "Within") else if rk c&&t == "Since" then some (c != "Within") else none
def qbN(s:Str):Bool:=decide (1<=s.length)&&decide (s.length<=8)&&s.cps.toList.all λc=>decide (97<=c)&&decide (c<=122)
def qdd:D->Option (Str×Int)
 |.tup [.str s,.int w]=>if qbN s&&decide (1<=w)&&decide (w<=9) then some (s,w) else none
 |_=>none
def Yl:List Str->List D->Bool
 |_,[]=>true
 | acc,d::l=>match qdd d with
  |some p=>!acc.contains p.1&&Yl (acc++[p.1]) l
  |none=>false
def qB(l:List D):Bool:=decide (1<=l.length)&&decide (l.length<=6)&&Yl [] l
def btw(n a b:Int):Bool:=decide (a<=n)&&decide (n<=b)
def Zd:D->Bool
 |.ins c _ _=>rk c
 |_=>false
def jJ(many:Int):D->Bool
 |.tup [.int o,.int a,.int b]=>btw o 0 (many - 1)&&btw a 0 1000000000&&btw b 0 1000000000&&decide (a<=b)
 |_=>false
def arL:Ar->Option (List D)
 |.val (.lst l)=>some l
 |.bor l=>some l
 |_=>none
def arI:Ar->Option Int
 |.val (.int n)=>some n
 |_=>none
def qaX:List Ar->Option (List (Str×D))
 |[a,b]=>match arL a,arI b with
  |some l,some m=>if (qB l&&btw m 0 1000000000)=true then some [("lands",.tup l),("most",.int m)] else none
  |_,_=>none
 |_=>none
def jn(x:Str):List Ar->Option (List (Str×D))
 |[a,b,c]=>match arL a,arI b,arI c with
  |some l,some m,some s=>if (qB l&&btw m 0 1000000000&&btw s 1 1000000000)=true then some [("lands",.tup l),("most",.int m),(x,.int s)] else none
  |_,_,_=>none
 |_=>none
def qbO:List Ar->Option (List (Str×D))
 |[a,b]=>match arL a,arI b with
  |some l,some m=>if (qB l&&btw m 0 1000000000)=true then some [("lands",.tup l),("most",.int m),("leave",.int 1)] else none
  |_,_=>none
 |_=>none
def Ym:List Ar->Option (List (Str×D))
 |[a,b]=>match arL a,arL b with
  |some l,some ps=>if ((decide (l.length<=8)&&l.all Zd)&&(decide (ps.length<=12)&&ps.all (jJ l.length)))=true then some [("kept_rules",.lst l),("kept_papers",.lst ps)] else none
  |_,_=>none
 |_=>none
def qaY(c:Str):Option (List (Str×D))->R Rv
 |some fs=>.ok (.val (.ins c (fs.map (·.1)) (fs.map (·.2))))
 |none=>.no
def pnw(k:Nat)(f:Str)(args:List Ar):R Rv:=if k < 12 then .no else
 if f = "Within" then qaY "Within" (jn "span" args) else if f = "Since" then qaY "Since" (jn "leave" args) else if f = "InRow" then qaY "InRow" (qbO args) else if f = "Book" then qaY "Book" (Ym args) else .no
def Yn:Nat×Nat×Ss:=(1,1,%[.ret (.and (.isi Ty.int (.var 0)) (.one (.not (.isi Ty.bool (.var 0)))))|0])
def yL:Nat×Nat×Ss:=(3,3,%[.ret (.and (.call "is_whole" %[0|0]) (.and (.cmp .LtE (.var 1) (.var 0)) (.one (.cmp .LtE (.var 0) (.var 2)))))|0])
def Yo:Nat×Nat×Ss:=(2,2,%[.ret (.and (.call "is_between" %[0,.con (.int 0),.con (.int 1000000000)|0]) (.and (.call "is_between" %[1,.con (.int 0),.con (.int 1000000000)|0]) (.one (.cmp .LtE (.var 0) (.var 1)))))|0])
noncomputable abbrev jo:Ss:=%[.ite (.cmp .NotIn (.var 2) (.var 1)) %[.ret (.con (.bl false))|0] .nil|0]
def zv:Ss:=jo
def y8:USs zv jo:=λ_ _ _ _=>(rfl)
def yM:Nat×Nat×Ss:=(2,3,%[.for_ (.one 2) (.seq (.var 0)) zv,.ret (.con (.bl true))|0])
def Ze:Nat×Nat×Ss:=(1,1,%[.ite (.not (.val (.isi Ty.str (.var 0)))) %[.ret (.con (.bl false))|0] .nil,.ret (.and (.cmp .LtE (.con (.int 1)) (.b1 .len (.var 0))) (.and (.cmp .LtE (.b1 .len (.var 0)) (.con (.int 8))) (.one (.call "is_made_of" %[0,.con (.str "abcdefghijklmnopqrstuvwxyz")|0]))))|0])
class CH(pg:Pg):Prop where
 r_is_whole:RW pg "is_whole" Yn
 r_is_between:RW pg "is_between" yL
 r_are_days:RW pg "are_days" Yo
 r_is_made_of:RW pg "is_made_of" yM
 r_is_name:RW pg "is_name" Ze
def Zf:Nat×Nat×Ss:=(1,1,%[.ite (.or (.not (.val (.isi Ty.tuple (.var 0)))) (.one (.cmp .NotEq (.b1 .len (.var 0)) (.con (.int 3))))) %[.ret (.con (.bl false))|0] .nil,.ret (.and (.call "is_name" %[.idx (.var 0) (.con (.int 0))|0]) (.one (.call "are_days" %[.idx (.var 0) (.con (.int 1)),.idx (.var 0) (.con (.int 2))|0])))|0])
noncomputable abbrev ye:Ss:=%[.ite (.or (.not (.val (.call "is_stay" %[3|0]))) (.one (.cmp .LtE (.idx (.var 3) (.con (.int 1))) (.var 1)))) %[.rai "NoStay" %[2|0]|0] .nil,.set 1 (.idx (.var 3) (.con (.int 2)))|0]
def jp:Ss:=ye
def J7:USs jp ye:=λ_ _ _ _=>(rfl)
def Yp:Nat×Nat×Ss:=(1,4,%[.ite (.not (.val (.isi Ty.list (.var 0)))) %[.rai "NoStay" %[.con .non|0]|0] .nil,.set 1 (.neg (.con (.int 1))),.for_ (.many [2,3]) (.enum (.var 0)) jp,.ite (.cmp .Gt (.b1 .len (.var 0)) (.con (.int 60))) %[.rai "NoStay" %[.con .non|0]|0] .nil,.ret (.b1 .list (.var 0))|0])
class ST(pg:Pg):Prop where
 r_is_stay:RW pg "is_stay" Zf
 r_stays_of:RW pg "stays_of" Yp
noncomputable abbrev JI:Ss:=%[.ite (.and (.val (.var 1)) (.one (.cmp .LtE (.var 2) (.bin .Add (.idx (.idx (.var 1) (.neg (.con (.int 1)))) (.con (.int 1))) (.con (.int 1)))))) %[.setI 1 (.neg (.con (.int 1))) (.tup %[.idx (.idx (.var 1) (.neg (.con (.int 1)))) (.con (.int 0)),.b2 .max (.idx (.idx (.var 1) (.neg (.con (.int 1)))) (.con (.int 1))) (.var 3)|0])|0] %[.app 1 (.tup %[2,3|0])|0]|0]
def yE:Ss:=JI
def jq:USs yE JI:=λ_ _ _ _=>(rfl)
def qaZ:Nat×Nat×Ss:=(1,4,%[.set 1 (.lst .nil),.for_ (.many [2,3]) (.seq (.b1 .srt (.var 0))) yE,.ret (.var 1)|0])
class SP(pg:Pg):Prop where
 r_spread:RW pg "spread" qaZ
def Zg:Nat×Nat×Ss:=(1,1,%[.ite (.or (.not (.val (.isi Ty.tuple (.var 0)))) (.one (.cmp .NotEq (.b1 .len (.var 0)) (.con (.int 2))))) %[.ret (.con (.bl false))|0] .nil,.ret (.and (.call "is_name" %[.idx (.var 0) (.con (.int 0))|0]) (.one (.call "is_between" %[.idx (.var 0) (.con (.int 1)),.con (.int 1),.con (.int 9)|0])))|0])
noncomputable abbrev jK:Ss:=%[.ite (.or (.not (.val (.call "is_land" %[2|0]))) (.one (.cmp .In (.idx (.var 2) (.con (.int 0))) (.var 1)))) %[.ret (.con (.bl false))|0] .nil,.app 1 (.idx (.var 2) (.con (.int 0)))|0]
def zX:Ss:=jK
def JJ:USs zX jK:=λ_ _ _ _=>(rfl)
def JK:Nat×Nat×Ss:=(1,3,%[.ite (.or (.not (.val (.isi Ty.list (.var 0)))) (.or (.cmp .Lt (.b1 .len (.var 0)) (.con (.int 1))) (.one (.cmp .Gt (.b1 .len (.var 0)) (.con (.int 6)))))) %[.ret (.con (.bl false))|0] .nil,.set 1 (.lst .nil),.for_ (.one 2) (.seq (.var 0)) zX,.ret (.con (.bl true))|0])
abbrev jf:Ss:=%[.ite (.cmp .Eq (.var 2) (.var 1)) %[.ret (.var 3)|0] .nil|0]
def zm:Ss:=jf
def zI:USs zm jf:=λ_ _ _ _=>(rfl)
def zY:Nat×Nat×Ss:=(2,4,%[.for_ (.many [2,3]) (.seq (.fld (.var 0) "lands")) zm,.ret (.con (.int 0))|0])
class RU(pg:Pg):Prop where
 cs:pg.cs=pcs pg.xx
 nw:pg.nw=pnw
 r_is_land:RW pg "is_land" Zg
 r_are_lands:RW pg "are_lands" JK
 r_Rule_weight:RW pg "Rule.weight" zY
noncomputable abbrev jL:Ss:=%[.ite (.and (.not (.val (.isc "Within" (.var 1)))) (.one (.not (.val (.isc "Since" (.var 1)))))) %[.ret (.con (.bl false))|0] .nil|0]
def zZ:Ss:=jL
def jr:USs zZ jL:=λ_ _ _ _=>(rfl)
def JL:Nat×Nat×Ss:=(1,2,%[.ite (.or (.not (.val (.isi Ty.list (.var 0)))) (.one (.cmp .Gt (.b1 .len (.var 0)) (.con (.int 8))))) %[.ret (.con (.bl false))|0] .nil,.for_ (.one 1) (.seq (.var 0)) zZ,.ret (.con (.bl true))|0])
def Yq:Nat×Nat×Ss:=(2,2,%[.ite (.or (.not (.val (.isi Ty.tuple (.var 0)))) (.one (.cmp .NotEq (.b1 .len (.var 0)) (.con (.int 3))))) %[.ret (.con (.bl false))|0] .nil,.ret (.and (.call "is_between" %[.idx (.var 0) (.con (.int 0)),.con (.int 0),.bin .Sub (.var 1) (.con (.int 1))|0]) (.one (.call "are_days" %[.idx (.var 0) (.con (.int 1)),.idx (.var 0) (.con (.int 2))|0])))|0])
noncomputable abbrev zJ:Ss:=%[.ite (.not (.val (.call "is_paper" %[3,1|0]))) %[.rai "NoPaper" %[2|0]|0] .nil|0]
def qY:Ss:=zJ
def yf:USs qY zJ:=λ_ _ _ _=>(rfl)
def jM:Nat×Nat×Ss:=(2,4,%[.ite (.not (.val (.isi Ty.list (.var 0)))) %[.rai "NoPaper" %[.con .non|0]|0] .nil,.for_ (.many [2,3]) (.enum (.var 0)) qY,.ite (.cmp .Gt (.b1 .len (.var 0)) (.con (.int 12))) %[.rai "NoPaper" %[.con .non|0]|0] .nil|0])
def yN:Nat×Nat×Ss:=(1,1,%[.ret (.b1 .list (.fld (.var 0) "kept_rules"))|0])
def Y3:Nat×Nat×Ss:=(1,1,%[.ret (.b1 .list (.fld (.var 0) "kept_papers"))|0])
abbrev jg:E:=(.tup %[1,2|0])
def zn:E:=jg
def zK:UE zn jg:=λ_ _ _=>(rfl)
def yg:Nat×Nat×Ss:=(2,2,%[.ret (.call "spread" %[.comp zn (.seq (.fld (.var 0) "kept_papers")) (.many [0,1,2]) (.test (.cmp .Eq (.var 0) (.var 3))) 3 [1]|0])|0])
class BO(pg:Pg):Prop where
 r_are_rules:RW pg "are_rules" JL
 r_is_paper:RW pg "is_paper" Yq
 r_check_papers:RW pg "check_papers" jM
 r_Book_rules:RW pg "Book.rules" yN
 r_Book_papers:RW pg "Book.papers" Y3
 r_Book_lifted:RW pg "Book.lifted" yg
end DG
namespace FA
open PySem L2 DE DG
def zw:Nat×Nat×Ss:=(2,2,%[.ite (.cmp .Lt (.var 1) (.b1 .len (.var 0))) %[.ret (.idx (.var 0) (.var 1))|0] .nil,.ret (.con (.int 0))|0])
class LC(pg:Pg):Prop where
 r__law_cell_at:RW pg "_law_cell_at" zw
noncomputable abbrev js:Ss:=%[.set 9 (.bin .Add (.bin .Add (.bin .FloorDiv (.var 0) (.con (.int 64))) (.bin .Mult (.bin .Mult (.con (.int 5)) (.var 8)) (.var 8))) (.bin .Mult (.bin .Mult (.con (.int 3)) (.var 6)) (.b1 .int (.cmp .Eq (.var 8) (.var 4))))),.set 7 (.bin .Add (.var 7) (.idx (.var 2) (.bin .Mod (.var 9) (.con (.int 26)))))|0]
def qU:Ss:=js
def y9:USs qU js:=λ_ _ _ _=>(rfl)
noncomputable abbrev jt:Ss:=%[.set 7 (.con (.str "")),.for_ (.one 8) (.rng (.var 3)) qU,.app 5 (.var 7)|0]
def zx:Ss:=jt
def Ja:USs zx jt:=λ_ _ _ _=>(rfl)
def yP:Nat×Nat×Ss:=(2,10,%[.set 2 (.con (.str "abcdefghijklmnopqrstuvwxyz")),.set 3 (.bin .Add (.con (.int 1)) (.bin .Mod (.var 0) (.con (.int 8)))),.set 4 (.bin .Mod (.bin .FloorDiv (.var 0) (.con (.int 8))) (.var 3)),.set 5 (.lst .nil),.for_ (.one 6) (.rng (.var 1)) zx,.ret (.var 5)|0])
class LN(pg:Pg):Prop where
 r__law_lands:RW pg "_law_lands" yP
end FA
namespace DG
open PySem L2 DE
open CH ST SP RU BO
section
variable{pg:Pg}[CH pg]
def qfa(k:Nat)(n:Int):clK pg (k+1) "is_whole" [.val (.int n)]=.ok (.val (.bl true)):=by rw[r_is_whole];simp?![Yn]
def zL(k:Nat)(n a b:Int)(h1:a<=n)(h2:n<=b):clK pg (k+2) "is_between" [.val (.int n),.val (.int a),.val (.int b)]=.ok (.val (.bl true)):=by rw[r_is_between];simp?![yL,qfa,h1,h2,decide_true]
def qde(k:Nat)(a b:Int)(h0:0<=a)(h1:a<=b)(h2:b<=1000000000):clK pg (k+3) "are_days" [.val (.int a),.val (.int b)]=.ok (.val (.bl true)):=by
 have h3:a<=1000000000:=by lia
 have h4:0<=b:=by lia
 rw[r_are_days];simp?![Yo,zL k a 0 1000000000 h0 h3,zL k b 0 1000000000 h4 h2,h1,decide_true]
def yF(c:Nat):Prop:=97<=c/\c < 123
def qhT(c:Nat)(h:yF c):qin ⟨#[c]⟩ "abcdefghijklmnopqrstuvwxyz" = true:=by
 have key:∀j:Fin 26,qin ⟨#[97+j.val]⟩ "abcdefghijklmnopqrstuvwxyz" = true:=(3:)
 have:=key ⟨c - 97,by unfold yF at h;lia⟩
 rw[show 97+(c - 97)=c by unfold yF at h;lia]at this;exact this
theorem Zh(k:Nat)(z:Str):∀(l:List Nat) (s:Sl),(∀c∈l,yF c)->∃s',jT (pg.kk k) 1000 (.one 2) zv (l.map λc=>D.str ⟨#[c]⟩) [.val (.str z),.val (.str "abcdefghijklmnopqrstuvwxyz"),s]=.ok (.next [.val (.str z),.val (.str "abcdefghijklmnopqrstuvwxyz"),s'])
 |[],s,_=>{s,by rw[List.map_nil,qM]}
 | c::l,s,h=>by let(s',e):=Zh k z l (.val (.str ⟨#[c]⟩)) λx hx=>h x (by simp[hx]);refine{s',?_};rw[List.map_cons];simp?[y8,qhT c (h c (5:)),e]
def qhU(k:Nat)(z:Str)(h:∀c∈z.cps.toList,yF c):clK pg (k+1) "is_made_of" [.val (.str z),.val (.str "abcdefghijklmnopqrstuvwxyz")]=.ok (.val (.bl true)):=by rw[r_is_made_of];let(s',e):=Zh (pg:=pg) k z z.cps.toList .no h;simp?![yM,Nat.reduceAdd,Nat.reduceSub,qeJ,e]
structure NameOk(z:Str):Prop where
 one:1<=z.cps.size
 eight:z.cps.size<=8
 lets:∀c∈z.cps.toList,yF c
def qdf(k:Nat)(z:Str)(h:NameOk z):clK pg (k+2) "is_name" [.val (.str z)]=.ok (.val (.bl true)):=by
 have hz:z.length<=sizeLine:=by
  have:=h.eight
  show z.cps.size<=2 ^ 24
  lia
 have h1:(1:Int)<=(z.length:Int):=by
  have:=h.one
  show(1:Int)<=(z.cps.size:Int)
  lia
 have h8:(z.length:Int)<=8:=by
  have:=h.eight
  show(z.cps.size:Int)<=8
  lia
 rw[r_is_name];simp?![Ze,hz,h1,h8,decide_true,qhU k z h.lets]
def stD(s:Str×Int×Int):D:=.tup [.str s.1,.int s.2.1,.int s.2.2]
def Yr(s:Str×Int×Int):stD s=.tup [.str s.1,.int s.2.1,.int s.2.2]:=rfl
structure StOk(e:Int)(s:Str×Int×Int):Prop where
 nm:NameOk s.1
 lo:e < s.2.1
 ab:s.2.1<=s.2.2
 hi:s.2.2<=1000000000
end
section
variable{pg:Pg}[CH pg][ST pg]
def qhV(k:Nat)(e:Int)(s:Str×Int×Int)(he:-1<=e)(h:StOk e s):clK pg (k+4) "is_stay" [.val (stD s)]=.ok (.val (.bl true)):=by
 have hlo:=h.lo;have hab:=h.ab;rw[r_is_stay];have e0:atI [D.str s.1,D.int s.2.1,D.int s.2.2] 0=some (.str s.1):=by rfl
 have e1:atI [D.str s.1,D.int s.2.1,D.int s.2.2] 1=some (.int s.2.1):=by rfl
 have e2:atI [D.str s.1,D.int s.2.1,D.int s.2.2] 2=some (.int s.2.2):=by rfl
 simp?![Zf,stD,e0,e1,e2,qI,qdf (k+1) s.1 h.nm,qde k s.2.1 s.2.2 (1:) h.ab h.hi,show((((0+1+1+1:Nat):Int) == 3)=true) from rfl]
def Ch:Int->List (Str×Int×Int)->Prop
 |_,[]=>True
 | e,s::l=>StOk e s/\Ch s.2.2 l
theorem zM(k:Nat)(v:Sl):∀(l:List (Str×Int×Int)) (i:Nat) (e:Int) (s2 s3:Sl),-1<=e->Ch e l->∃e' s2' s3',jT (pg.kk (k+4)) 1000 (.many [2,3]) jp (enF i (l.map stD)) [v,.val (.int e),s2,s3]=.ok (.next [v,.val (.int e'),s2',s3'])
 |[],i,e,s2,s3,_,_=>⟨e,s2,s3,rfl⟩
 | s::l,i,e,s2,s3,he,h=>by
  have h1:=h.1.lo;have h2:=h.1.ab;let(e',s2',s3',ih):=zM k v l (i+1) s.2.2 (.val (.int i)) (.val (stD s)) (1:) h.2;refine{e',s2',s3',?_};have hn:¬ s.2.1<=e:=by lia
  have st:=qhV (pg:=pg) k e s he h.1;simp![Yr]at st ih;refine(qm _).symm.trans ?_;rw[List.map_cons,enF];simp?![J7,Yr,st,hn,ih]
def qa0(k:Nat)(b:Bool)(l:List (Str×Int×Int))(h:Ch (-1) l)(hl:l.length<=60):clK pg (k+5) "stays_of" [aL b (l.map stD)]=.ok (.tmp (l.map stD)):=by
 have h6:¬ (60:Int) < ((l.map stD).length:Int):=by rw[List.length_map];lia
 let(e',s2',s3',ih):=zM (pg:=pg) k (pS b (l.map stD)) l 0 (-1) .no .no (1:) h;rw[r_stays_of];simp?![Yp,Nat.reduceAdd,Nat.reduceSub,qaW,ih,h6,decide_false]
end
def NameOk.of{z:Str}(h:qbN z=true):NameOk z:=by
 unfold qbN at h;simp![Bool.and_eq_true,decide_eq_true_eq,List.all_eq_true]at h;refine{h.1.1,h.1.2,λc hc=>?_}
 have:=h.2 c hc
 unfold yF
 lia
def qfb{d:D}{p:Str×Int}(h:qdd d=some p):d=.tup [.str p.1,.int p.2]/\NameOk p.1/\1<=p.2/\p.2<=9:=by
 unfold qdd at h
 split at h
 ·rename_i s w
  split at h
  ·rename_i hc;cases h;simp![Bool.and_eq_true,decide_eq_true_eq]at hc;exact{rfl,NameOk.of hc.1.1,hc.1.2,hc.2}
  ·cases h
 ·cases h
section
variable{pg:Pg}[CH pg][RU pg]
def qhW(k:Nat)(s:Str)(w:Int)(hs:NameOk s)(h1:1<=w)(h9:w<=9):clK pg (k+3) "is_land" [.val (.tup [.str s,.int w])]=.ok (.val (.bl true)):=by
 rw[r_is_land];have e0:atI [D.str s,D.int w] 0=some (.str s):=by rfl
 have e1:atI [D.str s,D.int w] 1=some (.int w):=by rfl
 simp?![Zg,e0,e1,qI,qdf k s hs,zL k w 1 9 h1 h9,show((((0+1+1:Nat):Int) == 2)=true) from rfl]
end
def qfc(s:Str)(acc:List Str):inD (.str s) (acc.map D.str)=some (acc.contains s):=by
 have e:∀acc:List Str,inV (V.str s) (acc.map V.str)=acc.contains s:=by
  intro acc
  induction acc with
  |nil=>rfl
  |cons z l ih=>
   rw[List.map_cons,List.contains_cons,<-ih];show(eqV (V.str z) (V.str s)||_)=_
   congr 1
   exact BEq.comm
 unfold inD;rw[if_pos (by simp[y6]),show(acc.map D.str).map flV=acc.map V.str by simp[flV]];exact congrArg some (e acc)
def qdg(s:Str)(acc:List Str):qd1 (.val (.str s)) (.cell (acc.map D.str))=some (acc.contains s):=qfc s acc
section
variable{pg:Pg}[CH pg][RU pg]
theorem Ys(k:Nat)(v:Sl):∀(l:List D) (acc:List Str) (s2:Sl),Yl acc l=true->acc.length+l.length < 1000->∃acc' s2',jT (pg.kk (k+3)) 1000 (.one 2) zX l [v,.own (acc.map D.str),s2]=.ok (.next [v,.own acc',s2'])
 |[],acc,s2,_,_=>{_,s2,rfl}
 | d::l,acc,s2,h,hl=>by
  unfold Yl at h
  cases e:qdd d with
  |none=>rw[e]at h;cases h
  |some p=>
   rw[e]at h;simp![Bool.and_eq_true,Bool.not_eq_true']at h;let(rfl,hn,h1,h9):=qfb e;rw[List.length_cons]at hl;let(acc',s2',ih):=Ys k v l (acc++[p.1]) (.val (.tup [.str p.1,.int p.2])) h.2 (by simp;lia);refine{acc',s2',?_};rw[List.map_append,List.map_cons,List.map_nil]at ih;have e0:atI [D.str p.1,D.int p.2] 0=some (.str p.1):=by rfl
   have hs:(acc.map D.str).length < sizeLine:=by
    rw[List.length_map];show acc.length < 2 ^ 24
    lia
   simp?[JJ,e0,qhW k p.1 p.2 hn h1 h9,qdg,h.1,hs,ih]
def qaa(k:Nat)(b:Bool)(l:List D)(h:qB l=true):clK pg (k+4) "are_lands" [aL b l]=.ok (.val (.bl true)):=by
 unfold qB at h;simp![Bool.and_eq_true,decide_eq_true_eq]at h;have h1:¬ (l.length:Int) < 1:=by have:=h.1.1;lia
 have h2:¬ (6:Int) < (l.length:Int):=by have:=h.1.2;lia
 rw[r_are_lands];let(acc',s2',ih):=Ys (pg:=pg) k (pS b l) l [] .no h.2 (by have:=h.1.2;simp;lia);rw[List.map_nil]at ih;simp?![JK,h1,h2,show(0:Nat)<=sizeLine by decide+kernel,ih]
end
section
variable{pg:Pg}[CH pg]
def qkZ(k:Nat)(n a b:Int)(h:btw n a b=true):clK pg (k+2) "is_between" [.val (.int n),.val (.int a),.val (.int b)]=.ok (.val (.bl true)):=by unfold btw at h;simp![Bool.and_eq_true,decide_eq_true_eq]at h;exact zL k n a b h.1 h.2
end
theorem Yt(cl:Cl){xx:Xs}(hc:cl.cs=pcs xx)(v:Sl):∀(l:List D) (s1:Sl),l.all Zd=true->∃s1',jT cl 1000 (.one 1) zZ l [v,s1]=.ok (.next [v,s1'])
 |[],s1,_=>⟨s1,rfl⟩
 | d::l,s1,h=>by
  rw[List.all_cons,Bool.and_eq_true]at h
  cases d with
  |ins c ns ds=>
   let(s1',ih):=Yt cl hc v l (.val (.ins c ns ds)) h.2;refine{s1',?_};have hk:rk c=true:=h.1
   have i1:qeK (pcs xx) (.val (.ins c ns ds)) "Within" = some (c == "Within"):=by show(if (rk c&&_)=true then _ else _)=_;rw[hk];rfl
   have i2:qeK (pcs xx) (.val (.ins c ns ds)) "Since" = some (c != "Within"):=by show(if (rk c&&false)=true then _ else if (rk c&&true)=true then _ else _)=_;rw[hk];rfl
   refine(qm _).symm.trans ?_
   by_cases hw:(c == "Within")=true
   ·simp?![jr,hc,i1,hw,ih]
   ·have hw:(c == "Within")=false:=(-hw:)
    have hn:(c != "Within")=true:=by simp[bne,hw]
    simp?![jr,hc,i1,i2,hw,hn,ih]
  |_=>cases h.1
section
variable{pg:Pg}[CH pg][RU pg][BO pg]
def qab(k:Nat)(b:Bool)(l:List D)(h:(decide (l.length<=8)&&l.all Zd)=true):clK pg (k+1) "are_rules" [aL b l]=.ok (.val (.bl true)):=by
 simp![Bool.and_eq_true,decide_eq_true_eq]at h;have h2:¬ (8:Int) < (l.length:Int):=by have:=h.1;lia
 rw[r_are_rules];let(s1',ih):=Yt (pg.kk k) RU.cs (pS b l) l .no h.2;simp?![JL,h2,ih]
end
def qdh{n:Int}{d:D}(h:jJ n d=true):∃o a b,d=.tup [.int o,.int a,.int b]/\0<=o/\o<=n - 1/\0<=a/\a<=b/\b<=1000000000:=by
 unfold jJ at h
 split at h
 ·rename_i o a b;simp![btw,Bool.and_eq_true,decide_eq_true_eq]at h;exact{o,a,b,rfl,by lia,by lia,by lia,by lia,by lia}
 ·cases h
section
variable{pg:Pg}[CH pg][BO pg]
def Y4(k:Nat)(n:Int)(d:D)(h:jJ n d=true):clK pg (k+4) "is_paper" [.val d,.val (.int n)]=.ok (.val (.bl true)):=by
 let(o,a,b,rfl,h1,h2,h3,h4,h5):=qdh h;have e0:atI [D.int o,D.int a,D.int b] 0=some (.int o):=by rfl
 have e1:atI [D.int o,D.int a,D.int b] 1=some (.int a):=by rfl
 have e2:atI [D.int o,D.int a,D.int b] 2=some (.int b):=by rfl
 rw[r_is_paper];simp?![Yq,e0,e1,e2,qI,zL (k+1) o 0 (n - 1) h1 h2,qde k a b h3 h4 h5,show((((0+1+1+1:Nat):Int) == 3)=true) from rfl]
theorem JM(k:Nat)(v:Sl)(n:Int):∀(l:List D) (i:Nat) (s2 s3:Sl),l.all (jJ n)=true->∃s2' s3',jT (pg.kk (k+4)) 1000 (.many [2,3]) qY (enF i l) [v,.val (.int n),s2,s3]=.ok (.next [v,.val (.int n),s2',s3'])
 |[],i,s2,s3,_=>⟨s2,s3,rfl⟩
 | d::l,i,s2,s3,h=>by rw[List.all_cons,Bool.and_eq_true]at h;let(s2',s3',ih):=JM k v n l (i+1) (.val (.int i)) (.val d) h.2;refine{s2',s3',?_};refine(qm _).symm.trans ?_;rw[enF];simp?![yf,Y4 k n d h.1,ih]
def J8(k:Nat)(b:Bool)(ps:List D)(n:Int)(h:(decide (ps.length<=12)&&ps.all (jJ n))=true):clK pg (k+5) "check_papers" [aL b ps,.val (.int n)]=.ok (.val .non):=by
 simp![Bool.and_eq_true,decide_eq_true_eq]at h;have h2:¬ (12:Int) < (ps.length:Int):=by have:=h.1;lia
 rw[r_check_papers];let(s2',s3',ih):=JM (pg:=pg) k (pS b ps) n ps 0 .no .no h.2;simp?![jM,qaW,ih,h2]
end
end DG
namespace FA
open PySem L2 DE DG
open LC LN
def JN{i j:Int}(h1:-(2 ^ 64) < j)(h2:j < 2 ^ 64):QZ i j=true:=by unfold QZ;rw[decide_eq_true h1,decide_eq_true h2];simp
def qf6{i j:Int}(h1:-(2 ^ 64) < i)(h2:i < 2 ^ 64):QZ i j=true:=by unfold QZ;rw[decide_eq_true h1,decide_eq_true h2];simp
def ju(ns:List Int)(i:Nat):Int:=ns.getD i 0
section
variable{pg:Pg}[LC pg]
def qac(k:Nat)(ns:List Int)(i:Nat):clK pg (k+1) "_law_cell_at" [.scr (ns.map D.int),.val (.int (i:Int))]=.ok (.val (.int (ju ns i))):=by
 rw[r__law_cell_at]
 by_cases h:i < ns.length
 ·have h1:(i:Int) < ((ns.map D.int).length:Int):=by rw[List.length_map];lia
  have h2:atI (ns.map D.int) (i:Int)=some (.int (ju ns i)):=qlD (by simp[h,ju]);simp?![zw,Nat.reduceAdd,Nat.reduceSub,h1,h2,decide_true]
 ·have h1:¬ (i:Int) < ((ns.map D.int).length:Int):=by rw[List.length_map];lia
  have h2:ju ns i=0:=by simp[ju,h]
  simp?![zw,Nat.reduceAdd,Nat.reduceSub,h1,h2,decide_false]
end
def qk0(i:Int)(h0:0<=i)(h1:i < 26):atI (Str.cps "abcdefghijklmnopqrstuvwxyz").toList i=some (97+i.toNat)/\yF (97+i.toNat):=by
 have key:∀j:Fin 26,atI (Str.cps "abcdefghijklmnopqrstuvwxyz").toList (j.val:Int)=some (97+j.val):=(3:)
 let(j,rfl):=Int.eq_ofNat_of_zero_le h0;exact{key {j,by lia},by unfold yF;simp;lia}
def qfd(z:Str)(c:Nat):(z++(⟨#[c]⟩:Str)).cps.toList=z.cps.toList++[c]:=by show(z.cps ++ #[c]).toList=_;simp
def ltr(cell at' k:Int)(j:Nat):Nat:=97+((cell / 64+5 * (j:Int) * (j:Int)+3 * k * (if ((j:Int) == at')=true then 1 else 0)) % 26).toNat
def qhX(cell at' k:Int)(j:Nat):yF (ltr cell at' k j):=by
 unfold yF ltr
 lia
def Nm(cell at' k:Int)(j:Nat)(z:Str):Prop:=z.cps.toList=(List.range j).map (ltr cell at' k)
def Nm.ok{cell at' k:Int}{m:Nat}{z:Str}(h:Nm cell at' k m z)(h1:1<=m)(h8:m<=8):NameOk z:=by
 have e:z.cps.size=m:=by rw[<-Array.length_toList,h];simp
 refine{by lia,by lia,λc hc=>?_};rw[h]at hc;let(j,_,rfl):=List.mem_map.mp hc;exact qhX ..
def Nm.ne{cell at' k k':Int}{m:Nat}{z z':Str}(h:Nm cell at' k m z)(h':Nm cell at' k' m z')(h0:0<=at')(h1:at' < m)(hk:0<=k/\k < 4)(hk':0<=k'/\k' < 4)(ne:k≠k'):z≠z':=by
 rintro rfl;have e:(List.range m).map (ltr cell at' k)=(List.range m).map (ltr cell at' k'):=h.symm.trans h';have e2:=congrArg (λl=>l[at'.toNat]?) e;simp![List.getElem?_map]at e2;rw[List.getElem?_range (1:)]at e2;simp![Option.map_some,Option.some.injEq]at e2;unfold ltr at e2;have ea:((at'.toNat:Nat):Int)=at':=by lia
 rw[ea,beq_self_eq_true,if_pos rfl]at e2
 lia
def qbP(cl:Cl)(v1 v3 v5 s9:Sl)(cell at' k:Int)(j:Nat)(z:Str)(hj:j < 8)(hz:z.cps.size < 8) :
  ∃s9',iSs cl 1000 qU [.val (.int cell),v1,.val (.str "abcdefghijklmnopqrstuvwxyz"),v3,.val (.int at'),v5,.val (.int k),.val (.str z),.val (.int j),s9]=.ok (.next [.val (.int cell),v1,.val (.str "abcdefghijklmnopqrstuvwxyz"),v3,.val (.int at'),v5,.val (.int k),.val (.str (z++(⟨#[ltr cell at' k j]⟩:Str))),.val (.int j),s9']):=by
 have m1:QZ 5 (j:Int)=true:=qf6 (2:) (2:);have m2:QZ (5 * (j:Int)) (j:Int)=true:=JN (1:) (1:);have m3:QZ 3 k=true:=qf6 (2:) (2:);have m4:QZ (3 * k) (if ((j:Int) == at')=true then 1 else 0)=true:=JN (by split<;>decide) (by split<;>decide);have h1:=(qk0 ((cell / 64+5 * j * j+3 * k * (if ((j:Int) == at')=true then 1 else 0)) % 26) (Int.emod_nonneg _ (2:)) (Int.emod_lt_of_pos _ (2:))).1
 have hl:z.length+(⟨#[ltr cell at' k j]⟩:Str).length<=sizeLine:=by
  show z.cps.size+1<=2 ^ 24
  lia
 have h26:("abcdefghijklmnopqrstuvwxyz" : Str).length<=sizeLine:=(3:)
 refine{.val (.int (cell / 64+5 * j * j+3 * k * (if ((j:Int) == at')=true then 1 else 0))),?_};unfold ltr at hl ⊢;simp?[y9,m1,m2,m3,m4,qI,h1,hl,h26]
theorem qfe(cl:Cl)(v1 v3 v5:Sl)(cell at' k:Int)(n:Nat):∀(j:Nat) (z:Str) (s8 s9:Sl),j+n<=8->Nm cell at' k j z->
  ∃z' s8' s9',jT cl 1000 (.one 8) qU (rgF (j:Int) n) [.val (.int cell),v1,.val (.str "abcdefghijklmnopqrstuvwxyz"),v3,.val (.int at'),v5,.val (.int k),.val (.str z),s8,s9]=.ok (.next [.val (.int cell),v1,.val (.str "abcdefghijklmnopqrstuvwxyz"),v3,.val (.int at'),v5,.val (.int k),.val (.str z'),s8',s9'])/\Nm cell at' k (j+n) z':=by
 induction n with
 |zero=>exactλj z s8 s9 _ hz=>⟨z,s8,s9,rfl,hz⟩
 |succ n ih=>
  intro j z s8 s9 hn hz;have sz:z.cps.size=j:=by rw[<-Array.length_toList,hz];simp
  let(t9,st):=qbP cl v1 v3 v5 s9 cell at' k j z (1:) (1:)
  let(z',s8',s9',ih,e1):=ih (j+1) (z++(⟨#[ltr cell at' k j]⟩:Str)) (.val (.int j)) t9 (1:) (by
   unfold Nm at hz ⊢;rw[qfd,hz,List.range_succ,List.map_append]
   rfl)
  refine{z',s8',s9',?_,by rw[show j+(n+1)=j+1+n by lia];exact e1};rw[show((j+1:Nat):Int)=(j:Int)+1 from by lia]at ih;refine(qm _).symm.trans ?_;rw[rgF];simp![xFo_cons,rgoV,List.set_cons_succ,List.set_cons_zero,th_ok,yFo1,st,yFo2,ih]
def Nms(cell at':Int)(m:Nat)(zs:List Str):Prop:=∀(i:Nat) (z:Str),zs[i]?=some z->Nm cell at' (i:Int) m z
theorem Zi(cl:Cl)(v1:Sl)(cell at':Int)(m:Nat)(hm:1<=m/\m<=8):∀(n:Nat) (zs:List Str) (s6 s7 s8 s9:Sl),zs.length+n < 1000->Nms cell at' m zs->
  ∃(zs':List Str) (s6' s7' s8' s9':Sl),jT cl 1000 (.one 6) zx (rgF (zs.length:Int) n) [.val (.int cell),v1,.val (.str "abcdefghijklmnopqrstuvwxyz"),.val (.int (m:Int)),.val (.int at'),.own (zs.map D.str),s6,s7,s8,s9]=.ok (.next [.val (.int cell),v1,.val (.str "abcdefghijklmnopqrstuvwxyz"),.val (.int (m:Int)),.val (.int at'),.own (zs'.map D.str),s6',s7',s8',s9'])/\zs'.length=zs.length+n/\Nms cell at' m zs'
 |0,zs,s6,s7,s8,s9,_,hz=>⟨zs,s6,s7,s8,s9,rfl,rfl,hz⟩
 | n+1,zs,s6,s7,s8,s9,hl,hz=>by
  let(z,s8',s9',e,h1):=qfe cl v1 (.val (.int (m:Int))) (.own (zs.map D.str)) cell at' (zs.length:Int) m 0 "" s8 s9 (1:) rfl;rw[Nat.zero_add]at h1
  let(zs',t6,t7,t8,t9,ih,h3,h4):=Zi cl v1 cell at' m hm n (zs++[z]) (.val (.int (zs.length:Int))) (.val (.str z)) s8' s9' (by simp;lia) (λi x hx=>by
   by_cases q:i < zs.length
   ·rw[List.getElem?_append_left q]at hx;exact hz i x hx
   ·rw[List.getElem?_append_right (1:)]at hx
    have:i - zs.length=0:=by
     have:=(List.getElem?_eq_some_iff.mp hx).1
     simp at this
     lia
    rw[this]at hx;simp at hx;subst hx
    have:i=zs.length:=by lia
    subst this;exact h1)
  refine{zs',t6,t7,t8,t9,?_,by rw[h3];simp;lia,h4}
  have hs:qL (m:Int)=true:=by
   unfold qL;simp
   lia
  have hz':(zs.map D.str).length < sizeLine:=by
   rw[List.length_map];show _ < 2 ^ 24
   lia
  rw[List.length_append,List.length_singleton,show((zs.length+1:Nat):Int)=(zs.length:Int)+1 from by lia]at ih;refine(qm _).symm.trans ?_;rw[rgF];rw[show((0:Nat):Int)=0 from rfl]at e;simp![List.map_append,List.map_cons,List.map_nil]at ih;simp?![Ja,hs,zH,Int.sub_zero,Int.toNat_natCast,e,hz',ih]
structure NamesOk(zs:List Str):Prop where
 two:2<=zs.length
 four:zs.length<=4
 ok:∀z∈zs,NameOk z
 once:∀(i j:Nat) (z:Str),zs[i]?=some z->zs[j]?=some z->i=j
section
variable{pg:Pg}[LN pg]
def qff(k:Nat)(cell:Int)(n:Nat)(hn:2<=n/\n<=4):∃zs:List Str,clK pg (k+1) "_law_lands" [.val (.int cell),.val (.int (n:Int))]=.ok (.tmp (zs.map D.str))/\zs.length=n/\NamesOk zs:=by
 have hm:∃m:Nat,(1+cell % 8:Int)=(m:Int)/\1<=m/\m<=8:={(1+cell % 8).toNat,by lia,by lia,by lia};let(m,e,h1,h2):=hm;have a0:0<=cell / 8 % (m:Int):=Int.emod_nonneg _ (1:);have a1:cell / 8 % (m:Int) < m:=Int.emod_lt_of_pos _ (1:);let(zs,s6,s7,s8,s9,h,h3,h4):=Zi (pg.kk k) (.val (.int (n:Int))) cell (cell / 8 % (m:Int)) m ⟨h1,h2⟩ n [] .no .no .no .no (by simp;lia) (λi z hz=>by simp at hz);simp at h3;refine{zs,?_,h3,{by lia,by lia,λz hz=>?_,λi j z hi hj=>?_}}
 ·rw[List.map_nil]at h;have hp:(0:Int) < (m:Int):=by lia
  have hs:qL (n:Int)=true:=by
   unfold qL;simp
   lia
  rw[show((([]:List Str).length:Nat):Int)=0 from rfl]at h;rw[r__law_lands];simp?![yP,Nat.reduceAdd,Nat.reduceSub,e,hp,show(0:Nat)<=sizeLine by decide+kernel,hs,zH,Int.sub_zero,Int.toNat_natCast,h]
 ·let(i,hi):=List.getElem?_of_mem hz;exact(h4 i z hi).ok h1 h2
 ·by_cases q:i=j
  ·exact q
  ·have li:=(List.getElem?_eq_some_iff.mp hi).1;have lj:=(List.getElem?_eq_some_iff.mp hj).1;exact absurd rfl (Nm.ne (h4 i z hi) (h4 j z hj) a0 a1 ⟨by lia,by lia⟩ ⟨by lia,by lia⟩ (1:))
end
def lnD(p:Str×Int):D:=.tup [.str p.1,.int p.2]
def qa1(p:Str×Int):lnD p=.tup [.str p.1,.int p.2]:=rfl
def qfg{z:Str}(h:NameOk z):qbN z=true:=by
 unfold qbN;simp![Bool.and_eq_true,decide_eq_true_eq,List.all_eq_true];refine{⟨h.one,h.eight⟩,λc hc=>?_}
 have:=h.lets c hc
 unfold yF at this
 lia
structure LnOk(p:Str×Int):Prop where
 nm:NameOk p.1
 one:1<=p.2
 nine:p.2<=9
def qfh{p:Str×Int}(h:LnOk p):qdd (lnD p)=some p:=by show(if (qbN p.1&&decide (1<=p.2)&&decide (p.2<=9))=true then some (p.1,p.2) else none)=_;rw[if_pos (by rw[qfg h.nm,decide_eq_true h.one,decide_eq_true h.nine];rfl)]
theorem Zj:∀(l:List (Str×Int)) (acc:List Str),(∀p∈l,LnOk p)->(acc++l.map (·.1)).Nodup->Yl acc (l.map lnD)=true
 |[],acc,_,_=>rfl
 | p::l,acc,h,nd=>by
  rw[List.map_cons];unfold Yl;rw[qfh (h p (5:))];have e:acc++(p::l).map (·.1)=(acc++[p.1])++l.map (·.1):=by simp
  rw[e]at nd
  have n1:p.1∉acc:=by
   have:=(List.nodup_append.mp nd).1
   have:=(List.nodup_append.mp this).2.2
   intro hm;exact this p.1 hm p.1 (5:) rfl
  simp![Bool.and_eq_true,Bool.not_eq_true'];exact{by simpa using n1,Zj l (acc++[p.1]) (λq hq=>h q (by simp[hq])) nd}
def qbQ{l:List (Str×Int)}(h:∀p∈l,LnOk p)(nd:(l.map (·.1)).Nodup)(h1:1<=l.length)(h6:l.length<=6):qB (l.map lnD)=true:=by unfold qB;rw[List.length_map,decide_eq_true h1,decide_eq_true h6,Zj l [] h (-nd:)];rfl
def qa2{zs:List Str}(i:Int)(h0:0<=i)(h1:i < zs.length):∃z,atI (zs.map D.str) i=some (.str z)/\zs[i.toNat]?=some z:=by
 let(j,rfl):=Int.eq_ofNat_of_zero_le h0;have hj:j < zs.length:=by lia
 exact{zs[j],qlD (by rw[List.getElem?_map,List.getElem?_eq_getElem hj];rfl),by simp[hj]}
def qdi(zs:List Str):((zs.map D.str).length:Int)=(zs.length:Int):=by rw[List.length_map]
def Lns(zs:List Str)(a:Int)(l:List (Str×Int)):Prop:=∀(i:Nat) (p:Str×Int),l[i]?=some p->zs[((a+(i:Int)) % (zs.length:Int)).toNat]?=some p.1/\LnOk p
inductive Kd where
 | wi|si|ro
structure Ru where
 kd:Kd
 lands:List (Str×Int)
 most:Int
 days:Int
def Lns.nodup{zs:List Str}(hz:NamesOk zs){a:Int}{l:List (Str×Int)}(h:Lns zs a l)(hl:l.length<=zs.length):(l.map (·.1)).Nodup:=by
 rw[List.nodup_iff_pairwise_ne,List.pairwise_iff_getElem];intro i j hi hj hij e;rw[List.length_map]at hi hj;rw[List.getElem_map,List.getElem_map]at e;have h1:=(h i _ (List.getElem?_eq_getElem hi)).1;have h2:=(h j _ (List.getElem?_eq_getElem hj)).1;rw[e]at h1
 have:=hz.once _ _ _ h1 h2
 have hL:(0:Int) < (zs.length:Int):=by have:=hz.two;lia
 have a0:0<=(a+(i:Int)) % (zs.length:Int):=Int.emod_nonneg _ (1:);have b0:0<=(a+(j:Int)) % (zs.length:Int):=Int.emod_nonneg _ (1:);have e3:(a+(i:Int)) % (zs.length:Int)=(a+(j:Int)) % (zs.length:Int):=by lia
 have e4:=Int.emod_emod_of_dvd (a+j - (a+i)) (Int.dvd_refl (zs.length:Int));have e5:(a+(j:Int) - (a+(i:Int))) % (zs.length:Int)=0:=by rw[Int.sub_emod,e3,Int.sub_self,Int.zero_emod]
 rw[show a+(j:Int) - (a+(i:Int))=((j - i:Nat):Int) by lia]at e5;rw[Int.emod_eq_of_lt (1:) (1:)]at e5
 lia
end FA
namespace Dy
abbrev P:=Int×Int
def Day(fs:List P)(d:Int):Prop:=∃p∈fs,p.1<=d/\d<=p.2
structure Spr(fs:List P):Prop where
 ok:∀p∈fs,p.1<=p.2
 gap:fs.Pairwise λp q=>p.2+2<=q.1
def lex(p q:P):Prop:=p.1 < q.1\/(p.1=q.1/\p.2<=q.2)
def stp(acc:List P)(p:P):List P:=match acc.getLast? with
 |some l=>if p.1<=l.2+1 then acc.dropLast++[(l.1,if p.2 > l.2 then p.2 else l.2)] else acc++[p]
 |none=>[p]
def qad(p:P):stp [] p=[p]:=rfl
def Y5(a:List P)(l p:P):stp (a++[l]) p=if p.1<=l.2+1 then a++[(l.1,if p.2 > l.2 then p.2 else l.2)] else (a++[l])++[p]:=by unfold stp;rw[List.getLast?_append];simp
theorem qae{α:Type}(l:List α):l=[]\/∃a x,l=a++[x]:=by
 cases l with
 |nil=>exact .inl rfl
 |cons a r=>exact .inr ⟨(a::r).dropLast,(a::r).getLast (5:),(List.dropLast_concat_getLast (5:)).symm⟩
def jv{a b:List P}{d:Int}:Day (a++b) d↔Day a d\/Day b d:=by
 unfold Day;constructor
 ·rintro⟨p,hp,h⟩;rcases List.mem_append.mp hp with q|q
  ·exact .inl ⟨p,q,h⟩
  ·exact .inr ⟨p,q,h⟩
 ·rintro (⟨p,hp,h⟩|⟨p,hp,h⟩)
  ·exact{p,List.mem_append_left _ hp,h}
  ·exact{p,List.mem_append_right _ hp,h}
def Y6{p:P}{d:Int}:Day [p] d↔p.1<=d/\d<=p.2:=by
 unfold Day;constructor
 ·rintro⟨q,hq,h⟩;rw[List.mem_singleton.mp hq]at h;exact h
 ·intro h;exact{p,List.mem_singleton.mpr rfl,h}
def qfi{a b:List P}(h:a.Perm b)(d:Int):Day a d↔Day b d:=by
 unfold Day;constructor
 ·rintro⟨p,hp,q⟩;exact{p,h.mem_iff.mp hp,q}
 ·rintro⟨p,hp,q⟩;exact{p,h.mem_iff.mpr hp,q}
structure Run(done acc:List P):Prop where
 spr:Spr acc
 day:∀d,Day acc d↔Day done d
 low:∀a l,acc=a++[l]->∃q∈done,q.1=l.1
 len:acc.length<=done.length
 emp:acc=[]->done=[]
def qhY:Run [] []:={{(λ_ h=>nomatch h),List.Pairwise.nil},λ_=>Iff.rfl,λa l e=>by simp at e,Nat.le_refl _,λ_=>rfl}
def qfj{done acc:List P}{p:P}(R:Run done acc)(hp:p.1<=p.2)(hs:∀q∈done,q.1<=p.1):Run (done++[p]) (stp acc p):=by
 rcases qae acc with rfl|⟨a,l,rfl⟩
 ·have hd:=R.emp rfl;subst hd;rw[qad];refine{{λq hq=>by rw[List.mem_singleton.mp hq];exact hp,by simp},λd=>by simp,λa l e=>?_,by simp,λe=>by simp at e};refine{p,by simp,?_}
  have:a=[]/\p=l:=by
   cases a with
   |nil=>simpa using e
   |cons x r=>simp at e
  rw[this.2]
 ·rw[Y5];let(q0,hq0,e0):=R.low a l rfl;have hl:l.1<=p.1:=by rw[<-e0];exact hs q0 hq0
  have hlo:=R.spr.ok l (5:);have hg:=List.pairwise_append.mp R.spr.gap
  by_cases hc:p.1<=l.2+1
  ·rw[if_pos hc];refine{{λq hq=>?_,?_},λd=>?_,λa' l' e=>?_,?_,λe=>by simp at e}
   ·rcases List.mem_append.mp hq with h|h
    ·exact R.spr.ok q (List.mem_append_left _ h)
    ·rw[List.mem_singleton.mp h];dsimp only
     split<;>lia
   ·refine List.pairwise_append.mpr ⟨hg.1,by simp,λx hx y hy=>?_⟩;rw[List.mem_singleton.mp hy];exact hg.2.2 x hx l (5:)
   ·rw[jv,Y6,jv,Y6,<-R.day d,jv,Y6];dsimp only;constructor
    ·rintro (h|h)
     ·exact .inl (.inl h)
     ·by_cases h2:d<=l.2
      ·exact .inl (.inr ⟨h.1,h2⟩)
      ·right
       have:=h.2
       split at this<;>lia
    ·rintro ((h|h)|h)
     ·exact .inl h
     ·right;refine{h.1,?_}
      split<;>lia
     ·right;refine{by lia,?_}
      split<;>lia
   ·have:l'.1=l.1:=by
     have:=(List.append_inj' e rfl).2
     simp at this;rw[<-this]
    exact{q0,List.mem_append_left _ hq0,by rw[this];exact e0}
   ·have:=R.len
    simp at this ⊢
    lia
  ·rw[if_neg hc];refine{{λq hq=>?_,?_},λd=>?_,λa' l' e=>?_,?_,λe=>by simp at e}
   ·rcases List.mem_append.mp hq with h|h
    ·exact R.spr.ok q h
    ·rw[List.mem_singleton.mp h];exact hp
   ·refine List.pairwise_append.mpr ⟨R.spr.gap,by simp,λx hx y hy=>?_⟩;rw[List.mem_singleton.mp hy];rcases List.mem_append.mp hx with h|h
    ·have:=hg.2.2 x h l (5:)
     lia
    ·rw[List.mem_singleton.mp h];lia
   ·rw[jv (a:=a++[l]),jv (a:=done),R.day d]
   ·have:=(List.append_inj' e rfl).2
    simp at this;exact{p,by simp,by rw[this]}
   ·have:=R.len
    simp at this ⊢
    lia
theorem qhZ{qs:List P}(hs:qs.Pairwise lex)(hq:∀p∈qs,p.1<=p.2):∀n,n<=qs.length->Run (qs.take n) ((qs.take n).foldl stp []):=by
 intro n
 induction n with
 |zero=>intro _;simpa using qhY
 |succ n ih=>
  intro hn;have e:qs.take (n+1)=qs.take n++[qs[n]]:=by rw[List.take_succ_eq_append_getElem (1:)]
  rw[e,List.foldl_append];refine qfj (ih (1:)) (hq _ (List.getElem_mem _)) λq hq'=>?_;let(i,hi,rfl):=List.mem_take_iff_getElem.mp hq'
  have:=List.pairwise_iff_getElem.mp hs i n (1:) (1:) (1:)
  rcases this with h|h
  ·lia
  ·lia
def Spr.ends{fs:List P}(S:Spr fs){p:P}(hp:p∈fs):¬ Day fs (p.2+1)/\¬ Day fs (p.1 - 1):=by
 have key:∀q∈fs,q=p\/q.2+2<=p.1\/p.2+2<=q.1:=by
  intro q hq;let(i,hi,rfl):=List.mem_iff_getElem.mp hq;let(j,hj,rfl):=List.mem_iff_getElem.mp hp;have g:=List.pairwise_iff_getElem.mp S.gap;rcases Nat.lt_trichotomy i j with h|h|h
  ·exact .inr (.inl (g i j hi hj h))
  ·subst h;exact .inl rfl
  ·exact .inr (.inr (g j i hj hi h))
 have hpp:=S.ok p hp;constructor
 ·rintro⟨q,hq,h1,h2⟩;rcases key q hq with rfl|h|h<;>lia
 ·rintro⟨q,hq,h1,h2⟩;rcases key q hq with rfl|h|h<;>lia
def Spr.same{fs gs:List P}(S:Spr fs)(T:Spr gs)(h:∀d,Day fs d↔Day gs d):fs=gs:=by
 have sub:∀{fs gs:List P},Spr fs->Spr gs->(∀d,Day fs d↔Day gs d)->∀p∈fs,p∈gs:=by
  intro fs gs S T h p hp;have hpp:=S.ok p hp;let(q,hq,h1,h2):=(h p.1).mp ⟨p,hp,Int.le_refl _,hpp⟩;let(e1,e2):=T.ends hq;let(f1,f2):=S.ends hp
  have a1:q.1=p.1:=by
   by_cases hlt:q.1=p.1
   ·exact hlt
   ·exact absurd ((h (p.1 - 1)).mpr ⟨q,hq,by lia,by lia⟩) f2
  have a2:q.2=p.2:=by
   rcases Int.lt_trichotomy q.2 p.2 with hlt|hlt|hlt
   ·exact absurd ((h (q.2+1)).mp ⟨p,hp,by lia,by lia⟩) e1
   ·exact hlt
   ·exact absurd ((h (p.2+1)).mpr ⟨q,hq,by lia,by lia⟩) f1
  have:q=p:=Prod.ext a1 a2
  rw[<-this];exact hq
 have strict:∀{fs:List P},Spr fs->fs.Pairwise (λp q=>p.1 < q.1):=λ{fs} S=>by
  refine List.Pairwise.imp_of_mem (λ{p q} hp hq hg=>?_) S.gap
  have:=S.ok p hp
  lia
 have uniq:∀(fs gs:List P),fs.Pairwise (λp q=>p.1 < q.1)->gs.Pairwise (λp q=>p.1 < q.1)->(∀p,p∈fs↔p∈gs)->fs=gs:=by
  intro fs
  induction fs with
  |nil=>
   intro gs _ _ h
   cases gs with
   |nil=>rfl
   |cons g gs=>exact absurd ((h g).mpr (5:)) (5:)
  |cons p fs ih=>
   intro gs h1 h2 h
   cases gs with
   |nil=>exact absurd ((h p).mp (5:)) (5:)
   |cons q gs=>
    have p1:=List.pairwise_cons.mp h1;have p2:=List.pairwise_cons.mp h2
    have e:p=q:=by
     rcases List.mem_cons.mp ((h p).mp (5:)) with e|e
     ·exact e
     ·rcases List.mem_cons.mp ((h q).mpr (5:)) with e'|e'
      ·exact e'.symm
      ·have:=p1.1 q e'
       have:=p2.1 p e
       lia
    subst e;have hne:∀x,x∈fs->x≠p:=λx hx e=>by subst e;have:=p1.1 x hx;lia
    have hne':∀x,x∈gs->x≠p:=λx hx e=>by subst e;have:=p2.1 x hx;lia
    rw[ih gs p1.2 p2.2 λx=>{λhx=>by
     rcases List.mem_cons.mp ((h x).mp (List.mem_cons_of_mem _ hx)) with e|e
     ·exact absurd e (hne x hx)
     ·exact e,λhx=>by
     rcases List.mem_cons.mp ((h x).mpr (List.mem_cons_of_mem _ hx)) with e|e
     ·exact absurd e (hne' x hx)
     ·exact e}]
 exact uniq fs gs (strict S) (strict T) λp=>{sub S T h p,sub T S (λd=>(h d).symm) p}
def qk1(A:List P)(d:Int):Bool:=A.any λp=>decide (p.1<=d)&&decide (d<=p.2)
def z7{A:List P}{d:Int}:qk1 A d=true↔Day A d:=by unfold qk1 Day;simp[List.any_eq_true]
end Dy
namespace DG
open PySem L2 DE FA Dy
open CH ST SP RU BO
theorem qdj:∀ps:List (Int×Int),qfO (ps.map pD)=some ps
 |[]=>rfl
 | p::ps=>by rw[List.map_cons,qfO,qdj ps];rfl
def z8(p:Int×Int):pD p=.tup [.int p.1,.int p.2]:=rfl
def spr(ps:List (Int×Int)):List (Int×Int):=(ya ps).foldl stp []
def qh0(acc:List (Int×Int))(p:Int×Int):(stp acc p).length<=acc.length+1:=by
 rcases qae acc with rfl|⟨a,l,rfl⟩
 ·simp[qad]
 ·rw[Y5]
  split<;>simp
def qJ{n:Nat}(h:n < 100000):n < sizeLine:=Nat.lt_trans h (3:)
def z9{n:Nat}(h:n < 100000):n<=sizeLine:=Nat.le_of_lt (qJ h)
theorem JO(cl:Cl)(v:Sl):∀(ps acc:List (Int×Int)) (s2 s3:Sl),acc.length+ps.length < 10000->∃s2' s3',jT cl 1000 (.many [2,3]) yE (ps.map pD) [v,.own (acc.map pD),s2,s3]=.ok (.next [v,.own ((ps.foldl stp acc).map pD),s2',s3'])
 |[],acc,s2,s3,_=>⟨s2,s3,rfl⟩
 | p::ps,acc,s2,s3,hl=>by
  rw[List.length_cons]at hl
  have:=qh0 acc p
  let(s2',s3',ih):=JO cl v ps (stp acc p) (.val (.int p.1)) (.val (.int p.2)) (1:);refine{s2',s3',?_};have hs:acc.length < sizeLine:=qJ (1:);have two:0+1+1<=sizeLine:=(3:)
  rw[List.foldl_cons];rcases qae acc with rfl|⟨a,l,rfl⟩
  ·rw[qad]at ih ⊢;simp![List.map_cons,List.map_nil,z8]at ih;simp?[jq,z8,List.isEmpty_nil,two,show(0:Nat) < sizeLine by decide+kernel,ih]
  ·rw[Y5]at ih ⊢
   by_cases hc:p.1<=l.2+1
   ·rw[if_pos hc]at ih ⊢;simp![List.map_append,List.map_cons,List.map_nil,z8]at ih;simp?[jq,z8,List.map_append,hc,two,ih]
   ·rw[if_neg hc]at ih ⊢;simp![List.map_append,List.map_cons,List.map_nil,z8]at ih;have hs':(a.map pD++[D.tup [.int l.1,.int l.2]]).length < sizeLine:=(-hs:)
    simp?[jq,z8,List.map_append,hc,two,hs',ih]
def Zk{pg:Pg}[SP pg](k:Nat)(b:Bool)(ps:List (Int×Int))(hl:ps.length < 4000):clK pg (k+1) "spread" [aL b (ps.map pD)]=.ok (.tmp ((spr ps).map pD)):=by
 have hl':(ya ps).length < 10000:=by unfold ya;rw[List.length_mergeSort];lia
 rw[r_spread];let(s2,s3,e):=JO (pg.kk k) (pS b (ps.map pD)) (ya ps) [] .no .no (-hl':);rw[List.map_nil]at e;simp?![qaZ,YU,qdj,hl,show(0:Nat)<=sizeLine by decide+kernel,e,spr]
def Y7(p q:Int×Int):Qr p q=true↔lex p q:=by unfold Qr lex;simp
def Y8(ps:List (Int×Int))(h:∀p∈ps,p.1<=p.2):Run (ya ps) (spr ps):=by
 have hs:(ya ps).Pairwise lex:=by
  have:=List.pairwise_mergeSort (le:=Qr) (λa b c h1 h2=>by rw[Y7]at h1 h2 ⊢;unfold lex at *;lia) (λa b=>by simp![Bool.or_eq_true,Y7];unfold lex;lia) ps
  exact this.imp λ{a b} h=>(Y7 a b).mp h
 have hq:∀p∈ya ps,p.1<=p.2:=λp hp=>h p ((List.mergeSort_perm ps Qr).mem_iff.mp hp)
 have:=qhZ hs hq (ya ps).length (Nat.le_refl _)
 rwa[List.take_length]at this
def qh1{ps:List (Int×Int)}(h:∀p∈ps,p.1<=p.2)(d:Int):qk1 (spr ps) d=qk1 ps d:=by rw[Bool.eq_iff_iff,z7,z7,(Y8 ps h).day d];exact qfi (List.mergeSort_perm ps Qr) d
def qdk{ps:List (Int×Int)}(h:∀p∈ps,p.1<=p.2):Spr (spr ps):=(Y8 ps h).spr
def qh2{ps:List (Int×Int)}(h:∀p∈ps,p.1<=p.2):(spr ps).length<=ps.length:=by
 have:=(Y8 ps h).len
 unfold ya at this
 rwa[List.length_mergeSort]at this
def _root_.FA.Kd.cls:Kd->Str
 |.wi=>"Within"
 |.si=>"Since"
 |.ro=>"InRow"
def _root_.FA.Kd.fld:Kd->Str
 |.wi=>"span"
 |.si=>"leave"
 |.ro=>"leave"
def _root_.FA.Kd.isW:Kd->Bool
 |.wi=>true
 |.si=>false
 |.ro=>false
def ruI(r:Ru):D:=.ins r.kd.cls ["lands","most",r.kd.fld] [.tup (r.lands.map lnD),.int r.most,.int r.days]
def qa3{xx:Xs}(r:Ru):qcT (pcs xx) (.val (ruI r)) "lands" = some (.tup (r.lands.map lnD)):=by let(kd,l,m,d):=r;cases kd<;>rfl
def qdl{xx:Xs}(r:Ru)(h:r.kd.isW=true):qcT (pcs xx) (.val (ruI r)) "span" = some (.int r.days):=by
 let(kd,l,m,d):=r
 cases kd<;>first|rfl|cases h
def qa4{xx:Xs}(r:Ru)(h:r.kd.isW=false):qcT (pcs xx) (.val (ruI r)) "leave" = some (.int r.days):=by
 let(kd,l,m,d):=r
 cases kd<;>first|rfl|cases h
def Zl{xx:Xs}(r:Ru):mtD (pcs xx) (.val (ruI r)) "weight" = some ("Rule.weight" : Str):=by let(kd,l,m,d):=r;cases kd<;>rfl
def Zm{xx:Xs}(r:Ru):qeK (pcs xx) (.val (ruI r)) "Within" = some r.kd.isW:=by let(kd,l,m,d):=r;cases kd<;>rfl
def qfk{xx:Xs}(r:Ru):qeK (pcs xx) (.val (ruI r)) "Since" = some (!r.kd.isW):=by let(kd,l,m,d):=r;cases kd<;>rfl
abbrev St:=Str×Int×Int
abbrev Pa:=Int×Int×Int
def paD(p:Pa):D:=.tup [.int p.1,.int p.2.1,.int p.2.2]
def jh(p:Pa):paD p=.tup [.int p.1,.int p.2.1,.int p.2.2]:=rfl
def bkI(rs:List Ru)(ps:List Pa):D:=.ins "Book" ["kept_rules","kept_papers"] [.lst (rs.map ruI),.lst (ps.map paD)]
def qfl{xx:Xs}(rs:List Ru)(ps:List Pa):qcT (pcs xx) (.val (bkI rs ps)) "kept_rules" = some (.lst (rs.map ruI)):=rfl
def qdm{xx:Xs}(rs:List Ru)(ps:List Pa):qcT (pcs xx) (.val (bkI rs ps)) "kept_papers" = some (.lst (ps.map paD)):=rfl
def Y9{xx:Xs}(rs:List Ru)(ps:List Pa):mtD (pcs xx) (.val (bkI rs ps)) "rules" = some ("Book.rules" : Str):=rfl
def qdn{xx:Xs}(rs:List Ru)(ps:List Pa):mtD (pcs xx) (.val (bkI rs ps)) "lifted" = some ("Book.lifted" : Str):=rfl
def jN:List St->Int->Option Str
 |[],_=>none
 | s::l,d=>if s.2.1<=d/\d<=s.2.2 then some s.1 else jN l d
def qh3:Option Str->D
 |some z=>.str z
 |none=>.non
def wt:List (Str×Int)->Option Str->Int
 |[],_=>0
 | p::l,o=>if o=some p.1 then p.2 else wt l o
def Jp{z:Str}(h:NameOk z):PyData.strOk z=true:=by
 unfold PyData.strOk;rw[<-Array.all_toList,List.all_eq_true];intro c hc
 have:=h.lets c hc
 unfold yF at this;rw[decide_eq_true_eq]
 lia
theorem qh4{p:Str}(hp:NameOk p){o:Option Str}(ho:∀z,o=some z->NameOk z):eqD (.str p) (qh3 o)=some (decide (o=some p)):=by
 cases o with
 |none=>show eqD (.str p) .non=_;rw[qkT (Jp hp)];simp
 |some z=>
  show eqD (.str p) (.str z)=_;rw[qhN (Jp hp) (Jp (ho z rfl))]
  congr 1
  rw[Bool.eq_iff_iff,beq_iff_eq,decide_eq_true_eq];constructor
  ·rintro rfl;rfl
  ·intro e;cases e;rfl
theorem JP(cl:Cl)(v:Sl)(o:Option Str)(ho:∀z,o=some z->NameOk z):∀(l:List (Str×Int)) (s2 s3:Sl),(∀p∈l,LnOk p)->∃F,jT cl 1000 (.many [2,3]) zm (l.map lnD) [v,.val (qh3 o),s2,s3]=.ok F/\(F=.ret (.val (.int (wt l o)))\/(wt l o=0/\∃N',F=.next N'))
 |[],s2,s3,_=>{_,rfl,.inr {rfl,_,rfl}}
 | p::l,s2,s3,h=>by
  let(F,i,a):=JP cl v o ho l (.val (.str p.1)) (.val (.int p.2)) λq hq=>h q (by simp[hq]);have e:=qh4 (h p (5:)).nm ho;unfold wt
  by_cases hc:o=some p.1
  ·rw[if_pos hc];rw[decide_eq_true hc]at e;refine{_,?_,.inl rfl};rw[List.map_cons];simp?[zI,qa1,e]
  ·rw[if_neg hc];rw[decide_eq_false hc]at e;refine{F,?_,a};rw[List.map_cons];simp?[zI,qa1,e,i]
def qdo{pg:Pg}[RU pg](k:Nat)(r:Ru)(h:∀p∈r.lands,LnOk p)(o:Option Str)(ho:∀z,o=some z->NameOk z):clK pg (k+1) "Rule.weight" [.val (ruI r),.val (qh3 o)]=.ok (.val (.int (wt r.lands o))):=by
 rw[r_Rule_weight];let(F,i,a):=JP (pg.kk k) (.val (ruI r)) o ho r.lands .no .no h;rcases a with rfl|⟨i0,N',rfl⟩
 ·simp?![zY,RU.cs,qa3,i]
 ·simp?![zY,RU.cs,qa3,i,i0]
def Qa{pg:Pg}[RU pg][BO pg](k:Nat)(rs:List Ru)(ps:List Pa):clK pg (k+1) "Book.rules" [.val (bkI rs ps)]=.ok (.tmp (rs.map ruI)):=by rw[r_Book_rules];simp?![yN,RU.cs,qfl]
def ofN(n:Int)(ps:List Pa):List (Int×Int):=(ps.filter λp=>p.1 == n).map λp=>(p.2.1,p.2.2)
def lift(n:Int)(ps:List Pa):List (Int×Int):=spr (ofN n ps)
theorem jU(cl:Cl)(n:Int):∀(ps:List Pa) (acc:List (Int×Int)) (s0 s1 s2:Sl),acc.length+ps.length < 10000->jj cl zn (.many [0,1,2]) (.test (.cmp .Eq (.var 0) (.var 3))) (ps.map paD) [s0,s1,s2,.val (.int n)] (acc.map pD)=.ok ((acc++ofN n ps).map pD)
 |[],acc,s0,s1,s2,_=>by simp[ofN,yd]
 | p::ps,acc,s0,s1,s2,hl=>by
  rw[List.length_cons]at hl;have two:0+1+1<=sizeLine:=(3:)
  have hs:(acc.map pD).length < sizeLine:=by rw[List.length_map];exact qJ (1:)
  cases hc:(p.1 == n) with
  |true=>
   have ih:=jU cl n ps (acc++[(p.2.1,p.2.2)]) (.val (.int p.1)) (.val (.int p.2.1)) (.val (.int p.2.2)) (by simp;lia);have e:ofN n (p::ps)=(p.2.1,p.2.2)::ofN n ps:=by simp[ofN,hc]
   rw[e];simp![List.map_append,List.map_cons,List.map_nil,z8,List.append_assoc,List.cons_append,List.nil_append]at ih ⊢;simp?[zK,jh,qI,hc,two,hs,ih]
  |false=>
   have ih:=jU cl n ps acc (.val (.int p.1)) (.val (.int p.2.1)) (.val (.int p.2.2)) (1:);have e:ofN n (p::ps)=ofN n ps:=by simp[ofN,hc]
   rw[e];rw[List.map_cons];simp?[zK,jh,qI,hc,two,hs,ih]
def qdp(n:Int)(ps:List Pa):(ofN n ps).length<=ps.length:=by unfold ofN;rw[List.length_map];exact List.length_filter_le ..
def qdq{pg:Pg}[RU pg][BO pg][SP pg](k:Nat)(rs:List Ru)(ps:List Pa)(n:Int)(hl:ps.length < 64):clK pg (k+2) "Book.lifted" [.val (bkI rs ps),.val (.int n)]=.ok (.tmp ((lift n ps).map pD)):=by
 have i:=jU (pg.kk (k+1)) n ps [] .no .no .no (by simp;lia);have s:=Zk (pg:=pg) k false (ofN n ps) (Nat.lt_trans (Nat.lt_of_le_of_lt (qdp n ps) hl) (2:));have hs:(ps.map paD).length<=sizeLine:=by rw[List.length_map];exact z9 (1:)
 simp![qkX,qkY]at s;rw[List.map_nil,List.nil_append]at i;rw[r_Book_lifted];simp?![yg,RU.cs,qdm,qb1,List.getD_cons_succ,List.getD_cons_zero,hs,i,s,lift]
def wgt(r:Ru)(lf:List (Int×Int))(st:List St)(d:Int):Int:=if qk1 lf d=true then 0 else wt r.lands (jN st d)
def ws(f:Int->Int)(lo:Int):Nat->List Int
 |0=>[]
 | n+1=>f lo::ws f (lo+1) n
theorem qa5:∀l:List Int,Z2 (l.map D.int)=some l
 |[]=>rfl
 | n::l=>by rw[List.map_cons,Z2,qa5 l];rfl
section
variable{pg:Pg}[RU pg]
def qdr(f:Int->Int)(leave:Int):Nat->Int->Int->Int->Int->Int×Int
 |0,fi,to,_,_=>(fi,to)
 | n+1,fi,to,em,ba=>if em < leave then (if f ba=0 then qdr f leave n fi to (em+1) (ba - 1) else qdr f leave n ba (to+f ba) 0 (ba - 1)) else (fi,to)
end
def win(r:Ru)(f:Int->Int)(d:Int):Int×Int:=if r.kd.isW=true then (d - r.days+1,(ws f (d - r.days+1) r.days.toNat).sum) else qdr f r.days 1000 (d+1) 0 0 d
def qaf{rs:List Ru}{n:Nat}{r:Ru}(h:rs[n]?=some r):atI (rs.map ruI) (n:Int)=some (ruI r):=qlD (by rw[List.getElem?_map,h];rfl)
abbrev Rl:=Ru×List (Int×Int)
def qf7(st:List St)(d:Int):Nat->List Rl->Option (Int×Int×Int)
 |_,[]=>none
 | i,x::l=>if x.1.most < (win x.1 (wgt x.1 x.2 st) d).2 then some (d,(i:Int),(win x.1 (wgt x.1 x.2 st) d).1) else qf7 st d (i+1) l
def flt(st:List St)(rs:List Rl)(lo:Int):Nat->Option (Int×Int×Int)
 |0=>none
 | n+1=>match qf7 st lo 0 rs with
  |some x=>some x
  |none=>flt st rs (lo+1) n
end DG
namespace FA
open PySem DE DG Dy
open L2 hiding St
open LC LN RU
def Qb{k:Nat}:¬ (k+12 < 12):=by lia
end FA
namespace DG
open PySem DE FA Dy
open L2 hiding St
theorem qds:∀l:List (Str×Int),wt l none=0
 |[]=>rfl
 | p::l=>by unfold wt;rw[if_neg (5:)];exact qds l
theorem qmK{l:List (Str×Int)}(h:∀p∈l,LnOk p)(o:Option Str):0<=wt l o:=by
 induction l with
 |nil=>exact Int.le_refl _
 |cons p l ih=>
  unfold wt;split
  ·have:=(h p (5:)).one;lia
  ·exact ih λq hq=>h q (by simp[hq])
def qdt{r:Ru}{lf:List (Int×Int)}{st:List St}{d:Int}(h:jN st d=none):wgt r lf st d=0:=by unfold wgt;rw[h,qds];simp
theorem qag{f:Int->Int}:∀(n:Nat) (lo:Int),(ws f lo (n+1)).sum=(ws f lo n).sum+f (lo+n)
 |0,lo=>by simp[ws]
 | n+1,lo=>by
  rw[ws,List.sum_cons,qag n (lo+1),ws,List.sum_cons,show lo+1+(n:Int)=lo+((n+1:Nat):Int) by lia]
  lia
theorem qk2{f:Int->Int}(hf:∀x,0<=f x):∀(n:Nat) (lo:Int),0<=(ws f lo n).sum
 |0,_=>by simp[ws]
 | n+1,lo=>by
  rw[ws,List.sum_cons]
  have:=hf lo
  have:=qk2 hf n (lo+1)
  lia
theorem JQ{f:Int->Int}:∀(n:Nat) (lo:Int),(∀x,lo<=x->x < lo+n->f x=0)->(ws f lo n).sum=0
 |0,_,_=>by simp[ws]
 | n+1,lo,h=>by rw[ws,List.sum_cons,h lo (1:) (1:),JQ n (lo+1) λx h1 h2=>h x (1:) (1:)];rfl
theorem qah{st:List St}{d:Int}:jN st d=none↔∀s∈st,¬ (s.2.1<=d/\d<=s.2.2):=by
 induction st with
 |nil=>simp[jN]
 |cons s l ih=>
  unfold jN
  by_cases hc:s.2.1<=d/\d<=s.2.2
  ·rw[if_pos hc];constructor
   ·intro h;cases h
   ·intro h;exact absurd hc (h s (5:))
  ·rw[if_neg hc,ih];constructor
   ·intro h t ht;rcases List.mem_cons.mp ht with rfl|ht
    ·exact hc
    ·exact h t ht
   ·exactλh t ht=>h t (by simp[ht])
theorem Ch.lo:∀{l:List St} {e:Int},Ch e l->∀t∈l,e < t.2.1/\t.2.1<=t.2.2
 |[],_,_,t,ht=>by cases ht
 | u::r,e,h,t,ht=>by
  rcases List.mem_cons.mp ht with rfl|ht
  ·exact⟨h.1.lo,h.1.ab⟩
  ·have:=Ch.lo h.2 t ht
   have:=h.1.lo
   have:=h.1.ab
   exact{by lia,by lia}
end DG
namespace FA
open PySem DE DG Dy
open L2 hiding St
open LC LN RU
def qdu(ns:List Int)(a b:Nat):∃ms:List Int,ZJ (ns.map D.int) (some (a:Int)) (some (b:Int))=ms.map D.int/\ms.length<=b - a:=by
 refine{(ns.drop (min a ns.length)).take (min b ns.length - min a ns.length),?_,?_}
 ·unfold ZJ;rw[HT.Jw,HT.Jw,List.length_map,List.map_take,List.map_drop]
 ·refine Nat.le_trans (List.length_take_le ..) ?_;rcases Nat.le_total a ns.length with h|h
  ·rw[Nat.min_eq_left h];exact Nat.sub_le_sub_right (Nat.min_le_left ..) a
  ·rw[Nat.min_eq_right h,Nat.sub_eq_zero_of_le (Nat.min_le_right ..)];exact Nat.zero_le _
end FA
namespace DG
open PySem DE FA Dy
open L2 hiding St
def qfm(r:Ru):Zd (ruI r)=true:=by let(kd,l,m,d):=r;cases kd<;>rfl
def qh5{pg:Pg}[RU pg](k:Nat)(b c:Bool)(rs:List Ru)(ps:List Pa)(hr:rs.length<=8)(hp:ps.length<=12)(h:∀p∈ps,0<=p.1/\p.1 < rs.length/\0<=p.2.1/\p.2.1<=p.2.2/\p.2.2<=1000000000) :
  pg.nw (k+12) "Book" [aL b (rs.map ruI),aL c (ps.map paD)]=.ok (.val (bkI rs ps)):=by
 have e:∀(b:Bool) (l:List D),arL (aL b l)=some l:=λb l=>by cases b<;>rfl
 have h1:((decide ((rs.map ruI).length<=8)&&(rs.map ruI).all Zd)&&(decide ((ps.map paD).length<=12)&&(ps.map paD).all (jJ (rs.map ruI).length)))=true:=by
  simp![List.length_map,Bool.and_eq_true,decide_eq_true_eq,List.all_eq_true,List.mem_map];refine{{hr,λx ⟨r,_,hx⟩=>by rw[<-hx];exact qfm r},hp,λx ⟨p,hm,hx⟩=>?_};let(q1,q2,q3,q4,q5):=h p hm;rw[<-hx];show(btw p.1 0 ((rs.length:Int) - 1)&&btw p.2.1 0 1000000000&&btw p.2.2 0 1000000000&&decide (p.2.1<=p.2.2))=true;unfold btw;simp![Bool.and_eq_true,decide_eq_true_eq]
  lia
 rw[RU.nw]
 show(if k+12 < 12 then R.no else qaY "Book" (match arL (aL b (rs.map ruI)),arL (aL c (ps.map paD)) with
  |some l,some ps=>if ((decide (l.length<=8)&&l.all Zd)&&(decide (ps.length<=12)&&ps.all (jJ l.length)))=true then some [("kept_rules",D.lst l),("kept_papers",D.lst ps)] else none
  |_,_=>none))=_
 rw[if_neg (1:),e,e];dsimp only;rw[if_pos h1];rfl
theorem Ch.weak{l:List St}{e e':Int}(h:e'<=e)(hc:Ch e l):Ch e' l:=by
 cases l with
 |nil=>trivial
 |cons s l=>exact{{hc.1.nm,by have:=hc.1.lo;lia,hc.1.ab,hc.1.hi},hc.2}
open L2
noncomputable abbrev Zn:T:=(.and (.cmp .Lt (.var 3) (.b1 .len (.var 0))) (.one (.cmp .Lt (.var 4) (.b1 .len (.var 1)))))
def Qc:T:=Zn
def jF:UT Qc Zn:=λ_ _ _=>(rfl)
noncomputable abbrev Zo:Ss:=%[.set 5 (.b2 .max (.idx (.idx (.var 0) (.var 3)) (.con (.int 0))) (.idx (.idx (.var 1) (.var 4)) (.con (.int 0)))),.set 6 (.b2 .min (.idx (.idx (.var 0) (.var 3)) (.con (.int 1))) (.idx (.idx (.var 1) (.var 4)) (.con (.int 1)))),.ite (.cmp .LtE (.var 5) (.var 6)) %[.app 2 (.tup %[5,6|0])|0] .nil,.ite (.cmp .Lt (.idx (.idx (.var 0) (.var 3)) (.con (.int 1))) (.idx (.idx (.var 1) (.var 4)) (.con (.int 1)))) %[.set 3 (.bin .Add (.var 3) (.con (.int 1)))|0] %[.set 4 (.bin .Add (.var 4) (.con (.int 1)))|0]|0]
def Qd:Ss:=Zo
def Yu:USs Qd Zo:=λ_ _ _ _=>(rfl)
def qf8:Nat×Nat×Ss:=(2,7,%[.set 2 (.lst .nil),.set 3 (.con (.int 0)),.set 4 (.con (.int 0)),.whl Qc Qd,.ret (.var 2)|0])
noncomputable abbrev yQ:Ss:=%[.ite (.cmp .Lt (.var 4) (.idx (.var 5) (.con (.int 0)))) %[.app 3 (.tup %[4,.bin .Sub (.idx (.var 5) (.con (.int 0))) (.con (.int 1))|0])|0] .nil,.set 4 (.b2 .max (.var 4) (.bin .Add (.idx (.var 5) (.con (.int 1))) (.con (.int 1))))|0]
def jV:Ss:=yQ
def yh:USs jV yQ:=λ_ _ _ _=>(rfl)
def JR:Nat×Nat×Ss:=(3,6,%[.set 3 (.lst .nil),.set 4 (.var 1),.for_ (.one 5) (.seq (.var 0)) jV,.ite (.cmp .LtE (.var 4) (.var 2)) %[.app 3 (.tup %[4,2|0])|0] .nil,.ret (.var 3)|0])
def qf9:Nat×Nat×Ss:=(2,2,%[.ite (.not (.val (.var 0))) %[.ret (.lst .nil)|0] .nil,.ret (.call "both" %[0,.call "outside" %[1,.idx (.idx (.var 0) (.con (.int 0))) (.con (.int 0)),.idx (.idx (.var 0) (.neg (.con (.int 1)))) (.con (.int 1))|0]|0])|0])
class BT(pg:Pg):Prop where
 r_both:RW pg "both" qf8
 r_outside:RW pg "outside" JR
 r_less:RW pg "less" qf9
abbrev zN:E:=(.tup %[0,1,2|0])
def qZ:E:=zN
def yi:UE qZ zN:=λ_ _ _=>(rfl)
noncomputable abbrev zO:Ss:=%[.set 9 (.met (.var 3) "weight" %[6|0]),.ite (.cmp .Gt (.var 9) (.con (.int 0))) %[.ext 5 (.comp qZ (.seq (.call "less" %[.lst %[.tup %[7,8|0]|0],4|0])) (.many [0,1]) .yes 2 [9])|0] .nil|0]
def zc:Ss:=zO
def zt:USs zc zO:=λ_ _ _ _=>(rfl)
def jO:Nat×Nat×Ss:=(3,10,%[.set 3 (.idx (.met (.var 0) "rules" .nil) (.var 1)),.set 4 (.met (.var 0) "lifted" %[1|0]),.set 5 (.lst .nil),.for_ (.many [6,7,8]) (.seq (.var 2)) zc,.ret (.var 5)|0])
class PC(pg:Pg):Prop where
 r_pieces_among:RW pg "pieces_among" jO
noncomputable abbrev JS:Ss:=%[.set 7 (.bin .Add (.bin .Sub (.b2 .min (.var 5) (.var 2)) (.b2 .max (.var 4) (.var 1))) (.con (.int 1))),.ite (.cmp .Gt (.var 7) (.con (.int 0))) %[.set 3 (.bin .Add (.var 3) (.bin .Mult (.var 7) (.var 6)))|0] .nil|0]
def yG:Ss:=JS
def yR:USs yG JS:=λ_ _ _ _=>(rfl)
def qa6:Nat×Nat×Ss:=(3,8,%[.set 3 (.con (.int 0)),.for_ (.many [4,5,6]) (.seq (.var 0)) yG,.ret (.var 3)|0])
noncomputable abbrev ji:Ss:=%[.ite (.cmp .LtE (.var 4) (.var 2)) %[.ite (.cmp .GtE (.bin .Sub (.bin .Sub (.var 3) (.con (.int 1))) (.b2 .min (.var 5) (.var 2))) (.var 1)) %[.ret (.var 3)|0] .nil,.set 3 (.var 4)|0] .nil|0]
def zo:Ss:=ji
def qS:USs zo ji:=λ_ _ _ _=>(rfl)
def yj:Nat×Nat×Ss:=(3,7,%[.set 3 (.bin .Add (.var 2) (.con (.int 1))),.for_ (.many [4,5,6]) (.rev (.var 0)) zo,.ret (.var 3)|0])
def qT:Nat×Nat×Ss:=(3,3,%[.ite (.val (.isc "Within" (.var 0))) %[.ret (.bin .Add (.bin .Sub (.var 2) (.fld (.var 0) "span")) (.con (.int 1)))|0] .nil,.ret (.call "first_since" %[1,.fld (.var 0) "leave",2|0])|0])
def yk:Nat×Nat×Ss:=(3,3,%[.ret (.call "sum_of" %[1,.call "first_of_window" %[0,1,2|0],2|0])|0])
class SU(pg:Pg):Prop where
 r_sum_of:RW pg "sum_of" qa6
 r_first_since:RW pg "first_since" yj
 r_first_of_window:RW pg "first_of_window" qT
 r_count_among:RW pg "count_among" yk
noncomputable abbrev ym:Ss:=%[.app 2 (.bin .Add (.var 3) (.fld (.var 0) "span")),.app 2 (.bin .Add (.bin .Add (.var 4) (.con (.int 1))) (.fld (.var 0) "span"))|0]
def jw:Ss:=ym
def J9:USs jw ym:=λ_ _ _ _=>(rfl)
def yH:Nat×Nat×Ss:=(2,6,%[.set 2 (.lst .nil),.ite (.val (.isc "Within" (.var 0))) %[.for_ (.many [3,4,5]) (.seq (.var 1)) jw|0] .nil,.ret (.var 2)|0])
open CH ST SP RU BO BT PC SU
abbrev Pr:=Int×Int
def mx(a b:Int):Int:=if b > a then b else a
def mn(a b:Int):Int:=if b < a then b else a
def mxF(a b:Int):(if b > a then b else a)=mx a b:=(rfl)
def mnF(a b:Int):(if b < a then b else a)=mn a b:=(rfl)
def qfn(a b:Int):(a<=b->mx a b=b)/\(b<=a->mx a b=a):=by unfold mx;split<;>lia
def Zp(a b:Int):(a<=b->mn a b=a)/\(b<=a->mn a b=b):=by unfold mn;split<;>lia
def zP:Nat->List Pr->List Pr->List Pr
 |0,_,_=>[]
 | _+1,[],_=>[]
 | _+1,_,[]=>[]
 | n+1,p::a,q::b=>(if mx p.1 q.1<=mn p.2 q.2 then [(mx p.1 q.1,mn p.2 q.2)] else [])++(if p.2 < q.2 then zP n a (q::b) else zP n (p::a) b)
def qdv(l:List Pr)(i:Nat)(p:Pr)(h:l[i]?=some p):atI (l.map pD) (i:Int)=some (.tup [.int p.1,.int p.2]):=qlD (by rw[List.getElem?_map,h];rfl)
theorem JT(cl:Cl)(A B:List Pr):∀(n i j:Nat) (acc:List Pr) (s5 s6:Sl),(A.length - i)+(B.length - j) < n->acc.length+n < 10000->
  ∃N',whD cl 1000 Qc Qd n [.val (.lst (A.map pD)),.val (.lst (B.map pD)),.own (acc.map pD),.val (.int (i:Int)),.val (.int (j:Int)),s5,s6]=.ok (.next (.val (.lst (A.map pD))::.val (.lst (B.map pD))::.own ((acc++zP n (A.drop i) (B.drop j)).map pD)::N'))
 |0,i,j,acc,s5,s6,h,_=>by lia
 | n+1,i,j,acc,s5,s6,h,hl=>by
  have two:0+1+1<=sizeLine:=(3:)
  have hs:(acc.map pD).length < sizeLine:=by rw[List.length_map];exact qJ (1:)
  by_cases hi:i < A.length
  ·by_cases hj:j < B.length
   ·let(p,hp):∃p,A[i]?=some p:={A[i],List.getElem?_eq_getElem hi};let(q,hq):∃q,B[j]?=some q:={B[j],List.getElem?_eq_getElem hj};have ap:=qdv A i p hp;have aq:=qdv B j q hq;have c1:(i:Int) < ((A.map pD).length:Int):=by rw[List.length_map];lia
    have c2:(j:Int) < ((B.map pD).length:Int):=by rw[List.length_map];lia
    have dA:A.drop i=p::A.drop (i+1):=by rw[List.drop_eq_getElem_cons hi];congr 1;rw[List.getElem?_eq_getElem hi]at hp;exact Option.some.inj hp
    have dB:B.drop j=q::B.drop (j+1):=by rw[List.drop_eq_getElem_cons hj];congr 1;rw[List.getElem?_eq_getElem hj]at hq;exact Option.some.inj hq
    have X:∀{M:Type} (K:Fl->R M) (a b c d:Sl),(iS cl 1000 (.ite (.cmp .LtE (.var 5) (.var 6)) %[.app 2 (.tup %[5,6|0])|0] .nil) [a,b,.own (acc.map pD),c,d,.val (.int (mx p.1 q.1)),.val (.int (mn p.2 q.2))]).th K=K (.next [a,b,.own ((acc++if mx p.1 q.1<=mn p.2 q.2 then [(mx p.1 q.1,mn p.2 q.2)] else []).map pD),c,d,.val (.int (mx p.1 q.1)),.val (.int (mn p.2 q.2))]):=by
     intro M K a b c d
     by_cases hc:mx p.1 q.1<=mn p.2 q.2
     ·rw[if_pos hc,List.map_append];simp?![hc,two,hs,z8]
     ·rw[if_neg hc,List.append_nil];simp?![hc]
    have hl':(acc++if mx p.1 q.1<=mn p.2 q.2 then [(mx p.1 q.1,mn p.2 q.2)] else []).length<=acc.length+1:=by
     rw[List.length_append]
     split<;>simp
    rw[dA,dB,zP,<-List.append_assoc];generalize acc++(if mx p.1 q.1<=mn p.2 q.2 then [(mx p.1 q.1,mn p.2 q.2)] else [])=acc' at *
    by_cases hd:p.2 < q.2
    ·let(N',e):=JT cl A B n (i+1) j acc' (.val (.int (mx p.1 q.1))) (.val (.int (mn p.2 q.2))) (1:) (1:);refine{N',?_};rw[dB]at e;rw[if_pos hd];simp![show((i+1:Nat):Int)=(i:Int)+1 by lia]at e;simp?[↓X,jF,Yu,c1,c2,ap,aq,mxF,mnF,hd,e]
    ·let(N',e):=JT cl A B n i (j+1) acc' (.val (.int (mx p.1 q.1))) (.val (.int (mn p.2 q.2))) (1:) (1:);refine{N',?_};rw[dA]at e;rw[if_neg hd];simp![show((j+1:Nat):Int)=(j:Int)+1 by lia]at e;simp?[↓X,jF,Yu,c1,c2,ap,aq,mxF,mnF,hd,e]
   ·have c1:(i:Int) < ((A.map pD).length:Int):=by rw[List.length_map];lia
    have c2:¬ (j:Int) < ((B.map pD).length:Int):=by rw[List.length_map];lia
    have e:zP (n+1) (A.drop i) (B.drop j)=[]:=by
     rw[show B.drop j=[] from List.drop_eq_nil_of_le (1:)]
     cases A.drop i<;>rfl
    rw[e,List.append_nil];refine{[.val (.int (i:Int)),.val (.int (j:Int)),s5,s6],?_};simp?[jF,c1,c2]
  ·have c1:¬ (i:Int) < ((A.map pD).length:Int):=by rw[List.length_map];lia
   have e:zP (n+1) (A.drop i) (B.drop j)=[]:=by rw[show A.drop i=[] from List.drop_eq_nil_of_le (1:)];rfl
   rw[e,List.append_nil];refine{[.val (.int (i:Int)),.val (.int (j:Int)),s5,s6],?_};simp?[jF,c1]
def qh6{pg:Pg}[BT pg](k:Nat)(A B:List Pr)(hl:A.length+B.length < 999):clK pg (k+1) "both" [.val (.lst (A.map pD)),.val (.lst (B.map pD))]=.ok (.tmp ((zP 1000 A B).map pD)):=by let(N',e):=JT (pg.kk k) A B 1000 0 0 [] .no .no (1:) (5:);rw[List.map_nil,List.nil_append,List.drop_zero,List.drop_zero,show((0:Nat):Int)=0 from rfl]at e;rw[r_both];simp?![qf8,show(0:Nat)<=sizeLine by decide+kernel,e]
def Jb:Int->List Pr->List Pr×Int
 |b,[]=>([],b)
 | b,t::l=>((if b < t.1 then [(b,t.1 - 1)] else [])++(Jb (mx b (t.2+1)) l).1,(Jb (mx b (t.2+1)) l).2)
def qH(l:List Pr)(first last:Int):List Pr:=(Jb first l).1++(if (Jb first l).2<=last then [((Jb first l).2,last)] else [])
theorem Qe(cl:Cl)(v0 v1 v2:Sl):∀(l:List Pr) (b:Int) (acc:List Pr) (s5:Sl),acc.length+l.length < 10000->∃s5',jT cl 1000 (.one 5) jV (l.map pD) [v0,v1,v2,.own (acc.map pD),.val (.int b),s5]=.ok (.next [v0,v1,v2,.own ((acc++(Jb b l).1).map pD),.val (.int (Jb b l).2),s5'])
 |[],b,acc,s5,_=>{s5,by simp[Jb,qM]}
 | t::l,b,acc,s5,hl=>by
  rw[List.length_cons]at hl;have two:0+1+1<=sizeLine:=(3:)
  have hs:(acc.map pD).length < sizeLine:=by rw[List.length_map];exact qJ (1:)
  rw[Jb]
  by_cases hc:b < t.1
  ·let(s5',ih):=Qe cl v0 v1 v2 l (mx b (t.2+1)) (acc++[(b,t.1 - 1)]) (.val (pD t)) (by simp;lia);refine{s5',?_};rw[if_pos hc];simp![List.map_append,List.map_cons,List.map_nil,z8,List.append_assoc,List.cons_append,List.nil_append]at ih ⊢;simp?[yh,hc,two,hs,mxF,ih]
  ·let(s5',ih):=Qe cl v0 v1 v2 l (mx b (t.2+1)) acc (.val (pD t)) (1:);refine{s5',?_};rw[if_neg hc,List.nil_append];simp![z8]at ih;rw[List.map_cons];simp?[yh,z8,hc,mxF,ih]
def qbR{pg:Pg}[BT pg](k:Nat)(b:Bool)(l:List Pr)(hl:l.length < 5000)(first last:Int):clK pg (k+1) "outside" [aL b (l.map pD),.val (.int first),.val (.int last)]=.ok (.tmp ((qH l first last).map pD)):=by
 have two:0+1+1<=sizeLine:=(3:)
 have len:∀(l:List Pr) (b:Int),(Jb b l).1.length<=l.length:=by
  intro l
  induction l with
  |nil=>intro b;simp[Jb]
  |cons t l ih=>
   intro b;rw[Jb]
   have:=ih (mx b (t.2+1))
   dsimp only;rw[List.length_append,List.length_cons]
   split<;>simp<;>lia
 have hs:((Jb first l).1.map pD).length < sizeLine:=by rw[List.length_map];have:=len l first;exact qJ (1:)
 rw[r_outside];unfold qH;let(s5,e):=Qe (pg.kk k) (pS b (l.map pD)) (.val (.int first)) (.val (.int last)) l first [] .no (by simp;lia);rw[List.map_nil,List.nil_append]at e
 by_cases hc:(Jb first l).2<=last
 ·rw[if_pos hc,List.map_append,List.map_cons,List.map_nil];simp?![JR,show(0:Nat)<=sizeLine by decide+kernel,e,hc,two,hs,z8]
 ·rw[if_neg hc,List.append_nil];simp?![JR,show(0:Nat)<=sizeLine by decide+kernel,e,hc]
def jH(p:Pr)(l:List Pr):List Pr:=zP 1000 [p] (qH l p.1 p.2)
def jW(l:List Pr)(f t:Int):(qH l f t).length<=l.length+1:=by
 have len:∀(l:List Pr) (b:Int),(Jb b l).1.length<=l.length:=by
  intro l
  induction l with
  |nil=>intro b;simp[Jb]
  |cons t l ih=>
   intro b;rw[Jb]
   have:=ih (mx b (t.2+1))
   dsimp only;rw[List.length_append,List.length_cons]
   split<;>simp<;>lia
 unfold qH;rw[List.length_append]
 have:=len l f
 split<;>simp<;>lia
def qdw{pg:Pg}[BT pg](k:Nat)(b:Bool)(p:Pr)(l:List Pr)(hl:l.length < 900):clK pg (k+2) "less" [.val (.lst [.tup [.int p.1,.int p.2]]),aL b (l.map pD)]=.ok (.tmp ((jH p l).map pD)):=by
 have o:=qbR (pg:=pg) k b l (1:) p.1 p.2;have t:=qh6 (pg:=pg) k [p] (qH l p.1 p.2) (by have:=jW l p.1 p.2;simp;lia);simp![qkX,qkY,List.map_cons,List.map_nil,z8]at t;have g:atI [D.tup [.int p.1,.int p.2]] (-1)=some (.tup [.int p.1,.int p.2]):=g_last [] _;rw[r_less]
 try simp only[qkX,qkY]at o ⊢
 simp?![qf9,List.isEmpty_cons,g,o,t,jH]
theorem JU:∀(n:Nat) (A B:List Pr),(zP n A B).length<=A.length+B.length
 |0,_,_=>by simp[zP]
 | n+1,[],B=>by simp[zP]
 | n+1,p::A,[]=>by simp[zP]
 | n+1,p::A,q::B=>by
  have h1:=JU n A (q::B);have h2:=JU n (p::A) B;simp![List.length_cons]at h1 h2;rw[zP,List.length_append,List.length_cons,List.length_cons]
  split<;>split<;>simp<;>lia
def yn(p:Pr)(l:List Pr):(jH p l).length<=l.length+2:=by
 have h1:=JU 1000 [p] (qH l p.1 p.2);have h2:=jW l p.1 p.2;unfold jH;simp at h1
 lia
def Qf(w:Int)(p:Pr):Pa:=(p.1,p.2,w)
def qC(r:Ru)(lf:List Pr)(s:St):List Pa:=if 0 < wt r.lands (some s.1) then (jH (s.2.1,s.2.2) lf).map (Qf (wt r.lands (some s.1))) else []
def qD(r:Ru)(lf:List Pr):List St->List Pa
 |[]=>[]
 | s::l=>qC r lf s++qD r lf l
theorem qk3(cl:Cl)(w:Int):∀(l:List Pr) (acc:List Pa) (s0 s1:Sl),acc.length+l.length < 10000->jj cl qZ (.many [0,1]) .yes (l.map pD) [s0,s1,.val (.int w)] (acc.map paD)=.ok ((acc++l.map (Qf w)).map paD)
 |[],acc,s0,s1,_=>by simp[yd]
 | p::l,acc,s0,s1,hl=>by
  rw[List.length_cons]at hl;have ih:=qk3 cl w l (acc++[Qf w p]) (.val (.int p.1)) (.val (.int p.2)) (by simp;lia);have three:0+1+1+1<=sizeLine:=(3:)
  have hs:(acc.map paD).length < sizeLine:=by rw[List.length_map];exact qJ (1:)
  simp![List.map_append,List.map_cons,List.map_nil,List.append_assoc,List.cons_append,List.nil_append,jh,Qf]at ih ⊢;simp?[yi,z8,three,hs,ih]
def JV(r:Ru)(lf:List Pr)(s:St):(qC r lf s).length<=lf.length+2:=by
 unfold qC;split
 ·rw[List.length_map];exact yn _ _
 ·simp
theorem JW(r:Ru)(lf:List Pr):∀st:List St,(qD r lf st).length<=st.length * (lf.length+2)
 |[]=>by simp[qD]
 | s::l=>by
  rw[qD,List.length_append,List.length_cons,Nat.succ_mul]
  have:=JV r lf s
  have:=JW r lf l
  lia
section
variable{pg:Pg}[RU pg][BT pg]
theorem jX(k:Nat)(v0 v1 v2:Sl)(r:Ru)(hr:∀p∈r.lands,LnOk p)(lf:List Pr)(hf:lf.length<=20):∀(st:List St) (acc:List Pa) (s6 s7 s8 s9:Sl),(∀s∈st,NameOk s.1)->acc.length+st.length * 22 < 9000->
  ∃N',jT (pg.kk (k+2)) 1000 (.many [6,7,8]) zc (st.map stD) [v0,v1,v2,.val (ruI r),.own (lf.map pD),.own (acc.map paD),s6,s7,s8,s9]=.ok (.next (v0::v1::v2::.val (ruI r)::.own (lf.map pD)::.own ((acc++qD r lf st).map paD)::N'))
 |[],acc,s6,s7,s8,s9,_,_=>{[s6,s7,s8,s9],by simp[qD,qM]}
 | s::st,acc,s6,s7,s8,s9,hn,hl=>by
  rw[List.length_cons,Nat.succ_mul]at hl;have w:clK pg (k+2) "Rule.weight" [.val (ruI r),.val (.str s.1)]=.ok (.val (.int (wt r.lands (some s.1)))):=qdo (pg:=pg) (k+1) r hr (some s.1) (λz hz=>by cases hz;exact hn s (5:));have l1:=JV r lf s;have two:0+1+1<=sizeLine:=(3:)
  have one:0+1<=sizeLine:=(3:)
  by_cases hc:0 < wt r.lands (some s.1)
  ·have e1:qC r lf s=(jH (s.2.1,s.2.2) lf).map (Qf (wt r.lands (some s.1))):=by unfold qC;rw[if_pos hc]
   let(N',ih):=jX k v0 v1 v2 r hr lf hf st (acc++qC r lf s) (.val (.str s.1)) (.val (.int s.2.1)) (.val (.int s.2.2)) (.val (.int (wt r.lands (some s.1)))) (λx hx=>hn x (by simp[hx])) (by rw[List.length_append];lia);refine{N',?_};have le:clK pg (k+2) "less" [.val (.lst [.tup [.int s.2.1,.int s.2.2]]),.bor (lf.map pD)]=.ok (.tmp ((jH (s.2.1,s.2.2) lf).map pD)):=qdw (pg:=pg) k true (s.2.1,s.2.2) lf (1:);have c:=qk3 (pg.kk (k+2)) (wt r.lands (some s.1)) (jH (s.2.1,s.2.2) lf) [] .no .no (by have:=yn (s.2.1,s.2.2) lf;simp;lia);rw[List.map_nil,List.nil_append,<-e1]at c;have z1:((jH (s.2.1,s.2.2) lf).map pD).length<=sizeLine:=by rw[List.length_map];have:=yn (s.2.1,s.2.2) lf;exact z9 (1:)
   have z2:(acc.map paD).length+((qC r lf s).map paD).length<=sizeLine:=by rw[List.length_map,List.length_map];exact z9 (1:)
   rw[qD,<-List.append_assoc];rw[List.map_append (l₁:=acc)]at ih;rw[List.map_cons];simp?[zt,Yr,RU.cs,Zl,w,hc,one,two,le,z1,qb1,List.getD_cons_succ,List.getD_cons_zero,c,z2,ih]
  ·have e1:qC r lf s=[]:=by unfold qC;rw[if_neg hc]
   let(N',ih):=jX k v0 v1 v2 r hr lf hf st acc (.val (.str s.1)) (.val (.int s.2.1)) (.val (.int s.2.2)) (.val (.int (wt r.lands (some s.1)))) (λx hx=>hn x (by simp[hx])) (1:);refine{N',?_};rw[qD,e1,List.nil_append];rw[List.map_cons];simp?[zt,Yr,RU.cs,Zl,w,hc,ih]
end
section
variable{pg:Pg}[RU pg][BO pg][SP pg][BT pg][PC pg]
def Zq(k:Nat)(b:Bool)(rs:List Ru)(ps:List Pa)(hp:ps.length<=18)(n:Nat)(r:Ru)(hn:rs[n]?=some r)(hr:∀p∈r.lands,LnOk p)(hlf:(lift n ps).length<=20)(st:List St)(hs:∀s∈st,NameOk s.1)(hl:st.length<=170) :
  clK pg (k+3) "pieces_among" [.val (bkI rs ps),.val (.int (n:Int)),aL b (st.map stD)]=.ok (.tmp ((qD r (lift n ps) st).map paD)):=by
 have a:=Qa (pg:=pg) (k+1) rs ps;have l:=qdq (pg:=pg) k rs ps (n:Int) (1:);have e:=qaf hn;rw[r_pieces_among];let(N',i):=jX (pg:=pg) k (.val (bkI rs ps)) (.val (.int (n:Int))) (pS b (st.map stD)) r hr (lift n ps) hlf st [] .no .no .no .no hs (by simp;lia);rw[List.map_nil,List.nil_append]at i;simp?![jO,RU.cs,Y9,qdn,a,l,e,show(0:Nat)<=sizeLine by decide+kernel,i]
end
def qga(f t:Int):List Pa->Int->Int
 |[],a=>a
 | p::l,a=>qga f t l (if 0 < mn p.2.1 t - mx p.1 f+1 then a+(mn p.2.1 t - mx p.1 f+1) * p.2.2 else a)
def WOk(l:List Pa):Prop:=∀p∈l,1<=p.2.2/\p.2.2<=9
theorem Qg(cl:Cl)(v0:Sl)(f t:Int):∀(l:List Pa) (a:Int) (s4 s5 s6 s7:Sl),WOk l->∃N',jT cl 1000 (.many [4,5,6]) yG (l.map paD) [v0,.val (.int f),.val (.int t),.val (.int a),s4,s5,s6,s7]=.ok (.next (v0::.val (.int f)::.val (.int t)::.val (.int (qga f t l a))::N'))
 |[],a,s4,s5,s6,s7,_=>{[s4,s5,s6,s7],rfl}
 | p::l,a,s4,s5,s6,s7,h=>by
  have hw:=h p (5:);have mul:QZ (mn p.2.1 t - mx p.1 f+1) p.2.2=true:=JN (1:) (1:);rw[qga]
  by_cases hc:0 < mn p.2.1 t - mx p.1 f+1
  ·let(N',ih):=Qg cl v0 f t l (a+(mn p.2.1 t - mx p.1 f+1) * p.2.2) (.val (.int p.1)) (.val (.int p.2.1)) (.val (.int p.2.2)) (.val (.int (mn p.2.1 t - mx p.1 f+1))) (λq hq=>h q (by simp[hq]));refine{N',?_};rw[if_pos hc];rw[List.map_cons];simp?[yR,jh,mxF,mnF,hc,mul,ih]
  ·let(N',ih):=Qg cl v0 f t l a (.val (.int p.1)) (.val (.int p.2.1)) (.val (.int p.2.2)) (.val (.int (mn p.2.1 t - mx p.1 f+1))) (λq hq=>h q (by simp[hq]));refine{N',?_};rw[if_neg hc];rw[List.map_cons];simp?[yR,jh,mxF,mnF,hc,ih]
def fsF(leave day:Int):List Pa->Int->Int
 |[],f=>f
 | p::l,f=>if p.1<=day then (if leave<=f - 1 - mn p.2.1 day then f else fsF leave day l p.1) else fsF leave day l f
theorem qai(cl:Cl)(v0:Sl)(leave day:Int):∀(l:List Pa) (f:Int) (s4 s5 s6:Sl),∃F,jT cl 1000 (.many [4,5,6]) zo (l.map paD) [v0,.val (.int leave),.val (.int day),.val (.int f),s4,s5,s6]=.ok F/\(F=.ret (.val (.int (fsF leave day l f)))\/∃N',F=.next (v0::.val (.int leave)::.val (.int day)::.val (.int (fsF leave day l f))::N'))
 |[],f,s4,s5,s6=>{_,rfl,.inr {[s4,s5,s6],rfl}}
 | p::l,f,s4,s5,s6=>by
  rw[fsF]
  by_cases h1:p.1<=day
  ·rw[if_pos h1]
   by_cases h2:leave<=f - 1 - mn p.2.1 day
   ·rw[if_pos h2];refine{_,?_,.inl rfl};rw[List.map_cons];simp?[qS,jh,h1,mnF,h2]
   ·rw[if_neg h2];let(F,i,a):=qai cl v0 leave day l p.1 (.val (.int p.1)) (.val (.int p.2.1)) (.val (.int p.2.2));refine{F,?_,a};rw[List.map_cons];simp?[qS,jh,h1,mnF,h2,i]
  ·rw[if_neg h1];let(F,i,a):=qai cl v0 leave day l f (.val (.int p.1)) (.val (.int p.2.1)) (.val (.int p.2.2));refine{F,?_,a};rw[List.map_cons];simp?[qS,jh,h1,i]
section
variable{pg:Pg}[RU pg][SU pg]
def qfo(k:Nat)(b:Bool)(l:List Pa)(h:WOk l)(f t:Int):clK pg (k+1) "sum_of" [aL b (l.map paD),.val (.int f),.val (.int t)]=.ok (.val (.int (qga f t l 0))):=by rw[r_sum_of];let(N',i):=Qg (pg.kk k) (pS b (l.map paD)) f t l 0 .no .no .no .no h;simp?![qa6,i]
def Qh(k:Nat)(b:Bool)(l:List Pa)(leave day:Int):clK pg (k+1) "first_since" [aL b (l.map paD),.val (.int leave),.val (.int day)]=.ok (.val (.int (fsF leave day l.reverse (day+1)))):=by rw[r_first_since];let(F,i,a):=qai (pg.kk k) (pS b (l.map paD)) leave day l.reverse (day+1) .no .no .no;rw[List.map_reverse]at i;rcases a with rfl|⟨N',rfl⟩<;>simp?![yj,i]
def qio(r:Ru)(l:List Pa)(d:Int):Int:=if r.kd.isW=true then d - r.days+1 else fsF r.days d l.reverse (d+1)
def qw(r:Ru)(l:List Pa)(d:Int):Int:=qga (qio r l d) d l 0
theorem qk4(k:Nat)(b:Bool)(r:Ru)(l:List Pa)(d:Int):clK pg (k+2) "first_of_window" [.val (ruI r),aL b (l.map paD),.val (.int d)]=.ok (.val (.int (qio r l d))):=by
 have s:=Qh (pg:=pg) k b l r.days d;have iw:=Zm (xx:=pg.xx) r;rw[r_first_of_window];unfold qio
 cases hk:r.kd.isW with
 |true=>rw[hk]at iw;simp?![qT,RU.cs,iw,qdl r hk]
 |false=>
  rw[hk]at iw
  try simp only[qkX,qkY]at s
  simp?![qT,RU.cs,iw,qa4 r hk,s]
def ja(k:Nat)(b:Bool)(r:Ru)(l:List Pa)(h:WOk l)(d:Int):clK pg (k+3) "count_among" [.val (ruI r),aL b (l.map paD),.val (.int d)]=.ok (.val (.int (qw r l d))):=by
 have s:=qfo (pg:=pg) (k+1) b l h (qio r l d) d;have f:=qk4 (pg:=pg) k b r l d;rw[r_count_among];unfold qw
 try simp only[qkX,qkY]at s f
 simp?![yk,f,s]
end
def jx(span:Int):List Pa->List Int
 |[]=>[]
 | p::l=>(p.1+span)::(p.2.1+1+span)::jx span l
def yo(r:Ru)(l:List Pa):List Int:=if r.kd.isW=true then jx r.days l else []
theorem Yv(cl:Cl){xx:Xs}(hcs:cl.cs=pcs xx)(v1:Sl)(r:Ru)(hk:r.kd.isW=true):∀(l:List Pa) (acc:List Int) (s3 s4 s5:Sl),acc.length+2 * l.length < 10000->∃N',jT cl 1000 (.many [3,4,5]) jw (l.map paD) [.val (ruI r),v1,.own (acc.map D.int),s3,s4,s5]=.ok (.next (.val (ruI r)::v1::.own ((acc++jx r.days l).map D.int)::N'))
 |[],acc,s3,s4,s5,_=>{[s3,s4,s5],by simp[jx,qM]}
 | p::l,acc,s3,s4,s5,hl=>by
  rw[List.length_cons]at hl;let(N',ih):=Yv cl hcs v1 r hk l (acc++[p.1+r.days]++[p.2.1+1+r.days]) (.val (.int p.1)) (.val (.int p.2.1)) (.val (.int p.2.2)) (by simp;lia);refine{N',?_};have hs:(acc.map D.int).length < sizeLine:=by rw[List.length_map];exact qJ (1:)
  have hs2:(acc.map D.int++[D.int (p.1+r.days)]).length < sizeLine:=by simp;exact qJ (1:)
  rw[jx,show acc++(p.1+r.days)::(p.2.1+1+r.days)::jx r.days l=acc++[p.1+r.days]++[p.2.1+1+r.days]++jx r.days l by simp];rw[List.map_append (l₁:=acc++[p.1+r.days]),List.map_append (l₁:=acc),List.map_cons,List.map_nil,List.map_cons,List.map_nil]at ih;rw[List.map_cons];simp?[J9,jh,hcs,qdl r hk,hs,hs2,ih]
theorem Yw(s:Int):∀l:List Pa,(jx s l).length=2 * l.length
 |[]=>rfl
 | p::l=>by rw[jx,List.length_cons,List.length_cons,Yw s l,List.length_cons];lia
theorem qgb:∀(a b:List Int),qbE (a.map D.int) (b.map D.int)=(a.zip b).map pD
 |[],b=>by simp[qbE]
 | x::a,[]=>by simp[qbE]
 | x::a,y::b=>by
  have:=qgb a b
  unfold qbE at this ⊢;rw[List.map_cons,List.map_cons,List.zipWith_cons_cons,this];rfl
def qh7(d:D)(l:List D):ZJ (d::l) (some 1) none=l:=by unfold ZJ;rw[show(some (1:Int))=some ((1:Nat):Int) from rfl,HT.Jw,HT.YF];simp
def J2(st:List St)(x:Rl):List Pa:=qD x.1 x.2 st
def Spr.tail{p:Pr}{l:List Pr}(h:Spr (p::l)):Spr l:={λq hq=>h.ok q (by simp[hq]),(List.pairwise_cons.mp h.gap).2}
def qt{p:Pr}{l:List Pr}{d:Int}:Day (p::l) d↔(p.1<=d/\d<=p.2)\/Day l d:=by
 unfold Day;constructor
 ·rintro⟨q,hq,h⟩;rcases List.mem_cons.mp hq with rfl|hq
  ·exact .inl h
  ·exact .inr ⟨q,hq,h⟩
 ·rintro (h|⟨q,hq,h⟩)
  ·exact{p,by simp,h}
  ·exact{q,by simp[hq],h}
def zd{d:Int}:¬ Day [] d:=λ⟨_,h,_⟩=>by cases h
structure Apart(l:List Pr):Prop where
 ok:∀p∈l,p.1<=p.2
 ap:l.Pairwise λp q=>p.2+1 < q.1
structure OutOk(b:Int)(l:List Pr)(F:List Pr)(b':Int):Prop where
 apart:Apart F
 lo:∀x∈F,b<=x.1
 hi:∀x∈F,x.2+1 < b'
 le:b<=b'
 day:∀d,b<=d->d < b'->(Day F d↔¬ Day l d)
 end_:∀d,b'<=d->¬ Day l d
theorem qgc:∀(l:List Pr) (b:Int),Spr l->OutOk b l (Jb b l).1 (Jb b l).2
 |[],b,_=>{{λ_ h=>(by cases h),List.Pairwise.nil},λ_ h=>(by cases h),λ_ h=>(by cases h),Int.le_refl _,λd h1 h2=>by dsimp only[Jb]at h2;lia,λd _=>zd}
 | t::l,b,hS=>by
  have hS':=Spr.tail hS;have ht:=hS.ok t (5:);have hg:=(List.pairwise_cons.mp hS.gap).1;have hlow:∀d,Day l d->t.2+2<=d:=λd ⟨q,hq,h1,_⟩=>by have:=hg q hq;lia
  have ih:=qgc l (mx b (t.2+1)) hS';have hm:=qfn b (t.2+1);rw[Jb];generalize hb1:mx b (t.2+1)=b1 at *;have hle:=ih.le
  have hb:b<=b1/\t.2+1<=b1/\(b1=b\/b1=t.2+1):=by
   rcases Int.le_total b (t.2+1) with q|q
   ·have:=hm.1 q;lia
   ·have:=hm.2 q;lia
  generalize (Jb b1 l).1=F at *;generalize (Jb b1 l).2=b' at *;dsimp only
  by_cases hc:b < t.1
  ·rw[if_pos hc];refine{{λx hx=>?_,?_},λx hx=>?_,λx hx=>?_,by lia,λd h1 h2=>?_,λd h1=>?_}
   ·rcases List.mem_cons.mp hx with rfl|hx
    ·dsimp only;lia
    ·exact ih.apart.ok x hx
   ·refine List.pairwise_cons.mpr ⟨λx hx=>?_,ih.apart.ap⟩
    have:=ih.lo x hx
    dsimp only
    lia
   ·rcases List.mem_cons.mp hx with rfl|hx
    ·dsimp only;lia
    ·have:=ih.lo x hx;lia
   ·rcases List.mem_cons.mp hx with rfl|hx
    ·dsimp only;lia
    ·exact ih.hi x hx
   ·show Day ((b,t.1 - 1)::F) d↔_;rw[qt,qt]
    by_cases q:d < b1
    ·have n1:¬ Day F d:=λ⟨x,hx,h3,_⟩=>by have:=ih.lo x hx;lia
     have n2:¬ Day l d:=λz=>by have:=hlow d z;lia
     dsimp only;constructor
     ·rintro (z|z)
      ·rintro (y|y)
       ·lia
       ·exact n2 y
      ·exact absurd z n1
     ·intro z;left;refine{h1,?_}
      by_cases y:t.1<=d
      ·exact absurd (.inl ⟨y,by lia⟩) z
      ·lia
    ·have:=ih.day d (1:) h2
     rw[this];dsimp only;constructor
     ·rintro (z|z)
      ·lia
      ·rintro (y|y)
       ·lia
       ·exact z y
     ·intro z;exact .inr λy=>z (.inr y)
   ·rw[qt];rintro (z|z)
    ·lia
    ·exact ih.end_ d h1 z
  ·rw[if_neg hc,List.nil_append];refine{ih.apart,λx hx=>by have:=ih.lo x hx;lia,ih.hi,by lia,λd h1 h2=>?_,λd h1=>?_}
   ·rw[qt]
    by_cases q:d < b1
    ·have n1:¬ Day F d:=λ⟨x,hx,h3,_⟩=>by have:=ih.lo x hx;lia
     constructor
     ·intro z;exact absurd z n1
     ·intro z;exact absurd (.inl ⟨by lia,by lia⟩) z
    ·rw[ih.day d (1:) h2];constructor
     ·intro z;rintro (y|y)
      ·lia
      ·exact z y
     ·intro z y;exact z (.inr y)
   ·rw[qt];rintro (z|z)
    ·lia
    ·exact ih.end_ d h1 z
def qbS{l:List Pr}(h:Spr l)(f t:Int):Apart (qH l f t)/\(∀x∈qH l f t,f<=x.1)/\∀d,f<=d->d<=t->(Day (qH l f t) d↔¬ Day l d):=by
 have o:=qgc l f h;have hle:=o.le;unfold qH;generalize (Jb f l).1=F at *;generalize (Jb f l).2=b at *
 by_cases hc:b<=t
 ·rw[if_pos hc];refine{{λx hx=>?_,?_},λx hx=>?_,λd h1 h2=>?_}
  ·rcases List.mem_append.mp hx with q|q
   ·exact o.apart.ok x q
   ·rw[List.mem_singleton.mp q];exact hc
  ·refine List.pairwise_append.mpr ⟨o.apart.ap,by simp,λx hx y hy=>?_⟩;rw[List.mem_singleton.mp hy];exact o.hi x hx
  ·rcases List.mem_append.mp hx with q|q
   ·exact o.lo x q
   ·rw[List.mem_singleton.mp q];exact hle
  ·rw[jv,Y6]
   by_cases q:d < b
   ·rw[<-o.day d h1 q];dsimp only;constructor
    ·rintro (z|z)
     ·exact z
     ·lia
    ·exact .inl
   ·have n:=o.end_ d (1:);constructor
    ·intro _;exact n
    ·intro _;exact .inr ⟨by dsimp only;lia,h2⟩
 ·rw[if_neg hc,List.append_nil];exact{o.apart,o.lo,λd h1 h2=>o.day d h1 (1:)}
theorem qk5(p:Pr)(hp:p.1<=p.2):∀(n:Nat) (B:List Pr),B.length < n->Apart B->Apart (zP n [p] B)/\(∀x∈zP n [p] B,p.1<=x.1/\x.2<=p.2/\∃q∈B,q.1<=x.1/\x.2<=q.2)/\∀d,Day (zP n [p] B) d↔(p.1<=d/\d<=p.2)/\Day B d
 |0,B,h,_=>by lia
 | n+1,[],_,_=>{{λ_ h=>(by cases h),List.Pairwise.nil},λ_ h=>(by cases h),λd=>{λz=>absurd z zd,λz=>absurd z.2 zd}}
 | n+1,q::B,h,hA=>by
  rw[List.length_cons]at h;have hq:=hA.ok q (5:);have hg:=(List.pairwise_cons.mp hA.ap);have hlow:∀d,Day B d->q.2 < d:=λd ⟨x,hx,h1,_⟩=>by have:=hg.1 x hx;lia
  have m1:=qfn p.1 q.1;have m2:=Zp p.2 q.2;rw[zP]
  have hm1:p.1<=mx p.1 q.1/\q.1<=mx p.1 q.1/\(mx p.1 q.1=p.1\/mx p.1 q.1=q.1):=by
   rcases Int.le_total p.1 q.1 with z|z
   ·have:=m1.1 z;lia
   ·have:=m1.2 z;lia
  have hm2:mn p.2 q.2<=p.2/\mn p.2 q.2<=q.2/\(mn p.2 q.2=p.2\/mn p.2 q.2=q.2):=by
   rcases Int.le_total p.2 q.2 with z|z
   ·have:=m2.1 z;lia
   ·have:=m2.2 z;lia
  generalize mx p.1 q.1=a at *;generalize mn p.2 q.2=b at *
  let(R,hR,r1,r2,r3):∃R,(if p.2 < q.2 then zP n [] (q::B) else zP n [p] B)=R/\Apart R/\(∀x∈R,p.1<=x.1/\x.2<=p.2/\(∃y∈q::B,y.1<=x.1/\x.2<=y.2)/\b+1 < x.1)/\∀d,Day R d↔(p.1<=d/\d<=p.2)/\Day B d:=by
   by_cases hd:p.2 < q.2
   ·rw[if_pos hd];have e:zP n [] (q::B)=[]:=by cases n<;>rfl
    rw[e];exact{[],rfl,{λ_ h=>(by cases h),List.Pairwise.nil},λ_ h=>(by cases h),λd=>{λz=>absurd z zd,λz=>by have:=hlow d z.2;lia}}
   ·rw[if_neg hd];let(i1,i2,i3):=qk5 p hp n B (1:) ⟨λx hx=>hA.ok x (by simp[hx]),hg.2⟩;refine{_,rfl,i1,λx hx=>?_,i3};let(j1,j2,y,hy,j3,j4):=i2 x hx
    have:=hg.1 y hy
    exact{j1,j2,{y,by simp[hy],j3,j4},by lia}
  rw[hR]
  by_cases hc:a<=b
  ·rw[if_pos hc];refine{{λx hx=>?_,?_},λx hx=>?_,λd=>?_}
   ·rcases List.mem_cons.mp hx with rfl|hx
    ·exact hc
    ·exact r1.ok x hx
   ·exact List.pairwise_cons.mpr ⟨λx hx=>(r2 x hx).2.2.2,r1.ap⟩
   ·rcases List.mem_cons.mp hx with rfl|hx
    ·exact{by dsimp only;lia,by dsimp only;lia,q,by simp,by dsimp only;lia,by dsimp only;lia}
    ·exact{(r2 x hx).1,(r2 x hx).2.1,(r2 x hx).2.2.1}
   ·show Day ((a,b)::R) d↔_;rw[qt,qt,r3];dsimp only;constructor
    ·rintro (z|z)
     ·exact{by lia,.inl (1:)}
     ·exact{z.1,.inr z.2}
    ·rintro⟨z,y|y⟩
     ·left;lia
     ·exact .inr ⟨z,y⟩
  ·rw[if_neg hc,List.nil_append];refine{r1,λx hx=>{(r2 x hx).1,(r2 x hx).2.1,(r2 x hx).2.2.1},λd=>?_};rw[qt,r3];constructor
   ·intro z;exact{z.1,.inr z.2}
   ·rintro⟨z,y|y⟩
    ·lia
    ·exact⟨z,y⟩
def qdx{l:List Pr}(h:Spr l)(hl:l.length < 900){p:Pr}(hp:p.1<=p.2):Apart (jH p l)/\(∀x∈jH p l,p.1<=x.1/\x.2<=p.2)/\∀d,Day (jH p l) d↔(p.1<=d/\d<=p.2)/\¬ Day l d:=by
 let(o1,o2,o3):=qbS h p.1 p.2;let(b1,b2,b3):=qk5 p hp 1000 (qH l p.1 p.2) (by have:=jW l p.1 p.2;lia) o1;refine{b1,λx hx=>{(b2 x hx).1,(b2 x hx).2.1},λd=>?_};unfold jH;rw[b3];constructor
 ·rintro⟨z,y⟩;exact{z,(o3 d z.1 z.2).mp y}
 ·rintro⟨z,y⟩;exact{z,(o3 d z.1 z.2).mpr y}
def inP(p:Pa)(d:Int):Prop:=p.1<=d/\d<=p.2.1
instance (p:Pa)(d:Int):Decidable (inP p d):=by unfold inP;infer_instance
def ind(p:Pa)(d:Int):Int:=if inP p d then p.2.2 else 0
def pf:List Pa->Int->Int
 |[],_=>0
 | p::l,d=>if inP p d then p.2.2 else pf l d
structure PcOk(L:List Pa):Prop where
 ok:∀p∈L,p.1<=p.2.1/\1<=p.2.2/\p.2.2<=9
 ap:L.Pairwise λp q=>p.2.1 < q.1
def PcOk.tail{p:Pa}{l:List Pa}(h:PcOk (p::l)):PcOk l:={λq hq=>h.ok q (by simp[hq]),(List.pairwise_cons.mp h.ap).2}
def PcOk.w{L:List Pa}(h:PcOk L):WOk L:=λp hp=>(h.ok p hp).2
theorem zp{L:List Pa}{d:Int}(h:∀p∈L,¬ inP p d):pf L d=0:=by
 induction L with
 |nil=>rfl
 |cons p l ih=>rw[pf,if_neg (h p (5:))];exact ih λq hq=>h q (by simp[hq])
theorem qk6{a b:List Pa}{d:Int}:pf (a++b) d=if ∃p∈a,inP p d then pf a d else pf b d:=by
 induction a with
 |nil=>simp
 |cons p l ih=>
  rw[List.cons_append,pf]
  by_cases h:inP p d
  ·rw[if_pos h,if_pos ⟨p,by simp,h⟩,pf,if_pos h]
  ·rw[if_neg h,ih]
   by_cases g:∃q∈l,inP q d
   ·rw[if_pos g,if_pos (by let(q,hq,hh):=g;exact{q,by simp[hq],hh}),pf,if_neg h]
   ·rw[if_neg g,if_neg];rintro⟨q,hq,hh⟩;rcases List.mem_cons.mp hq with rfl|hq
    ·exact h hh
    ·exact g ⟨q,hq,hh⟩
theorem jb{L:List Pa}(hL:PcOk L){p:Pa}(hp:p∈L){d:Int}(h:inP p d):pf L d=p.2.2:=by
 induction L with
 |nil=>cases hp
 |cons q l ih=>
  rw[pf];rcases List.mem_cons.mp hp with rfl|hp
  ·rw[if_pos h]
  ·have:=(List.pairwise_cons.mp hL.ap).1 p hp
   rw[if_neg (λz=>by unfold inP at *;lia)];exact ih hL.tail hp
def qmL{L:List Pa}(hL:PcOk L)(d:Int):0<=pf L d:=by
 by_cases h:∃p∈L,inP p d
 ·let(p,hp,hd):=h;rw[jb hL hp hd]
  have:=(hL.ok p hp).2.1
  lia
 ·rw[zp λp hp hd=>h ⟨p,hp,hd⟩];exact Int.le_refl _
def qfp{L:List Pa}{d:Int}(h:pf L d≠0):∃p∈L,inP p d:=by
 by_cases q:∃p∈L,inP p d
 ·exact q
 ·exact absurd (zp λp hp hd=>q ⟨p,hp,hd⟩) h
theorem qmM{l:List (Str×Int)}(h:∀p∈l,LnOk p)(o:Option Str):wt l o<=9:=by
 induction l with
 |nil=>show(0:Int)<=9;decide
 |cons p l ih=>
  unfold wt;split
  ·exact(h p (5:)).nine
  ·exact ih λq hq=>h q (by simp[hq])
instance dayDec(F:List Pr)(d:Int):Decidable (Day F d):=decidable_of_iff _ z7
theorem qk7(w:Int)(F:List Pr)(d:Int):pf (F.map (Qf w)) d=if Day F d then w else 0:=by
 induction F with
 |nil=>rw[if_neg zd];rfl
 |cons p l ih=>
  rw[List.map_cons,pf,ih]
  by_cases h:p.1<=d/\d<=p.2
  ·rw[if_pos (show inP (Qf w p) d from h),if_pos (qt.mpr (.inl h))];rfl
  ·rw[if_neg (show ¬ inP (Qf w p) d from h)]
   by_cases g:Day l d
   ·rw[if_pos g,if_pos (qt.mpr (.inr g))]
   ·rw[if_neg g,if_neg (λz=>(qt.mp z).elim h g)]
def Chw:Int->List St->Prop
 |_,[]=>True
 | e,s::l=>(e < s.2.1/\s.2.1<=s.2.2)/\Chw s.2.2 l
theorem Ch.w:∀{l:List St} {e:Int},Ch e l->Chw e l
 |[],_,_=>trivial
 | _::_,_,h=>{⟨h.1.lo,h.1.ab⟩,Ch.w h.2}
theorem yq{r:Ru}(hr:∀p∈r.lands,LnOk p){lf:List Pr}(hS:Spr lf)(hl:lf.length < 900):∀(st:List St) (e:Int),Chw e st->PcOk (qD r lf st)/\(∀p∈qD r lf st,e < p.1)/\∀d,pf (qD r lf st) d=wgt r lf st d
 |[],e,_=>{{λ_ h=>(by cases h),List.Pairwise.nil},λ_ h=>(by cases h),λd=>(qdt rfl).symm}
 | s::st,e,hc=>by
  let(i1,i2,i3):=yq hr hS hl st s.2.2 hc.2;have h1:=hc.1.1;have h2:=hc.1.2;let(l1,l2,l3):=qdx hS hl (p:=(s.2.1,s.2.2)) h2;have w9:=qmM hr (some s.1)
  have one:PcOk (qC r lf s)/\(∀p∈qC r lf s,s.2.1<=p.1/\p.2.1<=s.2.2)/\∀d,pf (qC r lf s) d=if (s.2.1<=d/\d<=s.2.2)/\¬ Day lf d then wt r.lands (some s.1) else 0:=by
   unfold qC
   by_cases hw:0 < wt r.lands (some s.1)
   ·rw[if_pos hw];refine{{λp hp=>?_,?_},λp hp=>?_,λd=>?_}
    ·let(x,hx,rfl):=List.mem_map.mp hp;exact{l1.ok x hx,hw,w9}
    ·exact List.pairwise_map.mpr (l1.ap.imp λq=>by dsimp only[Qf];lia)
    ·let(x,hx,rfl):=List.mem_map.mp hp;exact l2 x hx
    ·rw[qk7]
     by_cases g:Day (jH (s.2.1,s.2.2) lf) d
     ·rw[if_pos g,if_pos ((l3 d).mp g)]
     ·rw[if_neg g,if_neg (λz=>g ((l3 d).mpr z))]
   ·rw[if_neg hw];refine{{λ_ h=>(by cases h),List.Pairwise.nil},λ_ h=>(by cases h),λd=>?_}
    have:wt r.lands (some s.1)=0:=by have:=qmK hr (some s.1);lia
    rw[this];simp[pf]
  let(o1,o2,o3):=one;rw[qD];refine{{λp hp=>?_,?_},λp hp=>?_,λd=>?_}
  ·rcases List.mem_append.mp hp with q|q
   ·exact o1.ok p q
   ·exact i1.ok p q
  ·refine List.pairwise_append.mpr ⟨o1.ap,i1.ap,λx hx y hy=>?_⟩
   have:=(o2 x hx).2
   have:=i2 y hy
   lia
  ·rcases List.mem_append.mp hp with q|q
   ·have:=(o2 p q).1;lia
   ·have:=i2 p q;lia
  ·rw[qk6]
   by_cases hd:s.2.1<=d/\d<=s.2.2
   ·have n:pf (qD r lf st) d=0:=zp λp hp z=>by have:=i2 p hp;unfold inP at z;lia
    have e1:(if ∃p∈qC r lf s,inP p d then pf (qC r lf s) d else pf (qD r lf st) d)=pf (qC r lf s) d:=by
     split
     ·rfl
     ·rename_i g;rw[n,zp λp hp hz=>g ⟨p,hp,hz⟩]
    rw[e1,o3];unfold wgt jN;rw[if_pos hd]
    by_cases g:Day lf d
    ·rw[if_neg (λz=>z.2 g),if_pos (z7.mpr g)]
    ·rw[if_pos ⟨hd,g⟩,if_neg (λz=>g (z7.mp z))]
   ·rw[if_neg (λ⟨p,hp,z⟩=>by have:=o2 p hp;unfold inP at z;lia),i3];unfold wgt;rw[show jN (s::st) d=jN st d by conv=>lhs;unfold jN;rw[if_neg hd]]
def qfq(f t:Int)(p:Pa):Int:=if 0 < mn p.2.1 t - mx p.1 f+1 then (mn p.2.1 t - mx p.1 f+1) * p.2.2 else 0
def J3(f t:Int):List Pa->Int
 |[]=>0
 | p::l=>qfq f t p+J3 f t l
theorem JX(f t:Int):∀(l:List Pa) (a:Int),qga f t l a=a+J3 f t l
 |[],a=>by simp[qga,J3]
 | p::l,a=>by
  rw[qga,JX f t l,J3];unfold qfq
  split<;>lia
theorem qa7(f t:Int):∀a b:List Pa,J3 f t (a++b)=J3 f t a+J3 f t b
 |[],b=>by simp[J3]
 | p::a,b=>by rw[List.cons_append,J3,J3,qa7 f t a b];lia
theorem qa8(f t:Int):∀l:List Pa,J3 f t l.reverse=J3 f t l
 |[]=>rfl
 | p::l=>by rw[List.reverse_cons,qa7,qa8 f t l,J3,J3,J3];lia
theorem qgd(p:Pa)(hp:p.1<=p.2.1)(f:Int):∀n:Nat,(ws (ind p) f n).sum=qfq f (f+n - 1) p
 |0=>by
  have m1:=qfn p.1 f;have m2:=Zp p.2.1 (f+(0:Nat) - 1);unfold qfq;rw[if_neg]
  ·simp[ws]
  ·rcases Int.le_total p.1 f with z|z<;>rcases Int.le_total p.2.1 (f+(0:Nat) - 1) with y|y
   ·have:=m1.1 z;have:=m2.1 y;lia
   ·have:=m1.1 z;have:=m2.2 y;lia
   ·have:=m1.2 z;have:=m2.1 y;lia
   ·have:=m1.2 z;have:=m2.2 y;lia
 | n+1=>by
  rw[qag,qgd p hp f n];have m1:=qfn p.1 f;have m2:=Zp p.2.1 (f+(n:Int) - 1);have m3:=Zp p.2.1 (f+((n+1:Nat):Int) - 1);have e:f+((n+1:Nat):Int) - 1=f+n:=by lia
  rw[e]at m3 ⊢;unfold qfq ind
  have hm1:p.1<=mx p.1 f/\f<=mx p.1 f/\(mx p.1 f=p.1\/mx p.1 f=f):=by
   rcases Int.le_total p.1 f with z|z
   ·have:=m1.1 z;lia
   ·have:=m1.2 z;lia
  generalize mx p.1 f=a at *
  by_cases h1:f+(n:Int) < p.1
  ·rw[if_neg (c:=inP p (f+(n:Int))) (λz=>by unfold inP at z;lia)]
   have:=m2.2 (1:)
   have:=m3.2 (1:)
   rw[if_neg (1:),if_neg (1:)];rfl
  ·by_cases h2:p.2.1 < f+(n:Int)
   ·rw[if_neg (c:=inP p (f+(n:Int))) (λz=>by unfold inP at z;lia)];have a1:=m2.1 (1:);have a2:=m3.1 (1:);rw[a1,a2]
    lia
   ·rw[if_pos (c:=inP p (f+(n:Int))) ⟨by lia,by lia⟩];have a1:=m2.2 (1:);have a2:=m3.2 (1:);rw[a1,a2];have hpos:0 < f+(n:Int) - a+1:=by lia
    rw[if_pos hpos]
    by_cases h3:0 < f+(n:Int) - 1 - a+1
    ·rw[if_pos h3,show f+(n:Int) - a+1=(f+(n:Int) - 1 - a+1)+1 by lia];generalize f+(n:Int) - 1 - a+1=k;rw[Int.add_mul,Int.one_mul]
    ·rw[if_neg h3,show f+(n:Int) - a+1=1 by lia,Int.one_mul]
     lia
theorem qge{f g h:Int->Int}:∀(n:Nat) (lo:Int),(∀x,f x=g x+h x)->(ws f lo n).sum=(ws g lo n).sum+(ws h lo n).sum
 |0,_,_=>by simp[ws]
 | n+1,lo,e=>by
  rw[ws,ws,ws,List.sum_cons,List.sum_cons,List.sum_cons,qge n (lo+1) e,e lo]
  lia
theorem qmN{L:List Pa}(hL:PcOk L)(f:Int)(n:Nat):(ws (pf L) f n).sum=J3 f (f+n - 1) L:=by
 induction L with
 |nil=>rw[J3];exact JQ n f λx _ _=>rfl
 |cons p l ih=>
  have hp:=(hL.ok p (5:)).1;rw[J3,<-qgd p hp,<-ih hL.tail];refine qge n f λx=>?_;rw[pf];unfold ind
  by_cases h:inP p x
  ·rw[if_pos h,if_pos h,zp λq hq z=>by have:=(List.pairwise_cons.mp hL.ap).1 q hq;unfold inP at *;lia]
   lia
  ·rw[if_neg h,if_neg h]
   lia
def chn(leave d:Int):List Pa->Int->Int
 |[],_=>0
 | p::R,f=>if p.1<=d then (if leave<=f - 1 - mn p.2.1 d then 0 else (mn p.2.1 d - p.1+1) * p.2.2+chn leave d R p.1) else chn leave d R f
structure RvOk(R:List Pa):Prop where
 ok:∀p∈R,p.1<=p.2.1
 ap:R.Pairwise λp q=>q.2.1 < p.1
def RvOk.of{L:List Pa}(h:PcOk L):RvOk L.reverse:={λp hp=>(h.ok p (-hp:)).1,List.pairwise_reverse.mpr h.ap}
def RvOk.tail{p:Pa}{R:List Pa}(h:RvOk (p::R)):RvOk R:={λq hq=>h.ok q (by simp[hq]),(List.pairwise_cons.mp h.ap).2}
def qdy(a b:Int):mn a b<=a/\mn a b<=b/\(mn a b=a\/mn a b=b):=by
 unfold mn
 split<;>lia
def qfr(a b:Int):a<=mx a b/\b<=mx a b/\(mx a b=a\/mx a b=b):=by
 unfold mx
 split<;>lia
theorem Zr{f t:Int}:∀{R:List Pa},(∀p∈R,p.2.1 < f)->J3 f t R=0
 |[],_=>rfl
 | p::R,h=>by rw[J3,Zr λq hq=>h q (by simp[hq])];have h0:=h p (5:);have h1:=qdy p.2.1 t;have h2:=qfr p.1 f;unfold qfq;rw[if_neg (1:)];rfl
theorem qdz{leave d:Int}(hl:1<=leave):∀(R:List Pa) (f:Int),RvOk R->(d < f\/∀p∈R,p.2.1 < f)->fsF leave d R f<=f/\J3 (fsF leave d R f) d R=chn leave d R f
 |[],f,_,_=>{Int.le_refl _,rfl}
 | p::R,f,hR,hf=>by
  have hp:=hR.ok p (5:);have hg:=(List.pairwise_cons.mp hR.ap).1;have hm:=qdy p.2.1 d;rw[fsF,chn,J3]
  by_cases h1:p.1<=d
  ·rw[if_pos h1,if_pos h1]
   by_cases h2:leave<=f - 1 - mn p.2.1 d
   ·rw[if_pos h2,if_pos h2];refine{Int.le_refl _,?_};rw[Zr λq hq=>by have:=hg q hq;lia]
    have:=qfr p.1 f
    unfold qfq;rw[if_neg (1:)];rfl
   ·rw[if_neg h2,if_neg h2];let(i1,i2):=qdz (d:=d) hl R p.1 hR.tail (.inr hg)
    have hlt:p.1<=f:=by
     rcases hf with q|q
     ·lia
     ·have:=q p (5:);lia
    refine{by lia,?_};rw[i2]
    have:=qfr p.1 (fsF leave d R p.1)
    have e:mx p.1 (fsF leave d R p.1)=p.1:=by lia
    unfold qfq;rw[e,if_pos (1:)]
  ·rw[if_neg h1,if_neg h1];let(i1,i2):=qdz hl R f hR.tail (hf.imp id λq x hx=>q x (by simp[hx]));refine{i1,?_};rw[i2]
   have:=qfr p.1 (fsF leave d R f)
   unfold qfq;rw[if_neg (1:)]
   lia
theorem Qi{leave d:Int}:∀(B R:List Pa) (f:Int),(∀p∈B,d < p.1)->chn leave d (B++R) f=chn leave d R f
 |[],R,f,_=>rfl
 | p::B,R,f,h=>by have h0:=h p (5:);rw[List.cons_append,chn,if_neg (1:)];exact Qi B R f λq hq=>h q (by simp[hq])
theorem Qj{leave d d':Int}:∀(R:List Pa) (f:Int),(∀p∈R,p.1<=p.2.1/\p.2.1<=d/\p.2.1<=d')->chn leave d R f=chn leave d' R f
 |[],_,_=>rfl
 | p::R,f,h=>by have h0:=h p (5:);have e1:mn p.2.1 d=p.2.1:=(Zp p.2.1 d).1 h0.2.1;have e2:mn p.2.1 d'=p.2.1:=(Zp p.2.1 d').1 h0.2.2;rw[chn,chn,if_pos (c:=p.1<=d) (1:),if_pos (c:=p.1<=d') (1:),e1,e2,Qj R p.1 λq hq=>h q (by simp[hq])]
def qdA{r:Ru}(hk:r.kd.isW=true)(h1:1<=r.days){L:List Pa}(hL:PcOk L)(d:Int):qw r L d=(ws (pf L) (d - r.days+1) r.days.toNat).sum:=by
 unfold qw qio;rw[if_pos hk,JX,qmN hL,show d - r.days+1+(r.days.toNat:Int) - 1=d by lia]
 lia
def qdB{r:Ru}(hk:r.kd.isW=false)(h1:1<=r.days){L:List Pa}(hL:PcOk L)(d:Int):qw r L d=chn r.days d L.reverse (d+1):=by
 unfold qw qio;rw[if_neg (by rw[hk];decide),JX,<-qa8,(qdz h1 L.reverse (d+1) (RvOk.of hL) (.inl (1:))).2]
 lia
theorem qa9{d:Int}:∀{R:List Pa},RvOk R->∃B A,R=B++A/\(∀p∈B,d < p.1)/\∀p∈A,p.1<=d
 |[],_=>{[],[],rfl,λ_ h=>(by cases h),λ_ h=>(by cases h)}
 | p::R,h=>by
  by_cases hd:d < p.1
  ·let(B,A,e,h1,h2):=qa9 (d:=d) h.tail;refine{p::B,A,by rw[e];rfl,λq hq=>?_,h2};rcases List.mem_cons.mp hq with rfl|hq
   ·exact hd
   ·exact h1 q hq
  ·refine{[],p::R,rfl,λ_ h=>(by cases h),λq hq=>?_};rcases List.mem_cons.mp hq with rfl|hq
   ·lia
   ·have:=(List.pairwise_cons.mp h.ap).1 q hq
    have:=h.ok q (by simp[hq])
    lia
def qba(f:Int->Int)(n d:Int):Prop:=∀x,d - n < x->x<=d->f x=0
theorem qbT{leave:Int}(h1:1<=leave){L:List Pa}(hL:PcOk L)(d:Int) :
  (qba (pf L) leave d->chn leave d L.reverse (d+1)=0)/\(¬ qba (pf L) leave d->chn leave d L.reverse (d+1)=chn leave (d - 1) L.reverse d+pf L d):=by
 have hR:=RvOk.of hL;let(B,A,e,hB,hA):=qa9 (d:=d) hR;have mem:∀p,p∈L↔p∈B\/p∈A:=λp=>by rw[<-List.mem_reverse,e,List.mem_append]
 rw[e,Qi B A _ hB,Qi B A _ (λp hp=>by have:=hB p hp;lia)]
 cases A with
 |nil=>
  refine{λ_=>rfl,λh=>absurd (λx _ hx=>?_) h}
  exact zp λp hp z=>by
   rcases (mem p).mp hp with q|q
   ·have:=hB p q;unfold inP at z;lia
   ·cases q
 |cons q A=>
  have hq:q∈L:=(mem q).mpr (.inr (5:));have hqo:=hL.ok q hq;have hq1:=hA q (5:)
  have hap:∀p∈A,p.2.1 < q.1:=by
   have:=hR.ap
   rw[e]at this;exact(List.pairwise_cons.mp (List.pairwise_append.mp this).2.1).1
  have hAo:∀p∈A,p.1<=p.2.1:=λp hp=>(hL.ok p ((mem p).mpr (.inr (by simp[hp])))).1;have hm:=Zp q.2.1 d;have hm':=Zp q.2.1 (d - 1)
  by_cases hd:d<=q.2.1
  ·have hpf:pf L d=q.2.2:=jb hL hq ⟨hq1,hd⟩;refine{λh=>?_,λ_=>?_}
   ·have:=h d (1:) (Int.le_refl _)
    lia
   ·rw[hpf,chn,if_pos hq1,hm.2 hd,if_neg (1:)]
    by_cases hb:q.1<=d - 1
    ·rw[chn,if_pos hb,hm'.2 (1:),if_neg (1:),Qj (d:=d) (d':=d - 1) A q.1 λp hp=>by have:=hap p hp;have:=hAo p hp;lia];rw[show d - q.1+1=(d - 1 - q.1+1)+1 by lia];generalize d - 1 - q.1+1=k;rw[Int.add_mul,Int.one_mul]
     lia
    ·rw[chn,if_neg hb,Qj (d:=d) (d':=d - 1) A q.1 λp hp=>by have:=hap p hp;have:=hAo p hp;lia];rw[show q.1=d by lia,show d - d+1=1 by lia,Int.one_mul]
     lia
  ·have hz:∀x,q.2.1 < x->x<=d->pf L x=0:=λx h2 h3=>zp λp hp z=>by
    rcases (mem p).mp hp with y|y
    ·have:=hB p y;unfold inP at z;lia
    ·rcases List.mem_cons.mp y with rfl|y
     ·unfold inP at z;lia
     ·have:=hap p y;unfold inP at z;lia
   have hpf:pf L q.2.1=q.2.2:=jb hL hq ⟨hqo.1,Int.le_refl _⟩;rw[chn,if_pos hq1,hm.1 (1:),chn,if_pos (c:=q.1<=d - 1) (1:),hm'.1 (1:),hz d (1:) (Int.le_refl _)];refine{λh=>?_,λh=>?_}
   ·rw[if_pos]
    by_cases y:leave<=d+1 - 1 - q.2.1
    ·exact y
    ·have:=h q.2.1 (1:) (1:)
     lia
   ·have y:¬ leave<=d+1 - 1 - q.2.1:=λy=>h λx h2 h3=>hz x (1:) h3;rw[if_neg y,if_neg (1:),Qj (d:=d) (d':=d - 1) A q.1 λp hp=>by have:=hap p hp;have:=hAo p hp;lia]
    lia
structure Cnt(w:Bool)(n:Int)(f C:Int->Int):Prop where
 nn:∀d,0<=f d
 low:∃b,∀d,d < b->C d=0/\f d=0
 win:w=true->∀d,C d=(ws f (d - n+1) n.toNat).sum
 idle:w=false->∀d,qba f n d->C d=0
 busy:w=false->∀d,¬ qba f n d->C d=C (d - 1)+f d
theorem qk8{L:List Pa}(hL:PcOk L):∃b,∀d,d < b->pf L d=0:=by
 induction L with
 |nil=>exact{0,λ_ _=>rfl}
 |cons p l _=>
  refine{p.1,λd hd=>zp λq hq z=>?_};have h0:=(hL.ok p (5:)).1;rcases List.mem_cons.mp hq with rfl|hq
  ·unfold inP at z;lia
  ·have:=(List.pairwise_cons.mp hL.ap).1 q hq
   unfold inP at z;lia
theorem qdC{r:Ru}(h1:1<=r.days){L:List Pa}(hL:PcOk L):Cnt r.kd.isW r.days (pf L) (qw r L):=by
 let(b,hb):=qk8 hL
 have sn:r.kd.isW=false->∀d,(qba (pf L) r.days d->qw r L d=0)/\(¬ qba (pf L) r.days d->qw r L d=qw r L (d - 1)+pf L d):=λhk d=>by rw[qdB hk h1 hL,qdB hk h1 hL,show d - 1+1=d by lia];exact qbT h1 hL d
 refine{qmL hL,{b,λd hd=>{?_,hb d hd}},λhk=>qdA hk h1 hL,λhk d=>(sn hk d).1,λhk d=>(sn hk d).2}
 cases hk:r.kd.isW with
 |true=>rw[qdA hk h1 hL];exact JQ _ _ λx h2 h3=>hb x (1:)
 |false=>exact(sn hk d).1 λx _ hx=>hb x (1:)
namespace Cnt
variable{w:Bool}{n:Int}{f C:Int->Int}
def step(h:Cnt w n f C)(hw:w=true)(hn:1<=n)(d:Int):C d=C (d - 1)+f d - f (d - n):=by
 rw[h.win hw d,h.win hw (d - 1)];let(m,rfl):∃m:Nat,n=((m+1:Nat):Int):={(n - 1).toNat,by lia};rw[Int.toNat_natCast,qag,show d - 1 - ((m+1:Nat):Int)+1=d - ((m+1:Nat):Int) by lia,ws,List.sum_cons,show d - ((m+1:Nat):Int)+1+(m:Int)=d by lia]
 lia
theorem pos(h:Cnt w n f C)(d:Int):0<=C d:=by
 cases hw:w with
 |true=>rw[h.win hw];exact qk2 h.nn _ _
 |false=>
  let(b,hb):=h.low
  have:∀m:Nat,∀d,d < b+m->0<=C d:=by
   intro m
   induction m with
   |zero=>intro d hd;rw[(hb d (1:)).1];exact Int.le_refl _
   |succ m ih=>
    intro d hd
    by_cases hi:qba f n d
    ·rw[h.idle hw d hi];exact Int.le_refl _
    ·rw[h.busy hw d hi]
     have:=ih (d - 1) (1:)
     have:=h.nn d
     lia
  exact this (d - b+1).toNat d (1:)
theorem grow(h:Cnt w n f C)(hn:1<=n)(d:Int):C d<=C (d - 1)+f d:=by
 cases hw:w with
 |true=>rw[h.step hw hn d];have:=h.nn (d - n);lia
 |false=>
  by_cases hi:qba f n d
  ·rw[h.idle hw d hi]
   have:=h.pos (d - 1)
   have:=h.nn d
   lia
  ·rw[h.busy hw d hi];exact Int.le_refl _
def busy'(h:Cnt w n f C)(hw:w=false)(hn:1<=n){d:Int}(hd:f d≠0):C d=C (d - 1)+f d:=
 h.busy hw d λz=>hd (z d (1:) (Int.le_refl _))
def keeps(h:Cnt w n f C)(hn:1<=n){m a b:Int}(ha:C a<=m)(hz:∀x,a < x->x < b->f x=0):∀x,a<=x->x < b->C x<=m:=by
 have:∀k:Nat,∀x,a<=x->x < b->x < a+k+1->C x<=m:=by
  intro k
  induction k with
  |zero=>intro x h1 h2 h3;rw[show x=a by lia];exact ha
  |succ k ih=>
   intro x h1 h2 h3
   by_cases y:x=a
   ·rw[y];exact ha
   ·have:=h.grow hn x
    rw[hz x (1:) h2]at this
    have:=ih (x - 1) (1:) (1:) (1:)
    lia
 exactλx h1 h2=>this (x - a).toNat x h1 h2 (1:)
end Cnt
def cb(st:List St)(x:Rl)(d:Int):Int:=qw x.1 (J2 st x) d
structure Rlw(x:Rl):Prop where
 ln:∀p∈x.1.lands,LnOk p
 days:1<=x.1.days
 most:0<=x.1.most
 spr:Spr x.2
 len:x.2.length<=20
section
variable{st:List St}{x:Rl}(h:Rlw x){e:Int}(hc:Chw e st)
include h hc
theorem qk9:PcOk (J2 st x):=(yq h.ln h.spr (by have:=h.len;lia) st e hc).1
theorem qla:pf (J2 st x)=wgt x.1 x.2 st:=funext (yq h.ln h.spr (by have:=h.len;lia) st e hc).2.2
end
def Edg(w:Bool)(n:Int)(f:Int->Int)(e:Int):Prop:=f e≠f (e - 1)\/(w=true/\f (e - n)≠f (e - n - 1))\/(w=false/\f (e - n)≠0/\f (e - n+1)=0)
namespace Cnt
variable{w:Bool}{n:Int}{f C:Int->Int}
theorem lin(h:Cnt w n f C)(hn:1<=n){d:Int}(e1:¬ Edg w n f d)(e2:¬ Edg w n f (d+1)):C (d+1) - C d=C d - C (d - 1):=by
 unfold Edg at e1 e2
 have ff:f (d+1)=f d:=by
  have:¬ f (d+1)≠f (d+1 - 1):=λz=>e2 (.inl z)
  rw[show d+1 - 1=d by lia]at this;exact Decidable.not_not.mp this
 cases hw:w with
 |true=>
  have s1:=h.step hw hn d;have s2:=h.step hw hn (d+1)
  have fn:f (d+1 - n)=f (d - n):=by
   have:¬ f (d+1 - n)≠f (d+1 - n - 1):=λz=>e2 (.inr (.inl ⟨hw,z⟩))
   rw[show d+1 - n - 1=d - n by lia]at this;exact Decidable.not_not.mp this
  rw[show d+1 - 1=d by lia]at s2
  lia
 |false=>
  have q1:f (d - n)≠0->f (d - n+1)≠0:=λa b=>e1 (.inr (.inr ⟨hw,a,b⟩));have q2:f (d+1 - n)≠0->f (d+1 - n+1)≠0:=λa b=>e2 (.inr (.inr ⟨hw,a,b⟩))
  by_cases fd:f d=0
  ·by_cases hi:qba f n d
   ·have c0:=h.idle hw d hi
    have i1:qba f n (d+1):=λx h1 h2=>by
     by_cases hx:x<=d
     ·exact hi x (1:) hx
     ·rw[show x=d+1 by lia,ff,fd]
    have z:f (d - n)=0:=Decidable.byContradiction λz=>q1 z (hi _ (1:) (1:))
    have i2:qba f n (d - 1):=λx h1 h2=>by
     by_cases hx:x=d - n
     ·rw[hx,z]
     ·exact hi x (1:) (1:)
    rw[c0,h.idle hw _ i1,h.idle hw _ i2]
   ·have b1:=h.busy hw d hi
    have i1:¬ qba f n (d+1):=λi1=>hi λx h1 h2=>by
     by_cases hx:x=d+1 - n
     ·subst hx;exact Decidable.byContradiction λz=>q2 z (i1 _ (1:) (1:))
     ·exact i1 x (1:) (1:)
    have b2:=h.busy hw _ i1;rw[show d+1 - 1=d by lia]at b2
    lia
  ·have b1:=h.busy' hw hn fd;have b2:=h.busy' hw hn (d:=d+1) (by rw[ff];exact fd);rw[show d+1 - 1=d by lia]at b2
   lia
theorem small(h:Cnt w n f C)(hn:1<=n)(h9:∀x,f x<=9){d:Int}(e1:¬ Edg w n f d):-9<=C d - C (d - 1)/\C d - C (d - 1)<=9:=by
 have n0:=h.nn d;have n9:=h9 d;unfold Edg at e1
 cases hw:w with
 |true=>
  have s1:=h.step hw hn d
  have:=h.nn (d - n)
  have:=h9 (d - n)
  lia
 |false=>
  have q1:f (d - n)≠0->f (d - n+1)≠0:=λa b=>e1 (.inr (.inr ⟨hw,a,b⟩))
  by_cases hi:qba f n d
  ·have c0:=h.idle hw d hi;have z:f (d - n)=0:=Decidable.byContradiction λz=>q1 z (hi _ (1:) (1:))
   have i2:qba f n (d - 1):=λx h1 h2=>by
    by_cases hx:x=d - n
    ·rw[hx,z]
    ·exact hi x (1:) (1:)
   rw[c0,h.idle hw _ i2]
   lia
  ·have b1:=h.busy hw d hi
   lia
theorem seg(h:Cnt w n f C)(hn:1<=n){b e:Int}(hb:∀x,b < x->x<=e->¬ Edg w n f x):∀k:Nat,b+(k+1:Nat)<=e->C (b+(k+1:Nat)) - C (b+k)=C (b+1) - C b
 |0,_=>by simp
 | k+1,hk=>by have ih:=seg h hn hb k (1:);have l:=h.lin hn (d:=b+(k+1:Nat)) (hb _ (1:) (1:)) (hb _ (1:) (1:));rw[show b+((k+1:Nat):Int) - 1=b+(k:Nat) by lia,ih]at l;rw[show b+((k+1+1:Nat):Int)=b+((k+1:Nat):Int)+1 by lia];exact l
theorem zero_lo(h:Cnt w n f C){b:Int}(hz:∀x,x<=b->f x=0)(hn:1<=n):C b=0:=by
 cases hw:w with
 |true=>rw[h.win hw];exact JQ _ _ λx h1 h2=>hz x (1:)
 |false=>exact h.idle hw b λx h1 h2=>hz x h2
theorem zero_hi(h:Cnt w n f C){b:Int}(hz:∀x,b - n < x->x<=b->f x=0)(hn:1<=n):C b=0:=by
 cases hw:w with
 |true=>rw[h.win hw];exact JQ _ _ λx h1 h2=>hz x (1:) (1:)
 |false=>exact h.idle hw b λx h1 h2=>hz x h1 h2
end Cnt
def tuF(w:Bool)(n:Int)(L:List Pa):List Int:=if w=true then L.flatMap λp=>[p.1+n,p.2.1+1+n] else []
def edF(w:Bool)(n:Int)(L:List Pa):List Int:=tuF w n L++L.flatMap λp=>[p.1,p.2.1+1]++(if w=true then [] else [p.2.1+n])
def Zs{w:Bool}{n:Int}{L:List Pa}{p:Pa}(hp:p∈L):p.1∈edF w n L/\p.2.1+1∈edF w n L/\(w=true->p.1+n∈edF w n L/\p.2.1+1+n∈edF w n L)/\(w=false->p.2.1+n∈edF w n L):=by
 unfold edF tuF;refine{?_,?_,λhw=>{?_,?_},λhw=>?_}
 ·exact List.mem_append_right _ (List.mem_flatMap.mpr ⟨p,hp,by simp⟩)
 ·exact List.mem_append_right _ (List.mem_flatMap.mpr ⟨p,hp,by simp⟩)
 ·exact List.mem_append_left _ (by rw[if_pos hw];exact List.mem_flatMap.mpr ⟨p,hp,by simp⟩)
 ·exact List.mem_append_left _ (by rw[if_pos hw];exact List.mem_flatMap.mpr ⟨p,hp,by simp⟩)
 ·exact List.mem_append_right _ (List.mem_flatMap.mpr ⟨p,hp,by simp[hw]⟩)
def qdD{L:List Pa}(hL:PcOk L){x:Int}(h:pf L x≠pf L (x - 1)):∃p∈L,x=p.1\/x=p.2.1+1:=by
 by_cases h0:pf L (x - 1)=0
 ·let(p,hp,hi):=qfp (L:=L) (d:=x) (by rw[h0]at h;exact h);refine{p,hp,.inl ?_}
  have:¬ inP p (x - 1):=λz=>by have e1:=jb hL hp hi;have e2:=jb hL hp z;rw[e1,e2]at h;exact h rfl
  unfold inP at hi this
  lia
 ·let(p,hp,hi):=qfp h0;refine{p,hp,.inr ?_}
  have:¬ inP p x:=λz=>by have e1:=jb hL hp hi;have e2:=jb hL hp z;rw[e1,e2]at h;exact h rfl
  unfold inP at hi this
  lia
def qbb{w:Bool}{n:Int}{L:List Pa}(hL:PcOk L){x:Int}(h:Edg w n (pf L) x):x∈edF w n L:=by
 rcases h with h|⟨hw,h⟩|⟨hw,h1,h2⟩
 ·obtain⟨p,hp,rfl|rfl⟩:=qdD hL h
  ·exact(Zs hp).1
  ·exact(Zs hp).2.1
 ·obtain⟨p,hp,e|e⟩:=qdD hL h
  ·rw[show x=p.1+n by lia];exact((Zs hp).2.2.1 hw).1
  ·rw[show x=p.2.1+1+n by lia];exact((Zs hp).2.2.1 hw).2
 ·let(p,hp,hi):=qfp h1
  have:¬ inP p (x - n+1):=λz=>by
   have e:=jb hL hp z
   have:=(hL.ok p hp).2
   rw[h2]at e
   lia
  unfold inP at hi this;rw[show x=p.2.1+n by lia];exact(Zs hp).2.2.2 hw
def qgf{w:Bool}{n:Int}{L:List Pa}(hL:PcOk L){C:Int->Int}(h:Cnt w n (pf L) C)(hn:1<=n){d:Int}(hd:∀e∈edF w n L,d < e):C d=0:=
 h.zero_lo (λx hx=>zp λp hp hi=>by
  have:=hd _ (Zs hp).1
  unfold inP at hi
  lia) hn
def qgg{w:Bool}{n:Int}{L:List Pa}(hL:PcOk L){C:Int->Int}(h:Cnt w n (pf L) C)(hn:1<=n){d:Int}(hd:∀e∈edF w n L,e<=d):C d=0:=
 h.zero_hi (λx h1 h2=>zp λp hp hi=>by
  unfold inP at hi
  cases hw:w with
  |true=>
   have:=hd _ ((Zs hp).2.2.1 hw).2
   lia
  |false=>
   have:=hd _ ((Zs hp).2.2.2 hw)
   lia) hn
def ulF(a g b e:Int):List Pr:=if g=0 then (if a=0 then [] else [(b,e)]) else if a.fmod g≠0 then [(b,e)] else jH (b,e) [(b - a.fdiv g,b - a.fdiv g)]
def qmO{D:Int->Int}{a g b e:Int}(hb:b<=e)(hD:∀d,b<=d->d<=e->D d=a+(d - b) * g):(∀p∈ulF a g b e,p.1<=p.2)/\∀d,Day (ulF a g b e) d↔(b<=d/\d<=e)/\D d≠0:=by
 have one:∀d,Day [(b,e)] d↔b<=d/\d<=e:=λd=>by rw[qt];exact{λz=>z.elim id λz=>absurd z zd,.inl}
 have all:(∀d,b<=d->d<=e->D d≠0)->(∀p∈[(b,e)],p.1<=p.2)/\∀d,Day [(b,e)] d↔(b<=d/\d<=e)/\D d≠0:=λz=>{λp hp=>by rw[List.mem_singleton.mp hp];exact hb,λd=>by rw[one];exact{λy=>{y,z d y.1 y.2},λy=>y.1}}
 unfold ulF
 by_cases g0:g=0
 ·rw[if_pos g0]
  by_cases a0:a=0
  ·rw[if_pos a0];refine{λp hp=>(by cases hp),λd=>{λz=>absurd z zd,λz=>absurd (show D d=0 from ?_) z.2}};rw[hD d z.1.1 z.1.2,g0,a0];simp
  ·rw[if_neg a0];refine all λd h1 h2=>?_;rw[hD d h1 h2,g0]
   simpa using a0
 ·rw[if_neg g0]
  by_cases m0:a.fmod g=0
  ·rw[if_neg (not_not_intro m0)]
   have ea:a=g * a.fdiv g:=by
    have:=Int.mul_fdiv_add_fmod a g
    rw[m0,Int.add_zero]at this;exact this.symm
   generalize a.fdiv g=q at ea;have S:Spr [(b - q,b - q)]:={λp hp=>by rw[List.mem_singleton.mp hp];exact Int.le_refl _,List.pairwise_singleton _ _};let(h1,h2,h3):=qdx S (5:) (p:=(b,e)) hb;refine{λp hp=>(h1.ok p hp),λd=>?_};rw[h3 d]
   have od:Day [(b - q,b - q)] d↔d=b - q:=by rw[qt];exact{λz=>z.elim (λz=>by dsimp only at z;lia) λz=>absurd z zd,λz=>.inl (by dsimp only;lia)}
   rw[od];dsimp only;constructor
   ·rintro⟨⟨x1,x2⟩,x3⟩;refine{⟨x1,x2⟩,λz=>x3 ?_};rw[hD d x1 x2,ea]at z
    have:g * (q+(d - b))=0:=by rw[Int.mul_add,Int.mul_comm g (d - b)];exact z
    rcases Int.mul_eq_zero.mp this with y|y
    ·exact absurd y g0
    ·lia
   ·rintro⟨⟨x1,x2⟩,x3⟩;refine{⟨x1,x2⟩,λz=>x3 ?_};rw[hD d x1 x2,ea,z];rw[show b - q - b = -q by lia,Int.neg_mul,Int.mul_comm g q]
    lia
  ·rw[if_pos m0];refine all λd h1 h2 z=>m0 ?_;rw[hD d h1 h2]at z
   have:a = -(d - b) * g:=by rw[Int.neg_mul];lia
   rw[this];exact Int.mul_fmod_left ..
def chF(D:Int->Int):List Int->List Pr
 | b::e::l=>ulF (D b) (D (mn (b+1) (e - 1)) - D b) b (e - 1)++chF D (e::l)
 |_=>[]
theorem jv{a b:List Pr}{d:Int}:Day (a++b) d↔Day a d\/Day b d:=by
 induction a with
 |nil=>exact{.inr,λz=>z.elim (λz=>absurd z zd) id}
 |cons p a ih=>rw[List.cons_append,qt,qt,ih,or_assoc]
theorem qgh{D:Int->Int}{P:Int->Prop}(hs:∀b e,P b->b < e->(∀x,b < x->x < e->¬ P x)->∀d,b<=d->d < e->D d=D b+(d - b) * (D (mn (b+1) (e - 1)) - D b)):∀(l:List Int),l.Pairwise (· < ·)->(∀x∈l,P x)->(∀x,P x->(∃y∈l,y<=x)->x∈l)->
  (∀p∈chF D l,p.1<=p.2)/\∀d,Day (chF D l) d↔((∃x∈l,x<=d)/\∃y∈l,d < y)/\D d≠0
 |[],_,_,_=>{λp hp=>(by cases hp),λd=>{λz=>absurd z zd,λz=>by let(((x,hx,_),_),_):=z;cases hx}}
 |[b],_,_,_=>{λp hp=>(by cases hp),λd=>{λz=>absurd z zd,λz=>by
  let(((x,hx,h1),y,hy,h2),_):=z;rw[List.mem_singleton.mp hx]at h1;rw[List.mem_singleton.mp hy]at h2
  lia}}
 | b::e::l,hp,hP,hA=>by
  rw[List.pairwise_cons]at hp;have be:b < e:=hp.1 e (5:)
  have nx:∀x,b < x->x < e->¬ P x:=λx h1 h2 px=>by
   have:=hA x px ⟨b,by simp,by lia⟩
   rcases List.mem_cons.mp this with z|z
   ·lia
   ·rcases List.mem_cons.mp z with z|z
    ·lia
    ·have:=(List.pairwise_cons.mp hp.2).1 x z
     lia
  let(i1,i2):=qgh hs (e::l) hp.2 (λx hx=>hP x (by simp[hx])) λx px hy=>by
   let(y,hy,hyx):=hy
   have:=hA x px ⟨y,by simp[hy],hyx⟩
   rcases List.mem_cons.mp this with z|z
   ·subst z
    have:e<=y:=by
     rcases List.mem_cons.mp hy with w|w
     ·lia
     ·have:=(List.pairwise_cons.mp hp.2).1 y w
      lia
    lia
   ·exact z
  let(u1,u2):=qmO (D:=D) (a:=D b) (g:=D (mn (b+1) (e - 1)) - D b) (b:=b) (e:=e - 1) (1:) λd h1 h2=>hs b e (hP b (5:)) be nx d h1 (1:);rw[chF];refine{λp hp=>(List.mem_append.mp hp).elim (u1 p) (i1 p),λd=>?_};rw[jv,u2,i2];constructor
  ·rintro (⟨⟨x1,x2⟩,x3⟩|⟨⟨⟨x,hx,x1⟩,y,hy,x2⟩,x3⟩)
   ·exact{{{b,by simp,x1},e,by simp,by lia},x3}
   ·exact{{{x,List.mem_cons_of_mem _ hx,x1},y,List.mem_cons_of_mem _ hy,x2},x3}
  ·rintro⟨⟨⟨x,hx,x1⟩,y,hy,x2⟩,x3⟩
   by_cases hd:d < e
   ·refine .inl ⟨⟨?_,by lia⟩,x3⟩;rcases List.mem_cons.mp hx with z|z
    ·lia
    ·have:=hp.1 x z
     lia
   ·refine .inr ⟨⟨⟨e,by simp,by lia⟩,y,?_,x2⟩,x3⟩;rcases List.mem_cons.mp hy with z|z
    ·lia
    ·exact z
theorem Cnt.val{w:Bool}{n:Int}{f C:Int->Int}(h:Cnt w n f C)(hn:1<=n){b e:Int}(hb:∀x,b < x->x<=e->¬ Edg w n f x):∀k:Nat,b+k<=e->C (b+k)=C b+k * (C (b+1) - C b)
 |0,_=>by simp
 | k+1,hk=>by
  have ih:=Cnt.val h hn hb k (1:);have s:=h.seg hn hb k hk;rw[show((k+1:Nat):Int) * (C (b+1) - C b)=(k:Int) * (C (b+1) - C b)+(C (b+1) - C b) by rw[show((k+1:Nat):Int)=(k:Int)+1 from rfl,Int.add_mul,Int.one_mul]];generalize (k:Int) * (C (b+1) - C b)=m at *;generalize C (b+((k+1:Nat):Int))=x at *;generalize C (b+(k:Int))=y at *
  lia
section
variable{w:Bool}{n:Int}{L M:List Pa}{A B:Int->Int}
def Yb(w:Bool)(n:Int)(L M:List Pa):List Int:=sdI (edF w n L++edF w n M)
def qlb(ns:List Int):(sdI ns).Pairwise (· < ·):=by have h1:(sdI ns).Perm (ddI ns):=List.mergeSort_perm _ _;have h2:(sdI ns).Pairwise (λa b=>decide (a<=b)=true):=List.pairwise_mergeSort (λa b c x y=>by simp at *;lia) (λa b=>by simp;lia) _;have h3:(sdI ns).Nodup:=h1.nodup_iff.mpr (Jm ns);exact List.Pairwise.imp₂ (λa b x y=>Int.lt_iff_le_and_ne.mpr ⟨of_decide_eq_true x,y⟩) h2 h3
def Zt(ns:List Int)(k:Int):k∈sdI ns↔k∈ns:=by have h1:(sdI ns).Perm (ddI ns):=List.mergeSort_perm _ _;rw[h1.mem_iff,Q0]
def qfs(hL:PcOk L)(hM:PcOk M)(a:Cnt w n (pf L) A)(b:Cnt w n (pf M) B)(hn:1<=n)(x e:Int)(hx:x < e)(h:∀y,x < y->y < e->¬ y∈edF w n L++edF w n M)(d:Int)(h1:x<=d)(h2:d < e) :
  A d - B d=(A x - B x)+(d - x) * ((A (mn (x+1) (e - 1)) - B (mn (x+1) (e - 1))) - (A x - B x)):=by
 by_cases hd:d=x
 ·subst hd;simp
 ·have hm:mn (x+1) (e - 1)=x+1:=by
   have:=qdy (x+1) (e - 1)
   unfold mn at *
   lia
  rw[hm];have e1:∀y,x < y->y<=e - 1->¬ Edg w n (pf L) y:=λy p q z=>h y p (1:) (List.mem_append_left _ (qbb hL z));have e2:∀y,x < y->y<=e - 1->¬ Edg w n (pf M) y:=λy p q z=>h y p (1:) (List.mem_append_right _ (qbb hM z));have v1:=a.val hn e1 (d - x).toNat (1:);have v2:=b.val hn e2 (d - x).toNat (1:);rw[show x+((d - x).toNat:Int)=d by lia,show((d - x).toNat:Int)=d - x by lia]at v1 v2;rw[v1,v2,Int.mul_sub,Int.mul_sub,Int.mul_sub,Int.mul_sub,Int.mul_sub]
  lia
def qdE(hL:PcOk L)(hM:PcOk M)(a:Cnt w n (pf L) A)(b:Cnt w n (pf M) B)(hn:1<=n)(hl9:∀x,pf L x<=9)(hm9:∀x,pf M x<=9)(x e:Int)(hx:x < e)(h:∀y,x < y->y < e->¬ y∈edF w n L++edF w n M) :
  -18<=(A (mn (x+1) (e - 1)) - B (mn (x+1) (e - 1))) - (A x - B x)/\(A (mn (x+1) (e - 1)) - B (mn (x+1) (e - 1))) - (A x - B x)<=18:=by
 by_cases hd:e=x+1
 ·have hm:mn (x+1) (e - 1)=x:=by
   have:=qdy (x+1) (e - 1)
   unfold mn at *
   lia
  rw[hm]
  lia
 ·have hm:mn (x+1) (e - 1)=x+1:=by
   have:=qdy (x+1) (e - 1)
   unfold mn at *
   lia
  rw[hm];have s1:=a.small hn hl9 (d:=x+1) λz=>h _ (1:) (1:) (List.mem_append_left _ (qbb hL z));have s2:=b.small hn hm9 (d:=x+1) λz=>h _ (1:) (1:) (List.mem_append_right _ (qbb hM z));rw[show x+1 - 1=x by lia]at s1 s2
  lia
def chg(w:Bool)(n:Int)(L M:List Pa)(A B:Int->Int):List Pr:=spr (chF (λd=>A d - B d) (Yb w n L M))
def qlc(hL:PcOk L)(hM:PcOk M)(a:Cnt w n (pf L) A)(b:Cnt w n (pf M) B)(hn:1<=n):Spr (chg w n L M A B)/\∀d,Day (chg w n L M A B) d↔A d≠B d:=by
 let(h1,h2):=qgh (D:=λd=>A d - B d) (P:=λx=>x∈edF w n L++edF w n M) (λx e _ hx h d d1 d2=>qfs hL hM a b hn x e hx h d d1 d2) (Yb w n L M) (qlb _) (λx hx=>(Zt _ x).mp hx) λx hx _=>(Zt _ x).mpr hx;refine{qdk h1,λd=>?_}
 have e:Day (chg w n L M A B) d↔Day (chF (λd=>A d - B d) (Yb w n L M)) d:=by
  have:=qh1 h1 d
  rw[<-z7,<-z7];unfold chg;rw[this]
 rw[e,h2];constructor
 ·exactλz q=>z.2 (1:)
 ·intro z;refine{{?_,?_},λq=>z (1:)}
  ·refine Decidable.byContradiction λq=>z ?_
   have q':∀e∈edF w n L++edF w n M,d < e:=λe he=>by
    have:=λhle=>q ⟨e,(Zt _ e).mpr he,hle⟩
    lia
   rw[qgf hL a hn λe he=>q' e (List.mem_append_left _ he),qgf hM b hn λe he=>q' e (List.mem_append_right _ he)]
  ·refine Decidable.byContradiction λq=>z ?_
   have q':∀e∈edF w n L++edF w n M,e<=d:=λe he=>by
    have:=λhle=>q ⟨e,(Zt _ e).mpr he,hle⟩
    lia
   rw[qgg hL a hn λe he=>q' e (List.mem_append_left _ he),qgg hM b hn λe he=>q' e (List.mem_append_right _ he)]
end
def jc:Nat×Nat×Ss:=(3,3,%[.ret (.call "pieces_among" %[0,1,.call "stays_of" %[2|0]|0])|0])
def Yx:Nat×Nat×Ss:=(4,4,%[.ret (.call "count_among" %[.idx (.met (.var 0) "rules" .nil) (.var 1),.call "pieces_of" %[0,1,2|0],3|0])|0])
class PO(pg:Pg):Prop where
 r_pieces_of:RW pg "pieces_of" jc
 r_count_of:RW pg "count_of" Yx
noncomputable abbrev yr:Ss:=%[.app 2 (.var 3),.app 2 (.bin .Add (.var 4) (.con (.int 1))),.ite (.val (.isc "Since" (.var 0))) %[.app 2 (.bin .Add (.var 4) (.fld (.var 0) "leave"))|0] .nil|0]
def jy:Ss:=yr
def jP:USs jy yr:=λ_ _ _ _=>(rfl)
def Yy:Nat×Nat×Ss:=(2,6,%[.set 2 (.call "turns_of" %[0,1|0]),.for_ (.many [3,4,5]) (.seq (.var 1)) jy,.ret (.var 2)|0])
def yS:Nat×Nat×Ss:=(4,4,%[.ret (.bin .Sub (.call "count_among" %[0,1,3|0]) (.call "count_among" %[0,2,3|0]))|0])
def qN:Nat×Nat×Ss:=(5,8,%[.set 5 (.call "difference" %[0,1,2,3|0]),.set 6 (.bin .Sub (.call "difference" %[0,1,2,.b2 .min (.bin .Add (.var 3) (.con (.int 1))) (.var 4)|0]) (.var 5)),.ite (.cmp .Eq (.var 6) (.con (.int 0))) %[.ret (.ite (.cmp .Eq (.var 5) (.con (.int 0))) (.lst .nil) (.lst %[.tup %[3,4|0]|0]))|0] .nil,.ite (.cmp .NotEq (.bin .Mod (.var 5) (.var 6)) (.con (.int 0))) %[.ret (.lst %[.tup %[3,4|0]|0])|0] .nil,.set 7 (.bin .Sub (.var 3) (.bin .FloorDiv (.var 5) (.var 6))),.ret (.call "less" %[.lst %[.tup %[3,4|0]|0],.lst %[.tup %[7,7|0]|0]|0])|0])
noncomputable abbrev zQ:Ss:=%[.ext 8 (.call "unlike_days" %[4,5,6,9,.bin .Sub (.var 10) (.con (.int 1))|0])|0]
def ze:Ss:=zQ
def yt:USs ze zQ:=λ_ _ _ _=>(rfl)
def jQ:Nat×Nat×Ss:=(4,11,%[.set 4 (.idx (.met (.var 0) "rules" .nil) (.var 1)),.set 5 (.call "pieces_of" %[0,1,2|0]),.set 6 (.call "pieces_of" %[0,1,3|0]),.set 7 (.b1 .sst (.bin .Add (.call "edges_of" %[4,5|0]) (.call "edges_of" %[4,6|0]))),.set 8 (.lst .nil),.for_ (.many [9,10]) (.zip (.var 7) (.sli (.var 7) (.some (.con (.int 1))) .none)) ze,.ret (.call "spread" %[8|0])|0])
class CD(pg:Pg):Prop where
 r_turns_of:RW pg "turns_of" yH
 r_edges_of:RW pg "edges_of" Yy
 r_difference:RW pg "difference" yS
 r_unlike_days:RW pg "unlike_days" qN
 r_changed_days:RW pg "changed_days" jQ
end DG
namespace FZ
open PySem DE DG Dy FA
open L2 hiding St
open RU
def p6:(10:Int) ^ (6:Int).toNat=1000000:=by decide
def wd(g:Bool):Int:=if g=true then 4000030 else 21
end FZ
namespace DG
open PySem DE FA Dy
open L2 hiding St
open CH ST SP RU BO BT PC SU PO
section
variable{pg:Pg}[CH pg][ST pg][RU pg][BO pg][SP pg][BT pg][PC pg][SU pg][PO pg]
def qaj(k:Nat)(b:Bool)(rs:List Ru)(ps:List Pa)(hp:ps.length<=18)(n:Nat)(r:Ru)(hn:rs[n]?=some r)(hr:∀p∈r.lands,LnOk p)(hlf:(lift n ps).length<=20)(st:List St)(hs:∀s∈st,NameOk s.1)(hc:Ch (-1) st)(hl:st.length<=60) :
  clK pg (k+6) "pieces_of" [.val (bkI rs ps),.val (.int (n:Int)),aL b (st.map stD)]=.ok (.tmp ((J2 st (r,lift n ps)).map paD)):=by
 have s:=qa0 (pg:=pg) k b st hc hl;have p:clK pg (k+5) "pieces_among" [.val (bkI rs ps),.val (.int (n:Int)),.val (.lst (st.map stD))]=.ok (.tmp ((J2 st (r,lift n ps)).map paD)):=Zq (pg:=pg) (k+2) false rs ps hp n r hn hr hlf st hs (by omega);rw[r_pieces_of];simp?![jc,s,p]
def Yz(k:Nat)(b:Bool)(rs:List Ru)(ps:List Pa)(hp:ps.length<=18)(n:Nat)(r:Ru)(hn:rs[n]?=some r)(hr:∀p∈r.lands,LnOk p)(hlf:(lift n ps).length<=20)(st:List St)(hs:∀s∈st,NameOk s.1)(hc:Ch (-1) st)(hl:st.length<=60)(hw:WOk (J2 st (r,lift n ps)))(d:Int) :
  clK pg (k+7) "count_of" [.val (bkI rs ps),.val (.int (n:Int)),aL b (st.map stD),.val (.int d)]=.ok (.val (.int (qw r (J2 st (r,lift n ps)) d))):=by
 have a:=Qa (pg:=pg) (k+5) rs ps;have e:=qaf hn;have p:=qaj (pg:=pg) k b rs ps hp n r hn hr hlf st hs hc hl;have c:clK pg (k+6) "count_among" [.val (ruI r),.val (.lst ((J2 st (r,lift n ps)).map paD)),.val (.int d)]=.ok (.val (.int (qw r (J2 st (r,lift n ps)) d))):=ja (pg:=pg) (k+3) false r _ hw d;rw[r_count_of];simp?![Yx,RU.cs,Y9,a,e,p,c]
end
open CD
class PU(pg:Pg):Prop where
 r_pieces_of:RW pg "pieces_of" jc
instance {pg:Pg}[PO pg]:PU pg:=⟨PO.r_pieces_of⟩
theorem Zu(s:Int):∀l:List Pa,jx s l=l.flatMap λp=>[p.1+s,p.2.1+1+s]
 |[]=>rfl
 | p::l=>by rw[jx,Zu s l];rfl
def qft(r:Ru)(l:List Pa):yo r l=tuF r.kd.isW r.days l:=by unfold yo tuF;rw[Zu]
section
variable{pg:Pg}[CH pg][ST pg][RU pg][BO pg][SP pg][BT pg][PC pg][SU pg][PU pg][CD pg]
def yT(k:Nat)(b:Bool)(rs:List Ru)(ps:List Pa)(hp:ps.length<=18)(n:Nat)(r:Ru)(hn:rs[n]?=some r)(hr:∀p∈r.lands,LnOk p)(hlf:(lift n ps).length<=20)(st:List St)(hs:∀s∈st,NameOk s.1)(hc:Ch (-1) st)(hl:st.length<=60) :
  clK pg (k+6) "pieces_of" [.val (bkI rs ps),.val (.int (n:Int)),aL b (st.map stD)]=.ok (.tmp ((J2 st (r,lift n ps)).map paD)):=by
 have s:=qa0 (pg:=pg) k b st hc hl;have p:clK pg (k+5) "pieces_among" [.val (bkI rs ps),.val (.int (n:Int)),.val (.lst (st.map stD))]=.ok (.tmp ((J2 st (r,lift n ps)).map paD)):=Zq (pg:=pg) (k+2) false rs ps hp n r hn hr hlf st hs (1:);rw[PU.r_pieces_of];simp?![jc,s,p]
def peF(w:Bool)(n:Int)(p:Pa):List Int:=[p.1,p.2.1+1]++(if w=true then [] else [p.2.1+n])
theorem YA(cl:Cl){xx:Xs}(hcs:cl.cs=pcs xx)(v1:Sl)(r:Ru):∀(l:List Pa) (acc:List Int) (s3 s4 s5:Sl),acc.length+3 * l.length < 10000->
  ∃N',jT cl 1000 (.many [3,4,5]) jy (l.map paD) [.val (ruI r),v1,.own (acc.map D.int),s3,s4,s5]=.ok (.next (.val (ruI r)::v1::.own ((acc++l.flatMap (peF r.kd.isW r.days)).map D.int)::N'))
 |[],acc,s3,s4,s5,_=>{[s3,s4,s5],by simp[qM]}
 | p::l,acc,s3,s4,s5,hl=>by
  rw[List.length_cons]at hl;let(N',ih):=YA cl hcs v1 r l (acc++peF r.kd.isW r.days p) (.val (.int p.1)) (.val (.int p.2.1)) (.val (.int p.2.2)) (by unfold peF;split<;>simp<;>lia);refine{N',?_};rw[List.flatMap_cons,<-List.append_assoc];have hs:(acc.map D.int).length < sizeLine:=by rw[List.length_map];exact qJ (1:)
  have hs2:(acc.map D.int++[D.int p.1]).length < sizeLine:=by simp;exact qJ (1:)
  have hs3:(acc.map D.int++[D.int p.1]++[D.int (p.2.1+1)]).length < sizeLine:=by simp;exact qJ (1:)
  have ic:=qfk (xx:=xx) r;rw[List.map_append (l₁:=acc)]at ih
  cases hk:r.kd.isW with
  |true=>rw[hk]at ic ih;have e:(peF true r.days p).map D.int=[D.int p.1]++[D.int (p.2.1+1)]:=rfl;rw[e,<-List.append_assoc]at ih;rw[List.map_cons];simp?[jP,jh,hcs,ic,hs,hs2,ih]
  |false=>rw[hk]at ic ih;have e:(peF false r.days p).map D.int=[D.int p.1]++[D.int (p.2.1+1)]++[D.int (p.2.1+r.days)]:=rfl;rw[e,<-List.append_assoc,<-List.append_assoc]at ih;rw[List.map_cons];simp?[jP,jh,hcs,ic,qa4 r hk,hs,hs2,hs3,ih]
theorem qak(k:Nat)(b:Bool)(r:Ru)(l:List Pa)(hl:l.length < 4000):clK pg (k+1) "turns_of" [.val (ruI r),aL b (l.map paD)]=.ok (.tmp ((yo r l).map D.int)):=by
 have iw:=Zm (xx:=pg.xx) r;rw[CD.r_turns_of];unfold yo
 cases hk:r.kd.isW with
 |true=>rw[hk]at iw;let(N',e):=Yv (pg.kk k) (RU.cs (pg:=pg)) (pS b (l.map paD)) r hk l [] .no .no .no (by simp;lia);rw[List.map_nil,List.nil_append]at e;simp?![yH,RU.cs,iw,show(0:Nat)<=sizeLine by decide+kernel,e]
 |false=>rw[hk]at iw;simp?![yH,RU.cs,iw,show(0:Nat)<=sizeLine by decide+kernel]
def YB(k:Nat)(r:Ru)(l:List Pa)(hl:l.length < 1000):clK pg (k+2) "edges_of" [.val (ruI r),.bor (l.map paD)]=.ok (.tmp ((edF r.kd.isW r.days l).map D.int)):=by
 have t:=qak (pg:=pg) k true r l (1:)
 have tl:(yo r l).length<=2 * l.length:=by
  unfold yo;split
  ·rw[Yw];exact Nat.le_refl _
  ·simp
 let(N',e):=YA (pg.kk (k+1)) (RU.cs (pg:=pg)) (.bor (l.map paD)) r l (yo r l) .no .no .no (1:);have t:clK pg (k+1) "turns_of" [.val (ruI r),.bor (l.map paD)]=.ok (.tmp ((yo r l).map D.int)):=t;have z:edF r.kd.isW r.days l=yo r l++l.flatMap (peF r.kd.isW r.days):=by rw[qft];rfl
 rw[r_edges_of,z];simp?![Yy,t,e]
def qdF(k:Nat)(r:Ru)(l m:List Pa)(hl:WOk l)(hm:WOk m)(d:Int):clK pg (k+4) "difference" [.val (ruI r),.bor (l.map paD),.bor (m.map paD),.val (.int d)]=.ok (.val (.int (qw r l d - qw r m d))):=by have a:clK pg (k+3) "count_among" [.val (ruI r),.bor (l.map paD),.val (.int d)]=.ok (.val (.int (qw r l d))):=ja (pg:=pg) k true r l hl d;have b:clK pg (k+3) "count_among" [.val (ruI r),.bor (m.map paD),.val (.int d)]=.ok (.val (.int (qw r m d))):=ja (pg:=pg) k true r m hm d;rw[r_difference];simp?![yS,a,b]
def qdG(k:Nat)(r:Ru)(l m:List Pa)(hl:WOk l)(hm:WOk m)(b e:Int)(hg:-18<=(qw r l (mn (b+1) e) - qw r m (mn (b+1) e)) - (qw r l b - qw r m b)/\(qw r l (mn (b+1) e) - qw r m (mn (b+1) e)) - (qw r l b - qw r m b)<=18) :
  clK pg (k+5) "unlike_days" [.val (ruI r),.bor (l.map paD),.bor (m.map paD),.val (.int b),.val (.int e)]=.ok (.tmp ((ulF (qw r l b - qw r m b) ((qw r l (mn (b+1) e) - qw r m (mn (b+1) e)) - (qw r l b - qw r m b)) b e).map pD)):=by
 have d1:=qdF (pg:=pg) k r l m hl hm b;have d2:=qdF (pg:=pg) k r l m hl hm (mn (b+1) e);rw[r_unlike_days];generalize (qw r l b - qw r m b)=a at *;generalize (qw r l (mn (b+1) e) - qw r m (mn (b+1) e))=c at *;have mnr:(if e < b+1 then e else b+1)=mn (b+1) e:=rfl;have z0:(0:Nat)<=sizeLine:=(3:)
 have z1:0+1<=sizeLine:=(3:)
 have z2:0+1+1<=sizeLine:=(3:)
 have lg:=λ(p q:Int)=>qdw (pg:=pg) (k+2) false (b,e) [(p,q)] (5:);have lg:∀p q:Int,clK pg (k+4) "less" [.val (.lst [.tup [.int b,.int e]]),.val (.lst [.tup [.int p,.int q]])]=.ok (.tmp ((jH (b,e) [(p,q)]).map pD)):=lg;have q0:eqD (.int (c - a)) (.int 0)=some (c - a == 0):=qI ..;have q1:eqD (.int a) (.int 0)=some (a == 0):=qI ..;unfold ulF;generalize hc:c - a=g at *
 by_cases g0:g=0
 ·have q0:eqD (.int g) (.int 0)=some true:=by rw[q0,g0];rfl
  rw[if_pos g0]
  by_cases a0:a=0
  ·have q1:eqD (.int a) (.int 0)=some true:=by rw[q1,a0];rfl
   rw[if_pos a0];simp?![qN,d1,d2,mnr,hc,q0,q1,z0,List.map_nil]
  ·have q1:eqD (.int a) (.int 0)=some false:=by rw[q1];simp[a0]
   rw[if_neg a0];simp?![qN,d1,d2,mnr,hc,q0,q1,z0,z1,z2,z8,List.map_cons,List.map_nil]
 ·have q0:eqD (.int g) (.int 0)=some false:=by rw[q0];simp[g0]
  rw[if_neg g0]
  have md:ZI .Mod (.val (.int a)) (.val (.int g))=.ok (.val (.int (a.fmod g))):=by
   rw[bMod]
   by_cases gp:0 < g
   ·rw[if_pos gp,Int.fmod_eq_emod_of_nonneg a (1:)]
   ·rw[if_neg gp,if_pos (1:)]
  have dv:ZI .FloorDiv (.val (.int a)) (.val (.int g))=.ok (.val (.int (a.fdiv g))):=by
   rw[bDiv]
   by_cases gp:0 < g
   ·rw[if_pos ⟨gp,by lia⟩,Int.fdiv_eq_ediv_of_nonneg a (1:)]
   ·rw[if_neg (λz=>gp z.1),if_pos ⟨by lia,by lia⟩]
  have q2:eqD (.int (a.fmod g)) (.int 0)=some (a.fmod g == 0):=qI ..
  by_cases m0:a.fmod g=0
  ·have q2:eqD (.int (a.fmod g)) (.int 0)=some true:=by rw[q2,m0];rfl
   rw[if_neg (not_not_intro m0)];simp?![qN,d1,d2,mnr,hc,q0,↓md,↓dv,q2,z0,z1,z2,lg]
  ·have q2:eqD (.int (a.fmod g)) (.int 0)=some false:=by rw[q2];simp[m0]
   rw[if_pos m0];simp?![qN,d1,d2,mnr,hc,q0,↓md,q2,z0,z1,z2,z8,List.map_cons,List.map_nil]
end
def chP(D:Int->Int):List Pr->List Pr
 |[]=>[]
 | p::l=>ulF (D p.1) (D (mn (p.1+1) (p.2 - 1)) - D p.1) p.1 (p.2 - 1)++chP D l
theorem qdH(D:Int->Int):∀es:List Int,chF D es=chP D (es.zip es.tail)
 |[]=>rfl
 |[_]=>rfl
 | b::e::l=>by rw[chF,qdH D (e::l)];rfl
def qgi(a g b e:Int):(ulF a g b e).length<=3:=by
 unfold ulF;split
 ·split<;>simp
 ·split
  ·simp
  ·exact yn (b,e) _
theorem qdI(D:Int->Int):∀l:List Pr,(chP D l).length<=3 * l.length
 |[]=>Nat.le_refl _
 | p::l=>by
  rw[chP,List.length_append,List.length_cons]
  have:=qdI D l
  have:=qgi (D p.1) (D (mn (p.1+1) (p.2 - 1)) - D p.1) p.1 (p.2 - 1)
  lia
def qdJ(w:Bool)(n:Int)(L:List Pa):(edF w n L).length<=5 * L.length:=by
 have a:∀L:List Pa,(tuF w n L).length<=2 * L.length:=λL=>by
  unfold tuF;split
  ·induction L with
   |nil=>simp
   |cons p l ih=>rw[List.flatMap_cons,List.length_append,List.length_cons];simp at ih ⊢;lia
  ·simp
 have b:∀L:List Pa,(L.flatMap λp=>[p.1,p.2.1+1]++(if w=true then [] else [p.2.1+n])).length<=3 * L.length:=λL=>by
  induction L with
  |nil=>simp
  |cons p l ih=>
   rw[List.flatMap_cons,List.length_append,List.length_cons]
   cases w<;>simp at ih ⊢<;>lia
 unfold edF;rw[List.length_append]
 have:=a L
 have:=b L
 lia
theorem qdK:∀l:List Int,(ddI l).length<=l.length
 |[]=>Nat.le_refl _
 | a::l=>by
  rw[ddI]
  have:=qdK l
  split<;>simp<;>lia
def qh8(l:List Int):(sdI l).length<=l.length:=by unfold sdI;rw[List.length_mergeSort];exact qdK l
def qgj{L:List Pa}(hL:PcOk L)(x:Int):pf L x<=9:=by
 by_cases h:pf L x=0
 ·rw[h];decide
 ·let(p,hp,hi):=qfp h;rw[jb hL hp hi];exact(hL.ok p hp).2.2
theorem qbc:∀(es:List Int),es.Pairwise (· < ·)->∀p∈es.zip es.tail,p.1 < p.2/\∀x∈es,¬ (p.1 < x/\x < p.2)
 |[],_,p,hp=>by cases hp
 |[_],_,p,hp=>by cases hp
 | a::b::l,h,p,hp=>by
  rw[List.pairwise_cons]at h;rcases List.mem_cons.mp hp with rfl|hq
  ·refine{h.1 b (5:),λx hx=>?_};rcases List.mem_cons.mp hx with rfl|hx
   ·dsimp only;lia
   ·rcases List.mem_cons.mp hx with rfl|hx
    ·dsimp only;lia
    ·have:=(List.pairwise_cons.mp h.2).1 x hx
     dsimp only
     lia
  ·let(i1,i2):=qbc (b::l) h.2 p hq;refine{i1,λx hx=>?_};rcases List.mem_cons.mp hx with rfl|hx
   ·have:=h.1 p.1 (List.of_mem_zip (show(p.1,p.2)∈(b::l).zip l from hq)).1
    lia
   ·exact i2 x hx
section
variable{pg:Pg}[CH pg][ST pg][RU pg][BO pg][SP pg][BT pg][PC pg][SU pg][PU pg][CD pg]
theorem yU(k:Nat)(r:Ru)(l m:List Pa)(hl:WOk l)(hm:WOk m)(v0 v1 v2 v3 v7:Sl):∀(ps acc:List Pr) (s9 s10:Sl),acc.length+3 * ps.length < 10000->
  (∀p∈ps,-18<=(qw r l (mn (p.1+1) (p.2 - 1)) - qw r m (mn (p.1+1) (p.2 - 1))) - (qw r l p.1 - qw r m p.1)/\(qw r l (mn (p.1+1) (p.2 - 1)) - qw r m (mn (p.1+1) (p.2 - 1))) - (qw r l p.1 - qw r m p.1)<=18)->
  ∃s9' s10',jT (pg.kk (k+5)) 1000 (.many [9,10]) ze (ps.map pD) [v0,v1,v2,v3,.val (ruI r),.own (l.map paD),.own (m.map paD),v7,.own (acc.map pD),s9,s10]=.ok (.next [v0,v1,v2,v3,.val (ruI r),.own (l.map paD),.own (m.map paD),v7,.own ((acc++chP (λd=>qw r l d - qw r m d) ps).map pD),s9',s10'])
 |[],acc,s9,s10,_,_=>{s9,s10,by simp[qM,chP]}
 | p::ps,acc,s9,s10,hl',hg=>by
  rw[List.length_cons]at hl';have u:=qdG (pg:=pg) k r l m hl hm p.1 (p.2 - 1) (hg p (5:));have ul:=qgi (qw r l p.1 - qw r m p.1) ((qw r l (mn (p.1+1) (p.2 - 1)) - qw r m (mn (p.1+1) (p.2 - 1))) - (qw r l p.1 - qw r m p.1)) p.1 (p.2 - 1);rw[chP];generalize ulF (qw r l p.1 - qw r m p.1) ((qw r l (mn (p.1+1) (p.2 - 1)) - qw r m (mn (p.1+1) (p.2 - 1))) - (qw r l p.1 - qw r m p.1)) p.1 (p.2 - 1)=U at u ul;let(s9',s10',ih):=yU k r l m hl hm v0 v1 v2 v3 v7 ps (acc++U) (.val (.int p.1)) (.val (.int p.2)) (by simp;lia) λq hq=>hg q (by simp[hq]);refine{s9',s10',?_};rw[<-List.append_assoc];rw[List.map_append (l₁:=acc) (l₂:=U)]at ih;have hs:(acc.map pD).length+(U.map pD).length<=sizeLine:=by rw[List.length_map,List.length_map];exact z9 (1:)
  rw[List.map_cons];simp?[yt,z8,u,hs,ih]
def qbU(k:Nat)(b1 b2:Bool)(rs:List Ru)(ps:List Pa)(hp:ps.length<=18)(n:Nat)(r:Ru)(hn:rs[n]?=some r)(h1:1<=r.days)(hr:∀p∈r.lands,LnOk p)(hlf:(lift n ps).length<=20)(sa sb:List St)(na:∀s∈sa,NameOk s.1)(nb:∀s∈sb,NameOk s.1)(ca:Ch (-1) sa)(cb:Ch (-1) sb)(la:sa.length<=60)(lb:sb.length<=60)
  (pa:PcOk (J2 sa (r,lift n ps))) (pb:PcOk (J2 sb (r,lift n ps))) (hl:(J2 sa (r,lift n ps)).length+(J2 sb (r,lift n ps)).length<=200) :
  clK pg (k+8) "changed_days" [.val (bkI rs ps),.val (.int (n:Int)),aL b1 (sa.map stD),aL b2 (sb.map stD)]=.ok (.tmp ((chg r.kd.isW r.days (J2 sa (r,lift n ps)) (J2 sb (r,lift n ps)) (qw r (J2 sa (r,lift n ps))) (qw r (J2 sb (r,lift n ps)))).map pD)):=by
 have a:=Qa (pg:=pg) (k+6) rs ps;have e:=qaf hn;have p1:=yT (pg:=pg) (k+1) b1 rs ps hp n r hn hr hlf sa na ca la;have p2:=yT (pg:=pg) (k+1) b2 rs ps hp n r hn hr hlf sb nb cb lb;generalize J2 sa (r,lift n ps)=L at *;generalize J2 sb (r,lift n ps)=M at *;have e1:=YB (pg:=pg) (k+5) r L (1:);have e2:=YB (pg:=pg) (k+5) r M (1:);have l1:=qdJ r.kd.isW r.days L;have l2:=qdJ r.kd.isW r.days M;have cA:=qdC h1 pa;have cB:=qdC h1 pb;have up:=qlb (edF r.kd.isW r.days L++edF r.kd.isW r.days M);have ls:=qh8 (edF r.kd.isW r.days L++edF r.kd.isW r.days M);rw[List.length_append]at ls;have s0:(edF r.kd.isW r.days L).length+(edF r.kd.isW r.days M).length<=sizeLine:=z9 (1:);have s1:((edF r.kd.isW r.days L).map D.int).length+((edF r.kd.isW r.days M).map D.int).length<=sizeLine:=by rw[List.length_map,List.length_map];exact s0
 have ss:qjx (.tmp ((edF r.kd.isW r.days L).map D.int++(edF r.kd.isW r.days M).map D.int))=.ok (.tmp ((Yb r.kd.isW r.days L M).map D.int)):=by rw[<-List.map_append];unfold qjx;simp?![qa5,if_pos (show(edF r.kd.isW r.days L++edF r.kd.isW r.days M).length < 4000 by rw[List.length_append];lia),Yb]
 have sm:=Zt (edF r.kd.isW r.days L++edF r.kd.isW r.days M)
 have hg:∀p∈(Yb r.kd.isW r.days L M).zip (Yb r.kd.isW r.days L M).tail,-18<=(qw r L (mn (p.1+1) (p.2 - 1)) - qw r M (mn (p.1+1) (p.2 - 1))) - (qw r L p.1 - qw r M p.1)/\(qw r L (mn (p.1+1) (p.2 - 1)) - qw r M (mn (p.1+1) (p.2 - 1))) - (qw r L p.1 - qw r M p.1)<=18:=by intro p hp;let(i1,i2):=qbc _ up p hp;exact qdE pa pb cA cB h1 (qgj pa) (qgj pb) p.1 p.2 i1 λy y1 y2 hy=>i2 y ((sm y).mpr hy) ⟨y1,y2⟩
 have zl:((Yb r.kd.isW r.days L M).zip (Yb r.kd.isW r.days L M).tail).length<=1000:=by
  rw[List.length_zip]
  have:(Yb r.kd.isW r.days L M).length<=1000:=by unfold Yb;lia
  lia
 have cl:=qdI (λd=>qw r L d - qw r M d) ((Yb r.kd.isW r.days L M).zip (Yb r.kd.isW r.days L M).tail);let(s9,s10,lp):=yU (pg:=pg) (k+2) r L M pa.w pb.w (.val (bkI rs ps)) (.val (.int (n:Int))) (pS b1 (sa.map stD)) (pS b2 (sb.map stD)) (.val (.lst ((Yb r.kd.isW r.days L M).map D.int))) _ [] .no .no (by rw[List.length_nil];lia) hg;rw[List.map_nil,List.nil_append]at lp;have sp:clK pg (k+7) "spread" [.bor ((chP (λd=>qw r L d - qw r M d) ((Yb r.kd.isW r.days L M).zip (Yb r.kd.isW r.days L M).tail)).map pD)]=.ok (.tmp ((spr (chP (λd=>qw r L d - qw r M d) ((Yb r.kd.isW r.days L M).zip (Yb r.kd.isW r.days L M).tail))).map pD)):=Zk (pg:=pg) (k+6) true _ (1:);have z0:(0:Nat)<=sizeLine:=(3:)
 have ct:ZJ ((Yb r.kd.isW r.days L M).map D.int) (some 1) none=(Yb r.kd.isW r.days L M).tail.map D.int:=by
  cases Yb r.kd.isW r.days L M with
  |nil=>rfl
  |cons x l=>exact qh7 _ _
 unfold chg;rw[qdH];rw[r_changed_days];simp?![jQ,RU.cs,Y9,a,e,p1,p2,e1,e2,s1,ss,z0,ct,qgb,lp,sp]
end
end DG
namespace K62
open PySem L2 DE DG FA
def top(i:Nat):Stmt:=PySem.Challenge.pw_daysgate_k62_whole_changed_by_great_numb.main.body.getD i (.Pass ⟨0,0,0,0⟩)
def mem(i j:Nat):Stmt:=(qgJ (top i)).getD j (.Pass ⟨0,0,0,0⟩)
def pg:Pg:={ defs:=[(("is_whole" : Str),top 5),(("is_between" : Str),top 6),(("are_days" : Str),top 7),(("is_made_of" : Str),top 8),(("is_name" : Str),top 9),(("spread" : Str),top 11),(("both" : Str),top 12),(("outside" : Str),top 13),(("less" : Str),top 14),(("is_land" : Str),top 23),(("are_lands" : Str),top 24),(("is_stay" : Str),top 31),(("stays_of" : Str),top 32),(("pieces_among" : Str),top 34),(("pieces_of" : Str),top 35),(("sum_of" : Str),top 36),(("first_since" : Str),top 37),(("first_of_window" : Str),top 38),(("count_among" : Str),top 39),(("count_of" : Str),top 40),(("turns_of" : Str),top 41),(("edges_of" : Str),top 43),(("difference" : Str),top 44),(("unlike_days" : Str),top 45),(("changed_days" : Str),top 46),(("are_rules" : Str),top 50),(("is_paper" : Str),top 51),(("check_papers" : Str),top 52),(("_law_cell_at" : Str),top 55),(("_law_lands" : Str),top 56),(("_law_rule" : Str),top 57),(("_law_long" : Str),top 58),(("_law_stays" : Str),top 59),(("_law_paper" : Str),top 60),(("_law_same" : Str),top 61),(("_law_right" : Str),top 62),(("law" : Str),top 63)],gl:=λx=>if x = "GREATEST" then some (.int 1000000000) else if x = "LETTERS" then some (.str "abcdefghijklmnopqrstuvwxyz") else if x = "LONGEST_NAME" then some (.int 8) else if x = "MOST_LANDS" then some (.int 6) else if x = "GREATEST_WEIGHT" then some (.int 9) else if x = "MOST_STAYS" then some (.int 60) else if x = "MOST_RULES" then some (.int 8) else if x = "MOST_PAPERS" then some (.int 12) else none,m:=40,w:=1000,meths:=[("Rule.weight",mem 25 1),("Book.rules",mem 53 1),("Book.papers",mem 53 2),("Book.lifted",mem 53 3)],cs:=pcs,nw:=pnw }
instance:DG.CH pg:={%[5|1],%[6|1],%[7|1],%[8|1],%[9|1]}
instance:DG.ST pg:={%[31|1],%[32|1]}
instance:DG.SP pg:={%[11|1]}
instance:DG.RU pg:={rfl,rfl,%[23|1],%[24|1],qo (pg:=pg) (st:=mem 25 1) (4:) (λk cl=>(4:))}
instance:DG.BO pg:={%[50|1],%[51|1],%[52|1],qo (pg:=pg) (st:=mem 53 1) (4:) (λk cl=>(4:)),qo (pg:=pg) (st:=mem 53 2) (4:) (λk cl=>(4:)),qo (pg:=pg) (st:=mem 53 3) (4:) (λk cl=>(4:))}
instance:FA.LC pg:={%[55|1]}
instance:FA.LN pg:={%[56|1]}
instance:DG.BT pg:={%[12|1],%[13|1],%[14|1]}
instance:DG.PC pg:={%[34|1]}
instance:DG.SU pg:={%[36|1],%[37|1],%[38|1],%[39|1]}
instance:DG.PO pg:={%[35|1],%[40|1]}
instance:DG.CD pg:={%[41|1],%[43|1],%[44|1],%[45|1],%[46|1]}
noncomputable abbrev jR:Ss:=%[.app 3 (.tup %[.idx (.var 1) (.bin .Mod (.bin .Add (.bin .FloorDiv (.var 2) (.con (.int 18))) (.var 4)) (.b1 .len (.var 1))),.bin .Add (.con (.int 1)) (.bin .Mod (.bin .FloorDiv (.bin .FloorDiv (.var 2) (.con (.int 108))) (.bin .Add (.var 4) (.con (.int 1)))) (.idx (.lst %[.con (.int 9),.con (.int 2),.con (.int 2)|0]) (.bin .Mod (.bin .Add (.var 2) (.var 4)) (.con (.int 3)))))|0])|0]
def jd:Ss:=jR
def JY:USs jd jR:=λ_ _ _ _=>(rfl)
def je:Nat×Nat×Ss:=(2,6,%[.set 2 (.bin .Mod (.bin .Mult (.var 0) (.con (.int 1099087573))) (.con (.int 10000000000037))),.set 3 (.lst .nil),.for_ (.one 4) (.rng (.bin .Add (.con (.int 1)) (.bin .Mod (.bin .FloorDiv (.var 2) (.con (.int 3))) (.b1 .len (.var 1))))) jd,.set 5 (.bin .Add (.con (.int 1)) (.bin .Mod (.bin .FloorDiv (.var 2) (.con (.int 24300))) (.idx (.lst %[.con (.int 60),.con (.int 60),.bin .Pow (.con (.int 10)) (.con (.int 7))|0]) (.bin .Mod (.bin .FloorDiv (.var 2) (.con (.int 5))) (.con (.int 3)))))),.ite (.cmp .Eq (.bin .Mod (.var 2) (.con (.int 3))) (.con (.int 0))) %[.ret (.new "Within" %[3,.con (.int 9),5|0])|0] .nil,.ite (.cmp .Eq (.bin .Mod (.var 2) (.con (.int 3))) (.con (.int 1))) %[.ret (.new "Since" %[3,.con (.int 9),5|0])|0] .nil,.ret (.new "InRow" %[3,.con (.int 9)|0])|0])
def jY:RW pg "_law_rule" je:=%[57|1]
def jZ:Nat×Nat×Ss:=(1,1,%[.ite (.cmp .Eq (.bin .Mod (.var 0) (.con (.int 3))) (.con (.int 0))) %[.ret (.bin .Mod (.bin .FloorDiv (.var 0) (.con (.int 3))) (.bin .Pow (.con (.int 10)) (.con (.int 6))))|0] .nil,.ret (.bin .Mod (.bin .FloorDiv (.var 0) (.con (.int 3))) (.con (.int 30)))|0])
def qal:RW pg "_law_long" jZ:=%[58|1]
noncomputable abbrev jz:Ss:=%[.set 5 (.bin .Mod (.bin .Mult (.var 4) (.con (.int 1099087573))) (.con (.int 10000000000037))),.set 6 (.bin .Add (.var 3) (.call "_law_long" %[.bin .FloorDiv (.var 5) (.con (.int 4))|0])),.set 7 (.bin .Add (.var 6) (.call "_law_long" %[.bin .FloorDiv (.var 5) (.con (.int 4096))|0])),.app 2 (.tup %[.idx (.var 1) (.bin .Mod (.var 5) (.b1 .len (.var 1))),6,7|0]),.set 3 (.bin .Add (.var 7) (.con (.int 1)))|0]
def zy:Ss:=jz
def Jc:USs zy jz:=λ_ _ _ _=>(rfl)
def yV:Nat×Nat×Ss:=(2,8,%[.set 2 (.lst .nil),.set 3 (.con (.int 0)),.for_ (.one 4) (.seq (.var 0)) zy,.ret (.var 2)|0])
def Zv:RW pg "_law_stays" yV:=%[59|1]
def yW:Nat×Nat×Ss:=(2,4,%[.set 2 (.bin .Mod (.bin .Mult (.var 0) (.con (.int 982451653))) (.con (.int 10000000000037))),.set 3 (.call "_law_long" %[.bin .FloorDiv (.var 2) (.con (.int 8))|0]),.ret (.tup %[.bin .Mod (.var 2) (.var 1),3,.bin .Add (.var 3) (.call "_law_long" %[.bin .FloorDiv (.var 2) (.con (.int 4096))|0])|0])|0])
def Zw:RW pg "_law_paper" yW:=%[60|1]
def JZ:Nat×Nat×Ss:=(5,5,%[.ret (.cmp .Eq (.call "count_of" %[0,1,2,4|0]) (.call "count_of" %[0,1,3,4|0]))|0])
def qam:RW pg "_law_same" JZ:=%[61|1]
noncomputable abbrev jA:Ss:=%[.ite (.not (.val (.call "_law_same" %[0,1,2,3,8|0]))) %[.ret (.con (.bl false))|0] .nil|0]
def zA:Ss:=jA
def Jd:USs zA jA:=λ_ _ _ _=>(rfl)
noncomputable abbrev jB:Ss:=%[.ite (.val (.call "_law_same" %[0,1,2,3,8|0])) %[.ret (.con (.bl false))|0] .nil|0]
def zB:Ss:=jB
def Je:USs zB jB:=λ_ _ _ _=>(rfl)
noncomputable abbrev jC:Ss:=%[.ite (.or (.not (.val (.isi Ty.tuple (.var 7)))) (.or (.cmp .NotEq (.b1 .len (.var 7)) (.con (.int 2))) (.one (.not (.chn .LtE .LtE (.bin .Add (.var 6) (.con (.int 2))) (.idx (.var 7) (.con (.int 0))) (.idx (.var 7) (.con (.int 1)))))))) %[.ret (.con (.bl false))|0] .nil,.for_ (.one 8) (.seq (.lst %[.bin .Add (.var 6) (.con (.int 1)),.bin .Sub (.idx (.var 7) (.con (.int 0))) (.con (.int 1)),.bin .Add (.bin .Add (.var 6) (.con (.int 1))) (.bin .Mod (.var 4) (.bin .Sub (.bin .Sub (.idx (.var 7) (.con (.int 0))) (.var 6)) (.con (.int 1)))),.bin .Add (.idx (.var 7) (.con (.int 1))) (.con (.int 1))|0])) zA,.for_ (.one 8) (.seq (.lst %[.idx (.var 7) (.con (.int 0)),.idx (.var 7) (.con (.int 1)),.bin .Add (.idx (.var 7) (.con (.int 0))) (.bin .Mod (.var 4) (.bin .Add (.bin .Sub (.idx (.var 7) (.con (.int 1))) (.idx (.var 7) (.con (.int 0)))) (.con (.int 1))))|0])) zB,.set 6 (.idx (.var 7) (.con (.int 1)))|0]
def zC:Ss:=jC
def Jf:USs zC jC:=λ_ _ _ _=>(rfl)
def yY:Nat×Nat×Ss:=(5,9,%[.set 5 (.call "changed_days" %[0,1,2,3|0]),.ite (.or (.not (.val (.isi Ty.list (.var 5)))) (.one (.cmp .NotEq (.call "changed_days" %[0,1,3,2|0]) (.var 5)))) %[.ret (.con (.bl false))|0] .nil,.set 6 (.bin .Sub (.neg (.con (.int 7))) (.bin .Mod (.var 4) (.con (.int 100)))),.for_ (.one 7) (.seq (.var 5)) zC,.ret (.and (.call "_law_same" %[0,1,2,3,.bin .Add (.bin .Add (.var 6) (.con (.int 1))) (.var 4)|0]) (.one (.call "_law_same" %[0,1,2,3,.bin .Add (.bin .Pow (.con (.int 10)) (.con (.int 9))) (.var 4)|0])))|0])
def Zx:RW pg "_law_right" yY:=%[62|1]
abbrev qbd:E:=(.call "_law_rule" %[0,1|0])
def Qk:E:=qbd
def qdL:UE Qk qbd:=λ_ _ _=>(rfl)
abbrev qbe:E:=(.call "_law_paper" %[0,.b1 .len (.var 1)|0])
def Ql:E:=qbe
def qdM:UE Ql qbe:=λ_ _ _=>(rfl)
noncomputable abbrev qbf:Ss:=%[.ite (.not (.val (.call "_law_right" %[4,8,5,6,.bin .FloorDiv (.var 2) (.bin .Add (.var 8) (.con (.int 1)))|0]))) %[.ret (.con (.bl false))|0] .nil,.ite (.or (.cmp .NotEq (.call "changed_days" %[4,8,5,5|0]) (.lst .nil)) (.one (.not (.val (.call "_law_same" %[4,8,5,6,.bin .Sub (.neg (.con (.int 1))) (.var 2)|0]))))) %[.ret (.con (.bl false))|0] .nil|0]
def qan:Ss:=qbf
def qdN:USs qan qbf:=λ_ _ _ _=>(rfl)
def qld:Nat×Nat×Ss:=(1,9,%[.set 1 (.call "_law_lands" %[.call "_law_cell_at" %[0,.con (.int 0)|0],.bin .Add (.con (.int 2)) (.bin .Mod (.bin .FloorDiv (.call "_law_cell_at" %[0,.con (.int 0)|0]) (.con (.int 512))) (.con (.int 3)))|0]),.set 3 (.comp Qk (.seq (.bin .Add (.lst %[.call "_law_cell_at" %[0,.con (.int 2)|0]|0]) (.sli (.var 0) (.some (.con (.int 3))) (.some (.con (.int 6)))))) (.one 0) .yes 1 [1]),.set 4 (.new "Book" %[3,.comp Ql (.seq (.sli (.var 0) (.some (.con (.int 6))) (.some (.con (.int 9))))) (.one 0) .yes 1 [3]|0]),.set 5 (.call "_law_stays" %[.stp 2 (.var 0) (.some (.con (.int 9))) (.some (.con (.int 25))),1|0]),.set 6 (.call "_law_stays" %[.stp 2 (.var 0) (.some (.con (.int 10))) (.some (.con (.int 26))),1|0]),.set 2 (.bin .Mod (.bin .Mult (.call "_law_cell_at" %[0,.con (.int 1)|0]) (.con (.int 48271))) (.con (.int 2147483647))),.ite (.and (.cmp .Eq (.bin .Mod (.bin .FloorDiv (.var 2) (.con (.int 7))) (.con (.int 2))) (.con (.int 1))) (.one (.cmp .NotEq (.var 5) (.lst .nil)))) %[.set 7 (.bin .Mod (.bin .FloorDiv (.var 2) (.con (.int 14))) (.b1 .len (.var 5))),.set 6 (.bin .Add (.sli (.var 5) .none (.some (.var 7))) (.sli (.var 5) (.some (.bin .Add (.var 7) (.con (.int 1)))) .none))|0] .nil,.for_ (.one 8) (.rng (.b1 .len (.var 3))) qan,.ret (.con (.bl true))|0])
def qmP:RW pg "law" qld:=%[63|1]
open Dy
open L2 hiding St
theorem Zy(cl:Cl)(v0:Sl)(n:Int)(hn:0<=n)(zs:List Str)(hz:NamesOk zs):∀(m:Nat) (l:List (Str×Int)) (s4 s5:Sl),l.length+m<=100->Lns zs (n / 18) l->
  ∃(l':List (Str×Int)) (s4':Sl),jT cl 1000 (.one 4) jd (rgF (l.length:Int) m) [v0,.bor (zs.map D.str),.val (.int n),.own (l.map lnD),s4,s5]=.ok (.next [v0,.bor (zs.map D.str),.val (.int n),.own (l'.map lnD),s4',s5])/\l'.length=l.length+m/\Lns zs (n / 18) l'
 |0,l,s4,s5,_,h=>⟨l,s4,rfl,rfl,h⟩
 | m+1,l,s4,s5,hl,h=>by
  have hL:(0:Int) < (zs.length:Int):=by have:=hz.two;lia
  let(z,e1,e2):=qa2 (zs:=zs) ((n / 18+(l.length:Int)) % (zs.length:Int)) (Int.emod_nonneg _ (1:)) (Int.emod_lt_of_pos _ hL)
  have h3:∃q:Int,atI [D.int 9,D.int 2,D.int 2] ((n+(l.length:Int)) % 3)=some (.int q)/\2<=q/\q<=9:=by
   have a0:0<=(n+(l.length:Int)) % 3:=Int.emod_nonneg _ (2:);have a1:(n+(l.length:Int)) % 3 < 3:=Int.emod_lt_of_pos _ (2:)
   have:(n+(l.length:Int)) % 3=0\/(n+(l.length:Int)) % 3=1\/(n+(l.length:Int)) % 3=2:=by lia
   rcases this with e|e|e<;>rw[e]
   ·exact{9,rfl,by decide,by decide}
   ·exact{2,rfl,by decide,by decide}
   ·exact{2,rfl,by decide,by decide}
  let(q,e3,q2,q9):=h3;have hq:(0:Int) < q:=by lia
  have w0:0<=n / 108 / ((l.length:Int)+1) % q:=Int.emod_nonneg _ (1:);have w1:n / 108 / ((l.length:Int)+1) % q < q:=Int.emod_lt_of_pos _ hq
  let(l',s4',ih,i1,i2):=Zy cl v0 n hn zs hz m (l++[(z,1+n / 108 / ((l.length:Int)+1) % q)]) (.val (.int (l.length:Int))) s5 (by simp;lia) (λi p hp=>by
   by_cases hi:i < l.length
   ·rw[List.getElem?_append_left hi]at hp;exact h i p hp
   ·rw[List.getElem?_append_right (1:)]at hp;have hlt:=(List.getElem?_eq_some_iff.mp hp).1;simp at hlt;have hi:i=l.length:=by lia
    subst hi;simp at hp;subst hp;exact{e2,hz.ok z (List.mem_of_getElem? e2),by show 1<=1+_;lia,by show 1+_<=9;lia})
  refine{l',s4',?_,by rw[i1];simp;lia,i2}
  have hs:l.length < sizeLine:=by
   show _ < 2 ^ 24
   lia
  have two:0+1+1<=sizeLine:=(3:)
  have three:0+1+1+1<=sizeLine:=(3:)
  have hd:(0:Int) < (l.length:Int)+1/\(l.length:Int)+1 < 1073741824:={by lia,by lia};rw[List.length_append,List.length_singleton,show((l.length+1:Nat):Int)=(l.length:Int)+1 from by lia]at ih;simp![List.map_append,List.map_cons,List.map_nil,qa1]at ih;refine(qm _).symm.trans ?_;rw[rgF];simp?![JY,List.length_map,hL,e1,e3,hd,hq,two,three,hs,ih,qa1]
structure RwOk(r:Ru):Prop where
 ok:∀p∈r.lands,LnOk p
 m0:0<=r.most
 m1:r.most<=1000000000
 d0:1<=r.days
 d1:r.days<=10000000
def qh9(k:Nat)(c:Int)(zs:List Str)(hz:NamesOk zs):∃r:Ru,RwOk r/\clK pg (k+13) "_law_rule" [.val (.int c),.bor (zs.map D.str)]=.ok (.val (ruI r)):=by
 have hL:(0:Int) < (zs.length:Int):=by have:=hz.two;lia
 have hn:0<=c * 1099087573 % 10000000000037:=Int.emod_nonneg _ (2:);generalize hN:c * 1099087573 % 10000000000037=n at hn;have m0:0<=n / 3 % (zs.length:Int):=Int.emod_nonneg _ (1:);have m1:n / 3 % (zs.length:Int) < zs.length:=Int.emod_lt_of_pos _ hL;have four:=hz.four;let(m,em):∃m:Nat,1+n / 3 % (zs.length:Int)=(m:Int):={(1+n / 3 % (zs.length:Int)).toNat,by lia};let(l,s4',e,e1,e2):=Zy (pg.kk (k+12)) (.val (.int c)) n hn zs hz m [] .no .no (by simp;lia) (λi p hp=>by simp at hp);simp at e1;rw[List.map_nil,show((([]:List (Str×Int)).length:Nat):Int)=0 from rfl]at e
 have ok:∀p∈l,LnOk p:=λp hp=>by let(i,hi):=List.getElem?_of_mem hp;exact(e2 i p hi).2
 have nd:=e2.nodup hz (1:);have lok:qB (l.map lnD)=true:=qbQ ok nd (1:) (1:);have mul:QZ c 1099087573=true:=JN (2:) (2:)
 have sm:qL (m:Int)=true:=by
  unfold qL;simp
  lia
 have three:0+1+1+1<=sizeLine:=(3:)
 have zero:(0:Nat)<=sizeLine:=(3:)
 have p7:(10:Int) ^ (7:Int).toNat=10000000:=by decide
 have c7:(0:Int)<=7/\(7:Int)<=1000000/\(10:Int).natAbs < 2 ^ 64:=by decide
 let(q,e3,q2,q9):∃q:Int,atI [D.int 60,D.int 60,D.int 10000000] (n / 5 % 3)=some (.int q)/\0 < q/\q<=10000000:=by
  have a0:0<=n / 5 % 3:=Int.emod_nonneg _ (2:);have a1:n / 5 % 3 < 3:=Int.emod_lt_of_pos _ (2:)
  have:n / 5 % 3=0\/n / 5 % 3=1\/n / 5 % 3=2:=by lia
  rcases this with e|e|e<;>rw[e]
  ·exact{60,rfl,by decide,by decide}
  ·exact{60,rfl,by decide,by decide}
  ·exact{10000000,rfl,by decide,by decide}
 have d0:0<=n / 24300 % q:=Int.emod_nonneg _ (1:);have d1:n / 24300 % q < q:=Int.emod_lt_of_pos _ q2;have hd:btw (1+n / 24300 % q) 1 1000000000=true:=by unfold btw;simp;lia
 have hm:btw 9 0 1000000000=true:=by decide
 have x0:eqD (.int (n % 3)) (.int 0)=some (n % 3 == 0):=qI ..;have x1:eqD (.int (n % 3)) (.int 1)=some (n % 3 == 1):=qI ..
 by_cases c0:n % 3=0
 ·refine{{.wi,l,9,1+n / 24300 % q},{ok,(by decide:(0:Int)<=9),(by decide:(9:Int)<=1000000000),by show 1<=1+_;lia,by show 1+_<=_;lia},?_};have x0:eqD (.int (n % 3)) (.int 0)=some true:=by rw[x0,c0];rfl
  have nw:pg.nw (k+12) "Within" [.bor (l.map lnD),.val (.int 9),.val (.int (1+n / 24300 % q))]=.ok (.val (ruI ⟨.wi,l,9,1+n / 24300 % q⟩)):=by show(if k+12 < 12 then R.no else qaY "Within" (if (qB (l.map lnD)&&btw 9 0 1000000000&&btw (1+n / 24300 % q) 1 1000000000)=true then _ else none))=_;rw[if_neg Qb,if_pos (by rw[lok,hm,hd];rfl)];rfl
  rw[jY];simp?![je,List.length_map,mul,hN,hL,em,sm,zH,Int.sub_zero,Int.toNat_natCast,e,p7,c7,e3,q2,x0,three,zero,nw]
 by_cases c1:n % 3=1
 ·refine{{.si,l,9,1+n / 24300 % q},{ok,(by decide:(0:Int)<=9),(by decide:(9:Int)<=1000000000),by show 1<=1+_;lia,by show 1+_<=_;lia},?_};have x0:eqD (.int (n % 3)) (.int 0)=some false:=by rw[x0];simp[c0]
  have x1:eqD (.int (n % 3)) (.int 1)=some true:=by rw[x1,c1];rfl
  have nw:pg.nw (k+12) "Since" [.bor (l.map lnD),.val (.int 9),.val (.int (1+n / 24300 % q))]=.ok (.val (ruI ⟨.si,l,9,1+n / 24300 % q⟩)):=by show(if k+12 < 12 then R.no else qaY "Since" (if (qB (l.map lnD)&&btw 9 0 1000000000&&btw (1+n / 24300 % q) 1 1000000000)=true then _ else none))=_;rw[if_neg Qb,if_pos (by rw[lok,hm,hd];rfl)];rfl
  rw[jY];simp?![je,List.length_map,mul,hN,hL,em,sm,zH,Int.sub_zero,Int.toNat_natCast,e,p7,c7,e3,q2,x0,x1,three,zero,nw]
 ·refine{{.ro,l,9,1},{ok,(by decide:(0:Int)<=9),(by decide:(9:Int)<=1000000000),(by decide:(1:Int)<=1),(by decide:(1:Int)<=10000000)},?_};have x0:eqD (.int (n % 3)) (.int 0)=some false:=by rw[x0];simp[c0]
  have x1:eqD (.int (n % 3)) (.int 1)=some false:=by rw[x1];simp[c1]
  have nw:pg.nw (k+12) "InRow" [.bor (l.map lnD),.val (.int 9)]=.ok (.val (ruI ⟨.ro,l,9,1⟩)):=by show(if k+12 < 12 then R.no else qaY "InRow" (if (qB (l.map lnD)&&btw 9 0 1000000000)=true then _ else none))=_;rw[if_neg Qb,if_pos (by rw[lok,hm];rfl)];rfl
  rw[jY];simp?![je,List.length_map,mul,hN,hL,em,sm,zH,Int.sub_zero,Int.toNat_natCast,e,p7,c7,e3,q2,x0,x1,three,zero,nw]
def qd2(n:Int):Int:=if n % 3=0 then n / 3 % 1000000 else n / 3 % 30
def qbg(n:Int):0<=qd2 n/\qd2 n < 1000000:=by
 unfold qd2;split
 ·exact{Int.emod_nonneg _ (2:),Int.emod_lt_of_pos _ (2:)}
 ·exact{Int.emod_nonneg _ (2:),Int.lt_trans (Int.emod_lt_of_pos _ (2:)) (2:)}
def Qm(k:Nat)(n:Int):clK pg (k+1) "_law_long" [.val (.int n)]=.ok (.val (.int (qd2 n))):=by
 have x0:eqD (.int (n % 3)) (.int 0)=some (n % 3 == 0):=qI ..;have p6:(10:Int) ^ (6:Int).toNat=1000000:=by decide
 have c6:(0:Int)<=6/\(6:Int)<=1000000/\(10:Int).natAbs < 2 ^ 64:=by decide
 rw[qal];unfold qd2
 by_cases h:n % 3=0
 ·have x0:eqD (.int (n % 3)) (.int 0)=some true:=by rw[x0,h];rfl
  rw[if_pos h];simp?![jZ,x0,p6,c6]
 ·have x0:eqD (.int (n % 3)) (.int 0)=some false:=by rw[x0];simp[h]
  rw[if_neg h];simp?![jZ,x0]
theorem zM(k:Nat)(v0:Sl)(zs:List Str)(hz:NamesOk zs):∀(cs:List Int) (acc:List DG.St) (day:Int) (s4 s5 s6 s7:Sl),acc.length+cs.length < 1000->0<=day->day+2000000 * (cs.length:Int)<=1000000000->
  ∃(l:List DG.St) (N':List Sl),jT (pg.kk (k+1)) 1000 (.one 4) zy (cs.map D.int) [v0,.bor (zs.map D.str),.own (acc.map stD),.val (.int day),s4,s5,s6,s7]=.ok (.next (v0::.bor (zs.map D.str)::.own ((acc++l).map stD)::N'))/\Ch (day - 1) l/\l.length=cs.length/\∀s∈l,s.1∈zs/\s.2.2<=day+2000000 * (cs.length:Int)
 |[],acc,day,s4,s5,s6,s7,_,_,_=>{[],[.val (.int day),s4,s5,s6,s7],by simp[qM],trivial,rfl,λs h=>(by cases h)}
 | c::cs,acc,day,s4,s5,s6,s7,hl,h0,h1=>by
  rw[List.length_cons]at hl h1;have hL:(0:Int) < (zs.length:Int):=by have:=hz.two;lia
  have mul:QZ c 1099087573=true:=JN (2:) (2:);generalize hN:c * 1099087573 % 10000000000037=n;let(z,e1,e2):=qa2 (zs:=zs) (n % (zs.length:Int)) (Int.emod_nonneg _ (1:)) (Int.emod_lt_of_pos _ hL);have f1:=Qm k (n / 4);have f2:=Qm k (n / 4096);let(g0,g1):=qbg (n / 4);let(g2,g3):=qbg (n / 4096);generalize qd2 (n / 4)=a at *;generalize qd2 (n / 4096)=b at *;have hzm:z∈zs:=List.mem_of_getElem? e2;have hs:(acc.map stD).length < sizeLine:=by rw[List.length_map];exact qJ (1:)
  have three:0+1+1+1<=sizeLine:=(3:)
  let(l,N',i0,i1,i2,i3):=zM k v0 zs hz cs (acc++[(z,day+a,day+a+b)]) (day+a+b+1) (.val (.int c)) (.val (.int n)) (.val (.int (day+a))) (.val (.int (day+a+b))) (by simp;lia) (1:) (1:);refine{(z,day+a,day+a+b)::l,N',?_,{{hz.ok z hzm,by dsimp only;lia,by dsimp only;lia,by dsimp only;lia},by rw[show day+a+b+1 - 1=day+a+b by lia]at i1;exact i1},by rw[List.length_cons,i2,List.length_cons],λs hs=>?_}
  ·rw[show acc++(z,day+a,day+a+b)::l=acc++[(z,day+a,day+a+b)]++l by simp];simp![List.map_append,List.map_cons,List.map_nil,Yr]at i0 ⊢;simp?[Jc,mul,hN,e1,qdi,hL,three,hs,f1,f2,i0]
  ·rw[List.length_cons];rcases List.mem_cons.mp hs with rfl|hs
   ·exact{hzm,by dsimp only;lia}
   ·have:=(i3 s hs).2
    exact{(i3 s hs).1,by lia}
def Zz(k:Nat)(cs:List Int)(hl:cs.length<=60)(zs:List Str)(hz:NamesOk zs):∃l:List DG.St,clK pg (k+2) "_law_stays" [.val (.lst (cs.map D.int)),.bor (zs.map D.str)]=.ok (.tmp (l.map stD))/\Ch (-1) l/\l.length=cs.length/\∀s∈l,s.1∈zs/\s.2.2<=2000000 * (cs.length:Int):=by let(l,N',e,e1,e2,e3):=zM k (.val (.lst (cs.map D.int))) zs hz cs [] 0 .no .no .no .no (by simp;lia) (2:) (1:);refine{l,?_,e1,e2,λs hs=>{(e3 s hs).1,by have:=(e3 s hs).2;lia}};rw[List.map_nil,List.nil_append]at e;rw[Zv];simp?![yV,show(0:Nat)<=sizeLine by decide+kernel,e]
def Y4(k:Nat)(c m:Int)(hm:0 < m):∃p:Pa,(0<=p.1/\p.1 < m/\0<=p.2.1/\p.2.1<=p.2.2/\p.2.2<=2000000)/\clK pg (k+2) "_law_paper" [.val (.int c),.val (.int m)]=.ok (.val (paD p)):=by
 have mul:QZ c 982451653=true:=JN (2:) (2:);have three:0+1+1+1<=sizeLine:=(3:)
 generalize hN:c * 982451653 % 10000000000037=n;have f1:=Qm k (n / 8);have f2:=Qm k (n / 4096);let(g0,g1):=qbg (n / 8);let(g2,g3):=qbg (n / 4096);have o0:0<=n % m:=Int.emod_nonneg _ (1:);have o1:n % m < m:=Int.emod_lt_of_pos _ hm;refine{(n % m,qd2 (n / 8),qd2 (n / 8)+qd2 (n / 4096)),{o0,o1,g0,by dsimp only;lia,by dsimp only;lia},?_};rw[Zw];simp?![yW,mul,hN,hm,f1,f2,three,jh]
section
variable{bk o w:D}{n:Int}{so sw:List D}{A B:Int->Int}
def Sm(bk:D)(n:Int)(so sw:List D)(A B:Int->Int):Prop:=∀d:Int,clK pg 18 "_law_same" [.val bk,.val (.int n),.bor so,.bor sw,.val (.int d)]=.ok (.val (.bl (decide (A d=B d))))
theorem qbh(S:Sm bk n so sw A B)(v4 v5 v6 v7:Sl):∀(ds:List Int) (s8:Sl),(∀d∈ds,A d=B d)->∃s8',jT (pg.kk 18) 1000 (.one 8) zA (ds.map D.int) [.val bk,.val (.int n),.bor so,.bor sw,v4,v5,v6,v7,s8]=.ok (.next [.val bk,.val (.int n),.bor so,.bor sw,v4,v5,v6,v7,s8'])
 |[],s8,_=>{s8,by simp[qM]}
 | d::ds,s8,h=>by let(s8',ih):=qbh S v4 v5 v6 v7 ds (.val (.int d)) λx hx=>h x (by simp[hx]);refine{s8',?_};have e:=S d;rw[decide_eq_true (h d (5:))]at e;rw[List.map_cons];simp?[Jd,e,ih]
theorem qdO(S:Sm bk n so sw A B)(v4 v5 v6 v7:Sl):∀(ds:List Int) (s8:Sl),(∀d∈ds,A d≠B d)->∃s8',jT (pg.kk 18) 1000 (.one 8) zB (ds.map D.int) [.val bk,.val (.int n),.bor so,.bor sw,v4,v5,v6,v7,s8]=.ok (.next [.val bk,.val (.int n),.bor so,.bor sw,v4,v5,v6,v7,s8'])
 |[],s8,_=>{s8,by simp[qM]}
 | d::ds,s8,h=>by let(s8',ih):=qdO S v4 v5 v6 v7 ds (.val (.int d)) λx hx=>h x (by simp[hx]);refine{s8',?_};have e:=S d;rw[decide_eq_false (h d (5:))]at e;rw[List.map_cons];simp?[Je,e,ih]
theorem YC(S:Sm bk n so sw A B)(c:Int)(v5:Sl):∀(F:List Pr) (ah:Int) (s7 s8:Sl),Spr F->(∀p∈F,ah+2<=p.1)->(∀d,ah < d->(A d≠B d↔Day F d))->
  ∃ah' s7' s8',jT (pg.kk 18) 1000 (.one 7) zC (F.map pD) [.val bk,.val (.int n),.bor so,.bor sw,.val (.int c),v5,.val (.int ah),s7,s8]=.ok (.next [.val bk,.val (.int n),.bor so,.bor sw,.val (.int c),v5,.val (.int ah'),s7',s8'])/\∀d,ah' < d->A d=B d
 |[],ah,s7,s8,_,_,h=>{ah,s7,s8,by simp[qM],λd hd=>Decidable.byContradiction λz=>zd ((h d hd).mp z)}
 | p::F,ah,s7,s8,hS,hg,h=>by
  have p1:=hg p (5:);have p2:=hS.ok p (5:);have gp:∀q∈F,p.2+2<=q.1:=λq hq=>(List.pairwise_cons.mp hS.gap).1 q hq
  have out:∀d,ah < d->(d < p.1\/d=p.2+1)->A d=B d:=λd h1 h2=>Decidable.byContradiction λz=>by
   rcases qt.mp ((h d h1).mp z) with y|⟨q,hq,y⟩
   ·lia
   ·have:=gp q hq
    have:=y.1
    lia
  have ins:∀d,p.1<=d->d<=p.2->A d≠B d:=λd h1 h2=>(h d (1:)).mpr (qt.mpr (.inl ⟨h1,h2⟩));have m0:0 < p.1 - ah - 1:=by lia
  have m1:0 < p.2 - p.1+1:=by lia
  have a0:=Int.emod_nonneg c (Int.ne_of_gt m0);have a1:=Int.emod_lt_of_pos c m0;have b0:=Int.emod_nonneg c (Int.ne_of_gt m1);have b1:=Int.emod_lt_of_pos c m1
  let(t8,y1):=qbh S (.val (.int c)) v5 (.val (.int ah)) (.val (.tup [.int p.1,.int p.2])) [ah+1,p.1 - 1,ah+1+c % (p.1 - ah - 1),p.2+1] s8 λd hd=>by
   generalize c % (p.1 - ah - 1)=x at *;simp![List.mem_cons,List.not_mem_nil,or_false]at hd;rcases hd with rfl|rfl|rfl|rfl
   ·exact out _ (1:) (.inl (1:))
   ·exact out _ (1:) (.inl (1:))
   ·exact out _ (1:) (.inl (1:))
   ·exact out _ (1:) (.inr rfl)
  let(u8,y2):=qdO S (.val (.int c)) v5 (.val (.int ah)) (.val (.tup [.int p.1,.int p.2])) [p.1,p.2,p.1+c % (p.2 - p.1+1)] t8 λd hd=>by
   generalize c % (p.2 - p.1+1)=x at *;simp![List.mem_cons,List.not_mem_nil,or_false]at hd;rcases hd with rfl|rfl|rfl
   ·exact ins _ (Int.le_refl _) p2
   ·exact ins _ p2 (Int.le_refl _)
   ·exact ins _ (1:) (1:)
  let(ah',s7',s8',ih,i2):=YC S c v5 F p.2 (.val (.tup [.int p.1,.int p.2])) u8 (Spr.tail hS) gp λd hd=>by rw[h d (1:),qt];exact{λz=>z.elim (λy=>by lia) id,.inr}
  refine{ah',s7',s8',?_,i2};have z4:0+1+1+1+1<=sizeLine:=(3:)
  have z3:0+1+1+1<=sizeLine:=(3:)
  have l2:eqD (.int ((0+1+1:Nat):Int)) (.int 2)=some true:=qI ..;have k1:decide (ah+2<=p.1)=true:=decide_eq_true p1;have k2:decide (p.1<=p.2)=true:=decide_eq_true p2;simp![List.map_cons,List.map_nil]at y1 y2;rw[List.map_cons];simp?[Jf,z8,l2,p1,p2,k1,k2,m0,m1,z4,z3,y1,y2,ih]
end
theorem qdP:∀l:List Pr,qbM (l.map pD)=true/\qaU (l.map pD)<=60
 |[]=>by simp[qbM,qaU]
 | p::l=>by
  let(a,b):=qdP l;rw[List.map_cons,z8];refine{by simp[qbM,okD,a],?_};simp![qaU,dpD]
  lia
structure Pr2(rs:List Ru)(ps:List Pa)(n:Nat)(r:Ru)(sa sb:List DG.St):Prop where
 hn:rs[n]?=some r
 rok:RwOk r
 hp:ps.length<=3
 po:∀p∈ps,p.2.1<=p.2.2
 na:∀s∈sa,NameOk s.1
 nb:∀s∈sb,NameOk s.1
 ca:Ch (-1) sa
 cb:Ch (-1) sb
 la:sa.length<=8
 lb:sb.length<=8
 ea:∀s∈sa,s.2.2<=16000000
 eb:∀s∈sb,s.2.2<=16000000
section
variable{rs:List Ru}{ps:List Pa}{n:Nat}{r:Ru}{sa sb:List DG.St}
abbrev pcA(ps:List Pa)(n:Nat)(r:Ru)(st:List DG.St):List Pa:=J2 st (r,lift n ps)
def ZB(h:ps.length<=3)(po:∀p∈ps,p.2.1<=p.2.2)(n:Nat):(lift n ps).length<=3/\Spr (lift n ps):=by
 have q:∀p∈ofN (n:Int) ps,p.1<=p.2:=λp hp=>by unfold ofN at hp;let(q,hq,rfl):=List.mem_map.mp hp;exact po q (List.mem_filter.mp hq).1
 have h1:=qh2 q;have h2:=qdp (n:Int) ps;unfold lift;exact{by lia,qdk q}
def Pr2.swap(h:Pr2 rs ps n r sa sb):Pr2 rs ps n r sb sa:=⟨h.hn,h.rok,h.hp,h.po,h.nb,h.na,h.cb,h.ca,h.lb,h.la,h.eb,h.ea⟩
def Pr2.both(h:Pr2 rs ps n r sa sb):Pr2 rs ps n r sa sa:=⟨h.hn,h.rok,h.hp,h.po,h.na,h.na,h.ca,h.ca,h.la,h.la,h.ea,h.ea⟩
def Pr2.rlw(h:Pr2 rs ps n r sa sb):Rlw (r,lift n ps):={h.rok.ok,h.rok.d0,h.rok.m0,(ZB h.hp h.po n).2,by have:=(ZB h.hp h.po n).1;dsimp only;lia}
def Pr2.pa(h:Pr2 rs ps n r sa sb):PcOk (pcA ps n r sa):=qk9 h.rlw h.ca.w
def Pr2.cnt(h:Pr2 rs ps n r sa sb):Cnt r.kd.isW r.days (pf (pcA ps n r sa)) (qw r (pcA ps n r sa)):=qdC h.rok.d0 h.pa
def Pr2.len(h:Pr2 rs ps n r sa sb):(pcA ps n r sa).length<=40:=by
 have a:(pcA ps n r sa).length<=sa.length * ((lift n ps).length+2):=JW r (lift n ps) sa;have b:=(ZB h.hp h.po n).1;have c:sa.length * ((lift n ps).length+2)<=8 * 5:=Nat.mul_le_mul h.la (1:)
 lia
def Pr2.lo(h:Pr2 rs ps n r sa sb){d:Int}(hd:d < 0):qw r (pcA ps n r sa) d=0:=h.cnt.zero_lo (λx hx=>zp λp hp hi=>by
 have:=(yq h.rlw.ln h.rlw.spr (by have:=h.rlw.len;lia) sa (-1) h.ca.w).2.1 p hp
 unfold inP at hi
 lia) h.rok.d0
def Pr2.hi(h:Pr2 rs ps n r sa sb){d:Int}(hd:30000000<=d):qw r (pcA ps n r sa) d=0:=h.cnt.zero_hi (λx h1 h2=>by
 have d1:=h.rok.d1;have e:=congrFun (qla h.rlw h.ca.w) x;unfold pcA;rw[e];refine qdt (qah.mpr λs hs hi=>?_)
 have:=h.ea s hs
 lia) h.rok.d0
def Pr2.chg(h:Pr2 rs ps n r sa sb)(k:Nat)(b1 b2:Bool):∃F:List Pr,Spr F/\(∀d,Day F d↔qw r (pcA ps n r sa) d≠qw r (pcA ps n r sb) d)/\clK pg (k+8) "changed_days" [.val (bkI rs ps),.val (.int (n:Int)),aL b1 (sa.map stD),aL b2 (sb.map stD)]=.ok (.tmp (F.map pD)):=by
 let(s1,s2):=qlc h.pa h.swap.pa h.cnt h.swap.cnt h.rok.d0;have l3:=(ZB h.hp h.po n).1
 have:=h.len
 have:=h.swap.len
 have:=h.la
 have:=h.lb
 have:=h.hp
 exact{_,s1,s2,qbU (pg:=pg) k b1 b2 rs ps (1:) n r h.hn h.rok.d0 h.rok.ok (1:) sa sb h.na h.nb h.ca h.cb (1:) (1:) h.pa h.swap.pa (by unfold pcA at *;lia)}
def Pr2.sm(h:Pr2 rs ps n r sa sb)(k:Nat)(d:Int):clK pg (k+8) "_law_same" [.val (bkI rs ps),.val (.int (n:Int)),.bor (sa.map stD),.bor (sb.map stD),.val (.int d)]=.ok (.val (.bl (decide (qw r (pcA ps n r sa) d=qw r (pcA ps n r sb) d)))):=by
 have l3:=(ZB h.hp h.po n).1
 have:=h.la
 have:=h.lb
 have:=h.hp
 have a:clK pg (k+7) "count_of" [.val (bkI rs ps),.val (.int (n:Int)),.bor (sa.map stD),.val (.int d)]=.ok (.val (.int (qw r (pcA ps n r sa) d))):=Yz (pg:=pg) k true rs ps (1:) n r h.hn h.rok.ok (1:) sa h.na h.ca (1:) h.pa.w d;have b:clK pg (k+7) "count_of" [.val (bkI rs ps),.val (.int (n:Int)),.bor (sb.map stD),.val (.int d)]=.ok (.val (.int (qw r (pcA ps n r sb) d))):=Yz (pg:=pg) k true rs ps (1:) n r h.hn h.rok.ok (1:) sb h.nb h.cb (1:) h.swap.pa.w d;rw[qam];generalize qw r (pcA ps n r sa) d=x at *;generalize qw r (pcA ps n r sb) d=y at *
 have e:eqD (.int x) (.int y)=some (decide (x=y)):=by
  rw[qI]
  by_cases hxy:x=y
  ·simp[hxy]
  ·simp[hxy]
 simp?![JZ,a,b,e]
def Pr2.same(h:Pr2 rs ps n r sa sb):Sm (bkI rs ps) n (sa.map stD) (sb.map stD) (qw r (pcA ps n r sa)) (qw r (pcA ps n r sb)):=λd=>h.sm 10 d
def qfu(h:Pr2 rs ps n r sa sb)(c:Int)(hc:0<=c):clK pg 19 "_law_right" [.val (bkI rs ps),.val (.int (n:Int)),.bor (sa.map stD),.bor (sb.map stD),.val (.int c)]=.ok (.val (.bl true)):=by
 let(F,s1,s2,e1):=h.chg 10 true true;let(F',t1,t2,e2):=h.swap.chg 10 true true;obtain rfl:F'=F:=Spr.same t1 s1 λd=>by rw[t2,s2];exact{λz y=>z y.symm,λz y=>z y.symm}
 have e1:clK pg 18 "changed_days" [.val (bkI rs ps),.val (.int (n:Int)),.bor (sa.map stD),.bor (sb.map stD)]=.ok (.tmp (F'.map pD)):=e1;have e2:clK pg 18 "changed_days" [.val (bkI rs ps),.val (.int (n:Int)),.bor (sb.map stD),.bor (sa.map stD)]=.ok (.tmp (F'.map pD)):=e2;have m0:0<=c % 100:=Int.emod_nonneg _ (2:);have low:∀d,Day F' d->0<=d:=λd hd=>Decidable.byContradiction λz=>(s2 d).mp hd (by rw[h.lo (1:),h.swap.lo (1:)])
 let(ah,s7,s8,lp,fin):=YC h.same c (.val (.lst (F'.map pD))) F' (-7 - c % 100) .no .no s1 (λp hp=>by
  have:=low p.1 ⟨p,hp,Int.le_refl _,s1.ok p hp⟩
  lia) λd _=>(s2 d).symm
 have q:eqD (.lst (F'.map pD)) (.lst (F'.map pD))=some true:=qaV (by simp![okD];exact(qdP F').1) (by simp![dpD];have:=(qdP F').2;lia);have f2:=h.same (1000000000+c);rw[decide_eq_true (by rw[h.hi (1:),h.swap.hi (1:)])]at f2;have p9:(10:Int) ^ (9:Int).toNat=1000000000:=by decide
 have c9:(0:Int)<=9/\(9:Int)<=1000000/\(10:Int).natAbs < 2 ^ 64:=by decide
 have f1:=h.same (ah+1+c);rw[decide_eq_true (fin (ah+1+c) (1:))]at f1;rw[show(19:Nat)=18+1 from rfl,Zx];simp?![yY,e1,e2,q,lp,p9,c9,f1,f2]
end
theorem qdQ:∀(st:List DG.St),(∀s∈st,NameOk s.1)->qbM (st.map stD)=true/\qaU (st.map stD)<=60
 |[],_=>by simp[qbM,qaU]
 | s::l,h=>by
  let(a,b):=qdQ l λt ht=>h t (by simp[ht]);have n:=Jp (h s (5:));rw[List.map_cons,Yr];refine{by simp[qbM,okD,n,a],?_};simp![qaU,dpD]
  lia
def ZC(ns:List Int)(a b:Nat)(h:b<=a+16):∃ms:List Int,J5 (ns.map D.int) (some (a:Int)) (some (b:Int)) 2=ms.map D.int/\ms.length<=8:=by
 have gen:∀is:List Nat,is.filterMap ((ns.map D.int)[·]?)=(is.filterMap (ns[·]?)).map D.int:=λis=>by
  induction is with
  |nil=>rfl
  |cons i is ih=>rw[List.filterMap_cons,List.filterMap_cons,List.getElem?_map,ih];cases ns[i]?<;>rfl
 unfold J5;rw[gen];refine{_,rfl,Nat.le_trans (List.length_filterMap_le ..) ?_};rw[List.length_map]
 have e1:(sliceBounds (some (a:Int)) (some (b:Int)) (some 2) ns.length).1=max 0 (min (a:Int) ns.length):=by
  simp[sliceBounds]
  lia
 have e2:(sliceBounds (some (a:Int)) (some (b:Int)) (some 2) ns.length).2.1=max 0 (min (b:Int) ns.length):=by
  simp[sliceBounds]
  lia
 have e3:(sliceBounds (some (a:Int)) (some (b:Int)) (some 2) ns.length).2.2=2:=rfl;rw[e1,e2,e3];generalize ns.length=m;unfold sliceRange;simp![List.length_map,List.length_range]
 split<;>lia
def qdR(l:List D)(i:Nat):ZJ l none (some (i:Int))=l.take i:=by
 unfold ZJ;rw[HT.YF,HT.Jw];simp![List.drop_zero,Nat.sub_zero]
 by_cases h:i<=l.length
 ·rw[Nat.min_eq_left h]
 ·rw[Nat.min_eq_right (1:),List.take_length,List.take_of_length_le (1:)]
def qle(n:Nat)(l:List D)(h:n<=l.length):ZJ l (some (n:Int)) none=l.drop n:=by unfold ZJ;rw[HT.Jw,HT.YF];simp[List.take_of_length_le,Nat.min_eq_left h]
theorem Ch.less:∀{l:List DG.St} {e:Int} (i:Nat),Ch e l->Ch e (l.take i++l.drop (i+1))
 |[],_,i,h=>by simp;trivial
 | s::l,e,0,h=>by rw[List.take_zero,List.nil_append,List.drop_succ_cons,List.drop_zero];exact Ch.weak (by have:=DG.Ch.lo h s (5:);lia) h.2
 | s::l,e,i+1,h=>by rw[List.take_succ_cons,List.drop_succ_cons,List.cons_append];exact{h.1,Ch.less i h.2}
def qfv{l:List DG.St}{i:Nat}{s:DG.St}(h:s∈l.take i++l.drop (i+1)):s∈l:=(List.mem_append.mp h).elim List.mem_of_mem_take List.mem_of_mem_drop
theorem YD(zs:List Str)(hz:NamesOk zs):∀(cs:List Int) (acc:List Ru) (s0:Sl),acc.length+cs.length < 1000->∃rs:List Ru,(∀r∈rs,RwOk r)/\rs.length=cs.length/\
  jj (pg.kk 19) Qk (.one 0) .yes (cs.map D.int) [s0,.bor (zs.map D.str)] (acc.map ruI)=.ok ((acc++rs).map ruI)
 |[],acc,s0,_=>{[],λr h=>(by cases h),rfl,by simp[yd]}
 | c::cs,acc,s0,hl=>by
  rw[List.length_cons]at hl;let(r,h1,h2):=qh9 6 c zs hz;let(rs,i1,i2,i3):=YD zs hz cs (acc++[r]) (.val (.int c)) (by simp;lia);refine{r::rs,λx hx=>?_,by simp[i2],?_}
  ·rcases List.mem_cons.mp hx with rfl|hx
   ·exact h1
   ·exact i1 x hx
  ·have hs:(acc.map ruI).length < sizeLine:=by rw[List.length_map];exact qJ (1:)
   rw[show acc++r::rs=acc++[r]++rs by simp];rw[List.map_append (l₁:=acc),List.map_cons,List.map_nil]at i3;rw[List.map_cons];simp?[qdL,h2,hs,i3]
theorem J0(R:List D)(hR:0 < (R.length:Int)):∀(cs:List Int) (acc:List Pa) (s0:Sl),acc.length+cs.length < 1000->∃ps:List Pa,(∀p∈ps,0<=p.1/\p.1 < (R.length:Int)/\0<=p.2.1/\p.2.1<=p.2.2/\p.2.2<=2000000)/\ps.length=cs.length/\
  jj (pg.kk 19) Ql (.one 0) .yes (cs.map D.int) [s0,.bor R] (acc.map paD)=.ok ((acc++ps).map paD)
 |[],acc,s0,_=>{[],λr h=>(by cases h),rfl,by simp[yd]}
 | c::cs,acc,s0,hl=>by
  rw[List.length_cons]at hl;let(p,h1,h2):=Y4 17 c (R.length:Int) hR;let(ps,i1,i2,i3):=J0 R hR cs (acc++[p]) (.val (.int c)) (by simp;lia);refine{p::ps,λx hx=>?_,by simp[i2],?_}
  ·rcases List.mem_cons.mp hx with rfl|hx
   ·exact h1
   ·exact i1 x hx
  ·have hs:(acc.map paD).length < sizeLine:=by rw[List.length_map];exact qJ (1:)
   rw[show acc++p::ps=acc++[p]++ps by simp];rw[List.map_append (l₁:=acc),List.map_cons,List.map_nil]at i3;rw[List.map_cons];simp?[qdM,h2,hs,i3]
theorem qbi{rs:List Ru}{ps:List Pa}{sa sb:List DG.St}(c:Int)(hc:0<=c)(hr:rs.length<=8)(H:∀(n:Nat) (r:Ru),rs[n]?=some r->Pr2 rs ps n r sa sb)(v0 v1 v3 v7:Sl):∀(m i:Nat) (s8:Sl),i+m=rs.length->
  ∃s8',jT (pg.kk 19) 1000 (.one 8) qan (rgF (i:Int) m) [v0,v1,.val (.int c),v3,.val (bkI rs ps),.own (sa.map stD),.own (sb.map stD),v7,s8]=.ok (.next [v0,v1,.val (.int c),v3,.val (bkI rs ps),.own (sa.map stD),.own (sb.map stD),v7,s8'])
 |0,i,s8,_=>{s8,by simp[rgF,qM]}
 | m+1,i,s8,hi=>by
  let(s8',ih):=qbi c hc hr H v0 v1 v3 v7 m (i+1) (.val (.int (i:Int))) (1:);refine{s8',?_};have hlt:i < rs.length:=by lia
  have h:=H i rs[i] (List.getElem?_eq_getElem hlt);have d0:(0:Int) < (i:Int)+1/\(i:Int)+1 < 1073741824:={by lia,by lia};have e1:=qfu h (c / ((i:Int)+1)) (Int.ediv_nonneg hc (1:));let(F,s1,s2,e2):=h.both.chg 11 true true
  obtain rfl:F=[]:=by
   cases F with
   |nil=>rfl
   |cons p l=>exact absurd rfl ((s2 p.1).mp ⟨p,by simp,Int.le_refl _,s1.ok p (5:)⟩)
  have e2:clK pg 19 "changed_days" [.val (bkI rs ps),.val (.int (i:Int)),.bor (sa.map stD),.bor (sa.map stD)]=.ok (.tmp []):=e2
  have f1:clK pg 19 "_law_same" [.val (bkI rs ps),.val (.int (i:Int)),.bor (sa.map stD),.bor (sb.map stD),.val (.int (-1 - c))]=.ok (.val (.bl true)):=by have f:=h.sm 11 (-1 - c);rw[decide_eq_true (by rw[h.lo (1:),h.swap.lo (1:)])]at f;exact f
  have z0:(0:Nat)<=sizeLine:=(3:)
  have q:eqD (.lst []) (.lst [])=some true:=qaV (by simp[okD,qbM]) (by simp[dpD,qaU]);rw[show((i+1:Nat):Int)=(i:Int)+1 from rfl]at ih;refine(qm _).symm.trans ?_;rw[rgF];simp?![qdN,d0,e1,e2,f1,z0,q,ih]
def qfw(ns:List Int)(hl:ns.length<=63):clK pg 20 "law" [.scr (ns.map D.int)]=.ok (.val (.bl true)):=by
 have c0:clK pg 19 "_law_cell_at" [.scr (ns.map D.int),.val (.int 0)]=.ok (.val (.int (ju ns 0))):=qac (pg:=pg) 18 ns 0;have c1:clK pg 19 "_law_cell_at" [.scr (ns.map D.int),.val (.int 1)]=.ok (.val (.int (ju ns 1))):=qac (pg:=pg) 18 ns 1;have c2:clK pg 19 "_law_cell_at" [.scr (ns.map D.int),.val (.int 2)]=.ok (.val (.int (ju ns 2))):=qac (pg:=pg) 18 ns 2;generalize ju ns 0=n0 at c0;generalize ju ns 1=n1 at c1;generalize ju ns 2=n2 at c2;let(cs1,e1,l1):=qdu ns 3 6;let(cs2,e2,l2):=qdu ns 6 9;let(cs3,e3,l3):=ZC ns 9 25 (2:);let(cs4,e4,l4):=ZC ns 10 26 (2:);have e1:ZJ (ns.map D.int) (some 3) (some 6)=cs1.map D.int:=e1;have e2:ZJ (ns.map D.int) (some 6) (some 9)=cs2.map D.int:=e2;have e3:J5 (ns.map D.int) (some 9) (some 25) 2=cs3.map D.int:=e3;have e4:J5 (ns.map D.int) (some 10) (some 26) 2=cs4.map D.int:=e4;have q0:0<=n0 / 512 % 3:=Int.emod_nonneg _ (2:);have q1:n0 / 512 % 3 < 3:=Int.emod_lt_of_pos _ (2:);let(m,em):∃m:Nat,2+n0 / 512 % 3=(m:Int):={(2+n0 / 512 % 3).toNat,by lia};let(zs,ez,lz,hz):=qff (pg:=pg) 18 n0 m (1:);have ez:clK pg 19 "_law_lands" [.val (.int n0),.val (.int (m:Int))]=.ok (.tmp (zs.map D.str)):=ez;let(rs,r1,r2,er):=YD zs hz (n2::cs1) [] .no (by simp;lia);have er:jj (pg.kk 19) Qk (.one 0) .yes (.int n2::cs1.map D.int) [.no,.bor (zs.map D.str)] []=.ok (rs.map ruI):=er;rw[List.length_cons]at r2;let(ps,p1,p2,ep):=J0 (rs.map ruI) (by rw[List.length_map];lia) cs2 [] .no (by simp;lia);have ep:jj (pg.kk 19) Ql (.one 0) .yes (cs2.map D.int) [.no,.bor (rs.map ruI)] []=.ok (ps.map paD):=ep;rw[List.length_map]at p1
 have ebk:pg.nw 19 "Book" [.bor (rs.map ruI),.val (.lst (ps.map paD))]=.ok (.val (bkI rs ps)):=qh5 (pg:=pg) 7 true false rs ps (1:) (1:) λp hp=>by
  have h:=p1 p hp
  lia
 let(sa,esa,ca,la,ma):=Zz 17 cs3 (1:) zs hz;let(sb,esb,cb,lb,mb):=Zz 17 cs4 (1:) zs hz;have esa:clK pg 19 "_law_stays" [.val (.lst (cs3.map D.int)),.bor (zs.map D.str)]=.ok (.tmp (sa.map stD)):=esa;have esb:clK pg 19 "_law_stays" [.val (.lst (cs4.map D.int)),.bor (zs.map D.str)]=.ok (.tmp (sb.map stD)):=esb;have ga:∀s∈sa,NameOk s.1/\s.2.2<=16000000:=λs hs=>{hz.ok _ (ma s hs).1,by have:=(ma s hs).2;lia};have gb:∀s∈sb,NameOk s.1/\s.2.2<=16000000:=λs hs=>{hz.ok _ (mb s hs).1,by have:=(mb s hs).2;lia};have mul:QZ n1 48271=true:=JN (2:) (2:);have k0:0<=n1 * 48271 % 2147483647:=Int.emod_nonneg _ (2:);generalize hC:n1 * 48271 % 2147483647=c at k0
 have two:∀sw:List DG.St,(∀s∈sw,NameOk s.1/\s.2.2<=16000000)->Ch (-1) sw->sw.length<=8->∀(n:Nat) (r:Ru),rs[n]?=some r->Pr2 rs ps n r sa sw:=λsw g h1 h2 n r hr=>{hr,r1 r (List.mem_of_getElem? hr),by lia,λp hp=>(p1 p hp).2.2.2.1,λs hs=>(ga s hs).1,λs hs=>(g s hs).1,ca,h1,by lia,h2,λs hs=>(ga s hs).2,λs hs=>(g s hs).2}
 have eq0:eqD (.lst (sa.map stD)) (.lst [])=some (sa.map stD).isEmpty:=qhO (qdQ sa λs hs=>(ga s hs).1).1 (by have:=(qdQ sa λs hs=>(ga s hs).1).2;lia);have z0:(0:Nat)<=sizeLine:=(3:)
 have z5:0+1<=sizeLine:=(3:)
 let(sw,s7,H,X):∃(sw:List DG.St) (s7:Sl),(∀(n:Nat) (r:Ru),rs[n]?=some r->Pr2 rs ps n r sa sw)/\∀{M:Type} (K:Fl->R M),(iS (pg.kk 19) 1000 (.ite (.and (.cmp .Eq (.bin .Mod (.bin .FloorDiv (.var 2) (.con (D.int 7))) (.con (D.int 2))) (.con (D.int 1))) (.one (.cmp .NotEq (.var 5) (.lst .nil)))) %[.set 7 (.bin .Mod (.bin .FloorDiv (.var 2) (.con (D.int 14))) (.b1 .len (.var 5))),.set 6 (.bin .Add (.sli (.var 5) .none (.some (.var 7))) (.sli (.var 5) (.some (.bin .Add (.var 7) (.con (D.int 1)))) .none))|0] .nil) [.scr (ns.map D.int),.own (zs.map D.str),.val (.int c),.own (rs.map ruI),.val (bkI rs ps),.own (sa.map stD),.own (sb.map stD),.no,.no]).th K=K (.next [.scr (ns.map D.int),.own (zs.map D.str),.val (.int c),.own (rs.map ruI),.val (bkI rs ps),.own (sa.map stD),.own (sw.map stD),s7,.no]):=by
  have x1:eqD (.int (c / 7 % 2)) (.int 1)=some (c / 7 % 2 == 1):=qI ..
  by_cases hq:(c / 7 % 2 == 1)=true/\sa≠[]
  ·let(q1,q2):=hq;rw[q1]at x1;have em:(sa.map stD).isEmpty=false:=by cases sa with |nil=>exact absurd rfl q2 |cons s l=>rfl
   rw[em]at eq0;have hL:(0:Int) < (sa.length:Int):=by have:=List.length_pos_iff.mpr q2;lia
   let(i,hi):∃i:Nat,c / 14 % (sa.length:Int)=(i:Int):={(c / 14 % (sa.length:Int)).toNat,by have:=Int.emod_nonneg (c / 14) (Int.ne_of_gt hL);lia};have il:i < sa.length:=by have:=Int.emod_lt_of_pos (c / 14) hL;lia
   refine{sa.take i++sa.drop (i+1),.val (.int (i:Int)),two _ (λs hs=>ga s (qfv hs)) (Ch.less i ca) (by simp;lia),λK=>?_};have t1:ZJ (sa.map stD) none (some (i:Int))=(sa.take i).map stD:=by rw[qdR,List.map_take]
   have t2:ZJ (sa.map stD) (some ((i:Int)+1)) none=(sa.drop (i+1)).map stD:=by rw[show(i:Int)+1=((i+1:Nat):Int) from rfl,qle _ _ (by rw[List.length_map];lia),List.map_drop]
   have zz:(sa.take i).length+(sa.drop (i+1)).length<=sizeLine:=z9 (by simp;lia);rw[List.map_append];simp?![x1,z0,eq0,List.length_map,hL,hi,t1,t2,zz]
  ·refine{sb,.no,two sb gb cb (1:),λK=>?_}
   cases y:(c / 7 % 2 == 1) with
   |false=>rw[y]at x1;simp?![x1]
   |true=>rw[y]at x1;obtain rfl:sa=[]:=Decidable.byContradiction λz=>hq ⟨y,z⟩;rw[List.map_nil]at eq0 ⊢;have eq0:eqD (.lst []) (.lst [])=some true:=eq0;simp?![x1,z0,eq0]
 let(s8',lp):=qbi c k0 (1:) H (.scr (ns.map D.int)) (.own (zs.map D.str)) (.own (rs.map ruI)) s7 rs.length 0 .no (1:);rw[show((0:Nat):Int)=0 from rfl]at lp;have z1:1+cs1.length<=sizeLine:=z9 (1:);have z2:cs1.length+1<=sizeLine:=z9 (1:);have z3:cs2.length<=sizeLine:=z9 (1:)
 have sm:qL (rs.length:Int)=true:=by
  unfold qL;simp
  lia
 rw[show(20:Nat)=19+1 from rfl,qmP];simp?![qld,↓X,c0,c1,c2,em,ez,e1,e2,e3,e4,z0,z1,z2,z3,z5,qb1,qlx,List.getD_cons_succ,List.getD_cons_zero,er,ep,ebk,esa,esb,mul,hC,List.length_map,sm,zH,Int.sub_zero,Int.toNat_natCast,lp]
end K62
namespace DE
open PySem PySem.Spec PyProof.Rows L2
def yu(G G' H:Hp):Prop:=∀a o,G' a=some o->(∃o',G a=some o')\/H a=none
def But(p:Addr)(H H':Hp):Prop:=∀a o,a≠p->H a=some o->H' a=some o
def qbV(U:KC)(K:Frag)(ok:Str->Bool)(go:List Ar->Option (List (Str×D))):Sp:=λvs H Q _=>∃(G:Hp) (c:Str) (C p dx:Addr) (us:List V) (args:List Ar) (fs:List (Str×D)),vs=.ref p::us/\ok c=true/\U c=some C/\
 H p=some (.ins C dx [])/\G p=none/\qp G H/\Jn U K G H args us/\go args=some fs/\
 ∀G' H' xs,qp G G'->qp G' H'->G' p=none->But p H H'->yu G G' H->H' p=some (.ins C dx ((fs.map (·.1)).zip xs))->xs.length=fs.length->ql U G' (fs.map (·.2)) xs->Q .non H'
noncomputable abbrev spQ(U:KC)(K:Frag)(cl:Str->List Ar->R Rv)(f:Str):Sp:=λvs H Q _=>spF U K cl f vs H Q E0
def Qs.q{P:Program}{wd:World}{U:KC}{K:Frag}{mg:PR}{base:Heap}{pg:Pg}{k:Nat}(h:Qs P wd U K mg base pg k)(f:Str)(st:Stmt)(e:pg.defs.lookup f=some st):∃fa fd,FnOk P wd K mg base CX0 k fa fd (J6 st) (spQ U K (clK pg k) f)/\mg f=some (.ref fa)/\PySem.W.keepIn K (.ref fa)=true/\zg K fd (J6 st) []:=
 let ⟨fa,fd,F,h⟩:=h.1 f st e
 ⟨fa,fd,qaT F λ_ _ _ _ z=>z,h⟩
section
variable{U:KC}{K:Frag}{G H G' H':Hp}
def ZD{cl:Str->List Ar->R Rv}{f:Str}{args:List Ar}{vs:List V}{r:Rv}{Q:VK}{E:XK}(sub:qp G H)(ha:Jn U K G H args vs)(e:cl f args=.ok r)
  (h:∀v G' H',qp H H'->qp G G'->qp G' H'->yu G G' H->ReR U G' H' H r v->Q v H'):spF U K cl f vs H Q E:={G,args,sub,ha,by rw[e];exact h}
theorem ArR.low{a:Ar}{v:V}(h:ArR U K G H a v)(gs:qp G G')(hs:∀b o,H b=some o->(∀C dx fs,o≠.ins C dx fs)->H' b=some o):(∀l,a≠.scr l)->ArR U K G' H' a v:=λhn=>by
 cases a with
 |val d=>exact Rep.same gs h
 |bor l=>let(b,xs,e,h1,h2):=h;exact{b,xs,e,hs _ _ h1 (by intros;intro z;cases z),h2.same gs}
 |scr l=>exact absurd rfl (hn l)
theorem Qn{nw:Str->List Ar->R Rv}{f c:Str}{C:Addr}{ok:Str->Bool}{go:List Ar->Option (List (Str×D))}(hC:U c=some C)(hok:ok c=true)
  (hX:∀args c l,nw f args≠.exc c l) (hgo:∀args r,nw f args=.ok r->(∀a∈args,∀l,a≠.scr l)/\∃fs,go args=some fs/\r=.val (.ins c (fs.map (·.1)) (fs.map (·.2)))) :
  ∀vs H Q E,spF U K nw f vs H Q E->∀x dx,H x=none->H dx=none->dx≠x->qbV U K ok go (.ref x::vs) (upd (upd H dx (.own x)) x (.ins C dx [])) (λv H2=>v=.non/\Q (.ref x) H2) E:=by
 rintro vs H Q E ⟨G,args,sub,ha,hw⟩ x dx hx hdx ne
 cases e:nw f args with
 |no=>rw[e]at hw;exact hw.elim
 |exc c l=>exact(hX _ _ _ e).elim
 |ok r=>
  rw[e]at hw;let(hs,fs,hg,rfl):=hgo args r e;have gx:G x=none:=qp.none sub hx;have gd:G dx=none:=qp.none sub hdx
  have up:qp H (upd (upd H dx (.own x)) x (.ins C dx [])):=λb o hb=>by
   have nb:b≠x:=λz=>by rw[z,hx]at hb;cases hb
   have nd:b≠dx:=λz=>by rw[z,hdx]at hb;cases hb
   rw[qe nb,qe nd];exact hb
  have ha':∀{args:List Ar} {vs:List V},(∀a∈args,∀l,a≠.scr l)->Jn U K G H args vs->Jn U K G (upd (upd H dx (.own x)) x (.ins C dx [])) args vs:=by
   intro args
   induction args with
   |nil=>intro vs _ h;simp![Jn]at h ⊢;exact h
   |cons a l ih=>intro vs hn h;simp![Jn]at h ⊢;let(v,r,e,h1,h2):=h;exact{v,r,e,h1.low (λ_ _ z=>z) (λb o hb _=>up b o hb) (hn a (List.mem_cons_self ..)),ih (λb hb=>hn b (List.mem_cons_of_mem _ hb)) h2}
  refine{G,c,C,x,dx,vs,args,fs,rfl,hok,hC,qg,gx,λb o hb=>up b o (sub b o hb),ha' hs ha,hg,λG' H' xs gs sub' gx' but fr hp hl rp=>{rfl,?_}};refine hw (.ref x) (upd G' x (.ins C dx ((fs.map (·.1)).zip xs))) H' (λb o hb=>?_) (λb o hb=>?_) (λb o hb=>?_) (λb o hb=>?_) ?_
  ·exact but b o (λz=>by rw[z,hx]at hb;cases hb) (up b o hb)
  ·exact qp.upd gx' b o (gs b o hb)
  ·by_cases z:b=x
   ·subst z;rw[qg]at hb;cases hb;exact hp
   ·rw[qe z]at hb;exact sub' b o hb
  ·by_cases z:b=x
   ·subst z;exact .inr hx
   ·rw[qe z]at hb;rcases fr b o hb with q|q
    ·exact .inl q
    ·refine .inr ?_
     cases w:H b with
     |none=>rfl
     | some o'=>rw[up b o' w]at q;cases q
  ·simp![ReR,Rep];exact{x,dx,C,xs,hC,rfl,qg,by rw[hl,List.length_map],rp.same (qp.upd gx')}
end
end DE
namespace DG
open PySem PySem.Spec PyProof.Rows L2 DE
theorem zR{G G' H:Hp}{p:Addr}{o:L2.HO}(fr:yu G G' H)(g:G p=none)(h:H p=some o):G' p=none:=by
 cases e:G' p with
 |none=>rfl
 | some o'=>
  rcases fr p o' e with ⟨o'',z⟩|z
  ·rw[g]at z;cases z
  ·rw[h]at z;cases z
def yu.trans{G G1 G2 H H1:Hp}(a:yu G G1 H)(s:qp H H1)(b:yu G1 G2 H1):yu G G2 H:=λx o h=>by
 rcases b x o h with ⟨o',z⟩|z
 ·exact a x o' z
 ·exact .inr (qp.none s z)
def yu.transB{G G1 G2 H H1:Hp}{p:Addr}{o:L2.HO}(a:yu G G1 H)(s:But p H H1)(hp:H1 p=some o)(b:yu G1 G2 H1):yu G G2 H:=λx o h=>by
 rcases b x o h with ⟨o',z⟩|z
 ·exact a x o' z
 ·refine .inr ?_;have nx:x≠p:=λq=>by rw[q,hp]at z;cases z
  cases w:H x with
  |none=>rfl
  | some o'=>rw[s x o' nx w]at z;cases z
def aA(b:Bool)(l:List D):Ar:=match b with
 |true=>.bor l
 |false=>.val (.lst l)
def ZE{a:Ar}{l:List D}(e:arL a=some l):∃b,a=aA b l:=by
 unfold arL at e
 split at e
 ·cases e;exact⟨false,rfl⟩
 ·cases e;exact⟨true,rfl⟩
 ·cases e
def qbj{a:Ar}{n:Int}(e:arI a=some n):a=.val (.int n):=by
 unfold arI at e
 split at e
 ·cases e;rfl
 ·cases e
theorem qao{U:KC}{K:Frag}{G H:Hp}{b:Bool}{l:List D}{v:V}(sub:qp G H)(h:ArR U K G H (aA b l) v):∃p xs,v=.ref p/\H p=some (.lst xs)/\ql U G l xs:=by
 cases b with
 |false=>simp![aA,ArR,Rep]at h;let(a,xs,e,h1,h2):=h;exact{a,xs,e,sub _ _ h1,h2}
 |true=>exact h
def qlf{U:KC}{K:Frag}{G H G' H':Hp}{b:Bool}{l:List D}{v:V}(h:ArR U K G H (aA b l) v)(gs:qp G G')(hs:qp H H'):ArR U K G' H' (aA b l) v:=h.low gs (λb o e _=>hs b o e) (λl'=>by cases b<;>(intro z;cases z))
def ZF{args:List Ar}{fs:List (Str×D)}(h:qaX args=some fs):∃b l m,args=[aA b l,.val (.int m)]/\qB l=true/\btw m 0 1000000000=true/\fs=([("lands",.tup l),("most",.int m)]:List (Str×D)):=by
 unfold qaX at h
 split at h
 ·split at h
  ·rename_i e1 e2
   split at h
   ·rename_i hc;cases h;rw[Bool.and_eq_true]at hc;let(b,rfl):=ZE e1;cases qbj e2;exact{b,_,_,rfl,hc.1,hc.2,rfl}
   ·cases h
  ·cases h
 ·cases h
def yv{x:Str}{args:List Ar}{fs:List (Str×D)}(h:jn x args=some fs):∃b l m s,args=[aA b l,.val (.int m),.val (.int s)]/\qB l=true/\btw m 0 1000000000=true/\btw s 1 1000000000=true/\fs=([("lands",.tup l),("most",.int m),(x,.int s)]:List (Str×D)):=by
 unfold jn at h
 split at h
 ·split at h
  ·rename_i e1 e2 e3
   split at h
   ·rename_i hc;cases h;rw[Bool.and_eq_true,Bool.and_eq_true]at hc;let(b,rfl):=ZE e1;cases qbj e2;cases qbj e3;exact{b,_,_,_,rfl,hc.1.1,hc.1.2,hc.2,rfl}
   ·cases h
  ·cases h
 ·cases h
def Qo{args:List Ar}{fs:List (Str×D)}(h:qbO args=some fs):∃b l m,args=[aA b l,.val (.int m)]/\qB l=true/\btw m 0 1000000000=true/\fs=([("lands",.tup l),("most",.int m),("leave",.int 1)]:List (Str×D)):=by
 unfold qbO at h
 split at h
 ·split at h
  ·rename_i e1 e2
   split at h
   ·rename_i hc;cases h;rw[Bool.and_eq_true]at hc;let(b,rfl):=ZE e1;cases qbj e2;exact{b,_,_,rfl,hc.1,hc.2,rfl}
   ·cases h
  ·cases h
 ·cases h
def J1{args:List Ar}{fs:List (Str×D)}(h:Ym args=some fs):∃b c l ps,args=[aA b l,aA c ps]/\(decide (l.length<=8)&&l.all Zd)=true/\(decide (ps.length<=12)&&ps.all (jJ l.length))=true/\fs=([("kept_rules",.lst l),("kept_papers",.lst ps)]:List (Str×D)):=by
 unfold Ym at h
 split at h
 ·split at h
  ·rename_i e1 e2
   split at h
   ·rename_i hc;cases h;rw[Bool.and_eq_true]at hc;let(b,rfl):=ZE e1;let(c,rfl):=ZE e2;exact{b,c,_,_,rfl,hc.1,hc.2,rfl}
   ·cases h
  ·cases h
 ·cases h
def qdS{b:Bool}{l:List D}{m:Int}(ol:qB l=true)(om:btw m 0 1000000000=true):qaX [aA b l,.val (.int m)]=some ([("lands",.tup l),("most",.int m)]:List (Str×D)):=by cases b<;>(show(if (qB l&&btw m 0 1000000000)=true then _ else none)=_;rw[if_pos (by rw[ol,om];rfl)])
def qdT{x:Str}{b:Bool}{l:List D}{m s:Int}(ol:qB l=true)(om:btw m 0 1000000000=true)(os:btw s 1 1000000000=true):jn x [aA b l,.val (.int m),.val (.int s)]=some ([("lands",.tup l),("most",.int m),(x,.int s)]:List (Str×D)):=by cases b<;>(show(if (qB l&&btw m 0 1000000000&&btw s 1 1000000000)=true then _ else none)=_;rw[if_pos (by rw[ol,om,os];rfl)])
structure Tx(U:KC)(K:Frag)(mg:PR):Prop where
 tup:mg "tuple" = none
 lst:mg "list" = none
 len:mg "len" = none
 gG:∃t,mg "GREATEST" = some (.int 1000000000 t)
 cls:∀c C,U c=some C->Cls K C
 nA:∀c x C,(pcs {}).fld c x=true->U c=some C->qV K C x
structure Ck(pg:Pg)(j:Nat):Prop where
 lands:∀b l,qB l=true->clK pg j "are_lands" [aA b l]=.ok (.val (.bl true))
 rules:∀b l,(decide (l.length<=8)&&l.all Zd)=true->clK pg j "are_rules" [aA b l]=.ok (.val (.bl true))
 papers:∀b (ps:List D) (n:Int),(decide (ps.length<=12)&&ps.all (jJ n))=true->clK pg j "check_papers" [aA b ps,.val (.int n)]=.ok (.val .non)
 btw:∀n a b,btw n a b=true->clK pg j "is_between" [.val (.int n),.val (.int a),.val (.int b)]=.ok (.val (.bl true))
def qbk{c:Str}(h:rk c=true):(pcs {}).fld c "lands" = true/\(pcs {}).fld c "most" = true:=by
 constructor
 ·show((rk c&&(true||_||_||_))||_)=true;rw[h];rfl
 ·show((rk c&&(false||true||_||_))||_)=true;rw[h];rfl
def okW(c:Str):Bool:=c == "Within"
def okS(c:Str):Bool:=c == "Since" || c == "InRow"
def okI(c:Str):Bool:=c == "InRow"
def okB(c:Str):Bool:=c == "Book"
def qlg{c:Str}(h:okW c=true):rk c=true:=by unfold okW at h;unfold rk;rw[h];rfl
def qlh{c:Str}(h:okS c=true):rk c=true:=by unfold okS at h;unfold rk;rw[Bool.or_assoc,h,Bool.or_true]
def qia{c:Str}(h:okI c=true):okS c=true:=by unfold okI at h;unfold okS;rw[h,Bool.or_true]
def qib{c:Str}(h:okW c=true):(pcs {}).fld c "span" = true:=by
 have e:c = "Within":=by simpa [okW] using h
 subst e;decide
def qfx{c:Str}(h:okS c=true):(pcs {}).fld c "leave" = true:=by
 have e:c = "Since"\/c = "InRow":=by simpa [okS] using h
 rcases e with e|e<;>subst e<;>decide
def qdU{c:Str}(h:okB c=true):(pcs {}).fld c "kept_rules" = true/\(pcs {}).fld c "kept_papers" = true:=by
 have e:c = "Book":=by simpa [okB] using h
 subst e;decide
end DG
namespace K62
open PySem PySem.Spec PyProof.Rows L2 DE DG
section
variable{P:Program}{wd:World}{U:KC}{K:Frag}{mg:PR}{base:Heap}{j:Nat}{f:Addr}{fd:FuncData}
def qic:FnScope ["self","lands","most"] ["self","lands","most"] (qh (mem 25 0)):={rfl,rfl,rfl,(3:),rfl,(3:),(3:)}
def qfy(tx:Tx U K mg)(F:Fun K "__init__" "Rule.__init__" (mem 25 0) f fd)(at_:Qs P wd U K mg base pg j)(ck:Ck pg j):FnOk P wd K mg base CX0 (j+1) f fd ["self","lands","most"] (qbV U K rk qaX):=by
 let(fA,dA,FA,mA,kA,bA):=Qs.q at_ "are_lands" (top 24) (4:);let(fB,dB,FB,mB,kB,bB):=Qs.q at_ "is_between" (top 6) (4:);let(t1,g1):=tx.gG;refine F.ok qic (λvs H Q E h=>?_) (λcdv A outer s H vs Q E hr h=>?_)
 ·let(G,c,C,p,dx,us,args,fs,rfl,_,_,_,_,_,ha,hg,_):=h;let(b,l,m,rfl,_):=ZF hg
  have:=ha.len
  simp at this;simp[<-this]
 ·let(G,c,C,p,dx,us,args,fs,rfl,hrk,hC,hp,gp,sub,ha,hg,k1):=h;let(b,l,m,rfl,ol,om,rfl):=ZF hg;simp![Jn]at ha;let(v1,us1,rfl,r1,v2,us2,rfl,r2,rfl):=ha;simp![ArR,Rep]at r2;subst r2;let(a,xs,rfl,hxa,rl):=qao sub r1
  refine{_,zf (qb6 (Qw (qas (yA FA hr (by rfl) mA kA bA .nil ZQ (qi (pv 1) qv)))) (jk Jg) Jr)
   (zf (qb6 (Qw (qas (yA FB hr (by rfl) mB kB bB .nil ZQ (qi (pv 2) (qi Qv (qi (Jq (v:=.int 1000000000) (by rfl) g1 {_,rfl}) qv)))))) (jk Jg) Jr)
   (zf (QC (pv 0) (qE YH (by rfl) tx.tup PyProof.Rows.boot_tuple (qi (pv 1) qv)) rfl)
   (jk (QC (pv 0) (pv 2) rfl)))),?_}
  refine{_,rfl,ZD (E:=E0) (G:=G) (args:=[aA b l]) sub {_,_,rfl,r1,rfl} (ck.lands b l ol) λv G1 H1 hs1 gs1 sub1 fr1 rr=>?_};simp![ReR,Rep]at rr;subst rr;refine{_,rfl,?_};refine{_,rfl,ZD (E:=E0) (G:=G1) (args:=[.val (.int m),.val (.int 0),.val (.int 1000000000)]) sub1 {_,_,rfl,by simp![ArR,Rep],_,_,rfl,by simp![ArR,Rep],_,_,rfl,by simp![ArR,Rep],rfl} (ck.btw m 0 1000000000 om) λv G2 H2 hs2 gs2 sub2 fr2 rr=>?_};simp![ReR,Rep]at rr;subst rr;refine{_,rfl,?_};have hp2:H2 p=some (.ins C dx []):=hs2 _ _ (hs1 _ _ hp);have ga2:H2 a=some (.lst xs):=hs2 _ _ (hs1 _ _ hxa);have gp1:G1 p=none:=zR fr1 gp hp;have gp2:G2 p=none:=zR fr2 gp1 (hs1 _ _ hp);refine{_,rfl,a,xs,rfl,.inl {SqL.of ga2,λt ht=>?_}};have ntp:t≠p:=λz=>by rw[z,hp2]at ht;cases ht
  have gt:G2 t=none:=qp.none sub2 ht;refine{_,rfl,p,C,dx,_,rfl,by rw[qe ntp.symm];exact hp2,tx.cls c C hC,tx.nA c _ C (qbk hrk).1 hC,by decide,?_};refine{_,rfl,_,rfl,p,C,dx,_,rfl,qg,tx.cls c C hC,tx.nA c _ C (qbk hrk).2 hC,(by show 1 < 1000;decide),?_};refine k1 (upd G2 t (.tup xs)) _ [.ref t,.int m] ?_ ?_ ?_ ?_ ?_ ?_ rfl ?_
  ·exactλb o e=>qp.upd gt b o (gs2 b o (gs1 b o e))
  ·intro b o e
   by_cases z:b=t
   ·subst z;rw[qg]at e;cases e;rw[qe ntp,qe ntp,qg]
   ·rw[qe z]at e;have nb:b≠p:=λq=>by rw[q,gp2]at e;cases e
    rw[qe nb,qe nb,qe z];exact sub2 b o e
  ·rw[qe ntp.symm];exact gp2
  ·intro b o nb e;have e2:=hs2 b o (hs1 b o e);have nt:b≠t:=λq=>by rw[q,ht]at e2;cases e2
   rw[qe nb,qe nb,qe nt];exact e2
  ·intro b o e
   by_cases z:b=t
   ·subst z;exact .inr (qp.none hs1 (qp.none hs2 ht))
   ·rw[qe z]at e;exact(yu.trans fr1 hs1 fr2) b o e
  ·rw[qg];rfl
  ·simp![List.map_cons,List.map_nil,ql,Rep];exact{_,_,rfl,{t,xs,rfl,qg,(rl.same gs1 |>.same gs2).same (qp.upd gt)},_,_,rfl,rfl,rfl}
def qdV:FnScope ["self","lands","most","span"] ["self","lands","most","span"] (qh (mem 26 0)):={rfl,rfl,rfl,(3:),rfl,(3:),(3:)}
def qfz:FnScope ["self","lands","most","leave"] ["self","lands","most","leave"] (qh (mem 27 0)):={rfl,rfl,rfl,(3:),rfl,(3:),(3:)}
def Qp{fR cR:Addr}{dR:FuncData}(tx:Tx U K mg)(FR:Fun K "__init__" "Rule.__init__" (mem 25 0) fR dR)(bR:zg K dR ["self","lands","most"] [])(mR:mg "Rule" = some (.ref cR))(cf:ClsFn K cR "__init__" fR)
  (at0:Qs P wd U K mg base pg j) (at1:Qs P wd U K mg base pg (j+1)) (ck0:Ck pg j) (ck1:Ck pg (j+1)):(Fun K "__init__" "Within.__init__" (mem 26 0) f fd->FnOk P wd K mg base CX0 (j+2) f fd ["self","lands","most","span"] (qbV U K okW (jn "span")))/\(Fun K "__init__" "Since.__init__" (mem 27 0) f fd->FnOk P wd K mg base CX0 (j+2) f fd ["self","lands","most","leave"] (qbV U K okS (jn "leave"))):=by
 constructor<;>(
  intro F;let(fB,dB,FB,mB,kB,bB):=Qs.q at1 "is_between" (top 6) (4:);let(t1,g1):=tx.gG;refine F.ok (by first|exact qdV |exact qfz) (λvs H Q E h=>?_) (λcdv A outer s H vs Q E hr h=>?_)
  ·let(G,c,C,p,dx,us,args,fs,rfl,_,_,_,_,_,ha,hg,_):=h;let(b,l,m,z,rfl,_):=yv hg
   have:=ha.len
   simp at this;simp[<-this]
  ·let(G,c,C,p,dx,us,args,fs,rfl,hrk,hC,hp,gp,sub,ha,hg,k1):=h;let(b,l,m,z,rfl,ol,om,oz,rfl):=yv hg;simp![Jn]at ha;let(v1,us1,rfl,r1,v2,us2,rfl,r2,v3,us3,rfl,r3,rfl):=ha;simp![ArR,Rep]at r2 r3;subst r2 r3
   refine{_,zf (yz (qaF cf (qfy tx FR at0 ck0) hr (by rfl) mR bR .nil ZQ (qi (pv 0) (qi (pv 1) (qi (pv 2) qv)))))
    (zf (qb6 (Qw (qas (yA FB hr (by rfl) mB kB bB .nil ZQ (qi (pv 3) (qi Qv (qi (Jq (v:=.int 1000000000) (by rfl) g1 {_,rfl}) qv)))))) (jk Jg) Jr)
    (jk (QC (pv 0) (pv 3) rfl))),?_}
   refine{_,rfl,_,rfl,_,rfl,G,c,C,p,dx,[v1,.int m],[aA b l,.val (.int m)],_,rfl,(by first|exact qlg hrk|exact qlh hrk),hC,hp,gp,sub,{_,_,rfl,r1,_,_,rfl,by simp![ArR,Rep],rfl},qdS ol om,λG1 H1 xs gs1 sub1 gp1 but1 fr1 hp1 hl1 rp1=>?_};simp![List.map_cons,List.map_nil,ql]at rp1;let(x1,w1,rfl,q1,x2,w2,rfl,q2,rfl):=rp1;refine{_,rfl,ZD (E:=E0) (G:=G1) (args:=[.val (.int z),.val (.int 1),.val (.int 1000000000)]) sub1 {_,_,rfl,by simp![ArR,Rep],_,_,rfl,by simp![ArR,Rep],_,_,rfl,by simp![ArR,Rep],rfl} (ck1.btw z 1 1000000000 oz) λv G2 H2 hs2 gs2 sub2 fr2 rr=>?_};simp![ReR,Rep]at rr;subst rr;refine{_,rfl,?_};have hp2:=hs2 _ _ hp1;have gp2:G2 p=none:=zR fr2 gp1 hp1;refine{_,rfl,_,rfl,p,C,dx,_,rfl,hp2,tx.cls c C hC,tx.nA c _ C (by first|exact qib hrk|exact qfx hrk) hC,(by show 2 < 1000;decide),?_};refine k1 G2 _ [x1,x2,.int z] (λb o e=>gs2 b o (gs1 b o e)) (λb o e=>?_) gp2 (λb o nb e=>?_) (λb o e=>?_) ?_ rfl ?_
   ·rw[qe (λq=>by rw[q,gp2]at e;cases e)];exact sub2 b o e
   ·rw[qe nb];exact hs2 b o (but1 b o nb e)
   ·exact(yu.transB fr1 but1 hp1 fr2) b o e
   ·rw[qg];rfl
   ·simp![List.map_cons,List.map_nil,ql];exact{_,_,rfl,q1.same gs2,_,_,rfl,q2.same gs2,_,_,rfl,by simp![Rep],rfl})
def qfA:FnScope ["self","lands","most"] ["self","lands","most"] (qh (mem 28 0)):={rfl,rfl,rfl,(3:),rfl,(3:),(3:)}
def qdW{fR cR fS cS:Addr}{dR dS:FuncData}(tx:Tx U K mg)(F:Fun K "__init__" "InRow.__init__" (mem 28 0) f fd)(FS:Fun K "__init__" "Since.__init__" (mem 27 0) fS dS)(bS:zg K dS ["self","lands","most","leave"] [])(mS:mg "Since" = some (.ref cS))(cfS:ClsFn K cS "__init__" fS)
  (FR:Fun K "__init__" "Rule.__init__" (mem 25 0) fR dR) (bR:zg K dR ["self","lands","most"] []) (mR:mg "Rule" = some (.ref cR)) (cf:ClsFn K cR "__init__" fR)
  (at0:Qs P wd U K mg base pg j) (at1:Qs P wd U K mg base pg (j+1)) (ck0:Ck pg j) (ck1:Ck pg (j+1)):FnOk P wd K mg base CX0 (j+3) f fd ["self","lands","most"] (qbV U K okI qbO):=by
 refine F.ok qfA (λvs H Q E h=>?_) (λcdv A outer s H vs Q E hr h=>?_)
 ·let(G,c,C,p,dx,us,args,fs,rfl,_,_,_,_,_,ha,hg,_):=h;let(b,l,m,rfl,_):=Qo hg
  have:=ha.len
  simp at this;simp[<-this]
 ·let(G,c,C,p,dx,us,args,fs,rfl,hrk,hC,hp,gp,sub,ha,hg,k1):=h;let(b,l,m,rfl,ol,om,rfl):=Qo hg;simp![Jn]at ha;let(v1,us1,rfl,r1,v2,us2,rfl,r2,rfl):=ha;simp![ArR,Rep]at r2;subst r2;refine{_,jk (yz (qaF cfS ((Qp tx FR bR mR cf at0 at1 ck0 ck1).2 FS) hr (by rfl) mS bS .nil ZQ (qi (pv 0) (qi (pv 1) (qi (pv 2) (qi Qv qv)))))),?_}
  exact{_,rfl,_,rfl,_,rfl,G,c,C,p,dx,[v1,.int m,.int 1],[aA b l,.val (.int m),.val (.int 1)],_,rfl,qia hrk,hC,hp,gp,sub,{_,_,rfl,r1,_,_,rfl,by simp![ArR,Rep],_,_,rfl,by simp![ArR,Rep],rfl},
   qdT ol om (2:),λG1 H1 xs gs1 sub1 gp1 but1 fr1 hp1 hl1 rp1=>k1 G1 H1 xs gs1 sub1 gp1 but1 fr1 hp1 hl1 rp1}
def qid:FnScope ["self","rules","papers"] ["self","rules","papers"] (qh (mem 53 0)):={rfl,rfl,rfl,(3:),rfl,(3:),(3:)}
def qfB(tx:Tx U K mg)(F:Fun K "__init__" "Book.__init__" (mem 53 0) f fd)(at_:Qs P wd U K mg base pg j)(ck:Ck pg j):FnOk P wd K mg base CX0 (j+1) f fd ["self","rules","papers"] (qbV U K okB Ym):=by
 let(fA,dA,FA,mA,kA,bA):=Qs.q at_ "are_rules" (top 50) (4:);let(fB,dB,FB,mB,kB,bB):=Qs.q at_ "check_papers" (top 52) (4:);refine F.ok qid (λvs H Q E h=>?_) (λcdv A outer s H vs Q E hr h=>?_)
 ·let(G,c,C,p,dx,us,args,fs,rfl,_,_,_,_,_,ha,hg,_):=h;let(b0,c0,l,ps,rfl,_):=J1 hg
  have:=ha.len
  simp at this;simp[<-this]
 ·let(G,c,C,p,dx,us,args,fs,rfl,hrk,hC,hp,gp,sub,ha,hg,k1):=h;let(b0,c0,l,ps,rfl,ol,op,rfl):=J1 hg;simp![Jn]at ha;let(v1,us1,rfl,r1,v2,us2,rfl,r2,rfl):=ha;let(a,xs,rfl,hxa,rl):=qao sub r1;let(b,ys,rfl,hb,rp):=qao sub r2
  refine{_,zf (qb6 (Qw (qas (yA FA hr (by rfl) mA kA bA .nil ZQ (qi (pv 1) qv)))) (jk Jg) Jr)
   (zf (yz (yA FB hr (by rfl) mB kB bB .nil ZQ (qi (pv 2) (qi (qG yJ (by rfl) tx.len PySem.boot_len (qi (pv 1) qv)) qv))))
   (zf (QC (pv 0) (qE jl (by rfl) tx.lst PyProof.Rows.boot_list (qi (pv 1) qv)) rfl)
   (jk (QC (pv 0) (qE jl (by rfl) tx.lst PyProof.Rows.boot_list (qi (pv 2) qv)) rfl)))),?_}
  refine{_,rfl,ZD (E:=E0) (G:=G) (args:=[aA b0 l]) sub {_,_,rfl,r1,rfl} (ck.rules b0 l ol) λv G1 H1 hs1 gs1 sub1 fr1 rr=>?_};simp![ReR,Rep]at rr;subst rr;refine{_,rfl,?_};have ga1:H1 a=some (.lst xs):=hs1 _ _ hxa;refine{_,rfl,_,rfl,a,xs,rfl,.inl (SqL.of ga1),?_};refine ZD (E:=E0) (G:=G1) (args:=[aA c0 ps,.val (.int l.length)]) sub1 ⟨_,_,rfl,qlf r2 gs1 hs1,_,_,rfl,by simp![ArR,Rep];rw[rl.len],rfl⟩ (ck.papers c0 ps l.length op) λv G2 H2 hs2 gs2 sub2 fr2 rr=>?_;have hp2:H2 p=some (.ins C dx []):=hs2 _ _ (hs1 _ _ hp);have gp1:G1 p=none:=zR fr1 gp hp;have gp2:G2 p=none:=zR fr2 gp1 (hs1 _ _ hp);have ga2:H2 a=some (.lst xs):=hs2 _ _ ga1;have hb2:H2 b=some (.lst ys):=hs2 _ _ (hs1 _ _ hb);refine{_,rfl,a,xs,rfl,.inl (SqL.of ga2),λt ht=>?_};have ntp:t≠p:=λz=>by rw[z,hp2]at ht;cases ht
  have gt:G2 t=none:=qp.none sub2 ht;refine{_,rfl,p,C,dx,_,rfl,by rw[qe ntp.symm];exact hp2,tx.cls c C hC,tx.nA c _ C (qdU hrk).1 hC,by decide,?_};have nbt:b≠t:=λz=>by rw[z,ht]at hb2;cases hb2
  have nbp:b≠p:=λz=>by rw[z,hp2]at hb2;cases hb2
  refine{_,rfl,b,ys,rfl,.inl (SqL.of (by rw[qe nbp,qe nbt];exact hb2)),λu hu=>?_};have nup:u≠p:=λz=>by rw[z,qg]at hu;cases hu
  have nut:u≠t:=λz=>by rw[z,qe ntp,qg]at hu;cases hu
  have hu2:H2 u=none:=by rw[qe nup,qe nut]at hu;exact hu
  have gu:G2 u=none:=qp.none sub2 hu2;refine{_,rfl,p,C,dx,_,rfl,by rw[qe nup.symm,qg],tx.cls c C hC,tx.nA c _ C (qdU hrk).2 hC,(by show 1 < 1000;decide),?_};have gut:upd G2 t (.lst xs) u=none:=by rw[qe nut];exact gu
  refine k1 (upd (upd G2 t (.lst xs)) u (.lst ys)) _ [.ref t,.ref u] ?_ ?_ ?_ ?_ ?_ ?_ rfl ?_
  ·exactλb o e=>qp.upd gut b o (qp.upd gt b o (gs2 b o (gs1 b o e)))
  ·intro q o e
   by_cases z:q=u
   ·subst z;rw[qg]at e;cases e;rw[qe nup,qg]
   ·rw[qe z]at e
    by_cases z2:q=t
    ·subst z2;rw[qg]at e;cases e;rw[qe ntp,qe z,qe ntp,qg]
    ·rw[qe z2]at e;have nq:q≠p:=λw=>by rw[w,gp2]at e;cases e
     rw[qe nq,qe z,qe nq,qe z2];exact sub2 q o e
  ·rw[qe nup.symm,qe ntp.symm];exact gp2
  ·intro q o nq e;have e2:=hs2 q o (hs1 q o e);have n1:q≠t:=λw=>by rw[w,ht]at e2;cases e2
   have n2:q≠u:=λw=>by rw[w,hu2]at e2;cases e2
   rw[qe nq,qe n2,qe nq,qe n1];exact e2
  ·intro q o e
   by_cases z:q=u
   ·subst z;exact .inr (qp.none hs1 (qp.none hs2 hu2))
   ·rw[qe z]at e
    by_cases z2:q=t
    ·subst z2;exact .inr (qp.none hs1 (qp.none hs2 ht))
    ·rw[qe z2]at e;exact(yu.trans fr1 hs1 fr2) q o e
  ·rw[qg];rfl
  ·simp![List.map_cons,List.map_nil,ql,Rep];exact{_,_,rfl,{t,xs,rfl,by rw[qe nut.symm];exact qg,((rl.same gs1 |>.same gs2).same (qp.upd gt)).same (qp.upd gut)},_,_,rfl,{u,ys,rfl,qg,((rp.same gs1 |>.same gs2).same (qp.upd gt)).same (qp.upd gut)},rfl}
end
open PySem.W HD
abbrev HP:Program:=PySem.Challenge.rw_daysgate_k62_whole_changed_by_great_numb.row.toRowW.prog
def Hq:Program:=view HP [0,2,3,4,5,6,7,8,9,11,12,13,14,16,17,18,19,21,22,23,24,25,26,27,28,30,31,32,34,35,36,37,38,39,40,41,43,44,45,46,48,49,50,51,52,53,55,56,57,58,59,60,61,62,63]
def Hx(s:Shared):Bool:=xlAt Hq [] s&&recOk (RowW.records PySem.Challenge.rw_daysgate_k62_whole_changed_by_great_numb.row.toRowW) s
def Has:List Addr:=[2,3,27,28,34,35,41,42,48,49,55,56,62,63,69,70,76,77,83,84,95,153,154,160,161,174,175,181,182,184,185,186,187,202,203,209,210,212,213,228,229,235,236,238,239,254,255,261,262,264,265,273,274,280,281,285,286,292,293,299,300,306,307,313,314,320,321,327,328,334,335,341,342,348,349,355,356,362,363,369,370,376,377,383,384,397,398,404,405,411,412,416,417,419,420,421,422,430,431,437,438,444,445,451,452,458,459,465,466,472,473,479,480,484,485]
def HK(P:Params):Frag:=(nat_lit 2,⟨.none,none,.dict #[] 0,#[]⟩)::(nat_lit 3,⟨(.type "dict"),none,.dict #[dE P "__name__" 165 (.str "law_daysgate_k62_whole_changed_by_great_numb" 779),dE P "__doc__" 166 .none,dE P "__package__" 167 .none,dE P "__loader__" 168 (.builtin "__main__.__loader__#opaque"),dE P "__spec__" 169 .none,dE P "__annotations__" 170 (.ref 6),dE P "__builtins__" 171 (.ref 4),dE P "__file__" 173 (.str "/claim/cut.py" 172),dE P "__cached__" 174 .none,dE P "_wall" 193 (.ref 21),dE P "GREATEST" 197 (.int (1000000000) 196),dE P "LETTERS" 199 (.str "abcdefghijklmnopqrstuvwxyz" 198),dE P "LONGEST_NAME" 201 (.int (8) 200),dE P "is_whole" 208 (.ref 28),dE P "is_between" 217 (.ref 35),dE P "are_days" 225 (.ref 42),dE P "is_made_of" 234 (.ref 49),dE P "is_name" 241 (.ref 56),dE P "spread" 253 (.ref 63),dE P "both" 266 (.ref 70),dE P "outside" 278 (.ref 77),dE P "less" 286 (.ref 84),dE P "DayError" 306 (.ref 94),dE P "NoRule" 322 (.ref 107),dE P "NoPaper" 347 (.ref 126),dE P "NoStay" 372 (.ref 145),dE P "MOST_LANDS" 376 (.int (6) 375),dE P "GREATEST_WEIGHT" 378 (.int (9) 377),dE P "is_land" 385 (.ref 154),dE P "are_lands" 394 (.ref 161),dE P "Rule" 435 (.ref 185),dE P "Within" 469 (.ref 213),dE P "Since" 503 (.ref 239),dE P "InRow" 535 (.ref 265),dE P "MOST_STAYS" 539 (.int (60) 538),dE P "is_stay" 546 (.ref 274),dE P "stays_of" 556 (.ref 281),dE P "pieces_among" 564 (.ref 286),dE P "pieces_of" 573 (.ref 293),dE P "sum_of" 587 (.ref 300),dE P "first_since" 600 (.ref 307),dE P "first_of_window" 609 (.ref 314),dE P "count_among" 618 (.ref 321),dE P "count_of" 628 (.ref 328),dE P "turns_of" 640 (.ref 335),dE P "edges_of" 654 (.ref 342),dE P "difference" 664 (.ref 349),dE P "unlike_days" 678 (.ref 356),dE P "changed_days" 695 (.ref 363),dE P "MOST_RULES" 699 (.int (8) 698),dE P "MOST_PAPERS" 701 (.int (12) 700),dE P "are_rules" 709 (.ref 370),dE P "is_paper" 717 (.ref 377),dE P "check_papers" 727 (.ref 384),dE P "Book" 778 (.ref 420),dE P "_law_cell_at" 788 (.ref 431),dE P "_law_lands" 804 (.ref 438),dE P "_law_rule" 816 (.ref 445),dE P "_law_long" 823 (.ref 452),dE P "_law_stays" 837 (.ref 459),dE P "_law_paper" 847 (.ref 466),dE P "_law_same" 858 (.ref 473),dE P "_law_right" 873 (.ref 480),dE P "law" 879 (.ref 485)] 64,#[]⟩)::(nat_lit 27,oB "is_whole" 202 8 1 22 206)::(nat_lit 28,oG (top 5) "is_whole" "daysgate.checks" 194 27)::(nat_lit 34,oB "is_between" 209 10 3 29 215)::(nat_lit 35,oG (top 6) "is_between" "daysgate.checks" 194 34)::(nat_lit 41,oB "are_days" 218 12 2 36 223)::(nat_lit 42,oG (top 7) "are_days" "daysgate.checks" 194 41)::(nat_lit 48,oB "is_made_of" 226 14 2 43 232)::(nat_lit 49,oG (top 8) "is_made_of" "daysgate.checks" 194 48)::(nat_lit 55,oB "is_name" 235 19 1 50 239)::(nat_lit 56,oG (top 9) "is_name" "daysgate.checks" 194 55)::(nat_lit 62,oB "spread" 244 24 1 57 251)::(nat_lit 63,oG (top 11) "spread" "daysgate.days" 242 62)::(nat_lit 69,oB "both" 254 32 2 64 264)::(nat_lit 70,oG (top 12) "both" "daysgate.days" 242 69)::(nat_lit 76,oB "outside" 267 46 3 71 276)::(nat_lit 77,oG (top 13) "outside" "daysgate.days" 242 76)::(nat_lit 83,oB "less" 279 56 2 78 284)::(nat_lit 84,oG (top 14) "less" "daysgate.days" 242 83)::(nat_lit 95,⟨(.type "getset_descriptor"),none,.fields #[(.str "__weakref__" 302),(.ref 94),(.builtin "ExceptionGroup.__weakref__"),.none],#[]⟩)::(nat_lit 153,oB "is_land" 379 78 1 148 383)::(nat_lit 154,oG (top 23) "is_land" "daysgate.rules" 373 153)::(nat_lit 160,oB "are_lands" 386 82 1 155 392)::(nat_lit 161,oG (top 24) "are_lands" "daysgate.rules" 373 160)::(nat_lit 174,oC "__init__" 407 "Rule.__init__" 408 409 93 3 169 170 (.ref 171) (.ref 172) 173 413 414)::(nat_lit 175,oFn none (mem 25 0) "__init__" "Rule.__init__" .none .none .none (.str "daysgate.rules" 373) none (.ref 174) .none)::(nat_lit 181,oC "weight" 416 "Rule.weight" 417 418 101 2 176 177 (.ref 178) (.ref 179) 180 423 424)::(nat_lit 182,oFn none (mem 25 1) "weight" "Rule.weight" .none .none .none (.str "daysgate.rules" 373) none (.ref 181) .none)::(nat_lit 184,⟨(.type "dict"),none,.dict #[dE P "__module__" 402 (.str "daysgate.rules" 373),dE P "__firstlineno__" 406 (.int (91) 405),dE P "__init__" 415 (.ref 175),dE P "weight" 425 (.ref 182),dE P "__static_attributes__" 428 (.ref 183),dE P "__dict__" 430 (.ref 186),dE P "__weakref__" 432 (.ref 187),dE P "__doc__" 433 .none] 4,#[]⟩)::(nat_lit 185,⟨(.type "type"),none,.cls ⟨"Rule",[(.type "object")],[(.ref 185),(.type "object")],184,"Rule",true,[],[(.ref 213),(.ref 239)],false,none,false⟩,#[none,none,some (.str "Rule" 395),some (.str "Rule" 403),some (.builtin "object.__new__"),some (.bool true)]⟩)::(nat_lit 186,⟨(.type "getset_descriptor"),none,.fields #[(.str "__dict__" 429),(.ref 185),(.builtin "function.__dict__"),(.builtin "function.__dict__#set")],#[]⟩)::(nat_lit 187,⟨(.type "getset_descriptor"),none,.fields #[(.str "__weakref__" 431),(.ref 185),(.builtin "ExceptionGroup.__weakref__"),.none],#[]⟩)::(nat_lit 202,oC "__init__" 448 "Within.__init__" 449 450 108 4 197 198 (.ref 199) (.ref 200) 201 455 456)::(nat_lit 203,oFn none (mem 26 0) "__init__" "Within.__init__" .none .none .none (.str "daysgate.rules" 373) none (.ref 202) .none)::(nat_lit 209,oC "line" 458 "Within.line" 459 460 114 1 204 205 (.ref 206) (.ref 207) 208 462 463)::(nat_lit 210,oFn none (mem 26 1) "line" "Within.line" .none .none .none (.str "daysgate.rules" 373) none (.ref 209) .none)::(nat_lit 212,⟨(.type "dict"),none,.dict #[dE P "__module__" 443 (.str "daysgate.rules" 373),dE P "__firstlineno__" 447 (.int (106) 446),dE P "__init__" 457 (.ref 203),dE P "line" 464 (.ref 210),dE P "__static_attributes__" 466 (.ref 211),dE P "__doc__" 467 .none] 2,#[]⟩)::(nat_lit 213,⟨(.type "type"),none,.cls ⟨"Within",[(.ref 185)],[(.ref 213),(.ref 185),(.type "object")],212,"Within",true,[],[],false,none,false⟩,#[some (.ref 190),none,some (.str "Within" 436),some (.str "Within" 444),some (.builtin "object.__new__"),some (.bool true)]⟩)::(nat_lit 228,oC "__init__" 482 "Since.__init__" 483 484 118 4 223 224 (.ref 225) (.ref 226) 227 489 490)::(nat_lit 229,oFn none (mem 27 0) "__init__" "Since.__init__" .none .none .none (.str "daysgate.rules" 373) none (.ref 228) .none)::(nat_lit 235,oC "line" 492 "Since.line" 493 494 124 1 230 231 (.ref 232) (.ref 233) 234 496 497)::(nat_lit 236,oFn none (mem 27 1) "line" "Since.line" .none .none .none (.str "daysgate.rules" 373) none (.ref 235) .none)::(nat_lit 238,⟨(.type "dict"),none,.dict #[dE P "__module__" 477 (.str "daysgate.rules" 373),dE P "__firstlineno__" 481 (.int (116) 480),dE P "__init__" 491 (.ref 229),dE P "line" 498 (.ref 236),dE P "__static_attributes__" 500 (.ref 237),dE P "__doc__" 501 .none] 2,#[]⟩)::(nat_lit 239,⟨(.type "type"),none,.cls ⟨"Since",[(.ref 185)],[(.ref 239),(.ref 185),(.type "object")],238,"Since",true,[],[(.ref 265)],false,none,false⟩,#[some (.ref 216),none,some (.str "Since" 470),some (.str "Since" 478),some (.builtin "object.__new__"),some (.bool true)]⟩)::(nat_lit 254,oC "__init__" 516 "InRow.__init__" 517 518 128 3 249 250 (.ref 251) (.ref 252) 253 522 523)::(nat_lit 255,oFn none (mem 28 0) "__init__" "InRow.__init__" .none .none .none (.str "daysgate.rules" 373) none (.ref 254) .none)::(nat_lit 261,oC "line" 525 "InRow.line" 526 527 131 1 256 257 (.ref 258) (.ref 259) 260 529 530)::(nat_lit 262,oFn none (mem 28 1) "line" "InRow.line" .none .none .none (.str "daysgate.rules" 373) none (.ref 261) .none)::(nat_lit 264,⟨(.type "dict"),none,.dict #[dE P "__module__" 511 (.str "daysgate.rules" 373),dE P "__firstlineno__" 515 (.int (126) 514),dE P "__init__" 524 (.ref 255),dE P "line" 531 (.ref 262),dE P "__static_attributes__" 532 (.ref 263),dE P "__doc__" 533 .none] 2,#[]⟩)::(nat_lit 265,⟨(.type "type"),none,.cls ⟨"InRow",[(.ref 239)],[(.ref 265),(.ref 239),(.ref 185),(.type "object")],264,"InRow",true,[],[],false,none,false⟩,#[some (.ref 242),none,some (.str "InRow" 504),some (.str "InRow" 512),some (.builtin "object.__new__"),some (.bool true)]⟩)::(nat_lit 273,oB "is_stay" 540 135 1 268 544)::(nat_lit 274,oG (top 31) "is_stay" "daysgate.stays" 536 273)::(nat_lit 280,oB "stays_of" 547 139 1 275 554)::(nat_lit 281,oG (top 32) "stays_of" "daysgate.stays" 536 280)::(nat_lit 285,oC "pieces_among" 559 "pieces_among" 560 561 151 3 282 283 .none .none 284 562 563)::(nat_lit 286,oG (top 34) "pieces_among" "daysgate.sums" 557 285)::(nat_lit 292,oB "pieces_of" 565 160 3 287 571)::(nat_lit 293,oG (top 35) "pieces_of" "daysgate.sums" 557 292)::(nat_lit 299,oB "sum_of" 574 162 3 294 585)::(nat_lit 300,oG (top 36) "sum_of" "daysgate.sums" 557 299)::(nat_lit 306,oB "first_since" 588 169 3 301 598)::(nat_lit 307,oG (top 37) "first_since" "daysgate.sums" 557 306)::(nat_lit 313,oB "first_of_window" 601 177 3 308 607)::(nat_lit 314,oG (top 38) "first_of_window" "daysgate.sums" 557 313)::(nat_lit 320,oB "count_among" 610 181 3 315 616)::(nat_lit 321,oG (top 39) "count_among" "daysgate.sums" 557 320)::(nat_lit 327,oB "count_of" 619 183 4 322 626)::(nat_lit 328,oG (top 40) "count_of" "daysgate.sums" 557 327)::(nat_lit 334,oB "turns_of" 629 185 2 329 638)::(nat_lit 335,oG (top 41) "turns_of" "daysgate.sums" 557 334)::(nat_lit 341,oB "edges_of" 643 193 2 336 652)::(nat_lit 342,oG (top 43) "edges_of" "daysgate.diary" 641 341)::(nat_lit 348,oB "difference" 655 201 4 343 662)::(nat_lit 349,oG (top 44) "difference" "daysgate.diary" 641 348)::(nat_lit 355,oB "unlike_days" 665 203 5 350 676)::(nat_lit 356,oG (top 45) "unlike_days" "daysgate.diary" 641 355)::(nat_lit 362,oB "changed_days" 679 212 4 357 693)::(nat_lit 363,oG (top 46) "changed_days" "daysgate.diary" 641 362)::(nat_lit 369,oB "are_rules" 702 224 1 364 707)::(nat_lit 370,oG (top 50) "are_rules" "daysgate.books" 696 369)::(nat_lit 376,oB "is_paper" 710 231 2 371 715)::(nat_lit 377,oG (top 51) "is_paper" "daysgate.books" 696 376)::(nat_lit 383,oB "check_papers" 718 235 2 378 725)::(nat_lit 384,oG (top 52) "check_papers" "daysgate.books" 696 383)::(nat_lit 397,oC "__init__" 740 "Book.__init__" 741 742 245 3 392 393 (.ref 394) (.ref 395) 396 746 747)::(nat_lit 398,oFn none (mem 53 0) "__init__" "Book.__init__" .none .none .none (.str "daysgate.books" 696) none (.ref 397) .none)::(nat_lit 404,oC "rules" 749 "Book.rules" 750 751 252 1 399 400 (.ref 401) (.ref 402) 403 753 754)::(nat_lit 405,oFn none (mem 53 1) "rules" "Book.rules" .none .none .none (.str "daysgate.books" 696) none (.ref 404) .none)::(nat_lit 411,oC "papers" 756 "Book.papers" 757 758 255 1 406 407 (.ref 408) (.ref 409) 410 760 761)::(nat_lit 412,oFn none (mem 53 2) "papers" "Book.papers" .none .none .none (.str "daysgate.books" 696) none (.ref 411) .none)::(nat_lit 416,oC "lifted" 763 "Book.lifted" 764 765 258 2 413 414 .none .none 415 766 767)::(nat_lit 417,oFn none (mem 53 3) "lifted" "Book.lifted" .none .none .none (.str "daysgate.books" 696) none (.ref 416) .none)::(nat_lit 419,⟨(.type "dict"),none,.dict #[dE P "__module__" 735 (.str "daysgate.books" 696),dE P "__firstlineno__" 739 (.int (243) 738),dE P "__init__" 748 (.ref 398),dE P "rules" 755 (.ref 405),dE P "papers" 762 (.ref 412),dE P "lifted" 768 (.ref 417),dE P "__static_attributes__" 771 (.ref 418),dE P "__dict__" 773 (.ref 421),dE P "__weakref__" 775 (.ref 422),dE P "__doc__" 776 .none] 4,#[]⟩)::(nat_lit 420,⟨(.type "type"),none,.cls ⟨"Book",[(.type "object")],[(.ref 420),(.type "object")],419,"Book",true,[],[],false,none,false⟩,#[none,none,some (.str "Book" 728),some (.str "Book" 736),some (.builtin "object.__new__"),some (.bool true)]⟩)::(nat_lit 421,⟨(.type "getset_descriptor"),none,.fields #[(.str "__dict__" 772),(.ref 420),(.builtin "function.__dict__"),(.builtin "function.__dict__#set")],#[]⟩)::(nat_lit 422,⟨(.type "getset_descriptor"),none,.fields #[(.str "__weakref__" 774),(.ref 420),(.builtin "ExceptionGroup.__weakref__"),.none],#[]⟩)::(nat_lit 430,oB "_law_cell_at" 781 261 2 425 786)::(nat_lit 431,oG (top 55) "_law_cell_at" "law_daysgate_k62_whole_changed_by_great_numb" 779 430)::(nat_lit 437,oB "_law_lands" 789 265 2 432 802)::(nat_lit 438,oG (top 56) "_law_lands" "law_daysgate_k62_whole_changed_by_great_numb" 779 437)::(nat_lit 444,oB "_law_rule" 805 277 2 439 814)::(nat_lit 445,oG (top 57) "_law_rule" "law_daysgate_k62_whole_changed_by_great_numb" 779 444)::(nat_lit 451,oB "_law_long" 817 288 1 446 821)::(nat_lit 452,oG (top 58) "_law_long" "law_daysgate_k62_whole_changed_by_great_numb" 779 451)::(nat_lit 458,oB "_law_stays" 824 292 2 453 835)::(nat_lit 459,oG (top 59) "_law_stays" "law_daysgate_k62_whole_changed_by_great_numb" 779 458)::(nat_lit 465,oB "_law_paper" 838 302 2 460 845)::(nat_lit 466,oG (top 60) "_law_paper" "law_daysgate_k62_whole_changed_by_great_numb" 779 465)::(nat_lit 472,oB "_law_same" 848 306 5 467 856)::(nat_lit 473,oG (top 61) "_law_same" "law_daysgate_k62_whole_changed_by_great_numb" 779 472)::(nat_lit 479,oB "_law_right" 859 308 5 474 871)::(nat_lit 480,oG (top 62) "_law_right" "law_daysgate_k62_whole_changed_by_great_numb" 779 479)::(nat_lit 484,oC "law" 874 "law" 875 876 324 1 481 482 .none .none 483 877 878)::(nat_lit 485,oG (top 63) "law" "law_daysgate_k62_whole_changed_by_great_numb" 779 484)::[]
def HKe(P:Params):Has=(HK P).map (·.1):=(4:)
def qli(p q:Program)(rc:Shared->Bool)(w:World)(H0:Heap)(s0:SharedT):=(JA treeTable p w 11 (some (.ref 6)) 8076 s0 (topStub p)).map (λs=>qgL p q [] (λs=>xlAt q [] s&&rc s) (λs=>Has.map s.heap.get?) true H0 s.abs)
def Hlk(w:World)(H0:Heap)(s0:SharedT):=qli HP Hq (recOk (RowW.records PySem.Challenge.rw_daysgate_k62_whole_changed_by_great_numb.row.toRowW)) w H0 s0
def qlj(q:Program):=openGood q []
def Hgd:=qlj Hq
def qdX:qli=qli:=rfl
def qdY:qlj=qlj:=rfl
end K62
lay_quick K62.qli K62.qlj
name_quick hlkQ for K62.qli by K62.qdX
name_quick hgdQ for K62.qlj by K62.qdY
namespace K62
open PySem PySem.W HD DG
def qlk(w:World)(os:OsState):Hlk w (boot_heap w.params) (qgK w.params os)=some (true,Hgd,(HK w.params).map λp=>some p.2):=by
 unfold Hlk Hgd;rw[PySem.W.Fast.hlkQ_eq,PySem.W.Fast.hgdQ_eq]
 kernel_rfl
def qmQ:LeftO HP Hq [] Hx (λs=>Has.map s.heap.get?) (λw=>(HK w.params).map λp=>some p.2) 8076 true:=
 qgM (boot_open (4:) (2:) (λ_=>(4:))) qcr qlk
end K62
namespace DG
open PySem PySem.Spec PyProof.Rows L2 DE
def qie(b:Bool)(l:List D):aA b l=aL b l:=by cases b<;>rfl
def qap{pg:Pg}[CH pg][RU pg][BO pg](j:Nat):Ck pg (j+5) where
 lands:=λb l h=>by rw[qie];exact qaa (j+1) b l h
 rules:=λb l h=>by rw[qie];exact qab (j+4) b l h
 papers:=λb ps n h=>by rw[qie];exact J8 j b ps n h
 btw:=λn a b h=>qkZ (j+3) n a b h
def kap(cW cS cI cB:Addr):KC:=λc=>if c = "Within" then some cW else if c = "Since" then some cS else if c = "InRow" then some cI else if c = "Book" then some cB else none
def qll{cW cS cI cB C:Addr}{c:Str}(h:kap cW cS cI cB c=some C):(c = "Within"/\C=cW)\/(c = "Since"/\C=cS)\/(c = "InRow"/\C=cI)\/(c = "Book"/\C=cB):=by
 unfold kap at h
 split at h
 ·cases h;exact .inl ⟨‹_›,rfl⟩
 split at h
 ·cases h;exact .inr (.inl ⟨‹_›,rfl⟩)
 split at h
 ·cases h;exact .inr (.inr (.inl ⟨‹_›,rfl⟩))
 split at h
 ·cases h;exact .inr (.inr (.inr ⟨‹_›,rfl⟩))
 cases h
def qbW{c:Str}(h:rk c=true):c = "Within"\/c = "Since"\/c = "InRow":=by
 unfold rk at h
 simpa [or_assoc] using h
def qlm{c x:Str}(h:(pcs {}).fld c x=true):(rk c=true/\(x = "lands"\/x = "most"))\/(c = "Within"/\x = "span")\/((c = "Since"\/c = "InRow")/\x = "leave")\/(c = "Book"/\(x = "kept_rules"\/x = "kept_papers")):=by
 have h:((rk c&&(x == "lands" || x == "most" || (x == "span" && c == "Within")||(x == "leave" && c != "Within")))||(c == "Book" && (x == "kept_rules" || x == "kept_papers")))=true:=h;simp![Bool.or_eq_true,Bool.and_eq_true,beq_iff_eq,bne_iff_ne]at h;rcases h with ⟨h1,((h2|h2)|h2)|h2⟩|h2
 ·exact .inl ⟨h1,.inl h2⟩
 ·exact .inl ⟨h1,.inr h2⟩
 ·exact .inr (.inl ⟨h2.2,h2.1⟩)
 ·refine .inr (.inr (.inl ⟨?_,h2.1⟩));rcases qbW h1 with q|q
  ·exact absurd q h2.2
  ·exact q
 ·exact .inr (.inr (.inr h2))
def qmR{c x f:Str}(h:(pcs {}).mt c x=some f):(rk c=true/\x = "weight"/\f = "Rule.weight")\/(c = "Book"/\x = "rules"/\f = "Book.rules")\/(c = "Book"/\x = "lifted"/\f = "Book.lifted")\/(c = "Book"/\x = "papers"/\f = "Book.papers"):=by
 have h:(if (rk c&&x == "weight")=true then some ("Rule.weight" : Str) else if (c == "Book" && x == "rules")=true then some ("Book.rules" : Str) else if (c == "Book" && x == "lifted")=true then some ("Book.lifted" : Str) else if (c == "Book" && x == "papers")=true then some ("Book.papers" : Str) else none)=some f:=h
 split at h
 ·rename_i q;simp![Bool.and_eq_true,beq_iff_eq]at q;cases h;exact .inl ⟨q.1,q.2,rfl⟩
 split at h
 ·rename_i q;simp![Bool.and_eq_true,beq_iff_eq]at q;cases h;exact .inr (.inl ⟨q.1,q.2,rfl⟩)
 split at h
 ·rename_i q;simp![Bool.and_eq_true,beq_iff_eq]at q;cases h;exact .inr (.inr (.inl ⟨q.1,q.2,rfl⟩))
 split at h
 ·rename_i q;simp![Bool.and_eq_true,beq_iff_eq]at q;cases h;exact .inr (.inr (.inr ⟨q.1,q.2,rfl⟩))
 cases h
def qln{c t:Str}{b:Bool}(h:(pcs {}).sub c t=some b):rk c=true/\((t = "Within"/\b=(c == "Within"))\/(t = "Since"/\b=(c != "Within"))):=by
 have h:(if (rk c&&t == "Within")=true then some (c == "Within") else if (rk c&&t == "Since")=true then some (c != "Within") else none)=some b:=h
 split at h
 ·rename_i q;simp![Bool.and_eq_true,beq_iff_eq]at q;cases h;exact{q.1,.inl ⟨q.2,rfl⟩}
 split at h
 ·rename_i q;simp![Bool.and_eq_true,beq_iff_eq]at q;cases h;exact{q.1,.inr ⟨q.2,rfl⟩}
 cases h
theorem Qq{c:Str}{o:Option (List (Str×D))}{r:Rv}(h:qaY c o=.ok r):∃fs,o=some fs/\r=.val (.ins c (fs.map (·.1)) (fs.map (·.2))):=by
 cases o with
 |none=>cases h
 |some fs=>cases h;exact⟨fs,rfl,rfl⟩
def ZG(b:Bool)(l l':List D):aA b l≠.scr l':=by cases b<;>(intro z;cases z)
def qfC{k:Nat}{f:Str}{args:List Ar}{c:Addr}{l:List (Str×D)}:pnw k f args≠.exc c l:=by
 have o:∀{n:Str} {x:Option (List (Str×D))},qaY n x≠.exc c l:=λ{n x}=>by cases x<;>exact nofun
 unfold pnw
 repeat' first|exact o|(intro h;cases h)|split
def qoc{j:Nat}{args:List Ar}{r:Rv}(h:pnw (j+12) "Within" args=.ok r):(∀a∈args,∀l,a≠.scr l)/\∃fs,jn "span" args=some fs/\r=.val (.ins "Within" (fs.map (·.1)) (fs.map (·.2))):=by
 have h:(if j+12 < 12 then R.no else qaY "Within" (jn "span" args))=.ok r:=h;rw[if_neg (1:)]at h;let(fs,e,er):=Qq h;let(b,l,m,s,rfl,_):=yv e;refine{λa ha=>?_,fs,e,er};simp![List.mem_cons,List.not_mem_nil,or_false]at ha;rcases ha with rfl|rfl|rfl
 ·exactλl'=>ZG b l l'
 ·exactλl' z=>by cases z
 ·exactλl' z=>by cases z
def qod{j:Nat}{args:List Ar}{r:Rv}(h:pnw (j+12) "Since" args=.ok r):(∀a∈args,∀l,a≠.scr l)/\∃fs,jn "leave" args=some fs/\r=.val (.ins "Since" (fs.map (·.1)) (fs.map (·.2))):=by
 have h:(if j+12 < 12 then R.no else qaY "Since" (jn "leave" args))=.ok r:=h;rw[if_neg (1:)]at h;let(fs,e,er):=Qq h;let(b,l,m,s,rfl,_):=yv e;refine{λa ha=>?_,fs,e,er};simp![List.mem_cons,List.not_mem_nil,or_false]at ha;rcases ha with rfl|rfl|rfl
 ·exactλl'=>ZG b l l'
 ·exactλl' z=>by cases z
 ·exactλl' z=>by cases z
def qoe{j:Nat}{args:List Ar}{r:Rv}(h:pnw (j+12) "InRow" args=.ok r):(∀a∈args,∀l,a≠.scr l)/\∃fs,qbO args=some fs/\r=.val (.ins "InRow" (fs.map (·.1)) (fs.map (·.2))):=by
 have h:(if j+12 < 12 then R.no else qaY "InRow" (qbO args))=.ok r:=h;rw[if_neg (1:)]at h;let(fs,e,er):=Qq h;let(b,l,m,rfl,_):=Qo e;refine{λa ha=>?_,fs,e,er};simp![List.mem_cons,List.not_mem_nil,or_false]at ha;rcases ha with rfl|rfl
 ·exactλl'=>ZG b l l'
 ·exactλl' z=>by cases z
def qof{j:Nat}{args:List Ar}{r:Rv}(h:pnw (j+12) "Book" args=.ok r):(∀a∈args,∀l,a≠.scr l)/\∃fs,Ym args=some fs/\r=.val (.ins "Book" (fs.map (·.1)) (fs.map (·.2))):=by
 have h:(if j+12 < 12 then R.no else qaY "Book" (Ym args))=.ok r:=h;rw[if_neg (1:)]at h;let(fs,e,er):=Qq h;let(b,c,l,ps,rfl,_):=J1 e;refine{λa ha=>?_,fs,e,er};simp![List.mem_cons,List.not_mem_nil,or_false]at ha;rcases ha with rfl|rfl
 ·exactλl'=>ZG b l l'
 ·exactλl'=>ZG c ps l'
structure Kl(K:Frag)(C:Addr):Prop where
 cls:Cls K C
 tc:PySem.W.findIn K (.ref C) "__class__" = some (some (.builtin "object.__class__"))
 mo:PySem.W.mroIn K C (.type "object")=some true
structure Kr(K:Frag)(fw C cW cS:Addr)(x:Str)(b:Bool):Prop where
 kl:Kl K C
 la:qV K C "lands"
 mo:qV K C "most"
 fx:qV K C x
 wt:Meth K C "weight" fw
 iw:PySem.W.kitOne K (.ref C) (.ref cW)=some b
 is:PySem.W.kitOne K (.ref C) (.ref cS)=some (!b)
structure Kb(K:Frag)(fr fl fp C:Addr):Prop where
 kl:Kl K C
 a1:qV K C "kept_rules"
 a2:qV K C "kept_papers"
 m1:Meth K C "rules" fr
 m2:Meth K C "lifted" fl
 m3:Meth K C "papers" fp
section
variable{K:Frag}{mg:PR}{cW cS cI cB fw fr fl fp:Addr}(W:Kr K fw cW cW cS "span" true)(S:Kr K fw cS cW cS "leave" false)(I:Kr K fw cI cW cS "leave" false)(B:Kb K fr fl fp cB)
include W S I B
theorem qgk(c:Str)(C:Addr)(h:kap cW cS cI cB c=some C):Cls K C:=by
 rcases qll h with ⟨_,rfl⟩|⟨_,rfl⟩|⟨_,rfl⟩|⟨_,rfl⟩
 ·exact W.kl.cls
 ·exact S.kl.cls
 ·exact I.kl.cls
 ·exact B.kl.cls
theorem qdZ(c x:Str)(C:Addr)(hf:(pcs {}).fld c x=true)(h:kap cW cS cI cB c=some C):qV K C x:=by
 rcases qlm hf with ⟨hr,rfl|rfl⟩|⟨rfl,rfl⟩|⟨rfl|rfl,rfl⟩|⟨rfl,rfl|rfl⟩
 ·rcases qbW hr with rfl|rfl|rfl
  ·cases h;exact W.la
  ·cases h;exact S.la
  ·cases h;exact I.la
 ·rcases qbW hr with rfl|rfl|rfl
  ·cases h;exact W.mo
  ·cases h;exact S.mo
  ·cases h;exact I.mo
 ·cases h;exact W.fx
 ·cases h;exact S.fx
 ·cases h;exact I.fx
 ·cases h;exact B.a1
 ·cases h;exact B.a2
theorem qbX{C:Addr}(k:Kl K C)(n:PySem.W.specialIn K (.builtin "object.__class__") "__get__" = some (some (.builtin "getset_descriptor.__get__")))(tk:PySem.W.takesIn K (.builtin "object.__class__")=some true) :
  ∀(H:Hp) (p dx:Addr) (fs:List (Str×V)),H p=some (L2.HO.ins C dx fs)->TyOf K H (.ref p) (.ref C):=λH p dx fs hp=>.ins hp k.cls k.tc n tk k.mo
theorem qif(n:PySem.W.specialIn K (.builtin "object.__class__") "__get__" = some (some (.builtin "getset_descriptor.__get__")))(tk:PySem.W.takesIn K (.builtin "object.__class__")=some true)(mW:mg "Within" = some (.ref cW))(mS:mg "Since" = some (.ref cS))
  (c t:Str) (b:Bool) (h:(pcs {}).sub c t=some b):∃C T,kap cW cS cI cB c=some C/\(∀H p dx fs,H p=some (L2.HO.ins C dx fs)->TyOf K H (.ref p) (.ref C))/\mg t=some (.ref T)/\PySem.W.kitOne K (.ref C) (.ref T)=some b:=by
 obtain⟨hr,⟨rfl,rfl⟩|⟨rfl,rfl⟩⟩:=qln h
 ·rcases qbW hr with rfl|rfl|rfl
  ·exact{cW,cW,rfl,qbX W S I B W.kl n tk,mW,W.iw}
  ·exact{cS,cW,rfl,qbX W S I B S.kl n tk,mW,S.iw}
  ·exact{cI,cW,rfl,qbX W S I B I.kl n tk,mW,I.iw}
 ·rcases qbW hr with rfl|rfl|rfl
  ·exact{cW,cS,rfl,qbX W S I B W.kl n tk,mS,W.is}
  ·exact{cS,cS,rfl,qbX W S I B S.kl n tk,mS,S.is}
  ·exact{cI,cS,rfl,qbX W S I B I.kl n tk,mS,I.is}
end
def Qt(K:Frag)(f:Addr)(n q:Str)(st:Stmt):Prop:=∃oc od kV dc pm an cd ct sl,K.lookup f=some ⟨oc,od,.func (PySem.W.fnOf n q (qR st) (qA st) (qh st) .none kV dc pm an cd ct),sl⟩/\PySem.W.codeIn K cd q=true/\PySem.W.keepIn K (.ref f)=true
noncomputable abbrev FG(K:Frag)(f:Addr)(n:Str)(st:Stmt):Prop:=PySem.W.nsIn K mainGlobals n=some (some (.ref f))/\Qt K f n n st
section
variable{K:Frag}{f:Addr}{n q:Str}{st:Stmt}{mg:PR}{h:Heap}
def Qt.fn(i:Qt K f n q st):∃fd,Fun K n q st f fd:=by let(oc,od,kV,dc,pm,an,cd,ct,sl,l,c,k):=i;exact{_,qfF l c k}
def Bd(n q:Str)(st:Stmt)(ps:List Str):Prop:=∀(kV doc pm:Value) (an:Option Addr) (cdv ct:Value) (us:List Value),us.length=ps.length->bindArgs (PySem.W.fnOf n q (qR st) (qA st) (qh st) .none kV doc pm an cdv ct) ⟨us,[]⟩=pure (ps.zip us)
def qlo(X:K.In h)(G:h.Ns mainGlobals mg)(a:PySem.W.nsIn K mainGlobals n=some (some (.ref f)))(i:Qt K f n n st){ps:List Str}(hp:J6 st=ps)(hb:Bd n n st ps):FnF K mg n st:=by let(fd,F):=i.fn;exact{f,fd,F,PySem.W.mg_of X G a,hp▸F.binds hb}
def yw(i:Qt K f n q st){ps:List Str}(hb:Bd n q st ps):∃fd,Fun K n q st f fd/\zg K fd ps []:=by let(fd,F):=i.fn;exact{fd,F,F.binds hb}
def qlp(i:Qt K f n n st)(hb:Bd n n st ["_law_script"]):∃fd,Fun K n n st f fd/\∀(s:Shared) (v:Value),BindsTo s fd ⟨[v],[]⟩ [("_law_script",v)]:=by let(oc,od,kV,dc,pm,an,cd,ct,sl,l,c,k):=i;exact{_,qfF l c k,λs v=>.of_eq (hb _ _ _ _ _ _ [v] rfl)}
end
section
variable{n q:Str}{st:Stmt}{a b c d e:Str}
def bd1(h:∀(kV doc pm:Value) (an:Option Addr) (cdv ct x:Value),bindArgs (PySem.W.fnOf n q (qR st) (qA st) (qh st) .none kV doc pm an cdv ct) ⟨[x],[]⟩=pure [(a,x)]):Bd n q st [a]:=λ_ _ _ _ _ _ us hl=>match us,hl with |[_],_=>h ..
def bd2(h:∀(kV doc pm:Value) (an:Option Addr) (cdv ct x y:Value),bindArgs (PySem.W.fnOf n q (qR st) (qA st) (qh st) .none kV doc pm an cdv ct) ⟨[x,y],[]⟩=pure [(a,x),(b,y)]):Bd n q st [a,b]:=λ_ _ _ _ _ _ us hl=>match us,hl with |[_,_],_=>h ..
def bd3(h:∀(kV doc pm:Value) (an:Option Addr) (cdv ct x y z:Value),bindArgs (PySem.W.fnOf n q (qR st) (qA st) (qh st) .none kV doc pm an cdv ct) ⟨[x,y,z],[]⟩=pure [(a,x),(b,y),(c,z)]):Bd n q st [a,b,c]:=λ_ _ _ _ _ _ us hl=>match us,hl with |[_,_,_],_=>h ..
def bd4(h:∀(kV doc pm:Value) (an:Option Addr) (cdv ct x y z u:Value),bindArgs (PySem.W.fnOf n q (qR st) (qA st) (qh st) .none kV doc pm an cdv ct) ⟨[x,y,z,u],[]⟩=pure [(a,x),(b,y),(c,z),(d,u)]):Bd n q st [a,b,c,d]:=λ_ _ _ _ _ _ us hl=>match us,hl with |[_,_,_,_],_=>h ..
def bd5(h:∀(kV doc pm:Value) (an:Option Addr) (cdv ct x y z u v:Value),bindArgs (PySem.W.fnOf n q (qR st) (qA st) (qh st) .none kV doc pm an cdv ct) ⟨[x,y,z,u,v],[]⟩=pure [(a,x),(b,y),(c,z),(d,u),(e,v)]):Bd n q st [a,b,c,d,e]:=λ_ _ _ _ _ _ us hl=>match us,hl with |[_,_,_,_,_],_=>h ..
end
inductive BDs:List (Str×Stmt)->Prop
 | nil:BDs []
 | cons {n st l ps}:J6 st=ps->Bd n n st ps->BDs l->BDs ((n,st)::l)
inductive FGs(K:Frag):List (Str×Stmt)->Prop
 | nil:FGs K []
 | cons {f n st l}:FG K f n st->FGs K l->FGs K ((n,st)::l)
inductive ZNs(K:Frag):List Str->Prop
 | nil:ZNs K []
 | cons {n l}:PySem.W.nsIn K mainGlobals n=some none->ZNs K l->ZNs K (n::l)
section
variable{K:Frag}{mg:PR}{h:Heap}
theorem FGs.all(X:K.In h)(G:h.Ns mainGlobals mg){l:List (Str×Stmt)}(a:FGs K l)(p:BDs l):AllF K mg l:=by
 induction a with
 |nil=>exact .nil
 |cons i _ ih=>
  cases p with
  |cons e b p=>exact .cons (qlo X G i.1 i.2 e b) (ih p)
theorem ZNs.all(X:K.In h)(G:h.Ns mainGlobals mg){l:List Str}(a:ZNs K l):∀f∈l,mg f=none:=by
 induction a with
 |nil=>exact nofun
 |cons i _ ih=>
  intro f hf;rcases List.mem_cons.mp hf with rfl|hf
  ·exact PySem.W.mg_none_of X G i
  ·exact ih f hf
end
end DG
namespace K62
open PySem PySem.W L2 DE DG
def qlq{l:OpenLaw}{w:World}{K:Frag}{h:Heap}{mg:PR}{fa cR cW cS cI cB f36 fiR fiW fiS fiI fiB fmw fmr fmp fml:Addr}{t0 t1 t2 t3 t4 t5 t6 t7:Tok}(X:K.In h)(G:h.Ns mainGlobals mg)(hfa:mg "law" = some (.ref fa))
  (aL:FG K f36 "law" (top 63))
  (a:FGs K pg.defs)
  (z:ZNs K qcW)
  (v0:nsIn K mainGlobals "GREATEST" = some (some (.int 1000000000 t0)))
  (v1:nsIn K mainGlobals "LETTERS" = some (some (.str "abcdefghijklmnopqrstuvwxyz" t1)))
  (v2:nsIn K mainGlobals "LONGEST_NAME" = some (some (.int 8 t2)))
  (v3:nsIn K mainGlobals "MOST_LANDS" = some (some (.int 6 t3)))
  (v4:nsIn K mainGlobals "GREATEST_WEIGHT" = some (some (.int 9 t4)))
  (v5:nsIn K mainGlobals "MOST_STAYS" = some (some (.int 60 t5)))
  (v6:nsIn K mainGlobals "MOST_RULES" = some (some (.int 8 t6)))
  (v7:nsIn K mainGlobals "MOST_PAPERS" = some (some (.int 12 t7)))
  (ncR:nsIn K mainGlobals "Rule" = some (some (.ref cR)))
  (ncW:nsIn K mainGlobals "Within" = some (some (.ref cW)))
  (ncS:nsIn K mainGlobals "Since" = some (some (.ref cS)))
  (ncI:nsIn K mainGlobals "InRow" = some (some (.ref cI)))
  (ncB:nsIn K mainGlobals "Book" = some (some (.ref cB)))
  (inR:findIn K (.ref cR) "__init__" = some (some (.ref fiR)))
  (inW:findIn K (.ref cW) "__init__" = some (some (.ref fiW)))
  (inS:findIn K (.ref cS) "__init__" = some (some (.ref fiS)))
  (inI:findIn K (.ref cI) "__init__" = some (some (.ref fiI)))
  (inB:findIn K (.ref cB) "__init__" = some (some (.ref fiB)))
  (tmr:findIn K (.ref cB) "rules" = some (some (.ref fmr)))
  (tml:findIn K (.ref cB) "lifted" = some (some (.ref fml)))
  (tmp:findIn K (.ref cB) "papers" = some (some (.ref fmp)))
  (tw:findIn K (.ref cW) "weight" = some (some (.ref fmw)))
  (rW:Kr K fmw cW cW cS "span" true)
  (rS:Kr K fmw cS cW cS "leave" false)
  (rI:Kr K fmw cI cW cS "leave" false)
  (rB:Kb K fmr fml fmp cB)
  (hiR:Qt K fiR "__init__" "Rule.__init__" (mem 25 0))
  (hiW:Qt K fiW "__init__" "Within.__init__" (mem 26 0))
  (niW:isFn K (.ref fiW)=true)
  (hiS:Qt K fiS "__init__" "Since.__init__" (mem 27 0))
  (niS:isFn K (.ref fiS)=true)
  (hiI:Qt K fiI "__init__" "InRow.__init__" (mem 28 0))
  (niI:isFn K (.ref fiI)=true)
  (hiB:Qt K fiB "__init__" "Book.__init__" (mem 53 0))
  (niB:isFn K (.ref fiB)=true)
  (hmw:Qt K fmw "weight" "Rule.weight" (mem 25 1))
  (hmr:Qt K fmr "rules" "Book.rules" (mem 53 1))
  (hmp:Qt K fmp "papers" "Book.papers" (mem 53 2))
  (hml:Qt K fml "lifted" "Book.lifted" (mem 53 3))
  (mkW:makesIn K cW=true)
  (kcW:keepIn K (.ref cW)=true)
  (mkS:makesIn K cS=true)
  (kcS:keepIn K (.ref cS)=true)
  (mkI:makesIn K cI=true)
  (kcI:keepIn K (.ref cI)=true)
  (mkB:makesIn K cB=true)
  (kcB:keepIn K (.ref cB)=true)
  (cfR:ClsFn K cR "__init__" fiR)
  (cfS:ClsFn K cS "__init__" fiS)
  (og:specialIn K (.builtin "object.__class__") "__get__" = some (some (.builtin "getset_descriptor.__get__")))
  (ot:takesIn K (.builtin "object.__class__")=some true)
  :
  ∃fd:FuncData,(∀(s:Shared) (v:Value),BindsTo s fd ⟨[v],[]⟩ [("_law_script",v)])/\∀base:Heap,K.In base->base.Ns mainGlobals mg->FnOk l.prog w K mg base CX0 20 fa fd ["_law_script"] (spL (kap cW cS cI cB) K pg 20):=by
 have e:=hfa.symm.trans (mg_of X G aL.1);cases e;let(dL,FL,bL):=qlp aL.2 ((bd1 λ_ _ _ _ _ _ _ =>rfl));have z:=z.all X G;let(diR,FiR,biR):=yw hiR (ps:=["self","lands","most"]) ((bd3 λ_ _ _ _ _ _ _ _ _ =>rfl));let(diW,FiW,biW):=yw hiW (ps:=["self","lands","most","span"]) ((bd4 λ_ _ _ _ _ _ _ _ _ _ =>rfl));let(diS,FiS,biS):=yw hiS (ps:=["self","lands","most","leave"]) ((bd4 λ_ _ _ _ _ _ _ _ _ _ =>rfl));let(diI,FiI,biI):=yw hiI (ps:=["self","lands","most"]) ((bd3 λ_ _ _ _ _ _ _ _ _ =>rfl));let(diB,FiB,biB):=yw hiB (ps:=["self","rules","papers"]) ((bd3 λ_ _ _ _ _ _ _ _ _ =>rfl));let(dmw,Fmw,bmw):=yw hmw (ps:=["self","land"]) ((bd2 λ_ _ _ _ _ _ _ _ =>rfl));let(dmr,Fmr,bmr):=yw hmr (ps:=["self"]) ((bd1 λ_ _ _ _ _ _ _ =>rfl));let(dmp,Fmp,bmp):=yw hmp (ps:=["self"]) ((bd1 λ_ _ _ _ _ _ _ =>rfl));let(dml,Fml,bml):=yw hml (ps:=["self","number"]) ((bd2 λ_ _ _ _ _ _ _ _ =>rfl));have mcR:=mg_of X G ncR;have mcW:=mg_of X G ncW;have mcS:=mg_of X G ncS;have mcI:=mg_of X G ncI;have mcB:=mg_of X G ncB;have tx:Tx (kap cW cS cI cB) K mg:={z "tuple" (3:),z "list" (3:),z "len" (3:),{_,mg_of X G v0},qgk rW rS rI rB,qdZ rW rS rI rB};refine{dL,bL,λbase _ _=>qkj (k:=19) (st:=top 63) ?ok FL (4:) (4:)}
 case ok=>
 refine { fn:=a.all X G ?q,blt:=z,gl:=?g,cls:=qgk rW rS rI rB,flds:=qdZ rW rS rI rB,mts:=?m,mks:=?k,subs:=qif rW rS rI rB og ot mcW mcS }
 case q=>repeat first|exact .nil |refine .cons (4:) (bd2 λ_ _ _ _ _ _ _ _ =>rfl) ?_ |refine .cons (4:) (bd3 λ_ _ _ _ _ _ _ _ _ =>rfl) ?_ |refine .cons (4:) (bd1 λ_ _ _ _ _ _ _ =>rfl) ?_ |refine .cons (4:) (bd4 λ_ _ _ _ _ _ _ _ _ _ =>rfl) ?_ |refine .cons (4:) (bd5 λ_ _ _ _ _ _ _ _ _ _ _ =>rfl) ?_ |refine .cons (4:) (bd6 λ_ _ _ _ _ _ _ _ _ _ _ _ =>rfl) ?_
 case g=>
  intro x d hd;unfold pg at hd;dsimp only at hd
  repeat (split at hd;· rename_i hx;cases hd;rw[hx];first |exact{.int _,_,mg_of X G (by assumption),{_,rfl},λ_=>by simp![Rep]} |exact{.str _,_,mg_of X G (by assumption),{_,rfl},λ_=>by simp![Rep]})
  cases hd
 case m=>
  intro c x f hm;rcases qmR hm with ⟨hr,rfl,rfl⟩|⟨rfl,rfl,rfl⟩|⟨rfl,rfl,rfl⟩|⟨rfl,rfl,rfl⟩
  ·rcases qbW hr with rfl|rfl|rfl
   ·exact{cW,fmw,_,mem 25 1,"weight",rfl,rW.wt,(4:),(4:),Fmw,bmw}
   ·exact{cS,fmw,_,mem 25 1,"weight",rfl,rS.wt,(4:),(4:),Fmw,bmw}
   ·exact{cI,fmw,_,mem 25 1,"weight",rfl,rI.wt,(4:),(4:),Fmw,bmw}
  ·exact{cB,fmr,_,mem 53 1,"rules",rfl,rB.m1,(4:),(4:),Fmr,bmr}
  ·exact{cB,fml,_,mem 53 3,"lifted",rfl,rB.m2,(4:),(4:),Fml,bml}
  ·exact{cB,fmp,_,mem 53 2,"papers",rfl,rB.m3,(4:),(4:),Fmp,bmp}
 case k=>
  intro P wd base k ih f hf
  by_cases hk:k < 12
  ·exact .inl λargs=>if_pos hk
  let(j,rfl):∃j,k=j+12:={k - 12,by omega};right
  have hf:f = "Within"\/f = "Since"\/f = "InRow"\/f = "Book":=by
   have hf:((["Within","Since","InRow","Book"]:List Str).contains f)=true:=hf
   simpa using hf
  rcases hf with rfl|rfl|rfl|rfl
  ·exact{cW,fiW,_,_,_,⟨mkW,inW,niW,kcW⟩,FnOk.lift ((Qp (j:=j+9) tx FiR biR mcR cfR (ih (j+9) (by omega)) (ih (j+10) (by omega)) (qap (j+4)) (qap (j+5))).1 FiW),mcW,biW,by omega,Qn (c:="Within") rfl rfl (λa _ _=>qfC (k:=j+12) (f:="Within") (args:=a)) λargs r=>qoc (j:=j)}
  ·exact{cS,fiS,_,_,_,⟨mkS,inS,niS,kcS⟩,FnOk.lift ((Qp (j:=j+9) tx FiR biR mcR cfR (ih (j+9) (by omega)) (ih (j+10) (by omega)) (qap (j+4)) (qap (j+5))).2 FiS),mcS,biS,by omega,Qn (c:="Since") rfl rfl (λa _ _=>qfC (k:=j+12) (f:="Since") (args:=a)) λargs r=>qod (j:=j)}
  ·exact{cI,fiI,_,_,_,⟨mkI,inI,niI,kcI⟩,FnOk.lift (qdW (j:=j+8) tx FiI FiS biS mcS cfS FiR biR mcR cfR (ih (j+8) (by omega)) (ih (j+9) (by omega)) (qap (j+3)) (qap (j+4))),mcI,biI,by omega,Qn (c:="InRow") rfl rfl (λa _ _=>qfC (k:=j+12) (f:="InRow") (args:=a)) λargs r=>qoe (j:=j)}
  ·exact{cB,fiB,_,_,_,⟨mkB,inB,niB,kcB⟩,FnOk.lift (qfB (j:=j+10) tx FiB (ih (j+10) (by omega)) (qap (j+5))),mcB,biB,by omega,Qn (c:="Book") rfl rfl (λa _ _=>qfC (k:=j+12) (f:="Book") (args:=a)) λargs r=>qof (j:=j)}
def qog{l:PySem.W.OpenLaw}{q:Program}{loose:List Str}{XP:(Str->Option Value)->Heap->Prop}{YP:World->Heap->Prop}{d:DefRec}{K:Params->Frag}{U:KC}(hn:l.most=some 63)(hdf:d.params.defaults=[])
  (hY:∀(w:World) (h:Heap),YP w h->(K w.params).In h)
  (F:∀(w:World) (mg:PR) (fa:Addr) (h:Heap),(K w.params).In h->h.Ns mainGlobals mg->mg d.name=some (.ref fa)->
   ∃fd:FuncData,(∀(s:Shared) (u:Value),BindsTo s fd ⟨[u],[]⟩ [("_law_script",u)])/\∀base:Heap,(K w.params).In base->base.Ns mainGlobals mg->FnOk l.prog w (K w.params) mg base CX0 20 fa fd ["_law_script"] (spL U (K w.params) pg 20)) :
  PySem.W.WalkO q loose XP YP l.row.toRowW d [] (λf vs=>PySem.call f vs):=
 L2.qgI (n:=63) (k:=20) (x:="_law_script") (CX:=λ_=>CX0) (sp:=λw=>spL U (K w.params) pg 20) hn (2:) hdf ⟨rfl,by decide,by decide⟩ hY F (λ_ _ a ns hl _ hS=>qkk hS (qfw ns hl)) λ_ _ _ _ _ z=>z
end K62
open PySem PySem.W PyProof.Rows
set_option maxHeartbeats 0 in
theorem PySem.Challenge.cw_daysgate_k62_whole_changed_by_great_numb_holds : PySem.Challenge.rw_daysgate_k62_whole_changed_by_great_numb.Holds := by
 w_on;refine holds_law saidX λsaid=>?_
 refine holds_open (q:=K62.Hq) (loose:=[]) (Xt:=K62.Hx) (XP:=XL K62.Hq []) (Yf:=λs=>K62.Has.map s.heap.get?) (Ya:=λw=>(K62.HK w.params).map λp=>some p.2) (YP:=InK K62.HK) (N:=8076) K62.qmQ (InK.of K62.HKe) InK.keeps (λs e=>xl_of s (Bool.and_eq_true_iff.mp e).1) XL.keeps (by rfl) (by rfl) (by rfl) (λs e=>recFacts_of (Bool.and_eq_true_iff.mp e).2) (by rfl) (by first|assumption|decide+kernel) (3:) ⟨rfl,rfl,rfl,rfl,rfl,(3:)⟩ ?hw ?hc
 (case hw=>w_witness2)
 k_fill
 refine K62.qog (l:=PySem.Challenge.rw_daysgate_k62_whole_changed_by_great_numb) (U:=(DG.kap (213:) (239:) (265:) (420:))) rfl rfl (λw h Y=>Y) ?F
 case F=>
  intro w mg fa h KX G hmg
  refine' K62.qlq KX G hmg ?_ ?_ ?_ ?_ ?_ ?_ ?_ ?_ ?_ ?_ ?_ ?_ ?_ ?_ ?_ ?_ ?_ ?_ ?_ ?_ ?_ ?_ ?_ ?_ ?_ ?_ ?_ ?_ ?_ ?_ ?_ ?_ ?_ ?_ ?_ ?_ ?_ ?_ ?_ ?_ ?_ ?_ ?_ ?_ ?_ ?_ ?_ ?_ ?_ ?_ ?_ ?_ ?_ ?_
  all_goals try first|k_is|exact{by k_is,by unfold DG.Qt;exact{_,_,_,_,_,_,_,_,_,by k_is,by k_is,by k_is}}|(unfold DG.Qt;exact{_,_,_,_,_,_,_,_,_,by k_is,by k_is,by k_is})|(refine{{{?_,?_,?_,?_},?_,?_},?_,?_,?_,{?_,?_,?_},?_,?_}<;>first|k_is|kit_is|(unfold L2.qV;k_is))|(refine{{{?_,?_,?_,?_},?_,?_},?_,?_,{?_,?_,?_},{?_,?_,?_},?_,?_,?_}<;>first|k_is|(unfold L2.qV;k_is))|(refine{?_,?_,?_,?_}<;>k_is)|kit_is|(repeat first|exact .nil|refine .cons ⟨by k_is,by unfold DG.Qt;exact{_,_,_,_,_,_,_,_,_,by k_is,by k_is,by k_is}⟩ ?_|refine .cons (by k_is) ?_)
